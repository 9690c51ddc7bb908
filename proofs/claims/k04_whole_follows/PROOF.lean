import PyProof.Rows.All
import Wide.All
import OpenK.AllK
import Wide.FinOn
import Lean
import PyProof.EqAt
import PyProof.EqKinds
import PyProof.TupleCall
import PySem.Challenge.RW_sayhall_k04_whole_follows
set_option bootstrap.genMatcherCode false
noncomputable section
set_option Elab.async false
set_option linter.all false
set_option maxRecDepth 100000
abbrev Ct := List PySem.PyData
abbrev Cu := PySem.Str -> Option PySem.Value
abbrev Cv := List (PySem.Addr × PySem.Obj)
abbrev Cw := PySem.Value -> PySem.Shared -> Prop
namespace L2
open PySem PySem.Spec PyProof.Rows
abbrev Key := Sum Int Str
noncomputable def Eo : Key -> Value -> Bool
 | .inl k, v => Value.isInt k v
 | .inr x, v => Value.isStrOf x v
noncomputable def keyH (w : World) : Key -> Int
 | .inl k => hashInt k
 | .inr x => hashStr w x
theorem aM : ∀ {k : Key} {v : Value}, Eo k v = true -> (∃ i t, k = Sum.inl i /\ v = Value.int i t) \/ (∃ x t, k = Sum.inr x /\ v = Value.str x t)
 | .inl i, v, h => by
  obtain ⟨t, e⟩ := Value.isInt_shape (k := i) (v := v) h
  exact .inl ⟨i, t, rfl, e⟩
 | .inr x, v, h => by
  obtain ⟨t, e⟩ := Value.isStrOf_shape (x := x) (v := v) h
  exact .inr ⟨x, t, rfl, e⟩
theorem rh (i : Int) (t : Tok) : Eo (.inl i) (.int i t) = true := by simp [Eo, Value.isInt]
theorem rj (x : Str) (t : Tok) : Eo (.inr x) (.str x t) = true := by simp [Eo, Value.isStrOf]
theorem xn (a b : Int) : decide ((Sum.inl a : Key) = Sum.inl b) = (a == b) := by
 by_cases e : a = b
 ·subst e; simp
 ·have h : ¬ (Sum.inl a : Key) = Sum.inl b := fun q => e (Sum.inl.inj q)
  rw [decide_eq_false h]
  exact (beq_eq_false_iff_ne.mpr e).symm
theorem xp (a b : Str) : decide ((Sum.inr a : Key) = Sum.inr b) = decide (a = b) := by
 by_cases e : a = b
 ·subst e; simp
 ·have h : ¬ (Sum.inr a : Key) = Sum.inr b := fun q => e (Sum.inr.inj q)
  rw [decide_eq_false h, decide_eq_false e]
theorem xq (a : Int) (b : Str) : decide ((Sum.inl a : Key) = Sum.inr b) = false := decide_eq_false (fun q => nomatch q)
theorem xr (a : Str) (b : Int) : decide ((Sum.inr a : Key) = Sum.inl b) = false := decide_eq_false (fun q => nomatch q)
noncomputable def D3 (prog : Program) (w : World) : PySem.KeyKind prog w Key where
 is := Eo
 hash := keyH w
 inj := fun v a b ha hb => by
  rcases aM ha with ⟨i, t, rfl, rfl⟩ | ⟨x, t, rfl, rfl⟩
  ·rcases aM hb with ⟨j, u, rfl, e⟩ | ⟨y, u, rfl, e⟩
   ·injection e with e1 _; rw [e1]
   ·exact nomatch e
  ·rcases aM hb with ⟨j, u, rfl, e⟩ | ⟨y, u, rfl, e⟩
   ·exact nomatch e
   ·injection e with e1 _; rw [e1]
 byValue := fun k v h => by
  rcases aM h with ⟨i, t, rfl, rfl⟩ | ⟨x, t, rfl, rfl⟩ <;> rfl
 pyHash := fun hv h => by
  rcases aM hv with ⟨i, t, rfl, rfl⟩ | ⟨x, t, rfl, rfl⟩
  ·exact wpAny_pyHash_int h
  ·exact wpAny_pyHash_str h
 eqBool := fun hu hv h => by
  rcases aM hu with ⟨i, t, rfl, rfl⟩ | ⟨x, t, rfl, rfl⟩
  ·rcases aM hv with ⟨j, u, rfl, rfl⟩ | ⟨y, u, rfl, rfl⟩
   ·rw [xn] at h; exact wpAny_eqBool_int h
   ·rw [xq] at h; exact SeqAt.EqAt.int_str i t y u _ _ _ _ h
  ·rcases aM hv with ⟨j, u, rfl, rfl⟩ | ⟨y, u, rfl, rfl⟩
   ·rw [xr] at h; exact SeqAt.EqAt.str_int x t j u _ _ _ _ h
   ·rw [xp] at h; exact wpAny_eqBool_str h
 «strs» := fun k x t v h => by
  rcases aM h with ⟨i, u, rfl, e⟩ | ⟨y, u, rfl, e⟩
  ·exact nomatch e
  ·injection e with e1 _
   subst e1
   cases v <;> rfl
theorem n4 (prog : Program) (w : World) (i : Int) (t : Tok) : (D3 prog w).is (.inl i) (.int i t) = true := rh i t
theorem n5 (prog : Program) (w : World) (x : Str) (t : Tok) : (D3 prog w).is (.inr x) (.str x t) = true := rj x t
inductive V where
 | non | bl (b : Bool) | int (i : Int) | str (x : Str) | byt (b : Array UInt8) | flt (b : UInt64) | ref (a : Addr) | ty (n : String)
 deriving DecidableEq
noncomputable def RelV : V -> Value -> Prop
 | .non, u => u = Value.none
 | .bl b, u => u = Value.bool b
 | .int i, u => ∃ t, u = Value.int i t
 | .str x, u => ∃ t, u = Value.str x t
 | .byt b, u => ∃ t, u = Value.bytes b t
 | .flt b, u => ∃ t, u = Value.float b t
 | .ref a, u => u = Value.ref a
 | .ty n, u => u = Value.type n
abbrev Vals : List V -> List Value -> Prop := Paired RelV
theorem Vals.length {xs : List V} {us : List Value} (r : Vals xs us) : xs.length = us.length := Paired.length r
theorem Vals.get : ∀ {xs : List V} {us : List Value} {i : Nat} {x : V}, Vals xs us -> xs[i]? = some x -> ∃ u, us[i]? = some u /\ RelV x u
 | _, _, _, _, .nil, e => by simp at e
 | _, _, 0, _, .cons r _, e => by simp at e; subst e; exact ⟨_, rfl, r⟩
 | _, _, i + 1, x, .cons _ t, e => by
  obtain ⟨u, h1, h2⟩ := Vals.get (i := i) (x := x) t (by simpa using e)
  exact ⟨u, by simpa using h1, h2⟩
theorem Vals.set {x : V} {u : Value} (r : RelV x u) : ∀ {xs : List V} {us : List Value} (i : Nat), Vals xs us -> Vals (xs.set i x) (us.set i u)
 | _, _, _, .nil => .nil
 | _, _, 0, .cons _ t => .cons r t
 | _, _, i + 1, .cons q t => .cons q (Vals.set r i t)
theorem Vals.append : ∀ {xs ys : List V} {us ws : List Value}, Vals xs us -> Vals ys ws -> Vals (xs ++ ys) (us ++ ws)
 | _, _, _, _, .nil, s => s
 | _, _, _, _, .cons r t, s => .cons r (Vals.append t s)
theorem Vals.take : ∀ {xs : List V} {us : List Value} (n : Nat), Vals xs us -> Vals (xs.take n) (us.take n)
 | _, _, 0, _ => .nil
 | _, _, _ + 1, .nil => .nil
 | _, _, n + 1, .cons r t => .cons r (Vals.take n t)
theorem Vals.drop : ∀ {xs : List V} {us : List Value} (n : Nat), Vals xs us -> Vals (xs.drop n) (us.drop n)
 | _, _, 0, r => r
 | _, _, _ + 1, .nil => .nil
 | _, _, n + 1, .cons _ t => Vals.drop n t
noncomputable def RelO : Option V -> Option Value -> Prop
 | some v, some u => RelV v u
 | none, none => True
 | _, _ => False
noncomputable def KV {κ : Type} : List (κ × V) -> List (κ × Value) -> Prop := Paired fun (p : κ × V) (q : κ × Value) => p.1 = q.1 /\ RelV p.2 q.2
noncomputable def kV : Key -> V
 | .inl i => .int i
 | .inr x => .str x
inductive HO where
 | lst (xs : List V)
 | tup (xs : List V)
 | dK (kvs : List (Key × V)) | dT (kvs : List (List Key × V))
 | set (S : Int -> Bool) (n : Nat)
 | ins (C dx : Addr) (fs : List (Str × V))
 | own (x : Addr)
 | xd (fs : List (Str × V))
 | met (f x : Addr)
 | rng (lo hi : Int)
 | frz (o : Obj) (u : HO)
 | tbl (ps : Array Value)
 | ext (φ : Heap -> Prop)
abbrev Hp := Addr -> Option HO
noncomputable def upd (H : Hp) (a : Addr) (o : HO) : Hp := fun b => if b = a then some o else H b
theorem ao {H : Hp} {a : Addr} {o : HO} : upd H a o a = some o := by unfold upd; rw [if_pos rfl]
theorem ag {H : Hp} {a b : Addr} {o : HO} (h : b ≠ a) : upd H a o b = H b := by unfold upd; rw [if_neg h]
theorem kP {H : Hp} {a b : Addr} {o u : HO} (h : H a = some o) (h' : H b = some u) (d : o ≠ u) : a ≠ b := by
 intro e; subst e; rw [h] at h'; exact d (Option.some.inj h')
theorem aq {H : Hp} {a b : Addr} {o : HO} (h : H a = some o) (h' : H b = none) : a ≠ b := by
 intro e; subst e; rw [h] at h'; cases h'
section
variable (P : Program) (w : World)
noncomputable def D1 (H : Hp) (h : Heap) (a : Addr) : HO -> Prop
 | .lst xs => xs.length <= sizeLine /\ ∃ (its : List Value) (n : Nat), Vals xs its /\ h.get? a = some { cls := .type "list", data := .seq its.toArray n }
 | .tup xs => xs.length <= sizeLine /\ ∃ its : List Value, Vals xs its /\ IsTup h a its.toArray
 | .dK kvs => kvs.length <= sizeLine /\ (a == sysModules) = false /\ ∃ vs, KV kvs vs /\ h.DictOf (D3 P w) a vs
 | .dT kvs => kvs.length <= sizeLine /\ (a == sysModules) = false /\ ∃ xs : List (List Key × Addr × Value),
   Paired (fun (p : List Key × V) (q : List Key × Addr × Value) => p.1 = q.1 /\ H q.2.1 = some (.tup (p.1.map kV)) /\ RelV p.2 q.2.2) kvs xs /\
   ∃ o es ep, h.get? a = some o /\ o.ExactDict /\ o.data = .dict es ep /\ es.toList = xs.map (entryOfKey (tupleKind (D3 P w))) /\ (xs.map (·.1)).Nodup
 | .set S n => h.SetOf (intKind P w) a S n
 | .ins C dx fs => H dx = some (.own a) /\ fs.length <= 1000 /\ dx ≠ a /\ h.get? a = some (W.instObj C dx) /\
   ∃ mA, h.Ns1 dx mA /\ (∀ f, RelO (fs.lookup f) (mA f)) /\ PySem.Within mA (fs.map (·.1))
 | .own _ => ∃ o, h.get? a = some o
 | .xd fs => ∃ mA, h.Ns1 a mA /\ ∀ f, RelO (fs.lookup f) (mA f)
 | .rng lo hi => ∃ t u v, h.get? a = some { cls := .type "range", data := .fields #[.int lo t, .int hi u, .int 1 v] }
 | .frz o u => h.get? a = some o /\ D1 H h a u
 | .tbl ps => h.get? a = some { cls := .none, data := .fields ps }
 | .met f x => h.get? a = some (W.methodObj (.ref f) (.ref x))
 | .ext φ => φ h /\ (∃ o, h.get? a = some o) /\ ∀ h1 h2 : Heap, φ h1 -> (∀ o, h1.get? a = some o -> h2.get? a = some o) -> φ h2
noncomputable def HOk (H : Hp) (h : Heap) : Prop := ∀ a o, H a = some o -> D1 P w H h a o
end
section
variable {P : Program} {w : World} {H H' : Hp} {h h' : Heap} {a : Addr} {o : HO}
theorem D1.lt (x : D1 P w H h a o) : a < h.objs.size := by
 cases o with
 | lst xs => obtain ⟨_, _, _, _, e⟩ := x; exact Heap.lt_size e
 | tup xs => obtain ⟨_, _, _, p⟩ := x; exact p.lt
 | dK kvs => obtain ⟨_, _, _, _, o, _, _, e, _⟩ := x; exact Heap.lt_size e
 | dT kvs => obtain ⟨_, _, _, _, o, _, _, e, _⟩ := x; exact Heap.lt_size e
 | set S n => obtain ⟨o, _, _, _, e, _⟩ := x; exact Heap.lt_size e
 | ins C dx fs => obtain ⟨_, _, _, e, _⟩ := x; exact Heap.lt_size e
 | own y => obtain ⟨_, e⟩ := x; exact Heap.lt_size e
 | xd fs => obtain ⟨_, ⟨_, _, _, e, _⟩, _⟩ := x; exact Heap.lt_size e
 | rng lo hi => obtain ⟨_, _, _, e⟩ := x; exact Heap.lt_size e
 | frz ob u => obtain ⟨e, _⟩ := x; exact Heap.lt_size e
 | tbl ps => exact Heap.lt_size (show h.get? a = some _ from x)
 | met f y => exact Heap.lt_size (show h.get? a = some _ from x)
 | ext φ => obtain ⟨_, ⟨_, e⟩, _⟩ := x; exact Heap.lt_size e
theorem Paired.mapP {α β : Type} {F G : α -> β -> Prop} : ∀ {l₁ : List α} {l₂ : List β}, Paired F l₁ l₂ -> (∀ a b, F a b -> G a b) -> Paired G l₁ l₂
 | _, _, .nil, _ => .nil
 | _, _, .cons r t, f => .cons (f _ _ r) (Paired.mapP t f)
theorem D1.stay (x : D1 P w H h a o) (k : ∀ b u, (b = a \/ H b = some (.own a)) -> h.get? b = some u -> h'.get? b = some u)
  (ho : ∀ b, H b = some (.own a) -> H' b = some (.own a)) (ht : ∀ b xs, H b = some (.tup xs) -> H' b = some (.tup xs)) : D1 P w H' h' a o := by
 induction o with
 | lst xs => obtain ⟨z, its, n, r, e⟩ := x; exact ⟨z, its, n, r, k _ _ (.inl rfl) e⟩
 | tup xs => obtain ⟨z, its, r, ob, e, c⟩ := x; exact ⟨z, its, r, ob, k _ _ (.inl rfl) e, c⟩
 | dK kvs => obtain ⟨z, y, vs, r, ob, es, ep, e, c⟩ := x; exact ⟨z, y, vs, r, ob, es, ep, k _ _ (.inl rfl) e, c⟩
 | dT kvs =>
  obtain ⟨z, y, xs, r, ob, es, ep, e, c⟩ := x
  exact ⟨z, y, xs, Paired.mapP r fun p q z => ⟨z.1, ht _ _ z.2.1, z.2.2⟩, ob, es, ep, k _ _ (.inl rfl) e, c⟩
 | set S n => obtain ⟨ob, es, ep, t, e, c⟩ := x; exact ⟨ob, es, ep, t, k _ _ (.inl rfl) e, c⟩
 | ins C dx fs =>
  obtain ⟨d, z, ne, e, mA, ⟨od, es, ep, e2, c⟩, r⟩ := x
  exact ⟨ho _ d, z, ne, k _ _ (.inl rfl) e, mA, ⟨od, es, ep, k _ _ (.inr d) e2, c⟩, r⟩
 | own y => obtain ⟨ob, e⟩ := x; exact ⟨ob, k _ _ (.inl rfl) e⟩
 | xd fs => obtain ⟨mA, ⟨od, es, ep, e, c⟩, r⟩ := x; exact ⟨mA, ⟨od, es, ep, k _ _ (.inl rfl) e, c⟩, r⟩
 | rng lo hi => obtain ⟨t, u, v, e⟩ := x; exact ⟨t, u, v, k _ _ (.inl rfl) e⟩
 | frz ob u ih => obtain ⟨e, q⟩ := x; exact ⟨k _ _ (.inl rfl) e, ih q⟩
 | tbl ps =>
  have e : h.get? a = some { cls := .none, data := .fields ps } := x
  show h'.get? a = some { cls := .none, data := .fields ps }
  exact k a _ (.inl rfl) e
 | met f y =>
  have e : h.get? a = some (W.methodObj (.ref f) (.ref y)) := x
  show h'.get? a = some (W.methodObj (.ref f) (.ref y))
  exact k a _ (.inl rfl) e
 | ext φ => obtain ⟨p, ⟨o, e⟩, st⟩ := x; exact ⟨st _ _ p fun o q => k _ _ (.inl rfl) q, ⟨o, k _ _ (.inl rfl) e⟩, st⟩
theorem HOk.lt (x : HOk P w H h) (e : H a = some o) : a < h.objs.size := (x a o e).lt
theorem HOk.fresh (x : HOk P w H h) (e : h.objs.size <= a) : H a = none := by
 cases q : H a with
 | none => rfl
 | some u => exact absurd (Nat.lt_of_lt_of_le (x.lt q) e) (Nat.lt_irrefl _)
theorem HOk.kept (x : HOk P w H h) (k : ∀ b u, h.get? b = some u -> h'.get? b = some u) : HOk P w H h' := fun a o e =>
 (x a o e).stay (fun b u _ q => k b u q) (fun _ q => q) fun _ _ q => q
theorem HOk.laid (x : HOk P w H h) (k : ∀ b u, h.get? b = some u -> h'.get? b = some u) (hp : h.objs.size <= a) (new : D1 P w (upd H a o) h' a o) : HOk P w (upd H a o) h' := fun b u e => by
 have hn := x.fresh hp
 by_cases hb : b = a
 ·subst hb; rw [ao] at e; cases e; exact new
 ·rw [ag hb] at e
  exact (x b u e).stay (fun c v _ q => k c v q) (fun c q => by rw [ag (aq q hn)]; exact q) fun c xs q => by rw [ag (aq q hn)]; exact q
end
noncomputable def Rd (H : Hp) (a : Addr) (u : HO) : Prop := H a = some u \/ ∃ o, H a = some (.frz o u)
theorem Rd.of {H : Hp} {a : Addr} {u : HO} (h : H a = some u) : Rd H a u := .inl h
theorem Rd.ok {P : Program} {w : World} {H : Hp} {h : Heap} {a : Addr} {u : HO} (r : Rd H a u) (x : HOk P w H h) : D1 P w H h a u := by
 rcases r with r | ⟨o, r⟩
 ·exact x a u r
 ·obtain ⟨_, q⟩ := x a _ r
  exact q
noncomputable def Mut : Option HO -> Prop
 | some (.lst _) => True
 | some (.dK _) => True
 | some (.dT _) => True
 | some (.set _ _) => True
 | some (.ins _ _ _) => True
 | some (.ext _) => True
 | _ => False
section
variable {P : Program} {w : World} {H : Hp} {h h' : Heap} {x e : Addr} {o' : HO}
theorem HOk.write (ok : HOk P w H h) (mu : Mut (H x)) (he : e = x \/ H e = some (.own x)) (k : ∀ b u, b ≠ e -> h.get? b = some u -> h'.get? b = some u) (heo : ∃ u, h'.get? e = some u)
  (new : D1 P w (upd H x o') h' x o') : HOk P w (upd H x o') h' := fun b u q => by
 have nown : ∀ c y, H c = some (.own y) -> c ≠ x := fun c y r z => by subst z; rw [r] at mu; exact mu
 have ntup : ∀ c xs, H c = some (.tup xs) -> c ≠ x := fun c xs r z => by subst z; rw [r] at mu; exact mu
 by_cases hb : b = x
 ·subst hb; rw [ao] at q; cases q; exact new
 ·rw [ag hb] at q
  by_cases hbe : b = e
  ·have q' : H b = some (.own x) := by
    rcases he with z | z
    ·exact absurd (hbe.trans z) hb
    ·rw [hbe]; exact z
   rw [q] at q'; cases q'
   obtain ⟨v, hv⟩ := heo
   exact ⟨v, by rw [hbe]; exact hv⟩
  ·refine (ok b u q).stay (fun c v hc r => k c v ?_ r) (fun c r => by rw [ag (nown c b r)]; exact r) fun c xs r => by rw [ag (ntup c xs r)]; exact r
   rcases hc with rfl | hc
   ·exact hbe
   ·rintro rfl
    rcases he with z | z
    ·exact nown c b hc z
    ·rw [hc] at z; cases z; exact hb rfl
end
structure Un (fs ex : List Addr) (H H' : Hp) (h h' : Heap) : Prop where
 keep : ∀ b o, h.get? b = some o -> H b = none -> b ∉ fs -> b ∉ ex -> h'.get? b = some o
 slot : ∀ b o, h.get? b = some o -> H b = none -> b ∈ fs -> b ∉ ex -> ∃ sl, h'.get? b = some { o with slots := sl }
 free : ∀ b o, h.get? b = some o -> H b = none -> b ∉ ex -> H' b = none
 there : ∀ b o, h.get? b = some o -> b ∉ ex -> ∃ o', h'.get? b = some o'
 tups : ∀ b xs, H b = some (.tup xs) -> H' b = some (.tup xs)
 frzs : ∀ b o u, H b = some (.frz o u) -> H' b = some (.frz o u)
 tbls : ∀ b ps, H b = some (.tbl ps) -> ∃ more, H' b = some (.tbl (ps ++ more))
section
variable {fs fs' ex ex' : List Addr} {H H1 H2 : Hp} {h h1 h2 h' : Heap} {a x e : Addr} {o : HO}
theorem Un.any (u : Un fs ex H H1 h h1) {b : Addr} {ob : Obj} (q : h.get? b = some ob) (n : H b = none) (hx : b ∉ ex) : ∃ sl, h1.get? b = some { ob with slots := sl } := by
 by_cases hb : b ∈ fs
 ·exact u.slot b ob q n hb hx
 ·exact ⟨ob.slots, u.keep b ob q n hb hx⟩
theorem Un.trans (a : Un fs ex H H1 h h1) (b : Un fs ex H1 H2 h1 h2) : Un fs ex H H2 h h2 where
 keep := fun c ob q n hc hx => b.keep c ob (a.keep c ob q n hc hx) (a.free c ob q n hx) hc hx
 slot := fun c ob q n hc hx => by
  obtain ⟨sl, e1⟩ := a.slot c ob q n hc hx
  obtain ⟨sl', e2⟩ := b.slot c _ e1 (a.free c ob q n hx) hc hx
  exact ⟨sl', e2⟩
 free := fun c ob q n hx => by
  obtain ⟨o', e1⟩ := a.there c ob q hx
  exact b.free c o' e1 (a.free c ob q n hx) hx
 there := fun c ob q hx => by
  obtain ⟨o', e1⟩ := a.there c ob q hx
  exact b.there c o' e1 hx
 tups := fun c xs q => b.tups c xs (a.tups c xs q)
 frzs := fun c ob xs q => b.frzs c ob xs (a.frzs c ob xs q)
 tbls := fun c ps q => by
  obtain ⟨m1, e1⟩ := a.tbls c ps q
  obtain ⟨m2, e2⟩ := b.tbls c _ e1
  exact ⟨m1 ++ m2, by rw [e2, Array.append_assoc]⟩
theorem Un.kept (k : ∀ b u, h.get? b = some u -> h'.get? b = some u) : Un fs ex H H h h' :=
 ⟨fun b ob q _ _ _ => k b ob q, fun b ob q _ _ _ => ⟨ob.slots, k b ob q⟩, fun _ _ _ n _ => n, fun b ob q _ => ⟨ob, k b ob q⟩, fun _ _ q => q, fun _ _ _ q => q, fun _ ps q => ⟨#[], by rw [q]; simp⟩⟩
theorem Un.refl : Un fs ex H H h h := Un.kept fun _ _ q => q
theorem Un.laid (k : ∀ b u, h.get? b = some u -> h'.get? b = some u) (hp : h.objs.size <= a) (hn : H a = none) : Un fs ex H (upd H a o) h h' where
 keep := fun b u q _ _ _ => k b u q
 slot := fun b u q _ _ _ => ⟨u.slots, k b u q⟩
 free := fun b u q n _ => by rw [ag (Nat.ne_of_lt (Nat.lt_of_lt_of_le (Heap.lt_size q) hp))]; exact n
 there := fun b u q _ => ⟨u, k b u q⟩
 tups := fun b xs q => by rw [ag (aq q hn)]; exact q
 frzs := fun b u xs q => by rw [ag (aq q hn)]; exact q
 tbls := fun b ps q => ⟨#[], by rw [ag (aq q hn), q]; simp⟩
theorem Un.write (mu : Mut (H x)) (he : e = x \/ H e = some (.own x)) (k : ∀ b u, b ≠ e -> h.get? b = some u -> h'.get? b = some u) (heo : ∃ u, h'.get? e = some u) : Un fs ex H (upd H x o) h h' := by
 have hx : ∀ b, H b = none -> b ≠ x := fun b n z => by subst z; rw [n] at mu; exact mu
 have hb : ∀ b, H b = none -> b ≠ e := fun b n z => by
  subst z
  rcases he with r | r
  ·exact hx b n r
  ·rw [n] at r; cases r
 have hm : ∀ b u, H b = some u -> ¬ Mut (some u) -> b ≠ x := fun b u q nm z => by subst z; rw [q] at mu; exact nm mu
 refine ⟨fun b u q n _ _ => k b u (hb b n) q, fun b u q n _ _ => ⟨u.slots, k b u (hb b n) q⟩, fun b u q n _ => by rw [ag (hx b n)]; exact n, fun b u q _ => ?_,
  fun b xs q => by rw [ag (hm b _ q fun z => z)]; exact q, fun b u xs q => by rw [ag (hm b _ q fun z => z)]; exact q, fun b ps q => ⟨#[], by rw [ag (hm b _ q fun z => z), q]; simp⟩⟩
 by_cases hbe : b = e
 ·subst hbe; exact heo
 ·exact ⟨u, k b u hbe q⟩
theorem Un.mono (u : Un fs ex H H1 h h1) (hs : ∀ b ∈ fs, b ∈ fs') (hx : ∀ b ∈ ex, b ∈ ex') : Un fs' ex' H H1 h h1 :=
 ⟨fun b ob q n hb he => u.keep b ob q n (fun z => hb (hs b z)) fun z => he (hx b z), fun _ _ q n _ he => u.any q n fun z => he (hx _ z), fun b ob q n he => u.free b ob q n fun z => he (hx b z), fun b ob q he => u.there b ob q fun z => he (hx b z), u.tups, u.frzs, u.tbls⟩
end
noncomputable def trk (h : Heap) (H : Hp) : List Addr := (List.range h.objs.size).filter fun a => (H a).isSome
noncomputable def hidT (h : Heap) (H : Hp) : Heap := W.hideAll h (trk h H)
theorem rl (h : Heap) (H : Hp) : (hidT h H).objs.size = h.objs.size := W.hideAll_size _ _
theorem sW {h : Heap} {H : Hp} {b : Addr} {o : Obj} (e : h.get? b = some o) (n : H b = none) : (hidT h H).get? b = some o :=
 W.hideAll_get _ e fun hm => by
  have q : (H b).isSome = true := (List.mem_filter.mp hm).2
  rw [n] at q; simp at q
theorem vd {h : Heap} {H : Hp} {b : Addr} {o : Obj} (e : (hidT h H).get? b = some o) : h.get? b = some o /\ H b = none := by
 have e' : h.get? b = some o := W.of_hideAll (trk h H) e
 refine ⟨e', ?_⟩
 cases q : H b with
 | none => rfl
 | some x =>
  have hm : b ∈ trk h H := List.mem_filter.mpr ⟨List.mem_range.mpr (Heap.lt_size e'), by simp [q]⟩
  have z : (hidT h H).get? b = none := W.hideAll_none (trk h H) hm
  rw [z] at e; cases e
noncomputable def Fj (g h : Heap) (L : Addr) : Cv := (List.range h.objs.size).filterMap fun a => if a = L \/ (g.get? a).isSome = true then none else (h.get? a).map fun o => (a, o)
noncomputable def rest (g h : Heap) (L d : Addr) : Cv := (Fj g h L).filter fun p => decide (p.1 ≠ d)
structure Mod (K : W.Frag) (mg : Cu) (base : Heap) : Prop where
 kin : K.In base
 glob : base.Ns mainGlobals mg
 blt : ∃ mb, base.Ns builtinsNs mb /\ ∀ x : Str, x ≠ "__name__" -> mb x = bootBuiltins x
 nolimit : base.NoLimit
structure Cx where
 prog : Program
 w : World
 K : W.Frag
 mg : Str -> Option Value
 base : Heap
 A : Around
 N : List Str
 s₀ : Shared
 H₀ : Hp
 env : Env
 outer : List Env
 stack : List Env
 ex : List Addr
 fn : Str -> Bool
 calm : Bool
 pn : Cv
 xe : Value -> Shared -> Prop
noncomputable def frs (l : List Env) : List Addr := l.filterMap (·.frame)
abbrev Cx.fs (X : Cx) : List Addr := frs X.outer
noncomputable def Vis (sc : Scope) (x : Str) : Prop := sc.names.lookup x = some .local \/ sc.names.lookup x = some .cell \/ sc.names.lookup x = some .free
noncomputable def Loc (sc : Scope) (x : Str) : Prop := sc.names.lookup x = some .local \/ sc.names.lookup x = some .cell
noncomputable def Look (env : Env) (h : Heap) (m : Cu) (x : Str) (u : Value) : Prop :=
 (env.kindOf x = some .local /\ m x = some u) \/ ((env.kindOf x = some .cell \/ env.kindOf x = some .free) /\ ∃ c, env.cells.lookup x = some c /\ h.IsCell c (some u))
structure Cx.Ok (X : Cx) : Prop where
 mod : Mod X.K X.mg X.base
 kind : X.env.scope.kind = .function
 glob : X.env.globals = mainGlobals
 blt : X.env.builtins = builtinsNs
 above : X.s₀.heap.objs.size <= X.env.locals
 inj : ∀ x y c, X.env.cells.lookup x = some c -> X.env.cells.lookup y = some c -> x = y
 has : ∀ x, (X.env.kindOf x = some .cell \/ X.env.kindOf x = some .free) -> ∃ c, X.env.cells.lookup x = some c
 cab : ∀ x c, X.fn x = true -> X.env.cells.lookup x = some c -> X.s₀.heap.objs.size <= c
 hd : X.calm = true -> X.A.handled = none
 frames : X.A.frames = some X.stack
 stk : X.stack = X.outer \/ (X.stack = X.env :: X.outer /\ X.env.frame = some X.env.locals)
 exf : ∀ b ∈ X.ex, b ≠ X.env.locals /\ ∀ x c, X.env.cells.lookup x = some c -> c ≠ b
 bs : ∀ b o, X.base.get? b = some o -> X.s₀.heap.get? b = some o /\ X.H₀ b = none
 bsz : X.base.objs.size <= X.s₀.heap.objs.size
 noex : ∀ b o, X.base.get? b = some o -> b ∉ X.ex
 exfs : ∀ b ∈ X.ex, b ∉ X.fs
 funs : X.s₀.heap.FunFrames X.base X.outer
 frf : ∀ b ∈ X.fs, X.H₀ b = none
structure Inv (X : Cx) (pins : Cv) (σ : List (Option V)) (H : Hp) (s : Shared) : Prop where
 ok : X.Ok
 os : s.os = X.s₀.os
 bare : AllBare s.gens
 base : Un X.fs X.ex X.H₀ H X.s₀.heap s.heap
 loc : ∃ m, s.heap.Ns X.env.locals m /\ ∀ (i : Nat) (x : Str) (v : V), X.N[i]? = some x -> σ[i]? = some (some v) -> Vis X.env.scope x -> ∃ u, RelV v u /\ Look X.env s.heap m x u
 cell : ∀ x c, X.env.cells.lookup x = some c -> ∃ v, s.heap.IsCell c v
 free : H X.env.locals = none
 freeC : ∀ x c, X.env.cells.lookup x = some c -> H c = none
 pin : ∀ p ∈ X.pn ++ pins, s.heap.get? p.1 = some p.2 /\ H p.1 = none /\ p.1 ≠ X.env.locals /\ p.1 ∉ X.fs /\ ∀ v, p.2.data ≠ .cell v
 hok : HOk X.prog X.w H s.heap
 len : σ.length = X.N.length
section
variable {X : Cx} {pins : Cv} {σ : List (Option V)} {H H' : Hp} {s : Shared} {h' : Heap}
theorem Cx.Ok.nofr (ok : X.Ok) {b : Addr} {o : Obj} (e : X.base.get? b = some o) : b ∉ X.fs := fun hb => by
 have := (ok.funs.mem hb).1
 rw [e] at this; cases this
theorem Inv.bs (I : Inv X pins σ H s) : ∀ b o, X.base.get? b = some o -> s.heap.get? b = some o /\ H b = none := fun b o e =>
 ⟨I.base.keep b o (I.ok.bs b o e).1 (I.ok.bs b o e).2 (I.ok.nofr e) (I.ok.noex b o e), I.base.free b o (I.ok.bs b o e).1 (I.ok.bs b o e).2 (I.ok.noex b o e)⟩
theorem Inv.bk (I : Inv X pins σ H s) : ∀ b o, X.base.get? b = some o -> s.heap.get? b = some o := fun b o e => (I.bs b o e).1
theorem Inv.mod (I : Inv X pins σ H s) : Mod X.K X.mg X.base := I.ok.mod
theorem Inv.kIn (I : Inv X pins σ H s) : X.K.In s.heap := I.ok.mod.kin.keeps I.bk
theorem Inv.nolimit (I : Inv X pins σ H s) : s.heap.NoLimit := I.ok.mod.nolimit.keeps I.bk
theorem Inv.fr (I : Inv X pins σ H s) : ∃ m, Fr X.base X.env.locals s.heap m :=
 let ⟨m, hn, _⟩ := I.loc
 ⟨m, hn, I.bk, Nat.le_trans I.ok.bsz I.ok.above⟩
theorem Inv.lt (I : Inv X pins σ H s) : X.env.locals < s.heap.objs.size := let ⟨_, hn, _⟩ := I.loc; hn.lt
theorem Inv.sz (I : Inv X pins σ H s) : X.s₀.heap.objs.size <= s.heap.objs.size := Nat.le_trans I.ok.above (Nat.le_of_lt I.lt)
theorem Inv.nofs (I : Inv X pins σ H s) {a : Addr} (h : s.heap.objs.size <= a) : a ∉ X.fs := fun hb => by
 obtain ⟨_, o, ho, _⟩ := I.ok.funs.mem hb
 exact absurd (Nat.lt_of_lt_of_le (Heap.lt_size ho) (Nat.le_trans I.sz h)) (Nat.lt_irrefl _)
theorem Inv.cne (I : Inv X pins σ H s) : ∀ x c, X.env.cells.lookup x = some c -> c ≠ X.env.locals := fun x c e z => by
 obtain ⟨v, o, ho, hd⟩ := I.cell x c e
 obtain ⟨m, ⟨o', es, ep, ho', hd', _⟩, _⟩ := I.loc
 rw [z, ho'] at ho; cases ho; rw [hd'] at hd; cases hd
theorem Inv.funs (I : Inv X pins σ H s) : s.heap.FunFrames X.base X.outer := by
 have all : ∀ (l : List Env), (∀ b ∈ frs l, b ∈ X.fs) -> X.s₀.heap.FunFrames X.base l -> s.heap.FunFrames X.base l := by
  intro l
  induction l with
  | nil => intro _ _; trivial
  | cons env r ih =>
   intro hs hl
   obtain ⟨hk, ⟨L, o, hf, hn, ho, hd⟩, hr⟩ := hl
   have hL : L ∈ X.fs := hs L (by unfold frs; rw [List.filterMap_cons, hf]; exact List.mem_cons_self)
   obtain ⟨sl, e⟩ := I.base.slot L o ho (I.ok.frf L hL) hL fun z => I.ok.exfs L z hL
   exact ⟨hk, ⟨L, _, hf, hn, e, hd⟩, ih (fun b hb => hs b (by unfold frs; rw [List.filterMap_cons, hf]; exact List.mem_cons_of_mem _ hb)) hr⟩
 exact all X.outer (fun _ hb => hb) I.ok.funs
theorem Inv.stack (I : Inv X pins σ H s) : s.heap.FunFrames X.base X.stack := by
 rcases I.ok.stk with e | ⟨e, hf⟩
 ·rw [e]; exact I.funs
 ·rw [e]
  obtain ⟨m, hn, _⟩ := I.loc
  refine .cons (by rw [I.ok.kind]; decide) hf hn ?_ I.funs
  exact Heap.get?_none_of_le (Nat.le_trans I.ok.bsz I.ok.above)
theorem Inv.stkSub (I : Inv X pins σ H s) : ∀ b ∈ frs X.stack, b ∈ X.env.locals :: X.fs := fun b hb => by
 rcases I.ok.stk with e | ⟨e, hf⟩
 ·rw [e] at hb; exact List.mem_cons_of_mem _ hb
 ·rw [e] at hb
  unfold frs at hb
  rw [List.filterMap_cons, hf] at hb
  exact hb
theorem Inv.stkFree (I : Inv X pins σ H s) : ∀ b ∈ frs X.stack, H b = none := fun b hb => by
 rcases List.mem_cons.mp (I.stkSub b hb) with e | hb
 ·rw [e]; exact I.free
 ·obtain ⟨_, o, ho, _⟩ := I.ok.funs.mem hb
  exact I.base.free b o ho (I.ok.frf b hb) fun z => I.ok.exfs b z hb
theorem Inv.step {g' : Array GenState} {t' : Nat} {d' : Drawn} {ch : List Addr} (I : Inv X pins σ H s)
  (hch : ∀ b ∈ ch, (b ∈ X.ex \/ X.s₀.heap.objs.size <= b) /\ b ≠ X.env.locals /\ (∀ x c, X.env.cells.lookup x = some c -> c ≠ b) /\ ∀ p ∈ X.pn ++ pins, p.1 ≠ b)
  (keep : ∀ b o, b ≠ X.env.locals -> b ∉ X.fs -> b ∉ ch -> s.heap.get? b = some o -> H b = none -> h'.get? b = some o)
  (slot : ∀ b o, b ≠ X.env.locals -> b ∈ X.fs -> b ∉ ch -> s.heap.get? b = some o -> H b = none -> ∃ sl, h'.get? b = some { o with slots := sl }) (free : ∀ b o, b ∉ ch -> s.heap.get? b = some o -> H b = none -> H' b = none)
  (there : ∀ b o, b ∉ ch -> s.heap.get? b = some o -> ∃ o', h'.get? b = some o')
  (tups : ∀ b xs, H b = some (.tup xs) -> H' b = some (.tup xs)) (frzs : ∀ b o u, H b = some (.frz o u) -> H' b = some (.frz o u)) (tbls : ∀ b ps, H b = some (.tbl ps) -> ∃ more, H' b = some (.tbl (ps ++ more)))
  (ns : ∀ m, s.heap.Ns X.env.locals m -> h'.Ns X.env.locals m) (hok : HOk X.prog X.w H' h') (hg : AllBare g') :
  Inv X pins σ H' { s with heap := h', gens := g', drawn := d', toks := t' } := by
 have neL : ∀ b o, X.s₀.heap.get? b = some o -> b ≠ X.env.locals := fun b o e => Nat.ne_of_lt (Nat.lt_of_lt_of_le (Heap.lt_size e) I.ok.above)
 have neC : ∀ b o, X.s₀.heap.get? b = some o -> b ∉ X.ex -> b ∉ ch := fun b o e hx hb => by
  rcases (hch b hb).1 with z | z
  ·exact hx z
  ·exact absurd (Nat.lt_of_lt_of_le (Heap.lt_size e) z) (Nat.lt_irrefl _)
 have cellK : ∀ x c, X.env.cells.lookup x = some c -> ∀ v, s.heap.IsCell c v -> h'.IsCell c v := fun x c e v ⟨o, ho, hd⟩ => by
  have nch : c ∉ ch := fun z => (hch c z).2.2.1 x c e rfl
  by_cases hc : c ∈ X.fs
  ·obtain ⟨sl, q⟩ := slot c o (I.cne x c e) hc nch ho (I.freeC x c e)
   exact ⟨_, q, hd⟩
  ·exact ⟨o, keep c o (I.cne x c e) hc nch ho (I.freeC x c e), hd⟩
 refine ⟨I.ok, I.os, hg, ⟨fun b o e n hb hx => ?_, fun b o e n hb hx => ?_, fun b o e n hx => ?_, fun b o e hx => ?_, fun b xs e => tups b xs (I.base.tups b xs e), fun b o xs e => frzs b o xs (I.base.frzs b o xs e), fun b ps e => ?_⟩, ?_, fun x c e => ?_, ?_, fun x c e => ?_, fun p hp => ?_, hok, I.len⟩
 ·exact keep b o (neL b o e) hb (neC b o e hx) (I.base.keep b o e n hb hx) (I.base.free b o e n hx)
 ·obtain ⟨sl, e1⟩ := I.base.slot b o e n hb hx
  obtain ⟨sl', e2⟩ := slot b _ (neL b o e) hb (neC b o e hx) e1 (I.base.free b o e n hx)
  exact ⟨sl', e2⟩
 ·obtain ⟨o', e1⟩ := I.base.there b o e hx
  exact free b o' (neC b o e hx) e1 (I.base.free b o e n hx)
 ·obtain ⟨o', e1⟩ := I.base.there b o e hx
  exact there b o' (neC b o e hx) e1
 ·obtain ⟨m1, e1⟩ := I.base.tbls b ps e
  obtain ⟨m2, e2⟩ := tbls b _ e1
  exact ⟨m1 ++ m2, by rw [e2, Array.append_assoc]⟩
 ·obtain ⟨m, hn, hl⟩ := I.loc
  refine ⟨m, ns m hn, fun i x v e1 e2 e3 => ?_⟩
  obtain ⟨u, r, l⟩ := hl i x v e1 e2 e3
  refine ⟨u, r, ?_⟩
  rcases l with l | ⟨k, c, e, z⟩
  ·exact .inl l
  ·exact .inr ⟨k, c, e, cellK x c e _ z⟩
 ·obtain ⟨v, z⟩ := I.cell x c e
  exact ⟨v, cellK x c e v z⟩
 ·obtain ⟨m, ⟨o, _, _, ho, _⟩, _⟩ := I.loc
  exact free _ o (fun z => (hch _ z).2.1 rfl) ho I.free
 ·obtain ⟨v, o, ho, hd⟩ := I.cell x c e
  exact free c o (fun z => (hch c z).2.2.1 x c e rfl) ho (I.freeC x c e)
 ·obtain ⟨e, n, ne, nf, d⟩ := I.pin p hp
  have nch : p.1 ∉ ch := fun z => (hch p.1 z).2.2.2 p hp rfl
  exact ⟨keep p.1 p.2 ne nf nch e n, free p.1 p.2 nch e n, ne, nf, d⟩
theorem Inv.un {t' : Nat} (I : Inv X pins σ H s) (u : Un X.fs [] H H' s.heap h') (hok : HOk X.prog X.w H' h') : Inv X pins σ H' { s with heap := h', toks := t' } := by
 obtain ⟨m, ⟨o, es, ep, ho, r⟩, _⟩ := id I.loc
 obtain ⟨sl, hL⟩ := u.any ho I.free (by simp)
 exact I.step (g' := s.gens) (d' := s.drawn) (ch := []) (fun _ z => nomatch z) (fun b o _ hb _ e n => u.keep b o e n hb (by simp)) (fun b o _ hb _ e n => u.slot b o e n hb (by simp)) (fun b o _ e n => u.free b o e n (by simp)) (fun b o _ e => u.there b o e (by simp)) u.tups u.frzs u.tbls (fun m' hm => by
  obtain ⟨o', es', ep', ho', r'⟩ := hm
  rw [ho] at ho'; cases ho'
  exact ⟨_, es', ep', hL, r'⟩) hok I.bare
theorem Inv.call {g' : Array GenState} {t' : Nat} {d' : Drawn} {ch : List Addr} (I : Inv X pins σ H s) (u : Un (frs X.stack) ch H H' s.heap h') (hok : HOk X.prog X.w H' h') (hg : AllBare g')
  (hch : ∀ b ∈ ch, (b ∈ X.ex \/ X.s₀.heap.objs.size <= b) /\ b ≠ X.env.locals /\ (∀ x c, X.env.cells.lookup x = some c -> c ≠ b) /\ ∀ p ∈ X.pn ++ pins, p.1 ≠ b) :
  Inv X pins σ H' { s with heap := h', gens := g', drawn := d', toks := t' } := by
 obtain ⟨m, ⟨o, es, ep, ho, r⟩, _⟩ := id I.loc
 obtain ⟨sl, hL⟩ := u.any ho I.free fun z => (hch _ z).2.1 rfl
 exact I.step (ch := ch) hch (fun b o hL hb hc e n => u.keep b o e n (fun z => (List.mem_cons.mp (I.stkSub b z)).elim hL hb) hc) (fun b o _ _ hc e n => u.any e n hc) (fun b o hc e n => u.free b o e n hc) (fun b o hc e => u.there b o e hc) u.tups u.frzs u.tbls (fun m' hm => by
  obtain ⟨o', es', ep', ho', r'⟩ := hm
  rw [ho] at ho'; cases ho'
  exact ⟨_, es', ep', hL, r'⟩) hok hg
theorem Inv.turned {t' : Nat} {it : Addr} (I : Inv X pins σ H s) (k : ∀ b o, b ≠ it -> s.heap.get? b = some o -> h'.get? b = some o) (hn : H it = none) (hL : it ≠ X.env.locals)
  (h1 : it ∈ X.ex \/ X.s₀.heap.objs.size <= it) (h2 : ∀ x c, X.env.cells.lookup x = some c -> c ≠ it) (h3 : ∀ p ∈ X.pn ++ pins, p.1 ≠ it) : Inv X pins σ H { s with heap := h', toks := t' } := by
 have nit : ∀ b u, H b = some u -> b ≠ it := fun b u e z => by rw [z, hn] at e; cases e
 refine I.step (g' := s.gens) (d' := s.drawn) (ch := [it]) (fun b hb => ?_) (fun b o _ _ hc e _ => k b o (fun z => hc (by simp [z])) e) (fun b o _ _ hc e _ => ⟨o.slots, k b o (fun z => hc (by simp [z])) e⟩) (fun _ _ _ _ n => n)
  (fun b o hc e => ⟨o, k b o (fun z => hc (by simp [z])) e⟩) (fun _ _ e => e) (fun _ _ _ e => e) (fun b ps e => ⟨#[], by rw [e]; simp⟩) (fun m hm => ?_) (fun b u e => ?_) I.bare
 ·have e : b = it := by simpa using hb
  subst e
  exact ⟨h1, hL, h2, h3⟩
 ·obtain ⟨o, es, ep, ho, r⟩ := hm
  exact ⟨o, es, ep, k _ o (Ne.symm hL) ho, r⟩
 ·refine (I.hok b u e).stay (fun c v hc q => k c v ?_ q) (fun _ q => q) fun _ _ q => q
  rcases hc with z | z
  ·rw [z]; exact nit b u e
  ·exact nit c _ z
theorem Inv.tok (I : Inv X pins σ H s) (t : Nat) : Inv X pins σ H { s with toks := t } := I.un (h' := s.heap) (t' := t) Un.refl I.hok
theorem Inv.kept {t' : Nat} (I : Inv X pins σ H s) (k : ∀ b u, s.heap.get? b = some u -> h'.get? b = some u) : Inv X pins σ H { s with heap := h', toks := t' } := I.un (Un.kept k) (I.hok.kept k)
theorem Inv.laid {a : Addr} {o : HO} {t' : Nat} (I : Inv X pins σ H s) (k : ∀ b u, s.heap.get? b = some u -> h'.get? b = some u) (hp : s.heap.objs.size <= a) (new : D1 X.prog X.w (upd H a o) h' a o) :
  Inv X pins σ (upd H a o) { s with heap := h', toks := t' } := I.un (Un.laid k hp (I.hok.fresh hp)) (I.hok.laid k hp new)
theorem Inv.write {x e : Addr} {o : HO} {t' : Nat} (I : Inv X pins σ H s) (mu : Mut (H x)) (he : e = x \/ H e = some (.own x)) (k : ∀ b u, b ≠ e -> s.heap.get? b = some u -> h'.get? b = some u) (heo : ∃ u, h'.get? e = some u)
  (new : D1 X.prog X.w (upd H x o) h' x o) : Inv X pins σ (upd H x o) { s with heap := h', toks := t' } := I.un (Un.write mu he k heo) (I.hok.write mu he k heo new)
theorem Inv.weak {σ' : List (Option V)} (I : Inv X pins σ H s) (hl : σ'.length = σ.length) (w : ∀ (i : Nat) v, σ'[i]? = some (some v) -> σ[i]? = some (some v)) : Inv X pins σ' H s :=
 ⟨I.ok, I.os, I.bare, I.base, let ⟨m, hn, hl'⟩ := I.loc; ⟨m, hn, fun i x v e1 e2 e3 => hl' i x v e1 (w i v e2) e3⟩, I.cell, I.free, I.freeC, I.pin, I.hok, hl.trans I.len⟩
theorem Inv.pins_of {pins' : Cv} (I : Inv X pins σ H s) (h : ∀ p ∈ pins', s.heap.get? p.1 = some p.2 /\ H p.1 = none /\ p.1 ≠ X.env.locals /\ p.1 ∉ X.fs /\ ∀ v, p.2.data ≠ .cell v) : Inv X pins' σ H s :=
 ⟨I.ok, I.os, I.bare, I.base, I.loc, I.cell, I.free, I.freeC, fun p hp => (List.mem_append.mp hp).elim (fun z => I.pin p (List.mem_append_left _ z)) (h p), I.hok, I.len⟩
theorem n6 {N : List Str} (hN : N.Nodup) {i j : Nat} {x : Str} (a : N[i]? = some x) (b : N[j]? = some x) : i = j := by
 obtain ⟨h1, e1⟩ := List.getElem?_eq_some_iff.mp a
 obtain ⟨h2, e2⟩ := List.getElem?_eq_some_iff.mp b
 exact (List.getElem_inj hN).mp (e1.trans e2.symm)
theorem kQ {M : Model} {A : Around} {E : Cw} {i : Nat} {x : Str} {v : V} {u : Value} {Q : Unit -> Shared -> Prop} (I : Inv X pins σ H s) (hN : X.N.Nodup) (hi : X.N[i]? = some x) (hx : Loc X.env.scope x) (r : RelV v u)
  (h : ∀ s', Inv X pins (σ.set i (some v)) H s' -> (∃ a, Heap.SameBut a s.heap s'.heap /\ (a = X.env.locals \/ X.env.cells.lookup x = some a)) -> Q () s') (hf : X.fn x = true \/ X.env.scope.names.lookup x = some .local := by first | exact .inl rfl | exact .inr rfl | assumption) : wpAny M A (storeName X.env x u) Q E s := by
 obtain ⟨m, hn, hl⟩ := id I.loc
 have hcls : (X.env.scope.kind == .class || (X.env.scope.kind == .module && X.env.locals != X.env.globals)) = false := by rw [I.ok.kind]; rfl
 have hiσ : i < σ.length := by rw [I.len]; exact (List.getElem?_eq_some_iff.mp hi).1
 have cne := I.cne
 have tracked : ∀ {a : Addr} {h' : Heap}, (∃ o, s.heap.get? a = some o /\ H a = none) -> Heap.SameBut a s.heap h' -> HOk X.prog X.w H h' := fun {a h'} ha hs b ob e => by
  obtain ⟨_, _, hfree⟩ := ha
  refine (I.hok b ob e).stay (fun c w' hc q => (hs.2 c ?_).trans q) (fun _ q => q) fun _ _ q => q
  rintro rfl
  rcases hc with rfl | hc
  ·rw [hfree] at e; cases e
  ·rw [hfree] at hc; cases hc
 rcases hx with hk | hk
 ·refine wpAny_storeName_local hk hn (fun h' hn' hs => ?_) hcls
  obtain ⟨oL, _, _, hoL, _⟩ := id hn
  refine h _ ⟨I.ok, I.os, I.bare, ⟨fun b o e n hb hx => ?_, fun b o e n hb hx => ?_, I.base.free, fun b o e hx => ?_, I.base.tups, I.base.frzs, I.base.tbls⟩, ⟨_, hn', fun j y v' e1 e2 e3 => ?_⟩, fun y c e => ?_, I.free, I.freeC, fun p hp => ?_, tracked ⟨oL, hoL, I.free⟩ hs, by simpa using I.len⟩ ⟨_, hs, .inl rfl⟩
  ·exact (hs.2 b (Nat.ne_of_lt (Nat.lt_of_lt_of_le (Heap.lt_size e) I.ok.above))).trans (I.base.keep b o e n hb hx)
  ·obtain ⟨sl, e1⟩ := I.base.slot b o e n hb hx
   exact ⟨sl, (hs.2 b (Nat.ne_of_lt (Nat.lt_of_lt_of_le (Heap.lt_size e) I.ok.above))).trans e1⟩
  ·obtain ⟨o', e1⟩ := I.base.there b o e hx
   exact ⟨o', (hs.2 b (Nat.ne_of_lt (Nat.lt_of_lt_of_le (Heap.lt_size e) I.ok.above))).trans e1⟩
  ·by_cases hj : j = i
   ·subst hj
    rw [hi] at e1; cases e1
    rw [List.getElem?_set_self hiσ] at e2
    cases e2
    exact ⟨u, r, .inl ⟨hk, by simp⟩⟩
   ·rw [List.getElem?_set_ne (Ne.symm hj)] at e2
    obtain ⟨u', r', q⟩ := hl j y v' e1 e2 e3
    refine ⟨u', r', ?_⟩
    rcases q with ⟨k, e⟩ | ⟨k, c, e, z⟩
    ·refine .inl ⟨k, ?_⟩
     have : y ≠ x := fun e => hj (n6 hN e1 (e ▸ hi))
     simp [this, e]
    ·exact .inr ⟨k, c, e, z.sameBut hs (cne y c e)⟩
  ·obtain ⟨w', z⟩ := I.cell y c e
   exact ⟨w', z.sameBut hs (cne y c e)⟩
  ·obtain ⟨e, n, ne, nf, d⟩ := I.pin p hp
   exact ⟨(hs.2 p.1 ne).trans e, n, ne, nf, d⟩
 ·have hfn : X.fn x = true := by
   rcases hf with z | z
   ·exact z
   ·rw [z] at hk; cases hk
  obtain ⟨c, hc⟩ := I.ok.has x (.inl hk)
  obtain ⟨w', z⟩ := I.cell x c hc
  refine wpAny_storeName_cell I.ok.kind hk hc z (fun h' hc' hs => ?_)
  obtain ⟨oc, hoc, hocd⟩ := id z
  refine h { s with heap := h' } ⟨I.ok, I.os, I.bare, ⟨fun b o e n hb hx => ?_, fun b o e n hb hx => ?_, I.base.free, fun b o e hx => ?_, I.base.tups, I.base.frzs, I.base.tbls⟩, ⟨m, hn.sameBut hs (Ne.symm (cne x c hc)), fun j y v' e1 e2 e3 => ?_⟩, fun y c' e => ?_, I.free, I.freeC, fun p hp => ?_, tracked ⟨oc, hoc, I.freeC x c hc⟩ hs, by simpa using I.len⟩ ⟨c, hs, .inr hc⟩
  ·exact (hs.2 b (Nat.ne_of_lt (Nat.lt_of_lt_of_le (Heap.lt_size e) (I.ok.cab x c hfn hc)))).trans (I.base.keep b o e n hb hx)
  ·obtain ⟨sl, e1⟩ := I.base.slot b o e n hb hx
   exact ⟨sl, (hs.2 b (Nat.ne_of_lt (Nat.lt_of_lt_of_le (Heap.lt_size e) (I.ok.cab x c hfn hc)))).trans e1⟩
  ·obtain ⟨o', e1⟩ := I.base.there b o e hx
   exact ⟨o', (hs.2 b (Nat.ne_of_lt (Nat.lt_of_lt_of_le (Heap.lt_size e) (I.ok.cab x c hfn hc)))).trans e1⟩
  ·by_cases hj : j = i
   ·subst hj
    rw [hi] at e1; cases e1
    rw [List.getElem?_set_self hiσ] at e2
    cases e2
    exact ⟨u, r, .inr ⟨.inl hk, c, hc, hc'⟩⟩
   ·rw [List.getElem?_set_ne (Ne.symm hj)] at e2
    obtain ⟨u', r', q⟩ := hl j y v' e1 e2 e3
    refine ⟨u', r', ?_⟩
    rcases q with q | ⟨k, c', e, z'⟩
    ·exact .inl q
    ·refine .inr ⟨k, c', e, z'.sameBut hs ?_⟩
     rintro rfl
     exact hj (n6 hN e1 (I.ok.inj _ _ _ e hc ▸ hi))
  ·by_cases hcc : c' = c
   ·subst hcc; exact ⟨_, hc'⟩
   ·obtain ⟨w2, z2⟩ := I.cell y c' e
    exact ⟨w2, z2.sameBut hs hcc⟩
  ·obtain ⟨e, n, ne, nf, d⟩ := I.pin p hp
   refine ⟨(hs.2 p.1 ?_).trans e, n, ne, nf, d⟩
   intro q
   rw [q, hoc] at e
   have q' : oc = p.2 := Option.some.inj e
   exact d w' (by rw [<- q']; exact hocd)
theorem n8 {M : Model} {A : Around} {E : Cw} {i : Nat} {x : Str} {v : V} {u : Value} {Q : Unit -> Shared -> Prop} (I : Inv X pins σ H s) (hN : X.N.Nodup) (hi : X.N[i]? = some x) (hx : Loc X.env.scope x) (r : RelV v u)
  (h : ∀ s', Inv X pins (σ.set i (some v)) H s' -> Q () s') (hf : X.fn x = true \/ X.env.scope.names.lookup x = some .local := by first | exact .inl rfl | exact .inr rfl | assumption) : wpAny M A (storeName X.env x u) Q E s :=
 kQ I hN hi hx r (fun s' I' _ => h s' I') hf
theorem Inv.call' {s' : Shared} {ch : List Addr} (I : Inv X pins σ H s) (ho : s'.os = s.os) (u : Un (frs X.stack) ch H H' s.heap s'.heap) (hok : HOk X.prog X.w H' s'.heap) (hg : AllBare s'.gens)
  (hch : ∀ b ∈ ch, (b ∈ X.ex \/ X.s₀.heap.objs.size <= b) /\ b ≠ X.env.locals /\ (∀ x c, X.env.cells.lookup x = some c -> c ≠ b) /\ ∀ p ∈ X.pn ++ pins, p.1 ≠ b) : Inv X pins σ H' s' := by
 obtain ⟨h', g', d', t', o'⟩ := s'
 have e : o' = s.os := ho
 subst e
 exact I.call (g' := g') (t' := t') (d' := d') u hok hg hch
end
abbrev XK := Value -> Option Addr -> Hp -> Prop
abbrev St := List (Option V)
abbrev VK := V -> Hp -> Prop
abbrev TE := St -> Hp -> VK -> Prop
abbrev TT := St -> Hp -> (Bool -> Hp -> Prop) -> Prop
abbrev TA := St -> Hp -> (List V -> Hp -> Prop) -> Prop
structure Ends where
 nx : St -> Hp -> Prop
 rt : VK
 bk : St -> Hp -> Prop := fun _ _ => False
 ct : St -> Hp -> Prop := fun _ _ => False
abbrev TS := Ends -> St -> Hp -> Prop
noncomputable def EP (X : Cx) (pins : Cv) (σ : St) (Q : VK) (u : Value) (s' : Shared) : Prop := ∃ v H', Inv X pins σ H' s' /\ RelV v u /\ Q v H'
noncomputable def TP (X : Cx) (pins : Cv) (σ : St) (Q : Bool -> Hp -> Prop) (b : Bool) (s' : Shared) : Prop := ∃ H', Inv X pins σ H' s' /\ Q b H'
noncomputable def AP (X : Cx) (pins : Cv) (σ : St) (Q : List V -> Hp -> Prop) (us : List Value) (s' : Shared) : Prop := ∃ vs H', Inv X pins σ H' s' /\ Vals vs us /\ Q vs H'
noncomputable def SP (X : Cx) (pins : Cv) (D : Ends) (f : Flow) (s' : Shared) : Prop :=
 match f with
 | .next => ∃ σ' H', Inv X pins σ' H' s' /\ D.nx σ' H'
 | .brk => ∃ σ' H', Inv X pins σ' H' s' /\ D.bk σ' H'
 | .cont => ∃ σ' H', Inv X pins σ' H' s' /\ D.ct σ' H'
 | .ret u => ∃ v σ' H', Inv X pins σ' H' s' /\ RelV v u /\ D.rt v H'
noncomputable def PE (X : Cx) (e : Expr) (t : TE) : Prop :=
 ∀ (pins : Cv) (s : Shared) (σ : St) (H : Hp) (Q : VK), Inv X pins σ H s -> t σ H Q -> wpAny (model X.prog X.w) X.A (eval e X.env) (EP X pins σ Q) X.xe s
noncomputable def PT (X : Cx) (e : Expr) (t : TT) : Prop :=
 ∀ (pins : Cv) (s : Shared) (σ : St) (H : Hp) (Q : Bool -> Hp -> Prop), Inv X pins σ H s -> t σ H Q -> wpAny (model X.prog X.w) X.A (isTrue e X.env (eval e X.env)) (TP X pins σ Q) X.xe s
noncomputable def PW (X : Cx) (e : Expr) (t : TT) : Prop :=
 ∀ (whole : Sem Value) (pins : Cv) (s : Shared) (σ : St) (H : Hp) (Q : Bool -> Hp -> Prop), Inv X pins σ H s -> t σ H Q -> wpAny (model X.prog X.w) X.A (isTrue e X.env whole) (TP X pins σ Q) X.xe s
theorem PW.pt {X : Cx} {e : Expr} {t : TT} (h : PW X e t) : PT X e t := h _
noncomputable def PA (X : Cx) (es : List Expr) (t : TA) : Prop :=
 ∀ (pos : Pos) (pins : Cv) (s : Shared) (σ : St) (H : Hp) (Q : List V -> Hp -> Prop), Inv X pins σ H s -> t σ H Q -> wpAny (model X.prog X.w) X.A (spliced (backTo pos (starEach es X.env))) (AP X pins σ Q) X.xe s
noncomputable def PS (X : Cx) (st : Stmt) (t : TS) : Prop :=
 ∀ (pins : Cv) (s : Shared) (σ : St) (H : Hp) (D : Ends), Inv X pins σ H s -> t D σ H -> wpAny (model X.prog X.w) X.A (exec st X.env) (SP X pins D) X.xe s
noncomputable def PSs (X : Cx) (st : List Stmt) (t : TS) : Prop :=
 ∀ (pins : Cv) (s : Shared) (σ : St) (H : Hp) (D : Ends), Inv X pins σ H s -> t D σ H -> wpAny (model X.prog X.w) X.A (execs st X.env) (SP X pins D) X.xe s
theorem thn {α : Type} {t : Sem α} {Q Q' : α -> Shared -> Prop} {M : Model} {A : Around} {E : Cw} {s : Shared} (h : wpAny M A t Q E s) (hQ : ∀ a s, Q a s -> Q' a s) : wpAny M A t Q' E s := wpAny_mono h hQ fun _ _ x => x
section
variable {X : Cx}
theorem bin {a b : Expr} {ta tb : TE} (ha : PE X a ta) (hb : PE X b tb) {pins : Cv} {s : Shared} {σ : St} {H : Hp} {R : V -> V -> Hp -> Prop} (I : Inv X pins σ H s) (h : ta σ H fun x H1 => tb σ H1 fun y H2 => R x y H2)
  {α : Type} {Q : α -> Shared -> Prop} {f : Value -> Value -> Sem α}
  (hf : ∀ v u s2 x y H2, Inv X pins σ H2 s2 -> RelV x v -> RelV y u -> R x y H2 -> wpAny (model X.prog X.w) X.A (f v u) Q X.xe s2) :
  wpAny (model X.prog X.w) X.A (eval a X.env) (fun v s₁ => wpAny (model X.prog X.w) X.A (eval b X.env) (fun u s₂ => wpAny (model X.prog X.w) X.A (f v u) Q X.xe s₂) X.xe s₁) X.xe s := by
 refine thn (ha pins s σ H _ I h) fun v s1 ⟨x, H1, I1, r1, q1⟩ => ?_
 refine thn (hb pins s1 σ H1 _ I1 q1) fun u s2 ⟨y, H2, I2, r2, q2⟩ => ?_
 exact hf v u s2 x y H2 I2 r1 r2 q2
noncomputable def tVar (i : Nat) : TE := fun σ H Q => ∃ v, σ[i]? = some (some v) /\ Q v H
noncomputable def tC (v : V) : TE := fun _ H Q => Q v H
theorem fO {i : Nat} {x : Str} {pos : Pos} (hN : X.N[i]? = some x) (hv : Vis X.env.scope x) (hd : (x == ("__debug__" : Str)) = false := by decide) (hcd : (x == ("__classdict__" : Str)) = false := by decide) : PE X (.Name x pos) (tVar i) := by
 intro pins s σ H Q I h
 obtain ⟨v, e, h⟩ := h
 obtain ⟨m, hn, hl⟩ := I.loc
 obtain ⟨u, r, l⟩ := hl i x v hN e hv
 have fin : EP X pins σ Q u s := ⟨v, H, I, r, h⟩
 rcases l with ⟨hk, hm⟩ | ⟨hk, c, hc, hcell⟩
 ·exact wpAny_Name (wpAny_loadName_local I.ok.kind hk hn hm fin) hd
 ·rcases hk with hk | hk
  ·exact wpAny_Name (wpAny_loadName_cell I.ok.kind hk hc hcell fin) hd
  ·exact wpAny_Name (wpAny_loadName_free I.ok.kind hk hc hcell fin hcd) hd
theorem iE {i j pos} : PE X (.Constant (.int i) j pos) (tC (.int i)) := fun _ _ _ H _ I h => wpAny_Constant_int ⟨.int i, H, I.tok _, ⟨_, rfl⟩, h⟩
theorem zL {b j pos} : PE X (.Constant (.bool b) j pos) (tC (.bl b)) := fun _ _ _ H _ I h => Constant_bool ⟨.bl b, H, I, rfl, h⟩
theorem xt {j pos} : PE X (.Constant .none j pos) (tC .non) := fun _ _ _ H _ I h => Constant_none ⟨.non, H, I, rfl, h⟩
theorem xu {x j pos} : PE X (.Constant (.str x) j pos) (tC (.str x)) := fun _ _ _ H _ I h => Calls.Constant_str ⟨.str x, H, I.tok _, ⟨_, rfl⟩, h⟩
noncomputable def Gl (X : Cx) (x : Str) : Prop := X.env.kindOf x = some .globalImplicit
theorem qe {E : Cw} {pins : Cv} {s : Shared} {σ : St} {H : Hp} {x : Str} {u : Value} {pos : Pos} {Q : Cw} (I : Inv X pins σ H s) (hg : Gl X x) (hm : X.mg x = some u) (h : Q u s)
  (hd : (x == ("__debug__" : Str)) = false := by decide) : wpAny (model X.prog X.w) X.A (eval (.Name x pos) X.env) Q E s :=
 Calls.Name_function_global I.ok.kind hg (Calls.loadGlobal_global (by rw [I.ok.glob]; exact I.mod.glob.keeps I.bk) hm h) hd
theorem fP {E : Cw} {pins : Cv} {s : Shared} {σ : St} {H : Hp} {x : Str} {u : Value} {pos : Pos} {Q : Cw} (I : Inv X pins σ H s) (hg : Gl X x) (hm : X.mg x = none) (hv : bootBuiltins x = some u) (h : Q u s)
  (hn : x ≠ "__name__" := by decide) (hd : (x == ("__debug__" : Str)) = false := by decide) : wpAny (model X.prog X.w) X.A (eval (.Name x pos) X.env) Q E s := by
 obtain ⟨mb, h1, h2⟩ := I.mod.blt
 exact Calls.Name_function_global I.ok.kind hg (Calls.loadGlobal_builtin (by rw [I.ok.glob]; exact I.mod.glob.keeps I.bk) hm (by rw [I.ok.blt]; exact h1.keeps I.bk) ((h2 x hn).trans hv) h) hd
theorem ve {x : Str} {v : V} {u : Value} {pos : Pos} (hg : Gl X x) (hm : X.mg x = some u) (r : RelV v u) (hd : (x == ("__debug__" : Str)) = false := by decide) : PE X (.Name x pos) (tC v) :=
 fun _ _ _ H _ I h => qe I hg hm ⟨v, H, I, r, h⟩ hd
theorem vf {x : Str} {v : V} {u : Value} {pos : Pos} (hg : Gl X x) (hm : X.mg x = none) (hv : bootBuiltins x = some u) (r : RelV v u) (hn : x ≠ "__name__" := by decide) (hd : (x == ("__debug__" : Str)) = false := by decide) : PE X (.Name x pos) (tC v) :=
 fun _ _ _ H _ I h => fP I hg hm hv ⟨v, H, I, r, h⟩ hn hd
variable {a b : Expr} {ta tb : TE} {pos : Pos}
noncomputable def PC (X : Cx) (op : CmpOp) (a b : Expr) (t : TE) : Prop :=
 ∀ (pins : Cv) (s : Shared) (σ : St) (H : Hp) (Q : VK), Inv X pins σ H s -> t σ H Q ->
  wpAny (model X.prog X.w) X.A (eval a X.env) (fun v s₁ => wpAny (model X.prog X.w) X.A (eval b X.env) (fun u s₂ => wpAny (model X.prog X.w) X.A (compareOp op v u) (EP X pins σ Q) X.xe s₂) X.xe s₁) X.xe s
theorem nobehind (b : Expr) {op : CmpOp} (h : op ≠ .In) (h2 : op ≠ .NotIn) : behindInMarks op b = false := by
 have e1 : (op == CmpOp.In) = false := by cases op <;> first | rfl | exact absurd rfl h
 have e2 : (op == CmpOp.NotIn) = false := by cases op <;> first | rfl | exact absurd rfl h2
 cases b <;> simp [behindInMarks, e1, e2]
noncomputable def tB (t : TE) : TT := fun σ H Q => t σ H fun x H1 => ∃ c, x = .bl c /\ Q c H1
theorem xv {op : CmpOp} {t : TE} (h : PC X op a b t) (h1 : behindInMarks op b = false := by first | exact nobehind _ (by decide) (by decide) | rfl) : PT X (.Compare a [op] [b] pos) (tB t) := by
 intro pins s σ H Q I hw
 refine wpAny_isTrue_Compare1 (thn (h pins s σ H _ I hw) fun v s1 h1 => thn h1 fun u s2 h2 => thn h2 fun c s3 ⟨x, H1, I1, r1, q1⟩ => ?_) h1
 obtain ⟨d, rfl, q⟩ := q1
 cases r1
 exact wpAny_truthy_bool ⟨H1, I1, q⟩
variable {tA tB' : TT} {rest : List Expr}
noncomputable def tAnd (t u : TT) : TT := fun σ H Q => t σ H fun c H1 => if c = true then u σ H1 Q else Q false H1
noncomputable def tOr (t u : TT) : TT := fun σ H Q => t σ H fun c H1 => if c = true then Q true H1 else u σ H1 Q
noncomputable def tNot (t : TT) : TT := fun σ H Q => t σ H fun c H1 => Q (!c) H1
theorem vg (ha : PT X a tA) : PW X (.BoolOp .And [a] pos) tA := by
 intro wh pins s σ H Q I h
 refine isTrue_and (thn (ha pins s σ H Q I h) fun c s1 e => ?_)
 cases c with
 | true => exact isTrue_and_nil e
 | false => exact e
theorem xw (ha : PT X a tA) : PW X (.BoolOp .Or [a] pos) tA := by
 intro wh pins s σ H Q I h
 refine isTrue_or (thn (ha pins s σ H Q I h) fun c s1 e => ?_)
 cases c with
 | false => exact isTrue_or_nil e
 | true => exact e
theorem xx (ha : PT X a tA) (hb : PW X (.BoolOp .And (b :: rest) pos) tB') : PW X (.BoolOp .And (a :: b :: rest) pos) (tAnd tA tB') := by
 intro wh pins s σ H Q I h
 refine isTrue_and (thn (ha pins s σ H _ I h) fun c s1 ⟨H1, I1, q1⟩ => ?_)
 cases c with
 | true => exact hb wh pins s1 σ H1 Q I1 q1
 | false => exact ⟨H1, I1, q1⟩
theorem zM (ha : PT X a tA) (hb : PW X (.BoolOp .Or (b :: rest) pos) tB') : PW X (.BoolOp .Or (a :: b :: rest) pos) (tOr tA tB') := by
 intro wh pins s σ H Q I h
 refine isTrue_or (thn (ha pins s σ H _ I h) fun c s1 ⟨H1, I1, q1⟩ => ?_)
 cases c with
 | true => exact ⟨H1, I1, q1⟩
 | false => exact hb wh pins s1 σ H1 Q I1 q1
theorem xy (ha : PT X a tA) : PT X (.UnaryOp .Not a pos) (tNot tA) := by
 intro pins s σ H Q I h
 exact isTrue_not (ha pins s σ H (fun c H1 => Q (!c) H1) I h)
noncomputable def FD (ta tb : TE) : TE := fun σ H Q => ta σ H fun x H1 => ∃ c, x = .bl c /\ if c = true then tb σ H1 Q else Q (.bl false) H1
noncomputable def FE (ta : TE) : TE := fun σ H Q => ta σ H fun x H1 => ∃ c, x = .bl c /\ Q (.bl (!c)) H1
theorem xA {op} {t : TE} (h : PE X a t) : PE X (.BoolOp op [a] pos) t := fun pins s σ H Q I hw => BoolOp_one (h pins s σ H Q I hw)
theorem xB (ha : PE X a ta) (hb : PE X (.BoolOp .And (b :: rest) pos) tb) : PE X (.BoolOp .And (a :: b :: rest) pos) (FD ta tb) := by
 intro pins s σ H Q I h
 refine BoolOp_and (thn (ha pins s σ H _ I h) fun v s1 ⟨x, H1, I1, r1, q1⟩ => ?_)
 obtain ⟨c, rfl, q1⟩ := q1
 cases r1
 refine wpAny_truthy_bool ?_
 cases c with
 | true => exact hb pins s1 σ H1 Q I1 q1
 | false => exact ⟨.bl false, H1, I1, rfl, q1⟩
theorem xC (ha : PE X a ta) : PE X (.UnaryOp .Not a pos) (FE ta) := by
 intro pins s σ H Q I h
 refine UnaryOp_ (thn (ha pins s σ H _ I h) fun v s1 ⟨x, H1, I1, r1, q1⟩ => ?_)
 obtain ⟨c, rfl, q1⟩ := q1
 cases r1
 exact not_of (wpAny_truthy_bool ⟨.bl (!c), H1, I1, rfl, q1⟩)
noncomputable def tIf (t : TT) (ta tb : TE) : TE := fun σ H Q => t σ H fun c H1 => if c = true then ta σ H1 Q else tb σ H1 Q
theorem sX {c : Expr} (hc : PT X c tA) (ha : PE X a ta) (hb : PE X b tb) : PE X (.IfExp c a b pos) (tIf tA ta tb) := by
 intro pins s σ H Q I h
 refine wpAny_IfExp (thn (hc pins s σ H _ I h) fun d s1 ⟨H1, I1, q1⟩ => ?_)
 cases d with
 | true => exact ha pins s1 σ H1 Q I1 q1
 | false => exact hb pins s1 σ H1 Q I1 q1
end
noncomputable def SqL (K : W.Frag) (H : Hp) (a : Addr) (xs : List V) : Prop :=
 Rd H a (.lst xs) \/
  ∃ (o : Obj) (its : Array Value) (n : Nat), K.lookup a = some o /\ o.cls = .type "list" /\ o.dict = none /\ o.data = .seq its n /\ its.size <= sizeLine /\ Vals xs its.toList
noncomputable def SqT (K : W.Frag) (H : Hp) (a : Addr) (xs : List V) : Prop :=
 Rd H a (.tup xs) \/
  ∃ (o : Obj) (its : Array Value) (n : Nat), K.lookup a = some o /\ o.cls = .type "tuple" /\ o.data = .seq its n /\ its.size <= sizeLine /\ Vals xs its.toList
noncomputable def SqR (K : W.Frag) (H : Hp) (a : Addr) (xs : List V) : Prop :=
 Rd H a (.lst xs) \/ ∃ (its : Array Value) (n : Nat), K.lookup a = some { cls := .type "list", data := .seq its n } /\ its.size <= sizeLine /\ Vals xs its.toList
noncomputable def absV : Value -> Option V
 | .none => some .non
 | .bool b => some (.bl b)
 | .int i _ => some (.int i)
 | .str x _ => some (.str x)
 | .bytes b _ => some (.byt b)
 | .float b _ => some (.flt b)
 | .ref a => some (.ref a)
 | .type n => some (.ty n)
 | _ => none
theorem RelV.abs {x : V} {u : Value} (r : RelV x u) : absV u = some x := by
 cases x with
 | non => cases r; rfl
 | bl _ => cases r; rfl
 | int _ => obtain ⟨t, rfl⟩ := r; rfl
 | str _ => obtain ⟨t, rfl⟩ := r; rfl
 | byt _ => obtain ⟨t, rfl⟩ := r; rfl
 | flt _ => obtain ⟨t, rfl⟩ := r; rfl
 | ref _ => cases r; rfl
 | ty _ => cases r; rfl
theorem RelV.inj {x y : V} {u : Value} (r : RelV x u) (q : RelV y u) : x = y := Option.some.inj (r.abs.symm.trans q.abs)
theorem Vals.inj : ∀ {xs ys : List V} {us : List Value}, Vals xs us -> Vals ys us -> xs = ys
 | _, _, _, .nil, .nil => rfl
 | _, _, _, .cons r t, .cons r' t' => by rw [r.inj r', Vals.inj t t']
section
variable {X : Cx} {pins : Cv} {σ : St} {H : Hp} {s : Shared} {a : Addr} {xs ys : List V}
theorem SqL.of {K : W.Frag} (h : H a = some (.lst xs)) : SqL K H a xs := .inl (.inl h)
theorem SqT.of {K : W.Frag} (h : H a = some (.tup xs)) : SqT K H a xs := .inl (.inl h)
theorem Inv.list (I : Inv X pins σ H s) (h : SqL X.K H a xs) : ∃ its : List Value, Vals xs its /\ PlainL s.heap a its.toArray /\ xs.length <= sizeLine := by
 rcases h with h | ⟨o, its, n, hk, hc, hd, hs, hz, r⟩
 ·obtain ⟨z, its, n, r, e⟩ := h.ok I.hok
  exact ⟨its, r, ⟨_, n, e, rfl, rfl, rfl⟩, z⟩
 ·refine ⟨its.toList, r, ⟨o, n, I.kIn a o hk, hc, hd, by simpa using hs⟩, ?_⟩
  have e := r.length
  simp only [Array.length_toList] at e
  lia
theorem Inv.tuple (I : Inv X pins σ H s) (h : SqT X.K H a xs) : ∃ its : List Value, Vals xs its /\ IsTup s.heap a its.toArray /\ xs.length <= sizeLine := by
 rcases h with h | ⟨o, its, n, hk, hc, hs, hz, r⟩
 ·obtain ⟨z, its, r, p⟩ := h.ok I.hok
  exact ⟨its, r, p, z⟩
 ·refine ⟨its.toList, r, ⟨o, I.kIn a o hk, hc, n, by simpa using hs⟩, ?_⟩
  have e := r.length
  simp only [Array.length_toList] at e
  lia
theorem Inv.list_inj (I : Inv X pins σ H s) (h : SqL X.K H a xs) (h' : SqL X.K H a ys) : xs = ys := by
 obtain ⟨its, r, ⟨o, n, e, _, _, d⟩, _⟩ := I.list h
 obtain ⟨its', r', ⟨o', n', e', _, _, d'⟩, _⟩ := I.list h'
 rw [e] at e'; cases e'
 rw [d] at d'
 injection d' with d1 _
 have : its = its' := by simpa using congrArg Array.toList d1
 subst this
 exact r.inj r'
theorem Inv.tuple_inj (I : Inv X pins σ H s) (h : SqT X.K H a xs) (h' : SqT X.K H a ys) : xs = ys := by
 obtain ⟨its, r, ⟨o, e, _, n, d⟩, _⟩ := I.tuple h
 obtain ⟨its', r', ⟨o', e', _, n', d'⟩, _⟩ := I.tuple h'
 rw [e] at e'; cases e'
 rw [d] at d'
 injection d' with d1 _
 have : its = its' := by simpa using congrArg Array.toList d1
 subst this
 exact r.inj r'
end
section
variable {X : Cx} {pins : Cv} {σ : St} {H : Hp} {s : Shared} {E : Cw}
end
section
variable {X : Cx} {st : Stmt} {rest : List Stmt} {t u : TS} {e : Expr} {te : TE} {pos : Pos}
noncomputable def E9 : TS := fun D σ H => D.nx σ H
noncomputable def tSeq (t u : TS) : TS := fun D σ H => t { D with nx := u D } σ H
theorem fj : PSs X [] E9 := fun _ _ σ H _ I h => wpAny_execs_nil ⟨σ, H, I, h⟩
theorem br (h1 : PS X st t) (h2 : PSs X rest u) : PSs X (st :: rest) (tSeq t u) := by
 intro pins s σ H D I h
 refine wpAny_execs_cons (thn (h1 pins s σ H { D with nx := u D } I h) fun f s1 q => ?_)
 cases f with
 | next =>
  obtain ⟨σ', H', I', q⟩ := q
  exact h2 pins s1 σ' H' D I' q
 | ret v => exact q
 | brk => exact q
 | cont => exact q
theorem vh (h1 : PS X st t) : PSs X [st] t := by
 intro pins s σ H D I h
 refine wpAny_execs_cons (thn (h1 pins s σ H D I h) fun f s1 q => ?_)
 cases f with
 | next => exact wpAny_execs_nil q
 | ret v => exact q
 | brk => exact q
 | cont => exact q
theorem Inv.quiet {pins : Cv} {σ : St} {H : Hp} {s : Shared} (I : Inv X pins σ H s) : interactive X.env = false := by simp [interactive, I.ok.kind]
noncomputable def ET (te : TE) : TS := fun D σ H => te σ H fun _ H1 => D.nx σ H1
theorem m9 (he : PE X e te) (hs : swapsWith e none pos.line X.env = pure false := by rfl) : PS X (.Expr e pos) (ET te) := by
 intro pins s σ H D I h
 exact wpAny_Expr_any (thn (he pins s σ H _ I h) fun v s1 ⟨x, H1, I1, r1, q1⟩ => ⟨σ, H1, I1, q1⟩) I.quiet hs
noncomputable def tRet (te : TE) : TS := fun D σ H => te σ H D.rt
theorem ma (he : PE X e te) : PS X (.Return (some e) pos) (tRet te) := by
 intro pins s σ H D I h
 exact wpAny_Return_some (thn (he pins s σ H _ I h) fun v s1 ⟨x, H1, I1, r1, q1⟩ => ⟨x, σ, H1, I1, r1, q1⟩)
noncomputable def tIfS (c : TT) (t u : TS) : TS := fun D σ H => c σ H fun b H1 => if b = true then t D σ H1 else u D σ H1
theorem sY {c : Expr} {a b : List Stmt} {tc : TT} (hc : PT X c tc) (ha : PSs X a t) (hb : PSs X b u) : PS X (.If c a b pos) (tIfS tc t u) := by
 intro pins s σ H D I h
 refine wpAny_If (thn (hc pins s σ H _ I h) fun d s1 ⟨H1, I1, q1⟩ => ?_)
 cases d with
 | true => exact ha pins s1 σ H1 D I1 q1
 | false => exact hb pins s1 σ H1 D I1 q1
end
abbrev TG := V -> St -> Hp -> (St -> Hp -> Prop) -> Prop
abbrev TGs := List V -> St -> Hp -> (St -> Hp -> Prop) -> Prop
noncomputable def PG (X : Cx) (target : Expr) (t : TG) : Prop :=
 ∀ (pins : Cv) (s : Shared) (σ : St) (H : Hp) (v : V) (u : Value) (Q : St -> Hp -> Prop), Inv X pins σ H s -> RelV v u -> t v σ H Q ->
  wpAny (model X.prog X.w) X.A (assign target X.env u) (fun _ s' => ∃ σ' H', Inv X pins σ' H' s' /\ Q σ' H') X.xe s
noncomputable def PGs (X : Cx) (ts : List Expr) (t : TGs) : Prop :=
 ∀ (pins : Cv) (s : Shared) (σ : St) (H : Hp) (vs : List V) (us : List Value) (Q : St -> Hp -> Prop), Inv X pins σ H s -> Vals vs us -> t vs σ H Q ->
  wpAny (model X.prog X.w) X.A (assignInOrder ((assignEach ts X.env).map (·.2)) us) (fun _ s' => ∃ σ' H', Inv X pins σ' H' s' /\ Q σ' H') X.xe s
abbrev TSet := V -> V -> V -> Hp -> (Hp -> Prop) -> Prop
noncomputable def PSet (X : Cx) (t : TSet) : Prop :=
 ∀ (pins : Cv) (s : Shared) (σ : St) (H : Hp) (o i v : V) (ov iv u : Value) (Q : Hp -> Prop), Inv X pins σ H s -> RelV o ov -> RelV i iv -> RelV v u -> t o i v H Q ->
  wpAny (model X.prog X.w) X.A (setItem ov iv u) (fun _ s' => ∃ H', Inv X pins σ H' s' /\ Q H') X.xe s
section
variable {X : Cx} {pos : Pos}
noncomputable def Df (i : Nat) : TG := fun v σ H Q => Q (σ.set i (some v)) H
theorem i5 {i : Nat} {x : Str} (hN : X.N.Nodup) (hi : X.N[i]? = some x) (hx : Loc X.env.scope x) (hf : X.fn x = true \/ X.env.scope.names.lookup x = some .local := by first | exact .inl rfl | exact .inr rfl | assumption) : PG X (.Name x pos) (Df i) := by
 intro pins s σ H v u Q I r h
 exact wpAny_assign_Name (n8 I hN hi hx r (fun s' I' => ⟨_, H, I', h⟩) hf)
noncomputable def gNil : TGs := fun vs σ H Q => vs = [] /\ Q σ H
noncomputable def Fl (t : TG) (u : TGs) : TGs := fun vs σ H Q => ∃ v r, vs = v :: r /\ t v σ H fun σ' H' => u r σ' H' Q
theorem vi : PGs X [] gNil := by
 intro pins s σ H vs us Q I r h
 obtain ⟨e, h⟩ := h
 subst e
 cases r
 exact assignInOrder_nil ⟨σ, H, I, h⟩
theorem nc {e : Expr} {es : List Expr} {t : TG} {u : TGs} (h1 : PG X e t) (h2 : PGs X es u)
  (hs : (assignEach (e :: es) X.env).map (·.2) = assign e X.env :: (assignEach es X.env).map (·.2) := by rfl) : PGs X (e :: es) (Fl t u) := by
 intro pins s σ H vs us Q I r h
 obtain ⟨v, vr, e1, h⟩ := h
 subst e1
 cases r with
 | cons r rr =>
  rw [hs]
  refine assignInOrder_cons (thn (h1 pins s σ H _ _ _ I r h) fun _ s1 ⟨σ1, H1, I1, q1⟩ => ?_)
  exact h2 pins s1 σ1 H1 _ _ Q I1 rr q1
noncomputable def gTup (K : W.Frag) (n : Nat) (t : TGs) : TG := fun v σ H Q => ∃ a xs, v = .ref a /\ SqT K H a xs /\ xs.length = n /\ t xs σ H Q
theorem xD {es : List Expr} {k : Nat} {t : TGs} {n : Nat} (hc : X.calm = true) (h : PGs X es t)
  (hn : (assignEach es X.env).length = n := by rfl) (hst : (assignEach es X.env).findIdx? (·.1) = none := by rfl) : PG X (.Tuple es k pos) (gTup X.K n t) := by
 intro pins s σ H v u Q I r hw
 obtain ⟨a, xs, e1, hq, hl, hw⟩ := hw
 subst e1
 cases r
 obtain ⟨its, rv, ht, hz⟩ := I.tuple hq
 refine assign_Tuple_tuple (I.ok.hd hc) ht (by simp [hn, <- hl, rv.length]) hst fun h' hx => ?_
 have I1 : Inv X pins σ H { s with heap := h' } := I.kept (t' := s.toks) fun b o e => hx b o (Nat.ne_of_lt (Heap.lt_size e)) e
 exact h pins _ σ H xs _ Q I1 (by simpa using rv) hw
noncomputable def gSub (to ti : TE) (t : TSet) : TG := fun v σ H Q => to σ H fun o H1 => ti σ H1 fun i H2 => t o i v H2 fun H3 => Q σ H3
theorem xE {o i : Expr} {to ti : TE} {t : TSet} (ho : PE X o to) (hi : PE X i ti) (hs : PSet X t)
  (ha : ∀ v, assign (.Subscript o i pos) X.env v = (do
   let ov <- holding [v] (eval o X.env)
   let iv <- holding [v, ov] (eval i X.env)
   standAt pos
   holding [v, ov, iv] (setItem ov iv v)
   release [v, ov, iv] []) := by intro _; rfl) : PG X (.Subscript o i pos) (gSub to ti t) := by
 intro pins s σ H v u Q I r h
 rw [ha]
 refine wpAny_bind (wpAny_holding (thn (ho pins s σ H _ I h) fun ov s1 ⟨x, H1, I1, r1, q1⟩ => ?_))
 refine wpAny_bind (wpAny_holding (thn (hi pins s1 σ H1 _ I1 q1) fun iv s2 ⟨y, H2, I2, r2, q2⟩ => ?_))
 refine wpAny_bind (wpAny_standAt (wpAny_bind (wpAny_holding (thn (hs pins s2 σ H2 x y v ov iv u _ I2 r1 r2 r q2) fun _ s3 ⟨H3, I3, q3⟩ => ?_))))
 exact wpAny_release ⟨σ, H3, I3, q3⟩
noncomputable def tAsg (te : TE) (g : TG) : TS := fun D σ H => te σ H fun x H1 => g x σ H1 D.nx
theorem xF {tg e : Expr} {te : TE} {g : TG} (he : PE X e te) (hg : PG X tg g) (hs : swapsWithSole [tg] e pos.line X.env = pure false := by rfl) (hw : swappedStores [tg] e X.env = pure none := by rfl)
  (h1 : (assignEach [tg] X.env).map (·.2) = [assign tg X.env] := by rfl) : PS X (.Assign [tg] e pos) (tAsg te g) := by
 intro pins s σ H D I h
 refine wpAny_Assign_stores (thn (he pins s σ H _ I h) fun v s1 ⟨x, H1, I1, r1, q1⟩ => ?_) hs hw
 rw [h1]
 exact thn (hg pins s1 σ H1 x v _ I1 r1 q1) fun _ s2 q => q
theorem sZ {i : Nat} {x : Str} {e : Expr} {te : TE} {pos' : Pos} (hN : X.N.Nodup) (hi : X.N[i]? = some x) (hx : Loc X.env.scope x) (he : PE X e te) (hs : swapsWith e (some (.Name x pos')) pos.line X.env = pure false := by rfl) (hf : X.fn x = true \/ X.env.scope.names.lookup x = some .local := by first | exact .inl rfl | exact .inr rfl | assumption) :
  PS X (.Assign [.Name x pos'] e pos) (tAsg te (Df i)) := by
 intro pins s σ H D I h
 refine wpAny_Assign_Name (thn (he pins s σ H _ I h) fun v s1 ⟨y, H1, I1, r1, q1⟩ => ?_) hs
 exact n8 I1 hN hi hx r1 (fun s2 I2 => ⟨_, H1, I2, q1⟩) hf
end
section
variable {X : Cx} {pos : Pos}
end
structure It where
 go : Nat -> Hp -> Prop
 yld : Nat -> Hp -> V -> Hp -> Prop
 stop : Nat -> Hp -> Prop
noncomputable def FpOk (X : Cx) (pins : Cv) (H : Hp) (b : Addr) : Prop :=
 H b = none /\ b ≠ X.env.locals /\ b ∉ X.fs /\ (b ∈ X.ex \/ X.s₀.heap.objs.size <= b) /\ (∀ x c, X.env.cells.lookup x = some c -> c ≠ b) /\ ∀ p ∈ X.pn ++ pins, p.1 ≠ b
theorem Inv.fpOk {X : Cx} {pins : Cv} {σ : St} {H H' : Hp} {s : Shared} {b : Addr} (I : Inv X pins σ H s) (hb : s.heap.objs.size <= b) (hn : H' b = none) : FpOk X pins H' b := by
 refine ⟨hn, Nat.ne_of_gt (Nat.lt_of_lt_of_le I.lt hb), I.nofs hb, .inr (Nat.le_trans I.sz hb), fun x c e z => ?_, fun p hp z => ?_⟩
 ·obtain ⟨v, q⟩ := I.cell x c e
  exact absurd (Nat.lt_of_lt_of_le q.lt (by rw [z]; exact hb)) (Nat.lt_irrefl _)
 ·exact absurd (Nat.lt_of_lt_of_le (Heap.lt_size (I.pin p hp).1) (by rw [z]; exact hb)) (Nat.lt_irrefl _)
structure Turn (P : Program) (w : World) (K : W.Frag) (tg : Expr) (J : It) (fp : List Addr) (it : Addr) (tn : Nat -> Heap -> Prop) : Prop where
 mem : it ∈ fp
 obj : ∀ i h, tn i h -> ∀ b ∈ fp, ∃ o, h.get? b = some o /\ ∀ v, o.data ≠ .cell v
 keep : ∀ i h h', tn i h -> (∀ b ∈ fp, ∀ o, h.get? b = some o -> h'.get? b = some o) -> tn i h'
 item : ∀ (X : Cx), X.prog = P -> X.w = w -> X.K = K -> X.calm = true -> ∀ (i : Nat) (pins : Cv) (s : Shared) (σ : St) (H : Hp) (E : Cw), Inv X pins σ H s -> (∀ b ∈ fp, FpOk X pins H b) -> tn i s.heap -> J.go i H ->
  wpAny (model P w) X.A (pyNext (.ref it)) (fun r s1 => ∃ u, r = some u /\
   wpAny (model P w) X.A (letOwnedTupleGo tg (.ref it) u) (fun _ s2 => ∃ x H', Inv X pins σ H' s2 /\ RelV x u /\ J.yld i H x H' /\ tn (i + 1) s2.heap /\ ∀ b ∈ fp, H' b = none) E s1) E s
 done : ∀ (X : Cx), X.prog = P -> X.w = w -> X.K = K -> X.calm = true -> ∀ (i : Nat) (pins : Cv) (s : Shared) (σ : St) (H : Hp) (E : Cw), Inv X pins σ H s -> (∀ b ∈ fp, FpOk X pins H b) -> tn i s.heap -> J.stop i H ->
  wpAny (model P w) X.A (pyNext (.ref it)) (fun r s1 => r = none /\ Inv X pins σ H s1) E s
 self : ∀ (A : Around) (i : Nat) (s : Shared) (Q : Cw) (E : Cw), tn i s.heap -> Q (.ref it) s -> wpAny (model P w) A (pyIter (.ref it)) Q E s
abbrev TI := St -> Hp -> (It -> Hp -> Prop) -> Prop
noncomputable def PIE (X : Cx) (pins : Cv) (σ : St) (tg : Expr) (R : It -> Hp -> Prop) (itv : Value) (s2 : Shared) : Prop :=
 ∃ (it : Addr) (fp : List Addr) (tn : Nat -> Heap -> Prop) (J : It) (H' : Hp), itv = .ref it /\ Inv X pins σ H' s2 /\ Turn X.prog X.w X.K tg J fp it tn /\ tn 0 s2.heap /\ (∀ b ∈ fp, FpOk X pins H' b) /\ R J H'
noncomputable def PI (X : Cx) (tg iter : Expr) (wi : TI) : Prop :=
 ∀ (pins : Cv) (s : Shared) (σ : St) (H : Hp) (R : It -> Hp -> Prop), Inv X pins σ H s -> wi σ H R ->
  wpAny (model X.prog X.w) X.A (eval iter X.env) (fun v s1 => wpAny (model X.prog X.w) X.A (pyIter v) (PIE X pins σ tg R) X.xe s1) X.xe s
theorem t4 {M : Model} {A : Around} {E : Cw} {s : Shared} {tg : Expr} {it : Addr} {u : Value} {o : Obj} {n : String} {vs : Array Value} {Q : Unit -> Shared -> Prop} (ho : s.heap.get? it = some o) (hc : o.cls = .type n) (hd : o.data = .fields vs)
    (hn : ["enumerate", "zip", "dict_itemiterator", "dict_reverseitemiterator", "odict_iterator", "itertools.zip_longest", "itertools.pairwise"].contains n = false) (hQ : Q () s) : wpAny M A (letOwnedTupleGo tg (.ref it) u) Q E s := by
  unfold letOwnedTupleGo
  cases tg <;> first
    | exact wpAny_pure hQ
    | (cases u <;> first
        | exact wpAny_pure hQ
        | (refine wpAny_bind (wpAny_load ho ?_)
           rw [hc, hd]
           show wpAny M A (if (["enumerate", "zip", "dict_itemiterator", "dict_reverseitemiterator", "odict_iterator", "itertools.zip_longest", "itertools.pairwise"].contains n && vs[0]? == some (rawInt _)) = true then _ else _) Q E s
           rw [if_neg (by intro h; rw [hn, Bool.false_and] at h; cases h)]
           exact wpAny_pure hQ))
noncomputable def Itl (K : W.Frag) (a : Addr) : It :=
 ⟨fun i H => ∃ xs x, SqL K H a xs /\ xs[i]? = some x, fun i H x H' => H' = H /\ ∀ xs, SqL K H a xs -> xs[i]? = some x, fun i H => ∃ xs, SqL K H a xs /\ xs.length <= i⟩
noncomputable def Itt (K : W.Frag) (a : Addr) : It :=
 ⟨fun i H => ∃ xs x, SqT K H a xs /\ xs[i]? = some x, fun i H x H' => H' = H /\ ∀ xs, SqT K H a xs -> xs[i]? = some x, fun i H => ∃ xs, SqT K H a xs /\ xs.length <= i⟩
noncomputable def Itr (lo : Int) (n : Nat) : It := ⟨fun i _ => i < n, fun i H x H' => H' = H /\ x = .int (lo + i), fun i _ => n <= i⟩
theorem rm {P : Program} {w : World} {K : W.Frag} {tg : Expr} (a it : Addr) : Turn P w K tg (Itl K a) [it] it (fun i h => h.IsListIter it a i) where
 mem := by simp
 obj := fun i h st b hb => by
  have e : b = it := by simpa using hb
  subst e
  obtain ⟨o, e, c, d⟩ := st
  exact ⟨o, e, fun v z => by rw [d] at z; cases z⟩
 keep := fun i h h' st k => st.at fun o e => k it (by simp) o e
 item := by
  intro X hP hw hK hc i pins s σ H E I hf st hg
  subst hP hw hK
  obtain ⟨xs, x, hq, hx⟩ := hg
  obtain ⟨its, rv, p, hz⟩ := I.list hq
  obtain ⟨u, hu, ru⟩ := rv.get hx
  obtain ⟨f0, f1, f2, f3, f4, f5⟩ := hf it (by simp)
  refine wpAny_pyNext_list_item st p.isList (x := u) (by simpa using hu) fun h' st' sb => ?_
  have I1 : Inv X pins σ H { s with heap := h' } := I.turned (t' := s.toks) (fun b o hb e => (sb.2 b hb).trans e) f0 f1 f3 f4 f5
  obtain ⟨o, e, c, d⟩ := id st'
  exact ⟨u, rfl, t4 (s := { s with heap := h' }) e c d (by decide) ⟨x, H, I1, ru, ⟨rfl, fun ys hy => by rw [I.list_inj hy hq]; exact hx⟩, st', fun b hb => (hf b hb).1⟩⟩
 done := by
  intro X hP hw hK hc i pins s σ H E I hf st hg
  subst hP hw hK
  obtain ⟨xs, hq, hx⟩ := hg
  obtain ⟨its, rv, p, hz⟩ := I.list hq
  obtain ⟨f0, f1, f2, f3, f4, f5⟩ := hf it (by simp)
  have hl := rv.length
  exact wpAny_pyNext_list_end (I.ok.hd hc) st p.isList (by simp; lia) fun h' eb => ⟨rfl, I.turned (t' := s.toks) (fun b o hb e => eb b o hb e) f0 f1 f3 f4 f5⟩
 self := fun _ _ _ _ _ st h => wpAny_pyIter_listiter st h
theorem oU {P : Program} {w : World} {K : W.Frag} {tg : Expr} (a it : Addr) : Turn P w K tg (Itt K a) [it] it (fun i h => h.IsTupleIter it a i) where
 mem := by simp
 obj := fun i h st b hb => by
  have e : b = it := by simpa using hb
  subst e
  obtain ⟨o, e, c, d⟩ := st
  exact ⟨o, e, fun v z => by rw [d] at z; cases z⟩
 keep := fun i h h' st k => st.at fun o e => k it (by simp) o e
 item := by
  intro X hP hw hK hc i pins s σ H E I hf st hg
  subst hP hw hK
  obtain ⟨xs, x, hq, hx⟩ := hg
  obtain ⟨its, rv, p, hz⟩ := I.tuple hq
  obtain ⟨u, hu, ru⟩ := rv.get hx
  obtain ⟨f0, f1, f2, f3, f4, f5⟩ := hf it (by simp)
  refine wpAny_pyNext_tuple_item st (show s.heap.IsTuple a its.toArray from p) (x := u) (by simpa using hu) fun h' st' sb => ?_
  have I1 : Inv X pins σ H { s with heap := h' } := I.turned (t' := s.toks) (fun b o hb e => (sb.2 b hb).trans e) f0 f1 f3 f4 f5
  obtain ⟨o, e, c, d⟩ := id st'
  exact ⟨u, rfl, t4 (s := { s with heap := h' }) e c d (by decide) ⟨x, H, I1, ru, ⟨rfl, fun ys hy => by rw [I.tuple_inj hy hq]; exact hx⟩, st', fun b hb => (hf b hb).1⟩⟩
 done := by
  intro X hP hw hK hc i pins s σ H E I hf st hg
  subst hP hw hK
  obtain ⟨xs, hq, hx⟩ := hg
  obtain ⟨its, rv, p, hz⟩ := I.tuple hq
  obtain ⟨f0, f1, f2, f3, f4, f5⟩ := hf it (by simp)
  have hl := rv.length
  exact wpAny_pyNext_tuple_end (I.ok.hd hc) st (show s.heap.IsTuple a its.toArray from p) (by simp; lia) fun h' eb => ⟨rfl, I.turned (t' := s.toks) (fun b o hb e => eb b o hb e) f0 f1 f3 f4 f5⟩
 self := fun _ _ _ _ _ st h => wpAny_pyIter_tupleiter st h
theorem oV {P : Program} {w : World} {K : W.Frag} {tg : Expr} (it : Addr) (lo : Int) (n : Nat) : Turn P w K tg (Itr lo n) [it] it (fun i h => IsRangeIter h it (lo + (i : Nat) * 1) ((n : Int) - (i : Nat)) 1) where
 mem := by simp
 obj := fun i h st b hb => by
  have e : b = it := by simpa using hb
  subst e
  exact ⟨_, st, fun v z => by
   have z' : Data.fields _ = Data.cell v := z
   cases z'⟩
 keep := fun i h h' st k => k it (by simp) _ st
 item := by
  intro X hP hw hK hc i pins s σ H E I hf st hg
  subst hP hw hK
  obtain ⟨f0, f1, f2, f3, f4, f5⟩ := hf it (by simp)
  have W := Walks.range (prog := X.prog) (w := X.w) (I.ok.hd hc) it lo 1 n
  refine W.item i s _ _ hg st fun v h' tk hv st' kk => ?_
  obtain ⟨t, rfl⟩ := hv
  have I1 : Inv X pins σ H { s with heap := h', toks := tk } := I.turned (fun b o hb e => kk b o (by simpa using hb) e) f0 f1 f3 f4 f5
  refine ⟨_, rfl, t4 (s := { s with heap := h', toks := tk }) (n := "range_iterator") st' rfl rfl (by decide) ⟨.int (lo + i), H, I1, ⟨t, ?_⟩, ⟨rfl, rfl⟩, st', fun b hb => (hf b hb).1⟩⟩
  rw [Int.mul_one]
 done := by
  intro X hP hw hK hc i pins s σ H E I hf st hg
  subst hP hw hK
  obtain ⟨f0, f1, f2, f3, f4, f5⟩ := hf it (by simp)
  exact wpAny_pyNext_range_end (I.ok.hd hc) st (by have : n <= i := hg; lia) fun h' eb => ⟨rfl, I.turned (t' := s.toks) (fun b o hb e => eb b o hb e) f0 f1 f3 f4 f5⟩
 self := fun _ _ _ _ _ st h => wpAny_pyIter_rangeiter st h
section
variable {X : Cx} {tg : Expr}
theorem t5 {pins : Cv} {σ : St} {H : Hp} {s : Shared} {R : It -> Hp -> Prop} {E : Cw} {lo hi : Int} {t u v : Tok} {tk : Nat} (I : Inv X pins σ H s) (h1 : -(2 ^ 62) <= lo) (h2 : lo < 2 ^ 62) (h3 : -(2 ^ 62) <= hi) (h4 : hi < 2 ^ 62)
  (q : R (Itr lo (hi - lo).toNat) H) : wpAny (model X.prog X.w) X.A (pyIter (.ref s.heap.objs.size)) (PIE X pins σ tg R) E { s with heap := s.heap.push { cls := .type "range", data := .fields #[.int lo t, .int hi u, .int 1 v] }, toks := tk } := by
 refine wpAny_pyIter_range (IsRange.new ..) (small_one h1 h2 h3 h4) ?_
 have I1 : Inv X pins σ H { s with heap := s.heap.push { cls := .type "range", data := .fields #[.int lo t, .int hi u, .int 1 v] }, toks := tk } := I.kept fun b o e => Heap.get?_push_of_some _ e
 refine ⟨(s.heap.push { cls := .type "range", data := .fields #[.int lo t, .int hi u, .int 1 v] }).objs.size, [(s.heap.push { cls := .type "range", data := .fields #[.int lo t, .int hi u, .int 1 v] }).objs.size], _, _, H, rfl,
  I1.kept (t' := tk) fun b o e => Heap.get?_push_of_some _ e, oV _ lo (hi - lo).toNat, ?_, fun b hb => ?_, q⟩
 ·have e1 : lo + ((0 : Nat) : Int) * 1 = lo := by simp
  have e2 : (((hi - lo).toNat : Nat) : Int) - ((0 : Nat) : Int) = Builtin.Range.rangeSize lo hi 1 := by rw [rangeSize_one]; split <;> lia
  show IsRangeIter _ _ (lo + ((0 : Nat) : Int) * 1) ((((hi - lo).toNat : Nat) : Int) - ((0 : Nat) : Int)) 1
  rw [e1, e2]
  exact Heap.get?_push_size _ rfl
 ·have e : b = (s.heap.push { cls := .type "range", data := .fields #[.int lo t, .int hi u, .int 1 v] }).objs.size := by simpa using hb
  subst e
  exact I1.fpOk (Nat.le_refl _) (I1.hok.fresh (Nat.le_refl _))
noncomputable def FF (ta : TA) : TI := fun σ H R => ta σ H fun vs H1 => ∃ j : Int, vs = [.int j] /\ -(2 ^ 62) <= j /\ j < 2 ^ 62 /\ R (Itr 0 j.toNat) H1
theorem kR {a : Expr} {ta : TA} {p pos : Pos} (hg : Gl X "range") (hm : X.mg "range" = none) (ha : PA X [a] ta) (hs : starEach [a] X.env = [(false, eval a X.env)] := by rfl) : PI X tg (.Call (.Name "range" p) [a] [] pos) (FF ta) := by
 intro pins s σ H R I h
 refine Call_ (fP I hg hm boot_range (callWith_type1 (thn (ha pos pins s σ H _ I h) fun us s1 ⟨vs, H1, I1, r1, q1⟩ => ?_) hs rfl))
 obtain ⟨j, e, q1, q2, q⟩ := q1
 subst e
 cases r1 with
 | cons r rr =>
  cases rr
  obtain ⟨t, rfl⟩ := r
  exact call_range_1 (t5 I1 (by lia) (by lia) q1 q2 (by simpa using q))
noncomputable def tFor (wi : TI) (g : TG) (tb : TS) : TS := fun D σ H => wi σ H fun J H1 => ∃ W : Nat -> Nat -> St -> Hp -> Prop, (∃ m, W 0 m σ H1) /\ ∀ i m σ H, W i m σ H ->
 (J.stop i H /\ D.nx σ H) \/ (J.go i H /\ ∃ N : St -> Hp -> Prop, (∀ σ' H', N σ' H' -> ∃ m', m' < m /\ W (i + 1) m' σ' H') /\ ∀ x H', J.yld i H x H' -> g x σ H' fun σ2 H2 => tb { D with nx := N, ct := N, bk := D.nx } σ2 H2)
noncomputable def E6 (fp : List Addr) (h : Heap) : Cv := fp.filterMap fun b => (h.get? b).map fun o => (b, o)
theorem fk {fp : List Addr} {h : Heap} {b : Addr} {o : Obj} (hb : b ∈ fp) (e : h.get? b = some o) : (b, o) ∈ E6 fp h := List.mem_filterMap.mpr ⟨b, hb, by rw [e]; rfl⟩
theorem kT {fp : List Addr} {h : Heap} {p : Addr × Obj} (hp : p ∈ E6 fp h) : p.1 ∈ fp /\ h.get? p.1 = some p.2 := by
 obtain ⟨b, hb, e⟩ := List.mem_filterMap.mp hp
 cases q : h.get? b with
 | none => rw [q] at e; cases e
 | some o =>
  rw [q] at e
  have e' : (b, o) = p := Option.some.inj e
  subst e'
  exact ⟨hb, q⟩
theorem Inv.pinned {pins : Cv} {σ : St} {H : Hp} {s : Shared} {fp : List Addr} (I : Inv X pins σ H s) (hf : ∀ b ∈ fp, FpOk X pins H b) (ho : ∀ b ∈ fp, ∃ o, s.heap.get? b = some o /\ ∀ v, o.data ≠ .cell v) : Inv X (pins ++ E6 fp s.heap) σ H s :=
 I.pins_of fun p hp => (List.mem_append.mp hp).elim (fun z => I.pin p (List.mem_append_right _ z)) fun z => by
  obtain ⟨hb, e⟩ := kT z
  obtain ⟨f0, f1, f2, _⟩ := hf p.1 hb
  obtain ⟨o, e', d⟩ := ho p.1 hb
  rw [e] at e'; cases e'
  exact ⟨e, f0, f1, f2, d⟩
theorem Inv.unpinned {pins pl : Cv} {σ : St} {H : Hp} {s : Shared} (I : Inv X (pins ++ pl) σ H s) : Inv X pins σ H s := I.pins_of fun p hp => I.pin p (List.mem_append_right _ (List.mem_append_left _ hp))
theorem xG {iter : Expr} {body : List Stmt} {wi : TI} {g : TG} {tb : TS} {pos : Pos} (hp : PassesOwn (model X.prog X.w) X.A X.env X.xe) (hc : X.calm = true) (hi : PI X tg iter wi) (hg : PG X tg g) (hb : PSs X body tb)
  (hs : ∀ x, foldedSetIterable iter X.env x = pure x := by intro _; rfl) : PS X (.For tg iter body [] pos) (tFor wi g tb) := by
 intro pins s σ H D I h
 refine wpAny_For (thn (hi pins s σ H _ I h) fun v s1 h1 => thn h1 fun itv s2 h2 => ?_) hs
 obtain ⟨it, fp, tn, J, H2, e, I2, T, st2, f2, W, ⟨m0, w0⟩, turn⟩ := h2
 subst e
 have stat : ∀ {H' : Hp}, (∀ b ∈ fp, H' b = none) -> ∀ b ∈ fp, FpOk X pins H' b := fun hn b hb => ⟨hn b hb, (f2 b hb).2⟩
 refine codeAny_forLoop_any (fun n s' => ∃ i σ' H', Inv X pins σ' H' s' /\ tn i s'.heap /\ (∀ b ∈ fp, H' b = none) /\ W i n σ' H') ?_ m0 ⟨0, σ, H2, I2, st2, fun b hb => (f2 b hb).1, w0⟩
 rintro n s3 ⟨i, σ3, H3, I3, st3, fr3, w3⟩
 rcases turn i n σ3 H3 w3 with ⟨stop, qn⟩ | ⟨go, N, hN, step⟩
 ·refine wpAny_passesOwn hp (thn (T.done X rfl rfl rfl hc i pins s3 σ3 H3 X.xe I3 (stat fr3) st3 stop) fun r s4 ⟨hr, I4⟩ => ?_)
  subst hr
  exact wpAny_execs_nil ⟨σ3, H3, I4, qn⟩
 ·refine wpAny_passesOwn hp (thn (T.item X rfl rfl rfl hc i pins s3 σ3 H3 X.xe I3 (stat fr3) st3 go) fun r s4 ⟨u, hr, h4⟩ => ?_)
  subst hr
  refine wpAny_passesOwn hp (thn h4 fun _ s5 ⟨x, H5, I5, r5, y5, st5, fr5⟩ => ?_)
  have I5' := I5.pinned (stat fr5) (T.obj _ _ st5)
  refine wpAny_passesOwn hp (thn (hg _ s5 σ3 H5 x u _ I5' r5 (step x H5 y5)) fun _ s6 ⟨σ6, H6, I6, q6⟩ => ?_)
  refine wpAny_passesOwn hp (thn (hb _ s6 σ6 H6 _ I6 q6) fun f s7 q7 => ?_)
  have again : ∀ {σ7 : St} {H7 : Hp}, Inv X (pins ++ E6 fp s5.heap) σ7 H7 s7 -> N σ7 H7 -> ∃ m, m < n /\ ∃ i σ' H', Inv X pins σ' H' s7 /\ tn i s7.heap /\ (∀ b ∈ fp, H' b = none) /\ W i m σ' H' := fun {σ7 H7} I7 n7 => by
   obtain ⟨m', hm, w7⟩ := hN σ7 H7 n7
   refine ⟨m', hm, i + 1, σ7, H7, I7.unpinned, T.keep _ _ _ st5 fun b hb o e => (I7.pin (b, o) (List.mem_append_right _ (List.mem_append_right _ (fk hb e)))).1, fun b hb => ?_, w7⟩
   obtain ⟨o, e, d⟩ := T.obj _ _ st5 b hb
   exact (I7.pin (b, o) (List.mem_append_right _ (List.mem_append_right _ (fk hb e)))).2.1
  cases f with
  | next => obtain ⟨σ7, H7, I7, n7⟩ := q7; exact again I7 n7
  | cont => obtain ⟨σ7, H7, I7, n7⟩ := q7; exact again I7 n7
  | brk => obtain ⟨σ7, H7, I7, q7⟩ := q7; exact ⟨σ7, H7, I7.unpinned, q7⟩
  | ret v => obtain ⟨x7, σ7, H7, I7, r7, q7⟩ := q7; exact ⟨x7, σ7, H7, I7.unpinned, r7, q7⟩
end
abbrev R2 := V -> V -> Hp -> VK -> Prop
noncomputable def OpR (X : Cx) (f : Value -> Value -> Sem Value) (r : R2) : Prop :=
 ∀ (pins : Cv) (s : Shared) (σ : St) (H : Hp) (x y : V) (v u : Value) (Q : VK), Inv X pins σ H s -> RelV x v -> RelV y u -> r x y H Q ->
  wpAny (model X.prog X.w) X.A (f v u) (EP X pins σ Q) X.xe s
noncomputable def UnR (X : Cx) (f : Value -> Sem Value) (r : V -> Hp -> VK -> Prop) : Prop :=
 ∀ (pins : Cv) (s : Shared) (σ : St) (H : Hp) (x : V) (v : Value) (Q : VK), Inv X pins σ H s -> RelV x v -> r x H Q ->
  wpAny (model X.prog X.w) X.A (f v) (EP X pins σ Q) X.xe s
noncomputable def Di (X : Cx) (f : Value) (r : List V -> Hp -> VK -> Prop) : Prop :=
 ∀ (pins : Cv) (s : Shared) (σ : St) (H : Hp) (xs : List V) (us : List Value) (Q : VK), Inv X pins σ H s -> Vals xs us -> r xs H Q ->
  wpAny (model X.prog X.w) X.A (call f us) (EP X pins σ Q) X.xe s
noncomputable def TruR (X : Cx) (r : V -> Hp -> (Bool -> Hp -> Prop) -> Prop) : Prop :=
 ∀ (pins : Cv) (s : Shared) (σ : St) (H : Hp) (x : V) (v : Value) (Q : Bool -> Hp -> Prop), Inv X pins σ H s -> RelV x v -> r x H Q ->
  wpAny (model X.prog X.w) X.A (truthy v) (TP X pins σ Q) X.xe s
noncomputable def tOp (r : R2) (ta tb : TE) : TE := fun σ H Q => ta σ H fun x H1 => tb σ H1 fun y H2 => r x y H2 Q
noncomputable def tUn (r : V -> Hp -> VK -> Prop) (ta : TE) : TE := fun σ H Q => ta σ H fun x H1 => r x H1 Q
noncomputable def rI (C : Int -> Int -> Prop) (g : Int -> Int -> V) : R2 := fun x y H Q => ∃ i j, x = .int i /\ y = .int j /\ C i j /\ Q (g i j) H
noncomputable def rI0 (g : Int -> Int -> V) : R2 := fun x y H Q => ∃ i j, x = .int i /\ y = .int j /\ Q (g i j) H
noncomputable def rU (g : Int -> V) : V -> Hp -> VK -> Prop := fun x H Q => ∃ i, x = .int i /\ Q (g i) H
section
variable {X : Cx} {a b c : Expr} {ta tb tc : TE} {pos : Pos}
theorem binT (ha : PE X a ta) (hb : PE X b tb) {pins : Cv} {s : Shared} {σ : St} {H : Hp} {R : V -> V -> Hp -> Prop} (I : Inv X pins σ H s)
  (h : ta σ H fun x H1 => tb σ H1 fun y H2 => R x y H2) {Q : Cw} {f : Value -> Value -> Sem Value}
  (hf : ∀ v u s2 x y H2, Inv X pins σ H2 s2 -> RelV x v -> RelV y u -> R x y H2 -> wpAny (model X.prog X.w) X.A (f v u) Q X.xe s2) :
  wpAny (model X.prog X.w) X.A (eval a X.env) (fun v s₁ => wpAny (model X.prog X.w) X.A (eval b X.env) (fun u s₂ => wpAny (model X.prog X.w) X.A (f v u) Q X.xe s₂) X.xe s₁) X.xe s := by
 refine thn (ha pins s σ H _ I h) fun v s1 ⟨x, H1, I1, r1, q1⟩ => ?_
 refine thn (hb pins s1 σ H1 _ I1 q1) fun u s2 ⟨y, H2, I2, r2, q2⟩ => ?_
 exact hf v u s2 x y H2 I2 r1 r2 q2
theorem zN {op : Operator} {r : R2} (ho : OpR X (binaryOp op) r) (ha : PE X a ta) (hb : PE X b tb) : PE X (.BinOp a op b pos) (tOp r ta tb) := by
 intro pins s σ H Q I h
 exact wpAny_BinOp (binT ha hb I h fun v u s2 x y H2 I2 rx ry q => ho pins s2 σ H2 x y v u Q I2 rx ry q)
theorem zO {op : UnaryOp} {r : V -> Hp -> VK -> Prop} (ho : UnR X (unaryOp op) r) (ha : PE X a ta) : PE X (.UnaryOp op a pos) (tUn r ta) := by
 intro pins s σ H Q I h
 exact UnaryOp_ (thn (ha pins s σ H _ I h) fun v s1 ⟨x, H1, I1, r1, q1⟩ => ho pins s1 σ H1 x v Q I1 r1 q1)
theorem opI {f : Value -> Value -> Sem Value} {C : Int -> Int -> Prop} {g : Int -> Int -> Int}
  (rule : ∀ (i j : Int) (t u : Tok) (s : Shared) (Q : Cw) (E : Cw), C i j -> Q (.int (g i j) s.toks) { s with toks := s.toks + 1 } -> wpAny (model X.prog X.w) X.A (f (.int i t) (.int j u)) Q E s) :
  OpR X f (rI C fun i j => .int (g i j)) := by
 intro pins s σ H x y v u Q I rx ry h
 obtain ⟨i, j, rfl, rfl, hc, q⟩ := h
 obtain ⟨t, rfl⟩ := rx
 obtain ⟨t', rfl⟩ := ry
 exact rule i j t t' s _ _ hc ⟨.int (g i j), H, I.tok _, ⟨_, rfl⟩, q⟩
theorem opI0 {f : Value -> Value -> Sem Value} {g : Int -> Int -> Int}
  (rule : ∀ (i j : Int) (t u : Tok) (s : Shared) (Q : Cw) (E : Cw), Q (.int (g i j) s.toks) { s with toks := s.toks + 1 } -> wpAny (model X.prog X.w) X.A (f (.int i t) (.int j u)) Q E s) :
  OpR X f (rI0 fun i j => .int (g i j)) := by
 intro pins s σ H x y v u Q I rx ry h
 obtain ⟨i, j, rfl, rfl, q⟩ := h
 obtain ⟨t, rfl⟩ := rx
 obtain ⟨t', rfl⟩ := ry
 exact rule i j t t' s _ _ ⟨.int (g i j), H, I.tok _, ⟨_, rfl⟩, q⟩
theorem opB0 {f : Value -> Value -> Sem Value} {g : Int -> Int -> Bool}
  (rule : ∀ (i j : Int) (t u : Tok) (s : Shared) (Q : Cw) (E : Cw), Q (.bool (g i j)) s -> wpAny (model X.prog X.w) X.A (f (.int i t) (.int j u)) Q E s) :
  OpR X f (rI0 fun i j => .bl (g i j)) := by
 intro pins s σ H x y v u Q I rx ry h
 obtain ⟨i, j, rfl, rfl, q⟩ := h
 obtain ⟨t, rfl⟩ := rx
 obtain ⟨t', rfl⟩ := ry
 exact rule i j t t' s _ _ ⟨.bl (g i j), H, I, rfl, q⟩
noncomputable def CDiv (i j : Int) : Prop := 0 < j /\ j < 1073741824
noncomputable def CMul (i j : Int) : Prop := (-(2 ^ 64) < i /\ i < 2 ^ 64) \/ (-(2 ^ 64) < j /\ j < 2 ^ 64)
theorem CMul.ok {i j : Int} (h : CMul i j) : IntMulOk i j := by
 rcases h with ⟨h1, h2⟩ | ⟨h1, h2⟩
 ·exact .of_left (intBits_le_64 h1 h2)
 ·exact .of_right (intBits_le_64 h1 h2)
theorem xH : OpR X (binaryOp .Add) (rI0 fun i j => .int (i + j)) := opI0 fun _ _ _ _ _ _ _ q => add_int q
theorem xI : OpR X (binaryOp .Sub) (rI0 fun i j => .int (i - j)) := opI0 fun _ _ _ _ _ _ _ q => sub_int q
theorem xJ : OpR X (binaryOp .Mult) (rI CMul fun i j => .int (i * j)) := opI fun _ _ _ _ _ _ _ hc q => mul_int q hc.ok
theorem vj : OpR X (binaryOp .FloorDiv) (rI CDiv fun i j => .int (i / j)) := opI fun i j _ _ _ _ _ hc q => by
 have h1 : (0 : Int) < j := hc.1
 have h2 : j < 1073741824 := hc.2
 exact floordiv_int (by lia) (by rw [Int.fdiv_eq_ediv_of_nonneg i (by lia)]; exact q) (.inl (PyProof.noPylong_small (by lia)))
theorem xK : OpR X (binaryOp .Mod) (rI (fun _ j => 0 < j) fun i j => .int (i % j)) := opI fun i j _ _ _ _ _ hc q => by
 have h1 : (0 : Int) < j := hc
 exact mod_int' (by lia) (by rw [Int.fmod_eq_emod_of_nonneg i (by lia)]; exact q)
theorem unI {f : Value -> Sem Value} {g : Int -> Int}
  (rule : ∀ (i : Int) (t : Tok) (s : Shared) (Q : Cw) (E : Cw), Q (.int (g i) s.toks) { s with toks := s.toks + 1 } -> wpAny (model X.prog X.w) X.A (f (.int i t)) Q E s) :
  UnR X f (rU fun i => .int (g i)) := by
 intro pins s σ H x v Q I rx h
 obtain ⟨i, rfl, q⟩ := h
 obtain ⟨t, rfl⟩ := rx
 exact rule i t s _ _ ⟨.int (g i), H, I.tok _, ⟨_, rfl⟩, q⟩
theorem xM : UnR X (unaryOp .USub) (rU fun i => .int (-i)) := unI fun _ _ _ _ _ q => neg_int q
end
noncomputable def scal : V -> V -> Bool
 | .non, .non => true | .non, .int _ => true | .int _, .non => true | .non, .bl _ => true | .bl _, .non => true | .non, .str _ => true | .str _, .non => true
 | .int _, .int _ => true | .bl _, .bl _ => true | .str _, .str _ => true | .byt _, .byt _ => true
 | .int _, .str _ => true | .str _, .int _ => true | .bl _, .str _ => true | .str _, .bl _ => true
 | _, _ => false
noncomputable def rEq : R2 := fun x y H Q => scal x y = true /\ Q (.bl (decide (x = y))) H
noncomputable def rNe : R2 := fun x y H Q => scal x y = true /\ Q (.bl (!decide (x = y))) H
theorem qf {i j : Int} : decide (V.int i = V.int j) = (i == j) := by
 rw [Bool.eq_iff_iff]
 simp
theorem t6 {i j : Bool} : decide (V.bl i = V.bl j) = (i == j) := by
 rw [Bool.eq_iff_iff]
 simp
theorem qg {i j : Str} : decide (V.str i = V.str j) = (i == j) := by
 rw [Bool.eq_iff_iff]
 simp
theorem qh {i j : Array UInt8} : decide (V.byt i = V.byt j) = (i.toList == j.toList) := by
 rw [Bool.eq_iff_iff]
 cases i
 cases j
 simp
section
variable {X : Cx} {a b c : Expr} {ta tb tc : TE} {pos : Pos}
theorem aF {pins : Cv} {σ : St} {H : Hp} {s : Shared} {Q : VK} {k k' : Bool} (I : Inv X pins σ H s) (q : Q (.bl k) H) (e : k = k') : EP X pins σ Q (.bool k') s := by
 subst e
 exact ⟨.bl k, H, I, rfl, q⟩
theorem qi : OpR X (compareOp .Eq) rEq := by
 intro pins s σ H x y v u Q I rx ry h
 obtain ⟨hs, q⟩ := h
 cases x with
 | non =>
  cases rx
  cases y with
  | non => cases ry; exact PySem.EqNone.eq_none_none (aF I q (by simp))
  | bl j => cases ry; exact PySem.EqNone.eq_none_bool (aF I q (by simp))
  | int j => obtain ⟨t', rfl⟩ := ry; exact PySem.EqNone.eq_none_int (aF I q (by simp))
  | str j => obtain ⟨t', rfl⟩ := ry; exact PySem.EqNone.eq_none_str (aF I q (by simp))
  | _ => exact absurd (show false = true from hs) Bool.false_ne_true
 | bl i =>
  cases rx
  cases y with
  | non => cases ry; exact PySem.EqNone.eq_bool_none (aF I q (by simp))
  | bl j => cases ry; exact eq_bool (aF I q t6)
  | str j => obtain ⟨t', rfl⟩ := ry; exact PySem.EqMixed.eq_bool_str (aF I q (by simp))
  | _ => exact absurd (show false = true from hs) Bool.false_ne_true
 | int i =>
  obtain ⟨t, rfl⟩ := rx
  cases y with
  | non => cases ry; exact PySem.EqNone.eq_int_none (aF I q (by simp))
  | int j => obtain ⟨t', rfl⟩ := ry; exact eq_int (aF I q qf)
  | str j => obtain ⟨t', rfl⟩ := ry; exact PySem.EqMixed.eq_int_str (aF I q (by simp))
  | _ => exact absurd (show false = true from hs) Bool.false_ne_true
 | str i =>
  obtain ⟨t, rfl⟩ := rx
  cases y with
  | non => cases ry; exact PySem.EqNone.eq_str_none (aF I q (by simp))
  | bl j => cases ry; exact PySem.EqMixed.eq_str_bool (aF I q (by simp))
  | int j => obtain ⟨t', rfl⟩ := ry; exact PySem.EqMixed.eq_str_int (aF I q (by simp))
  | str j => obtain ⟨t', rfl⟩ := ry; exact eq_str (aF I q qg)
  | _ => exact absurd (show false = true from hs) Bool.false_ne_true
 | byt i =>
  obtain ⟨t, rfl⟩ := rx
  cases y with
  | byt j => obtain ⟨t', rfl⟩ := ry; exact W.eq_bytes (aF I q qh)
  | _ => exact absurd (show false = true from hs) Bool.false_ne_true
 | _ => cases y <;> exact absurd (show false = true from hs) Bool.false_ne_true
theorem t7 : OpR X (compareOp .NotEq) rNe := by
 intro pins s σ H x y v u Q I rx ry h
 obtain ⟨hs, q⟩ := h
 cases x with
 | non =>
  cases rx
  cases y with
  | non => cases ry; exact PySem.EqNone.ne_none_none (aF I q (by simp))
  | bl j => cases ry; exact PySem.EqNone.ne_none_bool (aF I q (by simp))
  | int j => obtain ⟨t', rfl⟩ := ry; exact PySem.EqNone.ne_none_int (aF I q (by simp))
  | str j => obtain ⟨t', rfl⟩ := ry; exact PySem.EqNone.ne_none_str (aF I q (by simp))
  | _ => exact absurd (show false = true from hs) Bool.false_ne_true
 | bl i =>
  cases rx
  cases y with
  | non => cases ry; exact PySem.EqNone.ne_bool_none (aF I q (by simp))
  | bl j => cases ry; exact ne_bool (aF I q (congrArg not t6))
  | str j => obtain ⟨t', rfl⟩ := ry; exact PySem.EqMixed.ne_bool_str (aF I q (by simp))
  | _ => exact absurd (show false = true from hs) Bool.false_ne_true
 | int i =>
  obtain ⟨t, rfl⟩ := rx
  cases y with
  | non => cases ry; exact PySem.EqNone.ne_int_none (aF I q (by simp))
  | int j => obtain ⟨t', rfl⟩ := ry; exact ne_int (aF I q (congrArg not qf))
  | str j => obtain ⟨t', rfl⟩ := ry; exact PySem.EqMixed.ne_int_str (aF I q (by simp))
  | _ => exact absurd (show false = true from hs) Bool.false_ne_true
 | str i =>
  obtain ⟨t, rfl⟩ := rx
  cases y with
  | non => cases ry; exact PySem.EqNone.ne_str_none (aF I q (by simp))
  | bl j => cases ry; exact PySem.EqMixed.ne_str_bool (aF I q (by simp))
  | int j => obtain ⟨t', rfl⟩ := ry; exact PySem.EqMixed.ne_str_int (aF I q (by simp))
  | str j => obtain ⟨t', rfl⟩ := ry; exact ne_str (aF I q (congrArg not qg))
  | _ => exact absurd (show false = true from hs) Bool.false_ne_true
 | byt i =>
  obtain ⟨t, rfl⟩ := rx
  cases y with
  | byt j => obtain ⟨t', rfl⟩ := ry; exact W.ne_bytes (aF I q (congrArg not qh))
  | _ => exact absurd (show false = true from hs) Bool.false_ne_true
 | _ => cases y <;> exact absurd (show false = true from hs) Bool.false_ne_true
theorem wL : OpR X (compareOp .Lt) (rI0 fun i j => .bl (decide (i < j))) := opB0 fun _ _ _ _ _ _ _ q => lt_int q
theorem wM : OpR X (compareOp .LtE) (rI0 fun i j => .bl (decide (i <= j))) := opB0 fun _ _ _ _ _ _ _ q => le_int q
theorem wN : OpR X (compareOp .Gt) (rI0 fun i j => .bl (decide (j < i))) := opB0 fun _ _ _ _ _ _ _ q => gt_int q
theorem wO : OpR X (compareOp .GtE) (rI0 fun i j => .bl (decide (j <= i))) := opB0 fun _ _ _ _ _ _ _ q => ge_int q
theorem nomark (b : Expr) {op : CmpOp} (h : op ≠ .In := by decide) (h2 : op ≠ .NotIn := by decide) : behindInMarks op b = false := by
 have e1 : (op == CmpOp.In) = false := by cases op <;> first | rfl | exact absurd rfl h
 have e2 : (op == CmpOp.NotIn) = false := by cases op <;> first | rfl | exact absurd rfl h2
 cases b <;> simp [behindInMarks, e1, e2]
theorem vm {op : CmpOp} {r : R2} (ho : OpR X (compareOp op) r) (ha : PE X a ta) (hb : PE X b tb) (hm : behindInMarks op b = false) : PE X (.Compare a [op] [b] pos) (tOp r ta tb) := by
 intro pins s σ H Q I h
 exact wpAny_Compare1 (binT ha hb I h fun v u s2 x y H2 I2 rx ry q => ho pins s2 σ H2 x y v u Q I2 rx ry q) hm
noncomputable def Fm (t : TE) : TT := fun σ H Q => t σ H fun x H' => ∃ k, x = .bl k /\ Q k H'
theorem qj {op : CmpOp} {r : R2} (ho : OpR X (compareOp op) r) (ha : PE X a ta) (hb : PE X b tb) (hm : behindInMarks op b = false) : PT X (.Compare a [op] [b] pos) (Fm (tOp r ta tb)) := by
 intro pins s σ H Q I h
 refine wpAny_isTrue_Compare1 (thn (ha pins s σ H _ I h) fun v s1 ⟨x, H1, I1, r1, q1⟩ => thn (hb pins s1 σ H1 _ I1 q1) fun u s2 ⟨y, H2, I2, r2, q2⟩ =>
  thn (ho pins s2 σ H2 x y v u _ I2 r1 r2 q2) fun c s3 ⟨z, H3, I3, r3, k, e, q3⟩ => ?_) hm
 subst e
 cases r3
 exact wpAny_truthy_bool ⟨H3, I3, q3⟩
noncomputable def TruV (K : W.Frag) (x : V) (H : Hp) (k : Bool) : Prop :=
 match x with
 | .non => k = false
 | .bl b => k = b
 | .int i => k = (i != 0)
 | .str y => y.length <= sizeLine /\ k = ((y.length : Int) != 0)
 | .byt y => y.size <= sizeLine /\ k = ((y.size : Int) != 0)
 | .ref p => (∃ xs, SqL K H p xs /\ k = !xs.isEmpty) \/ (∃ xs, SqT K H p xs /\ k = !xs.isEmpty) \/ ∃ kvs, H p = some (.dK kvs) /\ k = !kvs.isEmpty
 | _ => False
theorem oW {κ : Type} {kvs : List (κ × V)} {vs : List (κ × Value)} (r : KV kvs vs) : (!vs.isEmpty) = !kvs.isEmpty := by
 cases r <;> rfl
theorem jt {xs : List V} {its : List Value} (r : Vals xs its) : (!its.toArray.isEmpty) = !xs.isEmpty := by
 cases r <;> simp
theorem line63 : (sizeLine : Nat) < 2 ^ 63 := by rw [sizeLine_eq]; decide
theorem xN : TruR X (fun x H Q => ∃ k, TruV X.K x H k /\ Q k H) := by
 intro pins s σ H x v Q I rx h
 obtain ⟨k, e, q⟩ := h
 have hl := line63
 have hs : sizeLine = 16777216 := sizeLine_eq
 cases x with
 | non =>
  cases rx
  have e' : k = false := e
  subst e'
  exact truthy_none ⟨H, I, q⟩
 | bl b =>
  cases rx
  have e' : k = b := e
  subst e'
  exact wpAny_truthy_bool ⟨H, I, q⟩
 | int i =>
  obtain ⟨t, rfl⟩ := rx
  have e' : k = (i != 0) := e
  subst e'
  exact PySem.P.truthy_int ⟨H, I, q⟩
 | str y =>
  obtain ⟨t, rfl⟩ := rx
  obtain ⟨hy, e'⟩ : y.length <= sizeLine /\ k = ((y.length : Int) != 0) := e
  subst e'
  exact PySem.P.truthy_str (by lia) ⟨H, I.tok _, q⟩
 | byt y =>
  obtain ⟨t, rfl⟩ := rx
  obtain ⟨hy, e'⟩ : y.size <= sizeLine /\ k = ((y.size : Int) != 0) := e
  subst e'
  exact W.truthy_bytes (by lia) ⟨H, I.tok _, q⟩
 | ref p =>
  cases rx
  have e' : (∃ xs, SqL X.K H p xs /\ k = !xs.isEmpty) \/ (∃ xs, SqT X.K H p xs /\ k = !xs.isEmpty) \/ ∃ kvs, H p = some (.dK kvs) /\ k = !kvs.isEmpty := e
  rcases e' with ⟨xs, hx, e'⟩ | ⟨xs, hx, e'⟩ | ⟨kvs, hx, e'⟩
  ·subst e'
   obtain ⟨its, r, pl, hz⟩ := I.list hx
   have hlen := r.length
   exact wpAny_truthy_list pl.isList (by simp only [List.size_toArray]; lia) ⟨H, I.tok _, by rw [jt r]; exact q⟩
  ·subst e'
   obtain ⟨its, r, pl, hz⟩ := I.tuple hx
   have hlen := r.length
   exact truthy_tuple pl (by simp only [List.size_toArray]; lia) ⟨H, I.tok _, by rw [jt r]; exact q⟩
  ·subst e'
   obtain ⟨hz, hS, vs, r, m⟩ : kvs.length <= sizeLine /\ (p == sysModules) = false /\ ∃ vs, KV kvs vs /\ s.heap.DictOf (D3 X.prog X.w) p vs := I.hok p _ hx
   have hlen : kvs.length = vs.length := Paired.length r
   exact wpAny_truthy_dict hS m (by lia) ⟨H, I.tok _, by rw [oW r]; exact q⟩
 | _ => exact (show False from e).elim
theorem t8 (ha : PE X a ta) (he : ∀ whole, isTrue a X.env whole = (do let v <- whole; standAt a.pos; holding [v] (truthy v))) :
  PT X a (fun σ H Q => ta σ H fun x H' => ∃ k, TruV X.K x H' k /\ Q k H') := by
 intro pins s σ H Q I h
 exact isTrue_plain (thn (ha pins s σ H _ I h) fun v s1 ⟨x, H1, I1, r1, q1⟩ => xN pins s1 σ H1 x v Q I1 r1 q1) (he _)
theorem oX : OpR X (binaryOp .Add) (fun x y H Q => ∃ i j, x = .str i /\ y = .str j /\ i.length + j.length <= sizeLine /\ Q (.str (i ++ j)) H) := by
 intro pins s σ H x y v u Q I rx ry h
 obtain ⟨i, j, rfl, rfl, hz, q⟩ := h
 obtain ⟨t, rfl⟩ := rx
 obtain ⟨t', rfl⟩ := ry
 exact add_str (fun t' tk => ⟨.str (i ++ j), H, I.tok _, ⟨_, rfl⟩, q⟩) hz
theorem vals1 {x : V} {us : List Value} (r : Vals [x] us) : ∃ u, us = [u] /\ RelV x u := by
 cases r with
 | cons r1 r2 => cases r2; exact ⟨_, rfl, r1⟩
theorem vals2 {x y : V} {us : List Value} (r : Vals [x, y] us) : ∃ u w', us = [u, w'] /\ RelV x u /\ RelV y w' := by
 cases r with
 | cons r1 r2 =>
  cases r2 with
  | cons r3 r4 => cases r4; exact ⟨_, _, rfl, r1, r3⟩
theorem t9 : Di X (.builtin "abs") (fun xs H Q => ∃ i, xs = [.int i] /\ Q (.int (if i < 0 then -i else i)) H) := by
 intro pins s σ H xs us Q I r h
 obtain ⟨i, rfl, q⟩ := h
 obtain ⟨u, rfl, t, rfl⟩ := vals1 r
 exact call_abs_int fun u tk => ⟨.int (if i < 0 then -i else i), H, I.tok _, ⟨_, rfl⟩, q⟩
end
structure ObjM (h : Heap) (x dx C : Addr) (mA : Cu) : Prop where
 obj : h.get? x = some (W.instObj C dx)
 ns : h.Ns1 dx mA
 ne : dx ≠ x
section
variable {prog : Program} {w : World} {A : Around} {E : Cw} {s : Shared} {K : W.Frag} {x dx C f : Addr} {mA : Cu} {name : Str} {v : Value}
end
theorem RelO.some_of {v : V} {o : Option Value} (r : RelO (some v) o) : ∃ u, o = some u /\ RelV v u := by
 cases o with
 | none => exact (show False from r).elim
 | some u => exact ⟨u, rfl, r⟩
section
variable {P : Program} {w : World} {H H' : Hp} {h h' : Heap} {a C dx : Addr} {fs fs' : List (Str × V)}
end
structure Cls (K : W.Frag) (C : Addr) : Prop where
 pg : W.plainGet K C Str.empty = true
 hd : W.hasDictIn K C = true
 po : W.plainOver K C = true
 sa : W.findIn K (.ref C) "__setattr__" = some (some (.builtin "object.__setattr__"))
structure Con (K : W.Frag) (C : Addr) (f : Str) (v : V) (u : Value) : Prop where
 at_ : W.findIn K (.ref C) f = some (some u)
 rel : RelV v u
 get : W.specialIn K u "__get__" = some none
 cp : W.copiedNames.contains f = false
structure Meth (K : W.Frag) (C : Addr) (m : Str) (f : Addr) : Prop where
 at_ : W.findIn K (.ref C) m = some (some (.ref f))
 fn : W.isFn K (.ref f) = true
 kp : W.keepIn K (.ref f) = true
section
variable {X : Cx} {pins : Cv} {σ : St} {H : Hp} {s : Shared} {a C dx : Addr} {fs : List (Str × V)} {f : Str} {v : V} {A : Around} {E : Cw}
end
section
variable {X : Cx} {o e value : Expr} {f : Str} {pos pos' tpos : Pos} {ta tv : TE}
end
section
variable {X : Cx} {pins : Cv} {σ : St} {H : Hp} {s : Shared} {A : Around} {E : Cw} {Q : Cw} {c : Value} {b : Bool}
inductive TyOf (K : W.Frag) (H : Hp) : V -> Value -> Prop where
 | non : TyOf K H .non (.type "NoneType")
 | bl (x : Bool) : TyOf K H (.bl x) (.type "bool")
 | int (i : Int) : TyOf K H (.int i) (.type "int")
 | str (x : Str) : TyOf K H (.str x) (.type "str")
 | flt (x : UInt64) : TyOf K H (.flt x) (.type "float")
 | lst {a : Addr} {xs : List V} (e : H a = some (.lst xs)) : TyOf K H (.ref a) (.type "list")
 | frz {a : Addr} {o : Obj} {xs : List V} (e : H a = some (.frz o (.lst xs))) : TyOf K H (.ref a) (.type "list")
 | tup {a : Addr} {xs : List V} (e : H a = some (.tup xs)) : TyOf K H (.ref a) (.type "tuple")
 | dK {a : Addr} {kvs : List (Key × V)} (e : H a = some (.dK kvs)) : TyOf K H (.ref a) (.type "dict")
 | dT {a : Addr} {kvs : List (List Key × V)} (e : H a = some (.dT kvs)) : TyOf K H (.ref a) (.type "dict")
 | ins {a C dx : Addr} {fs : List (Str × V)} (e : H a = some (.ins C dx fs)) (cl : Cls K C) (ha : W.findIn K (.ref C) "__class__" = some (some (.builtin "object.__class__")))
   (hn : W.specialIn K (.builtin "object.__class__") "__get__" = some (some (.builtin "getset_descriptor.__get__"))) (htk : W.takesIn K (.builtin "object.__class__") = some true)
   (hm : W.mroIn K C (.type "object") = some true) : TyOf K H (.ref a) (.ref C)
end
structure Room (k : Nat) (A : Around) : Prop where
 hd : A.handled = none
 dp : A.depth + 3 * k + 5 < recursionLimit
 un : A.units + 16 * k + 200 < cLine
theorem Room.mono {j k : Nat} {A : Around} (r : Room k A) (h : j <= k) : Room j A := ⟨r.hd, by have := r.dp; lia, by have := r.un; lia⟩
theorem Room.deeper {k : Nat} {A : Around} (r : Room (k + 1) A) (env : Env) : Room k (A.deeper env) :=
 ⟨r.hd, by have := r.dp; show A.depth + 1 + 3 * k + 5 < _; lia, by have := r.un; show A.units + 3 + 16 * k + 200 < _; lia⟩
theorem Room.in1 {k : Nat} {A : Around} (r : Room (k + 1) A) : Room k A.in1 :=
 ⟨r.hd, by have := r.dp; show A.depth + 3 * k + 5 < _; lia, by have := r.un; show A.units + 1 + 16 * k + 200 < _; lia⟩
theorem Room.depth {k : Nat} {A : Around} (r : Room k A) : A.depth < recursionLimit := by have := r.dp; lia
theorem Room.units {k : Nat} {A : Around} (r : Room k A) : A.units + 64 < cLine := by have := r.un; lia
noncomputable def tNil : TA := fun _ H Q => Q [] H
noncomputable def D8 (ta : TE) (tr : TA) : TA := fun σ H Q => ta σ H fun x H1 => tr σ H1 fun xs H2 => Q (x :: xs) H2
section
variable {X : Cx} {e : Expr} {es : List Expr} {te : TE} {t : TA} {pos : Pos}
theorem cE : PA X [] tNil := fun _ _ _ _ H Q I h => Calls.spliced_nil ⟨[], H, I, .nil, h⟩
theorem aL (ha : PE X e te) (hr : PA X es t) (hs : starEach (e :: es) X.env = (false, eval e X.env) :: starEach es X.env := by rfl) : PA X (e :: es) (D8 te t) := by
 intro pos pins s σ H Q I h
 rw [hs]
 show wpAny _ _ (spliced ((false, eval e X.env) :: backTo pos (starEach es X.env))) _ _ s
 refine Calls.spliced_cons (thn (ha pins s σ H _ I h) fun u s1 ⟨x, H1, I1, r1, q1⟩ => ?_)
 exact thn (hr pos pins s1 σ H1 _ I1 q1) fun us s2 ⟨xs, H2, I2, r2, q2⟩ => ⟨x :: xs, H2, I2, .cons r1 r2, q2⟩
noncomputable def tTup (t : TA) : TE := fun σ H Q => t σ H fun xs H1 => xs.length <= sizeLine /\ ∀ p, H1 p = none -> Q (.ref p) (upd H1 p (.tup xs))
noncomputable def tLst (t : TA) : TE := fun σ H Q => t σ H fun xs H1 => xs.length <= sizeLine /\ ∀ p, H1 p = none -> Q (.ref p) (upd H1 p (.lst xs))
theorem oY {x1} (h : PA X es t) : PE X (.Tuple es x1 pos) (tTup t) := by
 intro pins s σ H Q I hq
 refine wpAny_Tuple_spliced (thn (h pos pins s σ H _ I hq) fun us s1 ⟨xs, H1, I1, r, z, q⟩ => ⟨by rw [<- r.length]; exact z, ?_⟩)
 have hf : H1 s1.heap.objs.size = none := I1.hok.fresh (Nat.le_refl _)
 refine ⟨.ref s1.heap.objs.size, upd H1 s1.heap.objs.size (.tup xs), I1.laid (t' := s1.toks) (fun b u e => Heap.get?_push_of_some _ e) (Nat.le_refl _) ?_, rfl, q _ hf⟩
 exact ⟨z, us, r, ⟨_, Heap.get?_push_size _ rfl, rfl, _, rfl⟩⟩
theorem tj (h : PA X es t) : PE X (.List es pos) (tLst t) := by
 intro pins s σ H Q I hq
 refine wpAny_List_spliced (thn (h pos pins s σ H _ I hq) fun us s1 ⟨xs, H1, I1, r, z, q⟩ => ⟨by rw [<- r.length]; exact z, ?_⟩)
 have hf : H1 s1.heap.objs.size = none := I1.hok.fresh (Nat.le_refl _)
 refine ⟨.ref s1.heap.objs.size, upd H1 s1.heap.objs.size (.lst xs), I1.laid (t' := s1.toks) (fun b u e => Heap.get?_push_of_some _ e) (Nat.le_refl _) ?_, rfl, q _ hf⟩
 exact ⟨z, us, 0, r, Heap.get?_push_size _ rfl⟩
end
abbrev Sp := List V -> Hp -> VK -> XK -> Prop
abbrev CXT := List Env -> Hp -> Shared -> XK -> Value -> Shared -> Prop
structure Env0 (P : Program) (w : World) (K : W.Frag) (mg : Cu) (base : Heap) (A : Around) (outer : List Env) (s : Shared) (H : Hp) : Prop where
 frames : A.frames = some outer
 mod : Mod K mg base
 bs : ∀ b o, base.get? b = some o -> s.heap.get? b = some o /\ H b = none
 bsz : base.objs.size <= s.heap.objs.size
 funs : s.heap.FunFrames base outer
 frf : ∀ b ∈ frs outer, H b = none
 hok : HOk P w H s.heap
 bare : AllBare s.gens
noncomputable def CE (outer : List Env) (P : Program) (w : World) (H : Hp) (s : Shared) (Q : VK) (u : Value) (s' : Shared) : Prop :=
 ∃ v H', s'.os = s.os /\ AllBare s'.gens /\ Un (frs outer) [] H H' s.heap s'.heap /\ HOk P w H' s'.heap /\ RelV v u /\ Q v H'
noncomputable def CR (CX : CXT) (outer : List Env) (P : Program) (w : World) (H : Hp) (s : Shared) (Q : VK) (E : XK) (r : Result) (s' : Shared) : Prop :=
 match r with
 | .ok (.ret u) => CE outer P w H s Q u s'
 | .ok _ => False
 | .error e => CX outer H s E e s'
structure FnOk (P : Program) (w : World) (K : W.Frag) (mg : Cu) (base : Heap) (CX : CXT) (k : Nat) (f : Addr) (fd : FuncData) (ps : List Str) (sp : Sp) : Prop where
 len : ∀ vs H Q E, sp vs H Q E -> vs.length = ps.length
 run : ∀ (A : Around) (outer : List Env) (s : Shared) (H : Hp) (args : Args) (us : List Value) (vs : List V) (Q : VK) (E : XK), Room k A -> Env0 P w K mg base A outer s H -> BindsTo s fd args (ps.zip us) -> Vals vs us -> sp vs H Q E ->
  codeAny (model P w) A (.call (.ref f) args) (CR CX outer P w H s Q E) s
theorem FnOk.imp {P : Program} {w : World} {K : W.Frag} {mg : Cu} {base : Heap} {CX : CXT} {k : Nat} {f : Addr} {fd : FuncData} {ps : List Str} {sp sp' : Sp} (F : FnOk P w K mg base CX k f fd ps sp)
  (h : ∀ vs H Q E, sp' vs H Q E -> sp vs H Q E) : FnOk P w K mg base CX k f fd ps sp' :=
 ⟨fun vs H Q E q => F.len vs H Q E (h _ _ _ _ q), fun A outer s H args us vs Q E hr he hb hv hs => F.run A outer s H args us vs Q E hr he hb hv (h _ _ _ _ hs)⟩
section
variable {X : Cx} {pins : Cv} {σ : St} {H : Hp} {s s' : Shared}
theorem Inv.env0 (I : Inv X pins σ H s) : Env0 X.prog X.w X.K X.mg X.base X.A X.stack s H :=
 ⟨I.ok.frames, I.ok.mod, I.bs, Nat.le_trans I.ok.bsz I.sz, I.stack, I.stkFree, I.hok, I.bare⟩
theorem Inv.after {Q : VK} {u : Value} (I : Inv X pins σ H s) (h : CE X.stack X.prog X.w H s Q u s') : EP X pins σ Q u s' := by
 obtain ⟨v, H', os, bare, un, hok, r, q⟩ := h
 obtain ⟨hh, g, d, t, os'⟩ := s'
 obtain rfl : os' = s.os := os
 exact ⟨v, H', I.call (h' := hh) (g' := g) (d' := d) (t' := t) (ch := []) un hok bare (fun b z => absurd z (by simp)), r, q⟩
end
noncomputable def EE (sp : Sp) (dvs : List V) (E : XK) (t : TA) : TE := fun σ H Q => t σ H fun vs H1 => sp (vs ++ dvs) H1 Q E
noncomputable def Binds (K : W.Frag) (fd : FuncData) (ps : List Str) (ds : List Value) : Prop :=
 ∀ (s : Shared) (us : List Value), K.In s.heap -> (us ++ ds).length = ps.length -> BindsTo s fd ⟨us, []⟩ (ps.zip (us ++ ds))
theorem Binds.all {K : W.Frag} {fd : FuncData} {ps : List Str} (h : ∀ us : List Value, us.length = ps.length -> bindArgs fd ⟨us, []⟩ = pure (ps.zip us)) : Binds K fd ps [] := fun s us _ hl => by
 rw [List.append_nil] at hl ⊢
 exact .of_eq (h us hl)
noncomputable def Passes (CX : CXT) (X : Cx) (E : XK) : Prop := ∀ (pins : Cv) (σ : St) (H : Hp) (s : Shared) (e : Value) (s' : Shared), Inv X pins σ H s -> CX X.stack H s E e s' -> X.xe e s'
section
variable {X : Cx} {CX : CXT} {k : Nat} {f C : Addr} {fd : FuncData} {ps : List Str} {sp : Sp} {dvs : List V} {ds : List Value} {E : XK} {x m : Str} {p pos apos : Pos} {e o : Expr} {es : List Expr} {ta : TE} {t : TA}
theorem xO {pins : Cv} {σ : St} {H : Hp} {s : Shared} {Q : VK} {us : List Value} {vs : List V} (F : FnOk X.prog X.w X.K X.mg X.base CX k f fd ps sp) (hr : Room k X.A) (hb : Binds X.K fd ps ds) (hd : Vals dvs ds) (hx : Passes CX X E)
  (I : Inv X pins σ H s) (r : Vals vs us) (h : sp (vs ++ dvs) H Q E) : wpAny (model X.prog X.w) X.A (call (.ref f) us) (EP X pins σ Q) X.xe s := by
 have r2 : Vals (vs ++ dvs) (us ++ ds) := r.append hd
 have hl : (us ++ ds).length = ps.length := by rw [<- r2.length]; exact F.len _ _ _ _ h
 refine wpAny_call (codeAny_mono (F.run X.A X.stack s H ⟨us, []⟩ (us ++ ds) (vs ++ dvs) Q E hr I.env0 (hb s us I.kIn hl) r2 h) fun r s' hq => ?_)
 cases r with
 | error e => exact hx pins σ H s e s' I hq
 | ok fl =>
  cases fl with
  | ret u => exact I.after hq
  | next => exact False.elim hq
  | brk => exact False.elim hq
  | cont => exact False.elim hq
theorem vo (F : FnOk X.prog X.w X.K X.mg X.base CX k f fd ps sp) (hr : Room k X.A) (hg : Gl X x) (hm : X.mg x = some (.ref f)) (hk : W.keepIn X.K (.ref f) = true) (hb : Binds X.K fd ps ds) (hd : Vals dvs ds) (hx : Passes CX X E)
  (ha : PA X (e :: es) t) (hdb : (x == ("__debug__" : Str)) = false := by decide) (he : starEach (e :: es) X.env = (false, eval e X.env) :: starEach es X.env := by rfl) (hpl : (backTo pos (starEach es X.env)).any (·.1) = false := by rfl) :
  PE X (.Call (.Name x p) (e :: es) [] pos) (EE sp dvs E t) := by
 intro pins s σ H Q I h
 refine wpAny_Call_Name_kw (qe I hg hm ?_ hdb)
 refine W.callWith_K (h₀ := X.base) I.ok.mod.kin hk (thn (ha pos pins s σ H _ I h) fun us s1 ⟨vs, H1, I1, r, q⟩ => ⟨I1.kIn, ?_⟩) he hpl
 exact xO F hr hb hd hx I1 r q
structure Mk (K : W.Frag) (C f : Addr) : Prop where
 makes : W.makesIn K C = true
 init : W.findIn K (.ref C) "__init__" = some (some (.ref f))
 fn : W.isFn K (.ref f) = true
 kp : W.keepIn K (.ref C) = true
end
section
variable {X : Cx} {CX : CXT} {k : Nat} {f C : Addr} {fd : FuncData} {ps ks : List Str} {sp : Sp} {E : XK} {x m : Str} {p pos apos kpos : Pos} {e o : Expr} {es : List Expr} {kws : List Keyword} {te ta : TE} {t tk : TA} {nm : Option Str}
structure FJ (K : W.Frag) (fd : FuncData) (ps ks : List Str) (g : List Value -> List Value -> List Value) (gV : List V -> List V -> List V) : Prop where
 to : ∀ (s : Shared) (us ws : List Value), K.In s.heap -> (g us ws).length = ps.length -> BindsTo s fd ⟨us, ks.zip ws⟩ (ps.zip (g us ws))
 rel : ∀ {vs : List V} {us : List Value} {zs : List V} {ws : List Value}, Vals vs us -> Vals zs ws -> Vals (gV vs zs) (g us ws)
variable {g : List Value -> List Value -> List Value} {gV : List V -> List V -> List V}
end
structure CF (N P : List Str) (sc : Scope) : Prop where
 kind : sc.kind = .function
 co : sc.isCoroutine = false
 gen : sc.isGenerator = false
 nd : N.Nodup
 pre : N.take P.length = P
 par : ∀ x ∈ P, sc.names.lookup x = some .local \/ sc.names.lookup x = some .cell
 nofree : ∀ y ∈ sc.names, y.2 ≠ .free
theorem kU {kindOf : Str -> Option NameKind} {x : Str} : ∀ {binds : List (Str × Value)} {m : Cu}, (∀ v, (x, v) ∉ binds) -> bindL kindOf binds m x = m x
 | [], _, _ => rfl
 | (n, v) :: r, m, h => by
  unfold bindL
  rw [kU fun w hw => h w (List.mem_cons_of_mem _ hw)]
  split
  ·have : x ≠ n := by rintro rfl; exact h v List.mem_cons_self
   simp [this]
  ·rfl
theorem kW {kindOf : Str -> Option NameKind} {x : Str} : ∀ {binds : List (Str × Value)} {m : Cu}, (∀ v, (x, v) ∉ binds) -> bindC kindOf binds m x = m x
 | [], _, _ => rfl
 | (n, v) :: r, m, h => by
  unfold bindC
  rw [kW fun w hw => h w (List.mem_cons_of_mem _ hw)]
  split
  ·rfl
  ·have : x ≠ n := by rintro rfl; exact h v List.mem_cons_self
   simp [this]
theorem kX {kindOf : Str -> Option NameKind} {x : Str} {v : Value} : ∀ {P : List Str} {vs : List Value} {i : Nat} {m : Cu}, P.Nodup -> P[i]? = some x -> vs[i]? = some v -> kindOf x = some .local ->
  bindL kindOf (P.zip vs) m x = some v
 | [], _, _, _, _, h, _, _ => by simp at h
 | _ :: _, [], _, _, _, _, h, _ => by simp at h
 | p :: P, w :: vs, 0, m, nd, h1, h2, hk => by
  simp at h1 h2; subst h1; subst h2
  show bindL kindOf ((p, w) :: P.zip vs) m p = _
  unfold bindL
  rw [kU fun v hv => (List.nodup_cons.mp nd).1 (List.of_mem_zip hv).1, if_pos hk]
  simp
 | p :: P, w :: vs, i + 1, m, nd, h1, h2, hk => by
  show bindL kindOf ((p, w) :: P.zip vs) m x = _
  unfold bindL
  exact kX (i := i) (List.nodup_cons.mp nd).2 (by simpa using h1) (by simpa using h2) hk
theorem kY {kindOf : Str -> Option NameKind} {x : Str} {v : Value} : ∀ {P : List Str} {vs : List Value} {i : Nat} {m : Cu}, P.Nodup -> P[i]? = some x -> vs[i]? = some v -> kindOf x ≠ some .local ->
  bindC kindOf (P.zip vs) m x = some v
 | [], _, _, _, _, h, _, _ => by simp at h
 | _ :: _, [], _, _, _, _, h, _ => by simp at h
 | p :: P, w :: vs, 0, m, nd, h1, h2, hk => by
  simp at h1 h2; subst h1; subst h2
  show bindC kindOf ((p, w) :: P.zip vs) m p = _
  unfold bindC
  rw [kW fun v hv => (List.nodup_cons.mp nd).1 (List.of_mem_zip hv).1, if_neg hk]
  simp
 | p :: P, w :: vs, i + 1, m, nd, h1, h2, hk => by
  show bindC kindOf ((p, w) :: P.zip vs) m x = _
  unfold bindC
  exact kY (i := i) (List.nodup_cons.mp nd).2 (by simpa using h1) (by simpa using h2) hk
noncomputable def start (N : List Str) (vs : List V) : St := vs.map some ++ List.replicate (N.length - vs.length) none
noncomputable def cxOf (CX : CXT) (P : Program) (w : World) (K : W.Frag) (mg : Cu) (base : Heap) (N : List Str) (qual : Str) (scope : Scope) (f : Addr) (cd : Value) (A : Around) (outer : List Env) (s : Shared) (H : Hp) (E : XK) : Cx where
 prog := P
 w := w
 K := K
 mg := mg
 base := base
 A := A.deeper (envOfC qual scope s.heap.objs.size f cd)
 N := N
 s₀ := s
 H₀ := H
 env := envOfC qual scope s.heap.objs.size f cd
 outer := outer
 stack := envOfC qual scope s.heap.objs.size f cd :: outer
 ex := []
 calm := true
 fn := fun _ => true
 pn := []
 xe := fun e s' => wpAny (model P w) (A.deeper (envOfC qual scope s.heap.objs.size f cd)) (leaving (envOfC qual scope s.heap.objs.size f cd) e) (fun _ s'' => CX outer H s E e s'') (fun e' s'' => CX outer H s E e' s'') s'
theorem ng {sc : Scope} {n : Nat} {x : Str} (h : sc.names.lookup x = some .cell) : ∃ c, (cellsFrom n sc.names []).lookup x = some c := by
 have q := W.cellsFrom_some sc.names n [] (.inl h)
 exact Option.isSome_iff_exists.mp q
theorem rn {CX : CXT} {P : Program} {w : World} {K : W.Frag} {mg : Cu} {base : Heap} {N ps : List Str} {qual : Str} {scope : Scope} {f : Addr} {cd : Value} {A : Around} {outer : List Env} {s s1 : Shared} {H : Hp} {E : XK} {us : List Value} {vs : List V}
  (S : CF N ps scope) (hd : A.handled = none) (e0 : Env0 P w K mg base A outer s H) (hl : vs.length = ps.length) (r : Vals vs us)
  (x : InCallC s s.heap.objs.size (bindL (envOfC qual scope s.heap.objs.size f cd).kindOf (ps.zip us) fun _ => none) (cellsFrom (s.heap.objs.size + 1) scope.names []) (bindC (envOfC qual scope s.heap.objs.size f cd).kindOf (ps.zip us) fun _ => none) s1) :
  Inv (cxOf CX P w K mg base N qual scope f cd A outer s H E) [] (start N vs) H s1 := by
 have hpl : ps.length <= N.length := by have := congrArg List.length S.pre; rw [List.length_take] at this; lia
 obtain ⟨h1, tk, rfl, hk⟩ := x.done
 have noA : ∀ b : Addr, b ∉ (cxOf CX P w K mg base N qual scope f cd A outer s H E).ex := fun b z => absurd (show b ∈ ([] : List Addr) from z) (by simp)
 refine ⟨⟨e0.mod, S.kind, rfl, rfl, Nat.le_refl _, fun y z c h1 h2 => ?_, fun y hy => ?_, fun y c _ h => ?_, fun _ => hd, Around.frames_deeper e0.frames, .inr ⟨rfl, rfl⟩, fun b z => absurd z (noA b), e0.bs, e0.bsz, fun b _ _ => noA b, fun b z => absurd z (noA b), e0.funs, e0.frf⟩,
  rfl, e0.bare, Un.kept hk, ⟨_, x.toInCall.ns, fun i y v h1 h2 h3 => ?_⟩, fun y c h => ⟨_, x.cell y c h⟩, e0.hok.fresh (Nat.le_refl _), fun y c h => ?_, fun p hp => absurd (show p ∈ ([] : Cv) from hp) (by simp), e0.hok.kept hk, ?_⟩
 ·exact name_of_addr x.apart (PySem.mem_of_lookup h1) (PySem.mem_of_lookup h2)
 ·have hy : scope.names.lookup y = some .cell \/ scope.names.lookup y = some .free := hy
  rcases hy with hy | hy
  ·exact ng hy
  ·exact absurd rfl (S.nofree _ (PySem.mem_of_lookup hy))
 ·exact Nat.le_of_lt (x.above y c (PySem.mem_of_lookup h))
 ·have hi : i < vs.length := by
   unfold start at h2
   by_cases hi : i < vs.length
   ·exact hi
   ·rw [List.getElem?_append_right (by simpa using hi)] at h2
    rw [List.getElem?_replicate] at h2
    split at h2 <;> cases h2
  have ha : vs[i]? = some v := by
   unfold start at h2
   rw [List.getElem?_append_left (by simpa using hi), List.getElem?_map] at h2
   cases e : vs[i]? with
   | none => rw [e] at h2; cases h2
   | some a => rw [e] at h2; cases h2; rfl
  obtain ⟨u, hu, rv⟩ := r.get ha
  have hp : ps[i]? = some y := by
   rw [<- S.pre, List.getElem?_take_of_lt (by lia)]; exact h1
  have ndP : ps.Nodup := by rw [<- S.pre]; exact S.nd.sublist (List.take_sublist _ _)
  refine ⟨u, rv, ?_⟩
  rcases S.par y (List.mem_of_getElem? hp) with k | k
  ·exact .inl ⟨k, kX ndP hp hu k⟩
  ·obtain ⟨c, e⟩ := ng (n := s.heap.objs.size + 1) k
   refine .inr ⟨.inl k, c, e, ?_⟩
   have q := x.cell y c e
   rw [kY ndP hp hu (by show scope.names.lookup y ≠ _; rw [k]; decide)] at q
   exact q
 ·exact e0.hok.fresh (Nat.le_of_lt (x.above y c (PySem.mem_of_lookup h)))
 ·unfold start
  show _ = N.length
  rw [List.length_append, List.length_map, List.length_replicate]
  lia
theorem wQ {CX : CXT} {P : Program} {w : World} {K : W.Frag} {mg : Cu} {base : Heap} {k : Nat} {f : Addr} {name qual : Str} {params : Arguments} {body : List Stmt} {scope : Scope} {dV kV doc pm cdv ct oc : Value} {an od : Option Addr}
  {osl : Array (Option Value)} {N ps : List Str} {sp : Sp} (lk : K.lookup f = some ⟨oc, od, .func (W.fnOf name qual params body scope dV kV doc pm an cdv ct), osl⟩) (hcd : W.codeIn K cdv qual = true) (S : CF N ps scope)
  (len : ∀ vs H Q E, sp vs H Q E -> vs.length = ps.length)
  (hbody : ∀ (A : Around) (outer : List Env) (s : Shared) (H : Hp) (vs : List V) (Q : VK) (E : XK), Room k (A.deeper (envOfC qual scope s.heap.objs.size f cdv)) -> sp vs H Q E ->
   ∃ t, PSs (cxOf CX P w K mg base N qual scope f cdv A outer s H E) body t /\ t { nx := fun _ H' => Q .non H', rt := Q } (start N vs) H) :
  FnOk P w K mg base CX (k + 1) f (W.fnOf name qual params body scope dV kV doc pm an cdv ct) ps sp := by
 refine ⟨len, fun A outer s H args us vs Q E hr e0 hb r hsp => ?_⟩
 have hl := len _ _ _ _ hsp
 have KX : K.In s.heap := e0.mod.kin.keeps fun b o e => (e0.bs b o e).1
 have lim : s.heap.NoLimit := e0.mod.nolimit.keeps fun b o e => (e0.bs b o e).1
 have hkind : ∀ y ∈ ps.zip us, scope.names.lookup y.1 = some .local \/ (scope.names.lookup y.1 = some .cell /\ ((cellsFrom (s.heap.objs.size + 1) scope.names []).lookup y.1).isSome = true) := fun ⟨n, v⟩ hy => by
  rcases S.par n (List.of_mem_zip hy).1 with q | q
  ·exact .inl q
  ·exact .inr ⟨q, W.cellsFrom_some _ _ _ (.inl q)⟩
 refine codeAny_call_function hr.depth (KX _ _ lk) rfl S.co S.gen rfl (W.codeRec_of KX hcd) (hb _ _ _ _ ?_)
 refine wpAny_newFunctionEnv_cells S.kind hkind fun env he s1 x => ?_
 subst he
 refine ⟨lim.keeps x.toInCall.keep, codeAny_func ?_⟩
 obtain ⟨t, ht, hq⟩ := hbody A outer s H vs Q E (hr.deeper _) hsp
 have I : Inv (cxOf CX P w K mg base N qual scope f cdv A outer s H E) [] (start N vs) H s1 := rn S hr.hd e0 hl r x
 refine wpAny_mono (ht [] s1 (start N vs) H _ I hq) (fun fl s' hs => ?_) fun e s' hs => hs
 have fin : ∀ {σ' : St} {H' : Hp} {v : V} {u : Value}, Inv (cxOf CX P w K mg base N qual scope f cdv A outer s H E) [] σ' H' s' -> RelV v u -> Q v H' -> CE outer P w H s Q u s' :=
  fun {σ' H' v u} J rv q => ⟨v, H', J.os, J.bare, J.base, J.hok, rv, q⟩
 cases fl with
 | ret u =>
  obtain ⟨v, σ', H', J, rv, q⟩ := hs
  exact fin J rv q
 | next =>
  obtain ⟨σ', H', J, q⟩ := hs
  exact fin (v := V.non) (u := Value.none) J rfl q
 | brk =>
  obtain ⟨_, _, _, q⟩ := hs
  exact False.elim q
 | cont =>
  obtain ⟨_, _, _, q⟩ := hs
  exact False.elim q
section
variable {X : Cx} {x : Str} {p pos : Pos} {e : Expr} {es : List Expr} {t : TA} {id T : String} {r : List V -> Hp -> VK -> Prop}
noncomputable def tCB (r : List V -> Hp -> VK -> Prop) (t : TA) : TE := fun σ H Q => t σ H fun vs H1 => r vs H1 Q
theorem fQ (hc : Di X (.builtin id) r) (hg : Gl X x) (hm : X.mg x = none) (hv : bootBuiltins x = some (.builtin id)) (ha : PA X (e :: es) t) (hn : x ≠ "__name__" := by decide) (hdb : (x == ("__debug__" : Str)) = false := by decide)
  (he : starEach (e :: es) X.env = (false, eval e X.env) :: starEach es X.env := by rfl) (hpl : (backTo pos (starEach es X.env)).any (·.1) = false := by rfl) : PE X (.Call (.Name x p) (e :: es) [] pos) (tCB r t) := by
 intro pins s σ H Q I h
 refine wpAny_Call_Name_kw (fP I hg hm hv ?_ hn hdb)
 exact callWith_builtin1 (thn (ha pos pins s σ H _ I h) fun us s1 ⟨vs, H1, I1, r1, q1⟩ => hc pins s1 σ H1 vs us Q I1 r1 q1) he hpl
theorem kZ (hc : Di X (.type T) r) (hg : Gl X x) (hm : X.mg x = none) (hv : bootBuiltins x = some (.type T)) (ha : PA X (e :: es) t) (hn : x ≠ "__name__" := by decide) (hdb : (x == ("__debug__" : Str)) = false := by decide)
  (he : starEach (e :: es) X.env = (false, eval e X.env) :: starEach es X.env := by rfl) (hpl : (backTo pos (starEach es X.env)).any (·.1) = false := by rfl) : PE X (.Call (.Name x p) (e :: es) [] pos) (tCB r t) := by
 intro pins s σ H Q I h
 refine wpAny_Call_Name_kw (fP I hg hm hv ?_ hn hdb)
 exact callWith_type1 (thn (ha pos pins s σ H _ I h) fun us s1 ⟨vs, H1, I1, r1, q1⟩ => hc pins s1 σ H1 vs us Q I1 r1 q1) he hpl
end
end L2
namespace HT
open PySem PyProof.Rows
noncomputable def lexLt : List Int -> List Int -> Bool
 | [], [] => false
 | [], _ :: _ => true
 | _ :: _, [] => false
 | x :: xs, y :: ys => if x = y then lexLt xs ys else decide (x < y)
theorem ju (x y : Int) (xs ys : List Int) : lexLt (x :: xs) (y :: ys) = if x = y then lexLt xs ys else decide (x < y) := rfl
theorem gJ : lexLt [] [] = false := rfl
theorem jv (y : Int) (ys : List Int) : lexLt [] (y :: ys) = true := rfl
theorem jw (x : Int) (xs : List Int) : lexLt (x :: xs) [] = false := rfl
theorem tm (A : Around) (s : Shared) (a : Int) (t : Tok) (c : Int) (u : Tok) : ∃ e, SeqAt.EqAt A s (.int a t) (.int c u) e /\ (e = true ↔ a = c) :=
 ⟨(a == c), SeqAt.EqAt.int_int a t c u, by simp⟩
theorem tq (A : Around) (s : Shared) (a : Int) (t : Tok) (c : Int) (u : Tok) (prog : Program) (w : World) (E : Cw) (Q : Cw) (h : Q (.bool (decide (a < c))) s) :
  wpAny (model prog w) A (richCompare .Lt (.int a t) (.int c u)) Q E s :=
 (lt_int h : wpAny (model prog w) A (compareOp .Lt (.int a t) (.int c u)) Q E s)
section
open PySem.SeqAt
open PySem.AutoSeq1 (wpAny_loadPart')
open PySem.MeetsSeq PySem.MeetsSeq2 PySem.MeetsSeq3
end
section
variable {prog : Program} {w : World} {A : Around} {E : Cw} {s : Shared}
theorem vq {t b : Addr} {vs ws : List Value} {Q : Cw} (ht : IsTup s.heap t vs.toArray) (hb : IsTup s.heap b ws.toArray) (hv : vs ≠ [])
  (h1 : ws = [] -> Q (.ref t) s) (h2 : ws ≠ [] -> Q (.ref s.heap.objs.size) { s with heap := s.heap.push { cls := .type "tuple", data := .seq (vs ++ ws).toArray } })
  (hsz : vs.length + ws.length <= sizeLine) : wpAny (model prog w) A (binaryOp .Add (.ref t) (.ref b)) Q E s := by
 obtain ⟨⟨cls, dd, data, sl⟩, ho, hc, n, hd⟩ := id ht
 obtain ⟨⟨cls2, dd2, data2, sl2⟩, ho2, hc2, n2, hd2⟩ := id hb
 simp only at hc hd hc2 hd2
 subst hc hd hc2 hd2
 have e : vs.toArray ++ ws.toArray = (vs ++ ws).toArray := by simp
 by_cases hw : ws = []
 ·exact concat_meets ⟨_, ho, rfl⟩ ⟨_, ho2, rfl⟩ noFill_tuple_add seq_tuple_add PySem.F.slot_tuple_add PySem.F.entry_tuple_add (PySem.F.args_tuple_add_2 _ _)
   (tuple_addW1 t b vs.toArray ws.toArray n n2 dd dd2 sl sl2 (by simpa using hv) (by simp [hw])) ⟨ho, ho2, h1 hw⟩
 ·refine concat_meets ⟨_, ho, rfl⟩ ⟨_, ho2, rfl⟩ noFill_tuple_add seq_tuple_add PySem.F.slot_tuple_add PySem.F.entry_tuple_add (PySem.F.args_tuple_add_2 _ _)
   (tuple_addW2 t b vs.toArray ws.toArray n n2 dd dd2 sl sl2 (by simpa using hv) (by simpa using hw) (by rw [List.size_toArray, List.size_toArray]; exact hsz)) ⟨ho, ho2, ?_⟩
  rw [e]
  exact h2 hw
noncomputable def sIx (n d : Nat) : Option Int -> Nat
 | none => d
 | some v => if v < 0 then (v + (n : Int)).toNat else min v.toNat n
theorem nh (n d : Nat) : sIx n d none = d := rfl
theorem qk (n d k : Nat) : sIx n d (some (k : Int)) = min k n := by
 show (if (k : Int) < 0 then ((k : Int) + (n : Int)).toNat else min (k : Int).toNat n) = min k n
 rw [if_neg (by lia), Int.toNat_natCast]
theorem xP (n d : Nat) (hd : d <= n) (o : Option Int) : sIx n d o <= n := by
 cases o with
 | none => exact hd
 | some v =>
  show (if v < 0 then (v + (n : Int)).toNat else min v.toNat n) <= n
  by_cases hv : v < 0
  ·rw [if_pos hv]; lia
  ·rw [if_neg hv]; exact Nat.min_le_right _ _
theorem ql (v : Int) (n d : Nat) : (if v < 0 then max (v + (n : Int)) 0 else min v (n : Int)) = ((sIx n d (some v) : Nat) : Int) := by
 show (if v < 0 then max (v + (n : Int)) 0 else min v (n : Int)) = (((if v < 0 then (v + (n : Int)).toNat else min v.toNat n) : Nat) : Int)
 by_cases hv : v < 0
 ·simp only [if_pos hv]; lia
 ·simp only [if_neg hv]; lia
theorem oZ (lo hi : Option Int) (n : Nat) : Builtin.Slice.sliceAdjust lo hi 1 (n : Int) = (((sIx n 0 lo : Nat) : Int), ((sIx n n hi : Nat) : Int)) := by
 have h1 : ¬ ((1 : Int) < 0) := by lia
 unfold Builtin.Slice.sliceAdjust
 simp only [h1, if_false]
 refine Prod.ext ?_ ?_
 ·cases lo with
  | none => rfl
  | some v => exact ql v n 0
 ·cases hi with
  | none => rfl
  | some v => exact ql v n n
theorem p5 (i j : Nat) : Builtin.Slice.slicePlaces (i : Int) (j : Int) 1 = j - i := by
 unfold Builtin.Slice.slicePlaces
 have h1 : (1 : Int) > 0 := by lia
 simp only [h1, if_true, Int.ediv_one]
 split <;> lia
theorem jx {v : Value} {o : Option Int} {Q : Option Int -> Shared -> Prop} (p : IsPart v o) (h : Q o s) : wpAny (model prog w) A (Builtin.Slice.slicePartIndex v) Q E s := by
 cases p with
 | none => exact slicePart_none h
 | int i t => exact slicePart_int h
theorem eT {sl : Addr} {vl vu : Value} {lo hi : Option Int} {n : Nat} {Q : Int × Int × Nat -> Shared -> Prop} (hs : s.heap.IsSliceOf sl vl vu .none) (pl : IsPart vl lo) (pu : IsPart vu hi)
  (h : Q (((sIx n 0 lo : Nat) : Int), 1, sIx n n hi - sIx n 0 lo) s) : wpAny (model prog w) A (Builtin.Slice.sliceApplied (.ref sl) (pure (n : Int))) Q E s := by
 obtain ⟨os, hos, hcs, hds⟩ := id hs
 unfold Builtin.Slice.sliceApplied Builtin.Slice.sliceFields
 refine wpAny_bind (wpAny_bind (wpAny_field hos hds (x := vl) rfl (wpAny_bind (wpAny_field hos hds (x := vu) rfl (wpAny_bind (wpAny_field hos hds (x := .none) rfl (wpAny_pure ?_)))))))
 refine wpAny_bind (slicePart_none ?_)
 show wpAny _ _ (if ((1 : Int) == 0) = true then _ else _) _ _ s
 rw [if_neg (by decide)]
 refine wpAny_bind (jx pl (wpAny_bind (jx pu (wpAny_bind (wpAny_pure ?_)))))
 show wpAny _ _ (match Builtin.Slice.sliceAdjust lo hi 1 (n : Int) with | (lo, hi) => pure (lo, (1 : Int), Builtin.Slice.slicePlaces lo hi 1)) _ _ s
 rw [oZ lo hi n]
 show wpAny _ _ (pure (((sIx n 0 lo : Nat) : Int), (1 : Int), Builtin.Slice.slicePlaces ((sIx n 0 lo : Nat) : Int) ((sIx n n hi : Nat) : Int) 1)) _ _ s
 rw [p5]
 exact wpAny_pure h
theorem tu (xs : Array Value) (i k : Nat) : ((List.range k).filterMap fun (m : Nat) => xs[((i : Int) + (m : Int) * 1).toNat]?).toArray = ((xs.toList.drop i).take k).toArray := by
 have e : (fun (m : Nat) => xs[((i : Int) + (m : Int) * 1).toNat]?) = fun m => xs[i + m]? := by
  funext m
  have : ((i : Int) + (m : Int) * 1).toNat = i + m := by lia
  rw [this]
 rw [e]
 have := pick_run xs i k
 rw [List.filterMap_map] at this
 have e2 : ((fun x => xs[x]?) ∘ fun x => i + x) = fun m => xs[i + m]? := rfl
 rw [e2] at this
 rw [this]
theorem i6 {t sl : Addr} {items : Array Value} {vl vu : Value} {lo hi : Option Int} {Q : Cw} (ht : IsTup s.heap t items) (hs : s.heap.IsSliceOf sl vl vu .none) (pl : IsPart vl lo) (pu : IsPart vu hi)
  (hw : ¬ (sIx items.size 0 lo = 0 /\ sIx items.size items.size hi = items.size))
  (h : Q (.ref s.heap.objs.size) { s with heap := s.heap.push { cls := .type "tuple", data := .seq ((items.toList.drop (sIx items.size 0 lo)).take (sIx items.size items.size hi - sIx items.size 0 lo)).toArray } })
  (hsz : items.size <= sizeLine) : wpAny (model prog w) A (getItem (.ref t) (.ref sl)) Q E s := by
 have htake : sizeOk (.seq ((items.toList.drop (sIx items.size 0 lo)).take (sIx items.size items.size hi - sIx items.size 0 lo)).toArray) := by
  show ((items.toList.drop (sIx items.size 0 lo)).take (sIx items.size items.size hi - sIx items.size 0 lo)).toArray.size <= sizeLine
  rw [List.size_toArray, List.length_take, List.length_drop, Array.length_toList]
  lia
 have hj : sIx items.size items.size hi <= items.size := xP _ _ (Nat.le_refl _) hi
 obtain ⟨os, hos, hcs, hds⟩ := id hs
 have hTs : s.TypeIs (.ref sl) "slice" := ⟨os, hos, hcs⟩
 unfold getItem
 try with_reducible refine wpAny_holding ?_
 first | refine wpAny_bind (wpAny_pure ?_) | skip
 refine wpAny_bind (wpAny_sequenceKey ht.typeIs (by decide) ?_)
 refine wpAny_bind (wpAny_callSpecial?_slot (name := Str.ofString "__getitem__") ht.typeIs slot_tuple_getitem
  (wpAny_call_entry slot_tuple_getitem ht.typeIs entry_tuple_getitem ?_ (args_tuple_getitem _ _)))
 show wpAny _ _ (Builtin.Tuple.tupleItemsOf (.ref t) >>= _) _ _ s
 refine wpAny_bind (tupleItemsOf_ ht ?_)
 refine wpAny_bind (wpAny_typeOf hTs ?_)
 rw [if_pos (by decide)]
 refine wpAny_bind (eT hs pl pu ?_)
 have hno : ¬ ((((sIx items.size 0 lo : Nat) : Int) == 0 && (1 : Int) == 1 && (sIx items.size items.size hi - sIx items.size 0 lo) == items.size) = true) := by
  intro q
  rw [Bool.and_eq_true, Bool.and_eq_true] at q
  have q1 : ((sIx items.size 0 lo : Nat) : Int) = 0 := eq_of_beq q.1.1
  have q2 : sIx items.size items.size hi - sIx items.size 0 lo = items.size := eq_of_beq q.2
  exact hw ⟨by lia, by lia⟩
 show wpAny _ _ (if (((sIx items.size 0 lo : Nat) : Int) == 0 && (1 : Int) == 1 && (sIx items.size items.size hi - sIx items.size 0 lo) == items.size) = true then _ else _) _ _ s
 rw [if_neg hno, tu]
 first
  | exact wpAny_bind (m := Builtin.Tuple.tupleExact _) (wpAny_newObj_type (wpAny_pure ⟨_, rfl, wpAny_pure h⟩) htake)
  | exact wpAny_bind (m := Builtin.Tuple.tupleExact _) (wpAny_newObj_type (wpAny_bind (wpAny_pure (wpAny_pure ⟨_, rfl, wpAny_pure h⟩))) htake)
  | exact wpAny_bind (wpAny_bind (m := Builtin.Tuple.tupleExact _) (wpAny_newObj_type (wpAny_pure (wpAny_pure ⟨_, rfl, wpAny_pure h⟩)) htake))
  | exact wpAny_bind (wpAny_bind (m := Builtin.Tuple.tupleExact _) (wpAny_newObj_type (wpAny_pure ⟨_, rfl, wpAny_pure h⟩) htake))
end
end HT
namespace L2
open PySem PySem.Spec PyProof.Rows
abbrev TO := St -> Hp -> (Option Int -> Hp -> Prop) -> Prop
noncomputable def PO (X : Cx) (e : Option Expr) (t : TO) : Prop :=
 ∀ (pins : Cv) (s : Shared) (σ : St) (H : Hp) (Q : Option Int -> Hp -> Prop), Inv X pins σ H s -> t σ H Q ->
  wpAny (model X.prog X.w) X.A (evalPart e X.env) (fun u s' => ∃ o H', Inv X pins σ H' s' /\ IsPart u o /\ Q o H') X.xe s
noncomputable def Fk : TO := fun _ H Q => Q none H
noncomputable def FG (t : TE) : TO := fun σ H Q => t σ H fun x H1 => ∃ i, x = .int i /\ Q (some i) H1
theorem bZ {ns : List Int} : ∀ {us : List Value}, Vals (ns.map V.int) us -> IntsAre us ns := by
 induction ns with
 | nil => intro us r; rw [List.map_nil] at r; cases r; exact .nil
 | cons n ns ih =>
  intro us r
  rw [List.map_cons] at r
  cases r with
  | cons r1 r2 =>
   obtain ⟨t, e⟩ := r1
   subst e
   exact .cons n t (ih r2)
section
variable {X : Cx} {e : Expr} {te : TE} {lo hi : Option Expr} {tl th : TO} {pos p2 : Pos}
theorem qo : PO X none Fk := by
 intro pins s σ H Q I h
 rw [evalPart_none]
 exact wpAny_pure ⟨none, H, I, .none, h⟩
theorem qp (h : PE X e te) : PO X (some e) (FG te) := by
 intro pins s σ H Q I hw
 rw [evalPart_some]
 refine thn (h pins s σ H _ I hw) fun u s1 ⟨x, H1, I1, r1, q1⟩ => ?_
 obtain ⟨i, rfl, q⟩ := q1
 obtain ⟨t, rfl⟩ := r1
 exact ⟨some i, H1, I1, .int i t, q⟩
noncomputable def SlR (X : Cx) (r : V -> Option Int -> Option Int -> Hp -> VK -> Prop) : Prop :=
 ∀ (pins : Cv) (s : Shared) (σ : St) (H : Hp) (x : V) (v vl vu : Value) (lo hi : Option Int) (sl : Addr) (Q : VK), Inv X pins σ H s -> RelV x v -> s.heap.IsSliceOf sl vl vu .none -> IsPart vl lo -> IsPart vu hi -> r x lo hi H Q ->
  ∃ T id, typeLookup (.type T) "__getitem__" = pure (some (.builtin id)) /\ s.TypeIs v T /\ wpAny (model X.prog X.w) X.A (getItem v (.ref sl)) (EP X pins σ Q) X.xe s
theorem SlR.or {r r' : V -> Option Int -> Option Int -> Hp -> VK -> Prop} (h : SlR X r) (h' : SlR X r') : SlR X (fun x lo hi H Q => r x lo hi H Q \/ r' x lo hi H Q) := by
 intro pins s σ H x v vl vu lo hi sl Q I rx hs pl pu q
 rcases q with q | q
 ·exact h pins s σ H x v vl vu lo hi sl Q I rx hs pl pu q
 ·exact h' pins s σ H x v vl vu lo hi sl Q I rx hs pl pu q
noncomputable def tSl (r : V -> Option Int -> Option Int -> Hp -> VK -> Prop) (te : TE) (tl th : TO) : TE := fun σ H Q => te σ H fun x H1 => tl σ H1 fun l H2 => th σ H2 fun u H3 => r x l u H3 Q
theorem ni {r : V -> Option Int -> Option Int -> Hp -> VK -> Prop} (hr : SlR X r) (he : PE X e te) (hl : PO X lo tl) (hu : PO X hi th) : PE X (.Subscript e (.Slice lo hi none p2) pos) (tSl r te tl th) := by
 intro pins s σ H Q I h
 refine Subscript_ (thn (he pins s σ H _ I h) fun v s1 ⟨x, H1, I1, r1, q1⟩ => ?_)
 refine wpAny_Slice (thn (hl pins s1 σ H1 _ I1 q1) fun vl s2 ⟨l, H2, I2, pl, q2⟩ => thn (hu pins s2 σ H2 _ I2 q2) fun vu s3 ⟨u, H3, I3, pu, q3⟩ => ?_)
 rw [evalPart_none]
 refine wpAny_pure ?_
 have I4 : Inv X pins σ H3 { s3 with heap := s3.heap.push { cls := .type "slice", data := .fields #[vl, vu, .none] } } := I3.kept (t' := s3.toks) fun b ob q => Heap.get?_push_of_some _ q
 obtain ⟨T, id, hT, ht, hg⟩ := hr pins { s3 with heap := s3.heap.push { cls := .type "slice", data := .fields #[vl, vu, .none] } } σ H3 x v vl vu l u s3.heap.objs.size Q I4 r1 (Heap.IsSliceOf.new ..) pl pu q3
 show wpAny (model X.prog X.w) X.A (subscriptTail e (.Slice lo hi none p2) v (.ref s3.heap.objs.size)) (EP X pins σ Q) X.xe { s3 with heap := s3.heap.push { cls := .type "slice", data := .fields #[vl, vu, .none] } }
 exact tail_any (ops := [.ref s3.heap.objs.size, v]) ht hT hg (by with_unfolding_all rfl)
noncomputable def cutV (xs : List V) (lo hi : Option Int) : List V := (xs.drop (HT.sIx xs.length 0 lo)).take (HT.sIx xs.length xs.length hi - HT.sIx xs.length 0 lo)
theorem iY (xs : List V) (lo hi : Option Int) : (cutV xs lo hi).length <= xs.length := by
 unfold cutV
 rw [List.length_take, List.length_drop]
 lia
noncomputable def rSlT (K : W.Frag) : V -> Option Int -> Option Int -> Hp -> VK -> Prop := fun x lo hi H Q => ∃ a xs, x = .ref a /\ SqT K H a xs /\
 ¬ (HT.sIx xs.length 0 lo = 0 /\ HT.sIx xs.length xs.length hi = xs.length) /\ ∀ p, H p = none -> Q (.ref p) (upd H p (.tup (cutV xs lo hi)))
theorem xQ : SlR X (rSlT X.K) := by
 intro pins s σ H x v vl vu lo hi sl Q I rx hs pl pu h
 obtain ⟨a, xs, rfl, hx, hw, q⟩ := h
 cases rx
 obtain ⟨its, r, ht, hz⟩ := I.tuple hx
 have hlen : its.toArray.size = xs.length := by rw [List.size_toArray]; exact r.length.symm
 refine ⟨"tuple", _, slot_tuple_getitem.lookup, ht.typeIs, ?_⟩
 refine HT.i6 ht hs pl pu (by rw [hlen]; exact hw) ?_ (by rw [hlen]; exact hz)
 rw [hlen]
 refine ⟨.ref s.heap.objs.size, _, I.laid (t' := s.toks) (o := .tup (cutV xs lo hi)) (fun b ob q => Heap.get?_push_of_some _ q) (Nat.le_refl _) ?_, rfl, q _ (I.hok.fresh (Nat.le_refl _))⟩
 exact ⟨Nat.le_trans (iY xs lo hi) hz, _, (r.drop (HT.sIx xs.length 0 lo)).take (HT.sIx xs.length xs.length hi - HT.sIx xs.length 0 lo), IsTup.new _ _⟩
noncomputable def FH (K : W.Frag) : R2 := fun x y H Q => ∃ a b xs ys, x = .ref a /\ y = .ref b /\ SqT K H a xs /\ SqT K H b ys /\ xs ≠ [] /\ xs.length + ys.length <= sizeLine /\
 (ys = [] -> Q (.ref a) H) /\ (ys ≠ [] -> ∀ p, H p = none -> Q (.ref p) (upd H p (.tup (xs ++ ys))))
theorem Vals.nil_iff {xs : List V} {us : List Value} (r : Vals xs us) : us = [] ↔ xs = [] := by
 cases r with
 | nil => simp
 | cons _ _ => simp
theorem vt : OpR X (binaryOp .Add) (FH X.K) := by
 intro pins s σ H x y v u Q I rx ry h
 obtain ⟨a, b, xs, ys, rfl, rfl, ha, hb, hx, hz, q1, q2⟩ := h
 cases rx
 cases ry
 obtain ⟨its, r1, p1, _⟩ := I.tuple ha
 obtain ⟨its2, r2, p2, _⟩ := I.tuple hb
 refine HT.vq p1 p2 (fun z => hx (r1.nil_iff.mp z)) (fun z => ⟨.ref a, H, I, rfl, q1 (r2.nil_iff.mp z)⟩) (fun z => ?_) (by rw [<- r1.length, <- r2.length]; exact hz)
 refine ⟨.ref s.heap.objs.size, _, I.laid (t' := s.toks) (o := .tup (xs ++ ys)) (fun b ob q => Heap.get?_push_of_some _ q) (Nat.le_refl _) ?_, rfl, q2 (fun w => z (r2.nil_iff.mpr w)) _ (I.hok.fresh (Nat.le_refl _))⟩
 exact ⟨by rw [List.length_append]; exact hz, _, r1.append r2, IsTup.new _ _⟩
end
noncomputable def ixN (n : Nat) (i : Int) : Option Nat := if 0 <= i then (if i < n then some i.toNat else none) else if -(n : Int) <= i then some (i + n).toNat else none
noncomputable def atI {α : Type} (xs : List α) (i : Int) : Option α := (ixN xs.length i).bind fun j => xs[j]?
theorem qq {n : Nat} {i : Int} {j : Nat} (h : ixN n i = some j) : seqIndex? i n = some j /\ j < n /\ -(n : Int) <= i /\ i < n := by
 unfold ixN at h
 by_cases h0 : 0 <= i
 ·rw [if_pos h0] at h
  by_cases h1 : i < n
  ·rw [if_pos h1] at h
   have e : i.toNat = j := Option.some.inj h
   exact ⟨by rw [seqIndex_of h0 h1, e], by lia, by lia, h1⟩
  ·rw [if_neg h1] at h; cases h
 ·rw [if_neg h0] at h
  by_cases h1 : -(n : Int) <= i
  ·rw [if_pos h1] at h
   have e : (i + n).toNat = j := Option.some.inj h
   exact ⟨by rw [seqIndex_neg (by lia) h1, e], by lia, h1, by lia⟩
  ·rw [if_neg h1] at h; cases h
theorem qr {α : Type} {xs : List α} {i : Int} {v : α} (h : atI xs i = some v) : ∃ j, seqIndex? i xs.length = some j /\ xs[j]? = some v /\ j < xs.length /\ -(xs.length : Int) <= i /\ i < xs.length := by
 unfold atI at h
 cases e : ixN xs.length i with
 | none => rw [e] at h; cases h
 | some j =>
  rw [e] at h
  obtain ⟨h1, h2, h3, h4⟩ := qq e
  exact ⟨j, h1, h, h2, h3, h4⟩
theorem tw {α : Type} (xs : List α) (v : α) : atI (xs ++ [v]) (-1) = some v := by
 have hl : (xs ++ [v]).length = xs.length + 1 := by simp
 have e : ixN (xs ++ [v]).length (-1) = some xs.length := by
  unfold ixN
  rw [hl, if_neg (by decide), if_pos (by lia)]
  congr 1
  lia
 unfold atI
 rw [e]
 show (xs ++ [v])[xs.length]? = some v
 simp
noncomputable def EH (b : Expr) : Prop := ∀ o i, subscripted b false o i = operate [o, i] (getItem o i)
noncomputable def IxR (X : Cx) (r : R2) : Prop :=
 ∀ (value slice : Expr) (pins : Cv) (s : Shared) (σ : St) (H : Hp) (x y : V) (v u : Value) (Q : VK), Inv X pins σ H s -> RelV x v -> RelV y u -> r x y H Q ->
  subscripted slice false v u = operate [v, u] (getItem v u) -> wpAny (model X.prog X.w) X.A (subscriptTail value slice v u) (EP X pins σ Q) X.xe s
noncomputable def MtR (X : Cx) (id : String) (r : V -> List V -> Hp -> VK -> Prop) : Prop :=
 ∀ (pins : Cv) (s : Shared) (σ : St) (H : Hp) (x : V) (xs : List V) (v : Value) (us : List Value) (Q : VK), Inv X pins σ H s -> RelV x v -> Vals xs us -> r x xs H Q ->
  wpAny (model X.prog X.w) X.A (call (.builtin id) (v :: us)) (EP X pins σ Q) X.xe s
section
variable {X : Cx} {a b : Expr} {ta tb : TE} {pos : Pos}
theorem IxR.or {r r' : R2} (h : IxR X r) (h' : IxR X r') : IxR X (fun x y H Q => r x y H Q \/ r' x y H Q) := by
 intro value slice pins s σ H x y v u Q I rx ry q hs
 rcases q with q | q
 ·exact h value slice pins s σ H x y v u Q I rx ry q hs
 ·exact h' value slice pins s σ H x y v u Q I rx ry q hs
theorem nj {r : R2} (hr : IxR X r) (ha : PE X a ta) (hb : PE X b tb) (hs : EH b) : PE X (.Subscript a b pos) (tOp r ta tb) := by
 intro pins s σ H Q I h
 exact Subscript_ (binT ha hb I h fun v u s2 x y H2 I2 rx ry q => hr a b pins s2 σ H2 x y v u Q I2 rx ry q (hs _ _))
noncomputable def rIxL (K : W.Frag) : R2 := fun x y H Q => ∃ p xs i v, x = .ref p /\ y = .int i /\ SqL K H p xs /\ atI xs i = some v /\ Q v H
noncomputable def rIxT (K : W.Frag) : R2 := fun x y H Q => ∃ p xs i v, x = .ref p /\ y = .int i /\ SqT K H p xs /\ atI xs i = some v /\ Q v H
theorem vv : IxR X (rIxL X.K) := by
 intro value slice pins s σ H x y v u Q I rx ry h hs
 obtain ⟨p, xs, i, z, rfl, rfl, hq, he, q⟩ := h
 cases rx
 obtain ⟨t, rfl⟩ := ry
 obtain ⟨its, r, pl, hz⟩ := I.list hq
 obtain ⟨j, h1, h2, h3, h4, h5⟩ := qr he
 obtain ⟨w, ew, rw'⟩ := r.get h2
 have hl := r.length
 have hn := line63
 have fin : EP X pins σ Q w s := ⟨z, H, I, rw', q⟩
 by_cases h0 : 0 <= i
 ·have hj : i.toNat = j := by
   rw [seqIndex_of h0 h5] at h1
   exact Option.some.inj h1
  exact item_listR pl.isList h0 (by lia) (by rw [hj]; simpa using ew) fin hs
 ·have hj : (i + (its.toArray.size : Int)).toNat = j := by
   rw [seqIndex_neg (by lia) h4] at h1
   rw [List.size_toArray, <- hl]
   exact Option.some.inj h1
  exact subscriptTail_builtinR (x := w) pl.isList.typeIs slot_list_getitem.lookup
   (wpAny_getItem_list_neg (Q := fun r s' => r = w /\ EP X pins σ Q r s') pl.isList (by lia) (by rw [List.size_toArray] <;> lia) (by lia) (by rw [hj]; simpa using ew) ⟨rfl, fin⟩) hs
theorem jy : IxR X (rIxT X.K) := by
 intro value slice pins s σ H x y v u Q I rx ry h hs
 obtain ⟨p, xs, i, z, rfl, rfl, hq, he, q⟩ := h
 cases rx
 obtain ⟨t, rfl⟩ := ry
 obtain ⟨its, r, pl, hz⟩ := I.tuple hq
 obtain ⟨j, h1, h2, h3, h4, h5⟩ := qr he
 obtain ⟨w, ew, rw'⟩ := r.get h2
 have hl := r.length
 have hn := line63
 have fin : EP X pins σ Q w s := ⟨z, H, I, rw', q⟩
 exact subscriptTail_builtinR (x := w) pl.typeIs slot_tuple_getitem.lookup
  (getItem_tuple (j := j) (Q := fun r s' => r = w /\ EP X pins σ Q r s') pl (by lia) (by lia) (by rw [List.size_toArray, <- hl]; exact h1) (by simpa using ew) ⟨rfl, fin⟩) hs
theorem p6 (its : List Value) (n j : Nat) (u : Value) : Obj.mapSeq (·.setIfInBounds j u) { cls := .type "list", data := .seq its.toArray n } = { cls := .type "list", data := .seq (its.set j u).toArray n } := by
 simp [Obj.mapSeq]
theorem Inv.lst {pins : Cv} {σ : St} {H : Hp} {s : Shared} {p : Addr} {xs : List V} (I : Inv X pins σ H s) (h : H p = some (.lst xs)) :
  ∃ (its : List Value) (n : Nat), Vals xs its /\ s.heap.get? p = some { cls := .type "list", data := .seq its.toArray n } /\ xs.length <= sizeLine := by
 obtain ⟨z, its, n, r, e⟩ := I.hok p _ h
 exact ⟨its, n, r, e, z⟩
theorem Inv.lstUpd {pins : Cv} {σ : St} {H : Hp} {s : Shared} {p : Addr} {xs ys : List V} {its its' : List Value} {n n' : Nat} {f : Obj -> Obj} (I : Inv X pins σ H s) (h : H p = some (.lst xs))
  (ho : s.heap.get? p = some { cls := .type "list", data := .seq its.toArray n }) (hf : f { cls := .type "list", data := .seq its.toArray n } = { cls := .type "list", data := .seq its'.toArray n' }) (r : Vals ys its') (hz : ys.length <= sizeLine) (t : Nat) :
  Inv X pins σ (upd H p (.lst ys)) { s with heap := s.heap.update p f, toks := t } := by
 have e : (s.heap.update p f).get? p = some { cls := .type "list", data := .seq its'.toArray n' } := by
  rw [Heap.get?_update_self f ho (by rw [hf] <;> rfl), hf]
 refine I.write (x := p) (e := p) (by rw [h]; trivial) (.inl rfl) (fun b u hb q => (Heap.get?_update_other _ _ (Ne.symm hb)).trans q) ⟨_, e⟩ ?_
 exact ⟨hz, its', n', r, e⟩
noncomputable def Fn : V -> V -> V -> Hp -> (Hp -> Prop) -> Prop := fun o i v H Q => ∃ p xs k j, o = .ref p /\ i = .int k /\ H p = some (.lst xs) /\ ixN xs.length k = some j /\ Q (upd H p (.lst (xs.set j v)))
theorem tD : PSet X Fn := by
 intro pins s σ H o i v ov iv u Q I ro ri rv h
 obtain ⟨p, xs, k, j, rfl, rfl, hp, hj, q⟩ := h
 cases ro
 obtain ⟨t, rfl⟩ := ri
 obtain ⟨its, n, r, ho, hz⟩ := I.lst hp
 obtain ⟨h1, h2, h3, h4⟩ := qq hj
 have hl := r.length
 have hn := line63
 have I' : Inv X pins σ (upd H p (.lst (xs.set j v))) { s with heap := s.heap.update p (Obj.mapSeq (·.setIfInBounds j u)) } :=
  I.lstUpd hp ho (p6 its n j u) (r.set rv j) (by rw [List.length_set]; exact hz) s.toks
 by_cases h0 : 0 <= k
 ·have hk : k.toNat = j := by
   rw [seqIndex_of h0 h4] at h1
   exact Option.some.inj h1
  exact W.ki_setAt ho h0 (by lia) (by rw [List.size_toArray, <- hl]; exact h4) (by rw [hk]; exact ⟨_, I', q⟩)
 ·have hk : (k + (its.toArray.size : Int)).toNat = j := by
   rw [seqIndex_neg (by lia) h3] at h1
   rw [List.size_toArray, <- hl]
   exact Option.some.inj h1
  exact W.ki_setBack ho (by lia) (by rw [List.size_toArray, <- hl]; exact h3) (by lia) (by rw [hk]; exact ⟨_, I', q⟩)
theorem md (lo hi : Option Int) (n : Nat) : (sliceBounds lo hi none n).1 = ((HT.sIx n 0 lo : Nat) : Int) /\ (sliceBounds lo hi none n).2.1 = ((HT.sIx n n hi : Nat) : Int) /\ (sliceBounds lo hi none n).2.2 = 1 := by
 refine ⟨?_, ?_, rfl⟩
 ·cases lo with
  | none => simp [sliceBounds, HT.sIx]
  | some i =>
   simp only [sliceBounds, HT.sIx, Option.getD_none, show (1 : Int) > 0 by decide, if_true]
   by_cases h : i < 0
   ·simp only [h, if_true] <;> lia
   ·simp only [h, if_false] <;> lia
 ·cases hi with
  | none => simp [sliceBounds, HT.sIx]
  | some i =>
   simp only [sliceBounds, HT.sIx, Option.getD_none, show (1 : Int) > 0 by decide, if_true]
   by_cases h : i < 0
   ·simp only [h, if_true] <;> lia
   ·simp only [h, if_false] <;> lia
theorem kH (its : List Value) (lo hi : Option Int) : slicePick its.toArray lo hi none = ((its.drop (HT.sIx its.length 0 lo)).take (HT.sIx its.length its.length hi - HT.sIx its.length 0 lo)).toArray := by
 obtain ⟨h1, h2, h3⟩ := md lo hi its.toArray.size
 unfold slicePick
 rw [h1, h2, h3]
 simp only [sliceRange_one, pick_run, List.size_toArray] <;> rfl
noncomputable def rSlL (K : W.Frag) : V -> Option Int -> Option Int -> Hp -> VK -> Prop := fun x lo hi H Q => ∃ a xs, x = .ref a /\ SqL K H a xs /\ ∀ p, H p = none -> Q (.ref p) (upd H p (.lst (cutV xs lo hi)))
theorem vw : SlR X (rSlL X.K) := by
 intro pins s σ H x v vl vu lo hi sl Q I rx hs pl pu h
 obtain ⟨a, xs, rfl, hx, q⟩ := h
 cases rx
 obtain ⟨its, r, ht, hz⟩ := I.list hx
 have hlen := r.length
 refine ⟨"list", _, slot_list_getitem.lookup, ht.isList.typeIs, ?_⟩
 refine wpAny_getItem_list_slice ht.isList hs pl pu .none (by simp) ?_ (by rw [List.size_toArray] <;> lia)
 rw [kH, <- hlen]
 refine ⟨.ref s.heap.objs.size, _, I.laid (t' := s.toks) (o := .lst (cutV xs lo hi)) (fun b ob q => Heap.get?_push_of_some _ q) (Nat.le_refl _) ?_, rfl, q _ (I.hok.fresh (Nat.le_refl _))⟩
 exact ⟨Nat.le_trans (iY xs lo hi) hz, _, 0, (r.drop (HT.sIx xs.length 0 lo)).take (HT.sIx xs.length xs.length hi - HT.sIx xs.length 0 lo), Heap.get?_push_size _ rfl⟩
theorem dw : Di X (.builtin "len") (fun xs H Q => ∃ p ys, xs = [.ref p] /\ (SqL X.K H p ys \/ SqT X.K H p ys) /\ Q (.int ys.length) H) := by
 intro pins s σ H xs us Q I r h
 obtain ⟨p, ys, rfl, hq, q⟩ := h
 obtain ⟨u, rfl, rx⟩ := vals1 r
 cases rx
 have hn := line63
 rcases hq with hq | hq
 ·obtain ⟨its, r', pl, hz⟩ := I.list hq
  have hlen := r'.length
  exact Calls.call_len_list pl.isList (by simp only [List.size_toArray] <;> lia) ⟨.int ys.length, H, I.tok _, ⟨s.toks + 1, by rw [List.size_toArray, hlen]⟩, q⟩
 ·obtain ⟨its, r', pl, hz⟩ := I.tuple hq
  have hlen := r'.length
  exact len_tuple pl (by simp only [List.size_toArray] <;> lia) ⟨.int ys.length, H, I.tok _, ⟨s.toks + 1, by rw [List.size_toArray, hlen]⟩, q⟩
theorem i7 : Di X (.type "list") (fun xs H Q => ∃ p ys, xs = [.ref p] /\ (SqL X.K H p ys \/ SqT X.K H p ys) /\ ∀ l, H l = none -> Q (.ref l) (upd H l (.lst ys))) := by
 intro pins s σ H xs us Q I r h
 obtain ⟨p, ys, rfl, hq, q⟩ := h
 obtain ⟨u, rfl, rx⟩ := vals1 r
 cases rx
 have fin : ∀ (its : List Value), Vals ys its -> ys.length <= sizeLine -> ∀ (h' : Heap) (c' : Nat), (∀ b o', s.heap.get? b = some o' -> h'.get? b = some o') ->
   h'.get? s.heap.objs.size = some { cls := .type "list", dict := none, data := .seq its.toArray c', slots := #[] } -> EP X pins σ Q (.ref s.heap.objs.size) { s with heap := h' } := fun its r' hz h' c' kp e =>
  ⟨.ref s.heap.objs.size, _, I.laid (t' := s.toks) kp (Nat.le_refl _) (show D1 X.prog X.w _ h' _ (.lst ys) from ⟨hz, its, c', r', e⟩), rfl, q _ (I.hok.fresh (Nat.le_refl _))⟩
 rcases hq with hq | hq
 ·obtain ⟨its, r', pl, hz⟩ := I.list hq
  have hlen := r'.length
  obtain ⟨o, ho, hc, n, hd⟩ := pl.isList
  exact call_list_seq p (.inl rfl) ho hc hd (fun h' c' kp e => fin its r' hz h' c' kp e) (by simp only [List.size_toArray] <;> lia)
 ·obtain ⟨its, r', pl, hz⟩ := I.tuple hq
  have hlen := r'.length
  obtain ⟨o, ho, hc, n, hd⟩ := pl
  exact call_list_seq p (.inr rfl) ho hc hd (fun h' c' kp e => fin its r' hz h' c' kp e) (by simp only [List.size_toArray] <;> lia)
theorem kI : Di X (.type "tuple") (fun xs H Q => ∃ p ys, xs = [.ref p] /\ ((SqL X.K H p ys /\ ∀ l, H l = none -> Q (.ref l) (upd H l (.tup ys))) \/ (SqT X.K H p ys /\ Q (.ref p) H))) := by
 intro pins s σ H xs us Q I r h
 obtain ⟨p, ys, rfl, h⟩ := h
 obtain ⟨u, rfl, rx⟩ := vals1 r
 cases rx
 rcases h with ⟨hq, q⟩ | ⟨hq, q⟩
 ·obtain ⟨its, r', pl, hz⟩ := I.list hq
  have hlen := r'.length
  refine call_tuple_list pl.isList (fun h' kp => ?_) (by simp only [List.size_toArray] <;> lia)
  have I1 : Inv X pins σ H { s with heap := h' } := I.kept (t' := s.toks) kp
  have I2 : Inv X pins σ (upd H h'.objs.size (.tup ys)) { s with heap := h'.push { cls := .type "tuple", data := .seq its.toArray } } :=
   I1.laid (t' := s.toks) (fun b o e => Heap.get?_push_of_some _ e) (Nat.le_refl _) (show D1 X.prog X.w _ _ _ (.tup ys) from ⟨hz, its, r', IsTup.new _ _⟩)
  exact ⟨.ref h'.objs.size, _, I2, rfl, q _ (I1.hok.fresh (Nat.le_refl _))⟩
 ·obtain ⟨its, r', pl, hz⟩ := I.tuple hq
  exact call_tuple_same pl ⟨.ref p, H, I, rfl, q⟩
noncomputable def tyV (K : W.Frag) (T : String) (x : V) (H : Hp) : Prop := match x with
 | .str _ => T = "str"
 | .int _ => T = "int"
 | .ref p => (T = "list" /\ ∃ xs, SqL K H p xs) \/ (T = "tuple" /\ ∃ o, K.lookup p = some o /\ o.cls = .type "tuple" /\ o.dict = none) \/
   (T = "dict" /\ ((∃ kvs, H p = some (.dK kvs)) \/ ∃ kvs, H p = some (.dT kvs))) \/ (T = "set" /\ ∃ S n, H p = some (.set S n))
 | _ => False
theorem xR {pins : Cv} {σ : St} {H : Hp} {s : Shared} {T : String} {x : V} {v : Value} (I : Inv X pins σ H s) (r : RelV x v) (ty : tyV X.K T x H) :
  s.TypeIs v T /\ ∀ a, v = .ref a -> ∃ ob, s.heap.get? a = some ob /\ ob.dict = none := by
 cases x with
 | str z =>
  obtain ⟨t, rfl⟩ := r
  cases (show T = "str" from ty)
  exact ⟨typeIs_str s z t, fun _ e => nomatch e⟩
 | int i =>
  obtain ⟨t, rfl⟩ := r
  cases (show T = "int" from ty)
  exact ⟨typeIs_int s i t, fun _ e => nomatch e⟩
 | ref p =>
  cases r
  rcases ty with ⟨rfl, xs, hq⟩ | ⟨rfl, o, hk, hc, hd⟩ | ⟨rfl, hk⟩ | ⟨rfl, S, n, hk⟩
  ·obtain ⟨its, _, pl, _⟩ := I.list hq
   refine ⟨pl.isList.typeIs, fun a e => ?_⟩
   cases e
   obtain ⟨o, n, e, c, hd, _⟩ := pl
   exact ⟨o, e, hd⟩
  ·refine ⟨⟨o, I.kIn p o hk, hc⟩, fun a e => ?_⟩
   cases e
   exact ⟨o, I.kIn _ o hk, hd⟩
  ·have z : ∃ o, s.heap.get? p = some o /\ o.ExactDict := by
    rcases hk with ⟨kvs, hk⟩ | ⟨kvs, hk⟩
    ·obtain ⟨_, _, _, _, o, _, _, e, ex, _⟩ := I.hok p _ hk
     exact ⟨o, e, ex⟩
    ·obtain ⟨_, _, _, _, o, _, _, e, ex, _⟩ := I.hok p _ hk
     exact ⟨o, e, ex⟩
   obtain ⟨o, e, ex⟩ := z
   refine ⟨⟨o, e, ex.1⟩, fun a e2 => ?_⟩
   cases e2
   exact ⟨o, e, ex.2.1⟩
  ·obtain ⟨o, _, _, _, e, ex, _⟩ := I.hok p _ hk
   refine ⟨⟨o, e, ex.1⟩, fun a e2 => ?_⟩
   cases e2
   exact ⟨o, e, ex.2.1⟩
 | _ => exact False.elim ty
noncomputable def tBM (K : W.Frag) (T : String) (r : V -> List V -> Hp -> VK -> Prop) (to : TE) (t : TA) : TE := fun σ H Q => to σ H fun x H1 => tyV K T x H1 /\ t σ H1 fun xs H2 => r x xs H2 Q
variable {o e : Expr} {es : List Expr} {to : TE} {t : TA} {name : Str} {apos cpos : Pos} {T id : String} {r : V -> List V -> Hp -> VK -> Prop}
theorem wR (pa : PlainAttrs T) (slot : Slot T name id) (hty : typeOf (.builtin id) = pure (.type "method_descriptor")) (hm : MtR X id r) (ho : PE X o to) (ha : PA X (e :: es) t)
  (hbase : attributeBase o name X.env (eval o X.env) = eval o X.env := by rfl)
  (hfew : ((backTo cpos (starEach (e :: es) X.env)).all (fun x => !x.1) && (backToKw cpos (keywordEach [] X.env)).all (fun x => x.1.isSome)
   && decide ((e :: es).length + ([] : List Keyword).length + (if ([] : List Keyword).isEmpty then 0 else 1) < 30)) = true := by rfl)
  (hline : (apos.endLine == cpos.line) = true := by rfl) (hs : starEach (e :: es) X.env = (false, eval e X.env) :: starEach es X.env := by rfl) (hplain : (backTo cpos (starEach es X.env)).any (·.1) = false := by rfl) :
  PE X (.Call (.Attribute o name apos) (e :: es) [] cpos) (tBM X.K T r to t) := by
 intro pins s σ H Q I h
 refine wpAny_Call_method_late hbase hfew hline rfl (thn (ho pins s σ H _ I h) fun v s1 ⟨x, H1, I1, r1, ty, q1⟩ => ?_)
 obtain ⟨h1, h2⟩ := xR I1 r1 ty
 refine ⟨T, id, pa, slot, hty, h1, h2, ?_⟩
 have hA := ha cpos pins s1 σ H1 _ I1 q1
 rw [hs] at hA ⊢
 refine Calls.callWith_builtin (by show (false || (backTo cpos (starEach es X.env)).any (·.1)) = false; rw [hplain] <;> rfl) (Calls.evalArgs_plain ?_)
 exact thn hA fun us s2 ⟨vs, H2, I2, r2, q2⟩ => hm pins s2 σ H2 x vs v us Q I2 r1 r2 q2
end
noncomputable def MtM (X : Cx) (id : String) (r : V -> List V -> Hp -> VK -> Prop) : Prop :=
 ∀ (pins : Cv) (s : Shared) (σ : St) (H : Hp) (x : V) (xs : List V) (v : Value) (us : List Value) (Q : VK), Inv X pins σ H s -> RelV x v -> Vals xs us -> r x xs H Q ->
  wpAny (model X.prog X.w) X.A (call (.builtin id) (v :: us)) (EP X pins σ Q) X.xe s
theorem Vals.one : ∀ {x : V} {us : List Value}, Vals [x] us -> ∃ u, us = [u] /\ RelV x u
 | _, _, .cons r .nil => ⟨_, rfl, r⟩
theorem Vals.zero : ∀ {us : List Value}, Vals [] us -> us = []
 | _, .nil => rfl
theorem Vals.rep {xs : List V} {us : List Value} (h : Vals xs us) : ∀ k : Nat, Vals (List.replicate k xs).flatten (List.replicate k us).flatten
 | 0 => .nil
 | k + 1 => by
  rw [List.replicate_succ, List.replicate_succ, List.flatten_cons, List.flatten_cons]
  exact Vals.append h (Vals.rep h k)
theorem la (its : List Value) : ∀ (k : Nat) (acc : List Value),
  List.foldl (fun x1 x2 => x1 ++ x2) acc.toArray (List.replicate k its.toArray) = (acc ++ (List.replicate k its).flatten).toArray
 | 0, acc => by simp
 | k + 1, acc => by
  have e : acc.toArray ++ its.toArray = (acc ++ its).toArray := by simp
  have e2 : (acc ++ its) ++ (List.replicate k its).flatten = acc ++ (List.replicate (k + 1) its).flatten := by
   rw [List.replicate_succ, List.flatten_cons, List.append_assoc]
  rw [<- e2, <- la its k (acc ++ its), <- e, List.replicate_succ, List.foldl_cons]
section
variable {X : Cx} {pins : Cv} {σ : St} {H : Hp} {s : Shared} {l b : Addr} {xs ys zs : List V}
theorem Inv.lset {its its' : List Value} {n : Nat} {f : Array Value -> Array Value} {t' : Nat} (I : Inv X pins σ H s) (hH : H l = some (.lst xs))
  (e : s.heap.get? l = some { cls := .type "list", data := .seq its.toArray n }) (hf : f its.toArray = its'.toArray) (hv : Vals ys its') (hz : ys.length <= sizeLine) :
  Inv X pins σ (upd H l (.lst ys)) { s with heap := s.heap.update l (Obj.mapSeq f), toks := t' } := by
 have q := PySem.IsL.update e f
 rw [hf] at q
 refine I.write (x := l) (e := l) (by rw [hH]; exact trivial) (.inl rfl) (fun b' u hb hu => (Heap.get?_update_other s.heap (Obj.mapSeq f) (Ne.symm hb)).trans hu) ⟨_, q⟩ ?_
 exact ⟨hz, its', _, hv, q⟩
theorem Inv.lnew {its : List Value} {t' : Nat} (I : Inv X pins σ H s) (hv : Vals ys its) (hz : ys.length <= sizeLine) :
  Inv X pins σ (upd H s.heap.objs.size (.lst ys)) { s with heap := s.heap.push { cls := .type "list", data := .seq its.toArray }, toks := t' } :=
 I.laid (fun _ _ q => Heap.get?_push_of_some _ q) (Nat.le_refl _) ⟨hz, its, 0, hv, Heap.get?_push_size _ rfl⟩
theorem Inv.fresh (I : Inv X pins σ H s) : H s.heap.objs.size = none := I.hok.fresh (Nat.le_refl _)
theorem Inv.lstM (I : Inv X pins σ H s) (hH : H l = some (.lst xs)) : xs.length <= sizeLine /\ ∃ (its : List Value) (n : Nat), Vals xs its /\ xs.length = its.length /\ s.heap.get? l = some { cls := .type "list", data := .seq its.toArray n } := by
 obtain ⟨z, its, n, r, e⟩ := I.hok l _ hH
 exact ⟨z, its, n, r, r.length, e⟩
theorem F5 {n : Nat} (h : n <= sizeLine) : Builtin.List.listTooLong n = false := by
 unfold Builtin.List.listTooLong
 exact decide_eq_false (by lia)
end
section
variable {X : Cx}
noncomputable def En : V -> List V -> Hp -> VK -> Prop := fun x vs H Q => ∃ l xs y, x = .ref l /\ vs = [y] /\ H l = some (.lst xs) /\ xs.length < sizeLine /\ Q .non (upd H l (.lst (xs ++ [y])))
theorem lb : MtM X "list.append" En := by
 intro pins s σ H x vs v us Q I rx rv h
 obtain ⟨l, xs, y, rfl, rfl, hH, hz, q⟩ := h
 cases rx
 obtain ⟨u, rfl, ru⟩ := rv.one
 obtain ⟨z, its, n, r, hl, e⟩ := I.lstM hH
 refine call_meets F.slot_list_append ⟨_, e, rfl⟩ F.entry_list_append (F.args_list_append_2 _ _) (PySem.list_append l its.toArray n u (by rw [List.size_toArray]; lia)) ⟨e, ?_⟩
 refine ⟨.non, _, I.lset (its' := its ++ [u]) hH e (by simp) (r.append (.cons ru .nil)) ?_, rfl, q⟩
 rw [List.length_append, List.length_singleton]
 lia
theorem vx {α : Type} (xs : List α) (k : Nat) : (List.replicate k xs).flatten.length = k * xs.length := by
 induction k with
 | zero => simp
 | succ k ih => rw [List.replicate_succ, List.flatten_cons, List.length_append, ih, Nat.succ_mul, Nat.add_comm]
end
section
variable {prog : Program} {w : World} {A : Around} {E : Cw} {s : Shared}
end
section
variable {X : Cx}
end
section
variable {κ : Type} [DecidableEq κ]
noncomputable def valV (kvs : List (κ × V)) (k : κ) : Option V := (kvs.find? fun kv => decide (kv.1 = k)).map (·.2)
noncomputable def putK (kvs : List (κ × V)) (k : κ) (v : V) : List (κ × V) :=
 if (kvs.any fun kv => decide (kv.1 = k)) = true then kvs.map (fun kv => if kv.1 = k then (kv.1, v) else kv) else kvs ++ [(k, v)]
theorem fR {p : κ × V} {r : List (κ × V)} {k : κ} (e : p.1 = k) : valV (p :: r) k = some p.2 := by simp [valV, List.find?_cons, e]
theorem fT {p : κ × V} {r : List (κ × V)} {k : κ} (e : ¬ p.1 = k) : valV (p :: r) k = valV r k := by simp [valV, List.find?_cons, e]
theorem nq (k : κ) : ∀ kvs : List (κ × V), (kvs.any fun kv => decide (kv.1 = k)) = (valV kvs k).isSome
 | [] => rfl
 | p :: r => by
  rw [List.any_cons]
  by_cases e : p.1 = k
  ·simp only [fR e, decide_eq_true e, Bool.true_or, Option.isSome_some]
  ·rw [fT e, decide_eq_false e, Bool.false_or]; exact nq k r
theorem iZ (kvs : List (κ × V)) (k : κ) (v : V) : (putK kvs k v).length <= kvs.length + 1 := by
 unfold putK
 split
 ·rw [List.length_map]; lia
 ·rw [List.length_append, List.length_cons, List.length_nil]; lia
theorem RelO.isSome_eq {o : Option V} {u : Option Value} (r : RelO o u) : o.isSome = u.isSome := by
 cases o with
 | none => cases u with
  | none => rfl
  | some _ => exact (show False from r).elim
 | some _ => cases u with
  | none => exact (show False from r).elim
  | some _ => rfl
theorem KV.val {kvs : List (κ × V)} {vs : List (κ × Value)} (r : KV kvs vs) (k : κ) : RelO (valV kvs k) (valueAt vs k) := by
 unfold KV at r
 induction r with
 | nil => exact True.intro
 | @cons p q ps qs h t ih =>
  obtain ⟨h1, h2⟩ := h
  by_cases e : p.1 = k
  ·have e' : q.1 = k := h1.symm.trans e
   have b : valueAt (q :: qs) k = some q.2 := by simp [valueAt, List.find?_cons, e']
   rw [fR e, b]; exact h2
  ·have e' : ¬ q.1 = k := fun z => e (h1.trans z)
   have b : valueAt (q :: qs) k = valueAt qs k := by simp [valueAt, List.find?_cons, e']
   rw [fT e, b]; exact ih
theorem KV.any {kvs : List (κ × V)} {vs : List (κ × Value)} (r : KV kvs vs) (k : κ) : (kvs.any fun kv => decide (kv.1 = k)) = vs.any fun kv => decide (kv.1 = k) := by
 unfold KV at r
 induction r with
 | nil => rfl
 | cons h t ih => rw [List.any_cons, List.any_cons, ih, h.1]
theorem KV.repl {kvs : List (κ × V)} {vs : List (κ × Value)} (r : KV kvs vs) (k : κ) {y : V} {u : Value} (ry : RelV y u) :
  KV (kvs.map fun kv => if kv.1 = k then (kv.1, y) else kv) (vs.map fun kv => if kv.1 = k then (kv.1, u) else kv) := by
 unfold KV at r ⊢
 induction r with
 | nil => exact .nil
 | @cons p q ps qs h t ih =>
  rw [List.map_cons, List.map_cons]
  refine .cons ?_ ih
  obtain ⟨h1, h2⟩ := h
  by_cases e : p.1 = k
  ·rw [if_pos e, if_pos (h1.symm.trans e)]; exact ⟨h1, ry⟩
  ·rw [if_neg e, if_neg (fun z => e (h1.trans z))]; exact ⟨h1, h2⟩
theorem KV.put {kvs : List (κ × V)} {vs : List (κ × Value)} (r : KV kvs vs) (k : κ) {y : V} {u : Value} (ry : RelV y u) : KV (putK kvs k y) (stored vs k u) := by
 unfold putK stored
 rw [r.any k]
 by_cases e : (vs.any fun kv => decide (kv.1 = k)) = true
 ·rw [if_pos e, if_pos e]; exact r.repl k ry
 ·rw [if_neg e, if_neg e]; exact Paired.snoc r ⟨rfl, ry⟩
theorem KV.length {kvs : List (κ × V)} {vs : List (κ × Value)} (r : KV kvs vs) : kvs.length = vs.length := Paired.length r
end
theorem nu {P : Program} {w : World} {k : Key} {u : Value} (r : RelV (kV k) u) : (D3 P w).is k u = true := by
 cases k with
 | inl i => obtain ⟨t, e⟩ := (show ∃ t, u = Value.int i t from r); subst e; exact n4 P w i t
 | inr x => obtain ⟨t, e⟩ := (show ∃ t, u = Value.str x t from r); subst e; exact n5 P w x t
theorem lg {P : Program} {w : World} : ∀ {ks : List Key} {us : List Value}, Vals (ks.map kV) us -> ItemsAre (D3 P w) ks us
 | [], _, r => by rw [List.map_nil] at r; cases r; exact .nil
 | k :: ks, _, r => by
  rw [List.map_cons] at r
  cases r with
  | cons h t => exact .cons (nu h) (lg t)
abbrev KT (H : Hp) : List (List Key × V) -> List (List Key × Addr × Value) -> Prop := Paired fun p q => p.1 = q.1 /\ H q.2.1 = some (.tup (p.1.map kV)) /\ RelV p.2 q.2.2
theorem KT.val {H : Hp} {kvs : List (List Key × V)} {xs : List (List Key × Addr × Value)} (r : KT H kvs xs) (k : List Key) : RelO (valV kvs k) ((atKey xs k).map (·.2)) := by
 induction r with
 | nil => exact True.intro
 | @cons p q ps qs h t ih =>
  obtain ⟨h1, _, h2⟩ := h
  by_cases e : p.1 = k
  ·have e' : q.1 = k := h1.symm.trans e
   have b : atKey (q :: qs) k = some q.2 := by simp [atKey, List.find?_cons, e']
   rw [fR e, b]; exact h2
  ·have e' : ¬ q.1 = k := fun z => e (h1.trans z)
   have b : atKey (q :: qs) k = atKey qs k := by simp [atKey, List.find?_cons, e']
   rw [fT e, b]; exact ih
theorem KT.repl {H : Hp} {kvs : List (List Key × V)} {xs : List (List Key × Addr × Value)} (r : KT H kvs xs) (k : List Key) {y : V} {u : Value} (ry : RelV y u) :
  KT H (kvs.map fun kv => if kv.1 = k then (kv.1, y) else kv) (xs.map (putAt k u)) := by
 induction r with
 | nil => exact .nil
 | @cons p q ps qs h t ih =>
  rw [List.map_cons, List.map_cons]
  refine .cons ?_ ih
  obtain ⟨h1, h2, h3⟩ := h
  unfold putAt
  by_cases e : p.1 = k
  ·rw [if_pos e, if_pos (h1.symm.trans e)]; exact ⟨h1, h2, ry⟩
  ·rw [if_neg e, if_neg (fun z => e (h1.trans z))]; exact ⟨h1, h2, h3⟩
theorem KT.put {H : Hp} {kvs : List (List Key × V)} {xs : List (List Key × Addr × Value)} (r : KT H kvs xs) (k : List Key) {b : Addr} {y : V} {u : Value} (hb : H b = some (.tup (k.map kV))) (ry : RelV y u) :
  KT H (putK kvs k y) (storedH xs k b u) := by
 have e : (kvs.any fun kv => decide (kv.1 = k)) = (atKey xs k).isSome := by
  rw [nq, (r.val k).isSome_eq, Option.isSome_map]
 unfold putK storedH
 rw [e]
 by_cases q : (atKey xs k).isSome = true
 ·rw [if_pos q, if_pos q]; exact r.repl k ry
 ·rw [if_neg q, if_neg q]; exact Paired.snoc r ⟨rfl, hb, ry⟩
theorem KT.keeps {H H' : Hp} {kvs : List (List Key × V)} {xs : List (List Key × Addr × Value)} (r : KT H kvs xs) (ht : ∀ b ys, H b = some (.tup ys) -> H' b = some (.tup ys)) : KT H' kvs xs :=
 Paired.mapP r fun _ _ z => ⟨z.1, ht _ _ z.2.1, z.2.2⟩
section
variable {P : Program} {w : World} {H : Hp} {h : Heap} {a : Addr}
theorem wU {u : HO} (ok : HOk P w H h) (e : Rd H a u) : D1 P w H h a u := e.ok ok
theorem lh {kvs : List (Key × V)} (ok : HOk P w H h) (e : Rd H a (.dK kvs)) : kvs.length <= sizeLine /\ (a == sysModules) = false /\ ∃ vs, KV kvs vs /\ h.DictOf (D3 P w) a vs :=
 show D1 P w H h a (.dK kvs) from wU ok e
theorem zQ {kvs : List (Key × V)} (ok : HOk P w H h) (e : H a = some (.dK kvs)) : kvs.length <= sizeLine /\ (a == sysModules) = false /\ ∃ vs, KV kvs vs /\ h.DictOf (D3 P w) a vs := lh ok (.inl e)
theorem jz {ks : List Key} (ok : HOk P w H h) (e : H a = some (.tup (ks.map kV))) : (tupleKind (D3 P w)).is h ks a := by
 obtain ⟨_, its, r, o, h1, h2, n, h3⟩ := (show D1 P w H h a (.tup (ks.map kV)) from ok a _ e)
 exact ⟨o, its.toArray, n, h1, h2, h3, by simpa using lg r⟩
theorem nv {kvs : List (List Key × V)} (ok : HOk P w H h) (e : Rd H a (.dT kvs)) : kvs.length <= sizeLine /\ (a == sysModules) = false /\
  ∃ xs, KT H kvs xs /\ h.DictOfH (tupleKind (D3 P w)) a xs := by
 obtain ⟨z, y, xs, r, o, es, ep, h1, h2, h3, h4, h5⟩ := (show D1 P w H h a (.dT kvs) from wU ok e)
 refine ⟨z, y, xs, r, o, es, ep, h1, h2, h3, h4, fun x hx => ?_, h5⟩
 have all : ∀ {l : List (List Key × V)} {m : List (List Key × Addr × Value)}, KT H l m -> ∀ x ∈ m, (tupleKind (D3 P w)).is h x.1 x.2.1 := by
  intro l m q
  induction q with
  | nil => intro x hx; exact nomatch hx
  | @cons p q ps qs hq t ih =>
   intro x hx
   rcases List.mem_cons.mp hx with e | hx
   ·subst e
    exact jz ok (by rw [<- hq.1]; exact hq.2.1)
   ·exact ih x hx
 exact all r x hx
theorem zR {kvs : List (List Key × V)} (ok : HOk P w H h) (e : H a = some (.dT kvs)) : kvs.length <= sizeLine /\ (a == sysModules) = false /\
  ∃ xs, KT H kvs xs /\ h.DictOfH (tupleKind (D3 P w)) a xs := nv ok (.inl e)
end
noncomputable def DGet (H : Hp) (a : Addr) (y : V) (r : Option V) : Prop :=
 (∃ kvs k, Rd H a (.dK kvs) /\ y = kV k /\ r = valV kvs k) \/ ∃ kvs k b, Rd H a (.dT kvs) /\ y = .ref b /\ H b = some (.tup (k.map kV)) /\ r = valV kvs k
noncomputable def DPut (H : Hp) (a : Addr) (y v : V) (H' : Hp) : Prop :=
 (∃ kvs k, H a = some (.dK kvs) /\ y = kV k /\ kvs.length < sizeLine /\ H' = upd H a (.dK (putK kvs k v))) \/
 ∃ kvs k b, H a = some (.dT kvs) /\ y = .ref b /\ H b = some (.tup (k.map kV)) /\ kvs.length < sizeLine /\ H' = upd H a (.dT (putK kvs k v))
theorem DGet.k {H : Hp} {a : Addr} {kvs : List (Key × V)} {k : Key} (e : H a = some (.dK kvs)) : DGet H a (kV k) (valV kvs k) := .inl ⟨kvs, k, .inl e, rfl, rfl⟩
theorem DGet.t {H : Hp} {a b : Addr} {kvs : List (List Key × V)} {k : List Key} (e : H a = some (.dT kvs)) (eb : H b = some (.tup (k.map kV))) : DGet H a (.ref b) (valV kvs k) := .inr ⟨kvs, k, b, .inl e, rfl, eb, rfl⟩
theorem DPut.k {H : Hp} {a : Addr} {kvs : List (Key × V)} {k : Key} {v : V} (e : H a = some (.dK kvs)) (hl : kvs.length < sizeLine) : DPut H a (kV k) v (upd H a (.dK (putK kvs k v))) := .inl ⟨kvs, k, e, rfl, hl, rfl⟩
theorem DPut.t {H : Hp} {a b : Addr} {kvs : List (List Key × V)} {k : List Key} {v : V} (e : H a = some (.dT kvs)) (eb : H b = some (.tup (k.map kV))) (hl : kvs.length < sizeLine) :
  DPut H a (.ref b) v (upd H a (.dT (putK kvs k v))) := .inr ⟨kvs, k, b, e, rfl, eb, hl, rfl⟩
section
variable {X : Cx} {pins : Cv} {σ : St} {H : Hp} {s : Shared} {a : Addr} {y v : V} {u r : Value} {o : Option V} {A : Around} {E : Cw}
theorem Inv.big (I : Inv X pins σ H s) : sysModules < s.heap.objs.size := by
 have h : mainGlobals < s.heap.objs.size := (I.mod.glob.keeps I.bk).lt
 exact Nat.lt_trans (by decide) h
theorem lj {Q : Cw} (hu : A.units + 1 < cLine) (I : Inv X pins σ H s) (g : DGet H a y (some v)) (ry : RelV y u) (h : ∀ w' s', Inv X pins σ H s' -> RelV v w' -> Q w' s') :
  wpAny (model X.prog X.w) A (getItem (.ref a) u) Q E s := by
 rcases g with ⟨kvs, k, e, ey, l⟩ | ⟨kvs, k, b, e, ey, eb, l⟩
 ·subst ey
  obtain ⟨z, hd, vs, rel, dd⟩ := lh I.hok e
  obtain ⟨w', hw, rw'⟩ := RelO.some_of (v := v) (o := valueAt vs k) (by rw [l]; exact rel.val k)
  exact wpAny_getItem_of (nu ry) dd.mapOf hw (h w' _ (I.tok _) rw')
 ·subst ey
  cases (show u = Value.ref b from ry)
  obtain ⟨z, hd, xs, rel, dd⟩ := nv I.hok e
  obtain ⟨w', hw, rw'⟩ := RelO.some_of (v := v) (o := (atKey xs k).map (·.2)) (by rw [l]; exact rel.val k)
  obtain ⟨p, hp, hp2⟩ := Option.map_eq_some_iff.mp hw
  refine wpAny_getItem_heap (tupleKind_room_in1 hu) (jz I.hok eb) dd hp ?_
  rw [hp2]
  exact h w' _ (I.tok _) rw'
theorem BZ {Q : Cw} (hu : A.units + 1 < cLine) (I : Inv X pins σ H s) (g : DGet H a y o) (ry : RelV y u) (h : ∀ s', Inv X pins σ H s' -> Q (.bool o.isSome) s') :
  wpAny (model X.prog X.w) A (compareOp .In u (.ref a)) Q E s := by
 rcases g with ⟨kvs, k, e, ey, l⟩ | ⟨kvs, k, b, e, ey, eb, l⟩
 ·subst ey
  obtain ⟨z, hd, vs, rel, dd⟩ := lh I.hok e
  refine wpAny_in_of (nu ry) hd dd.mapOf ?_
  rw [<- (rel.val k).isSome_eq, <- l]
  exact h _ (I.tok _)
 ·subst ey
  cases (show u = Value.ref b from ry)
  obtain ⟨z, hd, xs, rel, dd⟩ := nv I.hok e
  refine wpAny_in_heap (tupleKind_room_in1 hu) (jz I.hok eb) hd dd ?_
  have q := (rel.val k).isSome_eq
  rw [Option.isSome_map] at q
  rw [<- q, <- l]
  exact h _ (I.tok _)
theorem qt {Q : Cw} (hu : A.units + 1 < cLine) (I : Inv X pins σ H s) (g : DGet H a y o) (ry : RelV y u) (h : ∀ s', Inv X pins σ H s' -> Q (.bool (!o.isSome)) s') :
  wpAny (model X.prog X.w) A (compareOp .NotIn u (.ref a)) Q E s := by
 rcases g with ⟨kvs, k, e, ey, l⟩ | ⟨kvs, k, b, e, ey, eb, l⟩
 ·subst ey
  obtain ⟨z, hd, vs, rel, dd⟩ := lh I.hok e
  refine wpAny_notIn_of (nu ry) hd dd.mapOf ?_
  rw [<- (rel.val k).isSome_eq, <- l]
  exact h _ (I.tok _)
 ·subst ey
  cases (show u = Value.ref b from ry)
  obtain ⟨z, hd, xs, rel, dd⟩ := nv I.hok e
  refine wpAny_notIn_heap (tupleKind_room_in1 hu) (jz I.hok eb) hd dd ?_
  have q := (rel.val k).isSome_eq
  rw [Option.isSome_map] at q
  rw [<- q, <- l]
  exact h _ (I.tok _)
theorem qu {h' : Heap} {t' : Nat} {ob : HO} (I : Inv X pins σ H s) (mu : Mut (H a)) (hs : Heap.SameBut a s.heap h') (he : ∃ q, h'.get? a = some q) (new : D1 X.prog X.w (upd H a ob) h' a ob) :
  Inv X pins σ (upd H a ob) { s with heap := h', toks := t' } :=
 I.write (x := a) (e := a) mu (.inl rfl) (fun b q hb z => (hs.2 b hb).trans z) he new
theorem xS {P : Program} {w : World} {H' : Hp} {h' : Heap} {kvs : List (Key × V)} {vs : List (Key × Value)} (z : kvs.length <= sizeLine) (hd : (a == sysModules) = false) (rel : KV kvs vs) (dd : h'.DictOf (D3 P w) a vs) :
  D1 P w H' h' a (.dK kvs) := ⟨z, hd, vs, rel, dd⟩
theorem rq {H' : Hp} {Q : Unit -> Shared -> Prop} (hu : A.units + 1 < cLine) (I : Inv X pins σ H s) (g : DPut H a y v H') (ry : RelV y u) (rv : RelV v r) (h : ∀ s', Inv X pins σ H' s' -> Q () s') :
  wpAny (model X.prog X.w) A (setItem (.ref a) u r) Q E s := by
 rcases g with ⟨kvs, k, e, ey, l, eH⟩ | ⟨kvs, k, b, e, ey, eb, l, eH⟩
 ·subst ey eH
  obtain ⟨z, hd, vs, rel, dd⟩ := zQ I.hok e
  have hz : vs.length <= sizeLine := by rw [<- rel.length]; exact z
  have hl : (putK kvs k v).length <= sizeLine := by have := iZ kvs k v; lia
  refine wpAny_setItem_pairs (hsz := hz) (nu ry) dd fun h' dd' hs => h _ ?_
  have he : ∃ q, h'.get? a = some q := let ⟨q, _, _, hq, _⟩ := dd'; ⟨q, hq⟩
  exact qu I (by rw [e]; exact True.intro) hs he (xS hl hd (rel.put k rv) dd')
 ·subst ey eH
  cases (show u = Value.ref b from ry)
  obtain ⟨z, hd, xs, rel, dd⟩ := zR I.hok e
  have hz : xs.length <= sizeLine := by rw [<- Paired.length rel]; exact z
  have hl : (putK kvs k v).length <= sizeLine := by have := iZ kvs k v; lia
  refine wpAny_setItem_heap (hsz := hz) (tupleKind_room_in1 hu) (jz I.hok eb) dd fun h' dd' hs => h _ ?_
  obtain ⟨q, es, ep, hq, h2, h3, h4, _, h5⟩ := dd'
  refine qu I (by rw [e]; exact True.intro) hs ⟨q, hq⟩ ⟨hl, hd, _, (rel.put k eb rv).keeps fun c ys ec => ?_, q, es, ep, hq, h2, h3, h4, h5⟩
  rw [ag (kP ec e (fun z => nomatch z))]
  exact ec
end
section
variable {X : Cx} {pins : Cv} {σ : St} {H : Hp} {s : Shared} {a : Addr} {kvs : List (Key × V)} {k : Key} {u : Value} {A : Around} {E : Cw}
theorem zS {Q : Cw} (I : Inv X pins σ H s) (e : Rd H a (.dK kvs)) (h : ∀ t s', Inv X pins σ H s' -> Q (.int kvs.length t) s') : wpAny (model X.prog X.w) A (call (.builtin "len") [.ref a]) Q E s := by
 obtain ⟨z, hd, vs, rel, dd⟩ := lh I.hok e
 refine call_len_dict hd dd (by rw [<- rel.length]; rw [sizeLine_eq] at z; lia) ?_
 rw [<- rel.length]
 exact h _ _ (I.tok _)
end
noncomputable def NoSl (i : Expr) : Prop := ∀ ov iv, subscripted i false ov iv = operate [ov, iv] (getItem ov iv)
theorem vy {prog : Program} {w : World} {A : Around} {E : Cw} {s : Shared} {env : Env} {value slice : Expr} {pos : Pos} {T id : String} {Q : Cw}
  (hl : typeLookup (.type T) "__getitem__" = pure (some (.builtin id))) (hs : NoSl slice)
  (h : wpAny (model prog w) A (eval value env) (fun o s₁ => wpAny (model prog w) A (eval slice env) (fun i s₂ => s₂.TypeIs o T /\ wpAny (model prog w) A (getItem o i) Q E s₂) E s₁) E s) :
  wpAny (model prog w) A (eval (.Subscript value slice pos) env) Q E s := by
 refine Subscript_ (wpAny_mono h (fun o s₁ h₁ => wpAny_mono h₁ (fun i s₂ h₂ => ?_) fun _ _ x => x) fun _ _ x => x)
 obtain ⟨hT, h₂⟩ := h₂
 unfold subscriptTail
 refine wpAny_bind ?_
 rw [getitemInPython_of_ne hT.not_modules]
 refine wpAny_bind (wpAny_specialOf hT hl ?_)
 have fin : wpAny (model prog w) A (subscripted slice false o i) (fun r s₃ => wpAny (model prog w) A (letTemporaryGo value o r >>= fun _ => pure r) Q E s₃) E s₂ := by
  rw [hs o i]
  exact wpAny_operating (wpAny_mono h₂ (fun r s₃ h₃ => wpAny_bind (wpAny_letTemporaryGo (wpAny_pure h₃))) fun _ _ x => x)
 first
  | exact wpAny_pure (wpAny_bind fin)
  | exact wpAny_bind (wpAny_pure (wpAny_bind fin))
  | exact wpAny_bind fin
theorem j0 {X : Cx} {pins : Cv} {σ : St} {H : Hp} {s : Shared} {a : Addr} {y : V} {o : Option V} (I : Inv X pins σ H s) (g : DGet H a y o) : s.TypeIs (.ref a) "dict" := by
 rcases g with ⟨kvs, k, e, _, _⟩ | ⟨kvs, k, b, e, _, _, _⟩
 ·obtain ⟨_, _, vs, _, dd⟩ := lh I.hok e
  exact dd.typeIs
 ·obtain ⟨_, _, xs, _, dd⟩ := nv I.hok e
  exact dd.typeIs
noncomputable def F6 (td ty : TE) : TE := fun σ H Q => td σ H fun x H1 => ty σ H1 fun y H2 => ∃ a v, x = .ref a /\ DGet H2 a y (some v) /\ Q v H2
noncomputable def EX (ty td : TE) : TE := fun σ H Q => ty σ H fun y H1 => td σ H1 fun x H2 => ∃ a o, x = .ref a /\ DGet H2 a y o /\ Q (.bl (!o.isSome)) H2
noncomputable def F7 (td ty tv : TE) : TS := fun D σ H => tv σ H fun v H1 => td σ H1 fun x H2 => ty σ H2 fun y H3 => ∃ a H4, x = .ref a /\ DPut H3 a y v H4 /\ D.nx σ H4
section
variable {X : Cx} {o i e value : Expr} {pos pos' tpos : Pos} {td ty tv : TE}
theorem vz (hu : X.A.units + 1 < cLine) (ho : PE X o td) (hi : PE X i ty) (hs : NoSl i) : PE X (.Subscript o i pos) (F6 td ty) := by
 intro pins s σ H Q I h
 refine vy PySem.F.slot_dict_getitem.lookup hs (thn (ho pins s σ H _ I h) fun u s1 ⟨x, H1, I1, rx, q1⟩ => thn (hi pins s1 σ H1 _ I1 q1) fun iv s2 ⟨y, H2, I2, ry, a, v, ex, g, q2⟩ => ?_)
 subst ex
 obtain rfl : u = Value.ref a := rx
 exact ⟨j0 I2 g, lj hu I2 g ry fun w' s3 I3 rw' => ⟨v, H2, I3, rw', q2⟩⟩
theorem rz (hu : X.A.units + 1 < cLine) (hi : PE X i ty) (ho : PE X o td) : PC X .NotIn i o (EX ty td) := by
 intro pins s σ H Q I h
 refine thn (hi pins s σ H _ I h) fun iv s1 ⟨y, H1, I1, ry, q1⟩ => thn (ho pins s1 σ H1 _ I1 q1) fun u s2 ⟨x, H2, I2, rx, a, ov, ex, g, q2⟩ => ?_
 subst ex
 obtain rfl : u = Value.ref a := rx
 exact qt hu I2 g ry fun s3 I3 => ⟨.bl (!ov.isSome), H2, I3, rfl, q2⟩
theorem qw (hu : X.A.units + 1 < cLine) (ho : PE X o td) (hi : PE X i ty) (hv : PE X value tv) (hs : swapsWith value (some (.Subscript o i pos')) pos.line X.env = pure false) :
  PS X (.Assign [.Subscript o i pos'] value pos) (F7 td ty tv) := by
 intro pins s σ H D I h
 refine wpAny_Assign_Subscript (thn (hv pins s σ H _ I h) fun r s1 ⟨v, H1, I1, rv, q1⟩ => thn (ho pins s1 σ H1 _ I1 q1) fun u s2 ⟨x, H2, I2, rx, q2⟩ => thn (hi pins s2 σ H2 _ I2 q2) fun iv s3 ⟨y, H3, I3, ry, a, H4, ex, g, q3⟩ => ?_) hs
 subst ex
 obtain rfl : u = Value.ref a := rx
 exact rq hu I3 g ry rv fun s4 I4 => ⟨σ, H4, I4, q3⟩
end
theorem tF {P : Program} {w : World} {H : Hp} (h : Heap) (hb : sysModules < h.objs.size) : D1 P w H (h.push { cls := .type "dict", data := .dict #[] }) h.objs.size (.dK []) :=
 ⟨Nat.zero_le _, beq_eq_false_iff_ne.mpr (Ne.symm (Nat.ne_of_lt hb)), [], .nil, Heap.DictOf.new h⟩
theorem tG {P : Program} {w : World} {H : Hp} (h : Heap) (hb : sysModules < h.objs.size) : D1 P w H (h.push { cls := .type "dict", data := .dict #[] }) h.objs.size (.dT []) :=
 ⟨Nat.zero_le _, beq_eq_false_iff_ne.mpr (Ne.symm (Nat.ne_of_lt hb)), [], .nil, _, #[], 0, Heap.get?_push_size _ rfl, ⟨rfl, rfl, rfl⟩, rfl, rfl, List.nodup_nil⟩
noncomputable def FB : TE := fun _ H Q => ∀ p, H p = none -> Q (.ref p) (upd H p (.dK []))
noncomputable def F8 : TE := fun _ H Q => ∀ p, H p = none -> Q (.ref p) (upd H p (.dT []))
section
variable {X : Cx} {pos : Pos}
theorem tH : PE X (.Dict [] [] pos) FB := fun pins s σ H Q I h =>
 wpAny_Dict_empty ⟨.ref s.heap.objs.size, _, I.laid (a := s.heap.objs.size) (o := .dK []) (t' := s.toks) (fun _ _ q => Heap.get?_push_of_some _ q) (Nat.le_refl _) (tF s.heap I.big), rfl, h _ (I.hok.fresh (Nat.le_refl _))⟩
theorem tJ : PE X (.Dict [] [] pos) F8 := fun pins s σ H Q I h =>
 wpAny_Dict_empty ⟨.ref s.heap.objs.size, _, I.laid (a := s.heap.objs.size) (o := .dT []) (t' := s.toks) (fun _ _ q => Heap.get?_push_of_some _ q) (Nat.le_refl _) (tG s.heap I.big), rfl, h _ (I.hok.fresh (Nat.le_refl _))⟩
end
structure M1 (X : Cx) (o : Expr) (m : Str) (apos : Pos) (e : Expr) (cpos : Pos) : Prop where
 base : attributeBase o m X.env (eval o X.env) = eval o X.env
 few : ((backTo cpos (starEach [e] X.env)).all (fun x => !x.1) && (backToKw cpos (keywordEach [] X.env)).all (fun x => x.1.isSome)
  && decide (([e] : List Expr).length + ([] : List Keyword).length + (if ([] : List Keyword).isEmpty then 0 else 1) < 30)) = true
 line : (apos.endLine == cpos.line) = true
 trees : backTo cpos (starEach [e] X.env) = [(false, eval e X.env)]
structure M2 (X : Cx) (o : Expr) (m : Str) (apos : Pos) (e f : Expr) (cpos : Pos) : Prop where
 base : attributeBase o m X.env (eval o X.env) = eval o X.env
 few : ((backTo cpos (starEach [e, f] X.env)).all (fun x => !x.1) && (backToKw cpos (keywordEach [] X.env)).all (fun x => x.1.isSome)
  && decide (([e, f] : List Expr).length + ([] : List Keyword).length + (if ([] : List Keyword).isEmpty then 0 else 1) < 30)) = true
 line : (apos.endLine == cpos.line) = true
 trees : backTo cpos (starEach [e, f] X.env) = [(false, eval e X.env), (false, eval f X.env)]
section
variable {X : Cx} {pins : Cv} {σ : St} {H : Hp} {s : Shared} {a : Addr} {y d : V} {u r : Value} {o : Option V} {A : Around} {E : Cw}
end
section
variable {X : Cx} {o e f : Expr} {apos cpos : Pos} {td ty tx : TE}
end
section
variable {X : Cx} {pins : Cv} {σ : St} {H : Hp} {s : Shared} {a : Addr} {kvs : List (Key × V)} {A : Around} {E : Cw}
end
section
variable {X : Cx} {pins : Cv} {σ : St} {H : Hp} {s : Shared} {a : Addr} {y : V} {u : Value} {A : Around} {E : Cw}
end
end L2
namespace Att
open PySem PySem.W PySem.Calls PyProof.Rows
theorem jh {P : Params} {h : Heap} : ∀ (ns : List Int) (vs : List Value), WellAll P h vs (ns.map WData.int) -> IntsAre vs ns := by
 intro ns
 induction ns with
 | nil =>
  intro vs w
  rw [List.map_nil] at w
  cases w
  exact .nil
 | cons n ns ih =>
  intro vs w
  rw [List.map_cons] at w
  cases w with
  | cons a b =>
   cases a
   exact .cons _ _ (ih _ b)
theorem rA {l : OpenLaw} {n : Nat} (hn : l.most = some n) {P : Params} {h : Heap} {args : List WData} {vals : List Value}
  (hpre : l.row.toRowW.claim.pre args = true) (hwl : WellAll P h vals args) :
  ∃ a vs ns, vals = [Value.ref a] /\ args = [WData.list (ns.map WData.int)] /\ h.get? a = some { cls := .type "list", data := .seq vs.toArray } /\ IntsAre vs ns /\ ns.length <= n := by
 have hsh : WShape.hasAll [] args [.list .int] = true := (pre_splitW hpre).1
 have hc : l.pre.holds [] { args := args } = true := (pre_splitW hpre).2
 obtain ⟨d, r, rfl, h1, h2⟩ := hasAllW_cons hsh
 obtain rfl := hasAllW_nil h2
 obtain ⟨xs, rfl, h3⟩ := hasW_list h1
 obtain ⟨ns, rfl⟩ := items_int h3
 have hlen : ns.length <= n := by
  unfold OpenLaw.pre at hc
  have h4 : (WTm.not (.lt (.lit (.int (n : Int))) (.len (.arg 0)))).holds [] { args := [.list (ns.map .int)] } = true := by
   have h4 := (holds_andW hc).1
   rw [hn] at h4
   exact h4
  have h5 := condW_of h4 (w_not (w_lt w_lit (w_len_list (w_arg rfl))))
  rw [List.length_map] at h5
  refine Nat.le_of_not_lt fun q => ?_
  have q' : (n : Int) < ((ns.length : Nat) : Int) := by lia
  first
   | (rw [decide_eq_true q'] at h5; exact absurd h5 (by decide))
   | (simp at h5; lia)
 cases hwl with
 | cons w1 w2 =>
  cases w2
  cases w1 with
  | list ho hall => exact ⟨_, _, ns, rfl, rfl, ho, jh ns _ hall, hlen⟩
theorem rB (l : OpenLaw) (args : List WData) : l.row.toRowW.claim.post args (.bool true) args = true :=
 postW_of (r := l.row.toRowW) (X := (true == true))
  (show WShape.has [] (.bool true) .bool = true by first | rfl | decide | simp [WShape.has, WShape.arms, WShape.armsAll])
  (show (WTm.eq .res (.lit (.bool true))).value [] { args := args, res := some (.bool true), after := args } = some (.bool (true == true)) from w_eq_bool (w_res rfl) w_lit) rfl
theorem ny {l : OpenLaw} {n : Nat} {q : Program} {loose : List Str} {XP : (Str -> Option Value) -> Heap -> Prop} {YP : World -> Heap -> Prop} {d : DefRec}
  (hn : l.most = some n) (hdf : d.params.defaults = [])
  (call : ∀ (w : World) (s₀ s₁ : Shared) (mg mb : Cu) (fa : Addr) (o : Obj) (pm cd doc : Value) (a : Addr) (vs : List Value) (ns : List Int),
   Ground q loose [] XP w s₀ mg mb s₁.heap -> YP w s₁.heap ->
   s₁.heap.get? fa = some o -> o.data = .func (docDef d.name d.params d.body d.scope pm cd doc) -> s₁.heap.CodeRec cd d.name -> mg d.name = some (.ref fa) ->
   s₁.heap.get? a = some { cls := .type "list", data := .seq vs.toArray } -> IntsAre vs ns -> ns.length <= n -> s₁.gens = #[] ->
   codeAny (model l.prog w) callerA (.call (.ref fa) ⟨[.ref a], []⟩) (fun r s' => r = .ok (.ret (.bool true)) /\ OldK s₁.heap s'.heap /\ s'.os = s₁.os /\ AllBare s'.gens) s₁) :
  WalkO q loose XP YP l.row.toRowW d [] (fun f vs => PySem.call f vs) := by
 intro w s₀ s₁ mg mb G Y fa o pm cd doc dV kV ho hd hcd hD hmg hg args vals as hpre hlay hrd hwl hlo
 obtain rfl : dV = .none := Dflts.none hD hdf
 obtain rfl : kV = .none := Dflts.noKw hD
 obtain ⟨a, vs, ns, rfl, rfl, hobj, hints, hlen⟩ := rA hn hpre hwl
 refine enter_call (codeAny_mono (call w s₀ s₁ mg mb fa o pm cd doc a vs ns G Y ho (fd_plain hd) hcd hmg hobj hints hlen hg) fun r s' hq => ?_)
 obtain ⟨rfl, h2, h3, h4⟩ := hq
 exact ⟨.inl ⟨.bool true, .bool true, [], rfl, fun _ => rfl, .bool true, rB l _, fun _ => ⟨List.Pairwise.nil, fun _ hm => (nomatch hm)⟩⟩, h2, h3, h4⟩
section
variable {prog : Program} {w : World} {A : Around} {E : Cw} {s : Shared} {K : Frag}
end
end Att
namespace L2
open PySem PySem.Spec PyProof.Rows
theorem dH : ∀ {vs : List Value} {ns : List Int}, IntsAre vs ns -> Vals (ns.map V.int) vs
 | _, _, .nil => .nil
 | _, _, .cons n t h => .cons ⟨t, rfl⟩ (dH h)
noncomputable def Dx (s : Stmt) : Arguments := match s with
 | .FunctionDef _ a _ _ _ _ _ _ _ _ => a
 | _ => { posonlyargs := [], args := [], vararg := none, kwonlyargs := [], kw_defaults := [], kwarg := none, defaults := [] }
noncomputable def D7 (s : Stmt) : List Stmt := match s with
 | .FunctionDef _ _ b _ _ _ _ _ _ _ => b
 | _ => []
noncomputable def Cy (s : Stmt) : Scope := match s with
 | .FunctionDef _ _ _ _ _ _ sc _ _ _ => sc
 | _ => { kind := .function, names := [], isGenerator := false, isCoroutine := false }
abbrev E0 : XK := fun _ _ _ => False
structure Fun (K : W.Frag) (x qual : Str) (st : Stmt) (f : Addr) (fd : FuncData) : Prop where
 ex : ∃ (oc : Value) (od : Option Addr) (kV doc pm : Value) (an : Option Addr) (cdv ct : Value) (osl : Array (Option Value)),
  fd = W.fnOf x qual (Dx st) (D7 st) (Cy st) .none kV doc pm an cdv ct /\ K.lookup f = some ⟨oc, od, .func fd, osl⟩ /\ W.codeIn K cdv qual = true
 kp : W.keepIn K (.ref f) = true
section
variable {P : Program} {w : World} {K : W.Frag} {mg : Cu} {base : Heap}
theorem Fun.binds {x qual : Str} {st : Stmt} {f : Addr} {fd : FuncData} {ps : List Str} (F : Fun K x qual st f fd)
  (h : ∀ (kV doc pm : Value) (an : Option Addr) (cdv ct : Value) (us : List Value), us.length = ps.length -> bindArgs (W.fnOf x qual (Dx st) (D7 st) (Cy st) .none kV doc pm an cdv ct) ⟨us, []⟩ = pure (ps.zip us)) : Binds K fd ps [] := by
 obtain ⟨oc, od, kV, doc, pm, an, cdv, ct, osl, rfl, lk, hcd⟩ := F.ex
 exact .all (h kV doc pm an cdv ct)
theorem xT {x qual : Str} {st : Stmt} {f : Addr} {oc : Value} {od an : Option Addr} {osl : Array (Option Value)} {kV doc pm cdv ct : Value} (l : K.lookup f = some ⟨oc, od, .func (W.fnOf x qual (Dx st) (D7 st) (Cy st) .none kV doc pm an cdv ct), osl⟩)
  (c : W.codeIn K cdv qual = true) (k : W.keepIn K (.ref f) = true) : Fun K x qual st f (W.fnOf x qual (Dx st) (D7 st) (Cy st) .none kV doc pm an cdv ct) := ⟨⟨oc, od, kV, doc, pm, an, cdv, ct, osl, rfl, l, c⟩, k⟩
end
section
variable {X : Cx}
theorem pv (i : Nat) {x : Str} {pos : Pos} (hN : X.N[i]? = some x := by rfl) (hv : Vis X.env.scope x := by first | exact Or.inl rfl | exact Or.inr (Or.inl rfl) | exact Or.inr (Or.inr rfl)) (hd : (x == ("__debug__" : Str)) = false := by decide)
  (hcd : (x == ("__classdict__" : Str)) = false := by decide) : PE X (.Name x pos) (tVar i) := fO hN hv hd hcd
end
noncomputable def Same (H H' : Hp) : Prop := ∀ b o, H b = some o -> H' b = some o
theorem Same.refl (H : Hp) : Same H H := fun _ _ h => h
theorem Same.trans {H H1 H2 : Hp} (a : Same H H1) (b : Same H1 H2) : Same H H2 := fun c o h => b c o (a c o h)
theorem Same.free {H H' : Hp} (e : Same H H') {l : Addr} (h : H' l = Option.none) : H l = Option.none := by
 cases q : H l with
 | none => rfl
 | some o =>
  rw [e l o q] at h
  cases h
section
variable {X : Cx}
end
section
variable {κ : Type} [DecidableEq κ]
theorem qx : ∀ {l : List κ} {k : κ}, l.Nodup -> ¬ k ∈ l -> (l ++ [k]).Nodup
 | [], k, _, _ => by simp
 | a :: r, k, h, hk => by
  obtain ⟨h1, h2⟩ := List.nodup_cons.mp h
  show (a :: (r ++ [k])).Nodup
  refine List.nodup_cons.mpr ⟨fun m => ?_, qx h2 fun m => hk (List.mem_cons.mpr (Or.inr m))⟩
  rcases List.mem_append.mp m with q | q
  ·exact h1 q
  ·exact hk (List.mem_cons.mpr (Or.inl (List.mem_singleton.mp q).symm))
end
end L2
set_option maxHeartbeats 4000000
namespace L2
open PySem PySem.Spec PyProof.Rows
section
variable {fs ex : List Addr} {H H' : Hp} {h h1 h2 : Heap}
end
theorem gP {env : Env} : ∀ (names : List (Str × NameKind)) (cs : List (Str × Addr)), (∀ y ∈ names, y.2 = .free -> ∃ c, env.cells.lookup y.1 = some c) -> (∀ x c, cs.lookup x = some c -> env.cells.lookup x = some c) ->
  ∃ cl : List (Str × Addr), (forIn names cs fun (y : Str × NameKind) (r : List (Str × Addr)) => if (y.2 == NameKind.free) = true then (do let a <- cellOf env y.1; pure (ForInStep.yield ((y.1, a) :: r)) : Sem _) else pure (ForInStep.yield r)) = (pure cl : Sem _) /\
   (∀ x c, cl.lookup x = some c -> env.cells.lookup x = some c) /\ (∀ x c, cs.lookup x = some c -> ∃ c', cl.lookup x = some c') /\ ∀ y ∈ names, y.2 = .free -> ∃ c, cl.lookup y.1 = some c
 | [], cs, _, h2 => ⟨cs, rfl, h2, fun x c e => ⟨c, e⟩, fun y hy => absurd hy (by simp)⟩
 | (n, k) :: r, cs, h1, h2 => by
  have hr : ∀ y ∈ r, y.2 = .free -> ∃ c, env.cells.lookup y.1 = some c := fun y hy => h1 y (List.mem_cons_of_mem _ hy)
  by_cases hk : k = .free
  ·obtain ⟨c, hc⟩ := h1 (n, k) (List.mem_cons_self ..) hk
   have h2' : ∀ x d, ((n, c) :: cs).lookup x = some d -> env.cells.lookup x = some d := fun x d e => by
    rw [List.lookup_cons] at e
    cases q : x == n with
    | true =>
     rw [q] at e
     have : x = n := by simpa using q
     subst this
     simp only [Option.some.injEq] at e
     subst e
     exact hc
    | false => rw [q] at e; exact h2 x d e
   obtain ⟨cl, e1, e2, e3, e4⟩ := gP r ((n, c) :: cs) hr h2'
   have hn : ∃ c', cl.lookup n = some c' := e3 n c (by simp)
   refine ⟨cl, ?_, e2, fun x d e => ?_, fun y hy hf => ?_⟩
   ·subst hk
    rw [List.forIn_cons]
    simp only [beq_self_eq_true, if_true]
    have ec : cellOf env n = pure c := by unfold cellOf; rw [hc]
    rw [ec]
    simp only [pure_bind]
    exact e1
   ·by_cases q : x = n
    ·subst q; exact hn
    ·exact e3 x d (by rw [List.lookup_cons, show (x == n) = false by simpa using q]; exact e)
   ·rcases List.mem_cons.mp hy with z | z
    ·subst z; exact hn
    ·exact e4 y z hf
  ·obtain ⟨cl, e1, e2, e3, e4⟩ := gP r cs hr h2
   refine ⟨cl, ?_, e2, e3, fun y hy hf => ?_⟩
   ·rw [List.forIn_cons]
    have hb : (k == NameKind.free) = false := by simpa using hk
    simp only [hb, Bool.false_eq_true, if_false, pure_bind]
    exact e1
   ·rcases List.mem_cons.mp hy with z | z
    ·subst z; exact absurd hf hk
    ·exact e4 y z hf
theorem jA {scope : Scope} {env : Env} (h : ∀ y ∈ scope.names, y.2 = .free -> ∃ c, env.cells.lookup y.1 = some c) :
  ∃ cl : List (Str × Addr), closureFor scope env = pure cl /\ (∀ x c, cl.lookup x = some c -> env.cells.lookup x = some c) /\ ∀ y ∈ scope.names, y.2 = .free -> ∃ c, cl.lookup y.1 = some c := by
 obtain ⟨cl, e1, e2, _, e4⟩ := gP (env := env) scope.names [] h (fun x c e => by simp at e)
 refine ⟨cl, ?_, e2, e4⟩
 unfold closureFor
 exact (bind_pure _).trans e1
noncomputable def CL (X : Cx) (N : List Str) (scope : Scope) (cl : List (Str × Addr)) (C : Addr) (ex : List Addr) (s : Shared) (H : Hp) : Cx :=
 { X with N := N, s₀ := s, H₀ := H, env := compEnvC scope cl C X.env, outer := X.stack, ex := ex, fn := fun _ => false, pn := [], xe := fun _ _ => False }
structure Dr (X : Cx) (own : List Str) (F : List Nat) (N : List Str) (scope : Scope) : Prop where
 kind : scope.kind = .function
 nocell : ∀ y ∈ scope.names, y.2 ≠ .cell
 loc : ∀ y ∈ scope.names, y.2 = .local -> scope.names.lookup y.1 = some .local
 fkind : X.env.scope.kind = .function
 free : ∀ y ∈ scope.names, y.2 = .free -> X.env.kindOf y.1 = some .cell \/ X.env.kindOf y.1 = some .free
 names : ∀ (i : Nat) x, N[i]? = some x -> (i < own.length \/ ∃ j, F[i - own.length]? = some j /\ X.N[j]? = some x /\ Vis X.env.scope x /\ ∀ k, (relabel scope X.env).names.lookup x = some k -> k = .cell \/ k = .free)
 len : N.length = own.length + F.length
noncomputable def rho (n : Nat) (F : List Nat) (σ : St) : St := List.replicate n none ++ F.map fun j => (σ[j]?).join
theorem dY (n : Nat) (F : List Nat) (σ : St) : (rho n F σ).length = n + F.length := by simp [rho]
theorem jj {n : Nat} {F : List Nat} {σ : St} {i : Nat} {v : V} (h : (rho n F σ)[i]? = some (some v)) : n <= i /\ ∃ j, F[i - n]? = some j /\ σ[j]? = some (some v) := by
 unfold rho at h
 by_cases hi : i < n
 ·rw [List.getElem?_append_left (by simpa using hi), List.getElem?_replicate] at h
  simp [hi] at h
 ·rw [List.getElem?_append_right (by simpa using hi), List.length_replicate, List.getElem?_map] at h
  refine ⟨Nat.le_of_not_lt hi, ?_⟩
  cases e : F[i - n]? with
  | none => rw [e] at h; cases h
  | some j =>
   rw [e] at h
   simp only [Option.map_some, Option.some.injEq] at h
   refine ⟨j, rfl, ?_⟩
   cases q : σ[j]? with
   | none => rw [q] at h; cases h
   | some o => rw [q] at h; simp only [Option.join] at h; rw [show o = some v from h]
theorem bD {env : Env} {x : Str} {k : NameKind} : ∀ {names : List (Str × NameKind)}, (names.map fun (n, k) => if (k == NameKind.free && env.scope.kind == .function && env.kindOf n == some .cell) then (n, NameKind.cell) else (n, k)).lookup x = some k ->
  ∃ k', (x, k') ∈ names /\ (k = k' \/ (k = .cell /\ k' = .free))
 | [], h => by simp at h
 | (n, k') :: r, h => by
  rw [List.map_cons] at h
  by_cases hc : (k' == NameKind.free && env.scope.kind == .function && env.kindOf n == some .cell) = true
  ·simp only [hc, if_true] at h
   rw [List.lookup_cons] at h
   cases q : x == n with
   | true =>
    rw [q] at h
    have : x = n := by simpa using q
    subst this
    refine ⟨k', List.mem_cons_self .., .inr ⟨?_, ?_⟩⟩
    ·simpa using h.symm
    ·simp only [Bool.and_eq_true, beq_iff_eq] at hc
     exact hc.1.1
   | false =>
    rw [q] at h
    obtain ⟨k2, h1, h2⟩ := bD h
    exact ⟨k2, List.mem_cons_of_mem _ h1, h2⟩
  ·simp only [hc, Bool.false_eq_true, if_false] at h
   rw [List.lookup_cons] at h
   cases q : x == n with
   | true =>
    rw [q] at h
    have : x = n := by simpa using q
    subst this
    refine ⟨k', List.mem_cons_self .., .inl ?_⟩
    simpa using h.symm
   | false =>
    rw [q] at h
    obtain ⟨k2, h1, h2⟩ := bD h
    exact ⟨k2, List.mem_cons_of_mem _ h1, h2⟩
section
variable {X : Cx} {pins : Cv} {σ : St} {H : Hp} {s : Shared} {own N : List Str} {F : List Nat} {scope : Scope} {cl : List (Str × Addr)} {fp : List Addr}
theorem vA (S : Dr X own F N scope) (I : Inv X pins σ H s) (hf : ∀ b ∈ fp, FpOk X pins H b) (c1 : ∀ x c, cl.lookup x = some c -> X.env.cells.lookup x = some c) (c2 : ∀ y ∈ scope.names, y.2 = .free -> ∃ c, cl.lookup y.1 = some c)
  {C : Addr} (hC : s.heap.objs.size <= C) (hfp : ∀ b ∈ fp, b < s.heap.objs.size) : (CL X N scope cl C fp s H).Ok where
 mod := I.ok.mod
 kind := S.kind
 glob := I.ok.glob
 blt := I.ok.blt
 above := hC
 inj := fun x y c e1 e2 => I.ok.inj x y c (c1 x c e1) (c1 y c e2)
 has := fun x hx => by
  rcases hx with e | e
  ·obtain ⟨k', hm, hk⟩ := bD (env := X.env) (names := scope.names) e
   rcases hk with z | ⟨_, z⟩
   ·exact absurd z.symm (S.nocell _ hm)
   ·exact c2 _ hm z
  ·obtain ⟨k', hm, hk⟩ := bD (env := X.env) (names := scope.names) e
   rcases hk with z | ⟨z, _⟩
   ·exact c2 _ hm z.symm
   ·cases z
 cab := fun x c h _ => absurd h (by simp [CL])
 hd := I.ok.hd
 frames := I.ok.frames
 stk := .inl rfl
 exf := fun b hb => ⟨Nat.ne_of_lt (Nat.lt_of_lt_of_le (hfp b hb) hC), fun x c e => (hf b hb).2.2.2.2.1 x c (c1 x c e)⟩
 bs := I.bs
 bsz := Nat.le_trans I.ok.bsz I.sz
 noex := fun b o e hb => by
  rcases (hf b hb).2.2.2.1 with z | z
  ·exact I.ok.noex b o e z
  ·exact absurd (Nat.lt_of_lt_of_le (Nat.lt_of_lt_of_le (Heap.lt_size e) I.ok.bsz) z) (Nat.lt_irrefl _)
 exfs := fun b hb z => by
  rcases List.mem_cons.mp (I.stkSub b z) with q | q
  ·exact (hf b hb).2.1 q
  ·exact (hf b hb).2.2.1 q
 funs := I.stack
 frf := I.stkFree
theorem tK (S : Dr X own F N scope) (I : Inv X pins σ H s) (hf : ∀ b ∈ fp, FpOk X pins H b) (c1 : ∀ x c, cl.lookup x = some c -> X.env.cells.lookup x = some c) (c2 : ∀ y ∈ scope.names, y.2 = .free -> ∃ c, cl.lookup y.1 = some c)
  {C : Addr} (hC : s.heap.objs.size <= C) (hfp : ∀ b ∈ fp, b < s.heap.objs.size) {h' : Heap} {m : Cu} {tk : Nat} (k : ∀ b o, s.heap.get? b = some o -> h'.get? b = some o) (hn : h'.Ns C m) :
  Inv (CL X N scope cl C fp s H) [] (rho own.length F σ) H { s with heap := h', toks := tk } := by
 have fresh : H C = none := I.hok.fresh hC
 refine ⟨vA S I hf c1 c2 hC hfp, rfl, I.bare, Un.kept k, ⟨m, hn, fun i x v e1 e2 e3 => ?_⟩, fun x c e => ?_, fresh, fun x c e => I.freeC x c (c1 x c e), fun p hp => absurd (show p ∈ ([] : Cv) from hp) (by simp), I.hok.kept k, ?_⟩
 ·obtain ⟨hi, j, q1, q2⟩ := jj e2
  rcases S.names i x e1 with z | ⟨j', z1, z2, z3, z4⟩
  ·exact absurd hi (Nat.not_le.mpr z)
  ·rw [q1] at z1
   cases z1
   obtain ⟨m0, _, hl⟩ := I.loc
   obtain ⟨u, r, l⟩ := hl j x v z2 q2 z3
   refine ⟨u, r, ?_⟩
   have vis : ∀ k, (relabel scope X.env).names.lookup x = some k -> k = .cell \/ k = .free := z4
   obtain ⟨k2, hk2, hkc⟩ : ∃ k2, (relabel scope X.env).names.lookup x = some k2 /\ (k2 = .cell \/ k2 = .free) := by
    rcases e3 with z | z | z
    ·exact ⟨_, z, vis _ z⟩
    ·exact ⟨_, z, vis _ z⟩
    ·exact ⟨_, z, vis _ z⟩
   obtain ⟨k', hm, hk⟩ := bD (env := X.env) (names := scope.names) hk2
   have hfree : k' = .free := by
    rcases hk with q | ⟨_, q⟩
    ·rcases hkc with y | y
     ·exact absurd (q.symm.trans y) (S.nocell _ hm)
     ·exact q.symm.trans y
    ·exact q
   obtain ⟨c, hc⟩ := c2 _ hm hfree
   refine .inr ⟨?_, c, hc, ?_⟩
   ·rcases hkc with y | y
    ·subst y; exact .inl hk2
    ·subst y; exact .inr hk2
   ·have hx := S.free _ hm hfree
    rcases l with ⟨q, _⟩ | ⟨_, c', e', ic⟩
    ·rcases hx with y | y
     ·rw [q] at y; cases y
     ·rw [q] at y; cases y
    ·have : c' = c := Option.some.inj (e'.symm.trans (c1 _ _ hc))
     subst this
     obtain ⟨o, ho, hd⟩ := ic
     exact ⟨o, k _ _ ho, hd⟩
 ·obtain ⟨v, o, ho, hd⟩ := I.cell x c (c1 x c e)
  exact ⟨v, o, k _ _ ho, hd⟩
 ·show (rho own.length F σ).length = N.length
  rw [dY, S.len]
end
noncomputable def Ep (n : Nat) (F : List Nat) (wi : TI) (g : TG) (tc : TT) (te : TE) : TE := fun σ H Q => wi σ H fun J H1 =>
 ∃ W : Nat -> Nat -> List V -> Hp -> Prop, (∃ m, W 0 m [] H1) /\ ∀ i m ys H2, W i m ys H2 ->
  (J.stop i H2 /\ ∀ D, H2 D = none -> Q (.ref D) (upd H2 D (.lst ys))) \/
  (J.go i H2 /\ ∀ x H3, J.yld i H2 x H3 -> g x (rho n F σ) H3 fun ρ H4 => tc ρ H4 fun b H5 =>
   if b = true then te ρ H5 fun v H6 => ys.length < sizeLine /\ ∃ m', m' < m /\ W (i + 1) m' (ys ++ [v]) H6 else ∃ m', m' < m /\ W (i + 1) m' ys H5)
noncomputable def tYes : TT := fun _ H Q => Q true H
theorem HOk.track {P : Program} {w : World} {H : Hp} {h : Heap} {a : Addr} {o : HO} (x : HOk P w H h) (hn : H a = none) (new : D1 P w (upd H a o) h a o) : HOk P w (upd H a o) h := fun b u e => by
 by_cases hb : b = a
 ·subst hb
  rw [ao] at e
  cases e
  exact new
 ·rw [ag hb] at e
  refine (x b u e).stay (fun _ _ _ q => q) (fun c q => ?_) fun c xs q => ?_
  ·rw [ag (aq q hn)]; exact q
  ·rw [ag (aq q hn)]; exact q
section
variable {prog : Program} {w : World} {A : Around} {R : Result -> Shared -> Prop} {s : Shared}
abbrev EY (ifs : List Expr) (env : Env) : Sem Bool := forIn ifs true fun c r => if r = true then do let ok <- isTrue c env (eval c env); pure (ForInStep.yield ok) else pure (ForInStep.yield r)
theorem rC {elt tg iter : Expr} {ifs : List Expr} {scope : Scope} {pos : Pos} {it acc : Value} {env : Env} (W : Nat -> Shared -> Prop)
  (turn : ∀ n s, W n s -> wpAny (model prog w) A (pyNext it) (fun r s1 => match r with
   | none => R (.ok .next) s1
   | some v => wpAny (model prog w) A (letOwnedTupleGo tg it v) (fun _ s2 => wpAny (model prog w) A (assign tg env v) (fun _ s3 => wpAny (model prog w) A (EY ifs env) (fun ok s4 =>
     if ok = true then wpAny (model prog w) A (eval elt env) (fun x s5 => wpAny (model prog w) A (call (.builtin "list.append") [acc, x]) (fun _ s6 => ∃ m, m < n /\ W m s6) (fun _ _ => False) s5) (fun _ _ => False) s4
     else ∃ m, m < n /\ W m s4) (fun _ _ => False) s3) (fun _ _ => False) s2) (fun _ _ => False) s1) (fun _ _ => False) s)
  (n : Nat) (h : W n s) : codeAny (model prog w) A (.compLoop (.ListComp elt [⟨tg, iter, ifs, 0⟩] scope pos) 0 it acc env) R s := by
 have no : ∀ {α : Type} {m : Sem α} {Q : α -> Shared -> Prop} {E : Cw} {s : Shared}, wpAny (model prog w) A m Q (fun _ _ => False) s -> wpAny (model prog w) A m Q E s := fun z => wpAny_mono z (fun _ _ q => q) fun _ _ q => q.elim
 refine codeAny_loop rfl W (fun n s hI => ?_) n h
 show wpAny _ A ((compTurn (.ListComp elt [⟨tg, iter, ifs, 0⟩] scope pos) 0 it acc env).onRaise (fun x => do noteFrame x env; theTreesLotGoes x)) _ _ s
 refine wpAny_noted ?_
 rw [compTurn_list]
 refine wpAny_bind (wpAny_standAt (wpAny_bind (wpAny_mono (turn n s hI) (fun r s1 h1 => ?_) fun _ _ q => q.elim)))
 cases r with
 | none => exact wpAny_pure h1
 | some v =>
  refine wpAny_bind (wpAny_mono h1 (fun _ s2 h2 => ?_) fun _ _ q => q.elim)
  refine wpAny_bind (wpAny_mono h2 (fun _ s3 h3 => ?_) fun _ _ q => q.elim)
  refine wpAny_bind (wpAny_mono h3 (fun ok s4 h4 => ?_) fun _ _ q => q.elim)
  cases ok with
  | false => exact wpAny_pure ⟨rfl, h4⟩
  | true =>
   refine wpAny_bind (wpAny_bind (wpAny_mono h4 (fun x s5 h5 => ?_) fun _ _ q => q.elim))
   exact wpAny_bind (wpAny_mono h5 (fun _ s6 h6 => wpAny_pure (wpAny_pure ⟨rfl, h6⟩)) fun _ _ q => q.elim)
end
noncomputable def Stays (n : Nat) (F : List Nat) (g : TG) : Prop := ∀ x σ H Q, g x (rho n F σ) H Q -> g x (rho n F σ) H fun ρ' H' => (ρ'.length = (rho n F σ).length /\ ∀ (j : Nat) v, (rho n F σ)[j]? = some (some v) -> ρ'[j]? = some (some v)) /\ Q ρ' H'
theorem jB {n i : Nat} {F : List Nat} (h : i < n) : Stays n F (Df i) := fun x σ H Q q => by
 refine ⟨⟨by simp, fun j v e => ?_⟩, q⟩
 have := (jj e).1
 rw [List.getElem?_set_ne (by lia)]
 exact e
section
variable {X : Cx} {own N : List Str} {F : List Nat} {scope : Scope} {tg elt iter : Expr} {wi : TI} {g : TG} {tc : TT} {te : TE} {pos : Pos} {ifs : List Expr}
noncomputable def PTs (X : Cx) (ifs : List Expr) (tc : TT) : Prop :=
 ∀ (pins : Cv) (s : Shared) (σ : St) (H : Hp) (Q : Bool -> Hp -> Prop), Inv X pins σ H s -> tc σ H Q -> wpAny (model X.prog X.w) X.A (EY ifs X.env) (TP X pins σ Q) X.xe s
theorem vB : PTs X [] tYes := fun pins s σ H Q I h => wpAny_tests_nil ⟨H, I, h⟩
theorem cm {c : Expr} (hc : PT X c tc) : PTs X [c] tc := fun pins s σ H Q I h => wpAny_tests_one (hc pins s σ H Q I h)
structure Beside (X : Cx) (pins : Cv) (H : Hp) (C : Addr) : Prop where
 hn : H C = none
 hL : C ≠ X.env.locals
 h1 : C ∈ X.ex \/ X.s₀.heap.objs.size <= C
 h2 : ∀ x c, X.env.cells.lookup x = some c -> c ≠ C
 h3 : ∀ p ∈ X.pn ++ pins, p.1 ≠ C
theorem Inv.beside {X : Cx} {pins : Cv} {σ : St} {H : Hp} {s : Shared} {C : Addr} {h' : Heap} (I : Inv X pins σ H s) (B : Beside X pins H C) (hs : Heap.SameBut C s.heap h') : Inv X pins σ H { s with heap := h' } :=
 I.turned (t' := s.toks) (fun b o hb e => (hs.2 b hb).trans e) B.hn B.hL B.h1 B.h2 B.h3
theorem lq {pins : Cv} {s : Shared} {σ : St} {H : Hp} {Fin : List V -> Hp -> Prop} {use : Option (Value -> Sem Unit)} {Qv : Cw} {cpos : Pos} (S : Dr X own F N scope) (hcm : X.calm = true) (hi : PI X tg iter wi) (hg : ∀ cl C ex s H, PG (CL X N scope cl C ex s H) tg g)
  (ht : ∀ cl C ex s H, PTs (CL X N scope cl C ex s H) ifs tc) (he : ∀ cl C ex s H, PE (CL X N scope cl C ex s H) elt te) (hgw : Stays own.length F g) (hs : ∀ x, foldedSetIterable iter X.env x = pure x) (I : Inv X pins σ H s)
  (h : wi σ H fun J H1 => ∃ W : Nat -> Nat -> List V -> Hp -> Prop, (∃ m, W 0 m [] H1) /\ ∀ i m ys H2, W i m ys H2 -> (J.stop i H2 /\ Fin ys H2) \/
   (J.go i H2 /\ ∀ x H3, J.yld i H2 x H3 -> g x (rho own.length F σ) H3 fun ρ H4 => tc ρ H4 fun b H5 => if b = true then te ρ H5 fun v H6 => ys.length < sizeLine /\ ∃ m', m' < m /\ W (i + 1) m' (ys ++ [v]) H6 else ∃ m', m' < m /\ W (i + 1) m' ys H5))
  (fin : ∀ D C ys H' s', Fin ys H' -> H' D = none -> Inv X pins σ (upd H' D (.lst ys)) s' -> Beside X pins (upd H' D (.lst ys)) C -> (∃ m, s'.heap.Ns C m) -> compPost (model X.prog X.w) X.A X.xe use Qv (.ref D) C (.ok .next) s') :
  wpAny (model X.prog X.w) X.A (comprehension (.ListComp elt [⟨tg, iter, ifs, 0⟩] scope pos) scope X.env cpos (newList []) false (eval iter X.env) use) Qv X.xe s := by
 obtain ⟨cl, hcl, c1, c2⟩ := jA (scope := scope) (env := X.env) fun y hy hf => I.ok.has _ (S.free y hy hf)
 refine wpAny_comprehension_free (use := use) rfl hs hcl S.kind S.loc (thn (hi pins s σ H _ I h) fun x s1 h1 => thn h1 fun itv s2 h2 => ?_)
 obtain ⟨it, fp, tn, J, H2, e, I2, T, st2, f2, W, ⟨m0, w0⟩, turn⟩ := h2
 subst e
 refine wpAny_newObj_type (wpAny_newFunctionEnv S.nocell (fun y hy => absurd hy (by simp)) (fun h4 hns hsb => ?_) S.kind)
 dsimp only at hns hsb ⊢
 generalize eP : s2.heap.push { cls := .type "list", dict := none, data := .seq ([] : List Value).toArray } = hp3 at hns hsb ⊢
 have hD : hp3.objs.size = s2.heap.objs.size + 1 := by rw [<- eP, Heap.size_push]
 generalize eD : s2.heap.objs.size = D at hD ⊢
 generalize eC : hp3.objs.size = C at hns hsb hD ⊢
 have k23 : ∀ b o, s2.heap.get? b = some o -> hp3.get? b = some o := fun b o q => by rw [<- eP]; exact Heap.get?_push_of_some _ q
 have ltD : ∀ {b : Addr} {o : Obj}, s2.heap.get? b = some o -> b < D := fun {b o} q => by rw [<- eD]; exact Heap.lt_size q
 have k34 : ∀ b o, hp3.get? b = some o -> h4.get? b = some o := fun b o q => hsb.extBut b o (Nat.ne_of_lt (by rw [<- eC]; exact Heap.lt_size q)) (Heap.get?_push_of_some _ q)
 have oD3 : hp3.get? D = some { cls := .type "list", dict := none, data := .seq ([] : List Value).toArray } := by rw [<- eP, <- eD]; exact Heap.get?_push_size _ rfl
 have I3 : Inv X pins σ H2 { s2 with heap := hp3 } := I2.kept (t' := s2.toks) k23
 have fD : FpOk X pins H2 D := I2.fpOk (by rw [eD]; exact Nat.le_refl _) (I2.hok.fresh (by rw [eD]; exact Nat.le_refl _))
 have f3 : ∀ b ∈ D :: fp, FpOk X pins H2 b := fun b hb => by
  rcases List.mem_cons.mp hb with z | z
  ·subst z; exact fD
  ·exact f2 b z
 have ltf : ∀ b ∈ fp, b < D := fun b hb => by
  obtain ⟨o, q, _⟩ := T.obj _ _ st2 b hb
  exact ltD q
 have lt3 : ∀ b ∈ D :: fp, b < ({ s2 with heap := hp3 } : Shared).heap.objs.size := fun b hb => by
  show b < hp3.objs.size
  rw [eC, hD]
  rcases List.mem_cons.mp hb with z | z
  ·subst z; exact Nat.lt_succ_self _
  ·exact Nat.lt_succ_of_lt (ltf b z)
 have I4 := tK (N := N) S I3 f3 c1 c2 (C := C) (by show hp3.objs.size <= C; lia) lt3 (h' := h4) (tk := s2.toks + ([] : List (Str × Value)).length) k34 hns
 generalize eX : CL X N scope cl C (D :: fp) { s2 with heap := hp3 } H2 = X' at I4
 have hX'loc : X'.env.locals = C := by rw [<- eX]; rfl
 have hX'fs : X'.fs = frs X.stack := by rw [<- eX]; rfl
 have nfD : D ∉ X'.fs := fun z => by
  rw [hX'fs] at z
  rcases List.mem_cons.mp (I2.stkSub D z) with q | q
  ·exact fD.2.1 q
  ·exact fD.2.2.1 q
 have nLD : D ≠ X'.env.locals := by rw [hX'loc, hD]; exact Nat.ne_of_lt (Nat.lt_succ_self _)
 have pinD : ∀ {H' : Hp} {s' : Shared} {σ' : St} {pl : Cv} {its : List Value} {k : Nat}, Inv X' pl σ' H' s' -> H' D = none -> s'.heap.get? D = some { cls := .type "list", data := .seq its.toArray k } ->
   Inv X' [(D, { cls := .type "list", data := .seq its.toArray k })] σ' H' s' := fun {H' s' σ' pl its k} J hn q => J.pins_of fun p hp => by
  have : p = (D, { cls := .type "list", data := .seq its.toArray k }) := by simpa using hp
  subst this
  exact ⟨q, hn, nLD, nfD, fun v z => by cases z⟩
 have stat : ∀ {H' : Hp} {its : List Value} {k : Nat}, (∀ b ∈ fp, H' b = none) -> ∀ b ∈ fp, FpOk X' [(D, { cls := .type "list", data := .seq its.toArray k })] H' b := fun {H' its k} hn b hb => by
  refine ⟨hn b hb, ?_, fun z => ?_, .inl ?_, fun x c q => ?_, fun p hp => ?_⟩
  ·rw [hX'loc, hD]; exact Nat.ne_of_lt (Nat.lt_succ_of_lt (ltf b hb))
  ·rw [hX'fs] at z
   rcases List.mem_cons.mp (I2.stkSub b z) with q | q
   ·exact (f2 b hb).2.1 q
   ·exact (f2 b hb).2.2.1 q
  ·rw [<- eX]; exact List.mem_cons_of_mem _ hb
  ·rw [<- eX] at q
   exact (f2 b hb).2.2.2.2.1 x c (c1 x c q)
  ·have hpn : X'.pn = [] := by rw [<- eX]; rfl
   rw [hpn] at hp
   have : p = (D, { cls := .type "list", data := .seq its.toArray k }) := by simpa using hp
   subst this
   exact fun z => Nat.lt_irrefl b (Nat.lt_of_lt_of_eq (ltf b hb) z)
 let Wn : Nat -> Shared -> Prop := fun n s' => ∃ i ys its k H', Inv X' [(D, { cls := .type "list", data := .seq (List.toArray its) k })] (rho own.length F σ) H' s' /\ Vals ys its /\ ys.length <= sizeLine /\ tn i s'.heap /\ (∀ b ∈ fp, H' b = none) /\ W i n ys H'
 have start : Wn m0 { s2 with heap := h4, toks := s2.toks + ([] : List (Str × Value)).length } :=
  ⟨0, [], [], 0, H2, pinD I4 fD.1 (k34 _ _ oD3), .nil, Nat.zero_le _, T.keep _ _ _ st2 (fun b _ o q => k34 b o (k23 b o q)), fun b hb => (f2 b hb).1, w0⟩
 have loop : ∀ s' : Shared, Wn m0 s' -> codeAny (model X.prog X.w) X.A (.compLoop (.ListComp elt [⟨tg, iter, ifs, 0⟩] scope pos) 0 (.ref it) (.ref D) X'.env) (compPost (model X.prog X.w) X.A X.xe use Qv (.ref D) C) s' := by
  intro s' hs'
  refine rC Wn ?_ m0 hs'
  rintro n s5 ⟨i, ys, its, k, H5, I5, rv5, z5, st5, fr5, w5⟩
  have ePr : X'.prog = X.prog := by rw [<- eX]; rfl
  have ew : X'.w = X.w := by rw [<- eX]; rfl
  have eK : X'.K = X.K := by rw [<- eX]; rfl
  have eA : X'.A = X.A := by rw [<- eX]; rfl
  have ecm : X'.calm = true := by rw [<- eX]; exact hcm
  have exe : X'.xe = fun _ _ => False := by rw [<- eX]; rfl
  rcases turn i n ys H5 w5 with ⟨stop, qn⟩ | ⟨go, step⟩
  ·have td := T.done X' ePr ew eK ecm i _ s5 _ H5 (fun _ _ => False) I5 (stat fr5) st5 stop
   rw [eA] at td
   refine thn td fun r s6 ⟨hr, I6⟩ => ?_
   subst hr
   show compPost (model X.prog X.w) X.A X.xe use Qv (.ref D) C (.ok .next) s6
   obtain ⟨m6, hn6, _⟩ := I6.loc
   have oD6 := (I6.pin (D, { cls := .type "list", data := .seq its.toArray k }) (List.mem_append_right _ (List.mem_cons_self ..))).1
   have nD6 : H5 D = none := (I6.pin (D, { cls := .type "list", data := .seq its.toArray k }) (List.mem_append_right _ (List.mem_cons_self ..))).2.1
   have nC6 : H5 C = none := by rw [<- hX'loc]; exact I6.free
   have u6 : Un (frs X.stack) (D :: fp) H2 H5 hp3 s6.heap := by
    have := I6.base
    rw [hX'fs] at this
    rw [<- eX] at this
    exact this
   have hok7 : HOk X.prog X.w H5 s6.heap := by
    have := I6.hok
    rw [ePr, ew] at this
    exact this
   have neD : ∀ {b : Addr} {o : Obj}, s2.heap.get? b = some o -> b ≠ D := fun {b o} q => Nat.ne_of_lt (ltD q)
   have nin : ∀ {b : Addr} {o : Obj}, s2.heap.get? b = some o -> b ∉ fp -> b ∉ D :: fp := fun {b o} q hb z => by
    rcases List.mem_cons.mp z with y | y
    ·exact neD q y
    ·exact hb y
   have u8 : Un (frs X.stack) fp H2 (upd H5 D (.lst ys)) s2.heap s6.heap :=
    ⟨fun b o q n x y => u6.keep b o (k23 b o q) n x (nin q y), fun b o q n x y => u6.slot b o (k23 b o q) n x (nin q y), fun b o q n y => by rw [ag (neD q)]; exact u6.free b o (k23 b o q) n (nin q y),
     fun b o q y => u6.there b o (k23 b o q) (nin q y), fun b xs q => by
      have q' := u6.tups b xs q
      rw [ag (aq q' nD6)]; exact q', fun b o u q => by
      have q' := u6.frzs b o u q
      rw [ag (aq q' nD6)]; exact q', fun b ps q => by
      obtain ⟨more, q'⟩ := u6.tbls b ps q
      exact ⟨more, by rw [ag (aq q' nD6)]; exact q'⟩⟩
   have hos : s6.os = s2.os := by
    have := I6.os
    rw [<- eX] at this
    exact this
   have J : Inv X pins σ (upd H5 D (.lst ys)) s6 :=
    I2.call' (s' := s6) (ch := fp) hos u8 (hok7.track nD6 ⟨z5, its, k, rv5, oD6⟩) I6.bare fun b hb => ⟨(f2 b hb).2.2.2.1, (f2 b hb).2.1, (f2 b hb).2.2.2.2.1, (f2 b hb).2.2.2.2.2⟩
   have fC : FpOk X pins (upd H5 D (.lst ys)) C := I2.fpOk (by rw [eD, hD]; exact Nat.le_succ _) (by rw [ag (by rw [hD]; exact Nat.ne_of_gt (Nat.lt_succ_self _))]; exact nC6)
   exact fin D C ys H5 s6 qn nD6 J ⟨fC.1, fC.2.1, fC.2.2.2.1, fC.2.2.2.2.1, fC.2.2.2.2.2⟩ ⟨m6, by rw [<- hX'loc]; exact hn6⟩
  ·have ti := T.item X' ePr ew eK ecm i _ s5 _ H5 (fun _ _ => False) I5 (stat fr5) st5 go
   rw [eA] at ti
   refine thn ti fun r s6 ⟨u, hr, h6⟩ => ?_
   subst hr
   refine thn h6 fun _ s7 ⟨x, H7, I7, r7, y7, st7, fr7⟩ => ?_
   have I7' := I7.pinned (stat fr7) (T.obj _ _ st7)
   have hg' : PG X' tg g := by rw [<- eX]; exact hg _ _ _ _ _
   have ht' : PTs X' ifs tc := by rw [<- eX]; exact ht _ _ _ _ _
   have he' : PE X' elt te := by rw [<- eX]; exact he _ _ _ _ _
   have sg := hg' _ s7 _ H7 x u _ I7' r7 (hgw x σ H7 _ (step x H7 y7))
   rw [ePr, ew, eA, exe] at sg
   refine thn sg fun _ s8 ⟨ρ8, H8, I8, q8', q8⟩ => ?_
   have stt := ht' _ s8 ρ8 H8 _ I8 q8
   rw [ePr, ew, eA, exe] at stt
   refine thn stt fun ok s9 ⟨H9, I9, q9⟩ => ?_
   have hw8 : ρ8.length = (rho own.length F σ).length /\ ∀ (j : Nat) v, (rho own.length F σ)[j]? = some (some v) -> ρ8[j]? = some (some v) := q8'
   have onward : ∀ {s' : Shared} {ρ : St} {H' : Hp} {ys' : List V} {its' : List Value} {k' : Nat}, ρ.length = (rho own.length F σ).length -> (∀ (j : Nat) v, (rho own.length F σ)[j]? = some (some v) -> ρ[j]? = some (some v)) ->
     Inv X' (E6 fp s7.heap) ρ H' s' -> H' D = none -> s'.heap.get? D = some { cls := .type "list", data := .seq its'.toArray k' } -> Vals ys' its' -> ys'.length <= sizeLine -> (∃ m', m' < n /\ W (i + 1) m' ys' H') -> ∃ m, m < n /\ Wn m s' :=
    fun {s' ρ H' ys' its' k'} hl hw J hn ho rv hz ⟨m', hm, w'⟩ => by
     refine ⟨m', hm, i + 1, ys', its', k', H', (pinD J hn ho).weak hl.symm hw, rv, hz, T.keep _ _ _ st7 fun b hb o e => (J.pin (b, o) (List.mem_append_right _ (fk hb e))).1, fun b hb => ?_, w'⟩
     obtain ⟨o, e, _⟩ := T.obj _ _ st7 b hb
     exact (J.pin (b, o) (List.mem_append_right _ (fk hb e))).2.1
   have noD : ∀ {ρ : St} {H' : Hp} {s' : Shared}, Inv X' ([(D, { cls := .type "list", data := .seq its.toArray k })] ++ E6 fp s7.heap) ρ H' s' -> Inv X' (E6 fp s7.heap) ρ H' s' /\ H' D = none /\ s'.heap.get? D = some { cls := .type "list", data := .seq its.toArray k } :=
    fun {ρ H' s'} J => by
     have pD := J.pin (D, { cls := .type "list", data := .seq its.toArray k }) (List.mem_append_right _ (List.mem_append_left _ (List.mem_cons_self ..)))
     exact ⟨J.pins_of fun p hp => J.pin p (List.mem_append_right _ (List.mem_append_right _ hp)), pD.2.1, pD.1⟩
   cases ok with
   | false =>
    obtain ⟨J, n9, o9⟩ := noD I9
    have q9' : ∃ m', m' < n /\ W (i + 1) m' ys H9 := by simpa using q9
    show ∃ m, m < n /\ Wn m s9
    exact onward hw8.1 hw8.2 J n9 o9 rv5 z5 q9'
   | true =>
    have q9' : te ρ8 H9 fun v H6 => ys.length < sizeLine /\ ∃ m', m' < n /\ W (i + 1) m' (ys ++ [v]) H6 := by simpa using q9
    have se := he' _ s9 ρ8 H9 _ I9 q9'
    rw [ePr, ew, eA, exe] at se
    refine thn se fun uv s10 ⟨v, H10, I10, rv, hz, qm⟩ => ?_
    obtain ⟨J, n10, o10⟩ := noD I10
    have hlen := rv5.length
    refine call_meets PySem.F.slot_list_append ⟨_, o10, rfl⟩ PySem.F.entry_list_append (PySem.F.args_list_append_2 _ _) (PySem.list_append D its.toArray k uv (by rw [List.size_toArray]; lia)) ⟨o10, ?_⟩
    have oN := PySem.IsL.update o10 (·.push uv)
    rw [show its.toArray.push uv = (its ++ [uv]).toArray by simp] at oN
    have kN : ∀ b o, b ≠ D -> s10.heap.get? b = some o -> (s10.heap.update D (Obj.mapSeq (·.push uv))).get? b = some o := fun b o hb q => (Heap.get?_update_other _ _ (Ne.symm hb)).trans q
    have JN := J.turned (t' := s10.toks) (it := D) kN n10 nLD (.inl (by rw [<- eX]; exact List.mem_cons_self ..)) (fun x c q => by
     rw [<- eX] at q
     exact fD.2.2.2.2.1 x c (c1 x c q)) (fun p hp => by
     have hpn : X'.pn = [] := by rw [<- eX]; rfl
     rw [hpn] at hp
     exact Nat.ne_of_lt (ltf p.1 (kT (by simpa using hp)).1))
    refine onward hw8.1 hw8.2 JN n10 (its' := its ++ [uv]) oN (rv5.append (.cons rv .nil)) (by rw [List.length_append, List.length_singleton]; lia) qm
 have fin := loop _ start
 rw [show X'.env = compEnvC scope cl C X.env by rw [<- eX]; rfl] at fin
 exact codeAny_compStart_list fin (T.self X.A 0 _ _ _ (T.keep _ _ _ st2 (fun b _ o q => k34 b o (k23 b o q))) fin)
theorem vC (S : Dr X own F N scope) (hcm : X.calm = true) (hi : PI X tg iter wi) (hg : ∀ cl C ex s H, PG (CL X N scope cl C ex s H) tg g) (ht : ∀ cl C ex s H, PTs (CL X N scope cl C ex s H) ifs tc)
  (he : ∀ cl C ex s H, PE (CL X N scope cl C ex s H) elt te) (hgw : Stays own.length F g) (hs : ∀ x, foldedSetIterable iter X.env x = pure x := by intro _; rfl) : PE X (.ListComp elt [⟨tg, iter, ifs, 0⟩] scope pos) (Ep own.length F wi g tc te) := by
 intro pins s σ H Q I h
 rw [eval_ListComp]
 refine lq (use := none) (Fin := fun ys H2 => ∀ D, H2 D = none -> Q (.ref D) (upd H2 D (.lst ys))) S hcm hi hg ht he hgw hs I h fun D C ys H' s' q hD J B ⟨m, hn⟩ => ?_
 exact ⟨m, hn, fun h' hs' => ⟨.ref D, _, J.beside B hs', rfl, q D hD⟩⟩
theorem qy {i : Nat} {y : Str} {py spos : Pos} (S : Dr X own F N scope) (hcm : X.calm = true) (hi : PI X tg iter wi) (hg : ∀ cl C ex s H, PG (CL X N scope cl C ex s H) tg g) (ht : ∀ cl C ex s H, PTs (CL X N scope cl C ex s H) ifs tc)
  (he : ∀ cl C ex s H, PE (CL X N scope cl C ex s H) elt te) (hgw : Stays own.length F g) (hN : X.N.Nodup) (hy : X.N[i]? = some y) (hl : X.env.scope.names.lookup y = some .local)
  (hsw : swapsWith (.ListComp elt [⟨tg, iter, ifs, 0⟩] scope pos) (some (.Name y py)) spos.line X.env = pure true) (hs : ∀ x, foldedSetIterable iter X.env x = pure x := by intro _; rfl) :
  PS X (.Assign [.Name y py] (.ListComp elt [⟨tg, iter, ifs, 0⟩] scope pos) spos) (tAsg (Ep own.length F wi g tc te) (Df i)) := by
 intro pins s σ H D0 I h
 rw [exec_Assign_Name_used _ _ _ _ hsw]
 refine wpAny_bind (wpAny_standAt (wpAny_bind ?_))
 show wpAny _ X.A (do let _ <- comprehension (.ListComp elt [⟨tg, iter, ifs, 0⟩] scope pos) scope X.env _ (newList []) false (eval iter X.env) (some (assign (.Name y py) X.env))) _ _ s
 refine wpAny_bind (wpAny_mono (lq (use := some (assign (.Name y py) X.env)) (Qv := fun _ s' => SP X pins D0 .next s') (Fin := fun ys H2 => ∀ D, H2 D = none -> D0.nx (σ.set i (some (.ref D))) (upd H2 D (.lst ys))) S hcm hi hg ht he hgw hs I h fun D C ys H' s' q hD J B ⟨m, hn⟩ => ?_)
  (fun _ s' hq => wpAny_pure (wpAny_pure hq)) fun _ _ z => z)
 show wpAny _ X.A (assign (.Name y py) X.env (.ref D)) _ _ s'
 refine wpAny_assign_Name (kQ J hN hy (.inl hl) (v := .ref D) rfl (fun s2 J2 ⟨a, sb, ha⟩ => ?_) (.inr hl))
 have hCa : C ≠ a := by
  rcases ha with z | z
  ·subst z; exact B.hL
  ·exact (B.h2 _ _ z).symm
 exact ⟨m, hn.sameBut sb hCa, fun h' hs' => ⟨_, _, J2.beside ⟨B.hn, B.hL, B.h1, B.h2, B.h3⟩ hs', q D hD⟩⟩
end
abbrev TuT (H : Hp) (a : Addr) (xs : List V) : Prop := H a = some (.tup xs)
noncomputable def keyD : Key -> PyData
 | .inl i => .int i
 | .inr x => .str x
mutual
inductive Dt (K : W.Frag) (H : Hp) : V -> PyData -> Prop
 | non : Dt K H .non .none
 | bl (b : Bool) : Dt K H (.bl b) (.bool b)
 | int (i : Int) : Dt K H (.int i) (.int i)
 | str (x : Str) : Dt K H (.str x) (.str x)
 | lst {a : Addr} {xs : List V} {ds : Ct} : SqR K H a xs -> Dts K H xs ds -> Dt K H (.ref a) (.list ds)
 | tup {a : Addr} {xs : List V} {ds : Ct} : TuT H a xs -> Dts K H xs ds -> Dt K H (.ref a) (.tuple ds)
 | dct {a : Addr} {kvs : List (Key × V)} {es : List (PyData × PyData)} : H a = some (.dK kvs) -> Des K H kvs es -> Dt K H (.ref a) (.dict es)
inductive Dts (K : W.Frag) (H : Hp) : List V -> Ct -> Prop
 | nil : Dts K H [] []
 | cons {x : V} {xs : List V} {d : PyData} {ds : Ct} : Dt K H x d -> Dts K H xs ds -> Dts K H (x :: xs) (d :: ds)
inductive Des (K : W.Frag) (H : Hp) : List (Key × V) -> List (PyData × PyData) -> Prop
 | nil : Des K H [] []
 | cons {k : Key} {v : V} {kvs : List (Key × V)} {d : PyData} {es : List (PyData × PyData)} : Dt K H v d -> Des K H kvs es -> Des K H ((k, v) :: kvs) ((keyD k, d) :: es)
end
theorem Same.tup {K : W.Frag} {H H' : Hp} {a : Addr} {xs : List V} (e : Same H H') (h : TuT H a xs) : SqT K H' a xs := .of (e _ _ h)
theorem Same.rd {H H' : Hp} {a : Addr} {u : HO} (e : Same H H') (h : Rd H a u) : Rd H' a u := by
 rcases h with h | ⟨o, h⟩
 ·exact .inl (e _ _ h)
 ·exact .inr ⟨o, e _ _ h⟩
theorem Same.sqr {K : W.Frag} {H H' : Hp} {a : Addr} {xs : List V} (e : Same H H') (h : SqR K H a xs) : SqR K H' a xs := by
 rcases h with h | h
 ·exact .inl (e.rd h)
 ·exact .inr h
theorem SqR.sq {K : W.Frag} {H : Hp} {a : Addr} {xs : List V} (h : SqR K H a xs) : SqL K H a xs := by
 rcases h with h | ⟨its, n, h1, h2, h3⟩
 ·exact .inl h
 ·exact .inr ⟨_, its, n, h1, rfl, rfl, rfl, h2, h3⟩
theorem SqR.of {K : W.Frag} {H : Hp} {a : Addr} {xs : List V} (h : H a = some (.lst xs)) : SqR K H a xs := .inl (.inl h)
section
variable {K : W.Frag} {H H' : Hp}
mutual
theorem Dt.mono (e : Same H H') : ∀ {v : V} {d : PyData}, Dt K H v d -> Dt K H' v d
 | _, _, .non => .non
 | _, _, .bl b => .bl b
 | _, _, .int i => .int i
 | _, _, .str x => .str x
 | _, _, .lst q r => .lst (e.sqr q) (Dts.mono e r)
 | _, _, .tup q r => .tup (e _ _ q) (Dts.mono e r)
 | _, _, .dct q r => .dct (e _ _ q) (Des.mono e r)
theorem Dts.mono (e : Same H H') : ∀ {vs : List V} {ds : Ct}, Dts K H vs ds -> Dts K H' vs ds
 | _, _, .nil => .nil
 | _, _, .cons x r => .cons (Dt.mono e x) (Dts.mono e r)
theorem Des.mono (e : Same H H') : ∀ {vs : List (Key × V)} {ds : List (PyData × PyData)}, Des K H vs ds -> Des K H' vs ds
 | _, _, .nil => .nil
 | _, _, .cons x r => .cons (Dt.mono e x) (Des.mono e r)
end
theorem Dts.len : ∀ {vs : List V} {ds : Ct}, Dts K H vs ds -> vs.length = ds.length
 | _, _, .nil => rfl
 | _, _, .cons _ r => by rw [List.length_cons, List.length_cons, Dts.len r]
theorem Dts.append : ∀ {vs ws : List V} {ds es : Ct}, Dts K H vs ds -> Dts K H ws es -> Dts K H (vs ++ ws) (ds ++ es)
 | _, _, _, _, .nil, s => s
 | _, _, _, _, .cons x r, s => .cons x (Dts.append r s)
theorem Dts.get : ∀ {vs : List V} {ds : Ct} {i : Nat} {v : V}, Dts K H vs ds -> vs[i]? = some v -> ∃ d, ds[i]? = some d /\ Dt K H v d
 | _, _, _, _, .nil, e => by simp at e
 | _, _, 0, _, .cons x _, e => by simp at e; subst e; exact ⟨_, rfl, x⟩
 | _, _, i + 1, v, .cons _ r, e => by
  obtain ⟨d, h1, h2⟩ := Dts.get (i := i) (v := v) r (by simpa using e)
  exact ⟨d, by simpa using h1, h2⟩
theorem Dts.get' : ∀ {vs : List V} {ds : Ct} {i : Nat} {d : PyData}, Dts K H vs ds -> ds[i]? = some d -> ∃ v, vs[i]? = some v /\ Dt K H v d
 | _, _, _, _, .nil, e => by simp at e
 | _, _, 0, _, .cons x _, e => by simp at e; subst e; exact ⟨_, rfl, x⟩
 | _, _, i + 1, d, .cons _ r, e => by
  obtain ⟨v, h1, h2⟩ := Dts.get' (i := i) (d := d) r (by simpa using e)
  exact ⟨v, by simpa using h1, h2⟩
theorem Dts.take : ∀ {vs : List V} {ds : Ct} (n : Nat), Dts K H vs ds -> Dts K H (vs.take n) (ds.take n)
 | _, _, 0, _ => .nil
 | _, _, _ + 1, .nil => .nil
 | _, _, n + 1, .cons x r => .cons x (Dts.take n r)
theorem Dts.drop : ∀ {vs : List V} {ds : Ct} (n : Nat), Dts K H vs ds -> Dts K H (vs.drop n) (ds.drop n)
 | _, _, 0, h => h
 | _, _, _ + 1, .nil => .nil
 | _, _, n + 1, .cons _ r => Dts.drop n r
theorem Dts.ints : ∀ (ns : List Int), Dts K H (ns.map V.int) (ns.map PyData.int)
 | [] => .nil
 | n :: r => .cons (.int n) (Dts.ints r)
theorem Dts.rep {v : V} {d : PyData} (h : Dt K H v d) : ∀ n, Dts K H (List.replicate n v) (List.replicate n d)
 | 0 => .nil
 | n + 1 => by rw [List.replicate_succ, List.replicate_succ]; exact .cons h (Dts.rep h n)
theorem Dts.reps {vs : List V} {ds : Ct} (h : Dts K H vs ds) : ∀ n, Dts K H (List.replicate n vs).flatten (List.replicate n ds).flatten
 | 0 => .nil
 | n + 1 => by rw [List.replicate_succ, List.replicate_succ, List.flatten_cons, List.flatten_cons]; exact h.append (Dts.reps h n)
end
section
variable {X : Cx} {pins : Cv} {σ : St} {H : Hp} {s : Shared}
mutual
theorem Dt.reads (I : Inv X pins σ H s) : ∀ {v : V} {d : PyData} {u : Value}, Dt X.K H v d -> d.canLay0 = true -> RelV v u -> ∃ as, Reads s.heap u d as
 | _, _, u, .non, _, r => by cases (show u = Value.none from r); exact ⟨_, Reads.none⟩
 | _, _, u, .bl b, _, r => by cases (show u = Value.bool b from r); exact ⟨_, Reads.bool b⟩
 | _, _, u, .int i, _, r => by obtain ⟨t, e⟩ := (show ∃ t, u = Value.int i t from r); cases e; exact ⟨_, Reads.int i t⟩
 | _, _, u, .str x, _, r => by obtain ⟨t, e⟩ := (show ∃ t, u = Value.str x t from r); cases e; exact ⟨_, Reads.str x t⟩
 | _, _, u, .lst (a := a) q z, c, r => by
  cases (show u = Value.ref a from r)
  obtain ⟨its, rv, ⟨o, n, h1, h2, _, h4⟩, _⟩ := I.list (SqR.sq q)
  obtain ⟨as, ra⟩ := Dts.reads I z (show PyData.canLayAll0 _ = true from c) rv
  exact ⟨_, reads_list_at h1 h2 h4 (by simpa using ra)⟩
 | _, _, u, .tup (a := a) q z, c, r => by
  cases (show u = Value.ref a from r)
  obtain ⟨its, rv, ⟨o, h1, h2, n, h4⟩, _⟩ := I.tuple (.of q)
  obtain ⟨as, ra⟩ := Dts.reads I z (show PyData.canLayAll0 _ = true from c) rv
  exact ⟨_, reads_tuple_at h1 h2 h4 (by simpa using ra)⟩
 | _, _, u, .dct q z, c, r => by exact absurd c (by simp [PyData.canLay0])
theorem Dts.reads (I : Inv X pins σ H s) : ∀ {vs : List V} {ds : Ct} {us : List Value}, Dts X.K H vs ds -> PyData.canLayAll0 ds = true -> Vals vs us -> ∃ as, ReadsAll s.heap us ds as
 | _, _, _, .nil, _, .nil => ⟨_, ReadsAll.nil⟩
 | _, _, _, .cons x z, c, .cons r rs => by
  have c' := Bool.and_eq_true_iff.mp (show (PyData.canLay0 _ && PyData.canLayAll0 _) = true from c)
  obtain ⟨as, h1⟩ := Dt.reads I x c'.1 r
  obtain ⟨bs, h2⟩ := Dts.reads I z c'.2 rs
  exact ⟨_, ReadsAll.cons h1 h2⟩
end
end
theorem jC {α β : Type} {F : α -> β -> Prop} : ∀ {xs : List α} {ys : List β} {i : Nat} {x : α}, Paired F xs ys -> xs[i]? = some x -> ∃ y, ys[i]? = some y /\ F x y
 | _, _, _, _, .nil, e => by simp at e
 | _, _, 0, _, .cons r _, e => by simp at e; subst e; exact ⟨_, rfl, r⟩
 | _, _, i + 1, x, .cons _ t, e => by
  obtain ⟨u, h1, h2⟩ := jC (i := i) (x := x) t (by simpa using e)
  exact ⟨u, by simpa using h1, h2⟩
theorem fU : ∀ {xs : List V} {us : List Value}, xs.length = us.length -> (∀ (j : Nat) x u, xs[j]? = some x -> us[j]? = some u -> RelV x u) -> Vals xs us
 | [], [], _, _ => .nil
 | [], _ :: _, h, _ => by simp at h
 | _ :: _, [], h, _ => by simp at h
 | x :: xs, u :: us, h, k => .cons (k 0 x u rfl rfl) (fU (by simpa using h) fun j y v e1 e2 => k (j + 1) y v (by simpa using e1) (by simpa using e2))
section
variable {X : Cx}
noncomputable def rEqD (K : W.Frag) (neg : Bool) : R2 := fun x y H Q => ∃ d e, Dt K H x d /\ Dt K H y e /\ SeqAt.shaped d = true /\ SeqAt.shaped e = true /\ Q (.bl (if neg then !PyData.eqv d e else PyData.eqv d e)) H
theorem xU (hu : X.A.units + 64 < cLine) : OpR X (compareOp .Eq) (rEqD X.K false) := by
 intro pins s σ H x y v u Q I rx ry h
 obtain ⟨d, e, hd, he, sd, se, q⟩ := h
 obtain ⟨as, ra⟩ := hd.reads I (SeqAt.canLay_of_shaped sd) rx
 obtain ⟨bs, rb⟩ := he.reads I (SeqAt.canLay_of_shaped se) ry
 exact eq_dataH ra rb sd se hu ⟨.bl (PyData.eqv d e), H, I, rfl, q⟩
theorem xV (hu : X.A.units + 64 < cLine) : OpR X (compareOp .NotEq) (rEqD X.K true) := by
 intro pins s σ H x y v u Q I rx ry h
 obtain ⟨d, e, hd, he, sd, se, q⟩ := h
 obtain ⟨as, ra⟩ := hd.reads I (SeqAt.canLay_of_shaped sd) rx
 obtain ⟨bs, rb⟩ := he.reads I (SeqAt.canLay_of_shaped se) ry
 exact ne_dataH ra rb sd se hu ⟨.bl (!PyData.eqv d e), H, I, rfl, q⟩
theorem me : Di X (.builtin "sorted") (fun xs H Q => ∃ a ns, xs = [.ref a] /\ SqL X.K H a (ns.map V.int) /\ ns.length < 64 /\ ∀ (ns' : List Int) p, ns'.Perm ns -> ns'.Pairwise (· <= ·) -> H p = none -> Q (.ref p) (upd H p (.lst (ns'.map V.int)))) := by
 intro pins s σ H xs us Q I r h
 obtain ⟨a, ns, rfl, hq, h64, q⟩ := h
 obtain ⟨u, rfl, r1⟩ := vals1 r
 cases r1
 obtain ⟨its, rv, pl, hz⟩ := I.list hq
 have hI := bZ rv
 have hl : its.length < 64 := by rw [<- rv.length, List.length_map]; exact h64
 refine sorted_ints pl.isList hI hl fun out ns' a1 a2 a3 => ?_
 obtain ⟨e, he⟩ := sortedAll_at s.heap its out
 refine ⟨.ref (s.heap.objs.size + 1), _, I.laid (t' := s.toks) (fun _ _ => sortedAll_old) (Nat.le_succ _) ?_, rfl, q ns' _ a2 a3 (I.hok.fresh (Nat.le_succ _))⟩
 refine ⟨?_, out.toList, e, dH a1, he⟩
 rw [List.length_map, a2.length_eq]
 exact Nat.le_trans (Nat.le_of_lt h64) (by decide)
end
end L2
namespace L2
open PySem PySem.Spec PyProof.Rows
theorem D1.obj {P : Program} {w : World} {H : Hp} {h : Heap} {a : Addr} {o : HO} (x : D1 P w H h a o) : ∃ ob, h.get? a = some ob := by
 cases o with
 | lst xs => obtain ⟨_, _, _, _, e⟩ := x; exact ⟨_, e⟩
 | tup xs => obtain ⟨_, _, _, o, e, _⟩ := x; exact ⟨_, e⟩
 | dK kvs => obtain ⟨_, _, _, _, o, _, _, e, _⟩ := x; exact ⟨_, e⟩
 | dT kvs => obtain ⟨_, _, _, _, o, _, _, e, _⟩ := x; exact ⟨_, e⟩
 | set S n => obtain ⟨o, _, _, _, e, _⟩ := x; exact ⟨_, e⟩
 | ins C dx fs => obtain ⟨_, _, _, e, _⟩ := x; exact ⟨_, e⟩
 | own y => exact x
 | xd fs => obtain ⟨_, ⟨_, _, _, e, _⟩, _⟩ := x; exact ⟨_, e⟩
 | rng lo hi => obtain ⟨_, _, _, e⟩ := x; exact ⟨_, e⟩
 | frz ob u => obtain ⟨e, _⟩ := x; exact ⟨_, e⟩
 | tbl ps => exact ⟨_, x⟩
 | met f y => exact ⟨_, x⟩
 | ext φ => obtain ⟨_, e, _⟩ := x; exact e
structure Flew (P : Program) (w : World) (outer : List Env) (H : Hp) (s : Shared) (H' : Hp) (ea : Addr) (C : Value) (s' : Shared) : Prop where
 os : s'.os = s.os
 bare : AllBare s'.gens
 un : Un (frs outer) [] H H' s.heap s'.heap
 hok : HOk P w H' s'.heap
 frf : ∀ b ∈ frs outer, H' b = none
 fly : ∃ B t, Heap.FlyingW B outer ea C (.ref t) s'.heap /\ ∀ b o, s'.heap.get? b = some o -> b ∉ frs outer -> ((∃ o', s.heap.get? b = some o') \/ H' b ≠ none) -> B.get? b = some o
noncomputable def CXe (P : Program) (w : World) : CXT := fun outer H s E e s' => ∃ ea C H', e = .ref ea /\ Flew P w outer H s H' ea C s' /\ E C none H'
theorem HOk.stays {P : Program} {w : World} {H : Hp} {h1 h2 : Heap} (x : HOk P w H h1) (hk : ∀ b o u, H b = some u -> h1.get? b = some o -> h2.get? b = some o) : HOk P w H h2 := fun a o e => by
 refine (x a o e).stay (fun c q hc e' => ?_) (fun _ q => q) fun _ _ q => q
 rcases hc with z | z
 ·subst z; exact hk _ _ _ e e'
 ·exact hk _ _ _ z e'
section
variable {P : Program} {w : World} {outer : List Env} {H H' : Hp} {s s' : Shared} {ea : Addr} {C : Value}
theorem Flew.step (F : Flew P w outer H s H' ea C s') {B h2 : Heap} (kB : ∀ b o, s'.heap.get? b = some o -> b ∉ frs outer -> ((∃ o', s.heap.get? b = some o') \/ H' b ≠ none) -> B.get? b = some o)
  (fr : s'.heap.FunFrames B outer) (st : B.StaysIn h2) (up : s'.heap.UpToSlots h2) : Un (frs outer) [] H H' s.heap h2 /\ HOk P w H' h2 := by
 have sl : ∀ b o, b ∈ frs outer -> s'.heap.get? b = some o -> ∃ l, h2.get? b = some { o with slots := l } := fun b o hb e => by
  obtain ⟨_, o', e', nf⟩ := fr.mem hb
  rw [e] at e'
  cases e'
  exact up b o e nf
 refine ⟨⟨fun b o e n hb hx => ?_, fun b o e n hb hx => ?_, F.un.free, fun b o e hx => ?_, F.un.tups, F.un.frzs, F.un.tbls⟩, F.hok.stays fun b o u e e' => ?_⟩
 ·exact st b o (kB b o (F.un.keep b o e n hb hx) hb (.inl ⟨_, e⟩))
 ·obtain ⟨l, q⟩ := F.un.slot b o e n hb hx
  obtain ⟨l', q'⟩ := sl b _ hb q
  exact ⟨l', q'⟩
 ·obtain ⟨o', q⟩ := F.un.there b o e hx
  by_cases hb : b ∈ frs outer
  ·obtain ⟨l, q'⟩ := sl b _ hb q
   exact ⟨_, q'⟩
  ·exact ⟨o', st b o' (kB b o' q hb (.inl ⟨_, e⟩))⟩
 ·refine st b o (kB b o e' (fun z => ?_) (.inr (by rw [e]; simp)))
  rw [F.frf b z] at e
  cases e
end
section
variable {P : Program} {w : World} {K : W.Frag} {mg : Cu} {base : Heap} {N : List Str} {qual : Str} {scope : Scope} {f : Addr} {cd : Value} {A : Around} {outer : List Env} {s0 : Shared} {H0 : Hp} {E : XK}
abbrev cxE (P : Program) (w : World) (K : W.Frag) (mg : Cu) (base : Heap) (N : List Str) (qual : Str) (scope : Scope) (f : Addr) (cd : Value) (A : Around) (outer : List Env) (s0 : Shared) (H0 : Hp) (E : XK) : Cx :=
 cxOf (CXe P w) P w K mg base N qual scope f cd A outer s0 H0 E
theorem tL {en : Env} {L : Addr} (h : en.frame = some L) {b : Addr} : b ∈ frs (en :: outer) ↔ b = L \/ b ∈ frs outer := by
 unfold frs
 rw [List.filterMap_cons, h]
 exact List.mem_cons
theorem CN : Passes (CXe P w) (cxE P w K mg base N qual scope f cd A outer s0 H0 E) E := by
 intro pins σ H s e s' I h
 obtain ⟨ea, C, H', rfl, F, q⟩ := h
 have F : Flew P w (envOfC qual scope s0.heap.objs.size f cd :: outer) H s H' ea C s' := F
 have hfr : (A.deeper (envOfC qual scope s0.heap.objs.size f cd)).frames = some (envOfC qual scope s0.heap.objs.size f cd :: outer) := I.ok.frames
 have un0 : Un (frs outer) [] H0 H s0.heap s.heap := I.base
 have eos : s.os = s0.os := I.os
 have fc : ∀ {b : Addr}, b ∈ frs (envOfC qual scope s0.heap.objs.size f cd :: outer) ↔ b = s0.heap.objs.size \/ b ∈ frs outer := fun {b} => tL rfl
 obtain ⟨B, t, fl, kB⟩ := F.fly
 show wpAny (model P w) (A.deeper (envOfC qual scope s0.heap.objs.size f cd)) (leaving (envOfC qual scope s0.heap.objs.size f cd) (.ref ea)) _ _ s'
 refine wpAny_leaves_onW hfr rfl fl fun h2 fl2 up => ?_
 obtain ⟨u2, ok2⟩ := F.step kB fl.2.2.1 fl2.1 up
 have out0 : ∀ b o, s0.heap.get? b = some o -> b ∉ frs outer -> b ∉ frs (envOfC qual scope s0.heap.objs.size f cd :: outer) := fun b o e hb z => by
  rcases fc.mp z with y | y
  ·exact absurd (Heap.lt_size e) (by rw [y]; exact Nat.lt_irrefl _)
  ·exact hb y
 have un1 : Un (frs (envOfC qual scope s0.heap.objs.size f cd :: outer)) [] H0 H s0.heap s.heap := un0.mono (fun b hb => fc.mpr (.inr hb)) fun b hb => hb
 have un2 := un1.trans u2
 refine ⟨ea, C, H', rfl, ⟨F.os.trans eos, F.bare, ⟨fun b o e n hb hx' => un2.keep b o e n (out0 b o e hb) hx', fun b o e n hb hx' => un2.slot b o e n (fc.mpr (.inr hb)) hx', un2.free, un2.there, un2.tups, un2.frzs, un2.tbls⟩, ok2, fun b hb => F.frf b (fc.mpr (.inr hb)), B, t, fl2, fun b o e hb hc => ?_⟩, q⟩
 have inB : ∀ o', s'.heap.get? b = some o' -> b ∉ frs (envOfC qual scope s0.heap.objs.size f cd :: outer) -> ((∃ o1, s.heap.get? b = some o1) \/ H' b ≠ none) -> B.get? b = some o := fun o' e' hb' hc' => by
  have e2 := kB b o' e' hb' hc'
  have e3 : some o = some o' := e.symm.trans (fl2.1 b o' e2)
  rw [Option.some.inj e3]
  exact e2
 rcases hc with ⟨o0, e0⟩ | z
 ·obtain ⟨o1, e1⟩ := un0.there b o0 e0 (by simp)
  obtain ⟨o2, e2⟩ := F.un.there b o1 e1 (by simp)
  exact inB o2 e2 (out0 b o0 e0 hb) (.inl ⟨_, e1⟩)
 ·cases e1 : H' b with
  | none => exact absurd e1 z
  | some u =>
   obtain ⟨o', z'⟩ := (F.hok b u e1).obj
   refine inB o' z' (fun y => ?_) (.inr z)
   rw [F.frf b y] at e1
   cases e1
end
section
variable {P : Program} {w : World} {K : W.Frag} {mg : Cu} {base : Heap}
theorem Fun.okE {x qual : Str} {st : Stmt} {f : Addr} {fd : FuncData} {N ps : List Str} {k : Nat} {sp : Sp} (F : Fun K x qual st f fd) (S : CF N ps (Cy st)) (len : ∀ vs H Q E, sp vs H Q E -> vs.length = ps.length)
  (hbody : ∀ (cdv : Value) (A : Around) (outer : List Env) (s : Shared) (H : Hp) (vs : List V) (Q : VK) (E : XK), Room k (A.deeper (envOfC qual (Cy st) s.heap.objs.size f cdv)) -> sp vs H Q E ->
   ∃ t, PSs (cxE P w K mg base N qual (Cy st) f cdv A outer s H E) (D7 st) t /\ t { nx := fun _ H' => Q .non H', rt := Q } (start N vs) H) : FnOk P w K mg base (CXe P w) (k + 1) f fd ps sp := by
 obtain ⟨oc, od, kV, doc, pm, an, cdv, ct, osl, rfl, lk, hcd⟩ := F.ex
 exact wQ lk hcd S len fun A outer s H vs Q E hr hsp => hbody cdv A outer s H vs Q E hr hsp
end
section
variable {X : Cx} {x : Str} {C : Addr} {B newId initId : String} {bmB : List Value} {E : XK} {t : TA} {e : Expr} {es : List Expr} {np cpos pos : Pos}
end
noncomputable def excO (ea : Addr) (C : Value) : HO := .ext fun h => ∃ o, h.get? ea = some o /\ o.cls = C
theorem Inv.track {X : Cx} {pins : Cv} {σ σ1 : St} {H H1 : Hp} {s s1 : Shared} {a : Addr} {o : HO} (I : Inv X pins σ H s) (I1 : Inv X pins σ1 H1 s1) (ha : s1.heap.get? a = none) (hn : H a = none)
  (new : D1 X.prog X.w (upd H a o) s.heap a o) : Inv X pins σ (upd H a o) s := by
 have ne : ∀ {b : Addr} {ob : Obj}, s1.heap.get? b = some ob -> b ≠ a := fun {b ob} e z => by
  subst z
  rw [ha] at e
  cases e
 refine ⟨I.ok, I.os, I.bare, ⟨I.base.keep, I.base.slot, fun b ob e n x => ?_, I.base.there, fun b xs e => ?_, fun b ob u e => ?_, fun b ps e => ?_⟩, I.loc, I.cell, ?_, fun x c e => ?_, fun p hp => ?_, I.hok.track hn new, I.len⟩
 ·obtain ⟨o1, e1⟩ := I1.base.there b ob e x
  rw [ag (ne e1)]
  exact I.base.free b ob e n x
 ·have q := I.base.tups b xs e
  rw [ag (aq q hn)]
  exact q
 ·have q := I.base.frzs b ob u e
  rw [ag (aq q hn)]
  exact q
 ·obtain ⟨m, q⟩ := I.base.tbls b ps e
  exact ⟨m, by rw [ag (aq q hn)]; exact q⟩
 ·obtain ⟨m, ⟨ob, _, _, e, _⟩, _⟩ := I1.loc
  rw [ag (ne e)]
  exact I.free
 ·obtain ⟨v, ob, e1, _⟩ := I1.cell x c e
  rw [ag (ne e1)]
  exact I.freeC x c e
 ·obtain ⟨e1, e2, e3, e4, e5⟩ := I.pin p hp
  exact ⟨e1, by rw [ag (ne (I1.pin p hp).1)]; exact e2, e3, e4, e5⟩
section
variable {X : Cx} {k : Nat} {f : Addr} {fd : FuncData} {ps : List Str} {sp : Sp} {dvs : List V} {ds : List Value} {x : Str} {p pos pos' : Pos} {e : Expr} {es : List Expr} {t : TA}
end
section
variable {X : Cx} {body suite : List Stmt} {b0 : Stmt} {tb : XK -> TS} {th : TS} {c : Str} {Cc : Value} {cp hp pos : Pos}
end
noncomputable def Ds (N : List Str) (x : Str) : Option Nat := N.findIdx? (fun y => y == x)
section
variable {X : Cx} {a b c : Expr} {ta tb tc : TE} {pos : Pos}
theorem cf {N : List Str} {x : Str} {i : Nat} (h : Ds N x = some i) : N[i]? = some x := by
 unfold Ds at h
 obtain ⟨hi, hp, _⟩ := List.findIdx?_eq_some_iff_getElem.mp h
 have : N[i] = x := by simpa using hp
 rw [List.getElem?_eq_getElem hi, this]
noncomputable def FK : R2 := fun x y H Q => match x, y with
 | .int i, .int j => Q (.int (i + j)) H
 | .str i, .str j => i.length + j.length <= sizeLine /\ Q (.str (i ++ j)) H
 | .ref a, .ref b => ∃ xs zs, H a = some (.lst xs) /\ H b = some (.lst zs) /\ xs.length + zs.length <= sizeLine /\ ∀ p, H p = none -> Q (.ref p) (upd H p (.lst (xs ++ zs)))
 | _, _ => False
noncomputable def rEqM (K : W.Frag) (neg : Bool) : R2 := fun x y H Q => match x, y with
 | .int i, .int j => Q (.bl (if neg then !decide (i = j) else decide (i = j))) H
 | .bl i, .bl j => Q (.bl (if neg then !decide (i = j) else decide (i = j))) H
 | .str i, .str j => Q (.bl (if neg then !decide (i = j) else decide (i = j))) H
 | x, y => rEqD K neg x y H Q
theorem dI (i j : Int) : decide (V.int i = V.int j) = decide (i = j) := by by_cases h : i = j <;> simp [h]
theorem dB (i j : Bool) : decide (V.bl i = V.bl j) = decide (i = j) := by by_cases h : i = j <;> simp [h]
theorem dS (i j : Str) : decide (V.str i = V.str j) = decide (i = j) := by by_cases h : i = j <;> simp [h]
theorem tM (hu : X.A.units + 64 < cLine) : OpR X (compareOp .Eq) (rEqM X.K false) := by
 intro pins s σ H x y v u Q I rx ry h
 unfold rEqM at h
 split at h
 next i j => exact qi pins s σ H _ _ v u Q I rx ry ⟨rfl, by rw [dI]; exact h⟩
 next i j => exact qi pins s σ H _ _ v u Q I rx ry ⟨rfl, by rw [dB]; exact h⟩
 next i j => exact qi pins s σ H _ _ v u Q I rx ry ⟨rfl, by rw [dS]; exact h⟩
 next => exact xU hu pins s σ H _ _ v u Q I rx ry h
theorem xW (hu : X.A.units + 64 < cLine) : OpR X (compareOp .NotEq) (rEqM X.K true) := by
 intro pins s σ H x y v u Q I rx ry h
 unfold rEqM at h
 split at h
 next i j => exact t7 pins s σ H _ _ v u Q I rx ry ⟨rfl, by rw [dI]; exact h⟩
 next i j => exact t7 pins s σ H _ _ v u Q I rx ry ⟨rfl, by rw [dB]; exact h⟩
 next i j => exact t7 pins s σ H _ _ v u Q I rx ry ⟨rfl, by rw [dS]; exact h⟩
 next => exact xV hu pins s σ H _ _ v u Q I rx ry h
noncomputable def rIxM (K : W.Frag) : R2 := fun x y H Q => match x, y with
 | .ref p, .int i => ∃ xs v, (SqL K H p xs \/ SqT K H p xs) /\ atI xs i = some v /\ Q v H
 | _, _ => False
theorem C0 : IxR X (rIxM X.K) := by
 intro value slice pins s σ H x y v u Q I rx ry h hs
 unfold rIxM at h
 split at h
 next p i =>
  obtain ⟨xs, w', h1, h2, h3⟩ := h
  rcases h1 with h1 | h1
  ·exact vv value slice pins s σ H _ _ v u Q I rx ry ⟨p, xs, i, w', rfl, rfl, h1, h2, h3⟩ hs
  ·exact jy value slice pins s σ H _ _ v u Q I rx ry ⟨p, xs, i, w', rfl, rfl, h1, h2, h3⟩ hs
 next => exact h.elim
end
end L2
namespace HT
open PySem PyProof.Rows
section
variable {prog : Program} {w : World} {A : Around} {E : Cw} {s : Shared}
theorem i8 {t sl : Addr} {items : Array Value} {vl vu : Value} {lo hi : Option Int} {Q : Cw} (ht : IsTup s.heap t items) (hs : s.heap.IsSliceOf sl vl vu .none) (pl : IsPart vl lo) (pu : IsPart vu hi)
  (hw : sIx items.size 0 lo = 0 /\ sIx items.size items.size hi = items.size) (h : Q (.ref t) s) : wpAny (model prog w) A (getItem (.ref t) (.ref sl)) Q E s := by
 obtain ⟨o1, ho1, hc1, _⟩ := id hs
 have hT1 : s.TypeIs (.ref sl) "slice" := ⟨o1, ho1, hc1⟩
 unfold getItem
 try with_reducible refine wpAny_holding ?_
 first | refine wpAny_bind (wpAny_pure ?_) | skip
 refine wpAny_bind (wpAny_sequenceKey ht.typeIs (by decide) ?_)
 refine wpAny_bind (wpAny_callSpecial?_slot (name := Str.ofString "__getitem__") ht.typeIs slot_tuple_getitem (wpAny_call_entry slot_tuple_getitem ht.typeIs entry_tuple_getitem ?_ (args_tuple_getitem _ _)))
 show wpAny _ _ (Builtin.Tuple.tupleItemsOf (.ref t) >>= _) _ _ s
 refine wpAny_bind (tupleItemsOf_ ht (wpAny_bind (wpAny_typeOf hT1 ?_)))
 rw [if_pos (by decide)]
 refine wpAny_bind (eT hs pl pu ?_)
 rw [hw.1, hw.2]
 show wpAny _ _ (if ((((0 : Nat) : Int) == 0 && (1 : Int) == 1 && items.size - 0 == items.size) = true) then _ else _) _ _ s
 rw [if_pos (by simp)]
 refine wpAny_bind ?_
 unfold Builtin.Tuple.tupleIsExact
 refine wpAny_bind (wpAny_typeOf ht.typeIs (wpAny_pure ?_))
 rw [if_pos (by decide)]
 exact wpAny_bind (wpAny_rule (wpAny_pure ⟨_, rfl, wpAny_pure h⟩))
end
end HT
namespace L2
open PySem PySem.Spec PyProof.Rows
section
variable {X : Cx}
theorem aA {H : Hp} {p : Addr} {o : HO} (h : H p = none) : Same H (upd H p o) := fun b u e => by rw [ag (aq e h)]; exact e
end
structure Def (P : Program) (w : World) (K : W.Frag) (mg : Cu) (base : Heap) (CX : CXT) (x : Str) (k : Nat) (f : Addr) (fd : FuncData) (ps : List Str) (sp : Sp) : Prop where
 ok : FnOk P w K mg base CX k f fd ps sp
 at_ : mg x = some (.ref f)
 kp : W.keepIn K (.ref f) = true
 bd : Binds K fd ps []
section
variable {X : Cx} {CX : CXT} {k j : Nat} {f : Addr} {fd : FuncData} {ps : List Str} {sp : Sp} {E : XK} {x : Str} {p pos pos' : Pos} {e : Expr} {es : List Expr} {t : TA} {te : TE}
theorem i9 (D : Def X.prog X.w X.K X.mg X.base CX x k f fd ps sp) (hr : Room j X.A) (hx : Passes CX X E) (ha : PA X (e :: es) t) (hg : Gl X x := by rfl) (hk : k <= j := by decide) (hdb : (x == ("__debug__" : Str)) = false := by decide)
  (he : starEach (e :: es) X.env = (false, eval e X.env) :: starEach es X.env := by rfl) (hpl : (backTo pos (starEach es X.env)).any (·.1) = false := by rfl) : PE X (.Call (.Name x p) (e :: es) [] pos) (EE sp [] E t) :=
 vo D.ok (hr.mono hk) hg D.at_ D.kp D.bd .nil hx ha hdb he hpl
theorem jk {i : Nat} (hi : Ds X.N x = some i) (hN : X.N.Nodup) (he : PE X e te) (hx : Loc X.env.scope x := by first | exact Or.inl rfl | exact Or.inr rfl) (hs : swapsWith e (some (.Name x pos')) pos.line X.env = pure false := by rfl)
  (hf : X.fn x = true \/ X.env.scope.names.lookup x = some .local := by first | exact .inl rfl | exact .inr rfl | assumption) : PS X (.Assign [.Name x pos'] e pos) (tAsg te (Df i)) := sZ hN (cf hi) hx he hs hf
end
noncomputable def tyD : PyData -> String
 | .none => "NoneType"
 | .bool _ => "bool"
 | .int _ => "int"
 | .str _ => "str"
 | .list _ => "list"
 | .tuple _ => "tuple"
 | .dict _ => "dict"
noncomputable def isiD (T : String) : PyData -> Bool
 | .bool _ => T == "bool" || T == "int"
 | d => T == tyD d
noncomputable def kitT (T : String) : Bool := T == "int" || T == "bool" || T == "str" || T == "list" || T == "tuple"
theorem vD {K : W.Frag} {T : String} {d : PyData} (hT : kitT T = true) (hd : ∀ kvs, d ≠ .dict kvs) : W.kitOne K (.type (tyD d)) (.type T) = some (isiD T d) := by
 unfold kitT at hT
 simp only [Bool.or_eq_true, beq_iff_eq] at hT
 rcases hT with (((h | h) | h) | h) | h <;> subst h <;> cases d <;> first | rfl | decide +kernel | exact absurd rfl (hd _)
section
variable {X : Cx}
theorem rD : Di X (.builtin "isinstance") (fun xs H Q => ∃ x d T, xs = [x, .ty T] /\ kitT T = true /\ Dt X.K H x d /\ (∀ kvs, d ≠ .dict kvs) /\ Q (.bl (isiD T d)) H) := by
 intro pins s σ H xs us Q I r h
 obtain ⟨x, d, T, rfl, hT, hd, hnd, q⟩ := h
 obtain ⟨u, w', rfl, r1, r2⟩ := vals2 r
 cases (show w' = Value.type T from r2)
 have e := vD (K := X.K) hT hnd
 cases hd with
 | non => cases (show u = Value.none from r1); exact W.kia_one W.kitx_none I.kIn True.intro e (fun z => nomatch z) fun tk => ⟨.bl _, H, I.tok tk, rfl, q⟩
 | bl y => cases (show u = Value.bool y from r1); exact W.kia_one W.kitx_bool I.kIn True.intro e (fun z => nomatch z) fun tk => ⟨.bl _, H, I.tok tk, rfl, q⟩
 | int i => obtain ⟨t, z⟩ := (show ∃ t, u = Value.int i t from r1); cases z; exact W.kia_one W.kitx_int I.kIn True.intro e (fun z => nomatch z) fun tk => ⟨.bl _, H, I.tok tk, rfl, q⟩
 | str y => obtain ⟨t, z⟩ := (show ∃ t, u = Value.str y t from r1); cases z; exact W.kia_one W.kitx_str I.kIn True.intro e (fun z => nomatch z) fun tk => ⟨.bl _, H, I.tok tk, rfl, q⟩
 | @lst a xs ds hq _ =>
  cases (show u = Value.ref a from r1)
  obtain ⟨its, rv, ⟨o, n, h1, h2, _⟩, _⟩ := I.list (SqR.sq hq)
  exact W.kia_one W.kitx_list I.kIn ⟨o, h1, h2⟩ e (fun z => nomatch z) fun tk => ⟨.bl _, H, I.tok tk, rfl, q⟩
 | @tup a xs ds hq _ =>
  cases (show u = Value.ref a from r1)
  obtain ⟨its, rv, ⟨o, h1, h2, _⟩, _⟩ := I.tuple (.of hq)
  exact W.kia_one W.kitx_tuple I.kIn ⟨o, h1, h2⟩ e (fun z => nomatch z) fun tk => ⟨.bl _, H, I.tok tk, rfl, q⟩
 | dct _ _ => exact absurd rfl (hnd _)
theorem zT {x : Str} {T : String} {pos : Pos} (hm : X.mg x = none) (hv : bootBuiltins x = some (.type T)) (hg : Gl X x := by rfl) (hn : x ≠ "__name__" := by decide) (hd : (x == ("__debug__" : Str)) = false := by decide) : PE X (.Name x pos) (tC (.ty T)) := vf hg hm hv rfl hn hd
end
section
variable {P : Program} {w : World} {K : W.Frag} {mg : Cu} {base : Heap} {CX : CXT} {N : List Str} {q : Str} {sc : Scope} {f : Addr} {cd : Value} {A : Around} {o : List Env} {s : Shared} {H : Hp} {E : XK} {X : Cx} {cl : List (Str × Addr)} {C : Addr} {ex : List Addr} {ea : Addr}
end
noncomputable def Ite (K : W.Frag) (a : Addr) : It :=
 ⟨fun i H => ∃ xs x, SqL K H a xs /\ xs[i]? = some x, fun i H x H' => ∃ p y, x = .ref p /\ H p = none /\ H' = upd H p (.tup [.int i, y]) /\ ∀ xs, SqL K H a xs -> xs[i]? = some y, fun i H => ∃ xs, SqL K H a xs /\ xs.length <= i⟩
theorem rE {P : Program} {w : World} {K : W.Frag} {ts : List Expr} {tk : Nat} {tp : Pos} (a e it : Addr) (hne : e ≠ it) : Turn P w K (.Tuple ts tk tp) (Ite K a) [e, it] e (fun i h => (∃ old, IsEnum h e it (i : Int) old) /\ h.IsListIter it a i) where
 mem := by simp
 obj := fun i h st b hb => by
  obtain ⟨⟨old, he⟩, o, ho, _, hd⟩ := st
  rcases List.mem_cons.mp hb with z | z
  ·subst z; exact ⟨_, he, fun v z => by cases z⟩
  ·have : b = it := by simpa using z
   subst this
   exact ⟨o, ho, fun v z => by rw [hd] at z; cases z⟩
 keep := fun i h h' st k => ⟨let ⟨old, he⟩ := st.1; ⟨old, k e (by simp) _ he⟩, st.2.at fun o q => k it (by simp) o q⟩
 item := by
  intro X hP hw hK hc i pins s σ H E I hf st hg
  subst hP hw hK
  obtain ⟨⟨old, he⟩, hit⟩ := st
  obtain ⟨xs, x, hq, hx⟩ := hg
  obtain ⟨its, rv, p, hz⟩ := I.list hq
  obtain ⟨u, hu, ru⟩ := rv.get hx
  refine wpAny_pyNext_enum_item he hit p.isList (x := u) (by simpa using hu) hne fun h' out hit' tup sz kp => ⟨_, rfl, ?_⟩
  refine wpAny_letOwnedTupleGo_enum out fun h2 he2 sb => ?_
  have fe := hf e (by simp)
  have fi := hf it (by simp)
  have ltE : e < s.heap.objs.size := Heap.lt_size he
  have ltI : it < s.heap.objs.size := let ⟨o, ho, _⟩ := hit; Heap.lt_size ho
  have k2 : ∀ b o, b ≠ e -> b ≠ it -> s.heap.get? b = some o -> h2.get? b = some o := fun b o h1 h2' q => (sb.2 b h1).trans (kp b o h1 h2' q)
  have tup2 : h2.get? s.heap.objs.size = some { cls := .type "tuple", data := .seq #[.int i s.toks, u] } := (sb.2 _ (Nat.ne_of_gt ltE)).trans tup
  have fr : H s.heap.objs.size = none := I.hok.fresh (Nat.le_refl _)
  have hok2 : HOk X.prog X.w H h2 := I.hok.stays fun b o v q q' => k2 b o (fun z => by subst z; rw [fe.1] at q; cases q) (fun z => by subst z; rw [fi.1] at q; cases q) q'
  have u1 : Un (frs X.stack) [e, it] H H s.heap h2 := ⟨fun b o q _ _ hx => k2 b o (fun z => hx (by rw [z]; simp)) (fun z => hx (by rw [z]; simp)) q, fun b o q _ _ hx => ⟨o.slots, k2 b o (fun z => hx (by rw [z]; simp)) (fun z => hx (by rw [z]; simp)) q⟩, fun _ _ _ n _ => n,
   fun b o q hx => ⟨o, k2 b o (fun z => hx (by rw [z]; simp)) (fun z => hx (by rw [z]; simp)) q⟩, fun _ _ q => q, fun _ _ _ q => q, fun _ ps q => ⟨#[], by rw [q]; simp⟩⟩
  have I2 : Inv X pins σ H { s with heap := h2, toks := s.toks + 1 } := I.call' (s' := { s with heap := h2, toks := s.toks + 1 }) (ch := [e, it]) rfl u1 hok2 I.bare fun b hb => by
   have fb := hf b hb
   exact ⟨fb.2.2.2.1, fb.2.1, fb.2.2.2.2.1, fb.2.2.2.2.2⟩
  have I3 : Inv X pins σ (upd H s.heap.objs.size (.tup [.int i, x])) { s with heap := h2, toks := s.toks + 1 } := I2.track I (Heap.get?_none_of_le (Nat.le_refl _)) fr ⟨by show 2 <= sizeLine; decide, [.int i s.toks, u], .cons ⟨_, rfl⟩ (.cons ru .nil), ⟨_, tup2, rfl, _, rfl⟩⟩
  refine ⟨.ref s.heap.objs.size, _, I3, rfl, ⟨_, x, rfl, fr, rfl, fun ys hy => by rw [I.list_inj hy hq]; exact hx⟩, ⟨⟨_, he2⟩, ?_⟩, fun b hb => ?_⟩
  ·exact hit'.at fun o q => (sb.2 it (Ne.symm hne)).trans q
  ·have : b < s.heap.objs.size := by
    rcases List.mem_cons.mp hb with z | z
    ·subst z; exact ltE
    ·have : b = it := by simpa using z
     subst this; exact ltI
   rw [ag (Nat.ne_of_lt this)]
   exact (hf b hb).1
 done := by
  intro X hP hw hK hc i pins s σ H E I hf st hg
  subst hP hw hK
  obtain ⟨⟨old, he⟩, hit⟩ := st
  obtain ⟨xs, hq, hx⟩ := hg
  obtain ⟨its, rv, p, hz⟩ := I.list hq
  obtain ⟨f0, f1, f2, f3, f4, f5⟩ := hf it (by simp)
  have hl := rv.length
  exact wpAny_pyNext_enum_end (I.ok.hd hc) he hit p.isList (by simp; lia) fun h' eb => ⟨rfl, I.turned (t' := s.toks) (fun b o hb e => eb b o hb e) f0 f1 f3 f4 f5⟩
 self := fun _ _ _ _ _ st h => let ⟨⟨_, he⟩, _⟩ := st; wpAny_pyIter_enum he h
section
variable {X : Cx} {ts : List Expr} {tk : Nat} {tp : Pos}
noncomputable def FI (K : W.Frag) (ta : TA) : TI := fun σ H R => ta σ H fun vs H1 => ∃ a, vs = [.ref a] /\ (∃ xs, SqL K H1 a xs) /\ R (Ite K a) H1
theorem qz {l : Expr} {ta : TA} {p pos : Pos} (hm : X.mg "enumerate" = none) (ha : PA X [l] ta) (hg : Gl X "enumerate" := by rfl) (hs : starEach [l] X.env = [(false, eval l X.env)] := by rfl) : PI X (.Tuple ts tk tp) (.Call (.Name "enumerate" p) [l] [] pos) (FI X.K ta) := by
 intro pins s σ H R I h
 refine Call_ (fP I hg hm boot_enumerate (callWith_type1 (thn (ha pos pins s σ H _ I h) fun us s1 ⟨vs, H1, I1, r1, q1⟩ => ?_) hs rfl))
 obtain ⟨a, e, ⟨xs, hq⟩, q⟩ := q1
 subst e
 obtain ⟨u, rfl, r⟩ := vals1 r1
 cases r
 obtain ⟨its, rv, pl, hz⟩ := I1.list hq
 refine call_enumerate_list pl.isList fun h' he hit hsz kp => wpAny_pyIter_enum he ?_
 have I2 : Inv X pins σ H1 { s1 with heap := h' } := I1.kept (t' := s1.toks) kp
 refine ⟨s1.heap.objs.size + 1, [s1.heap.objs.size + 1, s1.heap.objs.size], _, _, H1, rfl, I2, rE a _ _ (Nat.succ_ne_self _), ⟨⟨_, he⟩, hit⟩, fun b hb => ?_, q⟩
 have hb' : s1.heap.objs.size <= b := by
  rcases List.mem_cons.mp hb with z | z
  ·rw [z]; exact Nat.le_succ _
  ·have : b = s1.heap.objs.size := by simpa using z
   rw [this]; exact Nat.le_refl _
 exact I1.fpOk hb' (I1.hok.fresh hb')
noncomputable def iSeq (K : W.Frag) (tl : TE) : TI := fun σ H R => tl σ H fun x H1 => ∃ a, x = .ref a /\ (((∃ xs, SqL K H1 a xs) /\ R (Itl K a) H1) \/ ((∃ xs, SqT K H1 a xs) /\ R (Itt K a) H1))
theorem tN {tg l : Expr} {tl : TE} (hl : PE X l tl) : PI X tg l (iSeq X.K tl) := by
 intro pins s σ H R I h
 refine thn (hl pins s σ H _ I h) fun v s1 ⟨x, H1, I1, r1, q1⟩ => ?_
 obtain ⟨a, e, q⟩ := q1
 subst e
 cases r1
 have fp : ∀ b ∈ [s1.heap.objs.size], FpOk X pins H1 b := fun b hb => by
  have e : b = s1.heap.objs.size := by simpa using hb
  subst e
  exact I1.fpOk (Nat.le_refl _) (I1.hok.fresh (Nat.le_refl _))
 rcases q with ⟨⟨xs, hq⟩, q⟩ | ⟨⟨xs, hq⟩, q⟩
 ·obtain ⟨its, rv, p, hz⟩ := I1.list hq
  exact wpAny_pyIter_list p.isList ⟨s1.heap.objs.size, [s1.heap.objs.size], _, _, H1, rfl, I1.kept (t' := s1.toks) (fun b o e => Heap.get?_push_of_some _ e), rm a _, ⟨_, Heap.get?_push_size _ rfl, rfl, rfl⟩, fp, q⟩
 ·obtain ⟨its, rv, p, hz⟩ := I1.tuple hq
  exact wpAny_pyIter_tuple (show s1.heap.IsTuple a its.toArray from p) ⟨s1.heap.objs.size, [s1.heap.objs.size], _, _, H1, rfl, I1.kept (t' := s1.toks) (fun b o e => Heap.get?_push_of_some _ e), oU a _, ⟨_, Heap.get?_push_size _ rfl, rfl, rfl⟩, fp, q⟩
end
section
variable {X : Cx}
noncomputable def rIxD : R2 := fun x y H Q => ∃ a v, x = .ref a /\ DGet H a y (some v) /\ Q v H
theorem vF (hu : X.A.units + 1 < cLine) : IxR X rIxD := by
 intro value slice pins s σ H x y v u Q I rx ry h hs
 obtain ⟨a, w', rfl, g, q⟩ := h
 cases rx
 exact tail_any (j0 I g) PySem.F.slot_dict_getitem.lookup (lj hu I g ry fun r s' I' rr => ⟨w', H, I', rr, q⟩) hs
noncomputable def rIxA (K : W.Frag) : R2 := fun x y H Q => rIxM K x y H Q \/ rIxD x y H Q
theorem C1 (hu : X.A.units + 1 < cLine) : IxR X (rIxA X.K) := C0.or (vF hu)
end
noncomputable def CB (scope : Scope) : List Str := (scope.names.filter fun y => y.2 == .free).map (·.1)
noncomputable def Dg (N : List Str) (scope : Scope) : List Nat := (CB scope).filterMap (Ds N)
noncomputable def DF (N : List Str) (sc : Scope) (x : Str) (scope : Scope) : Bool :=
 scope.kind == .function && sc.kind == .function && (scope.names.all fun y => y.2 != .cell && (y.2 != .local || scope.names.lookup y.1 == some .local) && (y.2 != .free || (sc.names.lookup y.1 == some .cell || sc.names.lookup y.1 == some .free))) &&
 ((CB scope).all fun y => (Ds N y).isSome && y != x && scope.names.lookup y == some .free) && decide (x :: CB scope).Nodup && scope.names.lookup x == some .local
theorem eh {α β : Type} {f : α -> Option β} : ∀ {l : List α} {i : Nat} {x : α}, (∀ a ∈ l, (f a).isSome = true) -> l[i]? = some x -> (l.filterMap f)[i]? = f x
 | [], _, _, _, e => by simp at e
 | a :: r, i, x, h, e => by
  have ha := h a (List.mem_cons_self ..)
  obtain ⟨b, hb⟩ := Option.isSome_iff_exists.mp ha
  rw [List.filterMap_cons, hb]
  cases i with
  | zero => simp at e; subst e; simp [hb]
  | succ i =>
   simp only [List.getElem?_cons_succ] at e ⊢
   exact eh (fun a ha => h a (List.mem_cons_of_mem _ ha)) e
theorem eu {α β : Type} {f : α -> Option β} : ∀ {l : List α}, (∀ a ∈ l, (f a).isSome = true) -> (l.filterMap f).length = l.length
 | [], _ => rfl
 | a :: r, h => by
  obtain ⟨b, hb⟩ := Option.isSome_iff_exists.mp (h a (List.mem_cons_self ..))
  rw [List.filterMap_cons, hb, List.length_cons, List.length_cons, eu fun a ha => h a (List.mem_cons_of_mem _ ha)]
theorem fm {env : Env} {x : Str} : ∀ {names : List (Str × NameKind)} {k : NameKind}, names.lookup x = some .free -> (names.map fun (n, k) => if (k == NameKind.free && env.scope.kind == .function && env.kindOf n == some .cell) then (n, NameKind.cell) else (n, k)).lookup x = some k -> k = .cell \/ k = .free
 | [], _, h, _ => by simp at h
 | (n, k') :: r, k, h, e => by
  rw [List.map_cons] at e
  rw [List.lookup_cons] at h
  cases q : x == n with
  | true =>
   rw [q] at h
   have hk : k' = .free := Option.some.inj h
   subst hk
   split at e
   next n2 k2 heq =>
    simp only [Prod.mk.injEq] at heq
    obtain ⟨rfl, rfl⟩ := heq
    rw [apply_ite (fun z : Str × NameKind => List.lookup x (z :: _))] at e
    split at e
    ·rw [List.lookup_cons, q] at e; exact .inl (Option.some.inj e).symm
    ·rw [List.lookup_cons, q] at e; exact .inr (Option.some.inj e).symm
  | false =>
   rw [q] at h
   refine fm (env := env) (names := r) h ?_
   split at e
   next n2 k2 heq =>
    simp only [Prod.mk.injEq] at heq
    obtain ⟨rfl, rfl⟩ := heq
    rw [apply_ite (fun z : Str × NameKind => List.lookup x (z :: _))] at e
    split at e
    ·rw [List.lookup_cons, q] at e; exact e
    ·rw [List.lookup_cons, q] at e; exact e
section
variable {X : Cx} {N0 : List Str} {sc0 scope : Scope} {x : Str}
theorem gQ (hN : X.N = N0) (hsc : X.env.scope = sc0) (h : DF N0 sc0 x scope = true) : Dr X [x] (Dg N0 scope) (x :: CB scope) scope /\ (x :: CB scope).Nodup := by
 unfold DF at h
 simp only [Bool.and_eq_true, beq_iff_eq, List.all_eq_true, bne_iff_ne, ne_eq, Bool.or_eq_true, decide_eq_true_eq] at h
 obtain ⟨⟨⟨⟨⟨h1, h2⟩, h3⟩, h4⟩, h5⟩, h6⟩ := h
 have all : ∀ y ∈ CB scope, (Ds N0 y).isSome = true := fun y hy => (h4 y hy).1.1
 refine ⟨⟨h1, fun y hy => (h3 y hy).1.1, fun y hy e => ?_, by rw [hsc]; exact h2, fun y hy e => ?_, fun i y e => ?_, ?_⟩, h5⟩
 ·rcases (h3 y hy).1.2 with z | z
  ·exact absurd e z
  ·exact z
 ·rcases (h3 y hy).2 with z | z
  ·exact absurd e z
  ·show X.env.scope.names.lookup y.1 = _ \/ X.env.scope.names.lookup y.1 = _
   rw [hsc]; exact z
 ·cases i with
  | zero => exact .inl (by simp)
  | succ i =>
   simp only [List.getElem?_cons_succ] at e
   have hy := List.mem_of_getElem? e
   obtain ⟨j, hj⟩ := Option.isSome_iff_exists.mp (all y hy)
   have hfree := (h4 y hy).2
   refine .inr ⟨j, ?_, by rw [hN]; exact cf hj, ?_, fun k hk => fm hfree hk⟩
   ·show (Dg N0 scope)[i + 1 - 1]? = some j
    rw [Nat.add_sub_cancel]
    unfold Dg
    rw [eh all e, hj]
   ·have := (h3 (y, .free) (PySem.mem_of_lookup hfree)).2
    rcases this with z | z
    ·exact absurd rfl z
    ·show X.env.scope.names.lookup y = some .local \/ X.env.scope.names.lookup y = some .cell \/ X.env.scope.names.lookup y = some .free
     rw [hsc]
     rcases z with z | z
     ·exact .inr (.inl z)
     ·exact .inr (.inr z)
 ·show (x :: CB scope).length = 1 + (Dg N0 scope).length
  rw [List.length_cons, Dg, eu all]
  lia
variable {elt iter : Expr} {wi : TI} {tc : TT} {te : TE} {pos px : Pos} {ifs : List Expr}
theorem lr {l : List Str} : Ds (x :: l) x = some 0 := by simp [Ds, List.findIdx?_cons]
theorem nz (hok : DF N0 sc0 x scope = true) (hi : PI X (.Name x px) iter wi) (ht : ∀ cl C ex s H, PTs (CL X (x :: CB scope) scope cl C ex s H) ifs tc) (he : ∀ cl C ex s H, PE (CL X (x :: CB scope) scope cl C ex s H) elt te) (hN : X.N = N0 := by rfl) (hsc : X.env.scope = sc0 := by rfl)
  (hcm : X.calm = true := by rfl) (hs : ∀ x, foldedSetIterable iter X.env x = pure x := by intro _; rfl) : PE X (.ListComp elt [⟨.Name x px, iter, ifs, 0⟩] scope pos) (Ep 1 (Dg N0 scope) wi (Df 0) tc te) := by
 obtain ⟨S, nd⟩ := gQ hN hsc hok
 have hl : scope.names.lookup x = some .local := by
  unfold DF at hok
  simp only [Bool.and_eq_true, beq_iff_eq] at hok
  exact hok.2
 exact vC S hcm hi (fun cl C ex s H => i5 nd (cf lr) (.inl (lookup_relabel_local hl)) (.inr (lookup_relabel_local hl))) ht he (jB Nat.one_pos) hs
theorem tP {i : Nat} {y : Str} {py spos : Pos} (hok : DF N0 sc0 x scope = true) (hi : PI X (.Name x px) iter wi) (ht : ∀ cl C ex s H, PTs (CL X (x :: CB scope) scope cl C ex s H) ifs tc) (he : ∀ cl C ex s H, PE (CL X (x :: CB scope) scope cl C ex s H) elt te)
  (hy : Ds X.N y = some i) (hNd : X.N.Nodup) (hN : X.N = N0 := by rfl) (hsc : X.env.scope = sc0 := by rfl) (hcm : X.calm = true := by rfl) (hl : X.env.scope.names.lookup y = some .local := by rfl)
  (hsw : swapsWith (.ListComp elt [⟨.Name x px, iter, ifs, 0⟩] scope pos) (some (.Name y py)) spos.line X.env = pure true := by rfl) (hs : ∀ x, foldedSetIterable iter X.env x = pure x := by intro _; rfl) :
  PS X (.Assign [.Name y py] (.ListComp elt [⟨.Name x px, iter, ifs, 0⟩] scope pos) spos) (tAsg (Ep 1 (Dg N0 scope) wi (Df 0) tc te) (Df i)) := by
 obtain ⟨S, nd⟩ := gQ hN hsc hok
 have hl' : scope.names.lookup x = some .local := by
  unfold DF at hok
  simp only [Bool.and_eq_true, beq_iff_eq] at hok
  exact hok.2
 exact qy S hcm hi (fun cl C ex s H => i5 nd (cf lr) (.inl (lookup_relabel_local hl')) (.inr (lookup_relabel_local hl'))) ht he (jB Nat.one_pos) hNd (cf hy) hl hsw hs
end
abbrev TJ := St -> Hp -> Str -> (Str -> Hp -> Prop) -> Prop
section
variable {X : Cx} {es : List Expr} {t : TJ} {pos : Pos}
end
inductive SD where
 | sh (d : PyData)
 | ol (ds : Ct)
 | od (es : List (PyData × PyData))
 | ex (x : Str)
noncomputable def SD.owned : SD -> Prop
 | .ol _ => True
 | .od _ => True
 | _ => False
noncomputable def SD.toSh : SD -> Option PyData
 | .sh d => some d
 | .ol ds => some (.list ds)
 | .od es => some (.dict es)
 | .ex _ => none
abbrev DEnv := List (Option SD)
inductive Out (α : Type) where
 | ok (a : α)
 | exc (x : Str)
 | bad
noncomputable def Out.bind {α β : Type} (x : Out α) (f : α -> Out β) : Out β := match x with
 | .ok a => f a
 | .exc x => .exc x
 | .bad => .bad
@[simp] theorem Out.bind_ok {α β : Type} (a : α) (f : α -> Out β) : (Out.ok a).bind f = f a := rfl
@[simp] theorem Out.bind_exc {α β : Type} (x : Str) (f : α -> Out β) : (Out.exc x).bind f = .exc x := rfl
@[simp] theorem Out.bind_bad {α β : Type} (f : α -> Out β) : (Out.bad : Out α).bind f = .bad := rfl
class Tabs where
 ts : List Addr
 qual : Str
variable [Tabs]
noncomputable def DL (c : Addr) (q : Str) : HO := .ext fun h => h.CodeRec (.ref c) q
noncomputable def DW (H : Hp) : Prop := ∀ P ∈ Tabs.ts, ∃ ps, H P = some (.tbl ps) /\ TriplesOk ps.toList /\ ∀ pos c, codeAmong pos ps.toList = some c -> ∃ c', c = .ref c' /\ H c' = some (DL c' Tabs.qual)
structure DI (H H' : Hp) : Prop where
 at_ : ∀ b o, H b = some o -> (∀ ps, o ≠ .tbl ps) -> H' b = some o
 nn : ∀ b, H b ≠ none -> H' b ≠ none
 ok : DW H -> DW H'
theorem DI.of_same {H H' : Hp} (s : Same H H') : DI H H' where
 at_ := fun b o e _ => s b o e
 nn := fun b h => by
  cases q : H b with
  | none => exact absurd q h
  | some o => rw [s b o q]; simp
 ok := fun t P hP => let ⟨ps, e, t1, t2⟩ := t P hP; ⟨ps, s _ _ e, t1, fun pos c hc => let ⟨c', e1, e2⟩ := t2 pos c hc; ⟨c', e1, s _ _ e2⟩⟩
theorem DI.refl (H : Hp) : DI H H := ⟨fun _ _ e _ => e, fun _ h => h, id⟩
theorem DI.trans {H H1 H2 : Hp} (a : DI H H1) (b : DI H1 H2) : DI H H2 := ⟨fun c o e n => b.at_ c o (a.at_ c o e n) n, fun c h => b.nn c (a.nn c h), fun t => b.ok (a.ok t)⟩
theorem DI.free {H H' : Hp} (s : DI H H') {l : Addr} (h : H' l = Option.none) : H l = Option.none := by
 cases q : H l with
 | none => rfl
 | some o => exact absurd h (s.nn l (by rw [q]; simp))
noncomputable def NoT (G : Hp) : Prop := ∀ b ps, G b ≠ some (.tbl ps)
theorem DI.same {G H H' : Hp} (s : DI H H') (g : Same G H) (n : NoT G) : Same G H' := fun b o e => s.at_ b o (g b o e) fun ps z => n b ps (by rw [e, z])
theorem NoT.upd {G : Hp} {p : Addr} {o : HO} (n : NoT G) (ho : ∀ ps, o ≠ .tbl ps) : NoT (upd G p o) := fun b ps z => by
 by_cases hb : b = p
 ·subst hb; rw [ao] at z; exact ho ps (Option.some.inj z)
 ·rw [ag hb] at z; exact n b ps z
structure Grow (G H G' H' : Hp) : Prop where
 hh : DI H H'
 gg : Same G G'
 gh : Same G' H'
 nb : ∀ b, H b ≠ none -> G' b = G b
 nt : NoT G -> NoT G'
section
variable {G H G1 H1 G2 H2 G' H' : Hp} {p b : Addr} {o : HO}
theorem Grow.refl (h : Same G H) : Grow G H G H := ⟨.refl _, .refl _, h, fun _ _ => rfl, id⟩
theorem Grow.trans (a : Grow G H G1 H1) (c : Grow G1 H1 G2 H2) : Grow G H G2 H2 :=
 ⟨a.hh.trans c.hh, a.gg.trans c.gg, c.gh, fun b h => (c.nb b (a.hh.nn b h)).trans (a.nb b h), fun n => c.nt (a.nt n)⟩
theorem Grow.laid (h : Same G H) (hp : H p = none) (ho : ∀ ps, o ≠ .tbl ps := by intro _ z; cases z) : Grow G H (upd G p o) (upd H p o) where
 hh := .of_same (aA hp)
 nt := fun n => n.upd ho
 gg := aA (h.free hp)
 gh := fun b u e => by
  by_cases z : b = p
  ·subst z; rw [ao] at e ⊢; exact e
  ·rw [ag z] at e ⊢; exact h b u e
 nb := fun b hb => ag (fun z => hb (z ▸ hp))
theorem Grow.laidO (h : Same G H) (hp : H p = none) : Grow G H G (upd H p o) := ⟨.of_same (aA hp), .refl _, h.trans (aA hp), fun _ _ => rfl, id⟩
end
noncomputable def VR (K : W.Frag) (mg : Cu) (G H : Hp) (v : V) : SD -> Prop
 | .sh d => Dt K G v d
 | .ol ds => ∃ a xs, v = .ref a /\ G a = none /\ H a = some (.lst xs) /\ Dts K G xs ds
 | .od es => ∃ a kvs, v = .ref a /\ G a = none /\ H a = some (.dK kvs) /\ Des K G kvs es
 | .ex x => ∃ a C, v = .ref a /\ mg x = some C /\ H a = some (excO a C)
structure Rel (K : W.Frag) (mg : Cu) (G0 H0 G H : Hp) (σ : St) (δ : DEnv) : Prop where
 g : Grow G0 H0 G H
 len : δ.length = σ.length
 sl : ∀ (i : Nat) sd, δ[i]? = some (some sd) -> ∃ v, σ[i]? = some (some v) /\ VR K mg G H v sd
 fr : ∀ (i : Nat) sd a, δ[i]? = some (some sd) -> sd.owned -> σ[i]? = some (some (.ref a)) -> H0 a = none
 ap : ∀ (i j : Nat) sd te a, δ[i]? = some (some sd) -> δ[j]? = some (some te) -> sd.owned -> te.owned -> σ[i]? = some (some (.ref a)) -> σ[j]? = some (some (.ref a)) -> i = j
 tb : DW H0
 n0 : NoT G0
noncomputable def VN (K : W.Frag) (mg : Cu) (H G' H' : Hp) (v : V) (r : SD) : Prop := VR K mg G' H' v r /\ (r.owned -> ∀ a, v = .ref a -> H a = none)
noncomputable def RR (K : W.Frag) (mg : Cu) (H0 G H : Hp) (σ : St) (δ : DEnv) (v : V) (r : SD) : Prop :=
 VR K mg G H v r /\ (r.owned -> ∀ a, v = .ref a -> H0 a = none /\ ∀ (i : Nat) sd, δ[i]? = some (some sd) -> sd.owned -> σ[i]? ≠ some (some (.ref a)))
section
variable {K : W.Frag} {mg : Cu} {G0 H0 G H G' H' : Hp} {σ : St} {δ : DEnv} {v : V} {r sd : SD} {i : Nat} {p a : Addr} {o : HO}
theorem VR.grow (g : Grow G H G' H') (h : VR K mg G H v r) : VR K mg G' H' v r := by
 cases r with
 | sh d => exact Dt.mono g.gg h
 | ol ds =>
  obtain ⟨a, xs, rfl, h1, h2, h3⟩ := h
  exact ⟨a, xs, rfl, (g.nb a (by rw [h2]; simp)).trans h1, g.hh.at_ _ _ h2 (by intro _ z; cases z), h3.mono g.gg⟩
 | od es =>
  obtain ⟨a, xs, rfl, h1, h2, h3⟩ := h
  exact ⟨a, xs, rfl, (g.nb a (by rw [h2]; simp)).trans h1, g.hh.at_ _ _ h2 (by intro _ z; cases z), h3.mono g.gg⟩
 | ex x =>
  obtain ⟨a, C, rfl, h1, h2⟩ := h
  exact ⟨a, C, rfl, h1, g.hh.at_ _ _ h2 (by intro _ z; cases z)⟩
theorem VR.own (h : VR K mg G H v r) (ho : r.owned) : ∃ a, v = .ref a /\ G a = none /\ H a ≠ none := by
 cases r with
 | sh d => exact ho.elim
 | ol ds => obtain ⟨a, xs, rfl, h1, h2, h3⟩ := h; exact ⟨a, rfl, h1, by rw [h2]; simp⟩
 | od es => obtain ⟨a, xs, rfl, h1, h2, h3⟩ := h; exact ⟨a, rfl, h1, by rw [h2]; simp⟩
 | ex x => exact ho.elim
theorem Rel.grow (R : Rel K mg G0 H0 G H σ δ) (g : Grow G H G' H') : Rel K mg G0 H0 G' H' σ δ :=
 ⟨R.g.trans g, R.len, fun i sd e => let ⟨v, h1, h2⟩ := R.sl i sd e; ⟨v, h1, h2.grow g⟩, R.fr, R.ap, R.tb, R.n0⟩
theorem Rel.own_ne (R : Rel K mg G0 H0 G H σ δ) (e : δ[i]? = some (some sd)) (ho : sd.owned) (hs : σ[i]? = some (some (.ref a))) : G a = none /\ H a ≠ none := by
 obtain ⟨v, h1, h2⟩ := R.sl i sd e
 obtain ⟨b, rfl, h3, h4⟩ := h2.own ho
 rw [hs] at h1
 cases h1
 exact ⟨h3, h4⟩
theorem RR.of_new (R : Rel K mg G0 H0 G H σ δ) (n : VN K mg H G' H' v r) : RR K mg H0 G' H' σ δ v r :=
 ⟨n.1, fun ho a e => ⟨R.g.hh.free (n.2 ho a e), fun i sd h1 h2 h3 => (R.own_ne h1 h2 h3).2 (n.2 ho a e)⟩⟩
theorem RR.new (n : RR K mg H0 G H σ δ v r) : VN K mg H0 G H v r := ⟨n.1, fun ho a e => (n.2 ho a e).1⟩
theorem RR.sh {d : PyData} (h : Dt K G v d) : RR K mg H0 G H σ δ v (.sh d) := ⟨h, fun z => z.elim⟩
theorem Rel.pub (R : Rel K mg G0 H0 G H σ δ) (hG : G p = none) (hH : H p = some o) (h0 : H0 p = none) (hn : ∀ (i : Nat) sd, δ[i]? = some (some sd) -> sd.owned -> σ[i]? ≠ some (some (.ref p))) (ho : ∀ ps, o ≠ .tbl ps := by intro _ z; cases z) : Rel K mg G0 H0 (upd G p o) H σ δ where
 tb := R.tb
 n0 := R.n0
 g := ⟨R.g.hh, R.g.gg.trans (aA hG), fun b u e => by
   by_cases z : b = p
   ·subst z; rw [ao] at e; rw [hH]; exact e
   ·rw [ag z] at e; exact R.g.gh b u e, fun b hb => (ag (fun z => hb (by rw [z]; exact h0))).trans (R.g.nb b hb), fun n => (R.g.nt n).upd ho⟩
 len := R.len
 sl := fun i sd e => by
  obtain ⟨v, h1, h2⟩ := R.sl i sd e
  refine ⟨v, h1, ?_⟩
  have s : Same G (upd G p o) := aA hG
  cases sd with
  | sh d => exact Dt.mono s h2
  | ol ds =>
   obtain ⟨a, xs, rfl, q1, q2, q3⟩ := h2
   exact ⟨a, xs, rfl, (ag fun z => hn i _ e trivial (by rw [<- z]; exact h1)).trans q1, q2, q3.mono s⟩
  | od ds =>
   obtain ⟨a, xs, rfl, q1, q2, q3⟩ := h2
   exact ⟨a, xs, rfl, (ag fun z => hn i _ e trivial (by rw [<- z]; exact h1)).trans q1, q2, q3.mono s⟩
  | ex x => exact h2
 fr := R.fr
 ap := R.ap
theorem RR.share {d : PyData} (R : Rel K mg G0 H0 G H σ δ) (h : RR K mg H0 G H σ δ v r) (e : r.toSh = some d) : ∃ G', Rel K mg G0 H0 G' H σ δ /\ Same G G' /\ Dt K G' v d := by
 cases r with
 | sh d' => cases e; exact ⟨G, R, .refl _, h.1⟩
 | ol ds =>
  cases e
  obtain ⟨⟨a, xs, rfl, h1, h2, h3⟩, hf⟩ := h
  obtain ⟨f1, f2⟩ := hf trivial a rfl
  exact ⟨_, R.pub h1 h2 f1 f2, aA h1, .lst (.of ao) (h3.mono (aA h1))⟩
 | od es =>
  cases e
  obtain ⟨⟨a, xs, rfl, h1, h2, h3⟩, hf⟩ := h
  obtain ⟨f1, f2⟩ := hf trivial a rfl
  exact ⟨_, R.pub h1 h2 f1 f2, aA h1, .dct ao (h3.mono (aA h1))⟩
 | ex x => cases e
theorem aD {α : Type} {l : List α} {i j : Nat} {x y : α} (h : (l.set i x)[j]? = some y) : (j = i /\ y = x) \/ (j ≠ i /\ l[j]? = some y) := by
 by_cases z : j = i
 ·subst z
  by_cases hl : j < l.length
  ·rw [List.getElem?_set_self hl] at h
   exact .inl ⟨rfl, (Option.some.inj h).symm⟩
  ·rw [List.getElem?_eq_none (by rw [List.length_set]; lia)] at h
   cases h
 ·rw [List.getElem?_set_ne (Ne.symm z)] at h
  exact .inr ⟨z, h⟩
theorem Rel.store (R : Rel K mg G0 H0 G H σ δ) (hi : i < σ.length) (h : RR K mg H0 G H σ (δ.set i none) v r) : Rel K mg G0 H0 G H (σ.set i (some v)) (δ.set i (some r)) where
 tb := R.tb
 n0 := R.n0
 g := R.g
 len := by rw [List.length_set, List.length_set]; exact R.len
 sl := fun j sd e => by
  rcases aD e with ⟨rfl, z⟩ | ⟨hj, e'⟩
  ·cases z
   exact ⟨v, List.getElem?_set_self hi, h.1⟩
  ·obtain ⟨w, h1, h2⟩ := R.sl j sd e'
   exact ⟨w, by rw [List.getElem?_set_ne (Ne.symm hj)]; exact h1, h2⟩
 fr := fun j sd a e ho hs => by
  rcases aD e with ⟨rfl, z⟩ | ⟨hj, e'⟩
  ·cases z
   rw [List.getElem?_set_self hi] at hs
   cases hs
   exact (h.2 ho a rfl).1
  ·rw [List.getElem?_set_ne (Ne.symm hj)] at hs
   exact R.fr j sd a e' ho hs
 ap := fun j k sd te a e1 e2 h1 h2 s1 s2 => by
  have key : ∀ {m n : Nat} {sm sn : SD}, (δ.set i (some r))[m]? = some (some sm) -> δ[n]? = some (some sn) -> n ≠ i -> m = i -> sm.owned -> sn.owned -> (σ.set i (some v))[m]? = some (some (.ref a)) -> σ[n]? = some (some (.ref a)) -> False := fun {m n sm sn} f1 f2 hk hj g1 g2 t1 t2 => by
   subst hj
   rcases aD f1 with ⟨_, z⟩ | ⟨z, _⟩
   ·cases z
    rw [List.getElem?_set_self hi] at t1
    cases t1
    exact (h.2 g1 a rfl).2 n sn (by rw [List.getElem?_set_ne (Ne.symm hk)]; exact f2) g2 t2
   ·exact z rfl
  rcases aD e1 with ⟨z1, _⟩ | ⟨z1, q1⟩
  ·rcases aD e2 with ⟨z2, _⟩ | ⟨z2, q2⟩
   ·rw [z1, z2]
   ·rw [List.getElem?_set_ne (Ne.symm z2)] at s2
    exact (key e1 q2 z2 z1 h1 h2 s1 s2).elim
  ·rw [List.getElem?_set_ne (Ne.symm z1)] at s1
   rcases aD e2 with ⟨z2, _⟩ | ⟨z2, q2⟩
   ·exact (key e2 q1 z1 z2 h2 h1 s2 s1).elim
   ·rw [List.getElem?_set_ne (Ne.symm z2)] at s2
    exact R.ap j k sd te a q1 q2 h1 h2 s1 s2
theorem RR.less {k : Nat} (h : RR K mg H0 G H σ δ v r) : RR K mg H0 G H σ (δ.set k none) v r :=
 ⟨h.1, fun ho a e => ⟨(h.2 ho a e).1, fun i sd q h2 => by
  rcases aD q with ⟨_, z⟩ | ⟨_, z⟩
  ·cases z
  ·exact (h.2 ho a e).2 i sd z h2⟩⟩
theorem Rel.forget (R : Rel K mg G0 H0 G H σ δ) (i : Nat) : Rel K mg G0 H0 G H σ (δ.set i none) where
 tb := R.tb
 n0 := R.n0
 g := R.g
 len := by rw [List.length_set]; exact R.len
 sl := fun j sd e => by
  rcases aD e with ⟨_, z⟩ | ⟨_, z⟩
  ·cases z
  ·exact R.sl j sd z
 fr := fun j sd a e ho hs => by
  rcases aD e with ⟨_, z⟩ | ⟨_, z⟩
  ·cases z
  ·exact R.fr j sd a z ho hs
 ap := fun j k sd te a e1 e2 h1 h2 s1 s2 => by
  rcases aD e1 with ⟨_, z⟩ | ⟨_, z1⟩
  ·cases z
  ·rcases aD e2 with ⟨_, z⟩ | ⟨_, z2⟩
   ·cases z
   ·exact R.ap j k sd te a z1 z2 h1 h2 s1 s2
theorem fV {α : Type} {l : List α} {i : Nat} {x : α} (h : l[i]? = some x) : l.set i x = l := by
 apply List.ext_getElem?
 intro j
 by_cases z : i = j
 ·subst z
  rw [List.getElem?_set_self (List.getElem?_eq_some_iff.mp h).1, h]
 ·rw [List.getElem?_set_ne z]
theorem Rel.at_ (R : Rel K mg G0 H0 G H σ δ) (e : δ[i]? = some (some r)) : ∃ v, σ[i]? = some (some v) /\ RR K mg H0 G H σ (δ.set i none) v r := by
 obtain ⟨v, h1, h2⟩ := R.sl i r e
 refine ⟨v, h1, h2, fun ho a ea => ⟨R.fr i r a e ho (ea ▸ h1), fun j sd q hs z => ?_⟩⟩
 rcases aD q with ⟨_, y⟩ | ⟨hj, y⟩
 ·cases y
 ·exact hj (R.ap i j r sd a e y ho hs (ea ▸ h1) z).symm
theorem Rel.share {d : PyData} (R : Rel K mg G0 H0 G H σ δ) (e : δ[i]? = some (some r)) (ed : r.toSh = some d) : ∃ G' v, Rel K mg G0 H0 G' H σ (δ.set i (some (.sh d))) /\ Same G G' /\ σ[i]? = some (some v) /\ Dt K G' v d := by
 obtain ⟨v, h1, h2⟩ := R.at_ e
 obtain ⟨G', R', s, hd⟩ := h2.share (R.forget i) ed
 have hi : i < σ.length := (List.getElem?_eq_some_iff.mp h1).1
 have R2 := R'.store hi (r := .sh d) (v := v) (RR.sh hd)
 rw [fV h1, List.set_set] at R2
 exact ⟨G', v, R2, s, h1, hd⟩
theorem Rel.write (R : Rel K mg G0 H0 G H σ δ) (e : δ[i]? = some (some r)) (ho : r.owned) (hs : σ[i]? = some (some (.ref a))) {r' : SD} (hr : VR K mg G (upd H a o) (.ref a) r') (hm : Mut (H a)) (hx : ∀ C, H a ≠ some (excO a C)) : Rel K mg G0 H0 G (upd H a o) σ (δ.set i (some r')) where
 g := by
  have h0 := R.fr i r a e ho hs
  have hG := (R.own_ne e ho hs).1
  have kin : (∃ xs, H a = some (.lst xs)) \/ (∃ xs, H a = some (.dK xs)) := by
   obtain ⟨v, h1, h2⟩ := R.sl i r e
   rw [hs] at h1
   cases h1
   cases r with
   | sh d => exact ho.elim
   | ol ds => obtain ⟨b, xs, e1, _, e2, _⟩ := h2; cases e1; exact .inl ⟨_, e2⟩
   | od ds => obtain ⟨b, xs, e1, _, e2, _⟩ := h2; cases e1; exact .inr ⟨_, e2⟩
   | ex x => exact ho.elim
  have nT : ∀ {b : Addr} {u : HO}, H b = some u -> ((∃ ps, u = .tbl ps) \/ (∃ φ, u = .ext φ)) -> b ≠ a := fun {b u} q z w => by
   subst w
   rcases kin with ⟨xs, k⟩ | ⟨xs, k⟩
   ·rw [k] at q; cases q; rcases z with ⟨_, z⟩ | ⟨_, z⟩ <;> cases z
   ·rw [k] at q; cases q; rcases z with ⟨_, z⟩ | ⟨_, z⟩ <;> cases z
  refine ⟨⟨fun b u q n => ?_, fun b q => ?_, fun t P hP => ?_⟩, R.g.gg, fun b u q => ?_, R.g.nb, R.g.nt⟩
  ·rw [ag (aq q h0)]; exact R.g.hh.at_ b u q n
  ·rw [ag (fun z => q (by rw [z]; exact h0))]; exact R.g.hh.nn b q
  ·obtain ⟨ps, e1, t1, t2⟩ := R.g.hh.ok t P hP
   refine ⟨ps, (ag (nT e1 (.inl ⟨_, rfl⟩))).trans e1, t1, fun pos c hc => ?_⟩
   obtain ⟨c', e2, e3⟩ := t2 pos c hc
   exact ⟨c', e2, (ag (nT e3 (.inr ⟨_, rfl⟩))).trans e3⟩
  ·rw [ag (aq q hG)]; exact R.g.gh b u q
 tb := R.tb
 n0 := R.n0
 len := by rw [List.length_set]; exact R.len
 sl := fun j sd q => by
  rcases aD q with ⟨rfl, z⟩ | ⟨hj, q⟩
  ·cases z
   exact ⟨_, hs, hr⟩
  ·obtain ⟨v, h1, h2⟩ := R.sl j sd q
   refine ⟨v, h1, ?_⟩
   have ne : ∀ b, sd.owned -> v = .ref b -> b ≠ a := fun b hb ev z => by
    subst ev z
    exact hj (R.ap i j r sd b e q ho hb hs h1).symm
   cases sd with
   | sh d => exact h2
   | ol ds =>
    obtain ⟨b, xs, rfl, q1, q2, q3⟩ := h2
    exact ⟨b, xs, rfl, q1, (ag (ne b trivial rfl)).trans q2, q3⟩
   | od ds =>
    obtain ⟨b, xs, rfl, q1, q2, q3⟩ := h2
    exact ⟨b, xs, rfl, q1, (ag (ne b trivial rfl)).trans q2, q3⟩
   | ex x =>
    obtain ⟨b, C, rfl, q1, q2⟩ := h2
    exact ⟨b, C, rfl, q1, (ag fun z => hx C (by rw [<- z]; exact q2)).trans q2⟩
 fr := fun j sd b q hb hs' => by
  rcases aD q with ⟨rfl, _⟩ | ⟨_, q⟩
  ·rw [hs] at hs'
   cases hs'
   exact R.fr _ r _ e ho hs
  ·exact R.fr j sd b q hb hs'
 ap := fun j k sd te b q1 q2 h1 h2 s1 s2 => by
  rcases aD q1 with ⟨z1, _⟩ | ⟨z1, y1⟩
  ·rcases aD q2 with ⟨z2, _⟩ | ⟨z2, y2⟩
   ·rw [z1, z2]
   ·rw [z1] at s1
    rw [z1]
    exact R.ap i k r te b e y2 ho h2 s1 s2
  ·rcases aD q2 with ⟨z2, _⟩ | ⟨z2, y2⟩
   ·rw [z2] at s2
    rw [z2]
    exact R.ap j i sd r b y1 e h1 ho s1 s2
   ·exact R.ap j k sd te b y1 y2 h1 h2 s1 s2
theorem Rel.tabs (R : Rel K mg G0 H0 G H σ δ) : DW H := R.g.hh.ok R.tb
theorem Rel.noT (R : Rel K mg G0 H0 G H σ δ) : NoT G := R.g.nt R.n0
end
section
variable (K : W.Frag) (mg : Cu) (E : XK)
abbrev DE := DEnv -> Out (SD × DEnv)
abbrev DD := DEnv -> Out (PyData × DEnv)
abbrev DA := DEnv -> Out (Ct × DEnv)
abbrev DT := DEnv -> Out (Bool × DEnv)
noncomputable def PoX (H0 : Hp) (x : Str) : Prop := ∀ H' C, DI H0 H' -> mg x = some C -> E C none H'
noncomputable def PoE (G0 H0 G : Hp) (σ : St) (Q : VK) : Out (SD × DEnv) -> Prop
 | .ok p => ∀ v H' G', Rel K mg G0 H0 G' H' σ p.2 -> Same G G' -> RR K mg H0 G' H' σ p.2 v p.1 -> Q v H'
 | .exc x => PoX mg E H0 x
 | .bad => False
noncomputable def tE (f : DE) : TE := fun σ H Q => ∃ G0 H0 G δ, Rel K mg G0 H0 G H σ δ /\ PoE K mg E G0 H0 G σ Q (f δ)
noncomputable def PoD (G0 H0 G : Hp) (σ : St) (Q : VK) : Out (PyData × DEnv) -> Prop
 | .ok p => ∀ v H' G', Rel K mg G0 H0 G' H' σ p.2 -> Same G G' -> Dt K G' v p.1 -> Q v H'
 | .exc x => PoX mg E H0 x
 | .bad => False
noncomputable def PoA (G0 H0 G : Hp) (σ : St) (Q : List V -> Hp -> Prop) : Out (Ct × DEnv) -> Prop
 | .ok p => ∀ vs H' G', Rel K mg G0 H0 G' H' σ p.2 -> Same G G' -> Dts K G' vs p.1 -> Q vs H'
 | .exc x => PoX mg E H0 x
 | .bad => False
noncomputable def tA (f : DA) : TA := fun σ H Q => ∃ G0 H0 G δ, Rel K mg G0 H0 G H σ δ /\ PoA K mg E G0 H0 G σ Q (f δ)
noncomputable def PoT (G0 H0 G : Hp) (σ : St) (Q : Bool -> Hp -> Prop) : Out (Bool × DEnv) -> Prop
 | .ok p => ∀ H' G', Rel K mg G0 H0 G' H' σ p.2 -> Same G G' -> Q p.1 H'
 | .exc x => PoX mg E H0 x
 | .bad => False
noncomputable def tT (f : DT) : TT := fun σ H Q => ∃ G0 H0 G δ, Rel K mg G0 H0 G H σ δ /\ PoT K mg E G0 H0 G σ Q (f δ)
end
noncomputable def vE (f : DE) : DD := fun δ => (f δ).bind fun p => match p.1.toSh with
 | some d => .ok (d, p.2)
 | none => .bad
section
variable {X : Cx}
theorem PE.weak {e : Expr} {t t' : TE} (h : PE X e t) (k : ∀ σ H Q, t' σ H Q -> t σ H Q) : PE X e t' := fun pins s σ H Q I q => h pins s σ H Q I (k σ H Q q)
theorem PT.weak {e : Expr} {t t' : TT} (h : PT X e t) (k : ∀ σ H Q, t' σ H Q -> t σ H Q) : PT X e t' := fun pins s σ H Q I q => h pins s σ H Q I (k σ H Q q)
theorem PW.weak {e : Expr} {t t' : TT} (h : PW X e t) (k : ∀ σ H Q, t' σ H Q -> t σ H Q) : PW X e t' := fun wh pins s σ H Q I q => h wh pins s σ H Q I (k σ H Q q)
theorem PS.weak {e : Stmt} {t t' : TS} (h : PS X e t) (k : ∀ D σ H, t' D σ H -> t D σ H) : PS X e t' := fun pins s σ H D I q => h pins s σ H D I (k D σ H q)
theorem PSs.weak {e : List Stmt} {t t' : TS} (h : PSs X e t) (k : ∀ D σ H, t' D σ H -> t D σ H) : PSs X e t' := fun pins s σ H D I q => h pins s σ H D I (k D σ H q)
theorem PI.weak {tg e : Expr} {t t' : TI} (h : PI X tg e t) (k : ∀ σ H Q, t' σ H Q -> t σ H Q) : PI X tg e t' := fun pins s σ H Q I q => h pins s σ H Q I (k σ H Q q)
end
section
variable {K : W.Frag} {mg : Cu} {E : XK} {G0 H0 G H : Hp} {σ : St} {δ : DEnv}
theorem p7 {f : DE} {Q : VK} (R : Rel K mg G0 H0 G H σ δ) (h : PoD K mg E G0 H0 G σ Q (vE f δ)) : tE K mg E f σ H Q := by
 refine ⟨G0, H0, G, δ, R, ?_⟩
 unfold vE at h
 cases e : f δ with
 | ok p =>
  rw [e, Out.bind_ok] at h
  intro v H' G' R' s rr
  cases e2 : p.1.toSh with
  | none => rw [e2] at h; exact h.elim
  | some d =>
   rw [e2] at h
   obtain ⟨G2, R2, s2, hd⟩ := rr.share R' e2
   exact h v H' G2 R2 (s.trans s2) hd
 | exc x => rw [e] at h; exact h
 | bad => rw [e] at h; exact h
end
abbrev SE (X : Cx) (E : XK) (e : Expr) (f : DE) : Prop := PE X e (tE X.K X.mg E f)
abbrev ST (X : Cx) (E : XK) (e : Expr) (f : DT) : Prop := PT X e (tT X.K X.mg E f)
mutual
noncomputable def CI : PyData -> Bool
 | .list _ => false
 | .dict _ => false
 | .tuple ds => CA ds
 | _ => true
noncomputable def CA : Ct -> Bool
 | [] => true
 | d :: ds => CI d && CA ds
end
noncomputable def SD.pure : SD -> Bool
 | .sh d => CI d
 | .ol ds => CA ds
 | .od es => CA (es.map (·.2))
 | .ex _ => false
noncomputable def hid (l : List Addr) (G : Hp) : Hp := fun b => if b ∈ l then none else G b
noncomputable def Muts (l : List Addr) (G : Hp) : Prop := ∀ b ∈ l, (∃ xs, G b = some (.lst xs)) \/ ∃ kvs, G b = some (.dK kvs)
theorem vG {l : List Addr} {G : Hp} {a : Addr} {xs : List V} (hl : Muts l G) (h : TuT G a xs) : TuT (hid l G) a xs := by
 unfold TuT hid
 rw [if_neg]
 ·exact h
 ·intro z
  rcases hl a z with ⟨xs, q⟩ | ⟨kvs, q⟩
  ·rw [h] at q; cases q
  ·rw [h] at q; cases q
section
variable {K : W.Frag} {l : List Addr} {G : Hp}
mutual
theorem Dt.hid (hl : Muts l G) : ∀ {v : V} {d : PyData}, Dt K G v d -> CI d = true -> Dt K (hid l G) v d
 | _, _, .non, _ => .non
 | _, _, .bl b, _ => .bl b
 | _, _, .int i, _ => .int i
 | _, _, .str x, _ => .str x
 | _, _, .lst q r, h => by exact absurd h (by simp [CI])
 | _, _, .tup q r, h => .tup (vG hl q) (Dts.hid hl r (by simpa [CI] using h))
 | _, _, .dct q r, h => by exact absurd h (by simp [CI])
theorem Dts.hid (hl : Muts l G) : ∀ {vs : List V} {ds : Ct}, Dts K G vs ds -> CA ds = true -> Dts K (hid l G) vs ds
 | _, _, .nil, _ => .nil
 | _, _, .cons x r, h => by
  have h' := Bool.and_eq_true_iff.mp (by simpa [CA] using h)
  exact .cons (Dt.hid hl x h'.1) (Dts.hid hl r h'.2)
end
theorem Des.hid (hl : Muts l G) : ∀ {vs : List (Key × V)} {ds : List (PyData × PyData)}, Des K G vs ds -> CA (ds.map (·.2)) = true -> Des K (hid l G) vs ds
 | _, _, .nil, _ => .nil
 | _, _, .cons x r, h => by
  have h' := Bool.and_eq_true_iff.mp (by simpa [CA] using h)
  exact .cons (Dt.hid hl x h'.1) (Des.hid hl r (by simpa using h'.2))
end
inductive Opd where
 | nm (i : Nat)
 | ex (f : DE)
noncomputable def Du (i : Nat) (δ : DEnv) : DEnv := match δ[i]? with
 | some (some (.ol ds)) => δ.set i (some (.sh (.list ds)))
 | some (some (.od es)) => δ.set i (some (.sh (.dict es)))
 | _ => δ
noncomputable def CD : List Nat -> DEnv -> DEnv
 | [], δ => δ
 | i :: r, δ => CD r (Du i δ)
section
variable {K : W.Frag} {mg : Cu} {G0 H0 G H : Hp} {σ : St} {δ : DEnv}
structure Lent (G G1 : Hp) (l : List Addr) : Prop where
 ext : Same G G1
 mu : Muts l G1
 new : ∀ b ∈ l, G b = none
 old : ∀ b, b ∉ l -> G1 b = G b
theorem Lent.refl : Lent G G [] := ⟨.refl _, fun b h => absurd h (by simp), fun b h => absurd h (by simp), fun _ _ => rfl⟩
theorem Lent.trans {G1 G2 : Hp} {l1 l2 : List Addr} (a : Lent G G1 l1) (b : Lent G1 G2 l2) : Lent G G2 (l1 ++ l2) where
 ext := a.ext.trans b.ext
 mu := fun c h => by
  rcases List.mem_append.mp h with z | z
  ·rcases a.mu c z with ⟨xs, q⟩ | ⟨xs, q⟩
   ·exact .inl ⟨xs, b.ext _ _ q⟩
   ·exact .inr ⟨xs, b.ext _ _ q⟩
  ·exact b.mu c z
 new := fun c h => by
  rcases List.mem_append.mp h with z | z
  ·exact a.new c z
  ·exact a.ext.free (b.new c z)
 old := fun c h => by
  have h1 : c ∉ l1 := fun z => h (List.mem_append_left _ z)
  have h2 : c ∉ l2 := fun z => h (List.mem_append_right _ z)
  rw [b.old c h2, a.old c h1]
theorem Rel.rel1 (R : Rel K mg G0 H0 G H σ δ) (i : Nat) : ∃ G1 l, Rel K mg G0 H0 G1 H σ (Du i δ) /\ Lent G G1 l := by
 unfold Du
 split
 next ds e =>
  obtain ⟨v, h1, ⟨a, xs, rfl, q1, q2, q3⟩, hf⟩ := R.at_ e
  obtain ⟨f1, f2⟩ := hf trivial a rfl
  have hi : i < σ.length := (List.getElem?_eq_some_iff.mp h1).1
  have R2 := ((R.forget i).pub q1 q2 f1 f2).store hi (r := .sh (.list ds)) (v := .ref a) (RR.sh (.lst (.of ao) (q3.mono (aA q1))))
  rw [fV h1, List.set_set] at R2
  refine ⟨_, [a], R2, aA q1, fun b hb => ?_, fun b hb => ?_, fun b hb => ag fun z => hb (by simp [z])⟩
  ·have : b = a := by simpa using hb
   subst this
   exact .inl ⟨xs, ao⟩
  ·have : b = a := by simpa using hb
   subst this
   exact q1
 next ds e =>
  obtain ⟨v, h1, ⟨a, xs, rfl, q1, q2, q3⟩, hf⟩ := R.at_ e
  obtain ⟨f1, f2⟩ := hf trivial a rfl
  have hi : i < σ.length := (List.getElem?_eq_some_iff.mp h1).1
  have R2 := ((R.forget i).pub q1 q2 f1 f2).store hi (r := .sh (.dict ds)) (v := .ref a) (RR.sh (.dct ao (q3.mono (aA q1))))
  rw [fV h1, List.set_set] at R2
  refine ⟨_, [a], R2, aA q1, fun b hb => ?_, fun b hb => ?_, fun b hb => ag fun z => hb (by simp [z])⟩
  ·have : b = a := by simpa using hb
   subst this
   exact .inr ⟨xs, ao⟩
  ·have : b = a := by simpa using hb
   subst this
   exact q1
 next => exact ⟨G, [], R, .refl⟩
theorem Rel.relA : ∀ (is : List Nat) {G : Hp} {δ : DEnv}, Rel K mg G0 H0 G H σ δ -> ∃ G1 l, Rel K mg G0 H0 G1 H σ (CD is δ) /\ Lent G G1 l
 | [], G, δ, R => ⟨G, [], R, .refl⟩
 | i :: r, G, δ, R => by
  obtain ⟨G1, l1, R1, L1⟩ := R.rel1 i
  obtain ⟨G2, l2, R2, L2⟩ := Rel.relA r R1
  exact ⟨G2, _, R2, L1.trans L2⟩
theorem Lent.back {G1 G' H' : Hp} {l : List Addr} {v : V} {r : SD} (L : Lent G G1 l) (R : Rel K mg G0 H0 G H σ δ) (R1 : Same G1 H) (g : Grow G1 H G' H') (n : VN K mg H G' H' v r) (hp : r.pure = true) :
  ∃ G2, Grow G H G2 H' /\ VN K mg H G2 H' v r := by
 have mu : Muts l G' := fun b hb => by
  rcases L.mu b hb with ⟨xs, q⟩ | ⟨xs, q⟩
  ·exact .inl ⟨xs, g.gg _ _ q⟩
  ·exact .inr ⟨xs, g.gg _ _ q⟩
 have nl : ∀ b ∈ l, H b ≠ none := fun b hb => by
  rcases L.mu b hb with ⟨xs, q⟩ | ⟨xs, q⟩
  ·rw [R1 _ _ q]; simp
  ·rw [R1 _ _ q]; simp
 refine ⟨hid l G', ⟨g.hh, fun b o e => ?_, fun b o e => ?_, fun b hb => ?_, fun nt b ps z => ?_⟩, ?_, n.2⟩
 ·unfold hid
  rw [if_neg fun z => by rw [L.new b z] at e; cases e]
  exact g.gg _ _ (L.ext _ _ e)
 ·unfold hid at e
  split at e
  ·cases e
  ·exact g.gh _ _ e
 ·unfold hid
  split
  next z => exact (L.new b z).symm
  next z => rw [g.nb b hb, L.old b z]
 ·have n1 : NoT G1 := fun c qs y => by
   by_cases hc : c ∈ l
   ·rcases L.mu c hc with ⟨xs, q⟩ | ⟨xs, q⟩ <;> (rw [y] at q; cases q)
   ·rw [L.old c hc] at y; exact nt c qs y
  unfold hid at z
  split at z
  ·cases z
  ·exact g.nt n1 b ps z
 ·cases r with
  | sh d => exact Dt.hid mu n.1 hp
  | ol ds =>
   obtain ⟨a, xs, rfl, h1, h2, h3⟩ := n.1
   exact ⟨a, xs, rfl, by unfold hid; split <;> first | rfl | exact h1, h2, h3.hid mu hp⟩
  | od ds =>
   obtain ⟨a, xs, rfl, h1, h2, h3⟩ := n.1
   exact ⟨a, xs, rfl, by unfold hid; split <;> first | rfl | exact h1, h2, h3.hid mu hp⟩
  | ex x => cases hp
end
noncomputable def fin2 (o : Option SD) (δ1 δ2 : DEnv) : Out (SD × DEnv) := match o with
 | some r => .ok (r, if r.pure = true then δ1 else δ2)
 | none => .bad
noncomputable def evO : List Opd -> DEnv -> Out (List (Sum PyData Nat) × DEnv)
 | [], δ => .ok ([], δ)
 | .nm i :: r, δ => match δ[i]? with
  | some (some _) => (evO r δ).bind fun q => .ok (.inr i :: q.1, q.2)
  | _ => .bad
 | .ex f :: r, δ => (vE f δ).bind fun p => (evO r p.2).bind fun q => .ok (.inl p.1 :: q.1, q.2)
noncomputable def CQ : List (Sum PyData Nat) -> List Nat
 | [] => []
 | .inl _ :: r => CQ r
 | .inr i :: r => i :: CQ r
noncomputable def EZ (δ : DEnv) (i : Nat) : Option PyData := match δ[i]? with
 | some (some (.sh d)) => some d
 | _ => none
noncomputable def Do (δ : DEnv) : List (Sum PyData Nat) -> Option Ct
 | [] => some []
 | .inl d :: r => (Do δ r).map (d :: ·)
 | .inr i :: r => (EZ δ i).bind fun d => (Do δ r).map (d :: ·)
noncomputable def opds (ops : List Opd) (δ : DEnv) : Out (Ct × DEnv × DEnv) := (evO ops δ).bind fun p =>
 match Do (CD (CQ p.1) p.2) p.1 with
 | some ds => .ok (ds, p.2, CD (CQ p.1) p.2)
 | none => .bad
noncomputable def eOp (o : Ct -> Option SD) (ops : List Opd) : DE := fun δ => (opds ops δ).bind fun p => fin2 (o p.1) p.2.1 p.2.2
section
variable (K : W.Frag) (mg : Cu) (E : XK)
noncomputable def tO : Opd -> TE
 | .nm i => tVar i
 | .ex f => tE K mg E f
noncomputable def tOs : List Opd -> TA
 | [] => tNil
 | o :: r => D8 (tO K mg E o) (tOs r)
inductive OV (G : Hp) (σ : St) : List V -> List (Sum PyData Nat) -> Prop
 | nil : OV G σ [] []
 | dat {v : V} {d : PyData} {vs : List V} {r : List (Sum PyData Nat)} : Dt K G v d -> OV G σ vs r -> OV G σ (v :: vs) (.inl d :: r)
 | nam {v : V} {i : Nat} {vs : List V} {r : List (Sum PyData Nat)} : σ[i]? = some (some v) -> OV G σ vs r -> OV G σ (v :: vs) (.inr i :: r)
end
section
variable {K : W.Frag} {mg : Cu} {E : XK} {G0 H0 G H : Hp} {σ : St} {δ : DEnv}
theorem OV.mono {G' : Hp} (s : Same G G') : ∀ {vs : List V} {r : List (Sum PyData Nat)}, OV K G σ vs r -> OV K G' σ vs r
 | _, _, .nil => .nil
 | _, _, .dat h t => .dat (h.mono s) (OV.mono s t)
 | _, _, .nam h t => .nam h (OV.mono s t)
theorem OV.view (R : Rel K mg G0 H0 G H σ δ) : ∀ {vs : List V} {r : List (Sum PyData Nat)} {ds : Ct}, OV K G σ vs r -> Do δ r = some ds -> Dts K G vs ds
 | _, _, _, .nil, e => by cases e; exact .nil
 | _, _, _, .dat (r := r) h t, e => by
  simp only [Do, Option.map_eq_some_iff] at e
  obtain ⟨ds', e1, rfl⟩ := e
  exact .cons h (OV.view R t e1)
 | _, _, _, .nam (i := i) (v := v) h t, e => by
  simp only [Do, Option.bind_eq_some_iff, Option.map_eq_some_iff] at e
  obtain ⟨d, e1, ds', e2, rfl⟩ := e
  refine .cons ?_ (OV.view R t e2)
  unfold EZ at e1
  split at e1
  next d' q =>
   cases e1
   obtain ⟨w, h1, h2⟩ := R.sl i _ q
   rw [h] at h1
   cases h1
   exact h2
  next => cases e1
theorem fW {P : List V -> Hp -> Prop} : ∀ (ops : List Opd) {G H : Hp} {δ : DEnv}, Rel K mg G0 H0 G H σ δ ->
  (match evO ops δ with
   | .ok p => ∀ vs H' G', Rel K mg G0 H0 G' H' σ p.2 -> Same G G' -> OV K G' σ vs p.1 -> P vs H'
   | .exc x => PoX mg E H0 x
   | .bad => False) -> tOs K mg E ops σ H P
 | [], G, H, δ, R, h => h [] H G R (.refl _) .nil
 | .nm i :: r, G, H, δ, R, h => by
  unfold evO at h
  split at h
  next p e =>
   split at e
   next sd q =>
    obtain ⟨v, hv, _⟩ := R.sl i _ q
    refine ⟨v, hv, fW (P := fun xs H2 => P (v :: xs) H2) r R ?_⟩
    cases e1 : evO r δ with
    | ok q1 =>
     rw [e1, Out.bind_ok] at e
     cases e
     exact fun vs H' G' R' s o => h (v :: vs) H' G' R' s (.nam hv o)
    | exc x => rw [e1] at e; cases e
    | bad => rw [e1] at e; cases e
   next => cases e
  next x e =>
   split at e
   next sd q =>
    obtain ⟨v, hv, _⟩ := R.sl i _ q
    refine ⟨v, hv, fW (P := fun xs H2 => P (v :: xs) H2) r R ?_⟩
    cases e1 : evO r δ with
    | ok q1 => rw [e1] at e; cases e
    | exc y => rw [e1] at e; cases e; exact h
    | bad => rw [e1] at e; cases e
   next => cases e
  next => exact h.elim
 | .ex f :: r, G, H, δ, R, h => by
  show tE K mg E f σ H fun x H1 => tOs K mg E r σ H1 fun xs H2 => P (x :: xs) H2
  refine p7 R ?_
  unfold evO at h
  cases e1 : vE f δ with
  | ok p =>
   rw [e1, Out.bind_ok] at h
   intro v H1 G1 R1 s1 hd
   refine fW (P := fun xs H2 => P (v :: xs) H2) r R1 ?_
   cases e2 : evO r p.2 with
   | ok q =>
    rw [e2, Out.bind_ok] at h
    exact fun vs H2 G2 R2 s2 o => h (v :: vs) H2 G2 R2 (s1.trans s2) (.dat (hd.mono s2) o)
   | exc x => rw [e2] at h; exact h
   | bad => rw [e2] at h; exact h
  | exc x => rw [e1] at h; exact h
  | bad => rw [e1] at h; exact h
end
noncomputable def CW (K : W.Frag) (mg : Cu) (o : Ct -> Option SD) (r : List V -> Hp -> VK -> Prop) : Prop :=
 ∀ (G H : Hp) (vs : List V) (ds : Ct) (res : SD) (Q : VK), Same G H -> Dts K G vs ds -> o ds = some res -> (∀ v H' G', Grow G H G' H' -> VN K mg H G' H' v res -> Q v H') -> r vs H Q
section
variable {K : W.Frag} {mg : Cu} {E : XK}
theorem ia {o : Ct -> Option SD} {r : List V -> Hp -> VK -> Prop} {ops : List Opd} {σ : St} {H : Hp} {Q : VK} (hs : CW K mg o r) (h : tE K mg E (eOp o ops) σ H Q) : tOs K mg E ops σ H fun vs H1 => r vs H1 Q := by
 obtain ⟨G0, H0, G, δ, R, m⟩ := h
 refine fW ops R ?_
 unfold eOp opds at m
 cases e1 : evO ops δ with
 | ok p =>
  rw [e1, Out.bind_ok] at m
  intro vs H1 G1 R1 s1 ov
  cases e2 : Do (CD (CQ p.1) p.2) p.1 with
  | none => rw [e2] at m; exact m.elim
  | some ds =>
   rw [e2, Out.bind_ok] at m
   cases e3 : o ds with
   | none => rw [e3] at m; exact m.elim
   | some res =>
    rw [e3] at m
    obtain ⟨G2, l, R2, L⟩ := R1.relA (CQ p.1)
    refine hs G2 H1 vs ds res Q R2.g.gh ((ov.mono L.ext).view R2 e2) e3 fun v H2 G3 gr vn => ?_
    by_cases hp : res.pure = true
    ·obtain ⟨G4, gr4, vn4⟩ := L.back R1 R2.g.gh gr vn hp
     have m' : PoE K mg E G0 H0 G σ Q (.ok (res, p.2)) := by simpa [fin2, hp] using m
     exact m' v H2 G4 (R1.grow gr4) (s1.trans gr4.gg) (RR.of_new R1 vn4)
    ·have m' : PoE K mg E G0 H0 G σ Q (.ok (res, CD (CQ p.1) p.2)) := by simpa [fin2, hp] using m
     exact m' v H2 G3 (R2.grow gr) ((s1.trans L.ext).trans gr.gg) (RR.of_new R2 vn)
 | exc x => rw [e1] at m; exact m
 | bad => rw [e1] at m; exact m
theorem nA {H G' H' : Hp} {v : V} {d : PyData} (h : Dt K G' v d) : VN K mg H G' H' v (.sh d) := ⟨h, fun z => z.elim⟩
theorem fX {G H : Hp} {p : Addr} {xs : List V} {ds : Ct} (hg : Same G H) (hp : H p = none) (h : Dts K G xs ds) : VN K mg H G (upd H p (.lst xs)) (.ref p) (.ol ds) :=
 ⟨⟨p, xs, rfl, hg.free hp, ao, h⟩, fun _ a e => by cases e; exact hp⟩
theorem zU {G H : Hp} {p : Addr} {xs : List (Key × V)} {ds : List (PyData × PyData)} (hg : Same G H) (hp : H p = none) (h : Des K G xs ds) : VN K mg H G (upd H p (.dK xs)) (.ref p) (.od ds) :=
 ⟨⟨p, xs, rfl, hg.free hp, ao, h⟩, fun _ a e => by cases e; exact hp⟩
theorem mf {G H : Hp} {p : Addr} {xs : List V} {ds : Ct} (hg : Same G H) (hp : H p = none) (h : Dts K G xs ds) : VN K mg H (upd G p (.tup xs)) (upd H p (.tup xs)) (.ref p) (.sh (.tuple ds)) :=
 nA (.tup ao (h.mono (aA (hg.free hp))))
theorem ans {G H : Hp} {Q : VK} {v : V} {d : PyData} (k : ∀ v H' G', Grow G H G' H' -> VN K mg H G' H' v (.sh d) -> Q v H') (hg : Same G H) (h : Dt K G v d) : Q v H := k v H G (.refl hg) (nA h)
end
abbrev SO (X : Cx) (E : XK) (e : Expr) (o : Opd) : Prop := PE X e (tO X.K X.mg E o)
noncomputable def SOs (X : Cx) (E : XK) : List Expr -> List Opd -> Prop
 | [], [] => True
 | e :: es, o :: os => SO X E e o /\ SOs X E es os
 | _, _ => False
section
variable {X : Cx} {E : XK} {a b e : Expr} {es : List Expr} {oa ob : Opd} {ops : List Opd} {f : DE} {pos : Pos}
theorem ae (i : Nat) {x : Str} (hN : X.N[i]? = some x := by rfl) (hv : Vis X.env.scope x := by first | exact Or.inl rfl | exact Or.inr (Or.inl rfl) | exact Or.inr (Or.inr rfl)) (hd : (x == ("__debug__" : Str)) = false := by decide)
  (hcd : (x == ("__classdict__" : Str)) = false := by decide) : SO X E (.Name x pos) (.nm i) := fO hN hv hd hcd
theorem ab (h : SE X E e f) : SO X E e (.ex f) := h
theorem aj : PA X [] (tOs X.K X.mg E []) := cE
theorem aa (he : SO X E e oa) (hr : PA X es (tOs X.K X.mg E ops)) (hs : starEach (e :: es) X.env = (false, eval e X.env) :: starEach es X.env := by rfl) : PA X (e :: es) (tOs X.K X.mg E (oa :: ops)) := aL he hr hs
noncomputable def l2 (r : R2) : List V -> Hp -> VK -> Prop := fun vs H Q => match vs with
 | [x, y] => r x y H Q
 | _ => False
noncomputable def l1 (r : V -> Hp -> VK -> Prop) : List V -> Hp -> VK -> Prop := fun vs H Q => match vs with
 | [x] => r x H Q
 | _ => False
theorem jD {op : Operator} {r : R2} {o : Ct -> Option SD} (ho : OpR X (binaryOp op) r) (hs : CW X.K X.mg o (l2 r)) (ha : SO X E a oa) (hb : SO X E b ob) : SE X E (.BinOp a op b pos) (eOp o [oa, ob]) :=
 (zN ho ha hb).weak fun _ _ _ h => ia hs h
theorem zV {op : UnaryOp} {r : V -> Hp -> VK -> Prop} {o : Ct -> Option SD} (ho : UnR X (unaryOp op) r) (hs : CW X.K X.mg o (l1 r)) (ha : SO X E a oa) : SE X E (.UnaryOp op a pos) (eOp o [oa]) :=
 (zO ho ha).weak fun _ _ _ h => ia hs h
theorem jE {op : CmpOp} {r : R2} {o : Ct -> Option SD} (ho : OpR X (compareOp op) r) (hs : CW X.K X.mg o (l2 r)) (ha : SO X E a oa) (hb : SO X E b ob) (hm : behindInMarks op b = false) : SE X E (.Compare a [op] [b] pos) (eOp o [oa, ob]) :=
 (vm ho ha hb hm).weak fun _ _ _ h => ia hs h
theorem zW {r : R2} {o : Ct -> Option SD} (hr : IxR X r) (hs : CW X.K X.mg o (l2 r)) (ha : SO X E a oa) (hb : SO X E b ob) (hp : EH b) : SE X E (.Subscript a b pos) (eOp o [oa, ob]) :=
 (nj hr ha hb hp).weak fun _ _ _ h => ia hs h
theorem dM {x : Str} {p : Pos} {id : String} {r : List V -> Hp -> VK -> Prop} {o : Ct -> Option SD} (hc : Di X (.builtin id) r) (hs : CW X.K X.mg o r) (hm : X.mg x = none) (hv : bootBuiltins x = some (.builtin id)) (ha : PA X (e :: es) (tOs X.K X.mg E ops)) (hg : Gl X x := by rfl)
  (hn : x ≠ "__name__" := by decide) (hdb : (x == ("__debug__" : Str)) = false := by decide) (hst : starEach (e :: es) X.env = (false, eval e X.env) :: starEach es X.env := by rfl) (hpl : (backTo pos (starEach es X.env)).any (·.1) = false := by rfl) :
  SE X E (.Call (.Name x p) (e :: es) [] pos) (eOp o ops) := (fQ hc hg hm hv ha hn hdb hst hpl).weak fun _ _ _ h => ia hs h
theorem nB {x : Str} {p : Pos} {T : String} {r : List V -> Hp -> VK -> Prop} {o : Ct -> Option SD} (hc : Di X (.type T) r) (hs : CW X.K X.mg o r) (hm : X.mg x = none) (hv : bootBuiltins x = some (.type T)) (ha : PA X (e :: es) (tOs X.K X.mg E ops)) (hg : Gl X x := by rfl)
  (hn : x ≠ "__name__" := by decide) (hdb : (x == ("__debug__" : Str)) = false := by decide) (hst : starEach (e :: es) X.env = (false, eval e X.env) :: starEach es X.env := by rfl) (hpl : (backTo pos (starEach es X.env)).any (·.1) = false := by rfl) :
  SE X E (.Call (.Name x p) (e :: es) [] pos) (eOp o ops) := (kZ hc hg hm hv ha hn hdb hst hpl).weak fun _ _ _ h => ia hs h
end
noncomputable def eC (d : PyData) : DE := fun δ => .ok (.sh d, δ)
noncomputable def eV (i : Nat) : DE := fun δ => match δ[i]? with
 | some (some (.sh d)) => .ok (.sh d, δ)
 | some (some (.ol ds)) => .ok (.sh (.list ds), δ.set i (some (.sh (.list ds))))
 | some (some (.od ds)) => .ok (.sh (.dict ds), δ.set i (some (.sh (.dict ds))))
 | _ => .bad
noncomputable def dTup (ds : Ct) : Option SD := if ds.length <= sizeLine then some (.sh (.tuple ds)) else none
noncomputable def dLst (ds : Ct) : Option SD := if ds.length <= sizeLine then some (.ol ds) else none
noncomputable def EI : DE := fun δ => .ok (.od [], δ)
section
variable {X : Cx} {E : XK} {pos : Pos} {es : List Expr} {ops : List Opd}
theorem ah {i : Int} {j : Nat} : SE X E (.Constant (.int i) j pos) (eC (.int i)) := iE.weak fun σ H Q ⟨G0, H0, G, δ, R, m⟩ => m _ H G R (.refl _) (RR.sh (.int i))
theorem cn {i : Bool} {j : Nat} : SE X E (.Constant (.bool i) j pos) (eC (.bool i)) := zL.weak fun σ H Q ⟨G0, H0, G, δ, R, m⟩ => m _ H G R (.refl _) (RR.sh (.bl i))
theorem fY {i : Str} {j : Nat} : SE X E (.Constant (.str i) j pos) (eC (.str i)) := xu.weak fun σ H Q ⟨G0, H0, G, δ, R, m⟩ => m _ H G R (.refl _) (RR.sh (.str i))
theorem jF {j : Nat} : SE X E (.Constant .none j pos) (eC .none) := xt.weak fun σ H Q ⟨G0, H0, G, δ, R, m⟩ => m _ H G R (.refl _) (RR.sh .non)
theorem w_V {K : W.Frag} {mg : Cu} {i : Nat} {σ : St} {H : Hp} {Q : VK} (h : tE K mg E (eV i) σ H Q) : tVar i σ H Q := by
 obtain ⟨G0, H0, G, δ, R, m⟩ := h
 unfold eV at m
 split at m
 next d e =>
  obtain ⟨v, h1, h2⟩ := R.sl i _ e
  exact ⟨v, h1, m v H G R (.refl _) (RR.sh h2)⟩
 next ds e =>
  obtain ⟨G', v, R', s, h1, hd⟩ := R.share e rfl
  exact ⟨v, h1, m v H G' R' s (RR.sh hd)⟩
 next ds e =>
  obtain ⟨G', v, R', s, h1, hd⟩ := R.share e rfl
  exact ⟨v, h1, m v H G' R' s (RR.sh hd)⟩
 next => exact m.elim
theorem eU (i : Nat) {x : Str} (hN : X.N[i]? = some x := by rfl) (hv : Vis X.env.scope x := by first | exact Or.inl rfl | exact Or.inr (Or.inl rfl) | exact Or.inr (Or.inr rfl)) (hd : (x == ("__debug__" : Str)) = false := by decide)
  (hcd : (x == ("__classdict__" : Str)) = false := by decide) : SE X E (.Name x pos) (eV i) := (fO hN hv hd hcd).weak fun _ _ _ h => w_V h
theorem vH {x : Str} {v : V} {u : Value} {d : PyData} (hm : X.mg x = some u) (r : RelV v u) (hd : ∀ G, Dt X.K G v d) (hg : Gl X x := by rfl) (hdb : (x == ("__debug__" : Str)) = false := by decide) : SE X E (.Name x pos) (eC d) :=
 (ve hg hm r hdb).weak fun σ H Q ⟨G0, H0, G, δ, R, m⟩ => m _ H G R (.refl _) (RR.sh (hd G))
theorem fq {k : Nat} (h : PA X es (tOs X.K X.mg E ops)) : SE X E (.Tuple es k pos) (eOp dTup ops) := (oY h).weak fun σ H Q q => by
 refine ia (r := fun xs H1 Q => xs.length <= sizeLine /\ ∀ p, H1 p = none -> Q (.ref p) (upd H1 p (.tup xs))) (fun G H vs ds res Q hg hd ho k => ?_) q
 unfold dTup at ho
 split at ho
 ·cases ho
  exact ⟨by rw [hd.len]; assumption, fun p hp => k _ _ _ (.laid hg hp) (mf hg hp hd)⟩
 ·cases ho
theorem bM (h : PA X es (tOs X.K X.mg E ops)) : SE X E (.List es pos) (eOp dLst ops) := (tj h).weak fun σ H Q q => by
 refine ia (r := fun xs H1 Q => xs.length <= sizeLine /\ ∀ p, H1 p = none -> Q (.ref p) (upd H1 p (.lst xs))) (fun G H vs ds res Q hg hd ho k => ?_) q
 unfold dLst at ho
 split at ho
 ·cases ho
  exact ⟨by rw [hd.len]; assumption, fun p hp => k _ _ _ (.laidO hg hp) (fX hg hp hd)⟩
 ·cases ho
theorem nC : SE X E (.Dict [] [] pos) EI := tH.weak fun σ H Q ⟨G0, H0, G, δ, R, m⟩ p hp =>
 m _ _ G (R.grow (.laidO R.g.gh hp)) (.refl _) (RR.of_new R (zU R.g.gh hp .nil))
end
end L2
namespace L2
open PySem PySem.Spec PyProof.Rows
variable [Tabs]
section
variable {K : W.Frag} {G : Hp}
theorem dts1 {vs : List V} {a : PyData} (h : Dts K G vs [a]) : ∃ x, vs = [x] /\ Dt K G x a := by
 cases h with
 | cons h1 t => cases t; exact ⟨_, rfl, h1⟩
theorem dts2 {vs : List V} {a b : PyData} (h : Dts K G vs [a, b]) : ∃ x y, vs = [x, y] /\ Dt K G x a /\ Dt K G y b := by
 cases h with
 | cons h1 t =>
  obtain ⟨y, rfl, h2⟩ := dts1 t
  exact ⟨_, y, rfl, h1, h2⟩
end
theorem Inv.lstR {X : Cx} {pins : Cv} {σ : St} {H : Hp} {s : Shared} {l : Addr} {xs : List V} (I : Inv X pins σ H s) (h : SqR X.K H l xs) :
  xs.length <= sizeLine /\ ∃ (its : List Value) (n : Nat), Vals xs its /\ xs.length = its.length /\ s.heap.get? l = some { cls := .type "list", data := .seq its.toArray n } := by
 rcases h with h | ⟨its, n, h1, h2, h3⟩
 ·obtain ⟨z, its, n, r, e⟩ := h.ok I.hok
  exact ⟨z, its, n, r, r.length, e⟩
 ·exact ⟨by rw [h3.length, Array.length_toList]; exact h2, its.toList, n, h3, h3.length, by simpa using I.kIn _ _ h1⟩
section
variable {X : Cx}
noncomputable def Fo (K : W.Frag) : R2 := fun x y H Q => ∃ l b xs zs, x = .ref l /\ y = .ref b /\ SqR K H l xs /\ SqR K H b zs /\ xs.length + zs.length <= sizeLine /\ ∀ p, H p = none -> Q (.ref p) (upd H p (.lst (xs ++ zs)))
theorem vI : OpR X (binaryOp .Add) (Fo X.K) := by
 intro pins s σ H x y v u Q I rx ry h
 obtain ⟨l, b, xs, zs, rfl, rfl, hH, hB, hz, q⟩ := h
 cases rx
 cases ry
 obtain ⟨z, its, n, r, hl, e⟩ := I.lstR hH
 obtain ⟨z2, its2, n2, r2, hl2, e2⟩ := I.lstR hB
 refine PySem.P.add_list e e2 ?_ (by rw [List.size_toArray, List.size_toArray]; lia)
 rw [show its.toArray ++ its2.toArray = (its ++ its2).toArray by simp]
 exact ⟨.ref _, _, I.lnew (t' := s.toks) (r.append r2) (by rw [List.length_append]; lia), rfl, q _ I.fresh⟩
noncomputable def Fp (K : W.Frag) : R2 := fun x y H Q => ∃ a b xs ys, x = .ref a /\ y = .ref b /\ SqT K H a xs /\ SqT K H b ys /\ xs.length + ys.length <= sizeLine /\
 (xs = [] -> Q (.ref b) H) /\ (xs ≠ [] -> ys = [] -> Q (.ref a) H) /\ (xs ≠ [] -> ys ≠ [] -> ∀ p, H p = none -> Q (.ref p) (upd H p (.tup (xs ++ ys))))
theorem vJ : OpR X (binaryOp .Add) (Fp X.K) := by
 intro pins s σ H x y v u Q I rx ry h
 obtain ⟨a, b, xs, ys, rfl, rfl, ha, hb, hz, q1, q2, q3⟩ := h
 by_cases hx : xs = []
 ·subst hx
  cases rx
  cases ry
  obtain ⟨its, r1, ⟨⟨c1, d1, dt1, sl1⟩, ho1, hc1, n1, hd1⟩, _⟩ := I.tuple ha
  obtain ⟨its2, r2, ⟨⟨c2, d2, dt2, sl2⟩, ho2, hc2, n2, hd2⟩, _⟩ := I.tuple hb
  simp only at hc1 hd1 hc2 hd2
  subst hc1 hd1 hc2 hd2
  have e : its = [] := r1.zero
  subst e
  exact concat_meets ⟨_, ho1, rfl⟩ ⟨_, ho2, rfl⟩ noFill_tuple_add seq_tuple_add PySem.F.slot_tuple_add PySem.F.entry_tuple_add (PySem.F.args_tuple_add_2 _ _) (tuple_addW0 a b #[] its2.toArray n1 n2 d1 d2 sl1 sl2 rfl) ⟨ho1, ho2, ⟨.ref b, H, I, rfl, q1 rfl⟩⟩
 ·exact vt pins s σ H _ _ v u Q I rx ry ⟨a, b, xs, ys, rfl, rfl, ha, hb, hx, hz, q2 hx, q3 hx⟩
noncomputable def F9 (K : W.Frag) : R2 := fun x y H Q => match x, y with
 | .int i, .int j => Q (.int (i + j)) H
 | .str i, .str j => i.length + j.length <= sizeLine /\ Q (.str (i ++ j)) H
 | x, y => Fo K x y H Q \/ Fp K x y H Q
theorem vK : OpR X (binaryOp .Add) (F9 X.K) := by
 intro pins s σ H x y v u Q I rx ry h
 unfold F9 at h
 split at h
 next i j => exact xH pins s σ H _ _ v u Q I rx ry ⟨i, j, rfl, rfl, h⟩
 next i j => exact oX pins s σ H _ _ v u Q I rx ry ⟨i, j, rfl, rfl, h.1, h.2⟩
 next =>
  rcases h with h | h
  ·exact vI pins s σ H _ _ v u Q I rx ry h
  ·exact vJ pins s σ H _ _ v u Q I rx ry h
end
noncomputable def dAdd : Ct -> Option SD
 | [.int i, .int j] => some (.sh (.int (i + j)))
 | [.str x, .str y] => if x.length + y.length <= sizeLine then some (.sh (.str (x ++ y))) else none
 | [.list xs, .list ys] => if xs.length + ys.length <= sizeLine then some (.ol (xs ++ ys)) else none
 | [.tuple xs, .tuple ys] => if xs.length + ys.length <= sizeLine then some (.sh (.tuple (xs ++ ys))) else none
 | _ => none
theorem Dts.nil_iff {K : W.Frag} {G : Hp} {vs : List V} {ds : Ct} (h : Dts K G vs ds) : vs = [] ↔ ds = [] := by
 cases h <;> simp
section
variable {K : W.Frag} {mg : Cu}
theorem zX : CW K mg dAdd (l2 (F9 K)) := by
 intro G H vs ds res Q hg hd ho k
 unfold dAdd at ho
 split at ho
 next i j =>
  cases ho
  obtain ⟨x, y, rfl, h1, h2⟩ := dts2 hd
  cases h1
  cases h2
  exact ans k hg (.int _)
 next x y =>
  split at ho
  next hz =>
   cases ho
   obtain ⟨x, y, rfl, h1, h2⟩ := dts2 hd
   cases h1
   cases h2
   exact ⟨hz, ans k hg (.str _)⟩
  next => cases ho
 next xs ys =>
  split at ho
  next hz =>
   cases ho
   obtain ⟨x, y, rfl, h1, h2⟩ := dts2 hd
   cases h1 with
   | lst q1 r1 =>
    cases h2 with
    | lst q2 r2 =>
     refine .inl ⟨_, _, _, _, rfl, rfl, hg.sqr q1, hg.sqr q2, by rw [r1.len, r2.len]; exact hz, fun p hp => ?_⟩
     exact k _ _ _ (.laidO hg hp) (fX hg hp (r1.append r2))
  next => cases ho
 next xs ys =>
  split at ho
  next hz =>
   cases ho
   obtain ⟨x, y, rfl, h1, h2⟩ := dts2 hd
   cases h1 with
   | tup q1 r1 =>
    cases h2 with
    | tup q2 r2 =>
     refine .inr ⟨_, _, _, _, rfl, rfl, hg.tup q1, hg.tup q2, by rw [r1.len, r2.len]; exact hz, fun e => ?_, fun e e2 => ?_, fun e e2 p hp => ?_⟩
     ·have e' := r1.nil_iff.mp e
      subst e'
      exact ans k hg (.tup q2 r2)
     ·have e' := r2.nil_iff.mp e2
      subst e'
      exact ans k hg (by rw [List.append_nil]; exact .tup q1 r1)
     ·exact k _ _ _ (.laid hg hp) (mf hg hp (r1.append r2))
  next => cases ho
 next => cases ho
end
section
variable {X : Cx} {E : XK} {a b e : Expr} {oa ob : Opd} {pos : Pos}
theorem bf (ha : SO X E a oa) (hb : SO X E b ob) : SE X E (.BinOp a .Add b pos) (eOp dAdd [oa, ob]) := jD vK zX ha hb
end
noncomputable def dI2 (C : Int -> Int -> Bool) (g : Int -> Int -> PyData) : Ct -> Option SD
 | [.int i, .int j] => if C i j = true then some (.sh (g i j)) else none
 | _ => none
theorem zY {K : W.Frag} {mg : Cu} {C : Int -> Int -> Bool} {D : Int -> Int -> Prop} {g : Int -> Int -> PyData} {gv : Int -> Int -> V} (hC : ∀ i j, C i j = true -> D i j) (hv : ∀ i j G, Dt K G (gv i j) (g i j)) : CW K mg (dI2 C g) (l2 (rI D gv)) := by
 intro G H vs ds res Q hg hd ho k
 unfold dI2 at ho
 split at ho
 next i j =>
  split at ho
  next hc =>
   cases ho
   obtain ⟨x, y, rfl, h1, h2⟩ := dts2 hd
   cases h1
   cases h2
   exact ⟨i, j, rfl, rfl, hC i j hc, ans k hg (hv i j G)⟩
  next => cases ho
 next => cases ho
noncomputable def dI0 (g : Int -> Int -> PyData) : Ct -> Option SD
 | [.int i, .int j] => some (.sh (g i j))
 | _ => none
theorem mh {K : W.Frag} {mg : Cu} {g : Int -> Int -> PyData} {gv : Int -> Int -> V} (hv : ∀ i j G, Dt K G (gv i j) (g i j)) : CW K mg (dI0 g) (l2 (rI0 gv)) := by
 intro G H vs ds res Q hg hd ho k
 unfold dI0 at ho
 split at ho
 next i j =>
  cases ho
  obtain ⟨x, y, rfl, h1, h2⟩ := dts2 hd
  cases h1
  cases h2
  exact ⟨i, j, rfl, rfl, ans k hg (hv i j G)⟩
 next => cases ho
noncomputable def dSub := dI0 fun i j => .int (i - j)
noncomputable def F0 := dI2 (fun i j => decide (0 < j /\ j < 1073741824)) fun i j => .int (i / j)
noncomputable def dMod := dI2 (fun i j => decide (0 < j)) fun i j => .int (i % j)
noncomputable def dLt := dI0 fun i j => .bool (decide (i < j))
noncomputable def dLe := dI0 fun i j => .bool (decide (i <= j))
noncomputable def dGt := dI0 fun i j => .bool (decide (j < i))
noncomputable def dGe := dI0 fun i j => .bool (decide (j <= i))
noncomputable def dNeg : Ct -> Option SD
 | [.int i] => some (.sh (.int (-i)))
 | _ => none
theorem zZ {K : W.Frag} {mg : Cu} : CW K mg dNeg (l1 (rU fun i => .int (-i))) := by
 intro G H vs ds res Q hg hd ho k
 unfold dNeg at ho
 split at ho
 next i =>
  cases ho
  obtain ⟨x, rfl, h1⟩ := dts1 hd
  cases h1
  exact ⟨i, rfl, ans k hg (.int _)⟩
 next => cases ho
section
variable {X : Cx} {E : XK} {a b e : Expr} {oa ob : Opd} {pos : Pos}
theorem iF (ha : SO X E a oa) (hb : SO X E b ob) : SE X E (.BinOp a .Sub b pos) (eOp dSub [oa, ob]) := jD xI (mh fun _ _ _ => .int _) ha hb
theorem vL (ha : SO X E a oa) (hb : SO X E b ob) : SE X E (.BinOp a .FloorDiv b pos) (eOp F0 [oa, ob]) := jD vj (zY (fun i j h => (of_decide_eq_true h : 0 < j /\ j < 1073741824)) fun _ _ _ => .int _) ha hb
theorem mi (ha : SO X E a oa) (hb : SO X E b ob) : SE X E (.BinOp a .Mod b pos) (eOp dMod [oa, ob]) := jD xK (zY (fun _ _ h => of_decide_eq_true h) fun _ _ _ => .int _) ha hb
theorem A0 (ha : SO X E a oa) (hb : SO X E b ob) : SE X E (.Compare a [.Lt] [b] pos) (eOp dLt [oa, ob]) := jE wL (mh fun _ _ _ => .bl _) ha hb (nomark _)
theorem A1 (ha : SO X E a oa) (hb : SO X E b ob) : SE X E (.Compare a [.LtE] [b] pos) (eOp dLe [oa, ob]) := jE wM (mh fun _ _ _ => .bl _) ha hb (nomark _)
theorem A2 (ha : SO X E a oa) (hb : SO X E b ob) : SE X E (.Compare a [.Gt] [b] pos) (eOp dGt [oa, ob]) := jE wN (mh fun _ _ _ => .bl _) ha hb (nomark _)
theorem A3 (ha : SO X E a oa) (hb : SO X E b ob) : SE X E (.Compare a [.GtE] [b] pos) (eOp dGe [oa, ob]) := jE wO (mh fun _ _ _ => .bl _) ha hb (nomark _)
theorem mj (ha : SO X E a oa) : SE X E (.UnaryOp .USub a pos) (eOp dNeg [oa]) := zV xM zZ ha
end
noncomputable def Fq (K : W.Frag) : R2 := fun x y H Q => ∃ l k xs, x = .ref l /\ y = .int k /\ SqR K H l xs /\ 0 <= k /\ k < 2 ^ 63 /\ xs.length * k.toNat <= sizeLine /\ ∀ p, H p = none -> Q (.ref p) (upd H p (.lst (List.replicate k.toNat xs).flatten))
section
variable {X : Cx}
theorem vM : OpR X (binaryOp .Mult) (Fq X.K) := by
 intro pins s σ H x y v u Q I rx ry h
 obtain ⟨l, k, xs, rfl, rfl, hH, h1, h2, hz, q⟩ := h
 cases rx
 obtain ⟨t, rfl⟩ := ry
 obtain ⟨z, its, n, r, hl, e⟩ := I.lstR hH
 have hlen : its.toArray.size * k.toNat <= sizeLine := by rw [List.size_toArray, <- hl]; exact hz
 have hcap : ¬ its.toArray.size * k.toNat > (2 ^ 63 - 1) / 8 := by
  have : (sizeLine : Nat) <= (2 ^ 63 - 1) / 8 := by decide
  lia
 have hfit : ¬ (!Builtin.List.listFitsIndex k) = true := by
  rw [fitsIndex_both (by lia) h2]
  exact Bool.false_ne_true
 have hlong : ¬ Builtin.List.listTooLong (its.toArray.size * k.toNat) = true := by
  rw [F5 hlen]
  exact Bool.false_ne_true
 have hnew : List.foldl (fun x1 x2 => x1 ++ x2) #[] (List.replicate (if its.toArray.isEmpty = true then 0 else k.toNat) its.toArray) = (List.replicate k.toNat its).flatten.toArray := by
  have f0 : ∀ m : Nat, List.foldl (fun x1 x2 => x1 ++ x2) #[] (List.replicate m its.toArray) = (List.replicate m its).flatten.toArray := fun m => by simpa using la its m []
  rw [f0]
  cases its with
  | nil => simp
  | cons a r' => rw [if_neg (by simp)]
 refine wpAny_binaryOp_repeat_ref (T := "list") (U := "int") (by decide) ⟨_, e, rfl⟩ (fun s' => typeIs_int s' k t) noFill_list_mul PySem.F.fills_int_mul PySem.F.slot_int_rmul repeat_list PySem.F.slot_int_index.lookup
  (call_meets PySem.F.slot_int_rmul (typeIs_int s k t) PySem.F.entry_int_rmul (PySem.F.args_int_rmul_2 _ _) (int___rmul___int_list k t l its.toArray n)
   ⟨e, rfl, ⟨_, e, rfl⟩, call_meets PySem.F.slot_list_mul ⟨_, e, rfl⟩ PySem.F.entry_list_mul (PySem.F.args_list_mul_2 _ _) (AutoListH.list___mul___list_int_3 l its.toArray n k t hfit hcap hlong) ⟨e, ?_⟩⟩)
 rw [hnew]
 exact ⟨.ref _, _, I.lnew (t' := s.toks) (r.rep k.toNat) (by rw [vx, Nat.mul_comm]; exact hz), rfl, q _ I.fresh⟩
noncomputable def Fs : R2 := fun x y H Q => ∃ z k, x = .str z /\ y = .int k /\ ((k = 0 /\ Q (.str Str.empty) H) \/ (k = 1 /\ Q (.str z) H))
theorem vN : OpR X (binaryOp .Mult) Fs := by
 intro pins s σ H x y v u Q I rx ry h
 obtain ⟨z, k, rfl, rfl, h⟩ := h
 obtain ⟨t, rfl⟩ := rx
 obtain ⟨t', rfl⟩ := ry
 rcases h with ⟨rfl, q⟩ | ⟨rfl, q⟩
 ·exact PySem.P.mul_str_none (by decide) (by decide) ⟨.str _, H, I.tok _, ⟨_, rfl⟩, q⟩
 ·refine PySem.P.mul_str (by decide) (fun _ h => by simp at h) (fun _ h => by simp at h) ?_
  rw [if_neg (by decide), if_pos (by simp)]
  exact ⟨.str z, H, I, ⟨_, rfl⟩, q⟩
noncomputable def Fb (K : W.Frag) : R2 := fun x y H Q => match x, y with
 | .int i, .int j => CMul i j /\ Q (.int (i * j)) H
 | x, y => Fq K x y H Q \/ Fs x y H Q
theorem vO : OpR X (binaryOp .Mult) (Fb X.K) := by
 intro pins s σ H x y v u Q I rx ry h
 unfold Fb at h
 split at h
 next i j => exact xJ pins s σ H _ _ v u Q I rx ry ⟨i, j, rfl, rfl, h⟩
 next =>
  rcases h with h | h
  ·exact vM pins s σ H _ _ v u Q I rx ry h
  ·exact vN pins s σ H _ _ v u Q I rx ry h
end
noncomputable def cMul (i j : Int) : Bool := decide ((-(2 ^ 64) < i /\ i < 2 ^ 64) \/ (-(2 ^ 64) < j /\ j < 2 ^ 64))
noncomputable def dMul : Ct -> Option SD
 | [.int i, .int j] => if cMul i j = true then some (.sh (.int (i * j))) else none
 | [.list xs, .int k] => if 0 <= k /\ k < 2 ^ 63 /\ xs.length * k.toNat <= sizeLine then some (.ol (List.replicate k.toNat xs).flatten) else none
 | [.str z, .int k] => if k = 0 then some (.sh (.str Str.empty)) else if k = 1 then some (.sh (.str z)) else none
 | _ => none
theorem A4 {K : W.Frag} {mg : Cu} : CW K mg dMul (l2 (Fb K)) := by
 intro G H vs ds res Q hg hd ho k
 unfold dMul at ho
 split at ho
 next i j =>
  split at ho
  next hc =>
   cases ho
   obtain ⟨x, y, rfl, h1, h2⟩ := dts2 hd
   cases h1
   cases h2
   exact ⟨(of_decide_eq_true hc : (-(2 ^ 64) < i /\ i < 2 ^ 64) \/ (-(2 ^ 64) < j /\ j < 2 ^ 64)), ans k hg (.int _)⟩
  next => cases ho
 next xs n =>
  split at ho
  next hc =>
   cases ho
   obtain ⟨x, y, rfl, h1, h2⟩ := dts2 hd
   cases h2
   cases h1 with
   | lst q1 r1 =>
    refine .inl ⟨_, n, _, rfl, rfl, hg.sqr q1, hc.1, hc.2.1, by rw [r1.len]; exact hc.2.2, fun p hp => ?_⟩
    exact k _ _ _ (.laidO hg hp) (fX hg hp (r1.reps _))
  next => cases ho
 next z n =>
  obtain ⟨x, y, rfl, h1, h2⟩ := dts2 hd
  cases h1
  cases h2
  split at ho
  next e => cases ho; exact .inr ⟨z, n, rfl, rfl, .inl ⟨e, ans k hg (.str _)⟩⟩
  next =>
   split at ho
   next e => cases ho; exact .inr ⟨z, n, rfl, rfl, .inr ⟨e, ans k hg (.str _)⟩⟩
   next => cases ho
 next => cases ho
noncomputable def dEqB : PyData -> PyData -> Option Bool
 | .int i, .int j => some (decide (i = j))
 | .bool i, .bool j => some (decide (i = j))
 | .str i, .str j => some (decide (i = j))
 | x, y => if SeqAt.shaped x = true /\ SeqAt.shaped y = true then some (PyData.eqv x y) else none
noncomputable def dEq : Ct -> Option SD
 | [x, y] => (dEqB x y).map fun b => .sh (.bool b)
 | _ => none
noncomputable def dNe : Ct -> Option SD
 | [x, y] => (dEqB x y).map fun b => .sh (.bool !b)
 | _ => none
theorem qA {K : W.Frag} {neg : Bool} {G H : Hp} {x y : V} {dx dy : PyData} {b : Bool} {Q : VK} (hg : Same G H) (h1 : Dt K G x dx) (h2 : Dt K G y dy) (e : dEqB dx dy = some b) (q : Q (.bl (if neg then !b else b)) H) : rEqM K neg x y H Q := by
 unfold dEqB at e
 split at e
 next i j => cases e; cases h1; cases h2; exact q
 next i j => cases e; cases h1; cases h2; exact q
 next i j => cases e; cases h1; cases h2; exact q
 next n1 n2 n3 =>
  split at e
  next hs =>
   cases e
   have h1' := h1.mono hg
   have h2' := h2.mono hg
   unfold rEqM
   split
   next i j => cases h1; cases h2; exact (n1 _ _ rfl rfl).elim
   next i j => cases h1; cases h2; exact (n2 _ _ rfl rfl).elim
   next i j => cases h1; cases h2; exact (n3 _ _ rfl rfl).elim
   next => exact ⟨dx, dy, h1', h2', hs.1, hs.2, q⟩
  next => cases e
theorem A5 {K : W.Frag} {mg : Cu} : CW K mg dEq (l2 (rEqM K false)) := by
 intro G H vs ds res Q hg hd ho k
 unfold dEq at ho
 split at ho
 next x y =>
  obtain ⟨b, e, rfl⟩ := Option.map_eq_some_iff.mp ho
  obtain ⟨v, u, rfl, h1, h2⟩ := dts2 hd
  exact qA hg h1 h2 e (ans k hg (.bl _))
 next => cases ho
theorem C3 {K : W.Frag} {mg : Cu} : CW K mg dNe (l2 (rEqM K true)) := by
 intro G H vs ds res Q hg hd ho k
 unfold dNe at ho
 split at ho
 next x y =>
  obtain ⟨b, e, rfl⟩ := Option.map_eq_some_iff.mp ho
  obtain ⟨v, u, rfl, h1, h2⟩ := dts2 hd
  exact qA hg h1 h2 e (ans k hg (.bl _))
 next => cases ho
noncomputable def CY : PyData -> Option Key
 | .int i => some (.inl i)
 | .str x => some (.inr x)
 | _ => none
theorem ft (k : Key) : CY (keyD k) = some k := by cases k <;> rfl
noncomputable def EF (es : List (PyData × PyData)) (k : Key) : Option PyData := (es.find? fun p => decide (CY p.1 = some k)).map (·.2)
noncomputable def EG : PyData -> PyData -> Option PyData
 | .list xs, .int i => atI xs i
 | .tuple xs, .int i => atI xs i
 | .dict es, k => (CY k).bind (EF es)
 | _, _ => none
noncomputable def dIdx : Ct -> Option SD
 | [x, y] => (EG x y).map .sh
 | _ => none
theorem Dts.atI {K : W.Frag} {G : Hp} {vs : List V} {ds : Ct} {i : Int} {d : PyData} (h : Dts K G vs ds) (e : L2.atI ds i = some d) : ∃ v, L2.atI vs i = some v /\ Dt K G v d := by
 unfold L2.atI at e ⊢
 rw [h.len]
 obtain ⟨j, e1, e2⟩ := Option.bind_eq_some_iff.mp e
 obtain ⟨v, h1, h2⟩ := h.get' e2
 exact ⟨v, by rw [e1]; exact h1, h2⟩
theorem Des.find {K : W.Frag} {G : Hp} {k : Key} : ∀ {kvs : List (Key × V)} {es : List (PyData × PyData)} {d : PyData}, Des K G kvs es -> EF es k = some d -> ∃ v, valV kvs k = some v /\ Dt K G v d
 | _, _, _, .nil, e => by cases e
 | _, _, d, .cons (k := j) (v := v) (d := d') x r, e => by
  unfold EF at e
  rw [List.find?_cons] at e
  by_cases hk : j = k
  ·subst hk
   simp only [ft, decide_true, if_true, Option.map_some, Option.some.injEq] at e
   subst e
   exact ⟨v, fR rfl, x⟩
  ·have : ¬ (CY (keyD j) = some k) := by rw [ft]; simpa using hk
   simp only [this, decide_false] at e
   obtain ⟨u, h1, h2⟩ := Des.find r e
   exact ⟨u, by rw [fT hk]; exact h1, h2⟩
theorem p8 {K : W.Frag} {G : Hp} {y : V} {dy : PyData} {k : Key} (h : Dt K G y dy) (e : CY dy = some k) : y = kV k := by
 cases h <;> simp [CY] at e <;> subst e <;> rfl
theorem A6 {K : W.Frag} {mg : Cu} : CW K mg dIdx (l2 (rIxA K)) := by
 intro G H vs ds res Q hg hd ho k
 unfold dIdx at ho
 split at ho
 next x y =>
  obtain ⟨d, e, rfl⟩ := Option.map_eq_some_iff.mp ho
  obtain ⟨v, u, rfl, h1, h2⟩ := dts2 hd
  unfold EG at e
  split at e
  next xs i =>
   cases h2
   cases h1 with
   | lst q1 r1 =>
    obtain ⟨w, e1, e2⟩ := r1.atI e
    exact .inl ⟨_, w, .inl (hg.sqr q1).sq, e1, ans k hg e2⟩
  next xs i =>
   cases h2
   cases h1 with
   | tup q1 r1 =>
    obtain ⟨w, e1, e2⟩ := r1.atI e
    exact .inl ⟨_, w, .inr (hg.tup q1), e1, ans k hg e2⟩
  next es y' =>
   obtain ⟨kk, e1, e2⟩ := Option.bind_eq_some_iff.mp e
   have := p8 h2 e1
   subst this
   cases h1 with
   | dct q1 r1 =>
    obtain ⟨w, e3, e4⟩ := r1.find e2
    exact .inr ⟨_, w, rfl, .inl ⟨_, kk, Rd.of (hg _ _ q1), rfl, e3.symm⟩, ans k hg e4⟩
  next => cases e
 next => cases ho
noncomputable def cutD (xs : Ct) (lo hi : Option Int) : Ct := (xs.drop (HT.sIx xs.length 0 lo)).take (HT.sIx xs.length xs.length hi - HT.sIx xs.length 0 lo)
theorem Dts.cut {K : W.Frag} {G : Hp} {vs : List V} {ds : Ct} (h : Dts K G vs ds) (lo hi : Option Int) : Dts K G (cutV vs lo hi) (cutD ds lo hi) := by
 unfold cutV cutD
 rw [h.len]
 exact (h.drop _).take _
section
variable {X : Cx} {E : XK} {a b e : Expr} {es : List Expr} {oa ob : Opd} {ops : List Opd} {pos : Pos}
theorem eB (ha : SO X E a oa) (hb : SO X E b ob) : SE X E (.BinOp a .Mult b pos) (eOp dMul [oa, ob]) := jD vO A4 ha hb
theorem j1 (hu : X.A.units + 64 < cLine) (ha : SO X E a oa) (hb : SO X E b ob) : SE X E (.Compare a [.Eq] [b] pos) (eOp dEq [oa, ob]) := jE (tM hu) A5 ha hb (nomark _)
theorem ax (hu : X.A.units + 64 < cLine) (ha : SO X E a oa) (hb : SO X E b ob) (hp : EH b := by intro _ _; rfl) : SE X E (.Subscript a b pos) (eOp dIdx [oa, ob]) := zW (C1 (by lia)) A6 ha hb hp
end
section
variable {X : Cx}
noncomputable def rSlS (K : W.Frag) : V -> Option Int -> Option Int -> Hp -> VK -> Prop := fun x lo hi H Q => ∃ a xs, x = .ref a /\ SqT K H a xs /\ (cutV xs lo hi = xs -> Q (.ref a) H) /\ ∀ p, H p = none -> Q (.ref p) (upd H p (.tup (cutV xs lo hi)))
theorem vP : SlR X (rSlS X.K) := by
 intro pins s σ H x v vl vu lo hi sl Q I rx hs pl pu h
 obtain ⟨a, xs, rfl, hx, q1, q2⟩ := h
 by_cases hw : HT.sIx xs.length 0 lo = 0 /\ HT.sIx xs.length xs.length hi = xs.length
 ·cases rx
  obtain ⟨its, r, ht, hz⟩ := I.tuple hx
  have hlen : its.toArray.size = xs.length := by rw [List.size_toArray]; exact r.length.symm
  refine ⟨"tuple", _, slot_tuple_getitem.lookup, ht.typeIs, ?_⟩
  refine HT.i8 ht hs pl pu (by rw [hlen]; exact hw) ⟨.ref a, H, I, rfl, q1 ?_⟩
  unfold cutV
  rw [hw.1, hw.2]
  simp
 ·exact xQ pins s σ H _ v vl vu lo hi sl Q I rx hs pl pu ⟨a, xs, rfl, hx, hw, q2⟩
noncomputable def rSlD (K : W.Frag) : V -> Option Int -> Option Int -> Hp -> VK -> Prop := fun x lo hi H Q => rSlL K x lo hi H Q \/ rSlS K x lo hi H Q
theorem A7 : SlR X (rSlD X.K) := vw.or vP
end
noncomputable def slD (x : PyData) (lo hi : Option Int) : Option SD := match x with
 | .list xs => some (.ol (cutD xs lo hi))
 | .tuple xs => some (.sh (.tuple (cutD xs lo hi)))
 | _ => none
theorem A8 {K : W.Frag} {mg : Cu} {G H : Hp} {x : V} {d : PyData} {lo hi : Option Int} {res : SD} {Q : VK} (hg : Same G H) (hd : Dt K G x d) (ho : slD d lo hi = some res)
  (k : ∀ v H' G', Grow G H G' H' -> VN K mg H G' H' v res -> Q v H') : rSlD K x lo hi H Q := by
 unfold slD at ho
 split at ho
 next xs =>
  cases ho
  cases hd with
  | lst q r => exact .inl ⟨_, _, rfl, (hg.sqr q).sq, fun p hp => k _ _ _ (.laidO hg hp) (fX hg hp (r.cut lo hi))⟩
 next xs =>
  cases ho
  cases hd with
  | tup q r =>
   refine .inr ⟨_, _, rfl, hg.tup q, fun e => ?_, fun p hp => k _ _ _ (.laid hg hp) (mf hg hp (r.cut lo hi))⟩
   have r' := r.cut lo hi
   rw [e] at r'
   exact ans k hg (.tup q r')
 next => cases ho
noncomputable def dSlL : Ct -> Option SD
 | [x, .int l] => slD x (some l) none
 | _ => none
noncomputable def dSlH : Ct -> Option SD
 | [x, .int h] => slD x none (some h)
 | _ => none
section
variable {X : Cx} {E : XK} {e l h : Expr} {oe ol oh : Opd} {pos p2 : Pos}
theorem xX (he : SO X E e oe) (hl : SO X E l ol) : SE X E (.Subscript e (.Slice (some l) none none p2) pos) (eOp dSlL [oe, ol]) :=
 (ni A7 he (qp hl) qo).weak fun σ H Q q => by
  refine ia (r := fun vs H1 Q => match vs with | [x, y] => ∃ i, y = .int i /\ rSlD X.K x (some i) none H1 Q | _ => False) (fun G H vs ds res Q hg hd ho k => ?_) q
  unfold dSlL at ho
  split at ho
  next x l =>
   obtain ⟨v, u, rfl, h1, h2⟩ := dts2 hd
   cases h2
   exact ⟨l, rfl, A8 hg h1 ho k⟩
  next => cases ho
theorem xY (he : SO X E e oe) (hl : SO X E h oh) : SE X E (.Subscript e (.Slice none (some h) none p2) pos) (eOp dSlH [oe, oh]) :=
 (ni A7 he qo (qp hl)).weak fun σ H Q q => by
  refine ia (r := fun vs H1 Q => match vs with | [x, y] => ∃ i, y = .int i /\ rSlD X.K x none (some i) H1 Q | _ => False) (fun G H vs ds res Q hg hd ho k => ?_) q
  unfold dSlH at ho
  split at ho
  next x l =>
   obtain ⟨v, u, rfl, h1, h2⟩ := dts2 hd
   cases h2
   exact ⟨l, rfl, A8 hg h1 ho k⟩
  next => cases ho
end
section
variable {X : Cx} {E : XK} {e k : Expr} {oe ok : Opd} {pos p2 : Pos}
end
noncomputable def dLen : Ct -> Option SD
 | [.list xs] => some (.sh (.int xs.length))
 | [.tuple xs] => some (.sh (.int xs.length))
 | [.dict es] => some (.sh (.int es.length))
 | _ => none
theorem Des.len {K : W.Frag} {G : Hp} : ∀ {kvs : List (Key × V)} {es : List (PyData × PyData)}, Des K G kvs es -> kvs.length = es.length
 | _, _, .nil => rfl
 | _, _, .cons _ r => by rw [List.length_cons, List.length_cons, Des.len r]
noncomputable def Ft (K : W.Frag) : List V -> Hp -> VK -> Prop := fun xs H Q => ∃ a n, xs = [.ref a] /\ ((∃ ys, SqL K H a ys /\ n = ys.length) \/ (∃ ys, SqT K H a ys /\ n = ys.length) \/ ∃ kvs, Rd H a (.dK kvs) /\ n = kvs.length) /\ Q (.int (n : Int)) H
theorem rF {X : Cx} : Di X (.builtin "len") (Ft X.K) := by
 intro pins s σ H xs us Q I r h
 obtain ⟨a, n, rfl, h, q⟩ := h
 rcases h with ⟨ys, h, rfl⟩ | ⟨ys, h, rfl⟩ | ⟨kvs, h, rfl⟩
 ·exact dw pins s σ H _ us Q I r ⟨a, ys, rfl, .inl h, q⟩
 ·exact dw pins s σ H _ us Q I r ⟨a, ys, rfl, .inr h, q⟩
 ·obtain ⟨u, rfl, ru⟩ := vals1 r
  cases ru
  exact zS I h fun t s' I' => ⟨.int kvs.length, H, I', ⟨t, rfl⟩, q⟩
theorem A9 {K : W.Frag} {mg : Cu} : CW K mg dLen (Ft K) := by
 intro G H vs ds res Q hg hd ho k
 unfold dLen at ho
 split at ho
 next xs =>
  cases ho
  obtain ⟨x, rfl, h1⟩ := dts1 hd
  cases h1 with
  | lst q r => exact ⟨_, _, rfl, .inl ⟨_, (hg.sqr q).sq, rfl⟩, by rw [r.len]; exact ans k hg (.int _)⟩
 next xs =>
  cases ho
  obtain ⟨x, rfl, h1⟩ := dts1 hd
  cases h1 with
  | tup q r => exact ⟨_, _, rfl, .inr (.inl ⟨_, hg.tup q, rfl⟩), by rw [r.len]; exact ans k hg (.int _)⟩
 next xs =>
  cases ho
  obtain ⟨x, rfl, h1⟩ := dts1 hd
  cases h1 with
  | dct q r => exact ⟨_, _, rfl, .inr (.inr ⟨_, Rd.of (hg _ _ q), rfl⟩), by rw [r.len]; exact ans k hg (.int _)⟩
 next => cases ho
noncomputable def dAbs : Ct -> Option SD
 | [.int i] => some (.sh (.int (if i < 0 then -i else i)))
 | _ => none
theorem Aa {K : W.Frag} {mg : Cu} : CW K mg dAbs (fun xs H Q => ∃ i, xs = [.int i] /\ Q (.int (if i < 0 then -i else i)) H) := by
 intro G H vs ds res Q hg hd ho k
 unfold dAbs at ho
 split at ho
 next i =>
  cases ho
  obtain ⟨x, rfl, h1⟩ := dts1 hd
  cases h1
  exact ⟨i, rfl, ans k hg (.int _)⟩
 next => cases ho
noncomputable def Ea : Ct -> Option SD
 | [.list xs] => some (.ol xs)
 | [.tuple xs] => some (.ol xs)
 | [.dict es] => some (.ol (es.map (·.1)))
 | _ => none
theorem Des.keys {K : W.Frag} {G : Hp} : ∀ {kvs : List (Key × V)} {es : List (PyData × PyData)}, Des K G kvs es -> Dts K G (kvs.map fun kv => kV kv.1) (es.map (·.1))
 | _, _, .nil => .nil
 | _, _, .cons (k := k) _ r => by
  rw [List.map_cons, List.map_cons]
  refine .cons ?_ (Des.keys r)
  cases k with
  | inl i => exact .int i
  | inr x => exact .str x
theorem nD {X : Cx} (hc : X.calm = true) : Di X (.type "list") (fun xs H Q => ∃ a kvs, xs = [.ref a] /\ Rd H a (.dK kvs) /\ ∀ p, H p = none -> Q (.ref p) (upd H p (.lst (kvs.map fun kv => kV kv.1)))) := by
 intro pins s σ H xs us Q I r h
 obtain ⟨a, kvs, rfl, ha, q⟩ := h
 obtain ⟨u, rfl, r1⟩ := vals1 r
 cases r1
 obtain ⟨hz, hsm, vs, kv, dd⟩ := (show D1 X.prog X.w H s.heap a (.dK kvs) from ha.ok I.hok)
 obtain ⟨od, es, ep, dr⟩ := dd
 have da : s.heap.DictAt (D3 X.prog X.w) a vs ep := ⟨od, es, dr⟩
 have hlen : kvs.length = vs.length := Paired.length kv
 refine W.kdl_call (W.kdl_dict hsm) (I.ok.hd hc) da (by lia) fun h' tk acc' c' hk ho hi => ?_
 refine ⟨.ref s.heap.objs.size, _, I.laid (t' := tk) hk (Nat.le_refl _) ?_, rfl, q _ (I.hok.fresh (Nat.le_refl _))⟩
 refine ⟨by rw [List.length_map]; exact hz, acc'.toList, c', ?_, by simpa using ho⟩
 refine fU (by rw [List.length_map, hlen, <- hi.1]; simp) fun j x u e1 e2 => ?_
 rw [List.getElem?_map] at e1
 cases e3 : kvs[j]? with
 | none => rw [e3] at e1; cases e1
 | some kv1 =>
  rw [e3] at e1
  simp only [Option.map_some, Option.some.injEq] at e1
  subst e1
  obtain ⟨k, x, e4, hk⟩ := hi.2 j u (by rw [<- Array.getElem?_toList]; exact e2)
  obtain ⟨q1, e5, ek, _⟩ := jC kv e3
  rw [e4] at e5
  cases e5
  rw [ek]
  rcases aM hk with ⟨i, t, rfl, rfl⟩ | ⟨y, t, rfl, rfl⟩
  ·exact ⟨t, rfl⟩
  ·exact ⟨t, rfl⟩
noncomputable def Fc (K : W.Frag) : List V -> Hp -> VK -> Prop := fun xs H Q => ∃ a ys, xs = [.ref a] /\ (SqL K H a ys \/ SqT K H a ys \/ ∃ kvs, Rd H a (.dK kvs) /\ ys = kvs.map fun kv => kV kv.1) /\ ∀ p, H p = none -> Q (.ref p) (upd H p (.lst ys))
theorem p9 {X : Cx} (hc : X.calm = true) : Di X (.type "list") (Fc X.K) := by
 intro pins s σ H xs us Q I r h
 obtain ⟨a, ys, rfl, h, q⟩ := h
 rcases h with h | h | ⟨kvs, h, rfl⟩
 ·exact i7 pins s σ H _ us Q I r ⟨a, ys, rfl, .inl h, q⟩
 ·exact i7 pins s σ H _ us Q I r ⟨a, ys, rfl, .inr h, q⟩
 ·exact nD hc pins s σ H _ us Q I r ⟨a, kvs, rfl, h, q⟩
theorem xZ {K : W.Frag} {mg : Cu} : CW K mg Ea (Fc K) := by
 intro G H vs ds res Q hg hd ho k
 unfold Ea at ho
 split at ho
 next xs =>
  cases ho
  obtain ⟨x, rfl, h1⟩ := dts1 hd
  cases h1 with
  | lst q r => exact ⟨_, _, rfl, .inl ((hg.sqr q).sq), fun p hp => k _ _ _ (.laidO hg hp) (fX hg hp r)⟩
 next xs =>
  cases ho
  obtain ⟨x, rfl, h1⟩ := dts1 hd
  cases h1 with
  | tup q r => exact ⟨_, _, rfl, .inr (.inl (hg.tup q)), fun p hp => k _ _ _ (.laidO hg hp) (fX hg hp r)⟩
 next xs =>
  cases ho
  obtain ⟨x, rfl, h1⟩ := dts1 hd
  cases h1 with
  | dct q r => exact ⟨_, _, rfl, .inr (.inr ⟨_, Rd.of (hg _ _ q), rfl⟩), fun p hp => k _ _ _ (.laidO hg hp) (fX hg hp r.keys)⟩
 next => cases ho
noncomputable def E7 : Ct -> Option SD
 | [.list xs] => some (.sh (.tuple xs))
 | [.tuple xs] => some (.sh (.tuple xs))
 | _ => none
theorem vQ {K : W.Frag} {mg : Cu} : CW K mg E7 (fun xs H Q => ∃ p ys, xs = [.ref p] /\ ((SqL K H p ys /\ ∀ l, H l = none -> Q (.ref l) (upd H l (.tup ys))) \/ (SqT K H p ys /\ Q (.ref p) H))) := by
 intro G H vs ds res Q hg hd ho k
 unfold E7 at ho
 split at ho
 next xs =>
  cases ho
  obtain ⟨x, rfl, h1⟩ := dts1 hd
  cases h1 with
  | lst q r => exact ⟨_, _, rfl, .inl ⟨(hg.sqr q).sq, fun p hp => k _ _ _ (.laid hg hp) (mf hg hp r)⟩⟩
 next xs =>
  cases ho
  obtain ⟨x, rfl, h1⟩ := dts1 hd
  cases h1 with
  | tup q r => exact ⟨_, _, rfl, .inr ⟨hg.tup q, ans k hg (.tup q r)⟩⟩
 next => cases ho
noncomputable def CV : Ct -> Option (List Int)
 | [] => some []
 | .int i :: r => (CV r).map (i :: ·)
 | _ :: _ => none
theorem cV {K : W.Frag} {G : Hp} : ∀ {vs : List V} {ds : Ct} {ns : List Int}, Dts K G vs ds -> CV ds = some ns -> vs = ns.map V.int
 | _, _, _, .nil, e => by cases e; rfl
 | _, _, _, .cons (d := d) h r, e => by
  cases d with
  | int i =>
   simp only [CV, Option.map_eq_some_iff] at e
   obtain ⟨ns, e1, rfl⟩ := e
   cases h
   rw [cV r e1, List.map_cons]
  | _ => cases e
noncomputable def insI (x : Int) : List Int -> List Int
 | [] => [x]
 | y :: r => if x <= y then x :: y :: r else y :: insI x r
noncomputable def D2 : List Int -> List Int
 | [] => []
 | x :: r => insI x (D2 r)
theorem iG (x : Int) : ∀ l, (insI x l).Perm (x :: l)
 | [] => .refl _
 | y :: r => by
  unfold insI
  split
  ·exact .refl _
  ·exact ((iG x r).cons y).trans (.swap x y r)
theorem cF : ∀ l, (D2 l).Perm l
 | [] => .refl _
 | x :: r => (iG x _).trans ((cF r).cons x)
theorem lu (x : Int) : ∀ l, l.Pairwise (· <= ·) -> (insI x l).Pairwise (· <= ·)
 | [], _ => by simp [insI]
 | y :: r, h => by
  obtain ⟨h1, h2⟩ := List.pairwise_cons.mp h
  unfold insI
  split
  next hxy => exact List.pairwise_cons.mpr ⟨fun z hz => by
    rcases List.mem_cons.mp hz with e | e
    ·rw [e]; exact hxy
    ·exact Int.le_trans hxy (h1 z e), h⟩
  next hxy => exact List.pairwise_cons.mpr ⟨fun z hz => by
    rcases List.mem_cons.mp ((iG x r).mem_iff.mp hz) with e | e
    ·rw [e]; lia
    ·exact h1 z e, lu x r h2⟩
theorem fu : ∀ l, (D2 l).Pairwise (· <= ·)
 | [] => .nil
 | x :: r => lu x _ (fu r)
theorem ib {r l : List Int} (hp : r.Perm l) (hr : r.Pairwise (· <= ·)) : r = D2 l :=
 (hp.trans (cF l).symm).eq_of_pairwise (le := (· <= ·)) (fun a b _ _ h1 h2 => Int.le_antisymm h1 h2) hr (fu l)
noncomputable def Er : Ct -> Option SD
 | [.list xs] => if xs.length < 64 then (CV xs).map fun ns => .ol ((D2 ns).map PyData.int) else none
 | _ => none
noncomputable def FC (K : W.Frag) : List V -> Hp -> VK -> Prop := fun xs H Q => ∃ a ns, xs = [.ref a] /\ SqL K H a (ns.map V.int) /\ ns.length < 64 /\ ∀ (ns' : List Int) p, ns'.Perm ns -> ns'.Pairwise (· <= ·) -> H p = none -> Q (.ref p) (upd H p (.lst (ns'.map V.int)))
theorem vR {K : W.Frag} {mg : Cu} : CW K mg Er (FC K) := by
 intro G H vs ds res Q hg hd ho k
 unfold Er at ho
 split at ho
 next xs =>
  split at ho
  next hl =>
   obtain ⟨ns, e, rfl⟩ := Option.map_eq_some_iff.mp ho
   obtain ⟨x, rfl, h1⟩ := dts1 hd
   cases h1 with
   | lst q r =>
    have e2 := cV r e
    subst e2
    have hlen := r.len
    rw [List.length_map] at hlen
    refine ⟨_, ns, rfl, (hg.sqr q).sq, by lia, fun ns' p h1 h2 hp => ?_⟩
    rw [ib h1 h2]
    exact k _ _ _ (.laidO hg hp) (fX hg hp (Dts.ints _))
  next => cases ho
 next => cases ho
noncomputable def dIsi (T : String) : Ct -> Option SD
 | [.dict _] => none
 | [d] => some (.sh (.bool (isiD T d)))
 | _ => none
section
variable {X : Cx} {E : XK} {a e : Expr} {oa : Opd} {ops : List Opd} {pos p q : Pos}
theorem dg (hm : X.mg "len" = none) (ha : SO X E a oa) (hg : Gl X "len" := by rfl) (hst : starEach [a] X.env = [(false, eval a X.env)] := by rfl) : SE X E (.Call (.Name "len" p) [a] [] pos) (eOp dLen [oa]) :=
 dM rF A9 hm PySem.boot_len (aa ha aj hst) hg (by decide) (by decide) hst rfl
theorem cq (hm : X.mg "abs" = none) (hb : bootBuiltins "abs" = some (.builtin "abs")) (ha : SO X E a oa) (hg : Gl X "abs" := by rfl) (hst : starEach [a] X.env = [(false, eval a X.env)] := by rfl) : SE X E (.Call (.Name "abs" p) [a] [] pos) (eOp dAbs [oa]) :=
 dM t9 Aa hm hb (aa ha aj hst) hg (by decide) (by decide) hst rfl
theorem tQ (hm : X.mg "sorted" = none) (hb : bootBuiltins "sorted" = some (.builtin "sorted")) (ha : SO X E a oa) (hg : Gl X "sorted" := by rfl) (hst : starEach [a] X.env = [(false, eval a X.env)] := by rfl) : SE X E (.Call (.Name "sorted" p) [a] [] pos) (eOp Er [oa]) :=
 dM me vR hm hb (aa ha aj hst) hg (by decide) (by decide) hst rfl
theorem ml (hc : X.calm = true) (hm : X.mg "list" = none) (hb : bootBuiltins "list" = some (.type "list")) (ha : SO X E a oa) (hg : Gl X "list" := by rfl) (hst : starEach [a] X.env = [(false, eval a X.env)] := by rfl) : SE X E (.Call (.Name "list" p) [a] [] pos) (eOp Ea [oa]) :=
 nB (p9 hc) xZ hm hb (aa ha aj hst) hg (by decide) (by decide) hst rfl
theorem nE (hm : X.mg "tuple" = none) (hb : bootBuiltins "tuple" = some (.type "tuple")) (ha : SO X E a oa) (hg : Gl X "tuple" := by rfl) (hst : starEach [a] X.env = [(false, eval a X.env)] := by rfl) : SE X E (.Call (.Name "tuple" p) [a] [] pos) (eOp E7 [oa]) :=
 nB kI vQ hm hb (aa ha aj hst) hg (by decide) (by decide) hst rfl
theorem dh {x : Str} (T : String) (hm : X.mg "isinstance" = none) (hm2 : X.mg x = none) (hv : bootBuiltins x = some (.type T)) (hT : kitT T = true) (hb : bootBuiltins "isinstance" = some (.builtin "isinstance")) (ha : SO X E a oa) (hg : Gl X "isinstance" := by rfl) (hg2 : Gl X x := by rfl)
  (hst : starEach [a, .Name x q] X.env = [(false, eval a X.env), (false, eval (.Name x q) X.env)] := by rfl) (hst2 : starEach [.Name x q] X.env = [(false, eval (.Name x q) X.env)] := by rfl) (hn : x ≠ "__name__" := by decide) (hd : (x == ("__debug__" : Str)) = false := by decide) :
  SE X E (.Call (.Name "isinstance" p) [a, .Name x q] [] pos) (eOp (dIsi T) [oa]) := by
 refine (fQ rD hg hm hb (aL ha (aL (zT hm2 hv hg2 hn hd) cE hst2) (by rw [hst, hst2])) (by decide) (by decide) (by rw [hst, hst2]) (by rw [hst2]; rfl)).weak fun σ H Q h => ?_
 refine ia (r := fun vs H1 Q => ∃ x d T', vs ++ [V.ty T] = [x, .ty T'] /\ kitT T' = true /\ Dt X.K H1 x d /\ (∀ kvs, d ≠ .dict kvs) /\ Q (.bl (isiD T' d)) H1) (fun G H vs ds res Q hgg hdd ho k => ?_) h
 unfold dIsi at ho
 split at ho
 next => cases ho
 next d hne =>
  cases ho
  obtain ⟨v, rfl, h1⟩ := dts1 hdd
  exact ⟨v, d, T, rfl, hT, h1.mono hgg, fun kvs z => hne kvs z, ans k hgg (.bl _)⟩
 next => cases ho
end
noncomputable def DH : PyData -> Option Bool
 | .none => some false
 | .bool b => some b
 | .int i => some (i != 0)
 | .str y => if y.length <= sizeLine then some ((y.length : Int) != 0) else none
 | .list xs => some (!xs.isEmpty)
 | .tuple xs => some (!xs.isEmpty)
 | .dict es => some (!es.isEmpty)
noncomputable def tstO (o : Opd) : DT := fun δ => (opds [o] δ).bind fun p => match p.1 with
 | [d] => (match DH d with
  | some b => .ok (b, p.2.1)
  | none => .bad)
 | _ => .bad
noncomputable def tstV (f : DE) : DT := fun δ => (f δ).bind fun p => match p.1 with
 | .sh (.bool b) => .ok (b, p.2)
 | _ => .bad
noncomputable def CM (f : DT) : DT := fun δ => (f δ).bind fun p => .ok (!p.1, p.2)
noncomputable def Es (f g : DT) : DT := fun δ => (f δ).bind fun p => if p.1 = true then g p.2 else .ok (false, p.2)
noncomputable def Dh (f g : DT) : DT := fun δ => (f δ).bind fun p => if p.1 = true then .ok (true, p.2) else g p.2
abbrev SW (X : Cx) (E : XK) (e : Expr) (f : DT) : Prop := PW X e (tT X.K X.mg E f)
section
variable {K : W.Frag} {mg : Cu} {E : XK} {G0 H0 G H : Hp} {σ : St} {δ : DEnv}
theorem rG {x : V} {d : PyData} {b : Bool} (hg : Same G H) (h : Dt K G x d) (e : DH d = some b) : TruV K x H b := by
 cases h with
 | non => cases e; rfl
 | bl k => cases e; rfl
 | int i => cases e; rfl
 | str y =>
  have e' : (if y.length <= sizeLine then some ((y.length : Int) != 0) else none) = some b := e
  split at e'
  next hy => cases e'; exact ⟨hy, rfl⟩
  next => cases e'
 | lst q r =>
  cases e
  refine .inl ⟨_, (hg.sqr q).sq, ?_⟩
  cases r <;> rfl
 | tup q r =>
  cases e
  refine .inr (.inl ⟨_, hg.tup q, ?_⟩)
  cases r <;> rfl
 | dct q r =>
  cases e
  refine .inr (.inr ⟨_, hg _ _ q, ?_⟩)
  cases r <;> rfl
theorem C4 {f : DE} {Q : Bool -> Hp -> Prop} (h : tT K mg E (tstV f) σ H Q) : tE K mg E f σ H fun x H' => ∃ k, x = .bl k /\ Q k H' := by
 obtain ⟨G0, H0, G, δ, R, m⟩ := h
 refine ⟨G0, H0, G, δ, R, ?_⟩
 unfold tstV at m
 cases e : f δ with
 | ok p =>
  rw [e, Out.bind_ok] at m
  intro v H' G' R' s rr
  split at m
  next b q =>
   rw [q] at rr
   have := rr.1
   cases this
   exact ⟨b, rfl, m H' G' R' s⟩
  next => exact m.elim
 | exc x => rw [e] at m; exact m
 | bad => rw [e] at m; exact m
end
section
variable {X : Cx} {E : XK} {a b c e : Expr} {oa ob : Opd} {f g h : DE} {tf tg : DT} {pos : Pos} {rest : List Expr}
theorem dN (ha : SO X E a oa) (he : ∀ whole, isTrue a X.env whole = (do let v <- whole; standAt a.pos; holding [v] (truthy v)) := by intro _; rfl) : ST X E a (tstO oa) :=
 (t8 ha he).weak fun σ H Q ⟨G0, H0, G, δ, R, m⟩ => by
  have key : tOs X.K X.mg E [oa] σ H fun vs H1 => ∃ x k, vs = [x] /\ TruV X.K x H1 k /\ Q k H1 := by
   refine fW [oa] R ?_
   unfold tstO opds at m
   cases e1 : evO [oa] δ with
   | ok p =>
    rw [e1, Out.bind_ok] at m
    intro vs H1 G1 R1 s1 ov
    cases e2 : Do (CD (CQ p.1) p.2) p.1 with
    | none => rw [e2] at m; exact m.elim
    | some ds =>
     rw [e2, Out.bind_ok] at m
     obtain ⟨G2, l, R2, L⟩ := R1.relA (CQ p.1)
     have hd := (ov.mono L.ext).view R2 e2
     dsimp only at m
     split at m
     next d =>
      obtain ⟨x, rfl, h1⟩ := dts1 hd
      cases e3 : DH d with
      | none => rw [e3] at m; exact m.elim
      | some k =>
       rw [e3] at m
       exact ⟨x, k, rfl, rG R2.g.gh h1 e3, m H1 G1 R1 s1⟩
     next => exact m.elim
   | exc x => rw [e1] at m; exact m
   | bad => rw [e1] at m; exact m
  have mono : ∀ {t : Opd} {P P' : V -> Hp -> Prop}, (∀ v H, P v H -> P' v H) -> tO X.K X.mg E t σ H P -> tO X.K X.mg E t σ H P' := fun {t P P'} hp q => by
   cases t with
   | nm i => obtain ⟨v, h1, h2⟩ := q; exact ⟨v, h1, hp _ _ h2⟩
   | ex f =>
    obtain ⟨G0, H0, G, δ, R, m⟩ := q
    refine ⟨G0, H0, G, δ, R, ?_⟩
    cases e : f δ with
    | ok p => rw [e] at m; exact fun v H' G' R' s rr => hp _ _ (m v H' G' R' s rr)
    | exc x => rw [e] at m; exact m
    | bad => rw [e] at m; exact m
  exact mono (fun v H1 ⟨x, k, ex, h1, h2⟩ => by cases ex; exact ⟨k, h1, h2⟩) key
theorem iH (h : SW X E e tf) : ST X E e tf := PW.pt h
theorem fv {op : CmpOp} {r : R2} {o : Ct -> Option SD} (ho : OpR X (compareOp op) r) (hs : CW X.K X.mg o (l2 r)) (ha : SO X E a oa) (hb : SO X E b ob) (hm : behindInMarks op b = false) : ST X E (.Compare a [op] [b] pos) (tstV (eOp o [oa, ob])) :=
 (qj ho ha hb hm).weak fun _ _ _ h => ia hs (C4 h)
theorem qB (ha : SO X E a oa) (hb : SO X E b ob) : ST X E (.Compare a [.Lt] [b] pos) (tstV (eOp dLt [oa, ob])) := fv wL (mh fun _ _ _ => .bl _) ha hb (nomark _)
theorem wV (ha : SO X E a oa) (hb : SO X E b ob) : ST X E (.Compare a [.LtE] [b] pos) (tstV (eOp dLe [oa, ob])) := fv wM (mh fun _ _ _ => .bl _) ha hb (nomark _)
theorem lx (ha : SO X E a oa) (hb : SO X E b ob) : ST X E (.Compare a [.Gt] [b] pos) (tstV (eOp dGt [oa, ob])) := fv wN (mh fun _ _ _ => .bl _) ha hb (nomark _)
theorem Ab (ha : SO X E a oa) (hb : SO X E b ob) : ST X E (.Compare a [.GtE] [b] pos) (tstV (eOp dGe [oa, ob])) := fv wO (mh fun _ _ _ => .bl _) ha hb (nomark _)
theorem j2 (hu : X.A.units + 64 < cLine) (ha : SO X E a oa) (hb : SO X E b ob) : ST X E (.Compare a [.Eq] [b] pos) (tstV (eOp dEq [oa, ob])) := fv (tM hu) A5 ha hb (nomark _)
theorem fZ (hu : X.A.units + 64 < cLine) (ha : SO X E a oa) (hb : SO X E b ob) : ST X E (.Compare a [.NotEq] [b] pos) (tstV (eOp dNe [oa, ob])) := fv (xW hu) C3 ha hb (nomark _)
theorem w_not {K : W.Frag} {mg : Cu} {σ : St} {H : Hp} {Q : Bool -> Hp -> Prop} (q : tT K mg E (CM tf) σ H Q) : tNot (tT K mg E tf) σ H Q := by
 obtain ⟨G0, H0, G, δ, R, m⟩ := q
 refine ⟨G0, H0, G, δ, R, ?_⟩
 unfold CM at m
 cases e : tf δ with
 | ok p => rw [e, Out.bind_ok] at m; exact fun H' G' R' s => m H' G' R' s
 | exc x => rw [e] at m; exact m
 | bad => rw [e] at m; exact m
theorem aU (ha : ST X E a tf) : ST X E (.UnaryOp .Not a pos) (CM tf) := (xy ha).weak fun _ _ _ q => w_not q
theorem Ac {K : W.Frag} {mg : Cu} {σ : St} {H : Hp} {Q : Bool -> Hp -> Prop} (q : tT K mg E (Es tf tg) σ H Q) : tAnd (tT K mg E tf) (tT K mg E tg) σ H Q := by
 obtain ⟨G0, H0, G, δ, R, m⟩ := q
 refine ⟨G0, H0, G, δ, R, ?_⟩
 unfold Es at m
 cases e : tf δ with
 | ok p =>
  rw [e, Out.bind_ok] at m
  intro H' G' R' s
  split
  next hb =>
   rw [if_pos hb] at m
   refine ⟨G0, H0, G', p.2, R', ?_⟩
   cases e2 : tg p.2 with
   | ok q => rw [e2] at m; exact fun H2 G2 R2 s2 => m H2 G2 R2 (s.trans s2)
   | exc x => rw [e2] at m; exact m
   | bad => rw [e2] at m; exact m
  next hb => rw [if_neg hb] at m; exact m H' G' R' s
 | exc x => rw [e] at m; exact m
 | bad => rw [e] at m; exact m
theorem C5 {K : W.Frag} {mg : Cu} {σ : St} {H : Hp} {Q : Bool -> Hp -> Prop} (q : tT K mg E (Dh tf tg) σ H Q) : tOr (tT K mg E tf) (tT K mg E tg) σ H Q := by
 obtain ⟨G0, H0, G, δ, R, m⟩ := q
 refine ⟨G0, H0, G, δ, R, ?_⟩
 unfold Dh at m
 cases e : tf δ with
 | ok p =>
  rw [e, Out.bind_ok] at m
  intro H' G' R' s
  split
  next hb => rw [if_pos hb] at m; exact m H' G' R' s
  next hb =>
   rw [if_neg hb] at m
   refine ⟨G0, H0, G', p.2, R', ?_⟩
   cases e2 : tg p.2 with
   | ok q => rw [e2] at m; exact fun H2 G2 R2 s2 => m H2 G2 R2 (s.trans s2)
   | exc x => rw [e2] at m; exact m
   | bad => rw [e2] at m; exact m
 | exc x => rw [e] at m; exact m
 | bad => rw [e] at m; exact m
theorem vS (ha : ST X E a tf) : SW X E (.BoolOp .And [a] pos) tf := vg ha
theorem di (ha : ST X E a tf) : SW X E (.BoolOp .Or [a] pos) tf := xw ha
theorem y0 (ha : ST X E a tf) (hb : SW X E (.BoolOp .And (b :: rest) pos) tg) : SW X E (.BoolOp .And (a :: b :: rest) pos) (Es tf tg) := (xx ha hb).weak fun _ _ _ q => Ac q
theorem dv (ha : ST X E a tf) (hb : SW X E (.BoolOp .Or (b :: rest) pos) tg) : SW X E (.BoolOp .Or (a :: b :: rest) pos) (Dh tf tg) := (zM ha hb).weak fun _ _ _ q => C5 q
end
noncomputable def eNot (f : DE) : DE := fun δ => (f δ).bind fun p => match p.1 with
 | .sh (.bool b) => .ok (.sh (.bool !b), p.2)
 | _ => .bad
noncomputable def eAnd (f g : DE) : DE := fun δ => (f δ).bind fun p => match p.1 with
 | .sh (.bool b) => if b = true then g p.2 else .ok (.sh (.bool false), p.2)
 | _ => .bad
noncomputable def eIf (t : DT) (f g : DE) : DE := fun δ => (t δ).bind fun p => if p.1 = true then f p.2 else g p.2
section
variable {K : W.Frag} {mg : Cu} {E : XK} {G0 H0 G G1 H : Hp} {σ : St} {δ : DEnv}
theorem PoE.mono {Q : VK} {x : Out (SD × DEnv)} (s : Same G G1) (h : PoE K mg E G0 H0 G σ Q x) : PoE K mg E G0 H0 G1 σ Q x := by
 cases x with
 | ok p => exact fun v H' G' R' s' rr => h v H' G' R' (s.trans s') rr
 | exc x => exact h
 | bad => exact h
end
section
variable {X : Cx} {E : XK} {a b c e : Expr} {f g : DE} {tf : DT} {pos : Pos} {rest : List Expr}
theorem pb (ha : SE X E a f) : SE X E (.UnaryOp .Not a pos) (eNot f) := (xC ha).weak fun σ H Q ⟨G0, H0, G, δ, R, m⟩ => by
 refine ⟨G0, H0, G, δ, R, ?_⟩
 unfold eNot at m
 cases e : f δ with
 | ok p =>
  rw [e, Out.bind_ok] at m
  intro v H' G' R' s rr
  split at m
  next b q =>
   rw [q] at rr
   have := rr.1
   cases this
   exact ⟨b, rfl, m _ H' G' R' s (RR.sh (.bl _))⟩
  next => exact m.elim
 | exc x => rw [e] at m; exact m
 | bad => rw [e] at m; exact m
theorem jG {op : BoolOp} (ha : SE X E a f) : SE X E (.BoolOp op [a] pos) f := xA ha
theorem gR (ha : SE X E a f) (hb : SE X E (.BoolOp .And (b :: rest) pos) g) : SE X E (.BoolOp .And (a :: b :: rest) pos) (eAnd f g) := (xB ha hb).weak fun σ H Q ⟨G0, H0, G, δ, R, m⟩ => by
 refine ⟨G0, H0, G, δ, R, ?_⟩
 unfold eAnd at m
 cases e : f δ with
 | ok p =>
  rw [e, Out.bind_ok] at m
  intro v H' G' R' s rr
  split at m
  next b q =>
   rw [q] at rr
   have := rr.1
   cases this
   refine ⟨b, rfl, ?_⟩
   split
   next hb => rw [if_pos hb] at m; exact ⟨G0, H0, G', p.2, R', m.mono s⟩
   next hb => rw [if_neg hb] at m; exact m _ H' G' R' s (RR.sh (.bl _))
  next => exact m.elim
 | exc x => rw [e] at m; exact m
 | bad => rw [e] at m; exact m
theorem nF (hc : ST X E c tf) (ha : SE X E a f) (hb : SE X E b g) : SE X E (.IfExp c a b pos) (eIf tf f g) := (sX hc ha hb).weak fun σ H Q ⟨G0, H0, G, δ, R, m⟩ => by
 refine ⟨G0, H0, G, δ, R, ?_⟩
 unfold eIf at m
 cases e : tf δ with
 | ok p =>
  rw [e, Out.bind_ok] at m
  intro H' G' R' s
  split
  next hb => rw [if_pos hb] at m; exact ⟨G0, H0, G', p.2, R', m.mono s⟩
  next hb => rw [if_neg hb] at m; exact ⟨G0, H0, G', p.2, R', m.mono s⟩
 | exc x => rw [e] at m; exact m
 | bad => rw [e] at m; exact m
end
inductive SOut where
 | nx (δ : DEnv)
 | rt (r : SD)
 | bk (δ : DEnv)
 | ct (δ : DEnv)
 | exc (x : Str)
 | bad
abbrev DS := DEnv -> SOut
noncomputable def PoS (K : W.Frag) (mg : Cu) (E : XK) (G0 H0 G : Hp) (D : Ends) : SOut -> Prop
 | .nx δ' => ∀ σ' H' G', Rel K mg G0 H0 G' H' σ' δ' -> Same G G' -> D.nx σ' H'
 | .bk δ' => ∀ σ' H' G', Rel K mg G0 H0 G' H' σ' δ' -> Same G G' -> D.bk σ' H'
 | .ct δ' => ∀ σ' H' G', Rel K mg G0 H0 G' H' σ' δ' -> Same G G' -> D.ct σ' H'
 | .rt r => ∀ v H' G', Grow G0 H0 G' H' -> VN K mg H0 G' H' v r -> D.rt v H'
 | .exc x => PoX mg E H0 x
 | .bad => False
noncomputable def tS (K : W.Frag) (mg : Cu) (E : XK) (f : DS) : TS := fun D σ H => ∃ G0 H0 G δ, Rel K mg G0 H0 G H σ δ /\ PoS K mg E G0 H0 G D (f δ)
abbrev S1 (X : Cx) (E : XK) (st : Stmt) (f : DS) : Prop := PS X st (tS X.K X.mg E f)
abbrev SS (X : Cx) (E : XK) (st : List Stmt) (f : DS) : Prop := PSs X st (tS X.K X.mg E f)
theorem PoS.mono {K : W.Frag} {mg : Cu} {E : XK} {G0 H0 G G1 : Hp} {D : Ends} {x : SOut} (s : Same G G1) (h : PoS K mg E G0 H0 G D x) : PoS K mg E G0 H0 G1 D x := by
 cases x with
 | nx δ => exact fun σ' H' G' R' s' => h σ' H' G' R' (s.trans s')
 | bk δ => exact fun σ' H' G' R' s' => h σ' H' G' R' (s.trans s')
 | ct δ => exact fun σ' H' G' R' s' => h σ' H' G' R' (s.trans s')
 | rt r => exact h
 | exc x => exact h
 | bad => exact h
noncomputable def CO : DS := fun δ => .nx δ
noncomputable def sSeq (f g : DS) : DS := fun δ => match f δ with
 | .nx δ' => g δ'
 | r => r
noncomputable def sAsg (i : Nat) (f : DE) : DS := fun δ => match f δ with
 | .ok p => if i < p.2.length then .nx (p.2.set i (some p.1)) else .bad
 | .exc x => .exc x
 | .bad => .bad
noncomputable def sRet (f : DE) : DS := fun δ => match f δ with
 | .ok p => .rt p.1
 | .exc x => .exc x
 | .bad => .bad
noncomputable def Et (i : Nat) : DS := fun δ => match δ[i]? with
 | some (some r) => .rt r
 | _ => .bad
noncomputable def sIf (t : DT) (f g : DS) : DS := fun δ => match t δ with
 | .ok p => if p.1 = true then f p.2 else g p.2
 | .exc x => .exc x
 | .bad => .bad
section
variable {X : Cx} {E : XK} {st : Stmt} {rest body body2 : List Stmt} {f g : DS} {e c : Expr} {fe : DE} {tf : DT} {pos pos' : Pos} {x : Str} {i : Nat}
theorem aH : SS X E [] CO := fj.weak fun D σ H ⟨G0, H0, G, δ, R, m⟩ => m σ H G R (.refl _)
theorem ai (h1 : S1 X E st f) (h2 : SS X E rest g) : SS X E (st :: rest) (sSeq f g) := (br h1 h2).weak fun D σ H ⟨G0, H0, G, δ, R, m⟩ => by
 refine ⟨G0, H0, G, δ, R, ?_⟩
 unfold sSeq at m
 cases e : f δ with
 | nx δ' => rw [e] at m; exact fun σ' H' G' R' s => ⟨G0, H0, G', δ', R', m.mono s⟩
 | bk δ => rw [e] at m; exact m
 | ct δ => rw [e] at m; exact m
 | rt r => rw [e] at m; exact m
 | exc x => rw [e] at m; exact m
 | bad => rw [e] at m; exact m
theorem ak (h1 : S1 X E st f) : SS X E [st] f := vh h1
theorem tR {K : W.Frag} {mg : Cu} {D : Ends} {σ : St} {H : Hp} (q : tS K mg E (sAsg i fe) D σ H) : tAsg (tE K mg E fe) (Df i) D σ H := by
 obtain ⟨G0, H0, G, δ, R, m⟩ := q
 refine ⟨G0, H0, G, δ, R, ?_⟩
 unfold sAsg at m
 cases e : fe δ with
 | ok p =>
  rw [e] at m
  dsimp only at m
  intro v H' G' R' s rr
  split at m
  next hi => exact m _ H' G' (R'.store (by rw [<- R'.len]; exact hi) rr.less) s
  next => exact m.elim
 | exc x => rw [e] at m; exact m
 | bad => rw [e] at m; exact m
theorem aG (i : Nat) (hN : X.N.Nodup) (he : SE X E e fe) (hi : X.N[i]? = some x := by rfl) (hx : Loc X.env.scope x := by first | exact Or.inl rfl | exact Or.inr rfl) (hs : swapsWith e (some (.Name x pos')) pos.line X.env = pure false := by rfl)
  (hf : X.fn x = true \/ X.env.scope.names.lookup x = some .local := by first | exact .inl rfl | exact .inr rfl | assumption) : S1 X E (.Assign [.Name x pos'] e pos) (sAsg i fe) := (sZ hN hi hx he hs hf).weak fun _ _ _ q => tR q
theorem au (he : SE X E e fe) : S1 X E (.Return (some e) pos) (sRet fe) := (ma he).weak fun D σ H ⟨G0, H0, G, δ, R, m⟩ => by
 refine ⟨G0, H0, G, δ, R, ?_⟩
 unfold sRet at m
 cases e : fe δ with
 | ok p => rw [e] at m; exact fun v H' G' R' s rr => m v H' G' R'.g rr.new
 | exc x => rw [e] at m; exact m
 | bad => rw [e] at m; exact m
theorem qC (i : Nat) (hN : X.N[i]? = some x := by rfl) (hv : Vis X.env.scope x := by first | exact Or.inl rfl | exact Or.inr (Or.inl rfl) | exact Or.inr (Or.inr rfl)) (hd : (x == ("__debug__" : Str)) = false := by decide)
  (hcd : (x == ("__classdict__" : Str)) = false := by decide) : S1 X E (.Return (some (.Name x pos')) pos) (Et i) := (ma (fO hN hv hd hcd)).weak fun D σ H ⟨G0, H0, G, δ, R, m⟩ => by
 unfold Et at m
 split at m
 next r e =>
  obtain ⟨v, h1, h2⟩ := R.at_ e
  exact ⟨v, h1, m v H G R.g h2.new⟩
 next => exact m.elim
theorem aY (hc : ST X E c tf) (ha : SS X E body f) (hb : SS X E body2 g) : S1 X E (.If c body body2 pos) (sIf tf f g) := (sY hc ha hb).weak fun D σ H ⟨G0, H0, G, δ, R, m⟩ => by
 refine ⟨G0, H0, G, δ, R, ?_⟩
 unfold sIf at m
 cases e : tf δ with
 | ok p =>
  rw [e] at m
  dsimp only at m
  intro H' G' R' s
  split
  next hb => rw [if_pos hb] at m; exact ⟨G0, H0, G', p.2, R', m.mono s⟩
  next hb => rw [if_neg hb] at m; exact ⟨G0, H0, G', p.2, R', m.mono s⟩
 | exc x => rw [e] at m; exact m
 | bad => rw [e] at m; exact m
end
noncomputable def Eg (K : W.Frag) (J : It) (G : Hp) (ds : Ct) : Prop := ∀ (i : Nat) (G1 H1 : Hp), Same G G1 -> Same G1 H1 ->
 (∀ d, ds[i]? = some d -> J.go i H1 /\ ∀ x H2, J.yld i H1 x H2 -> ∃ G2, Grow G1 H1 G2 H2 /\ Dt K G2 x d) /\ (ds.length <= i -> J.stop i H1)
noncomputable def PoI (K : W.Frag) (mg : Cu) (E : XK) (G0 H0 G : Hp) (σ : St) (Q : It -> Hp -> Prop) : Out (Ct × DEnv) -> Prop
 | .ok p => ∀ J H' G', Rel K mg G0 H0 G' H' σ p.2 -> Same G G' -> Eg K J G' p.1 -> Q J H'
 | .exc x => PoX mg E H0 x
 | .bad => False
noncomputable def tI (K : W.Frag) (mg : Cu) (E : XK) (f : DA) : TI := fun σ H Q => ∃ G0 H0 G δ, Rel K mg G0 H0 G H σ δ /\ PoI K mg E G0 H0 G σ Q (f δ)
abbrev SI (X : Cx) (E : XK) (tg iter : Expr) (f : DA) : Prop := PI X tg iter (tI X.K X.mg E f)
noncomputable def DJ (f : DE) : DA := fun δ => (vE f δ).bind fun p => match p.1 with
 | .list xs => .ok (xs, p.2)
 | .tuple xs => .ok (xs, p.2)
 | _ => .bad
noncomputable def rngI (lo : Int) (n : Nat) : Ct := (List.range n).map fun (k : Nat) => .int (lo + (k : Int))
noncomputable def rngB (i : Int) : Bool := decide (-(2 ^ 62) <= i /\ i < 2 ^ 62)
noncomputable def itR1 (ops : List Opd) : DA := fun δ => (opds ops δ).bind fun p => match p.1 with
 | [.int j] => if rngB j = true then .ok (rngI 0 j.toNat, p.2.1) else .bad
 | _ => .bad
noncomputable def Dy : Nat -> Ct -> Ct
 | _, [] => []
 | k, d :: r => .tuple [.int (k : Int), d] :: Dy (k + 1) r
noncomputable def EJ (f : DE) : DA := fun δ => (vE f δ).bind fun p => match p.1 with
 | .list xs => .ok (Dy 0 xs, p.2)
 | _ => .bad
theorem ly : ∀ (ds : Ct) (k i : Nat), (Dy k ds)[i]? = (ds[i]?).map fun d => .tuple [.int ((k + i : Nat) : Int), d]
 | [], _, _ => by simp [Dy]
 | d :: r, k, 0 => by simp [Dy]
 | d :: r, k, i + 1 => by
  simp only [Dy, List.getElem?_cons_succ]
  rw [ly r (k + 1) i, show k + 1 + i = k + (i + 1) by lia]
theorem iI : ∀ (ds : Ct) (k : Nat), (Dy k ds).length = ds.length
 | [], _ => rfl
 | d :: r, k => by rw [Dy, List.length_cons, List.length_cons, iI r]
section
variable {K : W.Frag} {G : Hp} {a : Addr} {xs : List V} {ds : Ct}
theorem jH (q : SqR K G a xs) (r : Dts K G xs ds) : Eg K (Itl K a) G ds := fun i G1 H1 s1 s2 => by
 have q' : SqL K H1 a xs := ((s1.trans s2).sqr q).sq
 refine ⟨fun d e => ?_, fun h => ⟨xs, q', by rw [r.len]; exact h⟩⟩
 obtain ⟨v, e1, e2⟩ := r.get' e
 refine ⟨⟨xs, v, q', e1⟩, fun x H2 ⟨eH, hx⟩ => ?_⟩
 subst eH
 have := hx xs q'
 rw [e1] at this
 cases this
 exact ⟨G1, .refl s2, e2.mono s1⟩
theorem lz (q : TuT G a xs) (r : Dts K G xs ds) : Eg K (Itt K a) G ds := fun i G1 H1 s1 s2 => by
 have q' : SqT K H1 a xs := (s1.trans s2).tup q
 refine ⟨fun d e => ?_, fun h => ⟨xs, q', by rw [r.len]; exact h⟩⟩
 obtain ⟨v, e1, e2⟩ := r.get' e
 refine ⟨⟨xs, v, q', e1⟩, fun x H2 ⟨eH, hx⟩ => ?_⟩
 subst eH
 have := hx xs q'
 rw [e1] at this
 cases this
 exact ⟨G1, .refl s2, e2.mono s1⟩
theorem g6 (lo : Int) (n : Nat) : (rngI lo n).length = n := by simp [rngI]
theorem j3 (lo : Int) (n : Nat) : Eg K (Itr lo n) G (rngI lo n) := fun i G1 H1 s1 s2 => by
 refine ⟨fun d e => ?_, fun h => by rw [g6] at h; exact h⟩
 have hi : i < n := by
  have := (List.getElem?_eq_some_iff.mp e).1
  rwa [g6] at this
 refine ⟨hi, fun x H2 ⟨eH, hx⟩ => ?_⟩
 subst eH hx
 unfold rngI at e
 rw [List.getElem?_map, List.getElem?_range hi] at e
 cases e
 exact ⟨G1, .refl s2, .int _⟩
theorem jI (q : SqR K G a xs) (r : Dts K G xs ds) : Eg K (Ite K a) G (Dy 0 ds) := fun i G1 H1 s1 s2 => by
 have q' : SqL K H1 a xs := ((s1.trans s2).sqr q).sq
 refine ⟨fun d e => ?_, fun h => ⟨xs, q', by rw [r.len]; rw [iI] at h; exact h⟩⟩
 rw [ly] at e
 obtain ⟨d0, e0, rfl⟩ := Option.map_eq_some_iff.mp e
 obtain ⟨v, e1, e2⟩ := r.get' e0
 refine ⟨⟨xs, v, q', e1⟩, fun x H2 ⟨p, y, ex, hp, eH, hy⟩ => ?_⟩
 subst ex eH
 have := hy xs q'
 rw [e1] at this
 cases this
 refine ⟨_, .laid s2 hp, .tup ao (.cons ?_ (.cons (e2.mono (s1.trans (aA (s2.free hp)))) .nil))⟩
 rw [Nat.zero_add]
 exact .int _
end
section
variable {X : Cx} {E : XK} {tg l a b : Expr} {f : DE} {oa ob : Opd} {ops : List Opd} {p pos : Pos}
theorem gT (hl : SE X E l f) : SI X E tg l (DJ f) := (tN hl).weak fun σ H Q ⟨G0, H0, G, δ, R, m⟩ => by
 refine p7 R ?_
 unfold DJ at m
 cases e : vE f δ with
 | ok p =>
  rw [e, Out.bind_ok] at m
  intro v H' G' R' s hd
  split at m
  next xs q =>
   rw [q] at hd
   cases hd with
   | lst q r => exact ⟨_, rfl, .inl ⟨⟨_, (R'.g.gh.sqr q).sq⟩, m _ H' G' R' s (jH q r)⟩⟩
  next xs q =>
   rw [q] at hd
   cases hd with
   | tup q r => exact ⟨_, rfl, .inr ⟨⟨_, R'.g.gh.tup q⟩, m _ H' G' R' s (lz q r)⟩⟩
  next => exact m.elim
 | exc x => rw [e] at m; exact m
 | bad => rw [e] at m; exact m
theorem tU {P : List V -> Hp -> Prop} {K : W.Frag} {mg : Cu} {G0 H0 G H : Hp} {σ : St} {δ : DEnv} (R : Rel K mg G0 H0 G H σ δ)
  (h : match opds ops δ with
   | .ok p => ∀ vs H' G' G1, Rel K mg G0 H0 G' H' σ p.2.1 -> Same G G' -> Same G1 H' -> Dts K G1 vs p.1 -> P vs H'
   | .exc x => PoX mg E H0 x
   | .bad => False) : tOs K mg E ops σ H P := by
 refine fW ops R ?_
 unfold opds at h
 cases e1 : evO ops δ with
 | ok p =>
  rw [e1, Out.bind_ok] at h
  intro vs H1 G1 R1 s1 ov
  cases e2 : Do (CD (CQ p.1) p.2) p.1 with
  | none => rw [e2] at h; exact h.elim
  | some ds =>
   rw [e2] at h
   obtain ⟨G2, l, R2, L⟩ := R1.relA (CQ p.1)
   exact h vs H1 G1 G2 R1 s1 R2.g.gh ((ov.mono L.ext).view R2 e2)
 | exc x => rw [e1] at h; exact h
 | bad => rw [e1] at h; exact h
theorem lC (hm : X.mg "range" = none) (ha : SO X E a oa) (hg : Gl X "range" := by rfl) (hs : starEach [a] X.env = [(false, eval a X.env)] := by rfl) : SI X E tg (.Call (.Name "range" p) [a] [] pos) (itR1 [oa]) :=
 (kR hg hm (aa ha aj hs) hs).weak fun σ H Q ⟨G0, H0, G, δ, R, m⟩ => by
  refine tU R ?_
  unfold itR1 at m
  cases e : opds [oa] δ with
  | ok q =>
   rw [e, Out.bind_ok] at m
   intro vs H' G' G1 R' s s1 hd
   split at m
   next j ej =>
    rw [ej] at hd
    obtain ⟨v, rfl, h1⟩ := dts1 hd
    cases h1
    split at m
    next hj =>
     have hj := of_decide_eq_true hj
     exact ⟨j, rfl, hj.1, hj.2, m _ H' G' R' s (j3 0 j.toNat)⟩
    next => exact m.elim
   next => exact m.elim
  | exc x => rw [e] at m; exact m
  | bad => rw [e] at m; exact m
theorem vT {ts : List Expr} {tk : Nat} {tp : Pos} (hm : X.mg "enumerate" = none) (hl : SE X E l f) (hg : Gl X "enumerate" := by rfl) (hs : starEach [l] X.env = [(false, eval l X.env)] := by rfl) : SI X E (.Tuple ts tk tp) (.Call (.Name "enumerate" p) [l] [] pos) (EJ f) :=
 (qz hm (aL hl cE hs) hg hs).weak fun σ H Q ⟨G0, H0, G, δ, R, m⟩ => by
  refine p7 R ?_
  unfold EJ at m
  cases e : vE f δ with
  | ok p =>
   rw [e, Out.bind_ok] at m
   intro v H' G' R' s hd
   split at m
   next xs q =>
    rw [q] at hd
    cases hd with
    | lst q r => exact ⟨_, rfl, ⟨_, (R'.g.gh.sqr q).sq⟩, m _ H' G' R' s (jI q r)⟩
   next => exact m.elim
  | exc x => rw [e] at m; exact m
  | bad => rw [e] at m; exact m
end
abbrev DG := PyData -> DEnv -> Option DEnv
noncomputable def TgS (K : W.Frag) (mg : Cu) (g : TG) (k : DG) : Prop := ∀ (G0 H0 G H : Hp) (σ : St) (δ δ' : DEnv) (v : V) (d : PyData) (Q : St -> Hp -> Prop),
 Rel K mg G0 H0 G H σ δ -> Dt K G v d -> k d δ = some δ' -> (∀ σ', Rel K mg G0 H0 G H σ' δ' -> Q σ' H) -> g v σ H Q
noncomputable def kN (i : Nat) : DG := fun d δ => if i < δ.length then some (δ.set i (some (.sh d))) else none
noncomputable def kNs : List Nat -> Ct -> DEnv -> Option DEnv
 | [], [], δ => some δ
 | i :: is, d :: ds, δ => (kN i d δ).bind (kNs is ds)
 | _, _, _ => none
noncomputable def kTup (is : List Nat) : DG := fun d δ => match d with
 | .tuple ds => kNs is ds δ
 | _ => none
noncomputable def E8 : List Nat -> TGs
 | [] => gNil
 | i :: is => Fl (Df i) (E8 is)
section
variable {K : W.Frag} {mg : Cu}
theorem cM (i : Nat) : TgS K mg (Df i) (kN i) := fun G0 H0 G H σ δ δ' v d Q R hd e k => by
 unfold kN at e
 split at e
 next hi =>
  cases e
  exact k _ (R.store (by rw [<- R.len]; exact hi) (RR.sh hd))
 next => cases e
theorem nG : ∀ (is : List Nat) {G0 H0 G H : Hp} {σ : St} {δ δ' : DEnv} {vs : List V} {ds : Ct} {Q : St -> Hp -> Prop},
  Rel K mg G0 H0 G H σ δ -> Dts K G vs ds -> kNs is ds δ = some δ' -> (∀ σ', Rel K mg G0 H0 G H σ' δ' -> Q σ' H) -> E8 is vs σ H Q
 | [], G0, H0, G, H, σ, δ, δ', vs, ds, Q, R, hd, e, k => by
  cases hd with
  | nil => cases e; exact ⟨rfl, k σ R⟩
  | cons _ _ => cases e
 | i :: is, G0, H0, G, H, σ, δ, δ', vs, ds, Q, R, hd, e, k => by
  cases hd with
  | nil => cases e
  | cons h1 t =>
   obtain ⟨δ1, e1, e2⟩ := Option.bind_eq_some_iff.mp e
   exact ⟨_, _, rfl, cM i G0 H0 G H σ δ δ1 _ _ _ R h1 e1 fun σ1 R1 => nG is R1 t e2 k⟩
theorem tV (is : List Nat) : TgS K mg (gTup K is.length (E8 is)) (kTup is) := fun G0 H0 G H σ δ δ' v d Q R hd e k => by
 unfold kTup at e
 split at e
 next ds =>
  cases hd with
  | tup q r =>
   have hl : ∀ (is : List Nat) (ds : Ct) (δ δ' : DEnv), kNs is ds δ = some δ' -> ds.length = is.length := fun is => by
    induction is with
    | nil => intro ds δ δ' e; cases ds with | nil => rfl | cons _ _ => cases e
    | cons i is ih =>
     intro ds δ δ' e
     cases ds with
     | nil => cases e
     | cons d ds =>
      obtain ⟨δ1, _, e2⟩ := Option.bind_eq_some_iff.mp e
      rw [List.length_cons, List.length_cons, ih ds δ1 δ' e2]
   exact ⟨_, _, rfl, R.g.gh.tup q, by rw [r.len]; exact hl is ds δ δ' e, nG is R r e k⟩
 next => cases e
end
section
variable {X : Cx} {x y : Str} {px py pt : Pos} {kt : Nat}
theorem mn (i : Nat) (hN : X.N.Nodup) (hi : X.N[i]? = some x := by rfl) (hx : Loc X.env.scope x := by first | exact Or.inl rfl | exact Or.inr rfl) (hf : X.fn x = true \/ X.env.scope.names.lookup x = some .local := by first | exact .inl rfl | exact .inr rfl | assumption) : PG X (.Name x px) (Df i) := i5 hN hi hx hf
theorem Ad (i j : Nat) (hc : X.calm = true) (hN : X.N.Nodup) (hi : X.N[i]? = some x := by rfl) (hj : X.N[j]? = some y := by rfl) (hx : Loc X.env.scope x := by first | exact Or.inl rfl | exact Or.inr rfl) (hy : Loc X.env.scope y := by first | exact Or.inl rfl | exact Or.inr rfl)
  (hf : X.fn x = true \/ X.env.scope.names.lookup x = some .local := by first | exact .inl rfl | exact .inr rfl | assumption) (hf2 : X.fn y = true \/ X.env.scope.names.lookup y = some .local := by first | exact .inl rfl | exact .inr rfl | assumption) :
  PG X (.Tuple [.Name x px, .Name y py] kt pt) (gTup X.K [i, j].length (E8 [i, j])) := xD hc (nc (i5 hN hi hx hf) (nc (i5 hN hj hy hf2) vi))
end
noncomputable def forL (k : DG) (fb : DS) : Ct -> DEnv -> SOut
 | [], δ => .nx δ
 | d :: ds, δ => match k d δ with
  | none => .bad
  | some δ1 => match fb δ1 with
   | .nx δ2 => forL k fb ds δ2
   | .ct δ2 => forL k fb ds δ2
   | .bk δ2 => .nx δ2
   | .rt r => .rt r
   | .exc x => .exc x
   | .bad => .bad
noncomputable def sFor (fi : DA) (k : DG) (fb : DS) : DS := fun δ => match fi δ with
 | .ok p => forL k fb p.1 p.2
 | .exc x => .exc x
 | .bad => .bad
theorem Ae {K : W.Frag} {mg : Cu} {E : XK} {fi : DA} {k : DG} {g : TG} {fb : DS} {D : Ends} {σ : St} {H : Hp} (hk : TgS K mg g k) (q : tS K mg E (sFor fi k fb) D σ H) : tFor (tI K mg E fi) g (tS K mg E fb) D σ H := by
 obtain ⟨G0, H0, G, δ, R, m⟩ := q
 refine ⟨G0, H0, G, δ, R, ?_⟩
 unfold sFor at m
 cases e : fi δ with
 | exc x => rw [e] at m; exact m
 | bad => rw [e] at m; exact m
 | ok p =>
  rw [e] at m
  dsimp only at m
  intro J H1 G1 R1 s1 W
  refine ⟨fun i mm σ2 H2 => ∃ G2 δ2, Rel K mg G0 H0 G2 H2 σ2 δ2 /\ Same G1 G2 /\ i + mm = p.1.length /\ PoS K mg E G0 H0 G2 D (forL k fb (p.1.drop i) δ2), ⟨p.1.length, G1, p.2, R1, .refl _, Nat.zero_add _, m.mono s1⟩, ?_⟩
  rintro i mm σ2 H2 ⟨G2, δ2, R2, s2, him, m2⟩
  obtain ⟨w1, w2⟩ := W i G2 H2 s2 R2.g.gh
  cases hd : p.1[i]? with
  | none =>
   have hi : p.1.length <= i := List.getElem?_eq_none_iff.mp hd
   refine .inl ⟨w2 hi, ?_⟩
   rw [List.drop_eq_nil_of_le hi] at m2
   exact m2 σ2 H2 G2 R2 (.refl _)
  | some d =>
   have hi : i < p.1.length := (List.getElem?_eq_some_iff.mp hd).1
   obtain ⟨go, yl⟩ := w1 d hd
   have ed : p.1.drop i = d :: p.1.drop (i + 1) := by
    rw [List.drop_eq_getElem_cons hi]
    congr 1
    exact Option.some.inj ((List.getElem?_eq_getElem hi).symm.trans hd)
   rw [ed] at m2
   unfold forL at m2
   refine .inr ⟨go, fun σ3 H3 => ∃ G3 δ3, Rel K mg G0 H0 G3 H3 σ3 δ3 /\ Same G1 G3 /\ PoS K mg E G0 H0 G3 D (forL k fb (p.1.drop (i + 1)) δ3), fun σ3 H3 ⟨G3, δ3, R3, s3, m3⟩ => ⟨mm - 1, by lia, G3, δ3, R3, s3, by lia, m3⟩, fun x H3 hy => ?_⟩
   obtain ⟨G3, g3, dx⟩ := yl x H3 hy
   have R3 := R2.grow g3
   cases ek : k d δ2 with
   | none => rw [ek] at m2; exact m2.elim
   | some δ3 =>
    rw [ek] at m2
    dsimp only at m2
    refine hk G0 H0 G3 H3 σ2 δ2 δ3 x d _ R3 dx ek fun σ4 R4 => ⟨G0, H0, G3, δ3, R4, ?_⟩
    have s23 := g3.gg
    cases eb : fb δ3 with
    | nx δ4 => rw [eb] at m2; exact fun σ' H' G' R' s => ⟨G', δ4, R', (s2.trans s23).trans s, m2.mono (s23.trans s)⟩
    | ct δ4 => rw [eb] at m2; exact fun σ' H' G' R' s => ⟨G', δ4, R', (s2.trans s23).trans s, m2.mono (s23.trans s)⟩
    | bk δ4 => rw [eb] at m2; exact fun σ' H' G' R' s => m2 σ' H' G' R' (s23.trans s)
    | rt r => rw [eb] at m2; exact m2
    | exc x => rw [eb] at m2; exact m2
    | bad => rw [eb] at m2; exact m2
section
variable {X : Cx} {E : XK} {tg iter e c : Expr} {body : List Stmt} {fi : DA} {k : DG} {g : TG} {fb : DS} {fe : DE} {pos : Pos}
theorem eE (hp : PassesOwn (model X.prog X.w) X.A X.env X.xe) (hc : X.calm = true) (hi : SI X E tg iter fi) (hg : PG X tg g) (hk : TgS X.K X.mg g k) (hb : SS X E body fb) (hs : ∀ x, foldedSetIterable iter X.env x = pure x := by intro _; rfl) : S1 X E (.For tg iter body [] pos) (sFor fi k fb) :=
 (xG hp hc hi hg hb hs).weak fun _ _ _ q => Ae hk q
end
section
variable {X : Cx} {E : XK} {tg e : Expr} {k : DG} {g : TG} {fe : DE} {pos : Pos}
end
noncomputable def isOl (δ : DEnv) (i : Nat) : Option Ct := match δ[i]? with
 | some (some (.ol ds)) => some ds
 | _ => none
noncomputable def isOd (δ : DEnv) (i : Nat) : Option (List (PyData × PyData)) := match δ[i]? with
 | some (some (.od ds)) => some ds
 | _ => none
theorem gs {δ : DEnv} {i : Nat} {ds : Ct} (h : isOl δ i = some ds) : δ[i]? = some (some (.ol ds)) := by
 unfold isOl at h
 split at h
 next q => cases h; exact q
 next => cases h
theorem mq {δ : DEnv} {i : Nat} {ds : List (PyData × PyData)} (h : isOd δ i = some ds) : δ[i]? = some (some (.od ds)) := by
 unfold isOd at h
 split at h
 next q => cases h; exact q
 next => cases h
noncomputable def sMut (up : Ct -> Ct -> Option Ct) (i : Nat) (o : Opd) : DS := fun δ => match isOl δ i with
 | none => .bad
 | some _ => match opds [o] δ with
  | .ok p => (match isOl p.2.2 i with
   | none => .bad
   | some ds => match up ds p.1 with
    | some ds' => .nx (p.2.2.set i (some (.ol ds')))
    | none => .bad)
  | .exc x => .exc x
  | .bad => .bad
noncomputable def Eu (ds : Ct) : Ct -> Option Ct
 | [d] => if ds.length < sizeLine then some (ds ++ [d]) else none
 | _ => none
noncomputable def putD (es : List (PyData × PyData)) (k : Key) (d : PyData) : List (PyData × PyData) :=
 if (es.any fun p => decide (CY p.1 = some k)) = true then es.map (fun p => if CY p.1 = some k then (p.1, d) else p) else es ++ [(keyD k, d)]
theorem Des.any {K : W.Frag} {G : Hp} {k : Key} : ∀ {kvs : List (Key × V)} {es : List (PyData × PyData)}, Des K G kvs es -> (kvs.any fun kv => decide (kv.1 = k)) = es.any fun p => decide (CY p.1 = some k)
 | _, _, .nil => rfl
 | _, _, .cons (k := j) _ r => by
  rw [List.any_cons, List.any_cons, Des.any r, ft]
  congr 1
  by_cases h : j = k <;> simp [h]
theorem Des.snoc {K : W.Frag} {G : Hp} {k : Key} {v : V} {d : PyData} (hd : Dt K G v d) : ∀ {kvs : List (Key × V)} {es : List (PyData × PyData)}, Des K G kvs es -> Des K G (kvs ++ [(k, v)]) (es ++ [(keyD k, d)])
 | _, _, .nil => .cons hd .nil
 | _, _, .cons x r => .cons x (Des.snoc hd r)
theorem Des.repl {K : W.Frag} {G : Hp} {k : Key} {v : V} {d : PyData} (hd : Dt K G v d) : ∀ {kvs : List (Key × V)} {es : List (PyData × PyData)}, Des K G kvs es -> Des K G (kvs.map fun kv => if kv.1 = k then (kv.1, v) else kv) (es.map fun p => if CY p.1 = some k then (p.1, d) else p)
 | _, _, .nil => .nil
 | _, _, .cons (k := j) (v := u) (d := d') x r => by
  rw [List.map_cons, List.map_cons]
  dsimp only
  rw [ft]
  by_cases h : j = k
  ·subst h
   rw [if_pos rfl, if_pos rfl]
   exact .cons hd (Des.repl hd r)
  ·rw [if_neg h, if_neg (by simpa using h)]
   exact .cons x (Des.repl hd r)
theorem Des.put {K : W.Frag} {G : Hp} {k : Key} {v : V} {d : PyData} {kvs : List (Key × V)} {es : List (PyData × PyData)} (h : Des K G kvs es) (hd : Dt K G v d) : Des K G (putK kvs k v) (putD es k d) := by
 unfold putK putD
 rw [h.any]
 split
 ·exact h.repl hd
 ·exact h.snoc hd
noncomputable def sPut (i : Nat) (ov ok : Opd) : DS := fun δ => match isOd δ i with
 | none => .bad
 | some _ => match opds [ov, ok] δ with
  | .ok p => (match isOd p.2.2 i, p.1 with
   | some es, [d, k] => (match CY k with
    | some k => if es.length < sizeLine then .nx (p.2.2.set i (some (.od (putD es k d)))) else .bad
    | none => .bad)
   | _, _ => .bad)
  | .exc x => .exc x
  | .bad => .bad
section
variable {K : W.Frag} {mg : Cu} {E : XK} {G0 H0 G H : Hp} {σ : St} {δ : DEnv}
theorem jJ {ops : List Opd} {P : List V -> Hp -> Prop} (R : Rel K mg G0 H0 G H σ δ)
  (h : match opds ops δ with
   | .ok p => ∀ vs H' G', Rel K mg G0 H0 G' H' σ p.2.2 -> Same G G' -> Dts K G' vs p.1 -> P vs H'
   | .exc x => PoX mg E H0 x
   | .bad => False) : tOs K mg E ops σ H P := by
 refine fW ops R ?_
 unfold opds at h
 cases e1 : evO ops δ with
 | ok p =>
  rw [e1, Out.bind_ok] at h
  intro vs H1 G1 R1 s1 ov
  cases e2 : Do (CD (CQ p.1) p.2) p.1 with
  | none => rw [e2] at h; exact h.elim
  | some ds =>
   rw [e2] at h
   obtain ⟨G2, l, R2, L⟩ := R1.relA (CQ p.1)
   exact h vs H1 G2 R2 (s1.trans L.ext) ((ov.mono L.ext).view R2 e2)
 | exc x => rw [e1] at h; exact h
 | bad => rw [e1] at h; exact h
theorem ie {t : Opd} {P P' : V -> Hp -> Prop} (hp : ∀ v H, P v H -> P' v H) (q : tO K mg E t σ H P) : tO K mg E t σ H P' := by
 cases t with
 | nm i => obtain ⟨v, h1, h2⟩ := q; exact ⟨v, h1, hp _ _ h2⟩
 | ex f =>
  obtain ⟨G0, H0, G, δ, R, m⟩ := q
  refine ⟨G0, H0, G, δ, R, ?_⟩
  cases e : f δ with
  | ok p => rw [e] at m; exact fun v H' G' R' s rr => hp _ _ (m v H' G' R' s rr)
  | exc x => rw [e] at m; exact m
  | bad => rw [e] at m; exact m
end
noncomputable def MutS (K : W.Frag) (up : Ct -> Ct -> Option Ct) (r : V -> List V -> Hp -> VK -> Prop) : Prop :=
 ∀ (G H : Hp) (a : Addr) (xs : List V) (ds ds' : Ct) (vs : List V) (es : Ct) (Q : VK), Same G H -> H a = some (.lst xs) -> Dts K G xs ds -> Dts K G vs es -> up ds es = some ds' -> (∀ v xs', Dts K G xs' ds' -> Q v (upd H a (.lst xs'))) -> r (.ref a) vs H Q
theorem Af {K : W.Frag} : MutS K Eu En := fun G H a xs ds ds' vs es Q hg ha hx hv e k => by
 unfold Eu at e
 split at e
 next d =>
  split at e
  next hl =>
   cases e
   obtain ⟨y, rfl, hy⟩ := dts1 hv
   exact ⟨a, xs, y, rfl, rfl, ha, by rw [hx.len]; exact hl, k _ _ (hx.append (.cons hy .nil))⟩
  next => cases e
 next => cases e
theorem Ag {K : W.Frag} {mg : Cu} {E : XK} {up : Ct -> Ct -> Option Ct} {r : V -> List V -> Hp -> VK -> Prop} {i : Nat} {o : Opd} {D : Ends} {σ : St} {H : Hp} (hm : MutS K up r) (q : tS K mg E (sMut up i o) D σ H) :
  ET (tBM K "list" r (tVar i) (tOs K mg E [o])) D σ H := by
 obtain ⟨G0, H0, G, δ, R, m⟩ := q
 unfold sMut at m
 cases e0 : isOl δ i with
 | none => rw [e0] at m; exact m.elim
 | some ds0 =>
  rw [e0] at m
  dsimp only at m
  obtain ⟨v, h1, ⟨a, xs, rfl, q1, q2, q3⟩, _⟩ := R.at_ (gs e0)
  refine ⟨.ref a, h1, .inl ⟨rfl, xs, .inl (.inl q2)⟩, ?_⟩
  refine jJ R ?_
  cases e1 : opds [o] δ with
  | ok p =>
   rw [e1] at m
   dsimp only at m
   intro vs H1 G1 R1 s1 hd
   cases e2 : isOl p.2.2 i with
   | none => rw [e2] at m; exact m.elim
   | some ds =>
    rw [e2] at m
    dsimp only at m
    obtain ⟨u, g1, ⟨b, ys, rfl, y1, y2, y3⟩, _⟩ := R1.at_ (gs e2)
    rw [h1] at g1
    cases g1
    cases e3 : up ds p.1 with
    | none => rw [e3] at m; exact m.elim
    | some ds' =>
     rw [e3] at m
     refine hm G1 H1 a ys ds ds' vs p.1 _ R1.g.gh y2 y3 hd e3 fun v xs' hx => ?_
     exact m σ _ G1 (R1.write (gs e2) trivial h1 ⟨a, xs', rfl, y1, ao, hx⟩ (by rw [y2]; trivial) (fun C z => by rw [y2] at z; cases z)) s1
  | exc x => rw [e1] at m; exact m
  | bad => rw [e1] at m; exact m
section
variable {X : Cx} {E : XK} {e k v : Expr} {o ov ok : Opd} {x : Str} {px apos cpos pos tpos : Pos}
theorem tW (i : Nat) (he : SO X E e o) (hN : X.N[i]? = some x := by rfl) (hv : Vis X.env.scope x := by first | exact Or.inl rfl | exact Or.inr (Or.inl rfl) | exact Or.inr (Or.inr rfl)) (hd : (x == ("__debug__" : Str)) = false := by decide) (hcd : (x == ("__classdict__" : Str)) = false := by decide)
  (hs : swapsWith (.Call (.Attribute (.Name x px) "append" apos) [e] [] cpos) none pos.line X.env = pure false := by rfl) (hst : starEach [e] X.env = [(false, eval e X.env)] := by rfl)
  (hbase : attributeBase (.Name x px) "append" X.env (eval (.Name x px) X.env) = eval (.Name x px) X.env := by rfl)
  (hfew : ((backTo cpos (starEach [e] X.env)).all (fun x => !x.1) && (backToKw cpos (keywordEach [] X.env)).all (fun x => x.1.isSome) && decide (([e] : List Expr).length + ([] : List Keyword).length + (if ([] : List Keyword).isEmpty then 0 else 1) < 30)) = true := by rfl)
  (hline : (apos.endLine == cpos.line) = true := by rfl) : S1 X E (.Expr (.Call (.Attribute (.Name x px) "append" apos) [e] [] cpos) pos) (sMut Eu i o) :=
 (m9 (wR PySem.F.plainAttrs_list PySem.F.slot_list_append PySem.F.type_list_append lb (fO hN hv hd hcd) (aa he aj hst) hbase hfew hline hst rfl) hs).weak fun _ _ _ q => Ag Af q
theorem tX (i : Nat) (hu : X.A.units + 64 < cLine) (hval : SO X E v ov) (hk : SO X E k ok) (hN : X.N[i]? = some x := by rfl) (hv : Vis X.env.scope x := by first | exact Or.inl rfl | exact Or.inr (Or.inl rfl) | exact Or.inr (Or.inr rfl)) (hd : (x == ("__debug__" : Str)) = false := by decide)
  (hcd : (x == ("__classdict__" : Str)) = false := by decide) (hs : swapsWith v (some (.Subscript (.Name x px) k tpos)) pos.line X.env = pure false := by rfl) : S1 X E (.Assign [.Subscript (.Name x px) k tpos] v pos) (sPut i ov ok) :=
 (qw (by lia) (fO hN hv hd hcd) hk hval hs).weak fun D σ H ⟨G0, H0, G, δ, R, m⟩ => by
  unfold sPut at m
  cases e0 : isOd δ i with
  | none => rw [e0] at m; exact m.elim
  | some ds0 =>
   rw [e0] at m
   dsimp only at m
   obtain ⟨w, h1, ⟨a, xs, rfl, q1, q2, q3⟩, _⟩ := R.at_ (mq e0)
   have key : tOs X.K X.mg E [ov, ok] σ H fun vs H1 => ∃ y z, vs = [y, z] /\ ∃ a' H4, V.ref a = .ref a' /\ DPut H1 a' z y H4 /\ D.nx σ H4 := by
    refine jJ R ?_
    cases e1 : opds [ov, ok] δ with
    | ok p =>
     rw [e1] at m
     dsimp only at m
     intro vs H1 G1 R1 s1 hdd
     split at m
     next es d k' e2 e3 =>
      rw [e3] at hdd
      obtain ⟨y, z, rfl, hy, hz⟩ := dts2 hdd
      obtain ⟨u, g1, ⟨b, ys, rfl, y1, y2, y3⟩, _⟩ := R1.at_ (mq e2)
      rw [h1] at g1
      cases g1
      split at m
      next kk ek =>
       split at m
       next hl =>
        have := p8 hz ek
        subst this
        refine ⟨y, _, rfl, a, _, rfl, DPut.k y2 (by rw [y3.len]; exact hl), ?_⟩
        exact m σ _ G1 (R1.write (mq e2) trivial h1 ⟨a, _, rfl, y1, ao, y3.put hy⟩ (by rw [y2]; trivial) (fun C z => by rw [y2] at z; cases z)) s1
       next => exact m.elim
      next => exact m.elim
     next => exact m.elim
    | exc x => rw [e1] at m; exact m
    | bad => rw [e1] at m; exact m
   refine ie (fun y H1 q => ?_) key
   refine ⟨.ref a, h1, ?_⟩
   exact ie (fun z H2 ⟨y', z', ee, a', H4, e4, hp, hn⟩ => by cases ee; exact ⟨a', H4, e4, hp, hn⟩) q
end
section
variable {K : W.Frag} {mg : Cu} {E : XK} {G0 H0 G H : Hp} {σ : St} {δ : DEnv}
theorem g7 {ops : List Opd} {P : List V -> Hp -> Prop} (R : Rel K mg G0 H0 G H σ δ)
  (h : match opds ops δ with
   | .ok p => ∀ vs H' G' G2 l, Rel K mg G0 H0 G' H' σ p.2.1 -> Same G G' -> Rel K mg G0 H0 G2 H' σ p.2.2 -> Lent G' G2 l -> Dts K G2 vs p.1 -> P vs H'
   | .exc x => PoX mg E H0 x
   | .bad => False) : tOs K mg E ops σ H P := by
 refine fW ops R ?_
 unfold opds at h
 cases e1 : evO ops δ with
 | ok p =>
  rw [e1, Out.bind_ok] at h
  intro vs H1 G1 R1 s1 ov
  cases e2 : Do (CD (CQ p.1) p.2) p.1 with
  | none => rw [e2] at h; exact h.elim
  | some ds =>
   rw [e2] at h
   obtain ⟨G2, l, R2, L⟩ := R1.relA (CQ p.1)
   exact h vs H1 G1 G2 l R1 s1 R2 L ((ov.mono L.ext).view R2 e2)
 | exc x => rw [e1] at h; exact h
 | bad => rw [e1] at h; exact h
end
noncomputable def PoF (K : W.Frag) (mg : Cu) (G H : Hp) (Q : VK) (E : XK) : Out SD -> Prop
 | .ok r => ∀ v H' G', Grow G H G' H' -> VN K mg H G' H' v r -> Q v H'
 | .exc x => PoX mg E H x
 | .bad => False
noncomputable def spD (K : W.Frag) (mg : Cu) (φ : Ct -> Out SD) : Sp := fun vs H Q E => ∃ G ds, (Same G H /\ NoT G /\ DW H) /\ Dts K G vs ds /\ PoF K mg G H Q E (φ ds)
noncomputable def CJ (φ : Ct -> Out SD) (ops : List Opd) : DE := fun δ => (opds ops δ).bind fun p => (φ p.1).bind fun r => .ok (r, if r.pure = true then p.2.1 else p.2.2)
theorem y6 {K : W.Frag} {mg : Cu} {E : XK} {φ : Ct -> Out SD} {ops : List Opd} {σ : St} {H : Hp} {Q : VK} (h : tE K mg E (CJ φ ops) σ H Q) : EE (spD K mg φ) [] E (tOs K mg E ops) σ H Q := by
 obtain ⟨G0, H0, G, δ, R, m⟩ := h
 refine g7 R ?_
 unfold CJ at m
 cases e : opds ops δ with
 | ok p =>
  rw [e, Out.bind_ok] at m
  intro vs H1 G1 G2 l R1 s1 R2 L hd
  rw [List.append_nil]
  refine ⟨G2, p.1, ⟨R2.g.gh, R2.noT, R2.tabs⟩, hd, ?_⟩
  cases e2 : φ p.1 with
  | ok r =>
   rw [e2, Out.bind_ok] at m
   intro v H2 G3 gr vn
   by_cases hp : r.pure = true
   ·rw [if_pos hp] at m
    obtain ⟨G4, gr4, vn4⟩ := L.back R1 R2.g.gh gr vn hp
    exact m v H2 G4 (R1.grow gr4) (s1.trans gr4.gg) (RR.of_new R1 vn4)
   ·rw [if_neg hp] at m
    exact m v H2 G3 (R2.grow gr) ((s1.trans L.ext).trans gr.gg) (RR.of_new R2 vn)
  | exc x => rw [e2] at m; exact fun H' C s hC => m H' C (R1.g.hh.trans s) hC
  | bad => rw [e2] at m; exact m
 | exc x => rw [e] at m; exact m
 | bad => rw [e] at m; exact m
abbrev DefD (P : Program) (w : World) (K : W.Frag) (mg : Cu) (base : Heap) (x : Str) (k : Nat) (φ : Ct -> Out SD) : Prop := ∃ (f : Addr) (fd : FuncData) (ps : List Str), Def P w K mg base (CXe P w) x k f fd ps (spD K mg φ)
section
variable {X : Cx} {E : XK} {x : Str} {k j : Nat} {φ : Ct -> Out SD} {e : Expr} {es : List Expr} {ops : List Opd} {p pos : Pos}
theorem ar (D : DefD X.prog X.w X.K X.mg X.base x k φ) (hr : Room j X.A) (hx : Passes (CXe X.prog X.w) X E) (ha : PA X (e :: es) (tOs X.K X.mg E ops)) (hk : k <= j := by decide) (hg : Gl X x := by rfl) (hdb : (x == ("__debug__" : Str)) = false := by decide)
  (he : starEach (e :: es) X.env = (false, eval e X.env) :: starEach es X.env := by rfl) (hpl : (backTo pos (starEach es X.env)).any (·.1) = false := by rfl) : SE X E (.Call (.Name x p) (e :: es) [] pos) (CJ φ ops) := by
 obtain ⟨f, fd, ps, D⟩ := D
 exact (i9 D hr hx ha hg hk hdb he hpl).weak fun _ _ _ h => y6 h
end
theorem bo {X : Cx} {P : Program} {w : World} : Passes (CXe P w) X E0 := fun _ _ _ _ _ _ _ ⟨_, _, _, _, _, z⟩ => z.elim
noncomputable def start0 (n m : Nat) (ds : Ct) : DEnv := ds.map (fun d => some (.sh d)) ++ List.replicate (n - m) none
noncomputable def runB (n m : Nat) (f : DS) (ds : Ct) : Out SD := if ds.length = m then (match f (start0 n m ds) with
 | .nx _ => .ok (.sh .none)
 | .rt r => .ok r
 | .exc x => .exc x
 | _ => .bad) else .bad
theorem lD {K : W.Frag} {mg : Cu} {G H : Hp} {vs : List V} {ds : Ct} {N : List Str} {m : Nat} (hg : Same G H /\ NoT G /\ DW H) (hd : Dts K G vs ds) (hm : ds.length = m) : Rel K mg G H G H (start N vs) (start0 N.length m ds) where
 g := .refl hg.1
 tb := hg.2.2
 n0 := hg.2.1
 len := by unfold start start0; simp only [List.length_append, List.length_map, List.length_replicate]; rw [hd.len, hm]
 sl := fun i sd e => by
  unfold start0 at e
  by_cases hi : i < ds.length
  ·rw [List.getElem?_append_left (by simpa using hi), List.getElem?_map] at e
   cases e2 : ds[i]? with
   | none => rw [e2] at e; cases e
   | some d =>
    rw [e2] at e
    cases e
    obtain ⟨v, h1, h2⟩ := hd.get' e2
    refine ⟨v, ?_, h2⟩
    unfold start
    rw [List.getElem?_append_left (by rw [List.length_map, hd.len]; exact hi), List.getElem?_map, h1]
    rfl
  ·rw [List.getElem?_append_right (by simpa using hi), List.getElem?_replicate] at e
   split at e <;> cases e
 fr := fun i sd a e ho => by
  unfold start0 at e
  by_cases hi : i < ds.length
  ·rw [List.getElem?_append_left (by simpa using hi), List.getElem?_map] at e
   cases e2 : ds[i]? with
   | none => rw [e2] at e; cases e
   | some d => rw [e2] at e; cases e; exact ho.elim
  ·rw [List.getElem?_append_right (by simpa using hi), List.getElem?_replicate] at e
   split at e <;> cases e
 ap := fun i j sd te a e _ ho => by
  unfold start0 at e
  by_cases hi : i < ds.length
  ·rw [List.getElem?_append_left (by simpa using hi), List.getElem?_map] at e
   cases e2 : ds[i]? with
   | none => rw [e2] at e; cases e
   | some d => rw [e2] at e; cases e; exact ho.elim
  ·rw [List.getElem?_append_right (by simpa using hi), List.getElem?_replicate] at e
   split at e <;> cases e
theorem ig {n m : Nat} {f : DS} {ds : Ct} (h : runB n m f ds ≠ .bad) : ds.length = m := by
 unfold runB at h
 split at h
 next e => exact e
 next => exact absurd rfl h
theorem aC {P : Program} {w : World} {K : W.Frag} {mg : Cu} {base : Heap} {x qual : Str} {st : Stmt} {f : Addr} {fd : FuncData} {N ps : List Str} {k : Nat} {fb : DS} (F : Fun K x qual st f fd) (S : CF N ps (Cy st))
  (body : ∀ (cdv : Value) (A : Around) (outer : List Env) (s : Shared) (H : Hp) (E : XK), Room k (A.deeper (envOfC qual (Cy st) s.heap.objs.size f cdv)) -> SS (cxE P w K mg base N qual (Cy st) f cdv A outer s H E) E (D7 st) fb) :
  FnOk P w K mg base (CXe P w) (k + 1) f fd ps (spD K mg (runB N.length ps.length fb)) := by
 refine F.okE S (fun vs H Q E h => ?_) fun cdv A outer s H vs Q E hr h => ?_
 ·obtain ⟨G, ds, hg, hd, m⟩ := h
  rw [hd.len]
  exact ig fun z => by rw [z] at m; exact m
 ·obtain ⟨G, ds, hg, hd, m⟩ := h
  refine ⟨_, body cdv A outer s H E hr, G, H, G, start0 N.length ps.length ds, ?_, ?_⟩
  ·exact lD hg hd (ig fun z => by rw [z] at m; exact m)
  ·unfold runB at m
   split at m
   next hl =>
    cases e : fb (start0 N.length ps.length ds) with
    | nx δ => rw [e] at m; exact fun σ' H' G' R' s' => m .non H' G' R'.g (nA .non)
    | rt r => rw [e] at m; exact fun v H' G' g vn => m v H' G' g vn
    | exc x => rw [e] at m; exact m
    | bk δ => rw [e] at m; exact m.elim
    | ct δ => rw [e] at m; exact m.elim
    | bad => rw [e] at m; exact m.elim
   next => exact m.elim
noncomputable def PoC (K : W.Frag) (mg : Cu) (E : XK) (G0 H0 G : Hp) (σ : St) (Q : It -> Hp -> Prop) : Out (Ct × DEnv × DEnv) -> Prop
 | .ok p => ∀ J H' G' G2 l, Rel K mg G0 H0 G' H' σ p.2.1 -> Same G G' -> Rel K mg G0 H0 G2 H' σ p.2.2 -> Lent G' G2 l -> Eg K J G2 p.1 -> Q J H'
 | .exc x => PoX mg E H0 x
 | .bad => False
abbrev DC := DEnv -> Out (Ct × DEnv × DEnv)
noncomputable def tIC (K : W.Frag) (mg : Cu) (E : XK) (f : DC) : TI := fun σ H Q => ∃ G0 H0 G δ, Rel K mg G0 H0 G H σ δ /\ PoC K mg E G0 H0 G σ Q (f δ)
noncomputable def Dz (o : Opd) : DC := fun δ => (opds [o] δ).bind fun p => match p.1 with
 | [.list xs] => .ok (xs, p.2.1, p.2.2)
 | [.tuple xs] => .ok (xs, p.2.1, p.2.2)
 | _ => .bad
noncomputable def icR1 (o : Opd) : DC := fun δ => (opds [o] δ).bind fun p => match p.1 with
 | [.int j] => if rngB j = true then .ok (rngI 0 j.toNat, p.2.1, p.2.2) else .bad
 | _ => .bad
abbrev SIC (X : Cx) (E : XK) (tg iter : Expr) (f : DC) : Prop := PI X tg iter (tIC X.K X.mg E f)
section
variable {X : Cx} {E : XK} {tg l a b : Expr} {o oa ob : Opd} {p pos : Pos}
theorem bA (hl : SO X E l o) : SIC X E tg l (Dz o) := (tN hl).weak fun σ H Q ⟨G0, H0, G, δ, R, m⟩ => by
 have key : tOs X.K X.mg E [o] σ H fun vs H1 => ∃ x, vs = [x] /\ ∃ a, x = .ref a /\ (((∃ xs, SqL X.K H1 a xs) /\ Q (Itl X.K a) H1) \/ ((∃ xs, SqT X.K H1 a xs) /\ Q (Itt X.K a) H1)) := by
  refine g7 R ?_
  unfold Dz at m
  cases e : opds [o] δ with
  | ok p =>
   rw [e, Out.bind_ok] at m
   intro vs H1 G1 G2 l R1 s1 R2 L hd
   split at m
   next xs q =>
    rw [q] at hd
    obtain ⟨x, rfl, h1⟩ := dts1 hd
    cases h1 with
    | lst q r => exact ⟨_, rfl, _, rfl, .inl ⟨⟨_, (R2.g.gh.sqr q).sq⟩, m _ H1 G1 G2 l R1 s1 R2 L (jH q r)⟩⟩
   next xs q =>
    rw [q] at hd
    obtain ⟨x, rfl, h1⟩ := dts1 hd
    cases h1 with
    | tup q r => exact ⟨_, rfl, _, rfl, .inr ⟨⟨_, R2.g.gh.tup q⟩, m _ H1 G1 G2 l R1 s1 R2 L (lz q r)⟩⟩
   next => exact m.elim
  | exc x => rw [e] at m; exact m
  | bad => rw [e] at m; exact m
 exact ie (fun v H1 ⟨x, ex, q⟩ => by cases ex; exact q) key
theorem pf (hm : X.mg "range" = none) (ha : SO X E a oa) (hg : Gl X "range" := by rfl) (hs : starEach [a] X.env = [(false, eval a X.env)] := by rfl) : SIC X E tg (.Call (.Name "range" p) [a] [] pos) (icR1 oa) :=
 (kR hg hm (aa ha aj hs) hs).weak fun σ H Q ⟨G0, H0, G, δ, R, m⟩ => by
  refine g7 R ?_
  unfold icR1 at m
  cases e : opds [oa] δ with
  | ok q =>
   rw [e, Out.bind_ok] at m
   intro vs H1 G1 G2 l R1 s1 R2 L hd
   split at m
   next j ej =>
    rw [ej] at hd
    obtain ⟨v, rfl, h1⟩ := dts1 hd
    cases h1
    split at m
    next hj =>
     have hj := of_decide_eq_true hj
     exact ⟨j, rfl, hj.1, hj.2, m _ H1 G1 G2 l R1 s1 R2 L (j3 0 j.toNat)⟩
    next => exact m.elim
   next => exact m.elim
  | exc x => rw [e] at m; exact m
  | bad => rw [e] at m; exact m
end
noncomputable def rhoD (F : List Nat) (δ : DEnv) : DEnv := none :: F.map fun j => (δ[j]?).join
noncomputable def CZ (ρ : DEnv) (tc : DT) (te : DE) : Ct -> Option Ct
 | [] => some []
 | d :: ds => match tc (ρ.set 0 (some (.sh d))) with
  | .ok p => if p.1 = true then (match vE te p.2 with
    | .ok q => (CZ ρ tc te ds).map (q.1 :: ·)
    | _ => none) else CZ ρ tc te ds
  | _ => none
noncomputable def De : DT := fun δ => .ok (true, δ)
noncomputable def Dc (F : List Nat) (fc : DC) (tc : DT) (te : DE) : DE := fun δ => (fc δ).bind fun p => if p.1.length <= sizeLine then (match CZ (rhoD F (CD F p.2.2)) tc te p.1 with
 | some ys => .ok (.ol ys, if CA ys = true then p.2.1 else CD F p.2.2)
 | none => .bad) else .bad
theorem rH {i j : Nat} {δ : DEnv} {sd : SD} (h : (Du i δ)[j]? = some (some sd)) : (j = i /\ ¬ sd.owned) \/ (δ[j]? = some (some sd)) := by
 unfold Du at h
 split at h
 ·rcases aD h with ⟨z, e⟩ | ⟨_, e⟩
  ·cases e; exact .inl ⟨z, fun h => h⟩
  ·exact .inr e
 ·rcases aD h with ⟨z, e⟩ | ⟨_, e⟩
  ·cases e; exact .inl ⟨z, fun h => h⟩
  ·exact .inr e
 ·exact .inr h
theorem nH {i : Nat} {δ : DEnv} {sd : SD} (h : (Du i δ)[i]? = some (some sd)) : ¬ sd.owned := by
 unfold Du at h
 split at h
 ·rcases aD h with ⟨_, e⟩ | ⟨z, _⟩
  ·cases e; exact fun h => h
  ·exact absurd rfl z
 ·rcases aD h with ⟨_, e⟩ | ⟨z, _⟩
  ·cases e; exact fun h => h
  ·exact absurd rfl z
 next n1 n2 =>
  intro ho
  cases sd with
  | sh d => exact ho
  | ol ds => exact n1 ds h
  | od ds => exact n2 ds h
  | ex x => exact ho
theorem j4 : ∀ (is : List Nat) {δ : DEnv} {j : Nat}, (∀ sd, δ[j]? = some (some sd) -> ¬ sd.owned) -> ∀ sd, (CD is δ)[j]? = some (some sd) -> ¬ sd.owned
 | [], _, _, h, sd, e => h sd e
 | i :: r, δ, j, h, sd, e => j4 r (δ := Du i δ) (fun sd' e' => by
   rcases rH e' with ⟨_, z⟩ | z
   ·exact z
   ·exact h sd' z) sd e
theorem dO : ∀ (is : List Nat) {δ : DEnv} {j : Nat} {sd : SD}, j ∈ is -> (CD is δ)[j]? = some (some sd) -> ¬ sd.owned
 | [], _, _, _, h, _ => absurd h (by simp)
 | i :: r, δ, j, sd, h, e => by
  rcases List.mem_cons.mp h with z | z
  ·subst z
   exact j4 r (δ := Du j δ) (fun sd' e' => nH e') sd e
  ·exact dO r z e
theorem gu {α : Type} {o : Option (Option α)} {a : α} (h : o.join = some a) : o = some (some a) := by
 cases o with
 | none => cases h
 | some b => cases b with
  | none => cases h
  | some c => cases h; rfl
theorem mr {K : W.Frag} {mg : Cu} {G0 H0 G H G1 H1 : Hp} {σ : St} {δ : DEnv} {F : List Nat} (R : Rel K mg G0 H0 G H σ δ) (ho : ∀ j ∈ F, ∀ sd, δ[j]? = some (some sd) -> ¬ sd.owned) (g : Grow G H G1 H1) : Rel K mg G H G1 H1 (rho 1 F σ) (rhoD F δ) := by
 have get : ∀ (i : Nat) sd, (rhoD F δ)[i]? = some (some sd) -> ∃ k j, i = k + 1 /\ F[k]? = some j /\ δ[j]? = some (some sd) := fun i sd e => by
  unfold rhoD at e
  cases i with
  | zero => cases e
  | succ k =>
   rw [List.getElem?_cons_succ, List.getElem?_map] at e
   cases e2 : F[k]? with
   | none => rw [e2] at e; cases e
   | some j =>
    rw [e2] at e
    exact ⟨k, j, rfl, e2, gu (Option.some.inj e)⟩
 refine ⟨g, ?_, fun i sd e => ?_, fun i sd a e h => ?_, fun i j sd te a e _ h => ?_, R.tabs, R.noT⟩
 ·rw [dY]; simp [rhoD]; omega
 ·obtain ⟨k, j, rfl, e1, e2⟩ := get i sd e
  obtain ⟨v, h1, h2⟩ := R.sl j sd e2
  refine ⟨v, ?_, h2.grow g⟩
  unfold rho
  rw [List.getElem?_append_right (by simp), List.getElem?_map]
  simp only [List.length_replicate, Nat.add_sub_cancel, e1, Option.map_some, h1, Option.join_some]
 ·obtain ⟨k, j, rfl, e1, e2⟩ := get i sd e
  exact absurd h (ho j (List.mem_of_getElem? e1) sd e2)
 ·obtain ⟨k, j, rfl, e1, e2⟩ := get i sd e
  exact absurd h (ho j (List.mem_of_getElem? e1) sd e2)
theorem tY {K : W.Frag} {mg : Cu} {E : XK} {F : List Nat} {fc : DC} {tc : DT} {te : DE} {σ : St} {H : Hp} {Q : VK} (h : tE K mg E (Dc F fc tc te) σ H Q) : Ep 1 F (tIC K mg E fc) (Df 0) (tT K mg E0 tc) (tE K mg E0 te) σ H Q := by
 obtain ⟨G0, H0, G, δ, R, m⟩ := h
 refine ⟨G0, H0, G, δ, R, ?_⟩
 unfold Dc at m
 cases e : fc δ with
 | exc x => rw [e] at m; exact m
 | bad => rw [e] at m; exact m
 | ok p =>
  rw [e, Out.bind_ok] at m
  intro J H1 G1 G2 l R1 s1 R2 L W
  split at m
  next hsz =>
   obtain ⟨G3, l3, R3, L3⟩ := R2.relA F
   have L13 := L.trans L3
   have ho : ∀ j ∈ F, ∀ sd, (CD F p.2.2)[j]? = some (some sd) -> ¬ sd.owned := fun j hj sd e => dO F hj e
   generalize hρ : rhoD F (CD F p.2.2) = ρ at m
   cases ec : CZ ρ tc te p.1 with
   | none => rw [ec] at m; exact m.elim
   | some total =>
    rw [ec] at m
    dsimp only at m
    refine ⟨fun i mm ys H2 => ∃ G4 es rest, Grow G3 H1 G4 H2 /\ Dts K G4 ys es /\ i + mm = p.1.length /\ ys.length <= i /\ CZ ρ tc te (p.1.drop i) = some rest /\ es ++ rest = total, ⟨p.1.length, G3, [], total, .refl R3.g.gh, .nil, Nat.zero_add _, Nat.le_refl _, ec, rfl⟩, ?_⟩
    rintro i mm ys H2 ⟨G4, es, rest, g4, hys, him, hyl, hc, ht⟩
    obtain ⟨w1, w2⟩ := W i G4 H2 (L3.ext.trans g4.gg) g4.gh
    cases hd : p.1[i]? with
    | none =>
     have hi : p.1.length <= i := List.getElem?_eq_none_iff.mp hd
     refine .inl ⟨w2 hi, fun D hD => ?_⟩
     rw [List.drop_eq_nil_of_le hi] at hc
     cases hc
     rw [List.append_nil] at ht
     subst ht
     have gD : Grow G3 H1 G4 (upd H2 D (.lst ys)) := g4.trans (.laidO g4.gh hD)
     have vn : VN K mg H1 G4 (upd H2 D (.lst ys)) (.ref D) (.ol es) := ⟨⟨D, ys, rfl, g4.gh.free hD, ao, hys⟩, fun _ a ea => by cases ea; exact g4.hh.free hD⟩
     by_cases hp : CA es = true
     ·rw [if_pos hp] at m
      obtain ⟨G5, gr5, vn5⟩ := L13.back R1 R3.g.gh gD vn hp
      exact m _ _ G5 (R1.grow gr5) (s1.trans gr5.gg) (RR.of_new R1 vn5)
     ·rw [if_neg hp] at m
      exact m _ _ G4 (R3.grow gD) ((s1.trans L13.ext).trans g4.gg) (RR.of_new R3 vn)
    | some d =>
     have hi : i < p.1.length := (List.getElem?_eq_some_iff.mp hd).1
     obtain ⟨go, yl⟩ := w1 d hd
     have ed : p.1.drop i = d :: p.1.drop (i + 1) := by
      rw [List.drop_eq_getElem_cons hi]
      congr 1
      exact Option.some.inj ((List.getElem?_eq_getElem hi).symm.trans hd)
     rw [ed] at hc
     unfold CZ at hc
     refine .inr ⟨go, fun x H3 hy => ?_⟩
     obtain ⟨G5, g5, dx⟩ := yl x H3 hy
     have g35 := g4.trans g5
     have Rr := mr (F := F) R3 ho g35
     rw [hρ] at Rr
     have hz : 0 < (rho 1 F σ).length := by rw [dY]; omega
     have Rs := Rr.store hz (r := .sh d) (v := x) (RR.sh dx)
     show tT K mg E0 tc ((rho 1 F σ).set 0 (some x)) H3 _
     refine ⟨G3, H1, G5, ρ.set 0 (some (.sh d)), Rs, ?_⟩
     cases e1 : tc (ρ.set 0 (some (.sh d))) with
     | exc y => rw [e1] at hc; cases hc
     | bad => rw [e1] at hc; cases hc
     | ok q =>
      rw [e1] at hc
      dsimp only at hc
      intro H6 G6 R6 s6
      split
      next hb =>
       rw [if_pos hb] at hc
       refine p7 R6 ?_
       cases e2 : vE te q.2 with
       | exc y => rw [e2] at hc; cases hc
       | bad => rw [e2] at hc; cases hc
       | ok u =>
        rw [e2] at hc
        dsimp only at hc
        obtain ⟨rest', er, rfl⟩ := Option.map_eq_some_iff.mp hc
        intro v H7 G7 R7 s7 hv
        refine ⟨by omega, mm - 1, by omega, G7, es ++ [u.1], rest', R7.g, ?_, by omega, by rw [List.length_append, List.length_singleton]; omega, er, by rw [List.append_assoc]; exact ht⟩
        exact (hys.mono ((g5.gg.trans s6).trans s7)).append (.cons hv .nil)
      next hb =>
       rw [if_neg hb] at hc
       exact ⟨mm - 1, by omega, G6, es, rest, R6.g, hys.mono (g5.gg.trans s6), by omega, by omega, hc, ht⟩
  next => exact m.elim
section
variable {X : Cx} {E : XK} {N0 : List Str} {sc0 scope : Scope} {x y : Str} {elt iter : Expr} {ifs : List Expr} {fc : DC} {tc : DT} {te : DE} {pos px py spos : Pos} {F : List Nat}
theorem gw : PTs X [] (tT X.K X.mg E De) := fun pins s σ H Q I ⟨G0, H0, G, δ, R, m⟩ => vB pins s σ H Q I (m H G R (.refl _))
theorem bB (hok : DF N0 sc0 x scope = true) (hF : Dg N0 scope = F) (hi : SIC X E (.Name x px) iter fc) (ht : ∀ cl C ex s H, PTs (CL X (x :: CB scope) scope cl C ex s H) ifs (tT X.K X.mg E0 tc)) (he : ∀ cl C ex s H, PE (CL X (x :: CB scope) scope cl C ex s H) elt (tE X.K X.mg E0 te)) (hN : X.N = N0 := by rfl)
  (hsc : X.env.scope = sc0 := by rfl) (hcm : X.calm = true := by rfl) (hs : ∀ x, foldedSetIterable iter X.env x = pure x := by intro _; rfl) : SE X E (.ListComp elt [⟨.Name x px, iter, ifs, 0⟩] scope pos) (Dc F fc tc te) := by
 subst hF
 exact (nz hok hi ht he hN hsc hcm hs).weak fun _ _ _ h => tY h
theorem vU (i : Nat) (hNd : X.N.Nodup) (hok : DF N0 sc0 x scope = true) (hF : Dg N0 scope = F) (hi : SIC X E (.Name x px) iter fc) (ht : ∀ cl C ex s H, PTs (CL X (x :: CB scope) scope cl C ex s H) ifs (tT X.K X.mg E0 tc)) (he : ∀ cl C ex s H, PE (CL X (x :: CB scope) scope cl C ex s H) elt (tE X.K X.mg E0 te))
  (hy : Ds X.N y = some i := by rfl) (hN : X.N = N0 := by rfl) (hsc : X.env.scope = sc0 := by rfl) (hcm : X.calm = true := by rfl) (hl : X.env.scope.names.lookup y = some .local := by rfl)
  (hsw : swapsWith (.ListComp elt [⟨.Name x px, iter, ifs, 0⟩] scope pos) (some (.Name y py)) spos.line X.env = pure true := by rfl) (hs : ∀ x, foldedSetIterable iter X.env x = pure x := by intro _; rfl) :
  S1 X E (.Assign [.Name y py] (.ListComp elt [⟨.Name x px, iter, ifs, 0⟩] scope pos) spos) (sAsg i (Dc F fc tc te)) := by
 subst hF
 exact (tP hok hi ht he hy hNd hN hsc hcm hl hsw hs).weak fun D σ H q => by
  have q' : tE X.K X.mg E (Dc (Dg N0 scope) fc tc te) σ H fun x H1 => Df i x σ H1 D.nx := tR q
  exact tY q'
end
section
variable {K : W.Frag} {mg : Cu} {ck : DEnv -> Bool} {m : Nat}
end
section
variable {X : Cx} {E : XK} {x : Str} {C : Addr} {B newId initId : String} {bmB : List Value} {t : TA} {e : Expr} {es : List Expr} {np cpos pos : Pos} {ck : DEnv -> Bool}
end
section
variable {K : W.Frag} {mg : Cu} {G0 H0 G H H' : Hp} {σ : St} {δ : DEnv} {i : Nat} {v : V}
end
section
variable {K : W.Frag} {mg : Cu} {E : XK} {φ : Ct -> Out SD} {ops : List Opd} {cat : Str -> Bool} {h : DS} {Cc : Value} {D : Ends} {σ : St} {H : Hp} {i : Nat}
end
section
variable {X : Cx} {E : XK} {x c n : Str} {k j i : Nat} {φ : Ct -> Out SD} {e : Expr} {es : List Expr} {ops : List Opd} {p pos pos' cp hp tpos : Pos} {cat : Str -> Bool} {h : DS} {Cc : Value} {b0 : Stmt} {suite : List Stmt}
end
end L2
namespace PySem.W
open PySem PySem.Spec PySem.Calls PyProof.Rows
end PySem.W
namespace L2
open PySem PySem.Spec PyProof.Rows
variable [Tabs]
section
variable {X : Cx} {E : XK} {x n : Str} {cat : Str -> Bool} {p q r pos : Pos}
end
section
variable {X : Cx} {E : XK} {x : Str} {pos : Pos} {c : Int}
theorem qD (h : ∃ t, X.mg x = some (.int c t)) (hg : Gl X x := by rfl) (hdb : (x == ("__debug__" : Str)) = false := by decide) : SE X E (.Name x pos) (eC (.int c)) := by
 obtain ⟨t, h⟩ := h
 exact vH h (v := .int c) ⟨t, rfl⟩ (fun _ => .int c) hg hdb
end
section
variable {P : Program} {w : World} {K : W.Frag} {mg : Cu} {base h : Heap} {x : Str} {st : Stmt} {f : Addr} {fd : FuncData}
structure CP (K : W.Frag) (mg : Cu) (x : Str) (st : Stmt) (f : Addr) (fd : FuncData) : Prop where
 fn : Fun K x x st f fd
 at_ : mg x = some (.ref f)
theorem aw {oc : Value} {od an : Option Addr} {osl : Array (Option Value)} {kV doc pm cdv ct : Value} (X : K.In h) (G : h.Ns mainGlobals mg) (a : W.nsIn K mainGlobals x = some (some (.ref f)))
  (l : K.lookup f = some ⟨oc, od, .func (W.fnOf x x (Dx st) (D7 st) (Cy st) .none kV doc pm an cdv ct), osl⟩) (c : W.codeIn K cdv x = true) (k : W.keepIn K (.ref f) = true) : CP K mg x st f (W.fnOf x x (Dx st) (D7 st) (Cy st) .none kV doc pm an cdv ct) :=
 ⟨xT l c k, W.mg_of X G a⟩
theorem ay {ps : List Str} {k : Nat} {φ : Ct -> Out SD} (A : CP K mg x st f fd) (ok : FnOk P w K mg base (CXe P w) k f fd ps (spD K mg φ))
  (b : ∀ (kV doc pm : Value) (an : Option Addr) (cdv ct : Value) (us : List Value), us.length = ps.length -> bindArgs (W.fnOf x x (Dx st) (D7 st) (Cy st) .none kV doc pm an cdv ct) ⟨us, []⟩ = pure (ps.zip us)) : DefD P w K mg base x k φ :=
 ⟨f, fd, ps, ok, A.at_, A.fn.kp, A.fn.binds b⟩
end
noncomputable def F1 (K : W.Frag) : Sp := fun vs H Q _ => ∃ (a : Addr) (ns : List Int), vs = [.ref a] /\ SqR K H a (ns.map V.int) /\ ns.length <= 63 /\ DW H /\ ∀ H', Q (.bl true) H'
theorem vV {K : W.Frag} {H : Hp} {a : Addr} {ns : List Int} (hs : SqR K H a (ns.map V.int)) : ∃ G, Same G H /\ NoT G /\ SqR K G a (ns.map V.int) := by
 refine ⟨fun b => match H b with | some (.tbl _) => none | o => o, fun b o e => ?_, fun b ps z => ?_, ?_⟩
 ·dsimp only at e
  split at e
  ·cases e
  ·exact e
 ·dsimp only at z
  split at z
  ·cases z
  ·rename_i h; exact h ps z
 ·rcases hs with (h | ⟨o, h⟩) | h
  ·exact .inl (.inl (by dsimp only; rw [h]))
  ·exact .inl (.inr ⟨o, by dsimp only; rw [h]⟩)
  ·exact .inr h
theorem rJ {K : W.Frag} {mg : Cu} {φ : Ct -> Out SD} (hφ : ∀ ns : List Int, ns.length <= 63 -> φ [.list (ns.map PyData.int)] = .ok (.sh (.bool true))) (vs : List V) (H : Hp) (Q : VK) (E : XK) (h : F1 K vs H Q E) : spD K mg φ vs H Q E := by
 obtain ⟨a, ns, rfl, hs, hl, tb, q⟩ := h
 obtain ⟨G, g1, g2, g3⟩ := vV hs
 refine ⟨G, [.list (ns.map .int)], ⟨g1, g2, tb⟩, .cons (.lst g3 (Dts.ints ns)) .nil, ?_⟩
 rw [hφ ns hl]
 intro v H' G' _ vn
 have := vn.1
 cases this
 exact q H'
theorem rK {P : Program} {w : World} (outer : List Env) (H : Hp) (s : Shared) (e : Value) (s' : Shared) (h : CXe P w outer H s (fun _ _ _ => False) e s') : False := by
 obtain ⟨_, _, _, _, _, z⟩ := h
 exact z
@[simp ↓] theorem Ah {α : Type} {c : Prop} [Decidable c] (a : α) : (if c then a else a) = a := by split <;> rfl
noncomputable def shOf : SD × DEnv -> Out (PyData × DEnv)
 | (.sh d, δ) => .ok (d, δ)
 | (.ol ds, δ) => .ok (.list ds, δ)
 | (.od es, δ) => .ok (.dict es, δ)
 | (.ex _, _) => .bad
@[simp] theorem Bc (d : PyData) (δ : DEnv) : shOf (.sh d, δ) = .ok (d, δ) := rfl
@[simp] theorem Bd (d : Ct) (δ : DEnv) : shOf (.ol d, δ) = .ok (.list d, δ) := rfl
@[simp] theorem Be (d : List (PyData × PyData)) (δ : DEnv) : shOf (.od d, δ) = .ok (.dict d, δ) := rfl
@[simp] theorem wW (f : DE) (δ : DEnv) : vE f δ = (f δ).bind shOf := by
 unfold vE
 cases f δ with
 | ok p => obtain ⟨r, δ'⟩ := p; cases r <;> rfl
 | exc x => rfl
 | bad => rfl
@[simp] theorem Bf (δ : DEnv) : evO [] δ = .ok ([], δ) := rfl
@[simp] theorem C6 (i : Nat) (r : List Opd) (δ : DEnv) : evO (.nm i :: r) δ = match δ[i]? with
  | some (some _) => (evO r δ).bind fun q => .ok (.inr i :: q.1, q.2)
  | _ => .bad := by rw [evO] <;> rfl
@[simp] theorem C7 (f : DE) (r : List Opd) (δ : DEnv) : evO (.ex f :: r) δ = (vE f δ).bind fun p => (evO r p.2).bind fun q => .ok (.inl p.1 :: q.1, q.2) := by rw [evO]
@[simp] theorem y9 : CQ [] = [] := rfl
@[simp] theorem Ai (d : PyData) (r : List (Sum PyData Nat)) : CQ (.inl d :: r) = CQ r := rfl
@[simp] theorem Aj (i : Nat) (r : List (Sum PyData Nat)) : CQ (.inr i :: r) = i :: CQ r := rfl
@[simp] theorem ya (δ : DEnv) : CD [] δ = δ := rfl
@[simp] theorem wX (i : Nat) (r : List Nat) (δ : DEnv) : CD (i :: r) δ = CD r (Du i δ) := rfl
@[simp] theorem z0 (i : Nat) (δ : DEnv) : Du i δ = match δ[i]? with
 | some (some (.ol ds)) => δ.set i (some (.sh (.list ds)))
 | some (some (.od es)) => δ.set i (some (.sh (.dict es)))
 | _ => δ := rfl
@[simp] theorem Ak (δ : DEnv) (i : Nat) : EZ δ i = match δ[i]? with
 | some (some (.sh d)) => some d
 | _ => none := rfl
@[simp] theorem z9 (δ : DEnv) : Do δ [] = some [] := rfl
@[simp] theorem Bg (δ : DEnv) (d : PyData) (r : List (Sum PyData Nat)) : Do δ (.inl d :: r) = (Do δ r).map (d :: ·) := rfl
@[simp] theorem Bh (δ : DEnv) (i : Nat) (r : List (Sum PyData Nat)) : Do δ (.inr i :: r) = (EZ δ i).bind fun d => (Do δ r).map (d :: ·) := rfl
noncomputable def Fu (p : List (Sum PyData Nat) × DEnv) : Out (Ct × DEnv × DEnv) := match Do (CD (CQ p.1) p.2) p.1 with
 | some ds => .ok (ds, p.2, CD (CQ p.1) p.2)
 | none => .bad
@[simp] theorem Al (l : List (Sum PyData Nat)) (δ : DEnv) : Fu (l, δ) = match Do (CD (CQ l) δ) l with
 | some ds => .ok (ds, δ, CD (CQ l) δ)
 | none => .bad := rfl
@[simp] theorem Bi (ops : List Opd) (δ : DEnv) : opds ops δ = (evO ops δ).bind Fu := rfl
@[simp] theorem C8 (o : Ct -> Option SD) (ops : List Opd) (δ : DEnv) : eOp o ops δ = (opds ops δ).bind fun p => fin2 (o p.1) p.2.1 p.2.2 := rfl
@[simp] theorem za (r : SD) (δ1 δ2 : DEnv) : fin2 (some r) δ1 δ2 = .ok (r, if r.pure = true then δ1 else δ2) := rfl
@[simp] theorem zb (δ1 δ2 : DEnv) : fin2 none δ1 δ2 = .bad := rfl
@[simp] theorem Bj (d : PyData) : (SD.sh d).pure = CI d := rfl
@[simp] theorem Bk (d : Ct) : (SD.ol d).pure = CA d := rfl
@[simp] theorem Bl (d : List (PyData × PyData)) : (SD.od d).pure = CA (d.map (·.2)) := rfl
@[simp] theorem zd (i : Int) : CI (.int i) = true := by simp [CI]
@[simp] theorem yb (i : Bool) : CI (.bool i) = true := by simp [CI]
@[simp] theorem ze (i : Str) : CI (.str i) = true := by simp [CI]
@[simp] theorem yc : CI .none = true := by simp [CI]
@[simp] theorem yd (l : Ct) : CI (.list l) = false := by simp [CI]
@[simp] theorem ye (l : List (PyData × PyData)) : CI (.dict l) = false := by simp [CI]
@[simp] theorem nI (l : Ct) : CI (.tuple l) = CA l := by simp [CI]
@[simp] theorem ph : CA [] = true := by simp [CA]
@[simp] theorem cW (d : PyData) (l : Ct) : CA (d :: l) = (CI d && CA l) := by simp [CA]
@[simp] theorem aJ (l : List Int) : CA (l.map PyData.int) = true := by induction l <;> simp_all
@[simp] theorem vc (l r : Ct) : CA (l ++ r) = (CA l && CA r) := by induction l <;> simp_all [Bool.and_assoc]
@[simp] theorem Cp (d : PyData) (δ : DEnv) : eC d δ = .ok (.sh d, δ) := rfl
@[simp] theorem Cq (i : Nat) (δ : DEnv) : eV i δ = match δ[i]? with
 | some (some (.sh d)) => .ok (.sh d, δ)
 | some (some (.ol ds)) => .ok (.sh (.list ds), δ.set i (some (.sh (.list ds))))
 | some (some (.od ds)) => .ok (.sh (.dict ds), δ.set i (some (.sh (.dict ds))))
 | _ => .bad := rfl
@[simp] theorem zf (δ : DEnv) : EI δ = .ok (.od [], δ) := rfl
@[simp] theorem Am (i j : Int) : dAdd [.int i, .int j] = some (.sh (.int (i + j))) := rfl
@[simp] theorem zg (x y : Ct) : dAdd [.list x, .list y] = if x.length + y.length <= sizeLine then some (.ol (x ++ y)) else none := rfl
@[simp] theorem yf (x y : Ct) : dAdd [.tuple x, .tuple y] = if x.length + y.length <= sizeLine then some (.sh (.tuple (x ++ y))) else none := rfl
@[simp] theorem An (x y : Str) : dAdd [.str x, .str y] = if x.length + y.length <= sizeLine then some (.sh (.str (x ++ y))) else none := rfl
@[simp] theorem Ao (i j : Int) : dSub [.int i, .int j] = some (.sh (.int (i - j))) := rfl
@[simp] theorem zh (i j : Int) : F0 [.int i, .int j] = if 0 < j /\ j < 1073741824 then some (.sh (.int (i / j))) else none := by simp [F0, dI2]
@[simp] theorem Ap (i j : Int) : dMod [.int i, .int j] = if 0 < j then some (.sh (.int (i % j))) else none := by simp [dMod, dI2]
@[simp] theorem Bn (i j : Int) : dLt [.int i, .int j] = some (.sh (.bool (decide (i < j)))) := rfl
@[simp] theorem Bo (i j : Int) : dLe [.int i, .int j] = some (.sh (.bool (decide (i <= j)))) := rfl
@[simp] theorem Bp (i j : Int) : dGt [.int i, .int j] = some (.sh (.bool (decide (j < i)))) := rfl
@[simp] theorem Bq (i j : Int) : dGe [.int i, .int j] = some (.sh (.bool (decide (j <= i)))) := rfl
@[simp] theorem Aq (i : Int) : dNeg [.int i] = some (.sh (.int (-i))) := rfl
@[simp] theorem Ar (i j : Int) : dMul [.int i, .int j] = if cMul i j = true then some (.sh (.int (i * j))) else none := rfl
@[simp] theorem iJ (xs : Ct) (k : Int) : dMul [.list xs, .int k] = if 0 <= k /\ k < 2 ^ 63 /\ xs.length * k.toNat <= sizeLine then some (.ol (List.replicate k.toNat xs).flatten) else none := rfl
@[simp] theorem C9 (x y : PyData) : dEq [x, y] = (dEqB x y).map fun b => .sh (.bool b) := rfl
@[simp] theorem Ca (x y : PyData) : dNe [x, y] = (dEqB x y).map fun b => .sh (.bool !b) := rfl
@[simp] theorem As (i j : Int) : dEqB (.int i) (.int j) = some (decide (i = j)) := rfl
@[simp] theorem zi (i j : Bool) : dEqB (.bool i) (.bool j) = some (decide (i = j)) := rfl
@[simp] theorem Au (i j : Str) : dEqB (.str i) (.str j) = some (decide (i = j)) := rfl
@[simp] theorem zj (x y : Ct) : dEqB (.list x) (.list y) = if SeqAt.shaped (.list x) = true /\ SeqAt.shaped (.list y) = true then some (PyData.eqv (.list x) (.list y)) else none := rfl
@[simp] theorem yg (x y : Ct) : dEqB (.tuple x) (.tuple y) = if SeqAt.shaped (.tuple x) = true /\ SeqAt.shaped (.tuple y) = true then some (PyData.eqv (.tuple x) (.tuple y)) else none := rfl
@[simp] theorem Br (x y : PyData) : dIdx [x, y] = (EG x y).map .sh := rfl
@[simp] theorem yh (xs : Ct) (i : Int) : EG (.list xs) (.int i) = atI xs i := rfl
@[simp] theorem wY (xs : Ct) (i : Int) : EG (.tuple xs) (.int i) = atI xs i := rfl
@[simp] theorem wZ (es : List (PyData × PyData)) (i : Int) : EG (.dict es) (.int i) = EF es (.inl i) := rfl
@[simp] theorem Bs (x : PyData) (i : Int) : dSlL [x, .int i] = slD x (some i) none := rfl
@[simp] theorem Bt (x : PyData) (i : Int) : dSlH [x, .int i] = slD x none (some i) := rfl
@[simp] theorem Av (xs : Ct) (lo hi : Option Int) : slD (.list xs) lo hi = some (.ol (cutD xs lo hi)) := rfl
@[simp] theorem zk (xs : Ct) (lo hi : Option Int) : slD (.tuple xs) lo hi = some (.sh (.tuple (cutD xs lo hi))) := rfl
@[simp] theorem zm (xs : Ct) : dLen [.list xs] = some (.sh (.int xs.length)) := rfl
@[simp] theorem yi (xs : Ct) : dLen [.tuple xs] = some (.sh (.int xs.length)) := rfl
@[simp] theorem zp (xs : List (PyData × PyData)) : dLen [.dict xs] = some (.sh (.int xs.length)) := rfl
@[simp] theorem Aw (i : Int) : dAbs [.int i] = some (.sh (.int (if i < 0 then -i else i))) := rfl
@[simp] theorem yj (xs : Ct) : Ea [.list xs] = some (.ol xs) := rfl
@[simp] theorem x8 (xs : Ct) : Ea [.tuple xs] = some (.ol xs) := rfl
@[simp] theorem yk (xs : List (PyData × PyData)) : Ea [.dict xs] = some (.ol (xs.map (·.1))) := rfl
@[simp] theorem x9 (xs : Ct) : E7 [.list xs] = some (.sh (.tuple xs)) := rfl
@[simp] theorem vW (xs : Ct) : E7 [.tuple xs] = some (.sh (.tuple xs)) := rfl
@[simp] theorem Bu (xs : Ct) : dTup xs = if xs.length <= sizeLine then some (.sh (.tuple xs)) else none := rfl
@[simp] theorem Bv (xs : Ct) : dLst xs = if xs.length <= sizeLine then some (.ol xs) else none := rfl
@[simp] theorem zq (xs : Ct) : Er [.list xs] = if xs.length < 64 then (CV xs).map fun ns => .ol ((D2 ns).map PyData.int) else none := rfl
@[simp] theorem nJ : ∀ ns : List Int, CV (ns.map PyData.int) = some ns
 | [] => rfl
 | n :: r => by simp [CV, nJ r]
@[simp] theorem zt (T : String) : dIsi T [.none] = some (.sh (.bool (isiD T .none))) := rfl
@[simp] theorem zu (T : String) (b : Bool) : dIsi T [.bool b] = some (.sh (.bool (isiD T (.bool b)))) := rfl
@[simp] theorem Ax (T : String) (i : Int) : dIsi T [.int i] = some (.sh (.bool (isiD T (.int i)))) := rfl
@[simp] theorem Ay (T : String) (i : Str) : dIsi T [.str i] = some (.sh (.bool (isiD T (.str i)))) := rfl
@[simp] theorem zv (T : String) (i : Ct) : dIsi T [.list i] = some (.sh (.bool (isiD T (.list i)))) := rfl
@[simp] theorem ym (T : String) (i : Ct) : dIsi T [.tuple i] = some (.sh (.bool (isiD T (.tuple i)))) := rfl
@[simp] theorem Az {n : Nat} (h : n <= 1000000) : n <= sizeLine := Nat.le_trans h (by decide)
@[simp] theorem xa (b : Bool) : DH (.bool b) = some b := rfl
@[simp] theorem yn (b : Int) : DH (.int b) = some (b != 0) := rfl
@[simp] theorem xb (b : Ct) : DH (.list b) = some (!b.isEmpty) := rfl
@[simp] theorem vX (b : Ct) : DH (.tuple b) = some (!b.isEmpty) := rfl
@[simp] theorem xc : DH .none = some false := rfl
noncomputable def truO (p : Ct × DEnv × DEnv) : Out (Bool × DEnv) := match p.1 with
 | [d] => (match DH d with
  | some b => .ok (b, p.2.1)
  | none => .bad)
 | _ => .bad
@[simp] theorem Bw (d : PyData) (δ1 δ2 : DEnv) : truO ([d], δ1, δ2) = match DH d with
  | some b => .ok (b, δ1)
  | none => .bad := rfl
@[simp] theorem Bx (o : Opd) (δ : DEnv) : tstO o δ = (opds [o] δ).bind truO := rfl
noncomputable def truV (p : SD × DEnv) : Out (Bool × DEnv) := match p.1 with
 | .sh (.bool b) => .ok (b, p.2)
 | _ => .bad
@[simp] theorem Cb (b : Bool) (δ : DEnv) : truV (.sh (.bool b), δ) = .ok (b, δ) := rfl
@[simp] theorem By (f : DE) (δ : DEnv) : tstV f δ = (f δ).bind truV := rfl
@[simp] theorem zw (f : DT) (δ : DEnv) : CM f δ = (f δ).bind fun p => .ok (!p.1, p.2) := rfl
@[simp] theorem zx (f g : DT) (δ : DEnv) : Es f g δ = (f δ).bind fun p => if p.1 = true then g p.2 else .ok (false, p.2) := rfl
@[simp] theorem AC (f g : DT) (δ : DEnv) : Dh f g δ = (f δ).bind fun p => if p.1 = true then .ok (true, p.2) else g p.2 := rfl
@[simp] theorem zy (δ : DEnv) : De δ = .ok (true, δ) := rfl
@[simp] theorem Bz (f : DE) (δ : DEnv) : eNot f δ = (f δ).bind fun p => (truV p).bind fun q => .ok (.sh (.bool !q.1), q.2) := by
 unfold eNot
 congr 1
 funext p
 obtain ⟨r, δ'⟩ := p
 cases r with
 | sh d => cases d <;> rfl
 | _ => rfl
@[simp] theorem BA (f g : DE) (δ : DEnv) : eAnd f g δ = (f δ).bind fun p => (truV p).bind fun q => if q.1 = true then g q.2 else .ok (.sh (.bool false), q.2) := by
 unfold eAnd
 congr 1
 funext p
 obtain ⟨r, δ'⟩ := p
 cases r with
 | sh d => cases d <;> rfl
 | _ => rfl
@[simp] theorem Cd (t : DT) (f g : DE) (δ : DEnv) : eIf t f g δ = (t δ).bind fun p => if p.1 = true then f p.2 else g p.2 := rfl
@[simp] theorem AE (φ : Ct -> Out SD) (ops : List Opd) (δ : DEnv) : CJ φ ops δ = (opds ops δ).bind fun p => (φ p.1).bind fun r => .ok (r, if r.pure = true then p.2.1 else p.2.2) := rfl
noncomputable def SOut.andThen (x : SOut) (g : DS) : SOut := match x with
 | .nx δ => g δ
 | r => r
@[simp] theorem yo (δ : DEnv) (g : DS) : (SOut.nx δ).andThen g = g δ := rfl
@[simp] theorem yp (r : SD) (g : DS) : (SOut.rt r).andThen g = .rt r := rfl
@[simp] theorem yq (δ : DEnv) (g : DS) : (SOut.bk δ).andThen g = .bk δ := rfl
@[simp] theorem yr (δ : DEnv) (g : DS) : (SOut.ct δ).andThen g = .ct δ := rfl
@[simp] theorem xf (x : Str) (g : DS) : (SOut.exc x).andThen g = .exc x := rfl
@[simp] theorem xg (g : DS) : SOut.bad.andThen g = .bad := rfl
@[simp] theorem BB (f g : DS) (δ : DEnv) : sSeq f g δ = (f δ).andThen g := rfl
noncomputable def Out.elimS {α : Type} (x : Out α) (f : α -> SOut) : SOut := match x with
 | .ok a => f a
 | .exc x => .exc x
 | .bad => .bad
@[simp] theorem AF {α : Type} (a : α) (f : α -> SOut) : (Out.ok a).elimS f = f a := rfl
@[simp] theorem zB {α : Type} (x : Str) (f : α -> SOut) : (Out.exc x : Out α).elimS f = .exc x := rfl
@[simp] theorem zC {α : Type} (f : α -> SOut) : (Out.bad : Out α).elimS f = .bad := rfl
@[simp] theorem AG (δ : DEnv) : CO δ = .nx δ := rfl
@[simp] theorem BC (i : Nat) (f : DE) (δ : DEnv) : sAsg i f δ = (f δ).elimS fun p => if i < p.2.length then .nx (p.2.set i (some p.1)) else .bad := by unfold sAsg; cases f δ <;> rfl
@[simp] theorem BE (f : DE) (δ : DEnv) : sRet f δ = (f δ).elimS fun p => .rt p.1 := by unfold sRet; cases f δ <;> rfl
@[simp] theorem AI (i : Nat) (δ : DEnv) : Et i δ = match δ[i]? with
 | some (some r) => .rt r
 | _ => .bad := rfl
@[simp] theorem Ce (t : DT) (f g : DS) (δ : DEnv) : sIf t f g δ = (t δ).elimS fun p => if p.1 = true then f p.2 else g p.2 := by unfold sIf; cases t δ <;> rfl
@[simp] theorem BF (fi : DA) (k : DG) (fb : DS) (δ : DEnv) : sFor fi k fb δ = (fi δ).elimS fun p => forL k fb p.1 p.2 := by unfold sFor; cases fi δ <;> rfl
@[simp] theorem AJ (k : DG) (fb : DS) (δ : DEnv) : forL k fb [] δ = .nx δ := rfl
noncomputable def SOut.turn (x : SOut) (g : DS) : SOut := match x with
 | .nx δ => g δ
 | .ct δ => g δ
 | .bk δ => .nx δ
 | .rt r => .rt r
 | .exc x => .exc x
 | .bad => .bad
@[simp] theorem vY (δ : DEnv) (g : DS) : (SOut.nx δ).turn g = g δ := rfl
@[simp] theorem BG (r : SD) (g : DS) : (SOut.rt r).turn g = .rt r := rfl
@[simp] theorem BH (δ : DEnv) (g : DS) : (SOut.bk δ).turn g = .nx δ := rfl
@[simp] theorem BI (δ : DEnv) (g : DS) : (SOut.ct δ).turn g = g δ := rfl
@[simp] theorem AK (x : Str) (g : DS) : (SOut.exc x).turn g = .exc x := rfl
@[simp] theorem AL (g : DS) : SOut.bad.turn g = .bad := rfl
theorem aI (k : DG) (fb : DS) (d : PyData) (ds : Ct) (δ : DEnv) : forL k fb (d :: ds) δ = match k d δ with
  | none => .bad
  | some δ1 => (fb δ1).turn (forL k fb ds) := by
 rw [forL]
 cases k d δ with
 | none => rfl
 | some δ1 => simp only; cases fb δ1 <;> rfl
@[simp] theorem Cr (i : Nat) (d : PyData) (δ : DEnv) : kN i d δ = if i < δ.length then some (δ.set i (some (.sh d))) else none := rfl
@[simp] theorem BJ (is : List Nat) (ds : Ct) (δ : DEnv) : kTup is (.tuple ds) δ = kNs is ds δ := rfl
@[simp] theorem BK (δ : DEnv) : kNs [] [] δ = some δ := rfl
@[simp] theorem AM (i : Nat) (is : List Nat) (d : PyData) (ds : Ct) (δ : DEnv) : kNs (i :: is) (d :: ds) δ = (kN i d δ).bind (kNs is ds) := rfl
noncomputable def seqI (p : PyData × DEnv) : Out (Ct × DEnv) := match p.1 with
 | .list xs => .ok (xs, p.2)
 | .tuple xs => .ok (xs, p.2)
 | _ => .bad
@[simp] theorem zD (xs : Ct) (δ : DEnv) : seqI (.list xs, δ) = .ok (xs, δ) := rfl
@[simp] theorem yt (xs : Ct) (δ : DEnv) : seqI (.tuple xs, δ) = .ok (xs, δ) := rfl
@[simp] theorem eW (f : DE) (δ : DEnv) : DJ f δ = (vE f δ).bind seqI := rfl
noncomputable def Fv (p : PyData × DEnv) : Out (Ct × DEnv) := match p.1 with
 | .list xs => .ok (Dy 0 xs, p.2)
 | _ => .bad
@[simp] theorem yu (xs : Ct) (δ : DEnv) : Fv (.list xs, δ) = .ok (Dy 0 xs, δ) := rfl
@[simp] theorem zE (f : DE) (δ : DEnv) : EJ f δ = (vE f δ).bind Fv := rfl
noncomputable def r1I (p : Ct × DEnv × DEnv) : Out (Ct × DEnv) := match p.1 with
 | [.int j] => if rngB j = true then .ok (rngI 0 j.toNat, p.2.1) else .bad
 | _ => .bad
@[simp] theorem Cf (j : Int) (δ1 δ2 : DEnv) : r1I ([.int j], δ1, δ2) = if rngB j = true then .ok (rngI 0 j.toNat, δ1) else .bad := rfl
@[simp] theorem BL (ops : List Opd) (δ : DEnv) : itR1 ops δ = (opds ops δ).bind r1I := rfl
noncomputable def seqC (p : Ct × DEnv × DEnv) : Out (Ct × DEnv × DEnv) := match p.1 with
 | [.list xs] => .ok (xs, p.2.1, p.2.2)
 | [.tuple xs] => .ok (xs, p.2.1, p.2.2)
 | _ => .bad
@[simp] theorem zF (xs : Ct) (δ1 δ2 : DEnv) : seqC ([.list xs], δ1, δ2) = .ok (xs, δ1, δ2) := rfl
@[simp] theorem yv (xs : Ct) (δ1 δ2 : DEnv) : seqC ([.tuple xs], δ1, δ2) = .ok (xs, δ1, δ2) := rfl
@[simp] theorem AN (o : Opd) (δ : DEnv) : Dz o δ = (opds [o] δ).bind seqC := rfl
noncomputable def r1C (p : Ct × DEnv × DEnv) : Out (Ct × DEnv × DEnv) := match p.1 with
 | [.int j] => if rngB j = true then .ok (rngI 0 j.toNat, p.2.1, p.2.2) else .bad
 | _ => .bad
@[simp] theorem Cg (j : Int) (δ1 δ2 : DEnv) : r1C ([.int j], δ1, δ2) = if rngB j = true then .ok (rngI 0 j.toNat, δ1, δ2) else .bad := rfl
@[simp] theorem BN (o : Opd) (δ : DEnv) : icR1 o δ = (opds [o] δ).bind r1C := rfl
@[simp] theorem BO (δ : DEnv) (i : Nat) : isOl δ i = match δ[i]? with
 | some (some (.ol ds)) => some ds
 | _ => none := rfl
@[simp] theorem BP (δ : DEnv) (i : Nat) : isOd δ i = match δ[i]? with
 | some (some (.od ds)) => some ds
 | _ => none := rfl
@[simp] theorem BQ (up : Ct -> Ct -> Option Ct) (i : Nat) (o : Opd) (δ : DEnv) : sMut up i o δ = match isOl δ i with
 | none => .bad
 | some _ => (opds [o] δ).elimS fun p => match isOl p.2.2 i with
   | none => .bad
   | some ds => match up ds p.1 with
    | some ds' => .nx (p.2.2.set i (some (.ol ds')))
    | none => .bad := by unfold sMut; cases isOl δ i <;> first | rfl | (simp only; cases opds [o] δ <;> rfl)
@[simp] theorem AO (ds : Ct) (d : PyData) : Eu ds [d] = if ds.length < sizeLine then some (ds ++ [d]) else none := rfl
noncomputable def putP (i : Nat) (p : Ct × DEnv × DEnv) : SOut := match isOd p.2.2 i, p.1 with
   | some es, [d, k] => (match CY k with
    | some k => if es.length < sizeLine then .nx (p.2.2.set i (some (.od (putD es k d)))) else .bad
    | none => .bad)
   | _, _ => .bad
@[simp] theorem AQ (i : Nat) (d : PyData) (k : Int) (δ1 δ2 : DEnv) : putP i ([d, .int k], δ1, δ2) = match isOd δ2 i with
  | some es => if es.length < sizeLine then .nx (δ2.set i (some (.od (putD es (.inl k) d)))) else .bad
  | none => .bad := by
 unfold putP
 cases isOd δ2 i <;> rfl
@[simp] theorem BR (i : Nat) (ov ok : Opd) (δ : DEnv) : sPut i ov ok δ = match isOd δ i with
 | none => .bad
 | some _ => (opds [ov, ok] δ).elimS (putP i) := by unfold sPut; cases isOd δ i <;> first | rfl | (simp only; cases opds [ov, ok] δ <;> rfl)
noncomputable def SOut.fin (x : SOut) : Out SD := match x with
 | .nx _ => .ok (.sh .none)
 | .rt r => .ok r
 | .exc x => .exc x
 | _ => .bad
@[simp] theorem Ci (δ : DEnv) : (SOut.nx δ).fin = .ok (.sh .none) := rfl
@[simp] theorem Cj (r : SD) : (SOut.rt r).fin = .ok r := rfl
@[simp] theorem BS (x : Str) : (SOut.exc x).fin = .exc x := rfl
@[simp] theorem BU (n m : Nat) (f : DS) (ds : Ct) : runB n m f ds = if ds.length = m then (f (start0 n m ds)).fin else .bad := rfl
@[simp] theorem zG (n m : Nat) (ds : Ct) : start0 n m ds = ds.map (fun d => some (.sh d)) ++ List.replicate (n - m) none := rfl
@[simp] theorem AR (F : List Nat) (fc : DC) (tc : DT) (te : DE) (δ : DEnv) : Dc F fc tc te δ = (fc δ).bind fun p => if p.1.length <= sizeLine then (match CZ (rhoD F (CD F p.2.2)) tc te p.1 with
 | some ys => .ok (.ol ys, if CA ys = true then p.2.1 else CD F p.2.2)
 | none => .bad) else .bad := rfl
@[simp] theorem BV (F : List Nat) (δ : DEnv) : rhoD F δ = none :: F.map fun j => (δ[j]?).join := rfl
theorem aV {ρ : DEnv} {tc : DT} {te : DE} {b : PyData -> Bool} {y : PyData -> PyData} : ∀ {ds : Ct}, (∀ d ∈ ds, ∃ ρ', tc (ρ.set 0 (some (.sh d))) = .ok (b d, ρ') /\ (b d = true -> ∃ ρ'', vE te ρ' = .ok (y d, ρ''))) -> CZ ρ tc te ds = some ((ds.filter b).map y)
 | [], _ => rfl
 | d :: ds, h => by
  obtain ⟨ρ', h1, h2⟩ := h d (List.mem_cons_self ..)
  have ih := aV (ds := ds) fun d' hd => h d' (List.mem_cons_of_mem _ hd)
  rw [CZ, h1]
  dsimp only
  cases hb : b d with
  | true =>
   obtain ⟨ρ'', h3⟩ := h2 hb
   rw [if_pos rfl, h3, ih, List.filter_cons, if_pos hb]
   rfl
  | false => rw [if_neg Bool.false_ne_true, ih, List.filter_cons, if_neg (by rw [hb]; exact Bool.false_ne_true)]
theorem eY {ρ : DEnv} {te : DE} {y : PyData -> PyData} {ds : Ct} (h : ∀ d ∈ ds, ∃ ρ'', vE te (ρ.set 0 (some (.sh d))) = .ok (y d, ρ'')) : CZ ρ De te ds = some (ds.map y) := by
 have := aV (ρ := ρ) (tc := De) (te := te) (b := fun _ => true) (y := y) (ds := ds) fun d hd => ⟨_, rfl, fun _ => h d hd⟩
 rw [this]
 congr 2
 exact List.filter_eq_self.mpr fun _ _ => rfl
noncomputable def D4 (n : Nat) (d : PyData) : Prop := d.canLay0 = true /\ d.depth <= n
theorem D4.mono {n m : Nat} {d : PyData} (h : D4 n d) (e : n <= m) : D4 m d := ⟨h.1, Nat.le_trans h.2 e⟩
theorem g8 (n : Nat) (i : Int) : D4 n (.int i) := ⟨by simp [PyData.canLay0], by simp [PyData.depth]⟩
theorem rL (n : Nat) : D4 n .none := ⟨by simp [PyData.canLay0], by simp [PyData.depth]⟩
theorem jK (n : Nat) (s : Str) (h : PyData.strOk s = true) : D4 n (.str s) := ⟨by simpa [PyData.canLay0] using h, by simp [PyData.depth]⟩
theorem jL {n : Nat} : ∀ {xs : Ct}, (∀ x ∈ xs, D4 n x) -> PyData.canLayAll0 xs = true /\ PyData.depthAll xs <= n
 | [], _ => ⟨by simp [PyData.canLayAll0], by simp [PyData.depthAll]⟩
 | x :: r, h => by
  obtain ⟨h1, h2⟩ := jL (n := n) (xs := r) fun y hy => h y (List.mem_cons_of_mem _ hy)
  obtain ⟨g1, g2⟩ := h x (List.mem_cons_self ..)
  exact ⟨by simp [PyData.canLayAll0, g1, h1], by simp only [PyData.depthAll]; lia⟩
theorem aQ {n : Nat} {xs : Ct} (h : ∀ x ∈ xs, D4 n x) : D4 (n + 1) (.list xs) := by
 obtain ⟨h1, h2⟩ := jL h
 exact ⟨by simpa [PyData.canLay0] using h1, by simp only [PyData.depth]; lia⟩
theorem cG {n : Nat} {xs : Ct} (h : ∀ x ∈ xs, D4 n x) : D4 (n + 1) (.tuple xs) := by
 obtain ⟨h1, h2⟩ := jL h
 exact ⟨by simpa [PyData.canLay0] using h1, by simp only [PyData.depth]; lia⟩
theorem nK {n : Nat} {xs : Ct} (h : D4 n (.tuple xs)) : ∀ x ∈ xs, D4 n x := by
 obtain ⟨h1, h2⟩ := h
 have h1' : PyData.canLayAll0 xs = true := by simpa [PyData.canLay0] using h1
 simp only [PyData.depth] at h2
 intro x hx
 have : ∀ {ys : Ct}, PyData.canLayAll0 ys = true -> x ∈ ys -> x.canLay0 = true /\ x.depth <= PyData.depthAll ys := fun {ys} c m => by
  induction ys with
  | nil => cases m
  | cons y r ih =>
   simp only [PyData.canLayAll0, Bool.and_eq_true] at c
   simp only [PyData.depthAll]
   rcases List.mem_cons.mp m with z | z
   ·subst z; exact ⟨c.1, by lia⟩
   ·obtain ⟨a, b⟩ := ih c.2 z; exact ⟨a, by lia⟩
 obtain ⟨a, b⟩ := this h1' hx
 exact ⟨a, by lia⟩
theorem D4.shaped {n : Nat} {d : PyData} (h : D4 n d) (hn : n <= 64) : SeqAt.shaped d = true := by
 unfold SeqAt.shaped
 rw [h.1, Bool.true_and]
 exact decide_eq_true (Nat.le_trans h.2 hn)
theorem D4.nd {n : Nat} {d : PyData} (h : D4 n d) : ∀ es, d ≠ .dict es := fun es e => by
 subst e
 have := h.1
 simp [PyData.canLay0] at this
theorem cH (n : Nat) (ns : List Int) : ∀ x ∈ ns.map PyData.int, D4 n x := fun x hx => by
 obtain ⟨i, _, rfl⟩ := List.mem_map.mp hx
 exact g8 n i
mutual
theorem jM : ∀ d : PyData, d.canLay0 = true -> PyData.eqv d d = true
 | .none, _ => by simp [PyData.eqv]
 | .bool b, _ => by simp [PyData.eqv]
 | .int i, _ => by simp [PyData.eqv]
 | .str x, _ => by simp [PyData.eqv]
 | .list xs, h => by simp only [PyData.eqv]; exact g9 xs (by simpa [PyData.canLay0] using h)
 | .tuple xs, h => by simp only [PyData.eqv]; exact g9 xs (by simpa [PyData.canLay0] using h)
 | .dict _, h => by simp [PyData.canLay0] at h
theorem g9 : ∀ ds : Ct, PyData.canLayAll0 ds = true -> PyData.eqvAll ds ds = true
 | [], _ => by simp [PyData.eqvAll]
 | d :: r, h => by
  have h' := Bool.and_eq_true_iff.mp (by simpa [PyData.canLayAll0] using h)
  simp only [PyData.eqvAll, Bool.and_eq_true]
  exact ⟨jM d h'.1, g9 r h'.2⟩
end
theorem dZ (xs : Ct) : PyData.eqv (.list xs) (.list []) = xs.isEmpty := by
 simp only [PyData.eqv]
 cases xs <;> simp [PyData.eqvAll]
theorem aE {n : Nat} (h : n <= 1000) : n <= sizeLine := Nat.le_trans h (by decide)
theorem gx {n : Nat} (h : n <= 1000) : n < sizeLine := Nat.lt_of_le_of_lt h (by decide)
theorem iK {α : Type} {xs : List α} {i : Int} (h0 : 0 <= i) (h1 : i < xs.length) : atI xs i = some (xs[i.toNat]'(by lia)) := by
 unfold atI ixN
 rw [if_pos h0, if_pos h1]
 exact List.getElem?_eq_getElem (by lia)
theorem mw {i : Int} (h0 : -1000000 <= i) (h1 : i <= 1000000) : rngB i = true := by
 unfold rngB
 exact decide_eq_true ⟨by lia, by lia⟩
noncomputable def isWh : PyData -> Bool
 | .int _ => true
 | _ => false
theorem AS {d : PyData} (h : ∀ es, d ≠ .dict es) : (isiD "int" d && !isiD "bool" d) = isWh d := by
 cases d <;> first | rfl | exact absurd rfl (h _)
theorem qE {d : PyData} (T : String) (h : ∀ es, d ≠ .dict es) : dIsi T [d] = some (.sh (.bool (isiD T d))) := by
 cases d <;> first | rfl | exact absurd rfl (h _)
noncomputable def absI (p : Int) : Int := if p < 0 then -p else p
noncomputable def E3 (many : Int) : Int -> Ct -> Option Int
 | last, [] => some last
 | last, .int p :: r => if absI p <= last \/ many < absI p then none else E3 many (absI p) r
 | _, _ :: _ => none
noncomputable def Eb (many : Int) : PyData -> Bool
 | .tuple ds => (E3 many 0 ds).isSome
 | _ => false
noncomputable def F2 (ns : List Int) (k : Int) : Int := if k < ns.length then ns.getD k.toNat 0 else if ns = [] then 0 else ns.getD (k % ns.length).toNat 0 * 31 + k
noncomputable def DX (ns : List Int) (k : Int) : Int := (F2 ns k + 7919 * k + 1) * 48271 % 2147483647
noncomputable def mixZ (ns : List Int) (k m : Int) : Int := (DX ns k * DX ns k + 7 * DX ns k + k) % 2147483629 % m
theorem rM (ns : List Int) (k : Int) : 0 <= DX ns k := Int.emod_nonneg _ (by decide)
theorem rN (ns : List Int) (k : Int) : DX ns k < 2147483647 := Int.emod_lt_of_pos _ (by decide)
theorem fw (ns : List Int) (k : Int) {m : Int} (h : 0 < m) : 0 <= mixZ ns k m := Int.emod_nonneg _ (by lia)
theorem fx (ns : List Int) (k : Int) {m : Int} (h : 0 < m) : mixZ ns k m < m := Int.emod_lt_of_pos _ h
theorem my {i j : Int} (h0 : -1000000000000 <= j) (h1 : j <= 1000000000000) : cMul i j = true := by
 unfold cMul
 exact decide_eq_true (.inr ⟨by lia, by lia⟩)
theorem mz {i j : Int} (h0 : -1000000000000 <= i) (h1 : i <= 1000000000000) : cMul i j = true := by
 unfold cMul
 exact decide_eq_true (.inl ⟨by lia, by lia⟩)
abbrev scr (ns : List Int) : PyData := .list (ns.map PyData.int)
theorem ij {ns : List Int} {i : Int} (h0 : 0 <= i) (h1 : i < ns.length) : atI (ns.map PyData.int) i = some (.int (ns.getD i.toNat 0)) := by
 rw [iK h0 (by simpa using h1)]
 simp only [List.getElem_map]
 rw [List.getD_eq_getElem?_getD, List.getElem?_eq_getElem (by lia)]
 rfl
theorem nL {k : DG} {fb : DS} (inv : Nat -> DEnv -> Prop) : ∀ (ds : Ct) (j : Nat) (δ : DEnv), inv j δ -> (∀ i d δ, ds[i]? = some d -> inv (j + i) δ -> ∃ δ1, k d δ = some δ1 /\ ∃ δ2, fb δ1 = .nx δ2 /\ inv (j + i + 1) δ2) -> ∃ δ', forL k fb ds δ = .nx δ' /\ inv (j + ds.length) δ'
 | [], j, δ, h0, _ => ⟨δ, rfl, h0⟩
 | d :: r, j, δ, h0, hs => by
  obtain ⟨δ1, e1, δ2, e2, h2⟩ := hs 0 d δ rfl h0
  obtain ⟨δ', e3, h3⟩ := nL inv r (j + 1) δ2 h2 fun i d' δ3 e h => by
   have := hs (i + 1) d' δ3 (by simpa using e) (by rw [show j + (i + 1) = j + 1 + i by lia]; exact h)
   rwa [show j + (i + 1) + 1 = j + 1 + i + 1 by lia] at this
  refine ⟨δ', ?_, by rw [List.length_cons, show j + (r.length + 1) = j + 1 + r.length by lia]; exact h3⟩
  rw [aI, e1]
  simp only [e2, vY]
  exact e3
theorem jN {k : DG} {fb : DS} {lo : Int} {n : Nat} {δ : DEnv} (inv : Nat -> DEnv -> Prop) (h0 : inv 0 δ) (hs : ∀ i δ, i < n -> inv i δ -> ∃ δ1, k (.int (lo + i)) δ = some δ1 /\ ∃ δ2, fb δ1 = .nx δ2 /\ inv (i + 1) δ2) : ∃ δ', forL k fb (rngI lo n) δ = .nx δ' /\ inv n δ' := by
 obtain ⟨δ', e, h⟩ := nL (k := k) (fb := fb) inv (rngI lo n) 0 δ h0 fun i d δ e h => by
  have hi : i < n := by have := (List.getElem?_eq_some_iff.mp e).1; rwa [g6] at this
  unfold rngI at e
  rw [List.getElem?_map, List.getElem?_range hi] at e
  cases e
  rw [Nat.zero_add] at h ⊢
  exact hs i δ hi h
 exact ⟨δ', e, by rw [g6, Nat.zero_add] at h; exact h⟩
noncomputable def encP (ps : List (Int × Int)) : List (PyData × PyData) := ps.map fun p => (.int p.1, .int p.2)
noncomputable def putZ (ps : List (Int × Int)) (t v : Int) : List (Int × Int) := if (ps.any fun p => decide (p.1 = t)) = true then ps.map (fun p => if p.1 = t then (p.1, v) else p) else ps ++ [(t, v)]
noncomputable def valZ (ps : List (Int × Int)) (t : Int) : Option Int := (ps.find? fun p => decide (p.1 = t)).map (·.2)
noncomputable def E4 (ps : List (Int × Int)) : List Int := ps.map (·.1)
@[simp] theorem zH (ps : List (Int × Int)) : (encP ps).map (·.1) = (E4 ps).map PyData.int := by
 unfold encP E4; rw [List.map_map, List.map_map]; rfl
@[simp] theorem AU (ps : List (Int × Int)) : (encP ps).length = ps.length := by unfold encP; rw [List.length_map]
@[simp] theorem zI (ps : List (Int × Int)) : (E4 ps).length = ps.length := by unfold E4; rw [List.length_map]
@[simp] theorem AV : encP [] = [] := rfl
theorem nM (t : Int) : ∀ ps : List (Int × Int), ((encP ps).any fun p => decide (CY p.1 = some (.inl t))) = ps.any fun p => decide (p.1 = t)
 | [] => rfl
 | p :: r => by
  have ih := nM t r
  unfold encP at ih ⊢
  rw [List.map_cons, List.any_cons, List.any_cons, ih]
  congr 1
  simp [CY]
theorem tZ (ps : List (Int × Int)) (t v : Int) : putD (encP ps) (.inl t) (.int v) = encP (putZ ps t v) := by
 unfold putD putZ
 rw [nM]
 split
 ·unfold encP
  rw [List.map_map, List.map_map]
  apply List.map_congr_left
  intro p _
  simp only [Function.comp]
  by_cases h : p.1 = t
  ·simp [CY, h]
  ·simp [CY, h]
 ·simp [encP, keyD]
theorem lE (t : Int) : ∀ ps : List (Int × Int), EF (encP ps) (.inl t) = (valZ ps t).map PyData.int
 | [] => rfl
 | p :: r => by
  have ih := lE t r
  unfold EF valZ encP at ih ⊢
  rw [List.map_cons, List.find?_cons, List.find?_cons]
  by_cases h : p.1 = t
  ·simp [CY, h]
  ·simp only [CY, h, Option.some.injEq, Sum.inl.injEq, decide_false]
   exact ih
theorem rO (ps : List (Int × Int)) (t v : Int) : ((putZ ps t v).map (·.1)) = if t ∈ ps.map (·.1) then ps.map (·.1) else ps.map (·.1) ++ [t] := by
 have e : (ps.any fun p => decide (p.1 = t)) = true ↔ t ∈ ps.map (·.1) := by
  rw [List.any_eq_true, List.mem_map]
  constructor
  ·rintro ⟨p, h1, h2⟩; exact ⟨p, h1, of_decide_eq_true h2⟩
  ·rintro ⟨p, h1, h2⟩; exact ⟨p, h1, decide_eq_true h2⟩
 unfold putZ
 by_cases h : t ∈ ps.map (·.1)
 ·rw [if_pos (e.mpr h), if_pos h, List.map_map]
  apply List.map_congr_left
  intro p _
  simp only [Function.comp]
  split <;> rfl
 ·rw [if_neg (fun z => h (e.mp z)), if_neg h]
  simp
theorem rP {ps : List (Int × Int)} {t v : Int} {Q : Int -> Prop} (h : ∀ p ∈ ps, Q p.2) (hv : Q v) : ∀ p ∈ putZ ps t v, Q p.2 := by
 unfold putZ
 split
 ·intro p hp
  obtain ⟨q, hq, rfl⟩ := List.mem_map.mp hp
  split
  ·exact hv
  ·exact h q hq
 ·intro p hp
  rcases List.mem_append.mp hp with z | z
  ·exact h p z
  ·simp at z; rw [z]; exact hv
theorem qF {ps : List (Int × Int)} {t : Int} (h : t ∈ ps.map (·.1)) : ∃ v, valZ ps t = some v /\ ∃ p ∈ ps, p.2 = v := by
 obtain ⟨p, hp, rfl⟩ := List.mem_map.mp h
 unfold valZ
 cases e : ps.find? fun q => decide (q.1 = p.1) with
 | none =>
  have := List.find?_eq_none.mp e p hp
  simp at this
 | some q => exact ⟨q.2, rfl, q, List.mem_of_find?_eq_some e, rfl⟩
structure CU (many : Int) (s : List Int) : Prop where
 rise : (s.map absI).Pairwise (· < ·)
 low : ∀ p ∈ s, 1 <= absI p /\ absI p <= many
noncomputable def encS (s : List Int) : PyData := .tuple (s.map PyData.int)
noncomputable def Cz (ss : List (List Int)) : Ct := ss.map encS
@[simp] theorem aS (s : List Int) : CI (encS s) = true := by unfold encS; rw [nI]; exact aJ s
@[simp] theorem aN (ss : List (List Int)) : CA (Cz ss) = true := by
 unfold Cz
 induction ss with
 | nil => exact ph
 | cons s r ih => rw [List.map_cons, cW, aS, ih]; rfl
@[simp] theorem bH (ss : List (List Int)) : (Cz ss).length = ss.length := by unfold Cz; rw [List.length_map]
theorem jO {many : Int} : ∀ (s : List Int) (last : Int), (E3 many last (s.map PyData.int)).isSome = true ↔ (s.map absI).Pairwise (· < ·) /\ ∀ p ∈ s, last < absI p /\ absI p <= many
 | [], last => by simp [E3]
 | p :: r, last => by
  simp only [List.map_cons, E3]
  split
  next h =>
   constructor
   ·intro z; simp at z
   ·rintro ⟨_, z⟩
    have := z p (List.mem_cons_self ..)
    lia
  next h =>
   rw [jO r (absI p)]
   simp only [List.pairwise_cons, List.mem_map, forall_exists_index, and_imp, forall_apply_eq_imp_iff₂, List.mem_cons, forall_eq_or_imp]
   constructor
   ·rintro ⟨h1, h2⟩
    exact ⟨⟨fun q hq => (h2 q hq).1, h1⟩, by lia, fun q hq => ⟨by have := (h2 q hq).1; lia, (h2 q hq).2⟩⟩
   ·rintro ⟨⟨h1, h2⟩, h3, h4⟩
    exact ⟨h2, fun q hq => ⟨h1 q hq, (h4 q hq).2⟩⟩
theorem lF {many : Int} {s : List Int} : Eb many (encS s) = true ↔ CU many s := by
 show (E3 many 0 (s.map PyData.int)).isSome = true ↔ _
 rw [jO]
 constructor
 ·rintro ⟨h1, h2⟩; exact ⟨h1, fun p hp => ⟨by have := (h2 p hp).1; lia, (h2 p hp).2⟩⟩
 ·rintro ⟨h1, h2⟩; exact ⟨h1, fun p hp => ⟨by have := (h2 p hp).1; lia, (h2 p hp).2⟩⟩
noncomputable def CT (ns : List Int) (at_ many : Int) : Nat -> List (Int × Int)
 | 0 => []
 | n + 1 => putZ (CT ns at_ many n) (1 + mixZ ns (at_ + 1 + n) many) (1 - 2 * (mixZ ns (at_ + 1 + n) (2 * many) / many))
noncomputable def Dp (ns : List Int) (at_ : Int) : Int := [1, 2, 2, 3, 3, 3, 0].getD (mixZ ns at_ 7).toNat 0
noncomputable def sayZ (ns : List Int) (at_ many : Int) : List Int := (D2 (E4 (CT ns at_ many (Dp ns at_).toNat))).map fun t => t * (valZ (CT ns at_ many (Dp ns at_).toNat) t).getD 0
theorem nN (ns : List Int) (at_ : Int) : 0 <= Dp ns at_ /\ Dp ns at_ <= 3 := by
 have h1 := fw ns at_ (m := 7) (by decide)
 have h2 := fx ns at_ (m := 7) (by decide)
 unfold Dp
 generalize mixZ ns at_ 7 = x at h1 h2
 have : x = 0 \/ x = 1 \/ x = 2 \/ x = 3 \/ x = 4 \/ x = 5 \/ x = 6 := by lia
 rcases this with h | h | h | h | h | h | h <;> subst h <;> decide
theorem gy {ns : List Int} {at_ many : Int} (hm : 0 < many) : ∀ n, (((CT ns at_ many n).map (·.1)).Nodup /\ (∀ t ∈ (CT ns at_ many n).map (·.1), 1 <= t /\ t <= many) /\ (∀ p ∈ CT ns at_ many n, p.2 = 1 \/ p.2 = -1) /\ (CT ns at_ many n).length <= n)
 | 0 => by simp [CT]
 | n + 1 => by
  obtain ⟨h1, h2, h3, h4⟩ := gy hm n
  have a1 := fw ns (at_ + 1 + n) hm
  have a2 := fx ns (at_ + 1 + n) hm
  have b1 := fw ns (at_ + 1 + n) (m := 2 * many) (by lia)
  have b2 := fx ns (at_ + 1 + n) (m := 2 * many) (by lia)
  have hv : (1 - 2 * (mixZ ns (at_ + 1 + n) (2 * many) / many)) = 1 \/ (1 - 2 * (mixZ ns (at_ + 1 + n) (2 * many) / many)) = -1 := by
   have c1 : 0 <= mixZ ns (at_ + 1 + n) (2 * many) / many := Int.ediv_nonneg b1 (by lia)
   have c2 : mixZ ns (at_ + 1 + n) (2 * many) / many < 2 := Int.ediv_lt_of_lt_mul hm (by lia)
   lia
  have hk := rO (CT ns at_ many n) (1 + mixZ ns (at_ + 1 + n) many) (1 - 2 * (mixZ ns (at_ + 1 + n) (2 * many) / many))
  have hl : ∀ (ps : List (Int × Int)) t v, (putZ ps t v).length <= ps.length + 1 := fun ps t v => by
   unfold putZ; split <;> simp
  refine ⟨?_, ?_, rP (Q := fun z => z = 1 \/ z = -1) h3 hv, ?_⟩
  ·rw [CT, hk]
   split
   ·exact h1
   next hn => exact qx h1 hn
  ·rw [CT, hk]
   split
   ·exact h2
   ·intro t ht
    rcases List.mem_append.mp ht with z | z
    ·exact h2 t z
    ·simp at z; lia
  ·rw [CT]
   have := hl (CT ns at_ many n) (1 + mixZ ns (at_ + 1 + n) many) (1 - 2 * (mixZ ns (at_ + 1 + n) (2 * many) / many))
   lia
theorem qG {ns : List Int} {at_ many : Int} (hm : 0 < many) : CU many (sayZ ns at_ many) /\ (sayZ ns at_ many).length <= 3 := by
 obtain ⟨h1, h2, h3, h4⟩ := gy (ns := ns) (at_ := at_) hm (Dp ns at_).toNat
 have hs := nN ns at_
 unfold sayZ E4
 generalize CT ns at_ many (Dp ns at_).toNat = ps at h1 h2 h3 h4
 have hp := cF (ps.map (·.1))
 have hr := fu (ps.map (·.1))
 have hab : ∀ t ∈ D2 (ps.map (·.1)), absI (t * (valZ ps t).getD 0) = t /\ 1 <= t /\ t <= many := fun t ht => by
  have ht' := hp.mem_iff.mp ht
  obtain ⟨v, e, p, hpp, rfl⟩ := qF ht'
  have := h2 t ht'
  rw [e]
  simp only [Option.getD_some]
  refine ⟨?_, this⟩
  rcases h3 p hpp with z | z <;> rw [z] <;> unfold absI <;> split <;> lia
 refine ⟨⟨?_, fun q hq => ?_⟩, ?_⟩
 ·rw [List.map_map]
  have e : (D2 (ps.map (·.1))).map (absI ∘ fun t => t * (valZ ps t).getD 0) = D2 (ps.map (·.1)) := by
   conv => rhs; rw [<- List.map_id (D2 (ps.map (·.1)))]
   exact List.map_congr_left fun t ht => (hab t ht).1
  rw [e]
  have hn : (D2 (ps.map (·.1))).Nodup := hp.nodup_iff.mpr h1
  exact (hr.and hn).imp fun ⟨a, b⟩ => by lia
 ·obtain ⟨t, ht, rfl⟩ := List.mem_map.mp hq
  obtain ⟨e, a⟩ := hab t ht
  rw [e]; exact a
 ·rw [List.length_map, hp.length_eq, List.length_map]; lia
noncomputable def Ew (ns : List Int) (at_ many most : Int) : List (List Int) := (List.range (mixZ ns at_ (most + 1)).toNat).map fun (k : Nat) => sayZ ns (at_ + 1 + 4 * (k : Int)) many
theorem u3 {ns : List Int} {at_ many most : Int} (hm : 0 < many) : ∀ s ∈ Ew ns at_ many most, CU many s := fun s hs => by
 obtain ⟨k, _, rfl⟩ := List.mem_map.mp hs
 exact (qG hm).1
theorem rQ {ns : List Int} {at_ many most : Int} (h : 0 <= most) : (Ew ns at_ many most).length <= most.toNat := by
 have := fx ns at_ (m := most + 1) (by lia)
 have := fw ns at_ (m := most + 1) (by lia)
 unfold Ew
 rw [List.length_map, List.length_range]
 lia
end L2
namespace L2
open PySem PySem.W PyProof.Rows
noncomputable def wpL (lt : Nat -> Nat -> Bool) (n : Nat) {α : Type} : KasT α -> (α -> Prop) -> Prop
 | .ret a, Q => Q a
 | .ask i j k, Q => i < n /\ j < n /\ wpL lt n (k (lt i j)) Q
theorem eZ {lt : Nat -> Nat -> Bool} {n : Nat} {α β : Type} {f : α -> KasT β} {Q : β -> Prop} : ∀ (t : KasT α), wpL lt n t (fun a => wpL lt n (f a) Q) -> wpL lt n (t.bind f) Q
 | .ret _, h => h
 | .ask _ _ k, h => ⟨h.1, h.2.1, eZ (k _) h.2.2⟩
theorem qH {lt : Nat -> Nat -> Bool} {n : Nat} {α : Type} {cmp : Nat -> Nat -> (Bool -> Shared -> Prop) -> Shared -> Prop} {s : Shared} (hc : ∀ i j C, i < n -> j < n -> C (lt i j) s -> cmp i j C s) {Q : α -> Shared -> Prop} :
  ∀ (t : KasT α), wpL lt n t (fun a => Q a s) -> t.kasWp cmp Q s
 | .ret _, h => h
 | .ask i j k, h => hc i j _ h.1 h.2.1 (qH hc (k _) h.2.2)
section
variable {lt : Nat -> Nat -> Bool} {n : Nat} (tr : ∀ i j k, lt j i = false -> lt k j = false -> lt k i = false) (as : ∀ i j, lt i j = true -> lt j i = false)
noncomputable def Rises (lt : Nat -> Nat -> Bool) (p : Array Nat) (k : Nat) : Prop := ∀ i j, i <= j -> j < k -> lt (p.getD j 0) (p.getD i 0) = false
noncomputable def Falls (lt : Nat -> Nat -> Bool) (p : Array Nat) (k : Nat) : Prop := ∀ i j, i <= j -> j < k -> lt (p.getD i 0) (p.getD j 0) = false
structure Tab (n : Nat) (p : Array Nat) : Prop where
 size : p.size = n
 perm : p.Perm (List.range n).toArray
theorem Tab.low {p : Array Nat} (h : Tab n p) {i : Nat} (hi : i < n) : p.getD i 0 < n := by
 have hs : i < p.size := by rw [h.size]; exact hi
 have e : p.getD i 0 = p[i] := by simp [Array.getD, hs]
 have hm : p[i] ∈ p := Array.getElem_mem hs
 have := h.perm.mem_iff.mp hm
 rw [e]
 simpa using this
theorem aZ {p : Array Nat} {i j : Nat} (hj : j <= p.size) (k : Nat) : (kas_rev p i j).getD k 0 = if i <= k /\ k < j then p.getD (i + j - 1 - k) 0 else p.getD k 0 := by
 have e := getElem?_mirror_all (i := i) hj k
 unfold kas_rev
 simp only [Array.getD_eq_getD_getElem?]
 rw [e]
 split <;> rfl
theorem j5 {p : Array Nat} {src d : Nat} (hs : src < p.size) (hd : d <= src) (k : Nat) : (bubble p src d).getD k 0 = if k = src - d then p.getD src 0 else if src - d < k /\ k <= src then p.getD (k - 1) 0 else p.getD k 0 := by
 have e := getElem?_bubble hs d hd k
 simp only [Array.getD_eq_getD_getElem?]
 rw [e]
 repeat' split
 all_goals rfl
theorem Tab.rev {p : Array Nat} (h : Tab n p) (i j : Nat) : Tab n (kas_rev p i j) := ⟨by unfold kas_rev; rw [mirror_size]; exact h.size, (mirror_perm _ _ _ _).trans h.perm⟩
theorem Tab.bub {p : Array Nat} (h : Tab n p) (i j : Nat) : Tab n (bubble p i j) := ⟨by rw [bubble_size]; exact h.size, (bubble_perm _ _ _).trans h.perm⟩
theorem Falls.rev {p : Array Nat} {k : Nat} (h : Falls lt p k) (hk : k <= p.size) : Rises lt (kas_rev p 0 k) k := fun i j hij hj => by
 rw [aZ hk, aZ hk, if_pos ⟨Nat.zero_le _, hj⟩, if_pos ⟨Nat.zero_le _, by lia⟩]
 exact h _ _ (by lia) (by lia)
include tr
theorem Rises.more {p : Array Nat} {k : Nat} (h : Rises lt p k) (hk : 1 <= k) (e : lt (p.getD k 0) (p.getD (k - 1) 0) = false) (ir : lt (p.getD k 0) (p.getD k 0) = false) : Rises lt p (k + 1) := fun i j hij hj => by
 by_cases hj' : j < k
 ·exact h i j hij hj'
 ·have : j = k := by lia
  subst this
  by_cases hi : i = j
  ·subst hi; exact ir
  ·exact tr _ _ _ (h i (j - 1) (by lia) (by lia)) e
theorem Falls.more {p : Array Nat} {k : Nat} (h : Falls lt p k) (hk : 1 <= k) (e : lt (p.getD (k - 1) 0) (p.getD k 0) = false) (ir : lt (p.getD k 0) (p.getD k 0) = false) : Falls lt p (k + 1) := fun i j hij hj => by
 by_cases hj' : j < k
 ·exact h i j hij hj'
 ·have : j = k := by lia
  subst this
  by_cases hi : i = j
  ·subst hi; exact ir
  ·exact tr _ _ _ e (h i (j - 1) (by lia) (by lia))
include as
theorem irr (i : Nat) : lt i i = false := by
 cases h : lt i i with
 | false => rfl
 | true => exact (as i i h).symm ▸ h ▸ rfl
theorem pj {p : Array Nat} (T : Tab n p) {Q : Nat -> Prop} : ∀ (f k : Nat), 1 <= k -> k + f <= n -> Rises lt p k -> (∀ m, k <= m -> m <= k + f -> Rises lt p m -> (m < k + f -> lt (p.getD m 0) (p.getD (m - 1) 0) = true) -> Q m) -> wpL lt n (kas_asc p f k) Q
 | 0, k, h1, h2, hr, hq => hq k (Nat.le_refl _) (by lia) hr (fun z => by lia)
 | f + 1, k, h1, h2, hr, hq => by
  refine ⟨T.low (by lia), T.low (by lia), ?_⟩
  dsimp only
  by_cases hc : lt (p.getD k 0) (p.getD (k - 1) 0) = true
  ·rw [if_pos hc]
   exact hq k (Nat.le_refl _) (by lia) hr fun _ => hc
  ·rw [if_neg hc]
   have hc' : lt (p.getD k 0) (p.getD (k - 1) 0) = false := by simpa using hc
   exact pj T f (k + 1) (by lia) (by lia) (hr.more tr h1 hc' (irr tr as _)) fun m a1 a2 a3 a4 => hq m (by lia) (by lia) a3 fun z => a4 (by lia)
noncomputable def Alike (lt : Nat -> Nat -> Bool) (p : Array Nat) (k q : Nat) : Prop := q + 1 <= k /\ ∀ i j, k - (q + 1) <= i -> i < k -> k - (q + 1) <= j -> j < k -> lt (p.getD i 0) (p.getD j 0) = false
theorem Alike.rev {p : Array Nat} {k q : Nat} (h : Alike lt p k q) (hf : Falls lt p k) (hk : k <= p.size) : Falls lt (kas_rev p (k - (q + 1)) k) k := fun i j hij hj => by
 have hq := h.1
 have key : ∀ x, x < k -> ∃ y, y < k /\ (kas_rev p (k - (q + 1)) k).getD x 0 = p.getD y 0 /\ ((k - (q + 1) <= x /\ k - (q + 1) <= y) \/ (x < k - (q + 1) /\ y = x)) := fun x hx => by
  rw [aZ hk]
  by_cases hc : k - (q + 1) <= x /\ x < k
  ·rw [if_pos hc]; exact ⟨_, by lia, rfl, .inl ⟨hc.1, by lia⟩⟩
  ·rw [if_neg hc]; exact ⟨x, hx, rfl, .inr ⟨by lia, rfl⟩⟩
 obtain ⟨a, ha, ea, ca⟩ := key i (by lia)
 obtain ⟨b, hb, eb, cb⟩ := key j hj
 rw [ea, eb]
 rcases ca with ca | ca
 ·rcases cb with cb | cb
  ·exact h.2 a b ca.2 ha cb.2 hb
  ·lia
 ·exact hf a b (by rcases cb with cb | cb <;> lia) hb
theorem jl {Q : Array Nat × Nat × Nat -> Prop} : ∀ (f : Nat) (p : Array Nat) (k q : Nat), Tab n p -> 1 <= k -> k + f <= n -> Falls lt p k -> Alike lt p k q -> (∀ p' m q', Tab n p' -> 1 <= m -> m <= n -> Falls lt p' m -> Alike lt p' m q' -> Q (p', m, q')) -> wpL lt n (kas_desc f p k q) Q
 | 0, p, k, q, T, h1, h2, hf, ha, hq => hq p k q T h1 (by lia) hf ha
 | f + 1, p, k, q, T, h1, h2, hf, ha, hq => by
  refine ⟨T.low (by lia), T.low (by lia), ?_⟩
  dsimp only
  have hsz := T.size
  by_cases hc : lt (p.getD k 0) (p.getD (k - 1) 0) = true
  ·rw [if_pos hc]
   have one : ∀ p' : Array Nat, Alike lt p' (k + 1) 0 := fun p' => ⟨by lia, fun i j a1 a2 a3 a4 => by
    have : i = j := by lia
    subst this
    exact irr tr as _⟩
   by_cases hqp : q > 0
   ·rw [if_pos hqp]
    have hr := ha.rev tr as hf (by lia)
    have hq1 := ha.1
    have e1 : (kas_rev p (k - (q + 1)) k).getD k 0 = p.getD k 0 := by rw [aZ (by lia), if_neg (by lia)]
    have e2 : (kas_rev p (k - (q + 1)) k).getD (k - 1) 0 = p.getD (k - (q + 1)) 0 := by rw [aZ (by lia), if_pos (by lia)]; congr 1; lia
    refine jl f _ (k + 1) 0 (T.rev _ _) (by lia) (by lia) (hr.more tr h1 ?_ (irr tr as _)) (one _) hq
    rw [e1, e2]
    exact tr _ _ _ (as _ _ hc) (ha.2 _ _ (by lia) (by lia) (by lia) (by lia))
   ·rw [if_neg hqp]
    exact jl f p (k + 1) 0 T (by lia) (by lia) (hf.more tr h1 (as _ _ hc) (irr tr as _)) (one _) hq
  ·rw [if_neg hc]
   have hc' : lt (p.getD k 0) (p.getD (k - 1) 0) = false := by simpa using hc
   refine ⟨T.low (by lia), T.low (by lia), ?_⟩
   dsimp only
   by_cases hd : lt (p.getD (k - 1) 0) (p.getD k 0) = true
   ·rw [if_pos hd]
    exact hq p k q T h1 (by lia) hf ha
   ·rw [if_neg hd]
    have hd' : lt (p.getD (k - 1) 0) (p.getD k 0) = false := by simpa using hd
    refine jl f p (k + 1) (q + 1) T (by lia) (by lia) (hf.more tr h1 hd' (irr tr as _)) ⟨by have := ha.1; lia, fun i j a1 a2 a3 a4 => ?_⟩ hq
    have hq1 := ha.1
    by_cases hi : i < k
    ·by_cases hj : j < k
     ·exact ha.2 i j (by lia) hi (by lia) hj
     ·have : j = k := by lia
      subst this
      exact tr _ _ _ hd' (ha.2 i (j - 1) (by lia) hi (by lia) (by lia))
    ·have : i = k := by lia
     subst this
     by_cases hj : j < i
     ·exact tr _ _ _ (ha.2 (i - 1) j (by lia) (by lia) (by lia) hj) hc'
     ·have : j = i := by lia
      subst this
      exact irr tr as _
theorem qI {p : Array Nat} (T : Tab n p) {k : Nat} (h1 : 1 <= k) (h2 : k <= n) (hf : Falls lt p k) {Q : Nat × Array Nat -> Prop} (hq : ∀ m p', Tab n p' -> 1 <= m -> m <= n -> Rises lt p' m -> Q (m, p')) : wpL lt n (kas_tail3 k n p) Q := by
 have hsz := T.size
 exact eZ _ (pj tr as (T.rev 0 k) (n - k) k h1 (by lia) (hf.rev (by lia)) fun m a1 a2 a3 _ => hq m _ (T.rev 0 k) (by lia) (by lia) a3)
theorem j6 {p : Array Nat} (T : Tab n p) {k : Nat} (h1 : 1 <= k) (h2 : k + 1 <= n) (hf : Falls lt p (k + 1)) {Q : Nat × Array Nat -> Prop} (hq : ∀ m p', Tab n p' -> 1 <= m -> m <= n -> Rises lt p' m -> Q (m, p')) : wpL lt n (kas_descPart k n p) Q := by
 refine eZ _ (jl tr as (n - (k + 1)) p (k + 1) 0 T (by lia) (by lia) hf ⟨by lia, fun i j a1 a2 a3 a4 => ?_⟩ fun p' m q' T' m1 m2 f' al => ?_)
 ·have : i = j := by lia
  subst this
  exact irr tr as _
 ·show wpL lt n (if q' > 0 then kas_tail3 m n (kas_rev p' (m - (q' + 1)) m) else kas_tail3 m n p') Q
  have hsz := T'.size
  split
  ·exact qI tr as (T'.rev _ _) m1 m2 (al.rev tr as f' (by lia)) hq
  ·exact qI tr as T' m1 m2 f' hq
theorem u4 {p : Array Nat} (T : Tab n p) (h1 : 1 <= n) {Q : Nat × Array Nat -> Prop} (hq : ∀ m p', Tab n p' -> 1 <= m -> m <= n -> Rises lt p' m -> Q (m, p')) : wpL lt n (kas_count n p) Q := by
 have hsz := T.size
 refine eZ _ (pj tr as T (n - 1) 1 (Nat.le_refl _) (by lia) (fun i j a1 a2 => ?_) fun m a1 a2 a3 a4 => ?_)
 ·have : i = j := by lia
  subst this
  exact irr tr as _
 ·show wpL lt n (if (m == n) = true then KasT.ret (m, p) else if m > 1 then KasT.ask (p.getD 0 0) (p.getD (m - 1) 0) fun c => if c = true then KasT.ret (m, p) else kas_descPart m n (kas_rev p 0 m) else kas_descPart m n p) Q
  by_cases e1 : (m == n) = true
  ·rw [if_pos e1]; exact hq m p T a1 (by lia) a3
  ·rw [if_neg e1]
   have hne : m ≠ n := by simpa using e1
   have hlt := a4 (by lia)
   by_cases e2 : m > 1
   ·rw [if_pos e2]
    refine ⟨T.low (by lia), T.low (by lia), ?_⟩
    dsimp only
    by_cases hc : lt (p.getD 0 0) (p.getD (m - 1) 0) = true
    ·rw [if_pos hc]; exact hq m p T a1 (by lia) a3
    ·rw [if_neg hc]
     have hc' : lt (p.getD 0 0) (p.getD (m - 1) 0) = false := by simpa using hc
     have same : ∀ i j, i < m -> j < m -> lt (p.getD i 0) (p.getD j 0) = false := fun i j hi hj =>
      tr _ _ _ (tr _ _ _ (a3 j (m - 1) (by lia) (by lia)) hc') (a3 0 i (by lia) hi)
     refine j6 tr as (T.rev 0 m) a1 (by lia) (Falls.more tr (fun i j b1 b2 => ?_) a1 ?_ (irr tr as _)) hq
     ·rw [aZ (by lia), aZ (by lia), if_pos (by lia), if_pos (by lia)]
      exact same _ _ (by lia) (by lia)
     ·rw [aZ (by lia), aZ (by lia), if_pos (by lia), if_neg (by lia)]
      exact tr _ _ _ (as _ _ hlt) (same _ _ (by lia) (by lia))
   ·rw [if_neg e2]
    have : m = 1 := by lia
    subst this
    exact j6 tr as T (Nat.le_refl _) (by lia) (Falls.more tr (fun i j b1 b2 => by
     have : i = j := by lia
     subst this
     exact irr tr as _) (Nat.le_refl _) (as _ _ hlt) (irr tr as _)) hq
theorem jP {p : Array Nat} (T : Tab n p) {k : Nat} (hk : k < n) (hr : Rises lt p k) {Q : Nat -> Prop} (hq : ∀ l, l <= k -> (∀ i, i < l -> lt (p.getD k 0) (p.getD i 0) = false) -> (∀ i, l <= i -> i < k -> lt (p.getD k 0) (p.getD i 0) = true) -> Q l) :
  ∀ (f l r : Nat), l <= r -> r <= k -> r - l <= f -> (∀ i, i < l -> lt (p.getD k 0) (p.getD i 0) = false) -> (∀ i, r <= i -> i < k -> lt (p.getD k 0) (p.getD i 0) = true) -> wpL lt n (kas_place p k f l r) Q
 | 0, l, r, h1, h2, h3, ha, hb => by
  have : l = r := by lia
  subst this
  exact hq l h2 ha hb
 | f + 1, l, r, h1, h2, h3, ha, hb => by
  show wpL lt n (if l ≥ r then KasT.ret l else KasT.ask (p.getD k 0) (p.getD ((l + r) / 2) 0) fun c => if c = true then kas_place p k f l ((l + r) / 2) else kas_place p k f ((l + r) / 2 + 1) r) Q
  by_cases hlr : l ≥ r
  ·rw [if_pos hlr]
   have : l = r := by lia
   subst this
   exact hq l h2 ha hb
  ·rw [if_neg hlr]
   refine ⟨T.low hk, T.low (by lia), ?_⟩
   dsimp only
   by_cases hc : lt (p.getD k 0) (p.getD ((l + r) / 2) 0) = true
   ·rw [if_pos hc]
    refine jP T hk hr hq f l ((l + r) / 2) (by lia) (by lia) (by lia) ha fun i a1 a2 => ?_
    cases e : lt (p.getD k 0) (p.getD i 0) with
    | true => rfl
    | false =>
     have := tr _ _ _ (hr ((l + r) / 2) i a1 a2) e
     rw [hc] at this
     cases this
   ·rw [if_neg hc]
    have hc' : lt (p.getD k 0) (p.getD ((l + r) / 2) 0) = false := by simpa using hc
    exact jP T hk hr hq f ((l + r) / 2 + 1) r (by lia) h2 (by lia) (fun i a1 => tr _ _ _ (hr i ((l + r) / 2) (by lia) (by lia)) hc') hb
theorem u5 {Q : Array Nat -> Prop} (hq : ∀ p, Tab n p -> Rises lt p n -> Q p) : ∀ (f : Nat) (p : Array Nat) (k : Nat), Tab n p -> k + f = n -> Rises lt p k -> wpL lt n (kas_bin f p k) Q
  | 0, p, k, T, h, hr => hq p T (by have : k = n := by lia
                                    exact this ▸ hr)
  | f + 1, p, k, T, h, hr => by
    have hsz := T.size
    refine eZ _ (jP tr as T (by lia) hr (fun l hl ha hb => ?_) k 0 k (Nat.zero_le _) (Nat.le_refl _) (by lia) (fun i z => by lia) fun i a1 a2 => by lia)
    refine u5 hq f _ (k + 1) (T.bub _ _) (by lia) fun i j hij hj => ?_
    have hkl : k - (k - l) = l := by lia
    rw [j5 (by lia) (by lia), j5 (by lia) (by lia), hkl]
    by_cases hj1 : j = l
    · rw [if_pos hj1]
      by_cases hi1 : i = l
      · rw [if_pos hi1]; exact irr tr as _
      · rw [if_neg hi1, if_neg (by lia)]
        exact ha i (by lia)
    · rw [if_neg hj1]
      by_cases hi1 : i = l
      · rw [if_pos hi1, if_pos (by lia)]
        exact as _ _ (hb (j - 1) (by lia) (by lia))
      · rw [if_neg hi1]
        by_cases hj2 : l < j /\ j <= k
        · rw [if_pos hj2]
          by_cases hi2 : l < i /\ i <= k
          · rw [if_pos hi2]; exact hr _ _ (by lia) (by lia)
          · rw [if_neg hi2]; exact hr _ _ (by lia) (by lia)
        · rw [if_neg hj2, if_neg (by lia)]
          exact hr _ _ hij (by lia)
theorem vZ (h1 : 1 <= n) {Q : Array Nat -> Prop} (hq : ∀ p, Tab n p -> Rises lt p n -> Q p) : wpL lt n (kas_sort n) Q := by
 have T0 : Tab n (List.range n).toArray := ⟨by simp, .refl _⟩
 refine eZ _ (u4 tr as T0 h1 fun m p T m1 m2 hr => ?_)
 show wpL lt n (if m < n then kas_bin (n - max m 1) p (max m 1) else KasT.ret p) Q
 by_cases h : m < n
 ·rw [if_pos h]
  have e : max m 1 = m := by lia
  rw [e]
  exact u5 tr as hq (n - m) p m T (by lia) hr
 ·rw [if_neg h]
  have : m = n := by lia
  subst this
  exact hq p T hr
end
open PySem.Spec
open HT (lexLt)
section
open PySem.SeqAt
open PySem.AutoSeq1 (wpAny_loadPart')
open PySem.MeetsSeq PySem.MeetsSeq2 PySem.MeetsSeq3
theorem ik {vs : List Value} {ns : List Int} (h : IntsAre vs ns) : ∀ {i : Nat}, i < vs.length -> ∃ a t, vs[i]? = some (.int a t) /\ ns.drop i = a :: ns.drop (i + 1) := by
 induction h with
 | nil => intro i h; cases h
 | cons a t _ ih =>
  intro i hi
  cases i with
  | zero => exact ⟨a, t, rfl, rfl⟩
  | succ i => exact ih (by simpa using hi)
theorem mB (l b : Addr) (items items2 : Array Value) (n n2 : Nat) (dd dd2 : Option Addr) (sl sl2 : Array (Option Value)) (ns ms : List Int) (hi : IntsAre items.toList ns) (hj : IntsAre items2.toList ms) (k : Nat) :
  ∀ i : Nat, items.size - i = k -> Meets (Builtin.«list.__eq__.loop» ⟨[.ref l, .ref b, rawInt i, rawInt 0], []⟩)
   (fun A R s => i <= items.size /\ i <= items2.size /\ s.heap.get? l = some { cls := .type "list", dict := dd, data := .seq items n, slots := sl } /\ s.heap.get? b = some { cls := .type "list", dict := dd2, data := .seq items2 n2, slots := sl2 } /\
    R (.ok (.ret (.bool (lexLt (ns.drop i) (ms.drop i))))) s) := by
 have z1 : ns.length = items.size := by rw [<- hi.length]; simp
 have z2 : ms.length = items2.size := by rw [<- hj.length]; simp
 have fin : ∀ i : Nat, i <= items.size -> i <= items2.size -> (i = items.size \/ i = items2.size) -> lexLt (ns.drop i) (ms.drop i) = decide (items.size < items2.size) := by
  intro i a1 a2 h
  rcases h with h | h
  ·rw [List.drop_of_length_le (by lia)]
   by_cases h2 : i < items2.size
   ·obtain ⟨a, t, _, e⟩ := ik hj (i := i) (by simpa using h2)
    rw [e]
    simp only [HT.jv]
    exact (decide_eq_true (by lia)).symm
   ·rw [List.drop_of_length_le (by lia)]
    simp only [HT.gJ]
    exact (decide_eq_false (by lia)).symm
  ·rw [List.drop_of_length_le (l := ms) (by lia)]
   by_cases h2 : i < items.size
   ·obtain ⟨a, t, _, e⟩ := ik hi (i := i) (by simpa using h2)
    rw [e]
    simp only [HT.jw]
    exact (decide_eq_false (by lia)).symm
   ·rw [List.drop_of_length_le (by lia)]
    simp only [HT.gJ]
    exact (decide_eq_false (by lia)).symm
 induction k with
 | zero =>
  intro i hk prog w A R s h
  obtain ⟨hp, g, d, tk, os⟩ := s; obtain ⟨a1, a2, hl, hb, h⟩ := h
  wp_walk using wpAny_loadPart' hl, wpAny_loadPart' hb
  have hi1 : items[((i : Nat) : Int).toNat]? = none := by simp; lia
  rw [fin i a1 a2 (.inl (by lia))] at h
  rw [hi1]
  wp_walk using wpAny_loadPart' hl, wpAny_loadPart' hb
  exact h
 | succ k ih =>
  intro i hk prog w A R s h
  obtain ⟨hp, g, d, tk, os⟩ := s; obtain ⟨a1, a2, hl, hb, h⟩ := h
  wp_walk using wpAny_loadPart' hl, wpAny_loadPart' hb
  have hlt : i < items.size := by lia
  by_cases hlt2 : i < items2.size
  ·obtain ⟨a, t, e1, d1⟩ := ik hi (i := i) (by simpa using hlt)
   obtain ⟨c, u, e2, d2⟩ := ik hj (i := i) (by simpa using hlt2)
   have hi1 : items[((i : Nat) : Int).toNat]? = some (.int a t) := by simpa using e1
   have hi2 : items2[((i : Nat) : Int).toNat]? = some (.int c u) := by simpa using e2
   have hc : ((i : Int) + 1) = ((i + 1 : Nat) : Int) := by push_cast; rfl
   rw [d1, d2, HT.ju] at h
   rw [hi1, hi2]
   obtain ⟨e, he, hiff⟩ := HT.tm A.in1 ⟨hp, g, d, tk, os⟩ a t c u
   refine wpAny_bind (he prog w _ _ ?_)
   cases e with
   | true =>
    rw [if_pos (hiff.mp rfl)] at h
    wp_walk
    rw [hc]
    exact ⟨plainId_quiet plain_eq_loop _, codeAny_builtin entry_eq_loop (by
     rw [Around.under_plainId plain_eq_loop _]
     exact ih (i + 1) (by lia) prog w A R _ ⟨by lia, by lia, hl, hb, h⟩)⟩
   | false =>
    rw [if_neg (fun q => absurd (hiff.mpr q) Bool.false_ne_true)] at h
    have hri := HT.tq A.in1 ⟨hp, g, d, tk, os⟩ a t c u prog w
    wp_walk using wpAny_loadPart' hl, wpAny_loadPart' hb
    rw [hi1, hi2]
    wp_walk using hri
    exact h
  ·have hi2 : items2[((i : Nat) : Int).toNat]? = none := by simp; lia
   rw [fin i a1 a2 (.inr (by lia))] at h
   obtain ⟨a, t, e1, d1⟩ := ik hi (i := i) (by simpa using hlt)
   have hi1 : items[((i : Nat) : Int).toNat]? = some (.int a t) := by simpa using e1
   rw [hi1, hi2]
   wp_walk using wpAny_loadPart' hl, wpAny_loadPart' hb
   exact h
theorem mC (l b : Addr) (items items2 : Array Value) (n n2 : Nat) (dd dd2 : Option Addr) (sl sl2 : Array (Option Value)) (ns ms : List Int) (hi : IntsAre items.toList ns) (hj : IntsAre items2.toList ms) :
  Meets (Builtin.«list.__lt__» ⟨[.ref l, .ref b], []⟩)
   (fun _ R s => s.heap.get? l = some { cls := .type "list", dict := dd, data := .seq items n, slots := sl } /\ s.heap.get? b = some { cls := .type "list", dict := dd2, data := .seq items2 n2, slots := sl2 } /\
    R (.ok (.ret (.bool (lexLt ns ms)))) s) :=
 fun prog w A R s h => by
  obtain ⟨hp, g, d, tk, os⟩ := s; obtain ⟨hl, hb, h⟩ := h
  have f2 := AutoSeq1.sub_list_list
  wp_walk using wpAny_loadPart' hl, wpAny_loadPart' hb
  exact ⟨plainId_quiet plain_eq_loop _, codeAny_builtin entry_eq_loop (by
    rw [Around.under_plainId plain_eq_loop _]
    exact mB l b items items2 n n2 dd dd2 sl sl2 ns ms hi hj _ 0 rfl prog w A R _ ⟨Nat.zero_le _, Nat.zero_le _, hl, hb, h⟩)⟩
end
section
variable {prog : Program} {w : World} {A : Around} {E : Cw} {s : Shared}
theorem nO {l b : Addr} {its its2 : Array Value} {ns ms : List Int} {Q : Bool -> Shared -> Prop} (hu : A.units < cLine) (hl : s.heap.IsList l its) (hb : s.heap.IsList b its2) (hi : IntsAre its.toList ns) (hj : IntsAre its2.toList ms)
  (h : Q (lexLt ns ms) s) : wpAny (model prog w) A (keyLt' oneType' (.ref l) (.ref b)) Q E s := by
 rw [keyLt'_oneType, oneLt'_eq]
 simp only [if_true]
 obtain ⟨⟨cls, dd, data, sl⟩, ho, hc, n, hd⟩ := id hl
 obtain ⟨⟨cls2, dd2, data2, sl2⟩, ho2, hc2, n2, hd2⟩ := id hb
 simp only at hc hd hc2 hd2
 subst hc hd hc2 hd2
 refine wpAny_bind (wpAny_cRoomFor hu ?_)
 refine wpAny_bind (wpAny_callSpecialIfBound?_slot ⟨_, ho, rfl⟩ PySem.F.slot_list_lt (call_meets PySem.F.slot_list_lt ⟨_, ho, rfl⟩ PySem.F.entry_list_lt (PySem.F.args_list_lt_2 _ _) (mC l b its its2 n n2 dd dd2 sl sl2 ns ms hi hj) ⟨ho, ho2, ?_⟩))
 exact wpAny_truthy_bool h
theorem mD {a : Addr} {vs : List Value} {n : Nat} {T : Value} {lt : Nat -> Nat -> Bool} {P : PySem.Fin -> Shared -> Prop} (ho : s.heap.get? a = some (seqObj "list" vs.toArray n)) (h64 : vs.length < 64)
  (tr : ∀ i j k, lt j i = false -> lt k j = false -> lt k i = false) (as : ∀ i j, lt i j = true -> lt j i = false)
  (hT : ∀ h' : Heap, (∀ b o, b ≠ a -> s.heap.get? b = some o -> h'.get? b = some o) -> ∀ v ∈ vs, Looks (model prog w) h' (typeOf v) T) (hT1 : (T != Value.type "tuple") = true) (hT2 : (T == T) = true)
  (hc : ∀ h' : Heap, (∀ b o, b ≠ a -> s.heap.get? b = some o -> h'.get? b = some o) -> ∀ i j (C : Bool -> Shared -> Prop), i < vs.length -> j < vs.length -> C (lt i j) { s with heap := h' } ->
   wpAny (model prog w) A (keyLt' oneType' (vs.getD i Value.none) (vs.getD j Value.none)) C (fun _ _ => False) { s with heap := h' })
  (h : ∀ p : Array Nat, Tab vs.length p -> Rises lt p vs.length -> P (.done (.ret .none)) { s with heap := sortedHeap s.heap a vs (List.toArray (p.toList.map fun i => vs.getD i Value.none)) }) :
  wpAny (model prog w) A (Builtin.«list.sort» ⟨[.ref a], []⟩) P E s := by
 rw [list_sort_plain]
 have ha : a < s.heap.objs.size := Heap.lt_size ho
 refine wpAny_bind (listItems_at ho rfl ?_)
 refine wpAny_bind (listUpdate_at ho rfl ?_ (by rw [List.size_toArray, sizeLine_eq]; lia) (Nat.zero_le _))
 obtain ⟨e1, ho1⟩ : ∃ e1, (s.heap.update a (Obj.mapSeq fun _ => #[])).get? a = some (seqObj "list" #[] e1) := ⟨_, get?_update_seq ho (fun _ => #[])⟩
 refine wpAny_bind (seqEpoch_at ho1 rfl ?_)
 refine wpAny_bind (wpAny_newTuple ?_ (by show vs.length <= _; rw [sizeLine_eq]; lia))
 refine wpAny_bind (wpAny_newList ?_ (Nat.zero_le _))
 refine wpAny_holding ?_
 have ho6 : (((s.heap.update a (Obj.mapSeq fun _ => #[])).push (seqObj "tuple" vs.toArray 0)).push (seqObj "list" #[] 0)).get? a = some (seqObj "list" #[] e1) := by
  rw [Heap.get?_push_ne _ _ _ (by rw [size_push', Heap.size_update]; exact Nat.ne_of_lt (Nat.lt_succ_of_lt ha)), Heap.get?_push_ne _ _ _ (by rw [Heap.size_update]; exact Nat.ne_of_lt ha)]
  exact ho1
 have keep : ∀ b o, b ≠ a -> s.heap.get? b = some o -> (((s.heap.update a (Obj.mapSeq fun _ => (#[] : Array Value))).push (seqObj "tuple" vs.toArray 0)).push (seqObj "list" #[] 0)).get? b = some o := fun b o hb q =>
  Heap.get?_push_of_some _ (Heap.get?_push_of_some _ (by rw [Heap.get?_update_ne _ _ _ _ hb]; exact q))
 show wpAny (model prog w) A _ P E { s with heap := ((s.heap.update a (Obj.mapSeq fun _ => #[])).push (seqObj "tuple" vs.toArray 0)).push (seqObj "list" #[] 0) }
 dsimp only
 by_cases h2 : vs.length < 2
 ·have h2' : vs.toArray.size < 2 := by rw [List.size_toArray]; exact h2
  rw [if_pos h2', if_pos h2']
  refine wpAny_bind (wpAny_pure ?_)
  rw [StateT.run_pure]
  refine wpAny_bind (wpAny_pure ?_)
  dsimp only
  refine wpAny_bind (seqEpoch_at ho6 rfl ?_)
  refine wpAny_bind (listUpdate_at ho6 rfl ?_ (Nat.zero_le _) (by rw [Array.size_map]; show (pairsOf vs).size <= _; rw [pairsOf_size, sizeLine_eq]; lia))
  simp only [bne_self_eq_false, Bool.false_eq_true, if_false]
  have hp := h (List.range vs.length).toArray ⟨by simp, .refl _⟩ (fun i j hij hj => by
   have : i = j := by lia
   subst this
   exact irr tr as _)
  have e : List.toArray (((List.range vs.length).toArray).toList.map fun i => vs.getD i Value.none) = (arrOf (SortSt.mk' general' (vs.toArray.zip vs.toArray) #[] 7 none)).map (·.2) := by
   show _ = (pairsOf vs).map (·.2)
   have e2 := congrArg (fun a => Array.map (·.2) a) (kas_range (pairsOf vs))
   simp only [pairsOf_size] at e2
   rw [<- e2, Array.map_map]
   apply Array.toList_inj.mp
   rw [Array.toList_map]
   exact List.map_congr_left fun i _ => by show _ = (kas_item (pairsOf vs) i).2; rw [kas_item_eq]
  rw [e] at hp
  exact wpAny_pure hp
 ·have hn2 : ¬ vs.toArray.size < 2 := by rw [List.size_toArray]; lia
  rw [if_neg hn2, if_neg hn2]
  refine wpAny_bind (kas_kind (by lia) (hT _ keep) hT1 hT2 ?_)
  have est : SortSt.mk' oneType' (vs.toArray.zip vs.toArray) #[] 7 none = kas_st oneType' (pairsOf vs) (List.toArray (List.range vs.length)) := by
   have e := kas_range (pairsOf vs)
   rw [pairsOf_size] at e
   show SortSt.mk' oneType' (pairsOf vs) #[] 7 none = SortSt.mk' oneType' ((List.toArray (List.range vs.length)).map (kas_item (pairsOf vs))) #[] 7 none
   rw [e]
  have ask : (kas_sort vs.length).kasWp (kas_ask prog w A oneType' vs) (fun p s' => s' = { s with heap := ((s.heap.update a (Obj.mapSeq fun _ => (#[] : Array Value))).push (seqObj "tuple" vs.toArray 0)).push (seqObj "list" #[] 0) } /\ Tab vs.length p /\ Rises lt p vs.length) { s with heap := ((s.heap.update a (Obj.mapSeq fun _ => (#[] : Array Value))).push (seqObj "tuple" vs.toArray 0)).push (seqObj "list" #[] 0) } :=
   qH (lt := lt) (n := vs.length) (fun i j C hi hj q => hc _ keep i j C hi hj q) _ (vZ tr as (by lia) fun p T R => ⟨rfl, T, R⟩)
  rw [kas_ask_eq] at ask
  have run := kas_runs (E := E) (Q := fun _ st' s' => ∃ p : Array Nat, arrOf st' = p.map (kas_item (pairsOf vs)) /\ failedOf st' = none /\ s' = { s with heap := ((s.heap.update a (Obj.mapSeq fun _ => (#[] : Array Value))).push (seqObj "tuple" vs.toArray 0)).push (seqObj "list" #[] 0) } /\ Tab vs.length p /\ Rises lt p vs.length)
   (by lia) h64 (fun p' st' s' a1 a2 a3 a4 => ⟨p', a2, a3, a4⟩) ask
  rw [<- est] at run
  refine wpAny_bind (wpAny_mono run ?_ fun _ _ e => e)
  rintro ⟨⟨⟩, st'⟩ s' ⟨p, har, hf, rfl, T, R⟩
  dsimp only
  have hout : (arrOf st').map (·.2) = List.toArray (p.toList.map fun i => vs.getD i Value.none) := by
   apply Array.toList_inj.mp
   rw [har, Array.map_map, Array.toList_map]
   exact List.map_congr_left fun i _ => by show (kas_item (pairsOf vs) i).2 = _; rw [kas_item_eq]
  have hsz : (List.toArray (p.toList.map fun i => vs.getD i Value.none)).size = vs.length := by rw [List.size_toArray, List.length_map, Array.length_toList, T.size]
  rw [hout]
  refine wpAny_bind (seqEpoch_at ho6 rfl ?_)
  refine wpAny_bind (listUpdate_at ho6 rfl ?_ (Nat.zero_le _) (Nat.le_trans (Nat.le_of_eq hsz) (by rw [sizeLine_eq]; lia)))
  rw [hf]
  simp only [bne_self_eq_false, Bool.false_eq_true, if_false]
  exact wpAny_pure (h p T R)
theorem rR {l : Addr} {vs : List Value} {T : Value} {lt : Nat -> Nat -> Bool} {Q : Cw} (hl : s.heap.IsList l vs.toArray) (h64 : vs.length < 64)
  (tr : ∀ i j k, lt j i = false -> lt k j = false -> lt k i = false) (as : ∀ i j, lt i j = true -> lt j i = false)
  (hT : ∀ h' : Heap, (∀ b o, s.heap.get? b = some o -> h'.get? b = some o) -> ∀ v ∈ vs, Looks (model prog w) h' (typeOf v) T) (hT1 : (T != Value.type "tuple") = true) (hT2 : (T == T) = true)
  (hc : ∀ h' : Heap, (∀ b o, s.heap.get? b = some o -> h'.get? b = some o) -> ∀ i j (C : Bool -> Shared -> Prop), i < vs.length -> j < vs.length -> C (lt i j) { s with heap := h' } ->
   wpAny (model prog w) A.in1.in1 (keyLt' oneType' (vs.getD i Value.none) (vs.getD j Value.none)) C (fun _ _ => False) { s with heap := h' })
  (h : ∀ p : Array Nat, Tab vs.length p -> Rises lt p vs.length -> Q (.ref (s.heap.objs.size + 1)) { s with heap := sortedAll s.heap vs (List.toArray (p.toList.map fun i => vs.getD i Value.none)) }) :
  wpAny (model prog w) A (call (.builtin "sorted") [.ref l]) Q E s := by
 refine Calls.call_function_entry kind_sorted plain_sorted entry_sorted (args_sorted1 _) ?_
 unfold Builtin.«sorted»
 refine wpAny_bind (m := checkCount "sorted" 1 1 _) (wpAny_pure ?_)
 refine wpAny_bind (collect_list hl ?_ (by rw [sizeLine_eq]; lia))
 refine wpAny_bind (wpAny_newList ?_ (by rw [sizeLine_eq]; lia))
 have hsz : ((s.heap.push (seqObj "list" #[] 0)).update s.heap.objs.size (Obj.mapSeq (· ++ vs.toArray))).objs.size = s.heap.objs.size + 1 := by
  rw [Heap.size_update, size_push']
 have hoL : (((s.heap.push (seqObj "list" #[] 0)).update s.heap.objs.size (Obj.mapSeq (· ++ vs.toArray))).push (seqObj "list" vs.toArray 0)).get? (s.heap.objs.size + 1) = some (seqObj "list" vs.toArray 0) := by
  rw [<- hsz]; exact Heap.get?_push_size _ rfl
 have keep : ∀ b o, s.heap.get? b = some o -> b ≠ s.heap.objs.size + 1 /\ (((s.heap.push (seqObj "list" #[] 0)).update s.heap.objs.size (Obj.mapSeq (· ++ vs.toArray))).push (seqObj "list" vs.toArray 0)).get? b = some o := fun b o q => by
  have hlt : b < s.heap.objs.size := Heap.lt_size q
  refine ⟨Nat.ne_of_lt (Nat.lt_succ_of_lt hlt), ?_⟩
  rw [Heap.get?_push_ne _ _ _ (by rw [hsz]; exact Nat.ne_of_lt (Nat.lt_succ_of_lt hlt)), Heap.get?_update_ne _ _ _ _ (Nat.ne_of_lt hlt), Heap.get?_push_ne _ _ _ (Nat.ne_of_lt hlt)]
  exact q
 show wpAny _ _ _ _ _ { s with heap := ((s.heap.push (seqObj "list" #[] 0)).update s.heap.objs.size (Obj.mapSeq (· ++ vs.toArray))).push (seqObj "list" vs.toArray 0) }
 rw [hsz]
 refine wpAny_bind (wpAny_holding (wpAny_call_entry slot_list_sort ⟨_, hoL, rfl⟩ entry_list_sort (mD (lt := lt) hoL h64 tr as (fun h' k => hT h' fun b o q => k b o (keep b o q).1 (keep b o q).2) hT1 hT2
  (fun h' k => hc h' fun b o q => k b o (keep b o q).1 (keep b o q).2) fun p T R => ⟨_, rfl, ?_⟩) (args_list_sort _)))
 exact wpAny_pure ⟨_, rfl, h p T R⟩
end
end L2
namespace Sy
noncomputable def absI (p : Int) : Int := if p < 0 then -p else p
noncomputable def Ec (c : List Int) (p : Int) : Bool := decide (c.getD (absI p - 1).toNat 0 = if 0 < p then 1 else 0)
noncomputable def D9 (c : List Int) (s : List Int) : Bool := s.any (Ec c)
noncomputable def Dj (ss : List (List Int)) (c : List Int) : Bool := ss.all (D9 c)
structure CU (many : Int) (s : List Int) : Prop where
 rise : (s.map absI).Pairwise (· < ·)
 low : ∀ p ∈ s, 1 <= absI p /\ absI p <= many
structure Dk (n : Nat) (c : List Int) : Prop where
 len : c.length = n
 bit : ∀ x ∈ c, x = 0 \/ x = 1
noncomputable def allC : Nat -> List (List Int)
 | 0 => [[]]
 | n + 1 => (allC n).flatMap fun c => [c ++ [0], c ++ [1]]
noncomputable def D6 : Nat -> List (List Int)
 | 0 => [[]]
 | n + 1 => (D6 n).map (· ++ [0]) ++ (D6 n).map (· ++ [1])
theorem gz : ∀ (n : Nat) (c : List Int), c ∈ allC n -> Dk n c
 | 0, c, h => by simp [allC] at h; subst h; exact ⟨rfl, by simp⟩
 | n + 1, c, h => by
  simp only [allC, List.mem_flatMap] at h
  obtain ⟨d, hd, hc⟩ := h
  have ih := gz n d hd
  simp only [List.mem_cons, List.not_mem_nil, or_false] at hc
  rcases hc with rfl | rfl
  ·exact ⟨by simp [ih.len], fun x hx => by
    rcases List.mem_append.mp hx with h | h
    ·exact ih.bit x h
    ·simp at h; exact .inl h⟩
  ·exact ⟨by simp [ih.len], fun x hx => by
    rcases List.mem_append.mp hx with h | h
    ·exact ih.bit x h
    ·simp at h; exact .inr h⟩
theorem jQ : ∀ n, (allC n).length = 2 ^ n
 | 0 => rfl
 | n + 1 => by
  have : ∀ l : List (List Int), (l.flatMap fun c => [c ++ [0], c ++ [1]]).length = 2 * l.length := by
   intro l
   induction l with
   | nil => rfl
   | cons a r ih => simp only [List.flatMap_cons, List.length_append, ih, List.length_cons, List.length_nil]; lia
  rw [allC, this, jQ n, Nat.pow_succ]
  lia
theorem lG : ∀ n, (D6 n).length = 2 ^ n
 | 0 => rfl
 | n + 1 => by rw [D6, List.length_append, List.length_map, List.length_map, lG n, Nat.pow_succ]; lia
theorem lH (f g : List Int -> List Int) : ∀ l : List (List Int), (l.flatMap fun c => [f c, g c]).Perm (l.map f ++ l.map g)
 | [] => .refl _
 | a :: r => by
  have ih := lH f g r
  simp only [List.flatMap_cons, List.map_cons, List.cons_append, List.nil_append]
  refine .cons _ ?_
  refine (List.Perm.cons _ ih).trans ?_
  exact (List.perm_middle (a := g a) (l₁ := r.map f) (l₂ := r.map g)).symm
theorem iL : ∀ n, (D6 n).Perm (allC n)
 | 0 => .refl _
 | n + 1 => by
  have ih := iL n
  refine ((ih.map _).append (ih.map _)).trans ?_
  exact (lH (· ++ [0]) (· ++ [1]) (allC n)).symm
noncomputable def lexB : List Int -> List Int -> Bool
 | [], [] => false
 | [], _ :: _ => true
 | _ :: _, [] => false
 | x :: xs, y :: ys => if x = y then lexB xs ys else decide (x < y)
theorem nP : ∀ a, lexB a a = false
 | [] => rfl
 | x :: xs => by simp [lexB, nP xs]
theorem jR : ∀ a b, lexB a b = false -> lexB b a = false -> a = b
 | [], [], _, _ => rfl
 | [], _ :: _, h, _ => by simp [lexB] at h
 | _ :: _, [], _, h => by simp [lexB] at h
 | x :: xs, y :: ys, h1, h2 => by
  by_cases e : x = y
  ·subst e
   simp only [lexB, if_true] at h1 h2
   rw [jR xs ys h1 h2]
  ·simp only [lexB, if_neg e, if_neg (fun z => e (Eq.symm z)), decide_eq_false_iff_not] at h1 h2
   lia
theorem fy : ∀ a b, lexB a b = true -> lexB b a = false
 | [], [], h => by simp [lexB] at h
 | [], _ :: _, _ => rfl
 | _ :: _, [], h => by simp [lexB] at h
 | x :: xs, y :: ys, h => by
  by_cases e : x = y
  ·subst e
   simp only [lexB, if_true] at h ⊢
   exact fy xs ys h
  ·simp only [lexB, if_neg e, if_neg (fun z => e (Eq.symm z)), decide_eq_true_eq, decide_eq_false_iff_not] at h ⊢
   lia
theorem mE : ∀ a b c, lexB b a = false -> lexB c b = false -> lexB c a = false
 | [], [], c, _, h => h
 | [], _ :: _, [], _, h => by simp [lexB] at h
 | [], _ :: _, _ :: _, _, _ => rfl
 | _ :: _, [], _, h, _ => by simp [lexB] at h
 | _ :: _, _ :: _, [], _, h => by simp [lexB] at h
 | x :: xs, y :: ys, z :: zs, h1, h2 => by
  by_cases e1 : y = x
  ·subst e1
   simp only [lexB, if_true] at h1
   by_cases e2 : z = y
   ·subst e2
    simp only [lexB, if_true] at h2 ⊢
    exact mE xs ys zs h1 h2
   ·simp only [lexB, if_neg e2] at h2 ⊢
    exact h2
  ·simp only [lexB, if_neg e1, decide_eq_false_iff_not] at h1
   by_cases e2 : z = y
   ·subst e2
    simp only [lexB, if_neg e1, decide_eq_false_iff_not]
    exact h1
   ·simp only [lexB, if_neg e2, decide_eq_false_iff_not] at h2
    have e3 : ¬ z = x := by lia
    simp only [lexB, if_neg e3, decide_eq_false_iff_not]
    lia
theorem iM : ∀ (a b : List Int) (x y : Int), a.length = b.length -> lexB (a ++ [x]) (b ++ [y]) = if a = b then decide (x < y) else lexB a b
 | [], [], x, y, _ => by
  by_cases e : x = y
  ·subst e; simp [lexB]
  ·simp [lexB, e]
 | [], _ :: _, _, _, h => by simp at h
 | _ :: _, [], _, _, h => by simp at h
 | p :: r, q :: t, x, y, h => by
  have ih := iM r t x y (by simpa using h)
  by_cases e : p = q
  ·subst e
   simp only [List.cons_append, lexB, if_true, ih, List.cons.injEq, true_and]
  ·simp only [List.cons_append, lexB, if_neg e, List.cons.injEq, e, false_and, if_false]
theorem lI : ∀ n, (allC n).Pairwise fun a b => lexB a b = true
 | 0 => by simp [allC]
 | n + 1 => by
  have ih := lI n
  have ok := gz n
  rw [allC]
  generalize allC n = l at ih ok
  induction l with
  | nil => simp
  | cons c r hi =>
   obtain ⟨h1, h2⟩ := List.pairwise_cons.mp ih
   have ihr := hi h2 fun d hd => ok d (List.mem_cons_of_mem _ hd)
   simp only [List.flatMap_cons]
   have lc := (ok c (List.mem_cons_self ..)).len
   refine List.pairwise_append.mpr ⟨?_, ihr, fun a ha b hb => ?_⟩
   ·simp only [List.pairwise_cons, List.mem_cons, List.not_mem_nil, or_false, forall_eq, false_implies, implies_true, List.Pairwise.nil, and_true]
    rw [iM _ _ _ _ rfl]
    simp
   ·obtain ⟨d, hd, hb⟩ := List.mem_flatMap.mp hb
    have ld := (ok d (List.mem_cons_of_mem _ hd)).len
    have hne : c ≠ d := fun z => by
     subst z
     have := h1 _ hd
     rw [nP] at this
     cases this
    simp only [List.mem_cons, List.not_mem_nil, or_false] at ha hb
    have key : ∀ x y, lexB (c ++ [x]) (d ++ [y]) = true := fun x y => by rw [iM _ _ _ _ (by lia), if_neg hne]; exact h1 d hd
    rcases ha with rfl | rfl <;> rcases hb with rfl | rfl <;> exact key _ _
end Sy
namespace L2
open PySem PySem.Spec PyProof.Rows
variable [Tabs]
noncomputable def Dl : Ct -> Option (List Bool)
 | [] => some []
 | .bool i :: r => (Dl r).map (i :: ·)
 | _ :: _ => none
theorem lJ {K : W.Frag} {G : Hp} : ∀ {vs : List V} {ds : Ct} {bs : List Bool}, Dts K G vs ds -> Dl ds = some bs -> vs = bs.map V.bl
 | _, _, _, .nil, e => by cases e; rfl
 | _, _, _, .cons (d := d) h r, e => by
  cases d with
  | bool i =>
   simp only [Dl, Option.map_eq_some_iff] at e
   obtain ⟨ns, e1, rfl⟩ := e
   cases h
   rw [lJ r e1, List.map_cons]
  | _ => cases e
theorem j7 : ∀ {bs : List Bool} {us : List Value}, Vals (bs.map V.bl) us -> LSm.BoolsAre us bs
 | [], _, r => by cases r; exact .nil
 | b :: bs, _, r => by
  rw [List.map_cons] at r
  cases r with
  | cons h t =>
   cases (show _ = Value.bool b from h)
   exact .cons b (j7 t)
section
variable {X : Cx}
noncomputable def Fd (K : W.Frag) (f : List Bool -> Bool) : List V -> Hp -> VK -> Prop := fun xs H Q => ∃ a bs, xs = [.ref a] /\ SqL K H a (bs.map V.bl) /\ Q (.bl (f bs)) H
theorem rS (hc : X.calm = true) : Di X (.builtin "any") (Fd X.K fun bs => bs.any id) := by
 intro pins s σ H xs us Q I r h
 obtain ⟨l, bs, rfl, hq, q⟩ := h
 obtain ⟨u, rfl, r1⟩ := vals1 r
 cases r1
 obtain ⟨vs, rv, pl, hz⟩ := I.list hq
 have hb := j7 rv
 have hl := pl.isList
 have hlt : l < s.heap.objs.size := by obtain ⟨_, e, _⟩ := id hl; exact Heap.lt_size e
 refine call_any_walk (wpAny_pyIter_list hl ?_)
 refine ⟨s.heap.objs.size, [s.heap.objs.size, l], [s.heap.objs.size], vs.toArray.size, _, _, fun i => (bs[i]?).getD false, rfl, Walks.list (A := X.A.in1) (I.ok.hd hc) _ l (Nat.ne_of_lt hlt) vs.toArray,
  ⟨⟨_, Heap.get?_push_size _ rfl, rfl, rfl⟩, hl.push _⟩, fun i v s' Q' E' hP hQ => ?_, fun h' tk hk => ?_⟩
 ·obtain ⟨b, e, rfl⟩ := hb.get i v (by simpa using hP)
  simp only [e, Option.getD_some] at hQ
  exact wpAny_truthy_bool hQ
 ·have e : ((List.range vs.toArray.size).any fun i => (bs[i]?).getD false) = bs.any id := by
   rw [List.size_toArray, hb.length]; exact LSm.range_any bs
  rw [e]
  exact ⟨.bl _, H, I.kept (t' := tk) (LSm.kept_iter hk), rfl, q⟩
end
noncomputable def dAll : Ct -> Option SD
 | [.list xs] => (Dl xs).map fun bs => .sh (.bool (bs.all id))
 | _ => none
noncomputable def dAny : Ct -> Option SD
 | [.list xs] => (Dl xs).map fun bs => .sh (.bool (bs.any id))
 | _ => none
section
variable {K : W.Frag} {mg : Cu}
theorem AW : CW K mg dAny (Fd K fun bs => bs.any id) := by
 intro G H vs ds res Q hg hd ho k
 unfold dAny at ho
 split at ho
 next xs =>
  obtain ⟨bs, e, rfl⟩ := Option.map_eq_some_iff.mp ho
  obtain ⟨x, rfl, h1⟩ := dts1 hd
  cases h1 with
  | lst q r =>
   have e2 := lJ r e
   subst e2
   exact ⟨_, bs, rfl, (hg.sqr q).sq, ans k hg (.bl _)⟩
 next => cases ho
end
section
variable {X : Cx}
noncomputable def rInD (K : W.Frag) (neg : Bool) : R2 := fun x y H Q => ∃ d xs, (Dt K H y (.list xs) \/ Dt K H y (.tuple xs)) /\ Dt K H x d /\ SeqAt.shaped d = true /\ SeqAt.shaped (.list xs) = true /\ Q (.bl (if neg then !(xs.any fun y => PyData.eqv y d) else xs.any fun y => PyData.eqv y d)) H
theorem yw (hu : X.A.units + 64 < cLine) : OpR X (compareOp .In) (rInD X.K false) := by
 intro pins s σ H x y v u Q I rx ry h
 obtain ⟨d, xs, hy, hx, sd, sl, q⟩ := h
 have cl := SeqAt.canLay_of_shaped sl
 have hdp := SeqAt.depth_of_shaped sl
 have hr : X.A.units + 1 + min (PyData.depthAll xs) d.depth < cLine := by
  have h2 : min (PyData.depthAll xs) d.depth <= PyData.depthAll xs := Nat.min_le_left _ _
  simp only [PyData.depth] at hdp
  lia
 obtain ⟨as, ra⟩ := hx.reads I (SeqAt.canLay_of_shaped sd) rx
 rcases hy with hy | hy
 ·obtain ⟨bs, rb⟩ := hy.reads I cl ry
  exact SeqAt.in_list_reads rb ra cl (SeqAt.canLay_of_shaped sd) hr ⟨.bl _, H, I, rfl, q⟩
 ·obtain ⟨bs, rb⟩ := hy.reads I cl ry
  exact SeqAt.in_tuple_reads rb ra cl (SeqAt.canLay_of_shaped sd) hr ⟨.bl _, H, I, rfl, q⟩
theorem rT (hu : X.A.units + 64 < cLine) : OpR X (compareOp .NotIn) (rInD X.K true) := by
 intro pins s σ H x y v u Q I rx ry h
 obtain ⟨d, xs, hy, hx, sd, sl, q⟩ := h
 have cl := SeqAt.canLay_of_shaped sl
 have hdp := SeqAt.depth_of_shaped sl
 have hr : X.A.units + 1 + min (PyData.depthAll xs) d.depth < cLine := by
  have h2 : min (PyData.depthAll xs) d.depth <= PyData.depthAll xs := Nat.min_le_left _ _
  simp only [PyData.depth] at hdp
  lia
 obtain ⟨as, ra⟩ := hx.reads I (SeqAt.canLay_of_shaped sd) rx
 rcases hy with hy | hy
 ·obtain ⟨bs, rb⟩ := hy.reads I cl ry
  exact SeqAt.notIn_list_reads rb ra cl (SeqAt.canLay_of_shaped sd) hr ⟨.bl _, H, I, rfl, q⟩
 ·obtain ⟨bs, rb⟩ := hy.reads I cl ry
  exact SeqAt.notIn_tuple_reads rb ra cl (SeqAt.canLay_of_shaped sd) hr ⟨.bl _, H, I, rfl, q⟩
end
noncomputable def inB (d : PyData) : PyData -> Option Bool
 | .list xs => if SeqAt.shaped d = true /\ SeqAt.shaped (.list xs) = true then some (xs.any fun y => PyData.eqv y d) else none
 | .tuple xs => if SeqAt.shaped d = true /\ SeqAt.shaped (.list xs) = true then some (xs.any fun y => PyData.eqv y d) else none
 | _ => none
noncomputable def dIn : Ct -> Option SD
 | [x, y] => (inB x y).map fun b => .sh (.bool b)
 | _ => none
section
variable {K : W.Frag} {mg : Cu}
theorem yx {neg : Bool} {G H : Hp} {x y : V} {dx dy : PyData} {b : Bool} {Q : VK} (hg : Same G H) (h1 : Dt K G x dx) (h2 : Dt K G y dy) (e : inB dx dy = some b) (q : Q (.bl (if neg then !b else b)) H) : rInD K neg x y H Q := by
 have h1' := h1.mono hg
 have h2' := h2.mono hg
 unfold inB at e
 split at e
 next xs =>
  split at e
  next hs => cases e; exact ⟨dx, xs, .inl h2', h1', hs.1, hs.2, q⟩
  next => cases e
 next xs =>
  split at e
  next hs => cases e; exact ⟨dx, xs, .inr h2', h1', hs.1, hs.2, q⟩
  next => cases e
 next => cases e
end
section
variable {X : Cx}
noncomputable def flat4 : V -> Bool
 | .non => true | .bl _ => true | .int _ => true | .str _ => true | .ref _ => true | _ => false
noncomputable def rIs (neg : Bool) : R2 := fun x y H Q => flat4 x = true /\ (y = .non \/ ∃ c, y = .bl c) /\ Q (.bl (if neg then !decide (x = y) else decide (x = y))) H
theorem yy {x y : V} {v u : Value} (rx : RelV x v) (ry : RelV y u) (f : flat4 x = true) (hy : y = .non \/ ∃ c, y = .bl c) : plainIs v u = true /\ (v == u) = decide (x = y) := by
 rcases hy with rfl | ⟨c, rfl⟩
 ·cases ry
  cases x <;> first | (cases f; done) | skip
  ·cases rx; exact ⟨rfl, by simp⟩
  ·cases rx; exact ⟨rfl, by simp⟩
  ·obtain ⟨t, rfl⟩ := rx; exact ⟨rfl, by simp⟩
  ·obtain ⟨t, rfl⟩ := rx; exact ⟨rfl, by simp⟩
  ·cases rx; exact ⟨rfl, by simp⟩
 ·cases ry
  cases x <;> first | (cases f; done) | skip
  ·cases rx; exact ⟨rfl, by simp⟩
  ·cases rx; exact ⟨rfl, by simp [Bool.beq_eq_decide_eq]⟩
  ·obtain ⟨t, rfl⟩ := rx; exact ⟨rfl, by simp⟩
  ·obtain ⟨t, rfl⟩ := rx; exact ⟨rfl, by simp⟩
  ·cases rx; exact ⟨rfl, by simp⟩
theorem AX : OpR X (compareOp .Is) (rIs false) := by
 intro pins s σ H x y v u Q I rx ry h
 obtain ⟨f, hy, q⟩ := h
 obtain ⟨h1, h2⟩ := yy rx ry f hy
 exact wpAny_is_plain h1 (by rw [h2]; exact ⟨.bl _, H, I, rfl, q⟩)
end
noncomputable def isB : PyData -> PyData -> Option Bool
 | .none, .none => some true
 | _, .none => some false
 | .bool b, .bool c => some (decide (b = c))
 | _, .bool _ => some false
 | _, _ => none
noncomputable def dIs : Ct -> Option SD
 | [x, y] => (isB x y).map fun b => .sh (.bool b)
 | _ => none
section
variable {K : W.Frag} {mg : Cu}
theorem yz {neg : Bool} {G H : Hp} {x y : V} {dx dy : PyData} {b : Bool} {Q : VK} (h1 : Dt K G x dx) (h2 : Dt K G y dy) (e : isB dx dy = some b) (q : Q (.bl (if neg then !b else b)) H) : rIs neg x y H Q := by
 unfold isB at e
 split at e
 next => cases e; cases h1; cases h2; exact ⟨rfl, .inl rfl, q⟩
 next hn =>
  cases e
  cases h2
  refine ⟨by cases h1 <;> rfl, .inl rfl, ?_⟩
  have : decide (x = V.non) = false := by
   cases h1 <;> first | rfl | exact (hn rfl).elim
  rw [this]; exact q
 next b c =>
  cases e; cases h1; cases h2
  refine ⟨rfl, .inr ⟨_, rfl⟩, ?_⟩
  rw [dB]; exact q
 next c hn =>
  cases e
  cases h2
  refine ⟨by cases h1 <;> rfl, .inr ⟨_, rfl⟩, ?_⟩
  have : decide (x = V.bl c) = false := by
   cases h1 <;> first | rfl | exact (hn _ rfl).elim
  rw [this]; exact q
 next => cases e
theorem Ck : CW K mg dIs (l2 (rIs false)) := by
 intro G H vs ds res Q hg hd ho k
 unfold dIs at ho
 split at ho
 next x y =>
  obtain ⟨b, e, rfl⟩ := Option.map_eq_some_iff.mp ho
  obtain ⟨v, u, rfl, h1, h2⟩ := dts2 hd
  exact yz h1 h2 e (ans k hg (.bl _))
 next => cases ho
end
section
variable {X : Cx} {E : XK} {a b e : Expr} {oa ob : Opd} {pos p : Pos}
theorem u7 (ha : SO X E a oa) (hb : SO X E b ob) : ST X E (.Compare a [.Is] [b] pos) (tstV (eOp dIs [oa, ob])) := fv AX Ck ha hb (nomark _)
theorem yA (hm : X.mg "any" = none) (hb : bootBuiltins "any" = some (.builtin "any")) (ha : SO X E a oa) (hc : X.calm = true := by rfl) (hg : Gl X "any" := by rfl) (hst : starEach [a] X.env = [(false, eval a X.env)] := by rfl) : SE X E (.Call (.Name "any" p) [a] [] pos) (eOp dAny [oa]) :=
 dM (rS hc) AW hm hb (aa ha aj hst) hg (by decide) (by decide) hst rfl
end
theorem nQ : ∀ a b : List Int, HT.lexLt a b = Sy.lexB a b
 | [], [] => rfl
 | [], _ :: _ => rfl
 | _ :: _, [] => rfl
 | x :: xs, y :: ys => by rw [HT.ju, Sy.lexB, nQ xs ys]
theorem Vals.getR : ∀ {xs : List V} {us : List Value} {i : Nat} {u : Value}, Vals xs us -> us[i]? = some u -> ∃ x, xs[i]? = some x /\ RelV x u
 | _, _, _, _, .nil, e => by simp at e
 | _, _, 0, _, .cons r _, e => by simp at e; subst e; exact ⟨_, rfl, r⟩
 | _, _, i + 1, u, .cons _ t, e => by
  obtain ⟨x, h1, h2⟩ := Vals.getR (i := i) (u := u) t (by simpa using e)
  exact ⟨x, by simpa using h1, h2⟩
section
variable {X : Cx}
noncomputable def ltOf (nss : List (List Int)) (i j : Nat) : Bool := Sy.lexB (nss.getD i []) (nss.getD j [])
noncomputable def Fe (K : W.Frag) : List V -> Hp -> VK -> Prop := fun xs H Q => ∃ (a : Addr) (vs : List V) (nss : List (List Int)), xs = [.ref a] /\ SqL K H a vs /\ vs.length = nss.length /\ nss.length < 64 /\
 (∀ (i : Nat) (v : V) (ns : List Int), vs[i]? = some v -> nss[i]? = some ns -> ∃ b, v = V.ref b /\ SqL K H b (ns.map V.int)) /\
 ∀ p : Array Nat, Tab nss.length p -> Rises (ltOf nss) p nss.length -> ∀ l, H l = none -> Q (.ref l) (upd H l (.lst (p.toList.map fun i => vs.getD i .non)))
theorem mF (hu : X.A.units + 64 < cLine) : Di X (.builtin "sorted") (Fe X.K) := by
 intro pins s σ H xs us Q I r h
 obtain ⟨a, vs, nss, rfl, hq, hlen, h64, hit, q⟩ := h
 obtain ⟨u, rfl, r1⟩ := vals1 r
 cases r1
 obtain ⟨its, rv, pl, hz⟩ := I.list hq
 have el : its.length = nss.length := by rw [<- rv.length]; exact hlen
 have item : ∀ i, i < its.length -> ∃ b ws ns, its[i]? = some (.ref b) /\ nss[i]? = some ns /\ s.heap.IsList b ws /\ IntsAre ws.toList ns := by
  intro i hi
  obtain ⟨v, e1, e2⟩ := Vals.getR (i := i) (u := its[i]) rv (List.getElem?_eq_getElem hi)
  have e3 : nss[i]? = some nss[i] := List.getElem?_eq_getElem (by lia)
  obtain ⟨b, rfl, hb⟩ := hit i v _ e1 e3
  obtain ⟨ws, rw', pw, _⟩ := I.list hb
  refine ⟨b, ws.toArray, _, ?_, e3, pw.isList, bZ rw'⟩
  rw [List.getElem?_eq_getElem hi]
  exact congrArg some e2
 refine rR (T := .type "list") (lt := ltOf nss) pl.isList (by lia) (fun i j k h1 h2 => Sy.mE _ _ _ h1 h2) (fun i j h1 => Sy.fy _ _ h1) (fun h' k v hv => ?_) rfl rfl (fun h' k i j C hi hj hC => ?_) fun p T R => ?_
 ·obtain ⟨i, hi, rfl⟩ := List.getElem_of_mem hv
  obtain ⟨b, ws, ns, e1, e2, ⟨o, ho, hc, _⟩, _⟩ := item i hi
  rw [List.getElem?_eq_getElem hi] at e1
  injection e1 with e1
  rw [e1]
  exact fun A Q E s' k' q => wpAny_typeOf (T := "list") ⟨o, k' _ _ (k _ _ ho), hc⟩ q
 ·obtain ⟨b, ws, ns, e1, e2, hw, hi'⟩ := item i hi
  obtain ⟨c, zs, ms, e3, e4, hz', hj'⟩ := item j hj
  have g1 : its.getD i Value.none = .ref b := by rw [List.getD_eq_getElem?_getD, e1]; rfl
  have g2 : its.getD j Value.none = .ref c := by rw [List.getD_eq_getElem?_getD, e3]; rfl
  have g3 : nss.getD i [] = ns := by rw [List.getD_eq_getElem?_getD, e2]; rfl
  have g4 : nss.getD j [] = ms := by rw [List.getD_eq_getElem?_getD, e4]; rfl
  rw [g1, g2]
  have kl : ∀ {b : Addr} {ws : Array Value}, s.heap.IsList b ws -> h'.IsList b ws := fun {b ws} ⟨o, ho, hc⟩ => ⟨o, k _ _ ho, hc⟩
  refine nO (by show X.A.units + 1 + 1 < cLine; lia) (kl hw) (kl hz') hi' hj' ?_
  rw [nQ, <- g3, <- g4]
  exact hC
 ·rw [el] at T R
  obtain ⟨e, he⟩ := sortedAll_at s.heap its (List.toArray (p.toList.map fun i => its.getD i Value.none))
  refine ⟨.ref (s.heap.objs.size + 1), _, I.laid (t' := s.toks) (fun _ _ => sortedAll_old) (Nat.le_succ _) ?_, rfl, q p T R _ (I.hok.fresh (Nat.le_succ _))⟩
  refine ⟨?_, _, e, ?_, he⟩
  ·rw [List.length_map, Array.length_toList, T.size]
   exact Nat.le_trans (Nat.le_of_lt h64) (by decide)
  ·refine fU (by rw [List.length_map, List.length_map]) fun j x u a1 a2 => ?_
   rw [List.getElem?_map] at a1 a2
   cases e5 : p.toList[j]? with
   | none => rw [e5] at a1; cases a1
   | some i =>
    rw [e5] at a1 a2
    simp only [Option.map_some, Option.some.injEq] at a1 a2
    subst a1 a2
    have hi : i < its.length := by
     have hm : i ∈ p := by
      have := List.mem_of_getElem? e5
      simpa using this
     have := T.perm.mem_iff.mp hm
     rw [el]
     simpa using this
    obtain ⟨x, b1, b2⟩ := Vals.getR (i := i) rv (List.getElem?_eq_getElem hi)
    rw [List.getD_eq_getElem?_getD, List.getD_eq_getElem?_getD, b1, List.getElem?_eq_getElem hi]
    exact b2
end
noncomputable def encL (ns : List Int) : PyData := .list (ns.map PyData.int)
noncomputable def Ek : Ct -> Option (List (List Int))
 | [] => some []
 | .list ds :: r => (CV ds).bind fun ns => (Ek r).map (ns :: ·)
 | _ :: _ => none
theorem bp : ∀ ns : List Int, CV (ns.map PyData.int) = some ns
 | [] => rfl
 | n :: r => by simp [CV, bp r]
theorem lK : ∀ nss : List (List Int), Ek (nss.map encL) = some nss
 | [] => rfl
 | n :: r => by
  have h := lK r
  rw [List.map_cons, encL, Ek, bp]
  show (Ek (r.map encL)).map (n :: ·) = _
  rw [h]; rfl
theorem lL : ∀ {ds : Ct} {ns : List Int}, CV ds = some ns -> ds = ns.map PyData.int
 | [], _, e => by cases e; rfl
 | d :: r, _, e => by
  cases d with
  | int i =>
   simp only [CV, Option.map_eq_some_iff] at e
   obtain ⟨ns, e1, rfl⟩ := e
   rw [List.map_cons, <- lL e1]
  | _ => cases e
theorem nR : ∀ {ds : Ct} {nss : List (List Int)}, Ek ds = some nss -> ds = nss.map encL
 | [], _, e => by cases e; rfl
 | d :: r, _, e => by
  cases d with
  | list xs =>
   simp only [Ek, Option.bind_eq_some_iff, Option.map_eq_some_iff] at e
   obtain ⟨ns, e1, ms, e2, rfl⟩ := e
   rw [List.map_cons, <- nR e2, encL, <- lL e1]
  | _ => cases e
noncomputable def insL (x : List Int) : List (List Int) -> List (List Int)
 | [] => [x]
 | y :: r => if Sy.lexB y x = true then y :: insL x r else x :: y :: r
noncomputable def El : List (List Int) -> List (List Int)
 | [] => []
 | x :: r => insL x (El r)
theorem iN (x : List Int) : ∀ l, (insL x l).Perm (x :: l)
 | [] => .refl _
 | y :: r => by
  unfold insL
  split
  ·exact ((iN x r).cons y).trans (.swap x y r)
  ·exact .refl _
theorem jS : ∀ l, (El l).Perm l
 | [] => .refl _
 | x :: r => (iN x _).trans ((jS r).cons x)
theorem lM (x : List Int) : ∀ l, l.Pairwise (fun a b => Sy.lexB b a = false) -> (insL x l).Pairwise (fun a b => Sy.lexB b a = false)
 | [], _ => by simp [insL]
 | y :: r, h => by
  obtain ⟨h1, h2⟩ := List.pairwise_cons.mp h
  unfold insL
  split
  next hxy => exact List.pairwise_cons.mpr ⟨fun z hz => by
    rcases List.mem_cons.mp ((iN x r).mem_iff.mp hz) with e | e
    ·rw [e]; exact Sy.fy _ _ hxy
    ·exact h1 z e, lM x r h2⟩
  next hxy =>
   have hxy' : Sy.lexB y x = false := by simpa using hxy
   exact List.pairwise_cons.mpr ⟨fun z hz => by
    rcases List.mem_cons.mp hz with e | e
    ·rw [e]; exact hxy'
    ·exact Sy.mE _ _ _ hxy' (h1 z e), h⟩
theorem jT : ∀ l, (El l).Pairwise (fun a b => Sy.lexB b a = false)
 | [] => .nil
 | x :: r => lM x _ (jT r)
theorem nS {r l : List (List Int)} (hp : r.Perm l) (hr : r.Pairwise (fun a b => Sy.lexB b a = false)) : r = El l :=
 (hp.trans (jS l).symm).eq_of_pairwise (le := fun a b => Sy.lexB b a = false) (fun a b _ _ h1 h2 => Sy.jR a b h2 h1) hr (jT l)
noncomputable def Ex : Ct -> Option SD
 | [.list xs] => if xs.length < 64 then (Ek xs).map fun nss => .ol ((El nss).map encL) else none
 | _ => none
theorem pC {nss : List (List Int)} {p : Array Nat} (T : Tab nss.length p) (R : Rises (ltOf nss) p nss.length) : p.toList.map (fun i => nss.getD i []) = El nss := by
 refine nS ?_ ?_
 ·have hp : p.toList.Perm (List.range nss.length) := by
   have := T.perm.toList
   simpa using this
  refine (hp.map fun i => nss.getD i []).trans ?_
  have : (List.range nss.length).map (fun i => nss.getD i []) = nss := by
   apply List.ext_getElem?
   intro j
   rw [List.getElem?_map]
   by_cases hj : j < nss.length
   ·rw [List.getElem?_range hj, Option.map_some, List.getD_eq_getElem?_getD, List.getElem?_eq_getElem hj]; rfl
   ·rw [List.getElem?_eq_none (by simpa using hj), List.getElem?_eq_none (by lia)]; rfl
  rw [this]
 ·rw [List.pairwise_map]
  rw [List.pairwise_iff_getElem]
  intro i j hi hj hij
  have hs := T.size
  have hj' : j < p.size := by simpa using hj
  have hi' : i < p.size := by simpa using hi
  have := R i j (Nat.le_of_lt hij) (by lia)
  unfold ltOf at this
  simpa [Array.getD, hi', hj'] using this
theorem w4 {K : W.Frag} {mg : Cu} : CW K mg Ex (Fe K) := by
 intro G H vs ds res Q hg hd ho k
 unfold Ex at ho
 split at ho
 next xs =>
  split at ho
  next hl =>
   obtain ⟨nss, e, rfl⟩ := Option.map_eq_some_iff.mp ho
   obtain ⟨x, rfl, h1⟩ := dts1 hd
   have e2 := nR e
   subst e2
   rw [List.length_map] at hl
   cases h1 with
   | lst q r =>
    rename_i vs
    have hlen := r.len
    rw [List.length_map] at hlen
    refine ⟨_, vs, nss, rfl, (hg.sqr q).sq, hlen, hl, fun i v ns h1 h2 => ?_, fun p T R l hp => ?_⟩
    ·obtain ⟨d, e3, hd⟩ := Dts.get r h1
     rw [List.getElem?_map, h2] at e3
     cases e3
     unfold encL at hd
     cases hd with
     | lst q2 r2 =>
      have e4 := cV r2 (bp ns)
      subst e4
      exact ⟨_, rfl, (hg.sqr q2).sq⟩
    ·refine k _ _ _ (.laidO hg hp) (fX hg hp ?_)
     rw [<- pC T R, List.map_map]
     have hm : ∀ i ∈ p.toList, i < nss.length := fun i hi => by
      have := T.perm.mem_iff.mp (by simpa using hi)
      simpa using this
     generalize p.toList = l at hm
     induction l with
     | nil => exact .nil
     | cons i t ih =>
      refine .cons ?_ (ih fun j hj => hm j (.tail _ hj))
      have hi := hm i (.head _)
      obtain ⟨v, e5, hv⟩ := Dts.get' (i := i) r (by rw [List.getElem?_map, List.getElem?_eq_getElem hi]; rfl)
      show Dt _ _ (vs.getD i V.non) (encL (nss.getD i []))
      rw [List.getD_eq_getElem?_getD, e5, List.getD_eq_getElem?_getD, List.getElem?_eq_getElem hi]
      exact hv
  next => cases ho
 next => cases ho
section
variable {X : Cx} {E : XK} {a b e : Expr} {oa ob : Opd} {pos p : Pos}
theorem u9 (hu : X.A.units + 64 < cLine) (hm : X.mg "sorted" = none) (hb : bootBuiltins "sorted" = some (.builtin "sorted")) (ha : SO X E a oa) (hg : Gl X "sorted" := by rfl) (hst : starEach [a] X.env = [(false, eval a X.env)] := by rfl) : SE X E (.Call (.Name "sorted" p) [a] [] pos) (eOp Ex [oa]) :=
 dM (mF hu) w4 hm hb (aa ha aj hst) hg (by decide) (by decide) hst rfl
end
@[simp] theorem xh : Dl [] = some [] := rfl
@[simp] theorem w6 (b : Bool) (r : Ct) : Dl (.bool b :: r) = (Dl r).map (b :: ·) := rfl
theorem ip {α : Type} (f : α -> Bool) : ∀ l : List α, Dl (l.map fun x => PyData.bool (f x)) = some (l.map f)
 | [] => rfl
 | n :: r => by simp [ip f r]
@[simp] theorem BW (xs : Ct) : dAll [.list xs] = (Dl xs).map fun bs => .sh (.bool (bs.all id)) := rfl
@[simp] theorem BX (xs : Ct) : dAny [.list xs] = (Dl xs).map fun bs => .sh (.bool (bs.any id)) := rfl
@[simp] theorem Cm (x y : PyData) : dIn [x, y] = (inB x y).map fun b => .sh (.bool b) := rfl
@[simp] theorem AY (x : PyData) (xs : Ct) : inB x (.list xs) = if SeqAt.shaped x = true /\ SeqAt.shaped (.list xs) = true then some (xs.any fun y => PyData.eqv y x) else none := rfl
@[simp] theorem zJ (x : PyData) (xs : Ct) : inB x (.tuple xs) = if SeqAt.shaped x = true /\ SeqAt.shaped (.list xs) = true then some (xs.any fun y => PyData.eqv y x) else none := rfl
@[simp] theorem Cn (x y : PyData) : dIs [x, y] = (isB x y).map fun b => .sh (.bool b) := rfl
@[simp] theorem AZ (b c : Bool) : isB (.bool b) (.bool c) = some (decide (b = c)) := rfl
@[simp] theorem B0 : isB .none .none = some true := rfl
@[simp] theorem zK (xs : Ct) : Ex [.list xs] = if xs.length < 64 then (Ek xs).map fun nss => .ol ((El nss).map encL) else none := rfl
end L2
namespace L2
open PySem PySem.Spec PySem.W PyProof.Rows
open HT (lexLt)
section
variable {prog : Program} {w : World} {A : Around} {E : Cw} {s : Shared}
end
end L2
namespace L2
open PySem PySem.Spec PyProof.Rows
variable [Tabs]
section
variable {X : Cx}
end
section
variable {X : Cx} {E : XK} {a b e : Expr} {oa ob : Opd} {pos p : Pos}
end
noncomputable def maxZ : List Int -> Int
 | [] => 0
 | [x] => x
 | x :: y :: r => max x (maxZ (y :: r))
theorem jU : ∀ {l : List Int}, l ≠ [] -> maxZ l ∈ l
 | [], h => absurd rfl h
 | [x], _ => by simp [maxZ]
 | x :: y :: r, _ => by
  have := jU (l := y :: r) (by simp)
  rw [maxZ]
  rcases Int.le_total x (maxZ (y :: r)) with h | h
  ·rw [Int.max_eq_right h]; exact List.mem_cons_of_mem _ this
  ·rw [Int.max_eq_left h]; exact List.mem_cons_self ..
theorem qJ : ∀ {l : List Int} {x : Int}, x ∈ l -> x <= maxZ l
 | [y], x, h => by simp at h; simp [maxZ, h]
 | y :: z :: r, x, h => by
  rw [maxZ]
  rcases List.mem_cons.mp h with h | h
  ·rw [h]; exact Int.le_max_left ..
  ·exact Int.le_trans (qJ h) (Int.le_max_right ..)
theorem w8 {l : List Int} {m : Int} (h : m ∈ l) (hm : ∀ x ∈ l, x <= m) : m = maxZ l :=
 Int.le_antisymm (qJ h) (hm _ (jU (List.ne_nil_of_mem h)))
section
variable {X : Cx}
noncomputable def rMax (K : W.Frag) : List V -> Hp -> VK -> Prop := fun xs H Q => ∃ (a : Addr) (ns : List Int), xs = [.ref a] /\ (SqL K H a (ns.map V.int) \/ SqT K H a (ns.map V.int)) /\ ns ≠ [] /\ Q (.int (maxZ ns)) H
theorem rV (hc : X.calm = true) : Di X (.builtin "max") (rMax X.K) := by
 intro pins s σ H xs us Q I r h
 obtain ⟨l, ns, rfl, hq, hne, q⟩ := h
 obtain ⟨u, rfl, r1⟩ := vals1 r
 cases r1
 have fin : ∀ {vs : List Value} {xs : Array (Int × Tok)} {v : Value} {h' : Heap} {tk : Nat}, IntsAre vs ns -> vs.toArray = intItems xs -> (intItems xs)[argBest (fun i j => decide (numAt xs i > numAt xs j)) (xs.size - 1)]? = some v -> (∀ b o, s.heap.get? b = some o -> h'.get? b = some o) -> 0 < xs.size ->
   EP X pins σ Q v { s with heap := h', toks := tk } := by
  intro vs xs v h' tk hi hx hv hk hsz
  have hns : ns = xs.toList.map (·.1) := by
   rw [<- hi.numsOf, <- nums_intItems, <- hx]
  obtain ⟨t, rfl⟩ := intItems_at hv
  obtain ⟨h1, h2⟩ := argBest_gt (numAt xs) (xs.size - 1)
  have e : numAt xs (argBest (fun i j => decide (numAt xs i > numAt xs j)) (xs.size - 1)) = maxZ ns := by
   refine w8 ?_ fun a ha => ?_
   ·rw [hns, numAt_eq]; exact getD_mem (by rw [List.length_map, Array.length_toList]; omega)
   ·rw [hns] at ha
    obtain ⟨j, hj, rfl⟩ := mem_getD ha
    rw [List.length_map, Array.length_toList] at hj
    rw [<- numAt_eq]; exact h2 j (by omega)
  rw [e]
  exact ⟨.int _, H, I.kept (t' := tk) hk, ⟨t, rfl⟩, q⟩
 have pos : ∀ {xs : Array (Int × Tok)} {vs : List Value}, IntsAre vs ns -> vs.toArray = intItems xs -> 0 < xs.size := fun {xs vs} hi hx => by
  have e : ns.length = xs.size := by
   rw [<- hi.length, <- List.size_toArray, hx]; simp [intItems]
  have := List.length_pos_iff.mpr hne
  omega
 rcases hq with hq | hq
 ·obtain ⟨vs, rv, pl, hz⟩ := I.list hq
  have hi := bZ rv
  obtain ⟨xs, hx⟩ := hi.allInts.items
  exact max_intList (I.ok.hd hc) (hx ▸ pl.isList) (pos hi hx) fun v h' tk hv hk => fin hi hx hv hk (pos hi hx)
 ·obtain ⟨vs, rv, pl, hz⟩ := I.tuple hq
  have hi := bZ rv
  obtain ⟨xs, hx⟩ := hi.allInts.items
  have ht : s.heap.IsTuple l (intItems xs) := hx ▸ pl
  obtain ⟨o, ho, hcl, n, hd⟩ := id ht
  have hn : l ≠ s.heap.objs.size := Nat.ne_of_lt (Heap.lt_size ho)
  refine call_max_walk (wpAny_pyIter_tuple ht ?_)
  refine ⟨_, _, _, _, _, _, _, rfl, Walks.tuple (A := X.A.in1) (I.ok.hd hc) _ l hn (intItems xs), ⟨⟨_, Heap.get?_push_size _ rfl, rfl, rfl⟩, ht.at fun o e => Heap.get?_push_of_some _ e⟩, fun b hb => ?_, by simpa [intItems] using pos hi hx, CmpOf.ints_gt (numAt xs) (fun _ _ => intItems_at), fun v h' tk hP hk => ?_⟩
  ·rcases List.mem_cons.mp hb with rfl | hb
   ·exact Heap.lt_size (Heap.get?_push_size _ rfl)
   ·obtain rfl := List.mem_singleton.mp hb
    exact Heap.lt_size (Heap.get?_push_of_some _ ho)
  ·exact fin hi hx (by simpa [intItems] using hP) (LSm.kept_iter hk) (pos hi hx)
end
noncomputable def dMax : Ct -> Option SD
 | [.list (x :: r)] => (CV (x :: r)).map fun ns => .sh (.int (maxZ ns))
 | [.tuple (x :: r)] => (CV (x :: r)).map fun ns => .sh (.int (maxZ ns))
 | _ => none
theorem B1 {K : W.Frag} {mg : Cu} : CW K mg dMax (rMax K) := by
 intro G H vs ds res Q hg hd ho k
 unfold dMax at ho
 split at ho
 next y t =>
  obtain ⟨bs, e, rfl⟩ := Option.map_eq_some_iff.mp ho
  obtain ⟨x, rfl, h1⟩ := dts1 hd
  cases h1 with
  | lst q r =>
   have e2 := cV r e
   have hl := r.len
   subst e2
   exact ⟨_, bs, rfl, .inl (hg.sqr q).sq, fun z => by rw [z] at hl; simp at hl, ans k hg (.int _)⟩
 next y t =>
  obtain ⟨bs, e, rfl⟩ := Option.map_eq_some_iff.mp ho
  obtain ⟨x, rfl, h1⟩ := dts1 hd
  cases h1 with
  | tup q r =>
   have e2 := cV r e
   have hl := r.len
   subst e2
   exact ⟨_, bs, rfl, .inr (hg.tup q), fun z => by rw [z] at hl; simp at hl, ans k hg (.int _)⟩
 next => cases ho
section
variable {X : Cx} {E : XK} {a b e : Expr} {oa ob : Opd} {pos p : Pos}
theorem yB (hm : X.mg "max" = none) (hb : bootBuiltins "max" = some (.builtin "max")) (ha : SO X E a oa) (hc : X.calm = true := by rfl) (hg : Gl X "max" := by rfl) (hst : starEach [a] X.env = [(false, eval a X.env)] := by rfl) : SE X E (.Call (.Name "max" p) [a] [] pos) (eOp dMax [oa]) :=
 dM (rV hc) B1 hm hb (aa ha aj hst) hg (by decide) (by decide) hst rfl
end
section
variable {prog : Program} {w : World} {A : Around} {E : Cw} {s : Shared}
theorem nU {l : Addr} {vs : List Value} {Q : List Value -> Shared -> Prop} (ht : IsTup s.heap l vs.toArray) (hsz : vs.length <= sizeLine)
  (q : Q vs { s with heap := (s.heap.push (seqObj "list" #[] 0)).update s.heap.objs.size (Obj.mapSeq (· ++ vs.toArray)) }) : wpAny (model prog w) A (collect (.ref l)) Q E s := by
 obtain ⟨o, ho, hc, n, hd⟩ := id ht
 have hn : (s.heap.push (seqObj "list" #[] 0)).get? l = some o := Heap.get?_push_of_some _ ho
 have hm : (s.heap.push (seqObj "list" #[] 0)).get? s.heap.objs.size = some (seqObj "list" #[] 0) := Heap.get?_push_size _ rfl
 unfold collect
 refine wpAny_bind (wpAny_runValue (codeAny_builtin entry_proto_collect' ?_))
 show wpAny _ _ (newList [] >>= fun l' => again (.builtin "list.__iadd__" ⟨[l', .ref l], []⟩)) _ _ s
 refine wpAny_bind (wpAny_newList (wpAny_pure ⟨Code.quiet_builtin _ (by decide +kernel), codeAny_builtin entry_list_iadd' ?_⟩) (Nat.zero_le _))
 show wpAny _ _ (Builtin.List.listExtendWith (.ref s.heap.objs.size) (.ref l) (.ref s.heap.objs.size)) _ _ ({ s with heap := s.heap.push (seqObj "list" #[] 0) } : Shared)
 unfold Builtin.List.listExtendWith
 have e2 : (Value.type "tuple" == Value.type "tuple") = true := rfl
 refine wpAny_bind (wpAny_typeOf (T := "tuple") ⟨o, hn, hc⟩ ?_)
 rw [e2, Bool.or_true, if_pos rfl]
 refine wpAny_bind (listItems_at hn hd (wpAny_bind (listItems_at (xs := #[]) (n := 0) hm rfl ?_)))
 rw [if_neg (by simp)]
 refine wpAny_bind (listUpdate_at (xs := #[]) (n := 0) hm rfl (wpAny_pure ?_) (Nat.zero_le _) (by simp only [Array.size_append, List.size_toArray, List.length_nil]; lia))
 refine wpAny_bind (wpAny_load (get?_update_seq hm _) ?_)
 have e3 : ((#[] : Array Value) ++ vs.toArray).toList = vs := by simp
 show wpAny _ _ (pure ((#[] : Array Value) ++ vs.toArray).toList) Q E _
 rw [e3]
 exact wpAny_pure q
theorem nV {l : Addr} {vs : List Value} {ns : List Int} {Q : Cw} (ht : IsTup s.heap l vs.toArray) (hI : IntsAre vs ns) (h64 : vs.length < 64)
  (h : ∀ (out : Array Value) (ns' : List Int), IntsAre out.toList ns' -> ns'.Perm ns -> ns'.Pairwise (· <= ·) -> Q (.ref (s.heap.objs.size + 1)) { s with heap := sortedAll s.heap vs out }) :
  wpAny (model prog w) A (call (.builtin "sorted") [.ref l]) Q E s := by
 have zl : vs.length <= sizeLine := by rw [sizeLine_eq]; lia
 refine Calls.call_function_entry kind_sorted plain_sorted entry_sorted (args_sorted1 _) ?_
 unfold Builtin.«sorted»
 refine wpAny_bind (m := checkCount "sorted" 1 1 _) (wpAny_pure ?_)
 refine wpAny_bind (nU ht zl (wpAny_bind (wpAny_newList ?_ zl)))
 have z1 : ((s.heap.push (seqObj "list" #[] 0)).update s.heap.objs.size (Obj.mapSeq (· ++ vs.toArray))).objs.size = s.heap.objs.size + 1 := (Heap.size_update _ _ _).trans (size_push' _ _)
 have z2 : (((s.heap.push (seqObj "list" #[] 0)).update s.heap.objs.size (Obj.mapSeq (· ++ vs.toArray))).push (seqObj "list" vs.toArray 0)).get? (s.heap.objs.size + 1) = some (seqObj "list" vs.toArray 0) := z1 ▸ Heap.get?_push_size _ rfl
 show wpAny _ _ _ _ _ ({ s with heap := ((s.heap.push (seqObj "list" #[] 0)).update s.heap.objs.size (Obj.mapSeq (· ++ vs.toArray))).push (seqObj "list" vs.toArray 0) } : Shared)
 rw [z1]
 refine wpAny_bind (wpAny_holding (wpAny_call_entry slot_list_sort ⟨_, z2, rfl⟩ entry_list_sort (list_sort_tree z2 hI h64 fun out ns' a1 a2 a3 => ⟨_, rfl, ?_⟩) (args_list_sort _)))
 exact wpAny_pure ⟨_, rfl, h out ns' a1 a2 a3⟩
end
section
variable {X : Cx}
noncomputable def F3 (K : W.Frag) : List V -> Hp -> VK -> Prop := fun xs H Q => ∃ (a : Addr) (ns : List Int), xs = [.ref a] /\ SqT K H a (ns.map V.int) /\ ns.length < 64 /\ ∀ (ns' : List Int) p, ns'.Perm ns -> ns'.Pairwise (· <= ·) -> H p = none -> Q (.ref p) (upd H p (.lst (ns'.map V.int)))
theorem kJ : Di X (.builtin "sorted") (F3 X.K) := by
 intro pins s σ H xs us Q I r h
 obtain ⟨a, ns, rfl, hq, h64, q⟩ := h
 obtain ⟨u, rfl, r1⟩ := vals1 r
 cases r1
 obtain ⟨its, rv, pl, hz⟩ := I.tuple hq
 have hI := bZ rv
 have hl : its.length < 64 := by rw [<- rv.length, List.length_map]; exact h64
 refine nV pl hI hl fun out ns' a1 a2 a3 => ?_
 obtain ⟨e, he⟩ := sortedAll_at s.heap its out
 refine ⟨.ref (s.heap.objs.size + 1), _, I.laid (t' := s.toks) (fun _ _ => sortedAll_old) (Nat.le_succ _) ?_, rfl, q ns' _ a2 a3 (I.hok.fresh (Nat.le_succ _))⟩
 refine ⟨?_, out.toList, e, dH a1, he⟩
 rw [List.length_map, a2.length_eq]
 exact Nat.le_trans (Nat.le_of_lt h64) (by decide)
end
noncomputable def DQ : Ct -> Option SD
 | [.tuple xs] => if xs.length < 64 then (CV xs).map fun ns => .ol ((D2 ns).map PyData.int) else none
 | _ => none
theorem ua {K : W.Frag} {mg : Cu} : CW K mg DQ (F3 K) := by
 intro G H vs ds res Q hg hd ho k
 unfold DQ at ho
 split at ho
 next xs =>
  split at ho
  next hl =>
   obtain ⟨ns, e, rfl⟩ := Option.map_eq_some_iff.mp ho
   obtain ⟨x, rfl, h1⟩ := dts1 hd
   cases h1 with
   | tup q r =>
    have e2 := cV r e
    subst e2
    have hlen := r.len
    rw [List.length_map] at hlen
    refine ⟨_, ns, rfl, hg.tup q, by lia, fun ns' p h1 h2 hp => ?_⟩
    rw [ib h1 h2]
    exact k _ _ _ (.laidO hg hp) (fX hg hp (Dts.ints _))
  next => cases ho
 next => cases ho
section
variable {X : Cx} {E : XK} {a b e : Expr} {oa ob : Opd} {pos p : Pos}
end
open PySem.W
theorem jV {pos : Pos} {a b : Int} {c d : Value} {l : List Value} (h : TriplesOk l) (e : codeAmong pos (l ++ [rawInt a, rawInt b, c]) = some d) : codeAmong pos l = some d \/ d = c := by
 fun_induction TriplesOk l with
 | case1 =>
  simp only [List.nil_append, rawInt, codeAmong] at e
  split at e
  ·exact .inr (Option.some.inj e).symm
  ·simp at e
 | case2 a' t b' u x rest ih =>
  simp only [List.cons_append, codeAmong] at e ⊢
  split at e
  ·rename_i hc; rw [if_pos hc]; exact .inl e
  ·rename_i hc; rw [if_neg hc]; exact ih h e
 | case3 l h1 h2 => exact h.elim
noncomputable def Ed (X : Cx) (A : Around) (N : List Str) (qual : Str) (scope : Scope) (L f : Addr) (cd : Value) (cl : List (Str × Addr)) (s : Shared) (H : Hp) : Cx :=
 { X with A := A.deeper (envX qual scope L f cd cl), N := N, s₀ := s, H₀ := H, env := envX qual scope L f cd cl, outer := X.stack, stack := envX qual scope L f cd cl :: X.stack, ex := [], fn := fun _ => false, calm := true, pn := [], xe := fun _ _ => False }
structure DM (X : Cx) (a : Str) (F : List Nat) (N : List Str) (scope : Scope) : Prop where
 kind : scope.kind = .function
 co : scope.isCoroutine = false
 gen : scope.isGenerator = false
 nocell : ∀ y ∈ scope.names, y.2 ≠ .cell
 arg : scope.names.lookup a = some .local
 free : ∀ y ∈ scope.names, y.2 = .free -> X.env.kindOf y.1 = some .cell \/ X.env.kindOf y.1 = some .free
 n0 : N[0]? = some a
 names : ∀ (i : Nat) x, N[i + 1]? = some x -> ∃ j, F[i]? = some j /\ X.N[j]? = some x /\ Vis X.env.scope x /\ scope.names.lookup x = some .free
 len : N.length = 1 + F.length
section
variable {X : Cx} {pins : Cv} {σ : St} {H : Hp} {s : Shared} {N : List Str} {F : List Nat} {scope : Scope} {cl : List (Str × Addr)} {A : Around} {a qual : Str} {f c' : Addr} {v : V} {u : Value}
theorem w9 (S : DM X a F N scope) (I : Inv X pins σ H s) (hA : A.frames = some X.stack) (hh : A.handled = none) (c1 : ∀ x c, cl.lookup x = some c -> X.env.cells.lookup x = some c) (c2 : ∀ y ∈ scope.names, y.2 = .free -> ∃ c, cl.lookup y.1 = some c)
  (r : RelV v u) {h1 : Heap} {tk : Nat} (k : ∀ b o, s.heap.get? b = some o -> h1.get? b = some o) (hn : h1.Ns s.heap.objs.size (fun x => [(a, u)].reverse.lookup x)) :
  Inv (Ed X A N qual scope s.heap.objs.size f (.ref c') cl s H) [] ((rho 1 F σ).set 0 (some v)) H { s with heap := h1, toks := tk } := by
 have noA : ∀ b : Addr, b ∉ (Ed X A N qual scope s.heap.objs.size f (.ref c') cl s H).ex := fun b z => absurd (show b ∈ ([] : List Addr) from z) (by simp)
 refine ⟨⟨I.ok.mod, S.kind, rfl, rfl, Nat.le_refl _, fun x y c e1 e2 => I.ok.inj x y c (c1 x c e1) (c1 y c e2), fun x hx => ?_, fun x c h => absurd h (by simp [Ed]), fun _ => hh, Around.frames_deeper hA, .inr ⟨rfl, rfl⟩, fun b z => absurd z (noA b), I.bs, Nat.le_trans I.ok.bsz I.sz, fun b _ _ => noA b, fun b z => absurd z (noA b), I.stack, I.stkFree⟩,
  rfl, I.bare, Un.kept k, ⟨_, hn, fun i x w e1 e2 e3 => ?_⟩, fun x c e => ?_, I.hok.fresh (Nat.le_refl _), fun x c e => I.freeC x c (c1 x c e), fun p hp => absurd (show p ∈ ([] : Cv) from hp) (by simp), I.hok.kept k, ?_⟩
 ·have hx : scope.names.lookup x = some .cell \/ scope.names.lookup x = some .free := hx
  rcases hx with e | e
  ·exact absurd rfl (S.nocell _ (PySem.mem_of_lookup e))
  ·exact c2 _ (PySem.mem_of_lookup e) rfl
 ·cases i with
  | zero =>
   have ea : x = a := by
    have q : N[0]? = some x := e1
    rw [S.n0] at q
    exact (Option.some.inj q).symm
   have ew : w = v := by
    rw [List.getElem?_set_self (by rw [dY]; lia)] at e2
    exact (Option.some.inj (Option.some.inj e2)).symm
   subst ea ew
   exact ⟨u, r, .inl ⟨S.arg, by simp⟩⟩
  | succ i =>
   rw [List.getElem?_set_ne (by lia)] at e2
   obtain ⟨_, j, q1, q2⟩ := jj e2
   obtain ⟨j', z1, z2, z3, z4⟩ := S.names i x e1
   have q1' : F[i]? = some j := by simpa using q1
   rw [q1'] at z1
   cases z1
   obtain ⟨m0, _, hl⟩ := I.loc
   obtain ⟨u', r', l⟩ := hl j x w z2 q2 z3
   refine ⟨u', r', .inr ⟨.inr z4, ?_⟩⟩
   have hm := PySem.mem_of_lookup z4
   obtain ⟨c, hc⟩ := c2 _ hm rfl
   refine ⟨c, hc, ?_⟩
   rcases l with ⟨q, _⟩ | ⟨_, c'', e', ic⟩
   ·rcases S.free _ hm rfl with y | y
    ·rw [q] at y; cases y
    ·rw [q] at y; cases y
   ·have : c'' = c := Option.some.inj (e'.symm.trans (c1 _ _ hc))
    subst this
    obtain ⟨o, ho, hd⟩ := ic
    exact ⟨o, k _ _ ho, hd⟩
 ·obtain ⟨w, o, ho, hd⟩ := I.cell x c (c1 x c e)
  exact ⟨w, o, k _ _ ho, hd⟩
 ·show ((rho 1 F σ).set 0 (some v)).length = N.length
  rw [List.length_set, dY, S.len]
theorem ub {params : Arguments} {body : Expr} {pm ctv : Value} {o : Obj} {te : TE} {Q : VK} {name : Str} (S : DM X a F N scope) (I : Inv X pins σ H s) (hA : A.frames = some X.stack) (hh : A.handled = none) (hroom : A.depth < recursionLimit)
  (c1 : ∀ x c, cl.lookup x = some c -> X.env.cells.lookup x = some c) (c2 : ∀ y ∈ scope.names, y.2 = .free -> ∃ c, cl.lookup y.1 = some c)
  (ho : s.heap.get? f = some o) (hd : o.data = .func (kla_fn name qual params body scope cl pm (.ref c') ctv)) (hcd : s.heap.CodeRec (.ref c') qual) (hb : bindArgs (kla_fn name qual params body scope cl pm (.ref c') ctv) ⟨[u], []⟩ = pure [(a, u)])
  (r : RelV v u) (he : PE (Ed X A N qual scope s.heap.objs.size f (.ref c') cl s H) body te) (h : te ((rho 1 F σ).set 0 (some v)) H Q) :
  wpAny (model X.prog X.w) A (call (.ref f) [u]) (fun w s' => CE X.stack X.prog X.w H s Q w s') (fun _ _ => False) s := by
 refine wpAny_call (kla_callFunE hroom ho hd S.co S.gen rfl hcd ?_)
 rw [hb]
 refine wpAny_pure (wpAny_newFunctionEnv S.nocell (fun y hy => ?_) (fun h1 hns hsb => ?_) S.kind)
 ·rw [List.mem_singleton] at hy; subst hy; exact S.arg
 ·have k : ∀ b o, s.heap.get? b = some o -> h1.get? b = some o := fun b o e => hsb.extBut b o (Nat.ne_of_lt (Heap.lt_size e)) (Heap.get?_push_of_some _ e)
  refine ⟨I.nolimit.keeps k, ?_⟩
  show codeAny _ _ (.expr body (envX qual scope s.heap.objs.size f (.ref c') cl)) _ _
  have J := w9 (f := f) (c' := c') (qual := qual) S I hA hh c1 c2 r k hns (tk := s.toks + [(a, u)].length)
  refine kla_codeExpr (wpAny_mono (he [] _ _ H Q J h) (fun w s' hw => ?_) fun _ _ z => z.elim)
  obtain ⟨x, H', J', rx, q⟩ := hw
  exact ⟨x, H', J'.os, J'.bare, J'.base, J'.hok, rx, q⟩
noncomputable def Bm (mg : Cu) (h : Heap) : Prop := ∃ bm ob, mg "__builtins__" = some (.ref bm) /\ bm ≠ builtinsNs /\ h.get? bm = some ob /\ ob.cls = .type "module" /\ ob.dict = some builtinsNs /\ ob.data = .plain
theorem uc {params : Arguments} {body : Expr} {pos : Pos} {c P : Addr} {Qv : Cw} (S : DM X a F N scope) (I : Inv X pins σ H s) (tb : DW H) (hP : P ∈ Tabs.ts) (C : CodeHd X.base c P) (hcode : X.env.code = .ref c) (hq : X.env.qual ++ "<lambda>" = Tabs.qual) (bm : Bm X.mg X.base)
  (hdef : defaultsOf params X.env = ([], []))
  (h : ∀ (f c' : Addr) (cl : List (Str × Addr)) (pm ctv : Value) (o : Obj) (H' : Hp) (s' : Shared), Inv X pins σ H' s' -> DI H H' -> (∀ x c, cl.lookup x = some c -> X.env.cells.lookup x = some c) -> (∀ y ∈ scope.names, y.2 = .free -> ∃ c, cl.lookup y.1 = some c) ->
   s'.heap.get? f = some o -> o.data = .func (kla_fn "<lambda>" Tabs.qual params body scope cl pm (.ref c') ctv) -> H' f = none -> f ∉ frs X.stack -> H' c' = some (DL c' Tabs.qual) -> Qv (.ref f) s') :
  wpAny (model X.prog X.w) X.A (eval (.Lambda params body scope pos) X.env) Qv X.xe s := by
 obtain ⟨cl, hcl, c1, c2⟩ := jA (scope := scope) (env := X.env) fun y hy hf => I.ok.has _ (S.free y hy hf)
 refine kla_eval hdef ?_
 rw [hq]
 obtain ⟨ps, hHP, htr, hcodes⟩ := tb P hP
 have hPo : s.heap.get? P = some (tabObj ps) := I.hok P _ hHP
 have hgs : s.heap.Ns mainGlobals X.mg := I.mod.glob.keeps I.bk
 have Cs : CodeHd s.heap c P := C.keeps I.bk
 obtain ⟨bma, ob, b1, b2, b3, b4, b5, b6⟩ := bm
 have hgP : mainGlobals ≠ P := fun q => by
  obtain ⟨o, es, ep, e, hd, _⟩ := hgs
  rw [q, hPo] at e; cases e; cases hd
 have hbP : bma ≠ P := fun q => by
  have e := I.bk _ _ b3
  rw [q, hPo] at e; cases e; cases b4
 have hbG : bma ≠ mainGlobals := fun q => by
  obtain ⟨o, es, ep, e, hd, _⟩ := I.mod.glob
  rw [q, e] at b3; cases b3; rw [hd] at b6; cases b6
 have hB : s.heap.BuiltinsAt X.mg P := ⟨bma, ob, b1, b2, hbG, hbP, I.bk _ _ b3, b4, b5, b6⟩
 have nfs : ∀ {b : Addr}, s.heap.objs.size <= b -> b ∉ frs X.stack := fun {b} hb z => by
  rcases List.mem_cons.mp (I.stkSub b z) with q | q
  ·exact absurd I.lt (by rw [<- q]; exact Nat.not_lt.mpr hb)
  ·exact I.nofs hb q
 cases hf : codeAmong pos ps.toList with
 | some cv =>
  obtain ⟨c', rfl, hc'⟩ := hcodes pos cv hf
  refine kla_makeFunctionHit (mg := X.mg) hcl I.ok.glob hgs hcode Cs hPo htr hf hB fun ctv h' tk hk hsz => ?_
  have hk2 : ∀ b o, s.heap.get? b = some o -> (h'.push { cls := .type "function", data := .func (kla_fn "<lambda>" Tabs.qual params body scope cl ((X.mg "__name__").getD .none) (.ref c') ctv) }).get? b = some o := fun b o e => Heap.get?_push_of_some _ (hk b o e)
  exact h h'.objs.size c' cl _ ctv _ H _ (I.kept hk2) (.refl _) c1 c2 (Heap.get?_push_size _ rfl) rfl (I.hok.fresh hsz) (nfs hsz) hc'
 | none =>
  refine kla_makeFunction (mg := X.mg) hcl I.ok.glob hgs hcode Cs hPo htr hf hgP hB fun c' ctv h' tk hx hge hlt hrec htb => ?_
  have hne : c' ≠ P := fun z => absurd (Heap.lt_size hPo) (by rw [<- z]; exact Nat.not_lt.mpr hge)
  have hc0 : H c' = none := I.hok.fresh hge
  have hsz : s.heap.objs.size <= h'.objs.size := Nat.le_of_lt (Nat.lt_of_le_of_lt hge hlt)
  have ne : ∀ {b : Addr} {o : Obj}, s.heap.get? b = some o -> b ≠ c' := fun {b o} e z => absurd (Heap.lt_size e) (by rw [z]; exact Nat.not_lt.mpr hge)
  have kb : ∀ (ob : Obj) b o, b ≠ P -> s.heap.get? b = some o -> (h'.push ob).get? b = some o := fun ob b o hb e => Heap.get?_push_of_some _ (hx b o hb e)
  generalize eo : (kla_obj "<lambda>" Tabs.qual params body scope cl ((X.mg "__name__").getD .none) c' ctv) = obj
  generalize eps : (ps ++ #[rawInt pos.line, rawInt pos.col, .ref c']) = ps' at htb
  have hH' : ∀ b, b ≠ P -> b ≠ c' -> upd (upd H P (.tbl ps')) c' (DL c' Tabs.qual) b = H b := fun b h1 h2 => by rw [ag h2, ag h1]
  have hHP' : upd (upd H P (.tbl ps')) c' (DL c' Tabs.qual) P = some (.tbl ps') := by rw [ag (Ne.symm hne), ao]
  have hHc' : upd (upd H P (.tbl ps')) c' (DL c' Tabs.qual) c' = some (DL c' Tabs.qual) := ao
  have hokn : HOk X.prog X.w (upd (upd H P (.tbl ps')) c' (DL c' Tabs.qual)) (h'.push obj) := fun b u e => by
   by_cases h1 : b = c'
   ·subst h1
    rw [hHc'] at e
    cases e
    obtain ⟨cc, oc, vs, t, e2, hoc, hd, hv⟩ := hrec
    cases e2
    refine ⟨⟨_, oc, vs, t, rfl, Heap.get?_push_of_some _ hoc, hd, hv⟩, ⟨oc, Heap.get?_push_of_some _ hoc⟩, ?_⟩
    rintro g1 g2 ⟨cc, o2, vs2, t2, e3, e4, e5, e6⟩ kk
    cases e3
    exact ⟨_, o2, vs2, t2, rfl, kk _ e4, e5, e6⟩
   ·by_cases h2 : b = P
    ·subst h2
     rw [hHP'] at e
     cases e
     exact Heap.get?_push_of_some _ htb
    ·rw [hH' b h2 h1] at e
     refine (I.hok b u e).stay (fun c2 q hc2 e' => kb obj c2 q ?_ e') (fun c2 q => ?_) fun c2 xs q => ?_
     ·rintro rfl
      rcases hc2 with z | z
      ·exact h2 z.symm
      ·rw [hHP] at z; cases z
     ·rw [hH' c2 (fun z => by rw [z, hHP] at q; cases q) (fun z => by rw [z, hc0] at q; cases q)]; exact q
     ·rw [hH' c2 (fun z => by rw [z, hHP] at q; cases q) (fun z => by rw [z, hc0] at q; cases q)]; exact q
  have un : Un (frs X.stack) [] H (upd (upd H P (.tbl ps')) c' (DL c' Tabs.qual)) s.heap (h'.push obj) := {
   keep := fun b o e n _ _ => kb obj b o (fun z => by rw [z, hHP] at n; cases n) e
   slot := fun b o e n _ _ => ⟨o.slots, kb obj b o (fun z => by rw [z, hHP] at n; cases n) e⟩
   free := fun b o e n _ => by rw [hH' b (fun z => by rw [z, hHP] at n; cases n) (ne e)]; exact n
   there := fun b o e _ => by
    by_cases h2 : b = P
    ·subst h2; exact ⟨_, Heap.get?_push_of_some _ htb⟩
    ·exact ⟨o, kb obj b o h2 e⟩
   tups := fun b xs q => by rw [hH' b (fun z => by rw [z, hHP] at q; cases q) (fun z => by rw [z, hc0] at q; cases q)]; exact q
   frzs := fun b o u q => by rw [hH' b (fun z => by rw [z, hHP] at q; cases q) (fun z => by rw [z, hc0] at q; cases q)]; exact q
   tbls := fun b qs q => by
    by_cases h2 : b = P
    ·subst h2
     rw [hHP] at q
     cases q
     exact ⟨_, by rw [hHP', <- eps]⟩
    ·exact ⟨#[], by rw [hH' b h2 (fun z => by rw [z, hc0] at q; cases q), q]; simp⟩ }
  have sT : DI H (upd (upd H P (.tbl ps')) c' (DL c' Tabs.qual)) := {
   at_ := fun b o e n => by rw [hH' b (fun z => n ps (by rw [z, hHP] at e; exact (Option.some.inj e).symm)) (fun z => by rw [z, hc0] at e; cases e)]; exact e
   nn := fun b e => by
    by_cases h2 : b = P
    ·subst h2; rw [hHP']; simp
    ·rw [hH' b h2 (fun z => e (by rw [z]; exact hc0))]; exact e
   ok := fun t P2 hP2 => by
    obtain ⟨qs, e1, t1, t2⟩ := t P2 hP2
    have old : ∀ {pos c}, codeAmong pos qs.toList = some c -> ∃ c'', c = .ref c'' /\ upd (upd H P (.tbl ps')) c' (DL c' Tabs.qual) c'' = some (DL c'' Tabs.qual) := fun {pos c} hc => by
     obtain ⟨c'', e2, e3⟩ := t2 pos c hc
     exact ⟨c'', e2, by rw [hH' c'' (fun z => by rw [z, hHP] at e3; cases e3) (fun z => by rw [z, hc0] at e3; cases e3)]; exact e3⟩
    by_cases h2 : P2 = P
    ·subst h2
     rw [hHP] at e1
     cases e1
     refine ⟨ps', hHP', ?_, fun pos2 c2 hc2 => ?_⟩
     ·rw [<- eps, Array.toList_append]; exact TriplesOk_snoc _ _ _ _ htr
     ·rw [<- eps, Array.toList_append] at hc2
      rcases jV htr hc2 with z | z
      ·exact old z
      ·exact ⟨c', z, hHc'⟩
    ·exact ⟨qs, by rw [hH' P2 h2 (fun z => by rw [z, hc0] at e1; cases e1)]; exact e1, t1, fun pos2 c2 hc2 => old hc2⟩ }
  have J : Inv X pins σ (upd (upd H P (.tbl ps')) c' (DL c' Tabs.qual)) { s with heap := h'.push obj, toks := tk } :=
   I.call' (s' := { s with heap := h'.push obj, toks := tk }) (ch := []) rfl un hokn I.bare fun b z => absurd z (by simp)
  refine h h'.objs.size c' cl _ ctv obj _ _ J sT c1 c2 (Heap.get?_push_size _ (by rw [<- eo]; rfl)) (by rw [<- eo]) ?_ (nfs hsz) hHc'
  rw [hH' _ (fun z => absurd (Heap.lt_size hPo) (by rw [<- z]; exact Nat.not_lt.mpr hsz)) (Nat.ne_of_gt hlt)]
  exact I.hok.fresh hsz
end
theorem ud (a v d : Value) : argsOk "min" ⟨[a], [(Str.ofString "key", v), (Str.ofString "default", d)]⟩ := by unfold argsOk; kernel_rfl
noncomputable def better (b : Option (V × Int)) (v : V) (n : Int) : Option (V × Int) := match b with
 | none => some (v, n)
 | some (w, m) => if n < m then some (v, n) else some (w, m)
noncomputable def Fw (b : Option (V × Int)) : V := match b with
 | none => .non
 | some (w, _) => w
noncomputable def Ff (h : Heap) (S : Addr) : Option (V × Int) -> Prop
 | none => ∃ e, h.get? S = some (seqObj "list" #[] e)
 | some (v, n) => ∃ u t e, RelV v u /\ h.get? S = some (seqObj "list" #[u, .int n t] e)
section
variable {X : Cx} {pins : Cv} {σ : St} {N : List Str} {F : List Nat} {scope : Scope} {cl : List (Str × Addr)} {a : Str} {f c' l : Addr} {params : Arguments} {body : Expr} {pm ctv : Value} {of : Obj} {te : TE} {vs : List V} {Q : VK} {W : Nat -> Option (V × Int) -> Hp -> Prop}
theorem ue {R : Result -> Shared -> Prop} {I0 S0 : Addr} (S : DM X a F N scope) (hr : X.A.in1.depth < recursionLimit) (hh : X.A.handled = none)
  (c1 : ∀ x c, cl.lookup x = some c -> X.env.cells.lookup x = some c) (c2 : ∀ y ∈ scope.names, y.2 = .free -> ∃ c, cl.lookup y.1 = some c)
  (hd : of.data = .func (kla_fn "<lambda>" Tabs.qual params body scope cl pm (.ref c') ctv)) (hfs : f ∉ frs X.stack)
  (hb : ∀ u, bindArgs (kla_fn "<lambda>" Tabs.qual params body scope cl pm (.ref c') ctv) ⟨[u], []⟩ = pure [(a, u)])
  (he : ∀ (L : Addr) (s : Shared) (H : Hp), PE (Ed X X.A.in1 N Tabs.qual scope L f (.ref c') cl s H) body te)
  (hSI : S0 ≠ I0) (hlI : l ≠ I0)
  (turn : ∀ i b H, W i b H -> SqL X.K H l vs /\ H c' = some (DL c' Tabs.qual) /\ (∀ v, vs[i]? = some v -> te ((rho 1 F σ).set 0 (some v)) H fun k H3 => ∃ n, k = .int n /\ W (i + 1) (better b v n) H3) /\ (i = vs.length -> Q (Fw b) H))
  (hR : ∀ v u H s', Inv X pins σ H s' -> RelV v u -> Q v H -> R (.ok (.ret u)) s') :
  ∀ (r j : Nat) (b : Option (V × Int)) (H : Hp) (s : Shared), vs.length - j = r -> j <= vs.length -> (b = none ↔ j = 0) -> Inv X pins σ H s -> W j b H -> Ff s.heap S0 b -> s.heap.IsListIter I0 l j -> FpOk X pins H S0 -> FpOk X pins H I0 -> s.heap.get? f = some of -> H f = none ->
   codeAny (model X.prog X.w) X.A (.builtin "min.loop" ⟨[.ref I0, .ref f, .ref S0], [(Str.ofString "default", .none)]⟩) R s := by
 have hname : (toString "min" ++ toString ".loop" : String) = "min.loop" := by decide
 intro r
 induction r with
 | zero =>
  intro j b H s hj hjl hb0 I w hbest hit fS fI ho hnf
  have ej : j = vs.length := by lia
  obtain ⟨sq, hc, _, fin⟩ := turn j b H w
  have q := fin ej
  obtain ⟨its, rv, pl, _⟩ := I.list sq
  have hlen := rv.length
  have Wk := Walks.list (prog := X.prog) (w := X.w) (A := X.A.in1) hh I0 l hlI its.toArray
  refine codeAny_builtin PySem.F.entry_min_loop ?_
  rw [Around.under_plainId PySem.F.plain_min_loop _]
  cases b with
  | none =>
   obtain ⟨e, hS⟩ := hbest
   show wpAny _ X.A.in1 (seqItems? (.ref S0) >>= _) _ _ _
   refine wpAny_bind (wpAny_seqItems hS rfl ?_)
   show wpAny _ X.A.in1 (tryCatch (pyNext (.ref I0)) _ >>= _) _ _ _
   refine wpAny_bind (wpAny_tryCatch (Wk.done _ _ _ ⟨by rw [List.size_toArray, <- hlen, <- ej]; exact hit, pl.isList⟩ fun h' tk' hk' => ?_))
   have J := I.turned (t' := tk') (h' := h') (it := I0) (fun b o hb e => hk' b o (by simpa using hb) e) fI.1 fI.2.1 fI.2.2.2.1 fI.2.2.2.2.1 fI.2.2.2.2.2
   show wpAny _ X.A.in1 (rule _ >>= _) _ _ _
   refine wpAny_bind (wpAny_rule (wpAny_pure ?_))
   exact hR .non .none H _ J rfl q
  | some p =>
   obtain ⟨v, n⟩ := p
   obtain ⟨u, t, e, ru, hS⟩ := hbest
   show wpAny _ X.A.in1 (seqItems? (.ref S0) >>= _) _ _ _
   refine wpAny_bind (wpAny_seqItems hS rfl ?_)
   show wpAny _ X.A.in1 (tryCatch (pyNext (.ref I0)) _ >>= _) _ _ _
   refine wpAny_bind (wpAny_tryCatch (Wk.done _ _ _ ⟨by rw [List.size_toArray, <- hlen, <- ej]; exact hit, pl.isList⟩ fun h' tk' hk' => ?_))
   have J := I.turned (t' := tk') (h' := h') (it := I0) (fun b o hb e => hk' b o (by simpa using hb) e) fI.1 fI.2.1 fI.2.2.2.1 fI.2.2.2.2.1 fI.2.2.2.2.2
   have hS' := hk' S0 _ (by simpa using hSI) hS
   show wpAny _ X.A.in1 (updateSeq S0 (fun _ => #[]) >>= _) _ _ _
   refine wpAny_bind (wpAny_updateSeq hS' rfl (wpAny_bind (wpAny_letGo (wpAny_pure ?_))))
   have s1 := Heap.SameBut.update h' S0 (Obj.mapSeq fun _ => (#[] : Array Value))
   have J2 := J.turned (t' := tk') (h' := h'.update S0 (Obj.mapSeq fun _ => (#[] : Array Value))) (it := S0) (fun b o hb e => (s1.2 b hb).trans e) fS.1 fS.2.1 fS.2.2.2.1 fS.2.2.2.2.1 fS.2.2.2.2.2
   exact hR v u H _ J2 ru q
 | succ r ih =>
  intro j b H s hj hjl hb0 I w hbest hit fS fI ho hnf
  have hlt : j < vs.length := by lia
  obtain ⟨sq, hc, step, _⟩ := turn j b H w
  obtain ⟨its, rv, pl, _⟩ := I.list sq
  have hlen := rv.length
  have Wk := Walks.list (prog := X.prog) (w := X.w) (A := X.A.in1) hh I0 l hlI its.toArray
  have hbs : ∃ old e, s.heap.get? S0 = some (seqObj "list" old e) /\ ((b = none /\ old = #[]) \/ ∃ v n u t, b = some (v, n) /\ RelV v u /\ old = #[u, .int n t]) := by
   cases b with
   | none => obtain ⟨e, q⟩ := hbest; exact ⟨_, e, q, .inl ⟨rfl, rfl⟩⟩
   | some p => obtain ⟨v, n⟩ := p; obtain ⟨u, t, e, ru, q⟩ := hbest; exact ⟨_, e, q, .inr ⟨v, n, u, t, rfl, ru, rfl⟩⟩
  obtain ⟨old, e, hS, hold⟩ := hbs
  refine codeAny_builtin PySem.F.entry_min_loop ?_
  rw [Around.under_plainId PySem.F.plain_min_loop _]
  show wpAny _ X.A.in1 (seqItems? (.ref S0) >>= _) _ _ _
  refine wpAny_bind (wpAny_seqItems hS rfl ?_)
  show wpAny _ X.A.in1 (tryCatch (pyNext (.ref I0)) _ >>= _) _ _ _
  refine wpAny_bind (wpAny_tryCatch (Wk.item j _ _ _ (by rw [List.size_toArray, <- hlen]; exact hlt) ⟨hit, pl.isList⟩ fun u h' tk' hP hst' hk' => ?_))
  have hu : its[j]? = some u := by simpa using hP
  obtain ⟨v, hv, ru⟩ := Vals.getR rv hu
  have J := I.turned (t' := tk') (h' := h') (it := I0) (fun b o hb e => hk' b o (by simpa using hb) e) fI.1 fI.2.1 fI.2.2.2.1 fI.2.2.2.2.1 fI.2.2.2.2.2
  have hS' := hk' S0 _ (by simpa using hSI) hS
  have hfI : f ≠ I0 := by
   intro z
   obtain ⟨oI, q1, q2, q3⟩ := hit
   rw [<- z, ho] at q1
   cases q1
   rw [hd] at q3
   cases q3
  have hfS : f ≠ S0 := by
   intro z
   rw [<- z, ho] at hS
   cases hS
   cases hd
  have ho' : h'.get? f = some of := hk' f _ (by simpa using hfI) ho
  have hcd : h'.CodeRec (.ref c') Tabs.qual := (J.hok c' _ hc).1
  have call := ub (A := X.A.in1) (Q := fun k H3 => ∃ n, k = .int n /\ W (j + 1) (better b v n) H3) S J (by rw [show X.A.in1.frames = X.A.frames from rfl]; exact I.ok.frames) hh hr c1 c2 ho' hd hcd (hb u) ru (he _ _ _) (step v hv)
  show wpAny _ X.A.in1 (tryCatch (holding [u] (PySem.call (.ref f) [u])) _ >>= _) _ _ _
  refine wpAny_bind (wpAny_tryCatch (wpAny_holding (wpAny_mono call (fun x s2 hce => ?_) fun _ _ hF => hF.elim)))
  obtain ⟨vk, H2, os2, bare2, un2, hok2, rk, n, rfl, w2⟩ := hce
  obtain ⟨tn, rfl⟩ := (show ∃ t, x = Value.int n t from rk)
  have J2 : Inv X pins σ H2 s2 := J.call' (ch := []) os2 un2 hok2 bare2 fun b z => absurd z (by simp)
  have nfs : ∀ {b : Addr}, FpOk X pins H b -> b ∉ frs X.stack := fun {b} fb z => by
   rcases List.mem_cons.mp (J.stkSub b z) with y | y
   ·exact fb.2.1 y
   ·exact fb.2.2.1 y
  have hS2 : s2.heap.get? S0 = some (seqObj "list" old e) := un2.keep S0 _ hS' fS.1 (nfs fS) (by simp)
  obtain ⟨oI, hoI, hoc, hod⟩ := hst'.1
  have hI2 : s2.heap.get? I0 = some oI := un2.keep I0 _ hoI fI.1 (nfs fI) (by simp)
  have hf2 : s2.heap.get? f = some of := un2.keep f _ ho' hnf hfs (by simp)
  have hnf2 : H2 f = none := un2.free f _ ho' hnf (by simp)
  have fS2 : FpOk X pins H2 S0 := ⟨un2.free S0 _ hS' fS.1 (by simp), fS.2⟩
  have fI2 : FpOk X pins H2 I0 := ⟨un2.free I0 _ hoI fI.1 (by simp), fI.2⟩
  have go : ∀ (b' : Option (V × Int)) (s3 : Shared), b' = better b v n -> Inv X pins σ H2 s3 -> Ff s3.heap S0 b' -> s3.heap.get? I0 = some oI -> s3.heap.get? f = some of ->
    codeAny (model X.prog X.w) X.A (.builtin "min.loop" ⟨[.ref I0, .ref f, .ref S0], [(Str.ofString "default", .none)]⟩) R s3 := fun b' s3 eb J3 hb3 hI3 hf3 => by
   subst eb
   refine ih (j + 1) _ H2 s3 (by lia) hlt ?_ J3 w2 hb3 ⟨oI, hI3, hoc, hod⟩ fS2 fI2 hf3 hnf2
   constructor
   ·intro z
    unfold better at z
    split at z
    ·cases z
    ·split at z <;> cases z
   ·intro z; lia
  have put : ∀ (s3 : Shared), s3 = s2 -> ∀ it2 : Array Value, Inv X pins σ H2 { s3 with heap := s3.heap.update S0 (Obj.mapSeq fun _ => it2) } := fun s3 e3 it2 => by
   subst e3
   have s1 := Heap.SameBut.update s3.heap S0 (Obj.mapSeq fun _ => it2)
   exact J2.turned (t' := s3.toks) (h' := s3.heap.update S0 (Obj.mapSeq fun _ => it2)) (it := S0) (fun b o hb e => (s1.2 b hb).trans e) fS2.1 fS2.2.1 fS2.2.2.2.1 fS2.2.2.2.2.1 fS2.2.2.2.2.2
  have s1 := Heap.SameBut.update s2.heap S0 (Obj.mapSeq fun _ => #[u, .int n tn])
  obtain ⟨c3, hc3⟩ : ∃ c3, (s2.heap.update S0 (Obj.mapSeq fun _ => #[u, .int n tn])).get? S0 = some (seqObj "list" #[u, .int n tn] c3) := ⟨_, get?_update_seq hS2 fun _ => #[u, .int n tn]⟩
  rcases hold with ⟨rfl, rfl⟩ | ⟨v0, n0, u0, t0, rfl, r0, rfl⟩
  ·show wpAny _ X.A.in1 (updateSeq S0 (fun _ => #[u, .int n tn]) >>= _) _ _ _
   refine wpAny_bind (wpAny_updateSeq hS2 rfl ?_)
   rw [hname]
   exact wpAny_pure ⟨plainId_quiet PySem.F.plain_min_loop _, go (some (v, n)) _ rfl (put s2 rfl _) ⟨u, tn, c3, ru, hc3⟩ ((s1.2 I0 (Ne.symm hSI)).trans hI2) ((s1.2 f hfS).trans hf2)⟩
  ·show wpAny _ X.A.in1 (tryCatch (holding [u, .int n tn] (richCompare .Lt (.int n tn) (.int n0 t0) >>= _)) _ >>= _) _ _ _
   refine wpAny_bind (wpAny_tryCatch (wpAny_holding (wpAny_bind (CmpOf.ints_lt (prog := X.prog) (w := X.w) (A := X.A.in1) (P := fun i v => ∃ t, v = .int ((fun i => if i = 0 then n0 else n) i) t) (fun i => if i = 0 then n0 else n) (fun i v h => h) 1 0 _ _ _ _ _ ⟨tn, rfl⟩ ⟨t0, rfl⟩ ?_))))
   refine wpAny_bind (wpAny_holding (wpAny_truthy_bool ?_))
   refine wpAny_bind (wpAny_letGo (wpAny_pure ?_))
   show wpAny _ X.A.in1 (if decide (n < n0) = true then _ else _) _ _ _
   by_cases hb' : n < n0
   ·simp only [hb', decide_true, if_true]
    refine wpAny_bind (wpAny_updateSeq hS2 rfl (wpAny_bind (wpAny_letGo ?_)))
    rw [hname]
    exact wpAny_pure ⟨plainId_quiet PySem.F.plain_min_loop _, go (some (v, n)) _ (by simp [better, hb']) (put s2 rfl _) ⟨u, tn, c3, ru, hc3⟩ ((s1.2 I0 (Ne.symm hSI)).trans hI2) ((s1.2 f hfS).trans hf2)⟩
   ·simp only [hb', decide_false, Bool.false_eq_true, if_false]
    refine wpAny_bind (wpAny_letGo ?_)
    rw [hname]
    exact wpAny_pure ⟨plainId_quiet PySem.F.plain_min_loop _, go (some (v0, n0)) s2 (by simp [better, hb']) J2 ⟨u0, t0, e, r0, hS2⟩ hI2 hf2⟩
end
noncomputable def Ey (ρ : DEnv) (te : DE) : Ct -> Option (List Int)
 | [] => some []
 | d :: ds => match vE te (ρ.set 0 (some (.sh d))) with
  | .ok p => (match p.1 with
   | .int n => (Ey ρ te ds).map (n :: ·)
   | _ => none)
  | _ => none
noncomputable def DR (b : Option (PyData × Int)) (p : PyData × Int) : Option (PyData × Int) := match b with
 | none => some p
 | some q => if p.2 < q.2 then some p else some q
noncomputable def minD (b : Option (PyData × Int)) (l : List (PyData × Int)) : Option (PyData × Int) := l.foldl DR b
noncomputable def minR (b : Option (PyData × Int)) : PyData := match b with
 | none => .none
 | some q => q.1
noncomputable def eMin (F : List Nat) (o : Opd) (te : DE) : DE := fun δ => (opds [o] δ).bind fun p => match p.1 with
 | [.list ds] => (match Ey (rhoD F (CD F p.2.2)) te ds with
  | some ks => .ok (.sh (minR (minD none (ds.zip ks))), if CI (minR (minD none (ds.zip ks))) = true then p.2.1 else CD F p.2.2)
  | none => .bad)
 | _ => .bad
noncomputable def Ee (K : W.Frag) (G : Hp) : Option (V × Int) -> Option (PyData × Int) -> Prop
 | none, none => True
 | some p, some q => Dt K G p.1 q.1 /\ p.2 = q.2
 | _, _ => False
theorem Ee.mono {K : W.Frag} {G G' : Hp} (s : Same G G') {b : Option (V × Int)} {d : Option (PyData × Int)} (h : Ee K G b d) : Ee K G' b d := by
 cases b <;> cases d <;> first | exact h | exact ⟨h.1.mono s, h.2⟩
theorem Ee.val {K : W.Frag} {G : Hp} {b : Option (V × Int)} {d : Option (PyData × Int)} (h : Ee K G b d) : Dt K G (Fw b) (minR d) := by
 cases b <;> cases d <;> first | exact h.elim | exact .non | exact h.1
theorem Ee.step {K : W.Frag} {G : Hp} {b : Option (V × Int)} {d : Option (PyData × Int)} {v : V} {e : PyData} {n : Int} (h : Ee K G b d) (hv : Dt K G v e) : Ee K G (better b v n) (DR d (e, n)) := by
 cases b with
 | none =>
  cases d with
  | none => exact ⟨hv, rfl⟩
  | some q => exact h.elim
 | some p =>
  cases d with
  | none => exact h.elim
  | some q =>
   obtain ⟨h1, h2⟩ := h
   unfold better DR
   dsimp only
   rw [h2]
   split
   ·exact ⟨hv, rfl⟩
   ·exact ⟨h1, rfl⟩
structure LamK (K : W.Frag) (cdv : Value) (c P : Addr) : Prop where
 cd : cdv = .ref c
 hd : codeHdIn K c P = true
 mem : P ∈ Tabs.ts
section
variable {X : Cx} {E : XK} {N : List Str} {F : List Nat} {scope : Scope} {a : Str} {params : Arguments} {body e : Expr} {te : DE} {o : Opd} {c P : Addr} {p pos lp cp k1 k2 : Pos} {j k : Nat}
theorem yC (S : DM X a F N scope) (hr : Room (k + 2) X.A) (hP : LamK X.K X.env.code c P) (hq : X.env.qual ++ "<lambda>" = Tabs.qual) (bm : Bm X.mg X.base) (hdef : defaultsOf params X.env = ([], []))
  (hb : ∀ (cl : List (Str × Addr)) (pm ctv : Value) (c' : Addr) (u : Value), bindArgs (kla_fn "<lambda>" Tabs.qual params body scope cl pm (.ref c') ctv) ⟨[u], []⟩ = pure [(a, u)])
  (hm : X.mg "min" = none) (ha : SO X E e o)
  (he : ∀ (L f : Addr) (c' : Addr) (cl : List (Str × Addr)) (s : Shared) (H : Hp), Room k (Ed X X.A.in1 N Tabs.qual scope L f (.ref c') cl s H).A -> PE (Ed X X.A.in1 N Tabs.qual scope L f (.ref c') cl s H) body (tE X.K X.mg E0 te))
  (hcm : X.calm = true := by rfl) (hg : Gl X "min" := by rfl) (hst : starEach [e] X.env = [(false, eval e X.env)] := by rfl)
  (hkws : backToKw pos (keywordEach [⟨some "key", .Lambda params body scope lp, k1⟩, ⟨some "default", .Constant .none j cp, k2⟩] X.env) = [((some (Str.ofString "key") : Option Str), do let v <- eval (.Lambda params body scope lp) X.env; standAt pos; pure v), (some (Str.ofString "default"), do let v <- eval (.Constant .none j cp) X.env; standAt pos; pure v)] := by rfl) :
  SE X E (.Call (.Name "min" p) [e] [⟨some "key", .Lambda params body scope lp, k1⟩, ⟨some "default", .Constant .none j cp, k2⟩] pos) (eMin F o te) := by
 intro pins s σ H Q I h
 obtain ⟨G0, H0, G, δ, R, m⟩ := h
 have key : tOs X.K X.mg E [o] σ H fun vs H1 => ∃ (a : Addr) (q : Ct × DEnv × DEnv) (ds : Ct) (ks : List Int) (G1 G2 : Hp) (l : List Addr), vs = [.ref a] /\ Rel X.K X.mg G0 H0 G1 H1 σ q.2.1 /\ Same G G1 /\ Rel X.K X.mg G0 H0 G2 H1 σ q.2.2 /\ Lent G1 G2 l /\ Dt X.K G2 (.ref a) (.list ds) /\
   Ey (rhoD F (CD F q.2.2)) te ds = some ks /\ PoE X.K X.mg E G0 H0 G σ Q (.ok (.sh (minR (minD none (ds.zip ks))), if CI (minR (minD none (ds.zip ks))) = true then q.2.1 else CD F q.2.2)) := by
  refine g7 R ?_
  unfold eMin at m
  cases e1 : opds [o] δ with
  | ok q =>
   rw [e1, Out.bind_ok] at m
   intro vs H1 G1 G2 l R1 s1 R2 L hd
   split at m
   next ds eds =>
    rw [eds] at hd
    obtain ⟨x, rfl, h1⟩ := dts1 hd
    split at m
    next ks eks =>
     cases h1 with
     | lst q1 q2 => exact ⟨_, q, ds, ks, G1, G2, l, rfl, R1, s1, R2, L, .lst q1 q2, eks, m⟩
    next => exact m.elim
   next => exact m.elim
  | exc x => rw [e1] at m; exact m
  | bad => rw [e1] at m; exact m
 refine wpAny_Call_Name_kw (fP I hg hm boot_min ?_ (by decide) (by decide))
 have hA := aa ha (aj (X := X) (E := E)) hst
 refine callWith_kw (thn (hA pos pins s σ H _ I key) fun us s1 h1 => ?_) (by rw [hst]; rfl) (by rw [hst]; rfl) (by rw [hkws]; rfl) (by rw [hkws]; rfl)
 obtain ⟨vs, H1, I1, r1, l, q, ds, ks, G1, G2, ll, rfl, R1, s01, R2, L, hdt, hks, m1⟩ := h1
 obtain ⟨u, rfl, ru⟩ := vals1 r1
 cases (show u = Value.ref l from ru)
 rw [hkws]
 refine wpAny_evalAll_cons (wpAny_bind (uc S I1 R2.tabs hP.mem (codeHd_of_K I.mod.kin hP.hd) hP.cd hq bm hdef fun f c' cl pm ctv of H' s' I' sT c1 c2 hof hdf hnf hfs hc' => wpAny_bind (wpAny_standAt (wpAny_pure ?_))))
 refine wpAny_evalAll_cons (wpAny_bind (Constant_none (wpAny_bind (wpAny_standAt (wpAny_pure (wpAny_evalAll_nil ?_))))))
 show wpAny _ X.A (call (.builtin "min") [.ref l] [(Str.ofString "key", .ref f), (Str.ofString "default", .none)]) _ _ s'
 obtain ⟨G3, l3, R3, L3⟩ := R2.relA F
 have L13 := L.trans L3
 have g0 : Grow G3 H1 G3 H' := ⟨sT, .refl _, sT.same R3.g.gh R3.noT, fun _ _ => rfl, id⟩
 have R3' := R3.grow g0
 have ho : ∀ j ∈ F, ∀ sd, (CD F q.2.2)[j]? = some (some sd) -> ¬ sd.owned := fun j hj sd e => dO F hj e
 generalize hρ : rhoD F (CD F q.2.2) = ρ at hks
 cases hdt with
 | lst hsq hxs =>
  rename_i xs
  have hsq' : ∀ {G4 H2 : Hp}, Grow G3 H' G4 H2 -> SqL X.K H2 l xs := fun {G4 H2} g => (g.gh.sqr (g.gg.sqr (L3.ext.sqr hsq))).sq
  obtain ⟨its, rv, pl, hz⟩ := I'.list (hsq' (.refl g0.gh))
  have hls := pl.isList
  obtain ⟨ol, hol, _⟩ := id hls
  have hll : l < s'.heap.objs.size := Heap.lt_size hol
  have hname : (toString "min" ++ toString ".loop" : String) = "min.loop" := by decide
  refine kmk_tree PySem.F.kind_min PySem.F.plain_min PySem.F.entry_min (ud _ _ _) ?_
  show wpAny _ X.A.in1 (Builtin.Builtins.bindParams "min" ["key", "default"] 0 ⟨[], [(Str.ofString "key", .ref f), (Str.ofString "default", .none)]⟩ >>= _) _ _ s'
  refine wpAny_bind (wpAny_of_eq (show Builtin.Builtins.bindParams "min" ["key", "default"] 0 ⟨[], [(Str.ofString "key", .ref f), (Str.ofString "default", .none)]⟩ = pure [some (.ref f), some .none] from rfl) ?_)
  refine wpAny_bind (wpAny_pure ?_)
  refine wpAny_bind (wpAny_pyIter_list hls ?_)
  refine wpAny_bind (wpAny_newList ?_ (Nat.zero_le _))
  rw [hname]
  refine wpAny_pure ⟨plainId_quiet PySem.F.plain_min_loop _, ?_⟩
  generalize eI : ({ cls := .type "list_iterator", data := .fields #[.ref l, .int 0 0] } : Obj) = oI
  have hIs : (s'.heap.push oI).objs.size = s'.heap.objs.size + 1 := size_push' ..
  have kp : ∀ b o, s'.heap.get? b = some o -> ((s'.heap.push oI).push (seqObj "list" #[] 0)).get? b = some o := fun b o e => Heap.get?_push_of_some _ (Heap.get?_push_of_some _ e)
  have IH : Inv X pins σ H' { s' with heap := (s'.heap.push oI).push (seqObj "list" #[] 0) } := I'.kept kp
  have fI : FpOk X pins H' s'.heap.objs.size := I'.fpOk (Nat.le_refl _) (I'.hok.fresh (Nat.le_refl _))
  have fS : FpOk X pins H' (s'.heap.push oI).objs.size := I'.fpOk (by rw [hIs]; exact Nat.le_succ _) (I'.hok.fresh (by rw [hIs]; exact Nat.le_succ _))
  have gI : ((s'.heap.push oI).push (seqObj "list" #[] 0)).get? s'.heap.objs.size = some oI := Heap.get?_push_of_some _ (Heap.get?_push_size _ (by rw [<- eI]; rfl))
  have gS : ((s'.heap.push oI).push (seqObj "list" #[] 0)).get? (s'.heap.push oI).objs.size = some (seqObj "list" #[] 0) := Heap.get?_push_size _ rfl
  have ehead : Str.ofString "default" = Str.ofString "default" := rfl
  refine ue (Q := Q) (te := tE X.K X.mg E0 te) (vs := xs) (W := fun i b H2 => ∃ G4 bd ks', Grow G3 H' G4 H2 /\ i <= ds.length /\ Ee X.K G4 b bd /\ Ey ρ te (ds.drop i) = some ks' /\ minD bd ((ds.drop i).zip ks') = minD none (ds.zip ks))
   S hr.in1.depth hr.hd c1 c2 hdf hfs (hb cl pm ctv c') (fun L s2 H2 => he L f c' cl s2 H2 (hr.in1.deeper _)) (by rw [hIs]; exact Nat.ne_of_gt (Nat.lt_succ_self _)) (Nat.ne_of_lt hll) ?turn
   (fun v u H2 s2 J rv' qv => ⟨v, H2, J, rv', qv⟩) (xs.length - 0) 0 none H' _ rfl (Nat.zero_le _) ⟨fun _ => rfl, fun _ => rfl⟩ IH ⟨G3, none, ks, .refl g0.gh, Nat.zero_le _, trivial, hks, rfl⟩ ⟨0, gS⟩ ⟨oI, gI, by rw [<- eI], by rw [<- eI]; rfl⟩ fS fI (kp _ _ hof) hnf
  rintro i b H2 ⟨G4, bd, ks', g4, hi, hbd, hk', hmin⟩
  refine ⟨hsq' g4, g4.hh.at_ _ _ hc' (by intro _ z; cases z), fun v hv => ?_, fun ei => ?_⟩
  ·obtain ⟨d, hd, hvd⟩ := (hxs.mono (L3.ext.trans g4.gg)).get hv
   have hlt : i < ds.length := (List.getElem?_eq_some_iff.mp hd).1
   have ed : ds.drop i = d :: ds.drop (i + 1) := by
    rw [List.drop_eq_getElem_cons hlt]
    congr 1
    exact Option.some.inj ((List.getElem?_eq_getElem hlt).symm.trans hd)
   rw [ed] at hk' hmin
   unfold Ey at hk'
   have Rr := mr (F := F) R3' ho g4
   rw [hρ] at Rr
   have hzr : 0 < (rho 1 F σ).length := by rw [dY]; omega
   have Rs := Rr.store hzr (r := .sh d) (v := v) (RR.sh hvd)
   refine p7 Rs ?_
   cases e2 : vE te (ρ.set 0 (some (.sh d))) with
   | exc y => rw [e2] at hk'; cases hk'
   | bad => rw [e2] at hk'; cases hk'
   | ok pp =>
    rw [e2] at hk'
    dsimp only at hk'
    intro w H5 G5 R5 s5 hw
    split at hk'
    next n en =>
     rw [en] at hw
     cases hw
     obtain ⟨ks2, ek2, rfl⟩ := Option.map_eq_some_iff.mp hk'
     refine ⟨n, rfl, G5, DR bd (d, n), ks2, R5.g, hlt, ?_, ek2, ?_⟩
     ·exact (hbd.mono s5).step (hvd.mono s5)
     ·rw [<- hmin]; rfl
    next => cases hk'
  ·have hle : ds.length <= i := by rw [ei, hxs.len]; exact Nat.le_refl _
   rw [List.drop_eq_nil_of_le hle] at hk' hmin
   cases hk'
   have efin : bd = minD none (ds.zip ks) := hmin
   rw [<- efin] at m1
   have gD : Grow G3 H1 G4 H2 := g0.trans g4
   by_cases hp : CI (minR bd) = true
   ·rw [if_pos hp] at m1
    obtain ⟨G5, gr5, vn5⟩ := L13.back R1 R3.g.gh gD (nA (mg := X.mg) hbd.val) hp
    exact m1 _ _ G5 (R1.grow gr5) (s01.trans gr5.gg) (RR.of_new R1 vn5)
   ·rw [if_neg hp] at m1
    exact m1 _ _ G4 (R3.grow gD) ((s01.trans L13.ext).trans g4.gg) (RR.sh hbd.val)
end
end L2
namespace L2
open PySem PySem.Spec PyProof.Rows
variable [Tabs]
noncomputable def Ez (F : List Nat) (δ : DEnv) : DEnv := none :: none :: F.map fun j => (δ[j]?).join
noncomputable def DU (ρ : DEnv) (tc : DT) (te : DE) : Ct -> Option Ct
 | [] => some []
 | d :: ds => match kTup [0, 1] d ρ with
  | some ρ1 => (match tc ρ1 with
   | .ok p => if p.1 = true then (match vE te p.2 with
     | .ok q => (DU ρ tc te ds).map (q.1 :: ·)
     | _ => none) else DU ρ tc te ds
   | _ => none)
  | none => none
noncomputable def Eh (F : List Nat) (fc : DC) (tc : DT) (te : DE) : DE := fun δ => (fc δ).bind fun p => if p.1.length <= sizeLine then (match DU (Ez F (CD F p.2.2)) tc te p.1 with
 | some ys => .ok (.ol ys, if CA ys = true then p.2.1 else CD F p.2.2)
 | none => .bad) else .bad
theorem uf {K : W.Frag} {mg : Cu} {G0 H0 G H G1 H1 : Hp} {σ : St} {δ : DEnv} {F : List Nat} (R : Rel K mg G0 H0 G H σ δ) (ho : ∀ j ∈ F, ∀ sd, δ[j]? = some (some sd) -> ¬ sd.owned) (g : Grow G H G1 H1) : Rel K mg G H G1 H1 (rho 2 F σ) (Ez F δ) := by
 have get : ∀ (i : Nat) sd, (Ez F δ)[i]? = some (some sd) -> ∃ k j, i = k + 2 /\ F[k]? = some j /\ δ[j]? = some (some sd) := fun i sd e => by
  unfold Ez at e
  match i, e with
  | 0, e => cases e
  | 1, e => cases e
  | k + 2, e =>
   rw [List.getElem?_cons_succ, List.getElem?_cons_succ, List.getElem?_map] at e
   cases e2 : F[k]? with
   | none => rw [e2] at e; cases e
   | some j =>
    rw [e2] at e
    exact ⟨k, j, rfl, e2, gu (Option.some.inj e)⟩
 refine ⟨g, ?_, fun i sd e => ?_, fun i sd a e h => ?_, fun i j sd te a e _ h => ?_, R.tabs, R.noT⟩
 ·rw [dY]; simp [Ez]; lia
 ·obtain ⟨k, j, rfl, e1, e2⟩ := get i sd e
  obtain ⟨v, h1, h2⟩ := R.sl j sd e2
  refine ⟨v, ?_, h2.grow g⟩
  unfold rho
  rw [List.getElem?_append_right (by simp), List.getElem?_map]
  simp only [List.length_replicate, Nat.add_sub_cancel, e1, Option.map_some, h1, Option.join_some]
 ·obtain ⟨k, j, rfl, e1, e2⟩ := get i sd e
  exact absurd h (ho j (List.mem_of_getElem? e1) sd e2)
 ·obtain ⟨k, j, rfl, e1, e2⟩ := get i sd e
  exact absurd h (ho j (List.mem_of_getElem? e1) sd e2)
theorem wa {K : W.Frag} {mg : Cu} {E : XK} {F : List Nat} {fc : DC} {tc : DT} {te : DE} {σ : St} {H : Hp} {Q : VK} (h : tE K mg E (Eh F fc tc te) σ H Q) : Ep 2 F (tIC K mg E fc) (gTup K [0, 1].length (E8 [0, 1])) (tT K mg E0 tc) (tE K mg E0 te) σ H Q := by
 obtain ⟨G0, H0, G, δ, R, m⟩ := h
 refine ⟨G0, H0, G, δ, R, ?_⟩
 unfold Eh at m
 cases e : fc δ with
 | exc x => rw [e] at m; exact m
 | bad => rw [e] at m; exact m
 | ok p =>
  rw [e, Out.bind_ok] at m
  intro J H1 G1 G2 l R1 s1 R2 L W
  split at m
  next hsz =>
   obtain ⟨G3, l3, R3, L3⟩ := R2.relA F
   have L13 := L.trans L3
   have ho : ∀ j ∈ F, ∀ sd, (CD F p.2.2)[j]? = some (some sd) -> ¬ sd.owned := fun j hj sd e => dO F hj e
   generalize hρ : Ez F (CD F p.2.2) = ρ at m
   cases ec : DU ρ tc te p.1 with
   | none => rw [ec] at m; exact m.elim
   | some total =>
    rw [ec] at m
    dsimp only at m
    refine ⟨fun i mm ys H2 => ∃ G4 es rest, Grow G3 H1 G4 H2 /\ Dts K G4 ys es /\ i + mm = p.1.length /\ ys.length <= i /\ DU ρ tc te (p.1.drop i) = some rest /\ es ++ rest = total, ⟨p.1.length, G3, [], total, .refl R3.g.gh, .nil, Nat.zero_add _, Nat.le_refl _, ec, rfl⟩, ?_⟩
    rintro i mm ys H2 ⟨G4, es, rest, g4, hys, him, hyl, hc, ht⟩
    obtain ⟨w1, w2⟩ := W i G4 H2 (L3.ext.trans g4.gg) g4.gh
    cases hd : p.1[i]? with
    | none =>
     have hi : p.1.length <= i := List.getElem?_eq_none_iff.mp hd
     refine .inl ⟨w2 hi, fun D hD => ?_⟩
     rw [List.drop_eq_nil_of_le hi] at hc
     cases hc
     rw [List.append_nil] at ht
     subst ht
     have gD : Grow G3 H1 G4 (upd H2 D (.lst ys)) := g4.trans (.laidO g4.gh hD)
     have vn : VN K mg H1 G4 (upd H2 D (.lst ys)) (.ref D) (.ol es) := ⟨⟨D, ys, rfl, g4.gh.free hD, ao, hys⟩, fun _ a ea => by cases ea; exact g4.hh.free hD⟩
     by_cases hp : CA es = true
     ·rw [if_pos hp] at m
      obtain ⟨G5, gr5, vn5⟩ := L13.back R1 R3.g.gh gD vn hp
      exact m _ _ G5 (R1.grow gr5) (s1.trans gr5.gg) (RR.of_new R1 vn5)
     ·rw [if_neg hp] at m
      exact m _ _ G4 (R3.grow gD) ((s1.trans L13.ext).trans g4.gg) (RR.of_new R3 vn)
    | some d =>
     have hi : i < p.1.length := (List.getElem?_eq_some_iff.mp hd).1
     obtain ⟨go, yl⟩ := w1 d hd
     have ed : p.1.drop i = d :: p.1.drop (i + 1) := by
      rw [List.drop_eq_getElem_cons hi]
      congr 1
      exact Option.some.inj ((List.getElem?_eq_getElem hi).symm.trans hd)
     rw [ed] at hc
     unfold DU at hc
     refine .inr ⟨go, fun x H3 hy => ?_⟩
     obtain ⟨G5, g5, dx⟩ := yl x H3 hy
     have g35 := g4.trans g5
     have Rr := uf (F := F) R3 ho g35
     rw [hρ] at Rr
     cases ek : kTup [0, 1] d ρ with
     | none => rw [ek] at hc; cases hc
     | some ρ1 =>
      rw [ek] at hc
      dsimp only at hc
      refine tV (K := K) (mg := mg) [0, 1] G3 H1 G5 H3 _ ρ ρ1 x d _ Rr dx ek fun σ' Rs => ?_
      refine ⟨G3, H1, G5, ρ1, Rs, ?_⟩
      cases e1 : tc ρ1 with
      | exc y => rw [e1] at hc; cases hc
      | bad => rw [e1] at hc; cases hc
      | ok q =>
       rw [e1] at hc
       dsimp only at hc
       intro H6 G6 R6 s6
       split
       next hb =>
        rw [if_pos hb] at hc
        refine p7 R6 ?_
        cases e2 : vE te q.2 with
        | exc y => rw [e2] at hc; cases hc
        | bad => rw [e2] at hc; cases hc
        | ok u =>
         rw [e2] at hc
         dsimp only at hc
         obtain ⟨rest', er, rfl⟩ := Option.map_eq_some_iff.mp hc
         intro v H7 G7 R7 s7 hv
         refine ⟨by lia, mm - 1, by lia, G7, es ++ [u.1], rest', R7.g, ?_, by lia, by rw [List.length_append, List.length_singleton]; lia, er, by rw [List.append_assoc]; exact ht⟩
         exact (hys.mono ((g5.gg.trans s6).trans s7)).append (.cons hv .nil)
       next hb =>
        rw [if_neg hb] at hc
        exact ⟨mm - 1, by lia, G6, es, rest, R6.g, hys.mono (g5.gg.trans s6), by lia, by lia, hc, ht⟩
  next => exact m.elim
noncomputable def EK (o : Opd) : DC := fun δ => (opds [o] δ).bind fun p => match p.1 with
 | [.list xs] => .ok (Dy 0 xs, p.2.1, p.2.2)
 | _ => .bad
theorem rW {K : W.Frag} {F : List Nat} : Stays 2 F (gTup K [0, 1].length (E8 [0, 1])) := fun x σ H Q q => by
 obtain ⟨a, xs, e, h1, h2, v, r, e1, v2, r2, e2, e3, q⟩ := q
 subst e e1 e2 e3
 refine ⟨a, _, rfl, h1, h2, v, _, rfl, v2, _, rfl, rfl, ⟨by simp, fun j w e => ?_⟩, q⟩
 have := (jj e).1
 rw [List.getElem?_set_ne (by lia), List.getElem?_set_ne (by lia)]
 exact e
noncomputable def EL (N : List Str) (sc : Scope) (x y : Str) (scope : Scope) : Bool :=
 scope.kind == .function && sc.kind == .function && (scope.names.all fun z => z.2 != .cell && (z.2 != .local || scope.names.lookup z.1 == some .local) && (z.2 != .free || (sc.names.lookup z.1 == some .cell || sc.names.lookup z.1 == some .free))) &&
 ((CB scope).all fun z => (Ds N z).isSome && scope.names.lookup z == some .free) && decide (x :: y :: CB scope).Nodup && scope.names.lookup x == some .local && scope.names.lookup y == some .local
section
variable {X : Cx} {N0 : List Str} {sc0 scope : Scope} {x y : Str}
theorem nW (hN : X.N = N0) (hsc : X.env.scope = sc0) (h : EL N0 sc0 x y scope = true) : Dr X [x, y] (Dg N0 scope) (x :: y :: CB scope) scope /\ (x :: y :: CB scope).Nodup /\ scope.names.lookup x = some .local /\ scope.names.lookup y = some .local := by
 unfold EL at h
 simp only [Bool.and_eq_true, beq_iff_eq, List.all_eq_true, bne_iff_ne, ne_eq, Bool.or_eq_true, decide_eq_true_eq] at h
 obtain ⟨⟨⟨⟨⟨⟨h1, h2⟩, h3⟩, h4⟩, h5⟩, h6⟩, h7⟩ := h
 have all : ∀ z ∈ CB scope, (Ds N0 z).isSome = true := fun z hz => (h4 z hz).1
 refine ⟨⟨h1, fun z hz => (h3 z hz).1.1, fun z hz e => ?_, by rw [hsc]; exact h2, fun z hz e => ?_, fun i z e => ?_, ?_⟩, h5, h6, h7⟩
 ·rcases (h3 z hz).1.2 with w | w
  ·exact absurd e w
  ·exact w
 ·rcases (h3 z hz).2 with w | w
  ·exact absurd e w
  ·show X.env.scope.names.lookup z.1 = _ \/ X.env.scope.names.lookup z.1 = _
   rw [hsc]; exact w
 ·match i, e with
  | 0, _ => exact .inl (by simp)
  | 1, _ => exact .inl (by simp)
  | i + 2, e =>
   simp only [List.getElem?_cons_succ] at e
   have hy := List.mem_of_getElem? e
   obtain ⟨j, hj⟩ := Option.isSome_iff_exists.mp (all z hy)
   have hfree := (h4 z hy).2
   refine .inr ⟨j, ?_, by rw [hN]; exact cf hj, ?_, fun k hk => fm hfree hk⟩
   ·show (Dg N0 scope)[i + 2 - 2]? = some j
    rw [Nat.add_sub_cancel]
    unfold Dg
    rw [eh all e, hj]
   ·have := (h3 (z, .free) (PySem.mem_of_lookup hfree)).2
    rcases this with w | w
    ·exact absurd rfl w
    ·show X.env.scope.names.lookup z = some .local \/ X.env.scope.names.lookup z = some .cell \/ X.env.scope.names.lookup z = some .free
     rw [hsc]
     rcases w with w | w
     ·exact .inr (.inl w)
     ·exact .inr (.inr w)
 ·show (x :: y :: CB scope).length = 2 + (Dg N0 scope).length
  rw [List.length_cons, List.length_cons, Dg, eu all]
  lia
variable {elt iter : Expr} {fc : DC} {tc : DT} {te : DE} {pos px py pt spos : Pos} {ifs : List Expr} {E : XK} {F : List Nat} {kt : Nat}
theorem yD (S : (x :: y :: CB scope).Nodup) (hx : scope.names.lookup x = some .local) (hy : scope.names.lookup y = some .local) (hcm : X.calm = true) (cl : List (Str × Addr)) (C : Addr) (ex : List Addr) (s : Shared) (H : Hp) :
  PG (CL X (x :: y :: CB scope) scope cl C ex s H) (.Tuple [.Name x px, .Name y py] kt pt) (gTup X.K [0, 1].length (E8 [0, 1])) :=
 Ad 0 1 hcm S rfl rfl (.inl (lookup_relabel_local hx)) (.inl (lookup_relabel_local hy)) (.inr (lookup_relabel_local hx)) (.inr (lookup_relabel_local hy))
theorem ug (i : Nat) {z : Str} {pz : Pos} (hNd : X.N.Nodup) (hok : EL N0 sc0 x y scope = true) (hF : Dg N0 scope = F) (hi : SIC X E (.Tuple [.Name x px, .Name y py] kt pt) iter fc) (ht : ∀ cl C ex s H, PTs (CL X (x :: y :: CB scope) scope cl C ex s H) ifs (tT X.K X.mg E0 tc)) (he : ∀ cl C ex s H, PE (CL X (x :: y :: CB scope) scope cl C ex s H) elt (tE X.K X.mg E0 te))
  (hy : Ds X.N z = some i := by rfl) (hN : X.N = N0 := by rfl) (hsc : X.env.scope = sc0 := by rfl) (hcm : X.calm = true := by rfl) (hl : X.env.scope.names.lookup z = some .local := by rfl)
  (hsw : swapsWith (.ListComp elt [⟨.Tuple [.Name x px, .Name y py] kt pt, iter, ifs, 0⟩] scope pos) (some (.Name z pz)) spos.line X.env = pure true := by rfl) (hs : ∀ x, foldedSetIterable iter X.env x = pure x := by intro _; rfl) :
  S1 X E (.Assign [.Name z pz] (.ListComp elt [⟨.Tuple [.Name x px, .Name y py] kt pt, iter, ifs, 0⟩] scope pos) spos) (sAsg i (Eh F fc tc te)) := by
 subst hF
 obtain ⟨S, nd, h1, h2⟩ := nW hN hsc hok
 exact (qy S hcm hi (yD nd h1 h2 hcm) ht he rW hNd (cf hy) hl hsw hs).weak fun D σ H q => by
  have q' : tE X.K X.mg E (Eh (Dg N0 scope) fc tc te) σ H fun x H1 => Df i x σ H1 D.nx := tR q
  exact wa q'
end
section
variable {X : Cx} {E : XK} {l : Expr} {o : Opd} {p pos : Pos} {ts : List Expr} {tk : Nat} {tp : Pos}
theorem uh (hm : X.mg "enumerate" = none) (hl : SO X E l o) (hg : Gl X "enumerate" := by rfl) (hs : starEach [l] X.env = [(false, eval l X.env)] := by rfl) : SIC X E (.Tuple ts tk tp) (.Call (.Name "enumerate" p) [l] [] pos) (EK o) :=
 (qz hm (aa hl aj hs) hg hs).weak fun σ H Q ⟨G0, H0, G, δ, R, m⟩ => by
  refine g7 R ?_
  unfold EK at m
  cases e : opds [o] δ with
  | ok q =>
   rw [e, Out.bind_ok] at m
   intro vs H1 G1 G2 l R1 s1 R2 L hd
   split at m
   next xs ej =>
    rw [ej] at hd
    obtain ⟨v, rfl, h1⟩ := dts1 hd
    cases h1 with
    | lst q r => exact ⟨_, rfl, ⟨_, (R2.g.gh.sqr q).sq⟩, m _ H1 G1 G2 l R1 s1 R2 L (jI q r)⟩
   next => exact m.elim
  | exc x => rw [e] at m; exact m
  | bad => rw [e] at m; exact m
end
theorem rX {X : Cx} {N0 : List Str} {sc0 scope : Scope} {x : Str} (hok : DF N0 sc0 x scope = true) (hco : scope.isCoroutine = false) (hgen : scope.isGenerator = false) (hN : X.N = N0 := by rfl) (hsc : X.env.scope = sc0 := by rfl) :
  DM X x (Dg N0 scope) (x :: CB scope) scope := by
 obtain ⟨S, nd⟩ := gQ hN hsc hok
 have hx := hok
 unfold DF at hx
 simp only [Bool.and_eq_true, beq_iff_eq, List.all_eq_true] at hx
 refine ⟨S.kind, hco, hgen, S.nocell, hx.2, S.free, rfl, fun i y e => ?_, S.len⟩
 rcases S.names (i + 1) y e with z | ⟨j, z1, z2, z3, _⟩
 ·exact absurd z (by simp)
 ·exact ⟨j, by simpa using z1, z2, z3, (hx.1.1.2 y (by simpa using List.mem_of_getElem? (by simpa using e))).2⟩
theorem ui {P : Program} {w : World} {K : W.Frag} {mg : Cu} {base : Heap} {x qual : Str} {st : Stmt} {f : Addr} {fd : FuncData} {N ps : List Str} {k : Nat} {fb : DS} (F : Fun K x qual st f fd) (S : CF N ps (Cy st))
  (body : ∀ (cdv : Value) (A : Around) (outer : List Env) (s : Shared) (H : Hp) (E : XK), fd.code = cdv -> Room k (A.deeper (envOfC qual (Cy st) s.heap.objs.size f cdv)) -> SS (cxE P w K mg base N qual (Cy st) f cdv A outer s H E) E (D7 st) fb) :
  FnOk P w K mg base (CXe P w) (k + 1) f fd ps (spD K mg (runB N.length ps.length fb)) := by
 obtain ⟨oc, od, kV, doc, pm, an, cdv, ct, osl, rfl, lk, hcd⟩ := F.ex
 refine wQ lk hcd S (fun vs H Q E h => ?_) fun A outer s H vs Q E hr h => ?_
 ·obtain ⟨G, ds, hg, hd, m⟩ := h
  rw [hd.len]
  exact ig fun z => by rw [z] at m; exact m
 ·obtain ⟨G, ds, hg, hd, m⟩ := h
  refine ⟨_, body cdv A outer s H E rfl hr, G, H, G, start0 N.length ps.length ds, ?_, ?_⟩
  ·exact lD hg hd (ig fun z => by rw [z] at m; exact m)
  ·unfold runB at m
   split at m
   next hl =>
    cases e : fb (start0 N.length ps.length ds) with
    | nx δ => rw [e] at m; exact fun σ' H' G' R' s' => m .non H' G' R'.g (nA .non)
    | rt r => rw [e] at m; exact fun v H' G' g vn => m v H' G' g vn
    | exc x => rw [e] at m; exact m
    | bk δ => rw [e] at m; exact m.elim
    | ct δ => rw [e] at m; exact m.elim
    | bad => rw [e] at m; exact m.elim
   next => exact m.elim
open PySem.W
noncomputable def Fg (a : Addr) (ts : List Addr) (own : Bool) (o : HO) : Hp := fun b => if b ∈ ts then some (.tbl #[]) else if own = true then none else if b = a then some o else none
theorem rY {P : Program} {w : World} {K : W.Frag} {mg mb : Cu} {CX : CXT} {k : Nat} {fa a : Addr} {fd : FuncData} {x : Str} {sp : Sp} {s₁ : Shared} {vs : List Value} {ns : List Int}
  (KX : K.In s₁.heap) (hns : s₁.heap.Ns mainGlobals mg) (hb : s₁.heap.Ns builtinsNs mb) (hbb : ∀ x : Str, x ≠ "__name__" -> mb x = bootBuiltins x) (hlim : s₁.heap.NoLimit) (hg : s₁.gens = #[]) (hbm : Bm mg s₁.heap)
  (hT : ∀ P ∈ Tabs.ts, s₁.heap.get? P = some (tabObj #[]) /\ K.lookup P = none /\ ∃ c, CodeHd s₁.heap c P)
  (ha : s₁.heap.get? a = some { cls := .type "list", data := .seq vs.toArray }) (hi : IntsAre vs ns) (hl : ns.length <= sizeLine) (hr : Room k callerA)
  (F : ∀ base : Heap, K.In base -> base.Ns mainGlobals mg -> Bm mg base -> FnOk P w K mg base CX k fa fd [x] sp) (hbind : ∀ (s : Shared) (u : Value), BindsTo s fd ⟨[u], []⟩ [(x, u)])
  (hsp : ∀ H : Hp, DW H -> SqR K H a (ns.map V.int) -> sp [.ref a] H (fun v _ => v = .bl true) fun _ _ _ => False)
  (hCX : ∀ H e s', CX [] H s₁ (fun _ _ _ => False) e s' -> False) :
  codeAny (model P w) callerA (.call (.ref fa) ⟨[.ref a], []⟩) (fun r s' => r = .ok (.ret (.bool true)) /\ OldK s₁.heap s'.heap /\ s'.os = s₁.os /\ AllBare s'.gens) s₁ := by
 have rv := dH hi
 have lenV := hi.length
 have haT : a ∉ Tabs.ts := fun z => by
  have := (hT a z).1
  rw [ha] at this
  cases this
 have core : ∀ (own : Bool) (H : Hp), H = Fg a Tabs.ts own (.frz { cls := .type "list", data := .seq vs.toArray } (.lst (ns.map V.int))) -> SqR K H a (ns.map V.int) -> (own = true \/ K.lookup a = none) ->
   codeAny (model P w) callerA (.call (.ref fa) ⟨[.ref a], []⟩) (fun r s' => r = .ok (.ret (.bool true)) /\ OldK s₁.heap s'.heap /\ s'.os = s₁.os /\ AllBare s'.gens) s₁ := by
  intro own H eH hS hK
  have inT : ∀ b ∈ Tabs.ts, H b = some (.tbl #[]) := fun b hb => by rw [eH]; exact if_pos hb
  have hkind : ∀ b o, H b = some o -> (b ∈ Tabs.ts /\ o = .tbl #[]) \/ (b = a /\ own = false /\ o = .frz { cls := .type "list", data := .seq vs.toArray } (.lst (ns.map V.int))) := fun b o e => by
   rw [eH] at e
   unfold Fg at e
   split at e
   next z => exact .inl ⟨z, (Option.some.inj e).symm⟩
   next z =>
    split at e
    ·cases e
    next z2 =>
     split at e
     next z3 => exact .inr ⟨z3, by simpa using z2, (Option.some.inj e).symm⟩
     ·cases e
  have tb : DW H := fun P hP => ⟨#[], inT P hP, trivial, fun pos c hc => by simp [codeAmong] at hc⟩
  have hok : HOk P w H s₁.heap := fun b o e => by
   rcases hkind b o e with ⟨z, rfl⟩ | ⟨z, _, rfl⟩
   ·exact (hT b z).1
   ·subst z
    exact ⟨ha, by rw [List.length_map]; exact hl, vs, _, rv, ha⟩
  have base_of : ∀ {b : Addr} {o : Obj}, s₁.heap.get? b = some o -> H b = none -> (hidT s₁.heap H).get? b = some o := fun e n => sW e n
  have noA : ∀ {b : Addr} {o : Obj}, s₁.heap.get? b = some o -> (∀ vs n, o.data ≠ .seq vs n) -> (∀ vs, o.data ≠ .fields vs) -> H b = none := fun {b o} e d1 d2 => by
   cases q : H b with
   | none => rfl
   | some u =>
    rcases hkind b u q with ⟨z, _⟩ | ⟨z, _, _⟩
    ·have := (hT b z).1
     rw [e] at this; cases this
     exact absurd rfl (d2 _)
    ·subst z
     rw [ha] at e; cases e
     exact absurd rfl (d1 _ _)
  have nsK : ∀ {b : Addr} {m : Cu}, s₁.heap.Ns b m -> (hidT s₁.heap H).Ns b m := fun {b m} ⟨o, es, ep, e, d, r⟩ => ⟨o, es, ep, base_of e (noA e (fun _ _ z => by rw [d] at z; cases z) (fun _ z => by rw [d] at z; cases z)), d, r⟩
  have hKb : K.In (hidT s₁.heap H) := fun b o e => base_of (KX b o e) (by
   cases q : H b with
   | none => rfl
   | some u =>
    rcases hkind b u q with ⟨z, _⟩ | ⟨z, zo, _⟩
    ·rw [(hT b z).2.1] at e; cases e
    ·subst z
     rcases hK with y | y
     ·rw [zo] at y; cases y
     ·rw [y] at e; cases e)
  have hM : Mod K mg (hidT s₁.heap H) := ⟨hKb, nsK hns, ⟨mb, nsK hb, hbb⟩, let ⟨mc, h1, h2⟩ := hlim; ⟨mc, nsK h1, h2⟩⟩
  have hB : Bm mg (hidT s₁.heap H) := let ⟨bm, ob, b1, b2, b3, b4, b5, b6⟩ := hbm
   ⟨bm, ob, b1, b2, base_of b3 (noA b3 (fun _ _ z => by rw [b6] at z; cases z) (fun _ z => by rw [b6] at z; cases z)), b4, b5, b6⟩
  have e0 : Env0 P w K mg (hidT s₁.heap H) callerA [] s₁ H := ⟨rfl, hM, fun b o e => vd e, Nat.le_of_eq (rl _ _), trivial, fun b hb => absurd (show b ∈ ([] : List Addr) from hb) (by simp), hok, .of_eq hg⟩
  refine codeAny_mono ((F _ hKb (nsK hns) hB).run callerA [] s₁ H ⟨[.ref a], []⟩ [.ref a] [.ref a] _ _ hr e0 (hbind s₁ (.ref a)) (.cons rfl .nil) (hsp H tb hS)) fun r s' h => ?_
  cases r with
  | error e => exact (hCX H e s' h).elim
  | ok fl =>
   cases fl with
   | next => exact False.elim h
   | brk => exact False.elim h
   | cont => exact False.elim h
   | ret u =>
    obtain ⟨v, H', os, bare, un, hok', r', q⟩ := h
    have q' : v = .bl true := q
    subst q'
    obtain rfl : u = Value.bool true := r'
    refine ⟨rfl, ⟨fun b o e => ?_, fun b o e => un.there b o e (by simp)⟩, os, bare⟩
    cases q : H b with
    | none => exact .inl (un.keep b o e q (by intro z; exact absurd (show b ∈ ([] : List Addr) from z) (by simp)) (by simp))
    | some u =>
     rcases hkind b u q with ⟨z, rfl⟩ | ⟨z, _, rfl⟩
     ·obtain ⟨more, z2⟩ := un.tbls b _ q
      have e2 : s'.heap.get? b = some { cls := .none, data := .fields (#[] ++ more) } := hok' b _ z2
      have e3 := (hT b z).1
      rw [e] at e3
      cases e3
      obtain ⟨c, hc⟩ := (hT b z).2.2
      exact .inr (.inl ⟨(hc.tab e).isCodeTable, rfl, #[], more, rfl, e2⟩)
     ·have z2 := un.frzs b _ _ q
      obtain ⟨e1, _⟩ := hok b _ q
      obtain ⟨e2, _⟩ := hok' b _ z2
      rw [e] at e1; cases e1
      exact .inl e2
 cases hk : K.lookup a with
 | some o =>
  have e := KX a o hk
  rw [ha] at e
  cases e
  exact core true _ rfl (.inr ⟨vs.toArray, _, hk, by rw [List.size_toArray, lenV]; exact hl, by simpa using rv⟩) (.inl rfl)
 | none =>
  refine core false _ rfl (.inl (.inr ⟨{ cls := .type "list", data := .seq vs.toArray }, ?_⟩)) (.inr hk)
  unfold Fg
  rw [if_neg haT, if_neg (by simp), if_pos rfl]
theorem uj {l : W.OpenLaw} {n k : Nat} {q : Program} {loose : List Str} {XP : (Str -> Option Value) -> Heap -> Prop} {YP : World -> Heap -> Prop} {d : DefRec} {K : Params -> W.Frag} {CX : World -> CXT} {sp : World -> Sp} {x : Str}
  (hn : l.most = some n) (hn2 : n <= sizeLine) (hdf : d.params.defaults = []) (hr : Room k callerA)
  (hY : ∀ (w : World) (h : Heap), YP w h -> (K w.params).In h)
  (hT : ∀ (w : World) (h : Heap), YP w h -> ∀ P ∈ Tabs.ts, h.get? P = some (tabObj #[]) /\ (K w.params).lookup P = none /\ ∃ c, CodeHd h c P)
  (F : ∀ (w : World) (mg : Cu) (fa : Addr) (h : Heap), (K w.params).In h -> h.Ns mainGlobals mg -> mg d.name = some (.ref fa) ->
   ∃ fd : FuncData, (∀ (s : Shared) (u : Value), BindsTo s fd ⟨[u], []⟩ [(x, u)]) /\
    ∀ base : Heap, (K w.params).In base -> base.Ns mainGlobals mg -> Bm mg base -> FnOk l.prog w (K w.params) mg base (CX w) k fa fd [x] (sp w))
  (hsp : ∀ (w : World) (H : Hp) (a : Addr) (ns : List Int), ns.length <= n -> DW H -> SqR (K w.params) H a (ns.map V.int) -> sp w [.ref a] H (fun v _ => v = .bl true) fun _ _ _ => False)
  (hCX : ∀ (w : World) (H : Hp) (s : Shared) (e : Value) (s' : Shared), CX w [] H s (fun _ _ _ => False) e s' -> False) :
  W.WalkO q loose XP YP l.row.toRowW d [] (fun f vs => PySem.call f vs) := by
 refine Att.ny hn hdf fun w s₀ s₁ mg mb fa o pm cd doc a vs ns G Y ho hd hcd hmg hobj hints hlen hg => ?_
 have KX := hY w _ Y
 obtain ⟨fd, hb, hF⟩ := F w mg fa _ KX G.T.g hmg
 exact rY KX G.T.g G.T.b G.T.builtins G.T.nolimit hg G.T.bmain (hT w _ Y) hobj hints (Nat.le_trans hlen hn2) hr hF hb (fun H hO hS => hsp w H a ns hlen hO hS) fun H e s' => hCX w H s₁ e s'
end L2
namespace L2
open PySem PySem.Spec PyProof.Rows
variable [Tabs]
theorem Paired.at {α β : Type} {r : α -> β -> Prop} : ∀ {xs : List α} {ys : List β} {i : Nat} {x : α}, Paired r xs ys -> xs[i]? = some x -> ∃ y, ys[i]? = some y /\ r x y
 | _, _, _, _, .nil, e => by simp at e
 | _, _, 0, _, .cons h _, e => by simp at e; subst e; exact ⟨_, rfl, h⟩
 | _, _, i + 1, x, .cons _ t, e => by
  obtain ⟨y, h1, h2⟩ := Paired.at (i := i) (x := x) t (by simpa using e)
  exact ⟨y, by simpa using h1, h2⟩
section
variable {X : Cx} {pins : Cv} {σ : St} {H : Hp} {s : Shared} {a : Addr} {o : Obj} {u : HO}
noncomputable def EA (X : Cx) (a : Addr) : Prop := (∀ o u, X.H₀ a ≠ some (.frz o u)) /\ (∀ xs, X.H₀ a ≠ some (.tup xs)) /\ ∀ ps, X.H₀ a ≠ some (.tbl ps)
theorem Inv.notFrz {kvs : List (Key × V)} (I : Inv X pins σ H s) (h : H a = some (.dK kvs)) : EA X a :=
 ⟨fun o u z => (by have q := I.base.frzs a o u z; rw [h] at q; cases q), fun xs z => (by have q := I.base.tups a xs z; rw [h] at q; cases q), fun ps z => (by obtain ⟨m, q⟩ := I.base.tbls a ps z; rw [h] at q; cases q)⟩
theorem Inv.retell {o2 : HO} (I : Inv X pins σ H s) (hs : H a ≠ none) (nf : EA X a) (nt : ∀ xs, H a ≠ some (.tup xs)) (no : ∀ b, H a ≠ some (.own b)) (hok : D1 X.prog X.w (upd H a o2) s.heap a o2) : Inv X pins σ (upd H a o2) s := by
 refine ⟨I.ok, I.os, I.bare, ⟨I.base.keep, I.base.slot, fun b ob e n x => ?_, I.base.there, fun b xs e => ?_, fun b ob w e => ?_, fun b ps e => ?_⟩, I.loc, I.cell, ?_, fun x c e => ?_, fun p hp => ?_, fun b w e => ?_, I.len⟩
 ·have := I.base.free b ob e n x
  rw [ag (fun z => hs (by rw [<- z]; exact this))]; exact this
 ·have := I.base.tups b xs e
  rw [ag (fun z => nf.2.1 xs (by rw [<- z]; exact e))]; exact this
 ·have := I.base.frzs b ob w e
  rw [ag (fun z => nf.1 ob w (by rw [<- z]; exact e))]; exact this
 ·obtain ⟨m, this⟩ := I.base.tbls b ps e
  exact ⟨m, by rw [ag (fun z => nf.2.2 ps (by rw [<- z]; exact e))]; exact this⟩
 ·rw [ag (fun z => hs (by rw [<- z]; exact I.free))]; exact I.free
 ·rw [ag (fun z => hs (by rw [<- z]; exact I.freeC x c e))]; exact I.freeC x c e
 ·obtain ⟨h1, h2, h3⟩ := I.pin p hp
  exact ⟨h1, by rw [ag (fun z => hs (by rw [<- z]; exact h2))]; exact h2, h3⟩
 ·by_cases hb : b = a
  ·subst hb; rw [ao] at e; cases e; exact hok
  ·rw [ag hb] at e
   refine (I.hok b w e).stay (fun _ _ _ q => q) (fun c q => ?_) fun c xs q => ?_
   ·rw [ag (fun z => no b (by rw [<- z]; exact q))]; exact q
   ·rw [ag (fun z => nt xs (by rw [<- z]; exact q))]; exact q
noncomputable def Itd (a : Addr) (o : Obj) (kvs : List (Key × V)) : It :=
 ⟨fun i H => i < kvs.length /\ H a = some (.frz o (.dK kvs)), fun i H x H' => H' = H /\ ∃ kv, kvs[i]? = some kv /\ x = kV kv.1, fun i H => kvs.length <= i /\ H a = some (.frz o (.dK kvs))⟩
theorem yE {P : Program} {w : World} {k : Key} {u : Value} (h : (D3 P w).is k u = true) : RelV (kV k) u := by
 rcases aM h with ⟨i, t, rfl, rfl⟩ | ⟨x, t, rfl, rfl⟩
 ·exact ⟨t, rfl⟩
 ·exact ⟨t, rfl⟩
theorem rZ {P : Program} {w : World} {K : W.Frag} {tg : Expr} (a it : Addr) (o : Obj) (kvs : List (Key × V)) (ep : Nat) (hep : ∃ es, o.data = .dict es ep) : Turn P w K tg (Itd a o kvs) [it] it (fun i h => h.IsKeyIter it a i kvs.length ep) where
 mem := by simp
 obj := fun i h st b hb => by
  have e : b = it := by simpa using hb
  subst e
  obtain ⟨o, e, c, d⟩ := st
  exact ⟨o, e, fun v z => by rw [d] at z; cases z⟩
 keep := fun i h h' st k => st.at fun o e => k it (by simp) o e
 item := by
  intro X hP hw hK hc i pins s σ H E I hf st hg
  subst hP hw hK
  obtain ⟨hlt, hfz⟩ := hg
  obtain ⟨ho, hz, hsys, vs, rel, dd⟩ := I.hok a _ hfz
  obtain ⟨ep', da⟩ := dd.dictAt
  have eep : ep' = ep := by
   obtain ⟨o', es', h1, h2, h3, _⟩ := da
   obtain ⟨es, h4⟩ := hep
   rw [ho] at h1
   cases h1
   rw [h4] at h3
   cases h3
   rfl
  subst eep
  obtain ⟨kv, hkv⟩ : ∃ kv, kvs[i]? = some kv := ⟨_, List.getElem?_eq_getElem hlt⟩
  obtain ⟨kv2, hkv2, e1, _⟩ := Paired.at rel hkv
  obtain ⟨f0, f1, f2, f3, f4, f5⟩ := hf it (by simp)
  rw [rel.length] at st
  refine wpAny_pyNext_dict_item st da (k := kv2.1) (v := kv2.2) hkv2 fun key h' hk st' sb => ?_
  have I1 : Inv X pins σ H { s with heap := h' } := I.turned (t' := s.toks) (fun b o hb e => (sb.2 b hb).trans e) f0 f1 f3 f4 f5
  refine ⟨key, rfl, letGo_keyiter (s' := { s with heap := h' }) st' ⟨kV kv.1, H, I1, ?_, ⟨rfl, kv, hkv, rfl⟩, by rw [rel.length]; exact st', fun b hb => (hf b hb).1⟩⟩
  rw [e1]
  exact yE hk
 done := by
  intro X hP hw hK hc i pins s σ H E I hf st hg
  subst hP hw hK
  obtain ⟨hlt, hfz⟩ := hg
  obtain ⟨ho, hz, hsys, vs, rel, dd⟩ := I.hok a _ hfz
  obtain ⟨ep', da⟩ := dd.dictAt
  have eep : ep' = ep := by
   obtain ⟨o', es', h1, h2, h3, _⟩ := da
   obtain ⟨es, h4⟩ := hep
   rw [ho] at h1
   cases h1
   rw [h4] at h3
   cases h3
   rfl
  subst eep
  obtain ⟨f0, f1, f2, f3, f4, f5⟩ := hf it (by simp)
  rw [rel.length] at st
  exact wpAny_pyNext_dict_end (I.ok.hd hc) st da (by rw [List.getElem?_eq_none_iff, <- rel.length]; exact hlt) fun h' eb => ⟨rfl, I.turned (t' := s.toks) (fun b o hb e => eb b o hb e) f0 f1 f3 f4 f5⟩
 self := fun _ _ _ _ _ st h => wpAny_pyIter_keyiter st h
noncomputable def Fx (X : Cx) (tl : TE) : TI := fun σ H R => tl σ H fun x H1 => ∃ a kvs, x = .ref a /\ H1 a = some (.dK kvs) /\ ∀ o, EA X a -> R (Itd a o kvs) (upd H1 a (.frz o (.dK kvs)))
theorem wb {tg l : Expr} {tl : TE} (hl : PE X l tl) : PI X tg l (Fx X tl) := by
 intro pins s σ H R I h
 refine thn (hl pins s σ H _ I h) fun v s1 ⟨x, H1, I1, r1, q1⟩ => ?_
 obtain ⟨a, kvs, e, hd, q⟩ := q1
 subst e
 cases r1
 obtain ⟨hz, hsys, vs, rel, dd⟩ := I1.hok a _ hd
 obtain ⟨ep, da⟩ := dd.dictAt
 obtain ⟨o, es, ho, hex, hdt, r⟩ := id da
 have nf := I1.notFrz hd
 have I2 : Inv X pins σ (upd H1 a (.frz o (.dK kvs))) s1 := I1.retell (by rw [hd]; simp) nf (fun xs z => by rw [hd] at z; cases z) (fun b z => by rw [hd] at z; cases z) ⟨ho, hz, hsys, vs, rel, dd⟩
 refine wpAny_pyIter_dict hsys da ?_
 refine ⟨s1.heap.objs.size, [s1.heap.objs.size], _, _, _, rfl, I2.kept (t' := s1.toks) (fun b o e => Heap.get?_push_of_some _ e), rZ a _ o kvs ep ⟨es, hdt⟩, ⟨_, Heap.get?_push_size _ rfl, rfl, by rw [rel.length]; rfl⟩, fun b hb => ?_, q o nf⟩
 have e : b = s1.heap.objs.size := by simpa using hb
 subst e
 exact I2.fpOk (Nat.le_refl _) (I2.hok.fresh (Nat.le_refl _))
theorem PE.thaw {e : Expr} {t : TE} (h : PE X e t) : PE X e (fun σ H Q => t σ H fun v H2 => ∃ a o kvs, H2 a = some (.frz o (.dK kvs)) /\ EA X a /\ Q v (upd H2 a (.dK kvs))) := by
 intro pins s σ H Q I q
 refine thn (h pins s σ H _ I q) fun u s1 ⟨v, H1, I1, r, a, o, kvs, hf, nf, q1⟩ => ?_
 have ok := I1.hok a _ hf
 refine ⟨v, _, I1.retell (by rw [hf]; simp) nf (fun xs z => by rw [hf] at z; cases z) (fun b z => by rw [hf] at z; cases z) ?_, r, q1⟩
 exact ok.2
end
section
variable {K : W.Frag} {mg : Cu} {G0 H0 G H : Hp} {σ : St} {δ : DEnv} {a : Addr} {o2 : HO}
theorem Rel.aside (R : Rel K mg G0 H0 G H σ δ) (h0 : H0 a = none) (hG : G a = none) (hn : ∀ (i : Nat) sd, δ[i]? = some (some sd) -> sd.owned -> σ[i]? ≠ some (some (.ref a))) (hx : ∀ C, H a ≠ some (excO a C)) (ht : ∀ ps, H a ≠ some (.tbl ps)) (he : ∀ φ, H a ≠ some (.ext φ)) : Rel K mg G0 H0 G (upd H a o2) σ δ where
 g := by
  refine ⟨⟨fun b u q n => ?_, fun b q => ?_, fun t P hP => ?_⟩, R.g.gg, fun b u q => ?_, R.g.nb, R.g.nt⟩
  ·rw [ag (aq q h0)]; exact R.g.hh.at_ b u q n
  ·rw [ag (fun z => q (by rw [z]; exact h0))]; exact R.g.hh.nn b q
  ·obtain ⟨ps, e1, t1, t2⟩ := R.g.hh.ok t P hP
   refine ⟨ps, (ag (fun z => ht ps (by rw [<- z]; exact e1))).trans e1, t1, fun pos c hc => ?_⟩
   obtain ⟨c', e2, e3⟩ := t2 pos c hc
   exact ⟨c', e2, (ag (fun z => he _ (by rw [<- z]; exact e3))).trans e3⟩
  ·rw [ag (aq q hG)]; exact R.g.gh b u q
 tb := R.tb
 n0 := R.n0
 len := R.len
 sl := fun j sd q => by
  obtain ⟨v, h1, h2⟩ := R.sl j sd q
  refine ⟨v, h1, ?_⟩
  cases sd with
  | sh d => exact h2
  | ol ds =>
   obtain ⟨b, xs, rfl, q1, q2, q3⟩ := h2
   exact ⟨b, xs, rfl, q1, (ag (fun z => hn j _ q trivial (by rw [<- z]; exact h1))).trans q2, q3⟩
  | od ds =>
   obtain ⟨b, xs, rfl, q1, q2, q3⟩ := h2
   exact ⟨b, xs, rfl, q1, (ag (fun z => hn j _ q trivial (by rw [<- z]; exact h1))).trans q2, q3⟩
  | ex x =>
   obtain ⟨b, C, rfl, q1, q2⟩ := h2
   exact ⟨b, C, rfl, q1, (ag fun z => hx C (by rw [<- z]; exact q2)).trans q2⟩
 fr := R.fr
 ap := R.ap
end
noncomputable def EB (i : Nat) (F : List Nat) (tc : DT) (te : DE) : DE := fun δ => match δ[i]? with
 | some (some (.od es)) => if i ∈ F \/ sizeLine < es.length then .bad else (match CZ (rhoD F (CD F (δ.set i none))) tc te (es.map (·.1)) with
  | some ys => .ok (.ol ys, if CA ys = true then δ else (CD F (δ.set i none)).set i (some (.od es)))
  | none => .bad)
 | _ => .bad
theorem nX {i j : Nat} {δ : DEnv} (h : δ[j]? = some none) : (Du i δ)[j]? = some none := by
 unfold Du
 split
 next ds e =>
  by_cases z : j = i
  ·subst z; rw [h] at e; cases e
  ·rw [List.getElem?_set_ne (Ne.symm z)]; exact h
 next ds e =>
  by_cases z : j = i
  ·subst z; rw [h] at e; cases e
  ·rw [List.getElem?_set_ne (Ne.symm z)]; exact h
 next => exact h
theorem j8 : ∀ (is : List Nat) {δ : DEnv} {j : Nat}, δ[j]? = some none -> (CD is δ)[j]? = some none
 | [], _, _, h => h
 | i :: r, δ, j, h => j8 r (nX h)
theorem wc {X : Cx} {E : XK} {i : Nat} {F : List Nat} {tc : DT} {te : DE} {σ : St} {H : Hp} {Q : VK} (h : tE X.K X.mg E (EB i F tc te) σ H Q) :
  Ep 1 F (Fx X (tVar i)) (Df 0) (tT X.K X.mg E0 tc) (tE X.K X.mg E0 te) σ H (fun v H2 => ∃ a o kvs, H2 a = some (.frz o (.dK kvs)) /\ EA X a /\ Q v (upd H2 a (.dK kvs))) := by
 obtain ⟨G0, H0, G, δ, R, m⟩ := h
 unfold EB at m
 split at m
 next es hi =>
  split at m
  next => exact m.elim
  next hcond =>
   have hiF : i ∉ F := fun z => hcond (.inl z)
   have hsz : es.length <= sizeLine := Nat.le_of_not_lt fun z => hcond (.inr z)
   obtain ⟨v, hv, a, kvs, rfl, hGa, hHa, hdes⟩ := R.sl i _ hi
   refine ⟨_, hv, a, kvs, rfl, hHa, fun o nf => ?_⟩
   have h0 : H0 a = none := R.fr i _ a hi trivial hv
   have hnot : ∀ (j : Nat) sd, (δ.set i none)[j]? = some (some sd) -> sd.owned -> σ[j]? ≠ some (some (.ref a)) := fun j sd q ho z => by
    rcases aD q with ⟨_, y⟩ | ⟨hj, y⟩
    ·cases y
    ·exact hj (R.ap i j _ sd a hi y trivial ho hv z).symm
   have Rf : Rel X.K X.mg G0 H0 G (upd H a (.frz o (.dK kvs))) σ (δ.set i none) := (R.forget i).aside h0 hGa hnot (fun C z => by rw [hHa] at z; cases z) (fun ps z => by rw [hHa] at z; cases z) (fun φ z => by rw [hHa] at z; cases z)
   have hil : i < δ.length := (List.getElem?_eq_some_iff.mp hi).1
   have hil2 : i < σ.length := by rw [<- R.len]; exact hil
   generalize hHf : upd H a (.frz o (.dK kvs)) = Hf at Rf ⊢
   have hfa : Hf a = some (.frz o (.dK kvs)) := by rw [<- hHf, ao]
   obtain ⟨G3, l3, R3, L3⟩ := Rf.relA F
   have ho : ∀ j ∈ F, ∀ sd, (CD F (δ.set i none))[j]? = some (some sd) -> ¬ sd.owned := fun j hj sd e => dO F hj e
   have hnone : (CD F (δ.set i none))[i]? = some none := j8 F (List.getElem?_set_self hil)
   generalize hρ : rhoD F (CD F (δ.set i none)) = ρ at m
   have keys : Dts X.K G (kvs.map fun kv => kV kv.1) (es.map (·.1)) := hdes.keys
   cases ec : CZ ρ tc te (es.map (·.1)) with
   | none => rw [ec] at m; exact m.elim
   | some total =>
    rw [ec] at m
    dsimp only at m
    generalize hds : es.map (·.1) = ds at ec keys
    have hdl : ds.length <= sizeLine := by rw [<- hds, List.length_map]; exact hsz
    have hkl : kvs.length = ds.length := by have := keys.len; rw [List.length_map] at this; exact this
    refine ⟨fun i mm ys H2 => ∃ G4 es rest, Grow G3 Hf G4 H2 /\ Dts X.K G4 ys es /\ i + mm = ds.length /\ ys.length <= i /\ CZ ρ tc te (ds.drop i) = some rest /\ es ++ rest = total, ⟨ds.length, G3, [], total, .refl R3.g.gh, .nil, Nat.zero_add _, Nat.le_refl _, ec, rfl⟩, ?_⟩
    rintro t mm ys H2 ⟨G4, rs, rest, g4, hys, him, hyl, hc, ht⟩
    have hf2 : H2 a = some (.frz o (.dK kvs)) := g4.hh.at_ _ _ hfa (by intro _ z; cases z)
    cases hd : ds[t]? with
    | none =>
     have hi' : ds.length <= t := List.getElem?_eq_none_iff.mp hd
     refine .inl ⟨⟨by omega, hf2⟩, fun D hD => ⟨a, o, kvs, ?_, nf, ?_⟩⟩
     ·rw [ag (fun z => by rw [z, hD] at hf2; cases hf2)]; exact hf2
     ·rw [List.drop_eq_nil_of_le hi'] at hc
      cases hc
      rw [List.append_nil] at ht
      subst ht
      have hDa : D ≠ a := fun z => by rw [z, hf2] at hD; cases hD
      have gD : Grow G3 Hf G4 (upd H2 D (.lst ys)) := g4.trans (.laidO g4.gh hD)
      have vn : VN X.K X.mg Hf G4 (upd H2 D (.lst ys)) (.ref D) (.ol rs) := ⟨⟨D, ys, rfl, g4.gh.free hD, ao, hys⟩, fun _ b eb => by cases eb; exact g4.hh.free hD⟩
      have back : ∀ {G5 : Hp} {δ5 : DEnv}, Rel X.K X.mg G0 H0 G5 (upd H2 D (.lst ys)) σ δ5 -> G5 a = none -> Same G G5 -> Dts X.K G5 ys rs -> G5 D = none -> δ5[i]? = some none -> (∀ (j : Nat) sd, δ5[j]? = some (some sd) -> sd.owned -> σ[j]? ≠ some (some (.ref a)) /\ σ[j]? ≠ some (some (.ref D))) ->
        Rel X.K X.mg G0 H0 G5 (upd (upd H2 D (.lst ys)) a (.dK kvs)) σ (δ5.set i (some (.od es))) /\ RR X.K X.mg H0 G5 (upd (upd H2 D (.lst ys)) a (.dK kvs)) σ (δ5.set i (some (.od es))) (.ref D) (.ol rs) := fun {G5 δ5} R5 hG5 s5 hys5 hGD hn5 hno => by
       have hfD : upd H2 D (.lst ys) a = some (.frz o (.dK kvs)) := (ag (Ne.symm hDa)).trans hf2
       have R6 : Rel X.K X.mg G0 H0 G5 (upd (upd H2 D (.lst ys)) a (.dK kvs)) σ δ5 := R5.aside h0 hG5 (fun j sd q ho => (hno j sd q ho).1) (fun C z => by rw [hfD] at z; cases z) (fun ps z => by rw [hfD] at z; cases z) (fun φ z => by rw [hfD] at z; cases z)
       have R7 := R6.store (i := i) (v := .ref a) (r := .od es) hil2 ⟨⟨a, kvs, rfl, hG5, ao, hdes.mono s5⟩, fun _ b eb => by
        cases eb
        refine ⟨h0, fun j sd q ho => ?_⟩
        rcases aD q with ⟨_, y⟩ | ⟨hj, y⟩
        ·cases y
        ·exact (hno j sd y ho).1⟩
       rw [fV hv] at R7
       refine ⟨R7, ⟨D, ys, rfl, hGD, (ag hDa).trans ao, hys5⟩, fun _ b eb => ?_⟩
       cases eb
       refine ⟨Rf.g.hh.free (g4.hh.free hD), fun j sd q ho => ?_⟩
       rcases aD q with ⟨rfl, y⟩ | ⟨hj, y⟩
       ·rw [hv]; intro z; cases z; exact hDa rfl
       ·exact (hno j sd y ho).2
      have own_ne : ∀ {G5 : Hp} {δ5 : DEnv}, Rel X.K X.mg G0 H0 G5 Hf σ δ5 -> ∀ (j : Nat) sd, δ5[j]? = some (some sd) -> sd.owned -> σ[j]? ≠ some (some (.ref D)) := fun {G5 δ5} R5 j sd q ho z => (R5.own_ne q ho z).2 (g4.hh.free hD)
      by_cases hp : CA rs = true
      ·rw [if_pos hp] at m
       obtain ⟨G5, gr5, vn5⟩ := L3.back Rf R3.g.gh gD vn hp
       have hGa5 : G5 a = none := (gr5.nb a (by rw [hfa]; simp)).trans hGa
       obtain ⟨D', ys', e1, e2, e3, e4⟩ := vn5.1
       cases e1
       rw [ao] at e3
       cases e3
       obtain ⟨q1, q2⟩ := back (Rf.grow gr5) hGa5 gr5.gg e4 e2 (List.getElem?_set_self hil) fun j sd q ho => ⟨hnot j sd q ho, own_ne Rf j sd q ho⟩
       rw [List.set_set, fV hi] at q1 q2
       exact m _ _ G5 q1 gr5.gg q2
      ·rw [if_neg hp] at m
       have hG3a : G3 a = none := by
        have z := R3.g.gh
        cases q : G3 a with
        | none => rfl
        | some w =>
         by_cases ha : a ∈ l3
         ·rcases L3.mu a ha with ⟨xs, y⟩ | ⟨xs, y⟩
          ·have := z _ _ y; rw [hfa] at this; cases this
          ·have := z _ _ y; rw [hfa] at this; cases this
         ·rw [L3.old a ha, hGa] at q; cases q
       have hGa4 : G4 a = none := (g4.nb a (by rw [hfa]; simp)).trans hG3a
       have hnot3 : ∀ (j : Nat) sd, (CD F (δ.set i none))[j]? = some (some sd) -> sd.owned -> σ[j]? ≠ some (some (.ref a)) := fun j sd q ho z => by
        obtain ⟨w, h1, h2⟩ := R3.sl j sd q
        rw [z] at h1
        cases h1
        cases sd with
        | sh d => exact ho.elim
        | ol ds => obtain ⟨b, xs, e1, _, e2, _⟩ := h2; cases e1; rw [hfa] at e2; cases e2
        | od ds => obtain ⟨b, xs, e1, _, e2, _⟩ := h2; cases e1; rw [hfa] at e2; cases e2
        | ex x => exact ho.elim
       obtain ⟨q1, q2⟩ := back (R3.grow gD) hGa4 (L3.ext.trans g4.gg) hys (g4.gh.free hD) hnone fun j sd q ho => ⟨hnot3 j sd q ho, own_ne R3 j sd q ho⟩
       exact m _ _ G4 q1 (L3.ext.trans g4.gg) q2
    | some d =>
     have hi' : t < ds.length := (List.getElem?_eq_some_iff.mp hd).1
     have ed : ds.drop t = d :: ds.drop (t + 1) := by
      rw [List.drop_eq_getElem_cons hi']
      congr 1
      exact Option.some.inj ((List.getElem?_eq_getElem hi').symm.trans hd)
     rw [ed] at hc
     unfold CZ at hc
     refine .inr ⟨⟨by omega, hf2⟩, fun x H3 hy => ?_⟩
     obtain ⟨rfl, kv, hkv, rfl⟩ := hy
     have dx : Dt X.K G4 (kV kv.1) d := by
      obtain ⟨d', h1, h2⟩ := (keys.mono (L3.ext.trans g4.gg)).get (i := t) (v := kV kv.1) (by rw [List.getElem?_map, hkv]; rfl)
      rw [hd] at h1
      cases h1
      exact h2
     have Rr := mr (F := F) R3 ho g4
     rw [hρ] at Rr
     have hz : 0 < (rho 1 F σ).length := by rw [dY]; omega
     have Rs := Rr.store hz (r := .sh d) (v := kV kv.1) (RR.sh dx)
     show tT X.K X.mg E0 tc ((rho 1 F σ).set 0 (some (kV kv.1))) H3 _
     refine ⟨G3, Hf, G4, ρ.set 0 (some (.sh d)), Rs, ?_⟩
     cases e1 : tc (ρ.set 0 (some (.sh d))) with
     | exc y => rw [e1] at hc; cases hc
     | bad => rw [e1] at hc; cases hc
     | ok q =>
      rw [e1] at hc
      dsimp only at hc
      intro H6 G6 R6 s6
      split
      next hb =>
       rw [if_pos hb] at hc
       refine p7 R6 ?_
       cases e2 : vE te q.2 with
       | exc y => rw [e2] at hc; cases hc
       | bad => rw [e2] at hc; cases hc
       | ok u =>
        rw [e2] at hc
        dsimp only at hc
        obtain ⟨rest', er, rfl⟩ := Option.map_eq_some_iff.mp hc
        intro v H7 G7 R7 s7 hv
        refine ⟨by omega, mm - 1, by omega, G7, rs ++ [u.1], rest', R7.g, ?_, by omega, by rw [List.length_append, List.length_singleton]; omega, er, by rw [List.append_assoc]; exact ht⟩
        exact (hys.mono (s6.trans s7)).append (.cons hv .nil)
      next hb =>
       rw [if_neg hb] at hc
       exact ⟨mm - 1, by omega, G6, rs, rest, R6.g, hys.mono s6, by omega, by omega, hc, ht⟩
 next => exact m.elim
section
variable {X : Cx} {E : XK} {N0 : List Str} {sc0 scope : Scope} {x d : Str} {elt : Expr} {ifs : List Expr} {tc : DT} {te : DE} {pos px pd : Pos} {F : List Nat}
theorem uk (i : Nat) (hok : DF N0 sc0 x scope = true) (hF : Dg N0 scope = F) (ht : ∀ cl C ex s H, PTs (CL X (x :: CB scope) scope cl C ex s H) ifs (tT X.K X.mg E0 tc)) (he : ∀ cl C ex s H, PE (CL X (x :: CB scope) scope cl C ex s H) elt (tE X.K X.mg E0 te)) (hN : X.N = N0 := by rfl)
  (hsc : X.env.scope = sc0 := by rfl) (hcm : X.calm = true := by rfl) (hs : ∀ x, foldedSetIterable (.Name d pd) X.env x = pure x := by intro _; rfl)
  (hi : X.N[i]? = some d := by rfl) (hv : Vis X.env.scope d := by first | exact Or.inl rfl | exact Or.inr (Or.inl rfl) | exact Or.inr (Or.inr rfl)) (hd : (d == ("__debug__" : Str)) = false := by decide) (hcd : (d == ("__classdict__" : Str)) = false := by decide) :
  SE X E (.ListComp elt [⟨.Name x px, .Name d pd, ifs, 0⟩] scope pos) (EB i F tc te) := by
 subst hF
 exact ((nz hok (wb (fO hi hv hd hcd)) ht he hN hsc hcm hs).thaw).weak fun _ _ _ h => wc h
end
end L2
namespace L2
open PySem PySem.Spec PyProof.Rows
section
variable {prog : Program} {w : World} {A : Around} {E : Cw} {s : Shared} {a kS : Addr} {vs : List Value} {ns kz : List Int} {keys : Array Value} {e e1 : Nat} {P : PySem.Fin -> Shared -> Prop}
theorem nY {st : SortSt} (nk : s.heap.get? kS = some (seqObj "list" keys e)) (na : s.heap.get? a = some (seqObj "list" #[] e1)) (hka : kS ≠ a)
  (hk : IntsAre keys.toList kz) (hlen : kz.length = vs.length) (h64 : vs.length < 64) (hp : (arrOf st).Perm (keys.zip vs.toArray)) (hs : SortedTo (arrOf st) (arrOf st).size) (hfl : failedOf st = none)
  (h : ∀ h' out c, (∀ b o, b ≠ a -> b ≠ kS -> s.heap.get? b = some o -> h'.get? b = some o) -> h'.get? a = some (seqObj "list" out c) -> KskOut false kz vs out.toList -> P (.done (.ret .none)) { s with heap := h' }) :
  wpAny (model prog w) A (ksk_tail a false e1 (.ref kS) st) P E s := by
 have hsz : keys.size = vs.length := by
  have h1 := hk.length
  rw [Array.length_toList] at h1
  lia
 have hsz2 : (arrOf st).size = vs.length := by rw [hp.size_eq, Array.size_zip, hsz, List.size_toArray, Nat.min_self]
 have s1 := Heap.SameBut.update s.heap kS (Obj.mapSeq fun _ => (#[] : Array Value))
 have na1 : (s.heap.update kS (Obj.mapSeq fun _ => (#[] : Array Value))).get? a = some (seqObj "list" #[] e1) := (s1.2 a hka.symm).trans na
 have s2 := Heap.SameBut.update (s.heap.update kS (Obj.mapSeq fun _ => (#[] : Array Value))) a (Obj.mapSeq fun _ => (arrOf st).map (·.2))
 obtain ⟨c2, hc2⟩ : ∃ c2, ((s.heap.update kS (Obj.mapSeq fun _ => (#[] : Array Value))).update a (Obj.mapSeq fun _ => (arrOf st).map (·.2))).get? a = some (seqObj "list" ((arrOf st).map (·.2)) c2) :=
  ⟨_, get?_update_seq na1 fun _ => (arrOf st).map (·.2)⟩
 unfold ksk_tail
 try dsimp only
 refine wpAny_bind (listUpdate_at nk rfl ?_ (by rw [hsz, sizeLine_eq]; lia) (Nat.zero_le _))
 refine wpAny_bind (wpAny_letGo ?_)
 refine wpAny_bind (seqEpoch_at na1 rfl ?_)
 refine wpAny_bind (listUpdate_at na1 rfl ?_ (Nat.zero_le _) (by simp only [Bool.false_eq_true, if_false, Array.size_map]; rw [hsz2, sizeLine_eq]; lia))
 rw [hfl]
 simp only [bne_self_eq_false, Bool.false_eq_true, if_false]
 refine wpAny_pure (h _ _ c2 (fun b o h1 h2 q => (s2.2 b h1).trans ((s1.2 b h2).trans q)) hc2 ?_)
 have := ksk_out (b := false) hk hp hs
 simpa using this
theorem we (nk : s.heap.get? kS = some (seqObj "list" keys e)) (na : s.heap.get? a = some (seqObj "list" #[] e1)) (hka : kS ≠ a)
  (hk : IntsAre keys.toList kz) (hlen : kz.length = vs.length) (h64 : vs.length < 64)
  (h : ∀ h' out c, (∀ b o, b ≠ a -> b ≠ kS -> s.heap.get? b = some o -> h'.get? b = some o) -> h'.get? a = some (seqObj "list" out c) -> KskOut false kz vs out.toList -> P (.done (.ret .none)) { s with heap := h' }) :
  wpAny (model prog w) A (ksk_end a false vs.toArray e1 (.ref kS) keys) P E s := by
 have hsz : keys.size = vs.length := by
  have h1 := hk.length
  rw [Array.length_toList] at h1
  lia
 have hzs : (keys.zip vs.toArray).size = vs.length := by rw [Array.size_zip, hsz, List.size_toArray, Nat.min_self]
 unfold ksk_end
 try dsimp only
 simp only [Bool.false_eq_true, if_false]
 by_cases h2 : vs.toArray.size < 2
 ·rw [if_pos h2, if_pos h2]
  refine wpAny_bind (wpAny_pure ?_)
  rw [StateT.run_pure]
  refine wpAny_bind (wpAny_pure ?_)
  try dsimp only
  refine nY (st := SortSt.mk' general' (keys.zip vs.toArray) #[] 7 none) nk na hka hk hlen h64 (Array.Perm.refl _) ?_ rfl h
  intro i j hij hj
  have hj2 : j < (keys.zip vs.toArray).size := hj
  rw [hzs] at hj2
  rw [List.size_toArray] at h2
  have : i = j := by lia
  subst this
  exact Int.le_refl _
 ·rw [if_neg h2, if_neg h2]
  rw [List.size_toArray] at h2
  rw [ksk_kind hk (by rw [hsz]; lia)]
  refine wpAny_bind (wpAny_pure ?_)
  refine wpAny_bind (wpAny_mono (wpS_sortRuns (a₀ := keys.zip vs.toArray) (st := SortSt.mk' oneType' (keys.zip vs.toArray) #[] 7 none)
   (Q := fun _ st' => (arrOf st').Perm (keys.zip vs.toArray) /\ failedOf st' = none /\ SortedTo (arrOf st') (keys.zip vs.toArray).size)
   (ksk_intKeys hk) ⟨Array.Perm.refl _, rfl, rfl, rfl⟩ (by rw [hzs]; lia) (by rw [hzs]; exact h64) fun st' a1 a2 a3 => ⟨a1, a2, a3⟩) ?_ fun _ _ e => e)
  rintro ⟨⟨⟩, st'⟩ s' ⟨rfl, hp, hf, hs⟩
  try dsimp only
  exact nY nk na hka hk hlen h64 hp (by rw [hp.size_eq]; exact hs) hf h
noncomputable def absK (n : Int) : Int := if n < 0 then -n else n
theorem um (nk : s.heap.get? kS = some (seqObj "list" #[] 0)) (na : s.heap.get? a = some (seqObj "list" #[] e1)) (hka : kS ≠ a) (hi : IntsAre vs ns) (h64 : vs.length < 64)
  (h : ∀ h' tk out c, (∀ b o, b ≠ a -> b ≠ kS -> s.heap.get? b = some o -> h'.get? b = some o) -> h'.get? a = some (seqObj "list" out c) -> KskOut false (ns.map absK) vs out.toList -> P (.done (.ret .none)) { s with heap := h', toks := tk }) :
  wpAny (model prog w) A (ksk_rest a (.builtin "abs") false vs.toArray e1 (.ref kS)) P E s := by
 have hl := hi.length
 unfold ksk_rest
 refine wpAny_bind (wpAny_rule ?_)
 first
  | rw [List.forIn_toArray]
  | (rw [<- Array.forIn_toList]; simp only [List.toList_toArray])
  | rw [<- Array.forIn_toList]
 refine wpAny_bind (ksk_fold (fun i s' => ∃ h' tk kA e, s' = { s with heap := h', toks := tk } /\ (∀ b o, b ≠ kS -> s.heap.get? b = some o -> h'.get? b = some o) /\ h'.get? kS = some (seqObj "list" kA e) /\ IntsAre kA.toList ((ns.map absK).take i)) vs 0 s
  ⟨s.heap, s.toks, #[], 0, rfl, fun _ _ _ q => q, nk, by simpa using IntsAre.nil⟩ ?step ?done)
 case step =>
  rintro j x s' hx ⟨h', tk, kA, e, rfl, keep, hkS, hk⟩
  simp only [Nat.zero_add] at hk ⊢
  have hj : j < vs.length := (List.getElem?_eq_some_iff.mp hx).1
  obtain ⟨t, rfl⟩ := IntsAre.int_at hi j x hx
  have hkj : (ns.map absK)[j]? = some (absK (ns.getD j 0)) := by
   rw [List.getElem?_map, List.getD_eq_getElem?_getD, List.getElem?_eq_getElem (by lia)]; rfl
  have hz : kA.size <= vs.length := by
   have h1 := hk.length
   rw [Array.length_toList, List.length_take] at h1
   lia
  refine wpAny_bind (wpAny_attempt (call_abs_int fun u2 tk2 => ?_))
  try dsimp only
  have s1 := Heap.SameBut.update h' kS (Obj.mapSeq (·.push (.int (absK (ns.getD j 0)) u2)))
  obtain ⟨c2, hc2⟩ : ∃ c2, (h'.update kS (Obj.mapSeq (·.push (.int (absK (ns.getD j 0)) u2)))).get? kS = some (seqObj "list" (kA.push (.int (absK (ns.getD j 0)) u2)) c2) := ⟨_, get?_update_seq hkS (·.push (.int (absK (ns.getD j 0)) u2))⟩
  have ek : (ns.map absK).take (j + 1) = (ns.map absK).take j ++ [absK (ns.getD j 0)] := by rw [List.take_add_one, hkj]; simp
  have ea : (kA.push (Value.int (absK (ns.getD j 0)) u2)).toList = kA.toList ++ [Value.int (absK (ns.getD j 0)) u2] := by simp
  refine wpAny_bind (listUpdate_at hkS rfl ?_ (by rw [sizeLine_eq]; lia) (Nat.le_trans (Nat.le_of_eq (Array.size_push ..)) (by rw [sizeLine_eq]; lia)))
  exact wpAny_pure ⟨rfl, _, _, kA.push (.int (absK (ns.getD j 0)) u2), c2, rfl, fun b o h1 q => (s1.2 b h1).trans (keep b o h1 q), hc2, by rw [ea, ek]; exact ksk_snoc hk⟩
 case done =>
  rintro s' ⟨h', tk, kA, e, rfl, keep, hkS, hk⟩
  have hk' : IntsAre kA.toList (ns.map absK) := by
   have e3 : (ns.map absK).take (0 + vs.length) = ns.map absK := List.take_of_length_le (by rw [List.length_map]; lia)
   rw [e3] at hk
   exact hk
  try dsimp only
  refine wpAny_bind (listItems_at hkS rfl ?_)
  exact we (s := { s with heap := h', toks := tk }) hkS (keep a _ hka.symm na) hka hk' (by rw [List.length_map]; lia) h64 fun h3 out c keep3 ha3 k3 => h h3 tk out c (fun b o h1 h2 q => keep3 b o h1 h2 (keep b o h2 q)) ha3 k3
theorem kK {n : Nat} (ho : s.heap.get? a = some (seqObj "list" vs.toArray n)) (hi : IntsAre vs ns) (h64 : vs.length < 64)
  (h : ∀ h' tk out c, (∀ b o, b ≠ a -> s.heap.get? b = some o -> h'.get? b = some o) -> h'.get? a = some (seqObj "list" out c) -> KskOut false (ns.map absK) vs out.toList -> P (.done (.ret .none)) { s with heap := h', toks := tk }) :
  wpAny (model prog w) A (ksk_tree a (.builtin "abs") false) P E s := by
 have ha : a < s.heap.objs.size := Heap.lt_size ho
 have s1 := Heap.SameBut.update s.heap a (Obj.mapSeq fun _ => (#[] : Array Value))
 obtain ⟨e1, ho1⟩ : ∃ e1, (s.heap.update a (Obj.mapSeq fun _ => (#[] : Array Value))).get? a = some (seqObj "list" #[] e1) := ⟨_, get?_update_seq ho fun _ => #[]⟩
 have hkS : ((s.heap.update a (Obj.mapSeq fun _ => (#[] : Array Value))).push (seqObj "tuple" vs.toArray 0)).objs.size = s.heap.objs.size + 1 := by rw [size_push', Heap.size_update]
 unfold ksk_tree
 refine wpAny_bind (listItems_at ho rfl ?_)
 refine wpAny_bind (listUpdate_at ho rfl ?_ (by rw [List.size_toArray, sizeLine_eq]; lia) (Nat.zero_le _))
 refine wpAny_bind (seqEpoch_at ho1 rfl ?_)
 refine wpAny_bind (wpAny_newTuple ?_ (by show vs.length <= _; rw [sizeLine_eq]; lia))
 refine wpAny_bind (wpAny_newList ?_ (Nat.zero_le _))
 refine wpAny_holding ?_
 refine um (s := { s with heap := ((s.heap.update a (Obj.mapSeq fun _ => (#[] : Array Value))).push (seqObj "tuple" vs.toArray 0)).push (seqObj "list" #[] 0) }) (kS := ((s.heap.update a (Obj.mapSeq fun _ => (#[] : Array Value))).push (seqObj "tuple" vs.toArray 0)).objs.size)
  (Heap.get?_push_size _ rfl) (Heap.get?_push_of_some _ (Heap.get?_push_of_some _ ho1)) (by rw [hkS]; exact Nat.ne_of_gt (Nat.lt_succ_of_lt ha)) hi h64 fun h' tk out c keep h1 h2 => h h' tk out c (fun b o hb q => ?_) h1 h2
 refine keep b o hb (by rw [hkS]; exact Nat.ne_of_lt (Nat.lt_succ_of_lt (Heap.lt_size q))) (Heap.get?_push_of_some _ (Heap.get?_push_of_some _ ((s1.2 b hb).trans q)))
theorem pE {l : Addr} {Q : Cw} (hl : s.heap.IsList l vs.toArray) (hi : IntsAre vs ns) (h64 : vs.length < 64)
  (h : ∀ D h' tk out c, s.heap.objs.size <= D -> (∀ b o, s.heap.get? b = some o -> h'.get? b = some o) -> h'.get? D = some (seqObj "list" out c) -> KskOut false (ns.map absK) vs out.toList -> Q (.ref D) { s with heap := h', toks := tk }) :
  wpAny (model prog w) A (call (.builtin "sorted") [.ref l] [(Str.ofString "key", .builtin "abs")]) Q E s := by
 refine call_function_entry_kw kind_sorted plain_sorted entry_sorted (ksk_s1 _ _) ?_
 unfold Builtin.«sorted»
 refine wpAny_bind (m := checkCount "sorted" 1 1 _) (wpAny_pure ?_)
 refine wpAny_bind (collect_list hl ?_ (by rw [sizeLine_eq]; lia))
 refine wpAny_bind (wpAny_newList ?_ (by rw [sizeLine_eq]; lia))
 have hsz : ((s.heap.push (seqObj "list" #[] 0)).update s.heap.objs.size (Obj.mapSeq (· ++ vs.toArray))).objs.size = s.heap.objs.size + 1 := by
  rw [Heap.size_update, size_push']
 have hoL : (((s.heap.push (seqObj "list" #[] 0)).update s.heap.objs.size (Obj.mapSeq (· ++ vs.toArray))).push (seqObj "list" vs.toArray 0)).get? (s.heap.objs.size + 1) = some (seqObj "list" vs.toArray 0) := by
  rw [<- hsz]; exact Heap.get?_push_size _ rfl
 have keep : ∀ b o, s.heap.get? b = some o -> b ≠ s.heap.objs.size + 1 /\ (((s.heap.push (seqObj "list" #[] 0)).update s.heap.objs.size (Obj.mapSeq (· ++ vs.toArray))).push (seqObj "list" vs.toArray 0)).get? b = some o := fun b o q => by
  have hlt : b < s.heap.objs.size := Heap.lt_size q
  refine ⟨Nat.ne_of_lt (Nat.lt_succ_of_lt hlt), ?_⟩
  rw [Heap.get?_push_ne _ _ _ (by rw [hsz]; exact Nat.ne_of_lt (Nat.lt_succ_of_lt hlt)), Heap.get?_update_ne _ _ _ _ (Nat.ne_of_lt hlt), Heap.get?_push_ne _ _ _ (Nat.ne_of_lt hlt)]
  exact q
 show wpAny _ _ _ _ _ { s with heap := ((s.heap.push (seqObj "list" #[] 0)).update s.heap.objs.size (Obj.mapSeq (· ++ vs.toArray))).push (seqObj "list" vs.toArray 0) }
 rw [hsz]
 refine wpAny_bind (wpAny_holding (wpAny_call_entry_kw slot_list_sort ⟨_, hoL, rfl⟩ entry_list_sort ?body (ksk_l1 _ _)))
 show wpAny (model prog w) A.in1.in1 (Builtin.«list.sort» ⟨[.ref (s.heap.objs.size + 1)], [(Str.ofString "key", .builtin "abs")]⟩) _ _ _
 rw [ksk_t4]
 refine kK (s := { s with heap := ((s.heap.push (seqObj "list" #[] 0)).update s.heap.objs.size (Obj.mapSeq (· ++ vs.toArray))).push (seqObj "list" vs.toArray 0) }) hoL hi h64 fun h' tk out c kp h1 h2 => ⟨_, rfl, ?_⟩
 exact wpAny_pure ⟨_, rfl, h _ h' tk out c (Nat.le_succ _) (fun b o q => kp b o (keep b o q).1 (keep b o q).2) h1 h2⟩
end
theorem uo {vs out : List Value} {ns : List Int} (hi : IntsAre vs ns) (h : KskOut false (ns.map absK) vs out) : ∃ ns', IntsAre out ns' /\ ns'.Perm ns /\ ns'.Pairwise (fun x y => absK x <= absK y) := by
 obtain ⟨ps, hp, rfl, hs⟩ := h
 have key : ∀ {vs : List Value} {ns : List Int}, IntsAre vs ns -> ∀ p ∈ (ns.map absK).zip vs, ∃ n t, p = (absK n, Value.int n t) := fun {vs ns} hi => by
  induction hi with
  | nil => intro p hp; simp at hp
  | cons n t _ ih =>
   intro p hp
   rw [List.map_cons, List.zip_cons_cons] at hp
   rcases List.mem_cons.mp hp with rfl | hp
   ·exact ⟨n, t, rfl⟩
   ·exact ih p hp
 have kp : ∀ p ∈ ps, ∃ n t, p = (absK n, Value.int n t) := fun p h => key hi p (hp.mem_iff.mp h)
 have allI : ∀ {ps : List (Int × Value)}, (∀ p ∈ ps, ∃ n t, p = (absK n, Value.int n t)) -> IntsAre (ps.map Prod.snd) (ps.map fun p => numOf p.2) /\ ∀ p ∈ ps, p.1 = absK (numOf p.2) := fun {ps} => by
  induction ps with
  | nil => intro _; exact ⟨.nil, fun p h => absurd h (by simp)⟩
  | cons p r ih =>
   intro h
   obtain ⟨n, t, rfl⟩ := h p (List.mem_cons_self ..)
   obtain ⟨i1, i2⟩ := ih fun q hq => h q (List.mem_cons_of_mem _ hq)
   exact ⟨.cons n t i1, fun q hq => by
    rcases List.mem_cons.mp hq with rfl | hq
    ·rfl
    ·exact i2 q hq⟩
 obtain ⟨i1, i2⟩ := allI kp
 refine ⟨_, i1, ?_, ?_⟩
 ·have e1 : ((ns.map absK).zip vs).map (fun p => numOf p.2) = ns := by
   have : ((ns.map absK).zip vs).map (fun p => numOf p.2) = (((ns.map absK).zip vs).map Prod.snd).map numOf := by rw [List.map_map]; rfl
   rw [this, List.map_snd_zip (by rw [List.length_map, hi.length]; exact Nat.le_refl _)]
   exact hi.nums
  rw [<- e1]
  exact hp.map _
 ·rw [List.pairwise_map]
  refine hs.imp_of_mem fun {p q} h1 h2 h3 => ?_
  have h3' : p.1 <= q.1 := by simpa using h3
  rw [<- i2 p h1, <- i2 q h2]
  exact h3'
variable [Tabs]
noncomputable def inB2 (d : PyData) : PyData -> Option Bool
 | .dict es => (CY d).map fun k => es.any fun p => decide (CY p.1 = some k)
 | y => inB d y
noncomputable def dIn2 : Ct -> Option SD
 | [x, y] => (inB2 x y).map fun b => .sh (.bool b)
 | _ => none
noncomputable def DK : Ct -> Option SD
 | [x, y] => (inB2 x y).map fun b => .sh (.bool !b)
 | _ => none
noncomputable def EU (K : W.Frag) (neg : Bool) : R2 := fun x y H Q => rInD K neg x y H Q \/ ∃ a o, y = .ref a /\ DGet H a x o /\ Q (.bl (if neg then !o.isSome else o.isSome)) H
section
variable {X : Cx}
theorem wg (hu : X.A.units + 64 < cLine) : OpR X (compareOp .In) (EU X.K false) := by
 intro pins s σ H x y v u Q I rx ry h
 rcases h with h | ⟨a, o, rfl, g, q⟩
 ·exact yw hu pins s σ H x y v u Q I rx ry h
 ·cases ry
  exact BZ (by lia) I g rx fun s' I' => ⟨.bl _, H, I', rfl, q⟩
theorem pG (hu : X.A.units + 64 < cLine) : OpR X (compareOp .NotIn) (EU X.K true) := by
 intro pins s σ H x y v u Q I rx ry h
 rcases h with h | ⟨a, o, rfl, g, q⟩
 ·exact rT hu pins s σ H x y v u Q I rx ry h
 ·cases ry
  exact qt (by lia) I g rx fun s' I' => ⟨.bl _, H, I', rfl, q⟩
end
section
variable {K : W.Frag} {mg : Cu}
theorem qK {neg : Bool} {G H : Hp} {x y : V} {dx dy : PyData} {b : Bool} {Q : VK} (hg : Same G H) (h1 : Dt K G x dx) (h2 : Dt K G y dy) (e : inB2 dx dy = some b) (q : Q (.bl (if neg then !b else b)) H) : EU K neg x y H Q := by
 unfold inB2 at e
 split at e
 next es =>
  obtain ⟨k, ek, rfl⟩ := Option.map_eq_some_iff.mp e
  cases h2 with
  | dct hd hdes =>
   rename_i a kvs
   have ex : x = kV k := by
    cases h1 with
    | int i => cases ek; rfl
    | str z => cases ek; rfl
    | non => cases ek
    | bl z => cases ek
    | lst _ _ => cases ek
    | tup _ _ => cases ek
    | dct _ _ => cases ek
   subst ex
   refine .inr ⟨a, valV kvs k, rfl, DGet.k (hg _ _ hd), ?_⟩
   have e2 : (valV kvs k).isSome = es.any fun p => decide (CY p.1 = some k) := by
    rw [<- hdes.any]
    unfold valV
    rw [Option.isSome_map, Bool.eq_iff_iff, List.find?_isSome, List.any_eq_true]
   rw [e2]
   exact q
 next => exact .inl (yx hg h1 h2 e q)
theorem B2 : CW K mg dIn2 (l2 (EU K false)) := by
 intro G H vs ds res Q hg hd ho k
 unfold dIn2 at ho
 split at ho
 next x y =>
  obtain ⟨b, e, rfl⟩ := Option.map_eq_some_iff.mp ho
  obtain ⟨v, u, rfl, h1, h2⟩ := dts2 hd
  exact qK hg h1 h2 e (ans k hg (.bl _))
 next => cases ho
theorem uq : CW K mg DK (l2 (EU K true)) := by
 intro G H vs ds res Q hg hd ho k
 unfold DK at ho
 split at ho
 next x y =>
  obtain ⟨b, e, rfl⟩ := Option.map_eq_some_iff.mp ho
  obtain ⟨v, u, rfl, h1, h2⟩ := dts2 hd
  exact qK hg h1 h2 e (ans k hg (.bl _))
 next => cases ho
end
section
variable {X : Cx} {E : XK} {a b : Expr} {oa ob : Opd} {pos : Pos}
theorem ur (hu : X.A.units + 64 < cLine) (ha : SO X E a oa) (hb : SO X E b ob) (hm : behindInMarks .In b = false := by rfl) : ST X E (.Compare a [.In] [b] pos) (tstV (eOp dIn2 [oa, ob])) := fv (wg hu) B2 ha hb hm
theorem lN (hu : X.A.units + 64 < cLine) (ha : SO X E a oa) (hb : SO X E b ob) (hm : behindInMarks .NotIn b = false := by rfl) : ST X E (.Compare a [.NotIn] [b] pos) (tstV (eOp DK [oa, ob])) := fv (pG hu) uq ha hb hm
end
noncomputable def Ei (x : Int) : List Int -> List Int
 | [] => [x]
 | y :: r => if absK x <= absK y then x :: y :: r else y :: Ei x r
noncomputable def E2 (l : List Int) : List Int := l.foldr Ei []
theorem gb (x : Int) : ∀ l, (Ei x l).Perm (x :: l)
 | [] => .refl _
 | y :: r => by
  unfold Ei
  split
  ·exact .refl _
  ·exact ((gb x r).cons y).trans (.swap x y r)
theorem bI : ∀ l, (E2 l).Perm l
 | [] => .refl _
 | x :: r => (gb x (E2 r)).trans ((bI r).cons x)
theorem j9 (x : Int) : ∀ l : List Int, l.Pairwise (fun a b => absK a <= absK b) -> (Ei x l).Pairwise (fun a b => absK a <= absK b)
 | [], _ => List.pairwise_cons.mpr ⟨fun _ h => absurd h (by simp), .nil⟩
 | y :: r, h => by
  unfold Ei
  obtain ⟨h1, h2⟩ := List.pairwise_cons.mp h
  split
  next hx => exact List.pairwise_cons.mpr ⟨fun z hz => by
   rcases List.mem_cons.mp hz with rfl | hz
   ·exact hx
   ·exact Int.le_trans hx (h1 z hz), h⟩
  next hx => exact List.pairwise_cons.mpr ⟨fun z hz => by
   rcases List.mem_cons.mp ((gb x r).mem_iff.mp hz) with rfl | hz
   ·lia
   ·exact h1 z hz, j9 x r h2⟩
theorem fz : ∀ l : List Int, (E2 l).Pairwise (fun a b => absK a <= absK b)
 | [] => .nil
 | x :: r => j9 x _ (fz r)
noncomputable def DY (l : List Int) : Bool := decide (l.Pairwise fun a b => absK a ≠ absK b)
theorem mG {l : List Int} (h : DY l = true) : ∀ a ∈ l, ∀ b ∈ l, absK a = absK b -> a = b := by
 have h := of_decide_eq_true h
 intro a ha b hb e
 obtain ⟨i, hi, rfl⟩ := List.getElem_of_mem ha
 obtain ⟨j, hj, rfl⟩ := List.getElem_of_mem hb
 rw [List.pairwise_iff_getElem] at h
 rcases Nat.lt_trichotomy i j with z | z | z
 ·exact absurd e (h i j hi hj z)
 ·subst z; rfl
 ·exact absurd e.symm (h j i hj hi z)
theorem pH {r l : List Int} (ha : DY l = true) (hp : r.Perm l) (hr : r.Pairwise (fun a b => absK a <= absK b)) : r = E2 l :=
 (hp.trans (bI l).symm).eq_of_pairwise (le := fun a b => absK a <= absK b) (fun a b h1 h2 h3 h4 => mG ha a (hp.mem_iff.mp h1) b ((bI l).mem_iff.mp h2) (Int.le_antisymm h3 h4)) hr (fz l)
noncomputable def DZ : Ct -> Option SD
 | [.list xs] => if xs.length < 64 then (match CV xs with
  | some ns => if DY ns = true then some (.ol ((E2 ns).map PyData.int)) else none
  | none => none) else none
 | _ => none
section
variable {X : Cx} {E : XK} {e : Expr} {o : Opd} {p pos pk kp : Pos}
theorem pI (hm : X.mg "sorted" = none) (hm2 : X.mg "abs" = none) (ha : SO X E e o) (hg : Gl X "sorted" := by rfl) (hg2 : Gl X "abs" := by rfl) (hst : starEach [e] X.env = [(false, eval e X.env)] := by rfl)
  (hkws : backToKw pos (keywordEach [⟨some "key", .Name "abs" pk, kp⟩] X.env) = [((some (Str.ofString "key") : Option Str), do let v <- eval (.Name "abs" pk) X.env; standAt pos; pure v)] := by rfl) :
  SE X E (.Call (.Name "sorted" p) [e] [⟨some "key", .Name "abs" pk, kp⟩] pos) (eOp DZ [o]) := by
 have main : PE X (.Call (.Name "sorted" p) [e] [⟨some "key", .Name "abs" pk, kp⟩] pos) (fun σ H Q => tOs X.K X.mg E [o] σ H fun vs H1 => ∃ a ns, vs = [.ref a] /\ SqL X.K H1 a (ns.map V.int) /\ ns.length < 64 /\ ∀ (ns' : List Int) D, ns'.Perm ns -> ns'.Pairwise (fun a b => absK a <= absK b) -> H1 D = none -> Q (.ref D) (upd H1 D (.lst (ns'.map V.int)))) := by
  intro pins s σ H Q I h
  refine wpAny_Call_Name_kw (fP I hg hm boot_sorted ?_ (by decide) (by decide))
  have hA := aa ha (aj (X := X) (E := E)) hst
  refine callWith_kw (thn (hA pos pins s σ H _ I h) fun us s1 h1 => ?_) (by rw [hst]; rfl) (by rw [hst]; rfl) (by rw [hkws]; rfl) (by rw [hkws]; rfl)
  obtain ⟨vs, H1, I1, r1, a, ns, rfl, hsq, h64, q⟩ := h1
  obtain ⟨u, rfl, ru⟩ := vals1 r1
  cases (show u = Value.ref a from ru)
  rw [hkws]
  refine wpAny_evalAll_cons (wpAny_bind (fP I1 hg2 hm2 boot_abs (wpAny_bind (wpAny_standAt (wpAny_pure (wpAny_evalAll_nil ?_)))) (by decide) (by decide)))
  show wpAny _ X.A (call (.builtin "sorted") [.ref a] [(Str.ofString "key", .builtin "abs")]) _ _ s1
  obtain ⟨its, rv, pl, hz⟩ := I1.list hsq
  have hi := bZ rv
  have hil : its.length = ns.length := by rw [<- rv.length, List.length_map]
  refine pE pl.isList hi (by lia) fun D h' tk out c hD keep ho hout => ?_
  obtain ⟨ns', i1, i2, i3⟩ := uo hi hout
  refine ⟨.ref D, _, I1.laid (t' := tk) keep hD ?_, rfl, q ns' D i2 i3 (I1.hok.fresh hD)⟩
  refine ⟨?_, out.toList, c, dH i1, by simpa using ho⟩
  rw [List.length_map, i2.length_eq]
  exact Nat.le_trans (Nat.le_of_lt h64) (by decide)
 refine main.weak fun σ H Q h => ia (r := fun vs H1 Q => ∃ a ns, vs = [.ref a] /\ SqL X.K H1 a (ns.map V.int) /\ ns.length < 64 /\ ∀ (ns' : List Int) D, ns'.Perm ns -> ns'.Pairwise (fun a b => absK a <= absK b) -> H1 D = none -> Q (.ref D) (upd H1 D (.lst (ns'.map V.int)))) (fun G H vs ds res Q hg hd ho k => ?_) h
 unfold DZ at ho
 split at ho
 next xs =>
  split at ho
  next hl =>
   split at ho
   next ns en =>
    split at ho
    next hap =>
     cases ho
     obtain ⟨x, rfl, h1⟩ := dts1 hd
     cases h1 with
     | lst q r =>
      have e2 := cV r en
      subst e2
      have hlen := r.len
      rw [List.length_map] at hlen
      refine ⟨_, ns, rfl, (hg.sqr q).sq, by lia, fun ns' D h1 h2 hp => ?_⟩
      rw [pH hap h1 h2]
      exact k _ _ _ (.laidO hg hp) (fX hg hp (Dts.ints _))
    next => cases ho
   next => cases ho
  next => cases ho
 next => cases ho
end
section
variable {X : Cx} {E : XK} {a b : Expr} {oa ob : Opd} {p p2 pos pos2 : Pos}
end
theorem wj {P : Program} {w : World} {K : W.Frag} {mg : Cu} {base : Heap} {k : Nat} {f : Addr} {fd : FuncData} (ps : List Str) : FnOk P w K mg base (CXe P w) k f fd ps (spD K mg fun _ => .bad) :=
 ⟨fun vs H Q E h => let ⟨_, _, _, _, m⟩ := h; m.elim, fun A outer s H args us vs Q E _ _ _ _ h => let ⟨_, _, _, _, m⟩ := h; m.elim⟩
structure LamQ (K : W.Frag) (qn : Str) (cdv : Value) (c P : Addr) : Prop where
 k : LamK K cdv c P
 q : qn ++ ".<locals>." ++ "<lambda>" = Tabs.qual
section
variable {X : Cx} {E : XK} {F : List Nat} {scope sc0 : Scope} {N0 : List Str} {a qn : Str} {params : Arguments} {body e : Expr} {te : DE} {o : Opd} {c P : Addr} {p pos lp cp k1 k2 : Pos} {j k : Nat}
theorem wk (k : Nat) (hok : DF N0 sc0 a scope = true) (hF : Dg N0 scope = F) (hr : Room (k + 2) X.A) (hP : LamQ X.K qn X.env.code c P) (bm : Bm X.mg X.base) (hm : X.mg "min" = none) (ha : SO X E e o)
  (he : ∀ (L f : Addr) (c' : Addr) (cl : List (Str × Addr)) (s : Shared) (H : Hp), Room k (Ed X X.A.in1 (a :: CB scope) Tabs.qual scope L f (.ref c') cl s H).A -> PE (Ed X X.A.in1 (a :: CB scope) Tabs.qual scope L f (.ref c') cl s H) body (tE X.K X.mg E0 te))
  (hco : scope.isCoroutine = false := by rfl) (hgen : scope.isGenerator = false := by rfl) (hN : X.N = N0 := by rfl) (hsc : X.env.scope = sc0 := by rfl) (hq : X.env.qual = qn ++ ".<locals>." := by rfl)
  (hdef : defaultsOf params X.env = ([], []) := by rfl)
  (hb : ∀ (cl : List (Str × Addr)) (pm ctv : Value) (c' : Addr) (u : Value), bindArgs (W.kla_fn "<lambda>" Tabs.qual params body scope cl pm (.ref c') ctv) ⟨[u], []⟩ = pure [(a, u)] := by intros; rfl)
  (hcm : X.calm = true := by rfl) (hg : Gl X "min" := by rfl) (hst : starEach [e] X.env = [(false, eval e X.env)] := by rfl)
  (hkws : backToKw pos (keywordEach [⟨some "key", .Lambda params body scope lp, k1⟩, ⟨some "default", .Constant .none j cp, k2⟩] X.env) = [((some (Str.ofString "key") : Option Str), do let v <- eval (.Lambda params body scope lp) X.env; standAt pos; pure v), (some (Str.ofString "default"), do let v <- eval (.Constant .none j cp) X.env; standAt pos; pure v)] := by rfl) :
  SE X E (.Call (.Name "min" p) [e] [⟨some "key", .Lambda params body scope lp, k1⟩, ⟨some "default", .Constant .none j cp, k2⟩] pos) (eMin F o te) := by
 subst hF
 exact yC (k := k) (rX hok hco hgen hN hsc) hr hP.k (by rw [hq]; exact hP.q) bm hdef hb hm ha he hcm hg hst hkws
end
end L2
namespace L2
open PySem PySem.Spec PyProof.Rows
structure FL (X : Cx) (x : Str) (F : List Nat) (N : List Str) (scope : Scope) : Prop where
 kind : scope.kind = .function
 c1 : ∀ n cl, cellsFrom n scope.names cl = (x, n) :: cl
 c2 : ∀ h, pushCells h scope.names = h.push { cls := .type "cell", data := .cell none }
 only : ∀ y ∈ scope.names, y.2 = .cell -> y.1 = x
 loc : ∀ y ∈ scope.names, y.2 = .local -> scope.names.lookup y.1 = some .local
 fkind : X.env.scope.kind = .function
 free : ∀ y ∈ scope.names, y.2 = .free -> X.env.kindOf y.1 = some .cell \/ X.env.kindOf y.1 = some .free
 names : ∀ (i : Nat) y, N[i]? = some y -> (i < 1 \/ (y ≠ x /\ ∃ j, F[i - 1]? = some j /\ X.N[j]? = some y /\ Vis X.env.scope y /\ ∀ k, (relabel scope X.env).names.lookup y = some k -> k = .cell \/ k = .free))
 len : N.length = 1 + F.length
section
variable {X : Cx} {pins : Cv} {σ : St} {H : Hp} {s : Shared} {N : List Str} {F : List Nat} {scope : Scope} {cl : List (Str × Addr)} {fp : List Addr} {x : Str}
end
section
variable {X : Cx} {x xo : Str} {N : List Str} {F : List Nat} {scope : Scope} {tg elt iter : Expr} {wi : TI} {g : TG} {tc : TT} {te : TE} {pos : Pos} {ifs : List Expr}
end
variable [Tabs]
section
variable {X : Cx} {E : XK} {N0 : List Str} {sc0 scope : Scope} {x : Str} {elt iter : Expr} {ifs : List Expr} {fc : DC} {tc : DT} {te : DE} {pos px : Pos} {F : List Nat}
end
abbrev Pl := List (List Key × Int)
noncomputable def D5 (pl : Pl) : List (List Key × V) := pl.map fun q => (q.1, V.int q.2)
noncomputable def DB (pl : Pl) (k : List Key) : Option Int := (pl.find? fun q => decide (q.1 = k)).map (·.2)
noncomputable def Dm (pl : Pl) (k : List Key) (i : Int) : Pl :=
 if (pl.any fun q => decide (q.1 = k)) = true then pl.map (fun q => if q.1 = k then (q.1, i) else q) else pl ++ [(k, i)]
theorem mH (k : List Key) : ∀ pl : Pl, valV (D5 pl) k = (DB pl k).map V.int
 | [] => rfl
 | q :: r => by
  by_cases e : q.1 = k
  ·rw [show D5 (q :: r) = (q.1, V.int q.2) :: D5 r from rfl, fR e]
   simp [DB, List.find?_cons, e]
  ·rw [show D5 (q :: r) = (q.1, V.int q.2) :: D5 r from rfl, fT e, mH k r]
   simp [DB, List.find?_cons, e]
theorem wm (pl : Pl) (k : List Key) (i : Int) : putK (D5 pl) k (.int i) = D5 (Dm pl k i) := by
 unfold putK Dm
 have e : ((D5 pl).any fun kv => decide (kv.1 = k)) = pl.any fun q => decide (q.1 = k) := by
  unfold D5; rw [List.any_map]; rfl
 rw [e]
 split
 ·unfold D5
  rw [List.map_map, List.map_map]
  apply List.map_congr_left
  intro q _
  simp only [Function.comp]
  split <;> rfl
 ·simp [D5]
theorem lO (pl : Pl) (k : List Key) (i : Int) : DB (Dm pl k i) k = some i := by
 unfold Dm
 split
 next h =>
  induction pl with
  | nil => simp at h
  | cons q r ih =>
   by_cases e : q.1 = k
   ·simp [DB, List.find?_cons, e]
   ·have h' : (r.any fun q => decide (q.1 = k)) = true := by simpa [e] using h
    have := ih h'
    unfold DB at this ⊢
    rw [List.map_cons, if_neg e, List.find?_cons_of_neg (by simpa using e)]
    exact this
 next h =>
  have hn : pl.find? (fun q => decide (q.1 = k)) = none := by
   rw [List.find?_eq_none]
   intro q hq z
   exact h (List.any_eq_true.mpr ⟨q, hq, z⟩)
  unfold DB
  rw [List.find?_append, hn]
  simp
theorem mI (pl : Pl) (k : List Key) (i : Int) : (Dm pl k i).length <= pl.length + 1 := by
 unfold Dm
 split <;> simp
noncomputable def EC : Ct -> Option (List Key)
 | [] => some []
 | d :: r => match CY d with
  | some k => (EC r).map (k :: ·)
  | none => none
noncomputable def EM : PyData -> Option (List Key)
 | .tuple ds => EC ds
 | _ => none
noncomputable def Ej (s : PyData) (k : List Key) (r : PyData) (st : Ct) (pl : Pl) : Option (Int × Ct × Pl) :=
 if st.length < sizeLine /\ pl.length < sizeLine then some (st.length, st ++ [.tuple [s, r]], Dm pl k st.length) else none
noncomputable def layD : Nat -> PyData -> Ct -> Pl -> Option (Int × Ct × Pl)
 | 0, _, _, _ => none
 | n + 1, d, st, pl => match d with
  | .tuple [s, r] => match EM s with
   | none => none
   | some k => match DB pl k with
    | some i => some (i, st, pl)
    | none => match r with
     | .tuple [a, b] => (layD n a st pl).bind fun x => (layD n b x.2.1 x.2.2).bind fun y => Ej s k (.tuple [.int x.1, .int y.1]) y.2.1 y.2.2
     | .tuple rs => Ej s k (.tuple rs) st pl
     | _ => none
  | _ => none
structure Dq (s p : Addr) (G H G' H' : Hp) : Prop where
 at_ : ∀ b o, b ≠ s -> b ≠ p -> H b = some o -> H' b = some o
 gg : Same G G'
 gh : Same G' H'
 nb : ∀ b, H b ≠ none -> G' b = G b
 nt : NoT G -> NoT G'
noncomputable def DN (K : W.Frag) (φ : PyData -> Ct -> Pl -> Option (Int × Ct × Pl)) : Sp := fun vs H Q _ =>
 ∃ (G : Hp) (vp : V) (d : PyData) (s p : Addr) (xs : List V) (st : Ct) (pl : Pl) (r : Int × Ct × Pl),
  vs = [vp, .ref s, .ref p] /\ Same G H /\ Dt K G vp d /\ G s = none /\ G p = none /\ H s = some (.lst xs) /\ Dts K G xs st /\ H p = some (.dT (D5 pl)) /\ φ d st pl = some r /\
  ∀ H' G' xs', Dq s p G H G' H' -> H' s = some (.lst xs') -> Dts K G' xs' r.2.1 -> H' p = some (.dT (D5 r.2.2)) -> Q (.int r.1) H'
theorem nZ {K : W.Frag} {G : Hp} : ∀ {vs : List V} {ds : Ct} {k : List Key}, Dts K G vs ds -> EC ds = some k -> vs = k.map kV
 | _, _, _, .nil, e => by cases e; rfl
 | _, _, _, .cons (d := d) h r, e => by
  unfold EC at e
  split at e
  next j hj =>
   obtain ⟨k', e1, rfl⟩ := Option.map_eq_some_iff.mp e
   rw [p8 h hj, nZ r e1]
   rfl
  next => cases e
theorem wo {K : W.Frag} {G H : Hp} {v : V} {d : PyData} {k : List Key} (h : Dt K G v d) (hg : Same G H) (e : EM d = some k) : ∃ b, v = .ref b /\ H b = some (.tup (k.map kV)) := by
 cases h with
 | tup q r => exact ⟨_, rfl, by rw [hg _ _ q, nZ r e]⟩
 | _ => cases e
theorem Dq.ne {s p : Addr} {G H G' H' : Hp} (g : Dq s p G H G' H') (h1 : H' s ≠ none) (h2 : H' p ≠ none) {b : Addr} (h : H b ≠ none) : H' b ≠ none := by
 by_cases hs : b = s
 ·rw [hs]; exact h1
 ·by_cases hp : b = p
  ·rw [hp]; exact h2
  ·cases q : H b with
   | none => exact absurd q h
   | some o => rw [g.at_ b o hs hp q]; simp
theorem Dq.trans {s p : Addr} {G H G1 H1 G2 H2 : Hp} (a : Dq s p G H G1 H1) (c : Dq s p G1 H1 G2 H2) (h1 : H1 s ≠ none) (h2 : H1 p ≠ none) : Dq s p G H G2 H2 :=
 ⟨fun b o hs hp e => c.at_ b o hs hp (a.at_ b o hs hp e), a.gg.trans c.gg, c.gh, fun b h => (c.nb b (a.ne h1 h2 h)).trans (a.nb b h), fun n => c.nt (a.nt n)⟩
theorem Dq.refl {s p : Addr} {G H : Hp} (h : Same G H) : Dq s p G H G H := ⟨fun _ _ _ _ e => e, .refl _, h, fun _ _ => rfl, id⟩
theorem Dq.laid {s p q : Addr} {G H : Hp} {xs : List V} (h : Same G H) (hq : H q = none) : Dq s p G H (upd G q (.tup xs)) (upd H q (.tup xs)) :=
 let g := Grow.laid (o := .tup xs) h hq
 ⟨fun b o _ _ e => by rw [ag (aq e hq)]; exact e, g.gg, g.gh, g.nb, g.nt⟩
theorem Dq.write {s p q : Addr} {G H : Hp} {o : HO} (h : Same G H) (hq : q = s \/ q = p) (hG : G q = none) : Dq s p G H G (upd H q o) :=
 ⟨fun b u h1 h2 e => by rw [ag (by rcases hq with rfl | rfl <;> assumption)]; exact e, .refl _, fun b u e => by
  rw [ag (fun z => by rw [z, hG] at e; cases e)]; exact h b u e, fun _ _ => rfl, id⟩
noncomputable def Fh (K : W.Frag) : List V -> Hp -> VK -> Prop := fun xs H Q => ∃ p ys, xs = [.ref p] /\ (SqL K H p ys \/ SqT K H p ys) /\ Q (.int ys.length) H
noncomputable def tLay (K : W.Frag) (sp : Sp) (E : XK) : TS :=
 tSeq (tAsg (tOp (rIxT K) (tVar 0) (tC (.int 0))) (Df 3))
 (tSeq (tIfS (tB (EX (tVar 3) (tVar 2)))
  (tSeq (tAsg (tOp (rIxT K) (tVar 0) (tC (.int 1))) (Df 4))
  (tSeq (tIfS (Fm (tOp rEq (tCB (Fh K) (D8 (tVar 4) tNil)) (tC (.int 2))))
    (tSeq (tAsg (tTup (D8 (EE sp [] E (D8 (tOp (rIxT K) (tVar 4) (tC (.int 0))) (D8 (tVar 1) (D8 (tVar 2) tNil)))) (D8 (EE sp [] E (D8 (tOp (rIxT K) (tVar 4) (tC (.int 1))) (D8 (tVar 1) (D8 (tVar 2) tNil)))) tNil))) (Df 4)) E9) E9)
  (tSeq (F7 (tVar 2) (tVar 3) (tCB (Fh K) (D8 (tVar 1) tNil)))
  (tSeq (ET (tBM K "list" En (tVar 1) (D8 (tTup (D8 (tVar 3) (D8 (tVar 4) tNil))) tNil))) E9)))) E9)
 (tSeq (tRet (F6 (tVar 2) (tVar 3))) E9))
theorem qL {K : W.Frag} {sp : Sp} {E : XK} {Q : VK} {G H : Hp} {vp vr : V} {s p b : Addr} {xs : List V} {ds dr : PyData} {k : List Key} {st : Ct} {pl : Pl} {r : Int × Ct × Pl} (hg : Same G H) (hb : G b = some (.tup (k.map kV))) (hd : Dt K G (.ref b) ds) (hr : Dt K G vr dr) (hGs : G s = none) (hGp : G p = none) (hs : H s = some (.lst xs)) (hx : Dts K G xs st) (hp : H p = some (.dT (D5 pl)))
  (e : Ej ds k dr st pl = some r)
  (q : ∀ H' G' xs', Dq s p G H G' H' -> H' s = some (.lst xs') -> Dts K G' xs' r.2.1 -> H' p = some (.dT (D5 r.2.2)) -> Q (.int r.1) H') :
  (tSeq (F7 (tVar 2) (tVar 3) (tCB (Fh K) (D8 (tVar 1) tNil)))
  (tSeq (ET (tBM K "list" En (tVar 1) (D8 (tTup (D8 (tVar 3) (D8 (tVar 4) tNil))) tNil))) E9)) { nx := (tSeq (tRet (F6 (tVar 2) (tVar 3))) E9) { nx := fun _ H' => Q .non H', rt := Q }, rt := Q } [some vp, some (.ref s), some (.ref p), some (.ref b), some vr] H := by
 unfold Ej at e
 split at e
 next hl =>
  cases e
  have hbH : H b = some (.tup (k.map kV)) := hg _ _ hb
  have nsp : s ≠ p := kP hs hp (fun z => nomatch z)
  have nbs : b ≠ s := kP hbH hs (fun z => nomatch z)
  have nbp : b ≠ p := kP hbH hp (fun z => nomatch z)
  refine ⟨.ref s, rfl, s, xs, rfl, .inl (.of hs), .ref p, rfl, .ref b, rfl, p, _, rfl, DPut.t hp hbH (by unfold D5; rw [List.length_map]; exact hl.2), ?_⟩
  rw [hx.len, wm]
  have g1 : Dq s p G H G (upd H p (.dT (D5 (Dm pl k st.length)))) := .write hg (.inr rfl) hGp
  have hs1 : upd H p (.dT (D5 (Dm pl k st.length))) s = some (.lst xs) := by rw [ag nsp]; exact hs
  have hb1 : upd H p (.dT (D5 (Dm pl k st.length))) b = some (.tup (k.map kV)) := by rw [ag nbp]; exact hbH
  have hp1 : upd H p (.dT (D5 (Dm pl k st.length))) p = some (.dT (D5 (Dm pl k st.length))) := ao
  generalize upd H p (.dT (D5 (Dm pl k st.length))) = H1 at g1 hs1 hb1 hp1 ⊢
  refine ⟨.ref s, rfl, .inl ⟨rfl, xs, .inl (.inl hs1)⟩, .ref b, rfl, vr, rfl, by show 2 <= sizeLine; decide, fun c hc => ?_⟩
  have g2 : Dq s p G H1 (upd G c (.tup [.ref b, vr])) (upd H1 c (.tup [.ref b, vr])) := .laid g1.gh hc
  have sG : Same G (upd G c (.tup [.ref b, vr])) := g2.gg
  have dc : Dt K (upd G c (.tup [.ref b, vr])) (.ref c) (.tuple [ds, dr]) := .tup ao (.cons (hd.mono sG) (.cons (hr.mono sG) .nil))
  have ncs : c ≠ s := (aq hs1 hc).symm
  have ncp : c ≠ p := (aq hp1 hc).symm
  have hs2 : upd H1 c (.tup [.ref b, vr]) s = some (.lst xs) := by rw [ag ncs.symm]; exact hs1
  have hp2 : upd H1 c (.tup [.ref b, vr]) p = some (.dT (D5 (Dm pl k st.length))) := by rw [ag ncp.symm]; exact hp1
  have hb2 : upd H1 c (.tup [.ref b, vr]) b = some (.tup (k.map kV)) := by rw [ag (aq hb1 hc)]; exact hb1
  have hx2 := hx.mono sG
  have hGs2 : upd G c (.tup [.ref b, vr]) s = none := by rw [ag ncs.symm]; exact hGs
  have g12 := g1.trans g2 (by rw [hs1]; simp) (by rw [hp1]; simp)
  generalize upd H1 c (.tup [.ref b, vr]) = H2 at g2 hs2 hp2 hb2 g12 ⊢
  generalize upd G c (.tup [.ref b, vr]) = G2 at g2 sG dc hx2 hGs2 g12 ⊢
  refine ⟨s, xs, .ref c, rfl, rfl, hs2, by rw [hx.len]; exact hl.1, ?_⟩
  have g3 : Dq s p G2 H2 G2 (upd H2 s (.lst (xs ++ [.ref c]))) := .write g12.gh (.inl rfl) hGs2
  have g13 := g12.trans g3 (by rw [hs2]; simp) (by rw [hp2]; simp)
  have hp3 : upd H2 s (.lst (xs ++ [.ref c])) p = some (.dT (D5 (Dm pl k st.length))) := by rw [ag nsp.symm]; exact hp2
  have hb3 : upd H2 s (.lst (xs ++ [.ref c])) b = some (.tup (k.map kV)) := by rw [ag nbs]; exact hb2
  refine ⟨.ref p, rfl, .ref b, rfl, p, .int st.length, rfl, ?_, q _ G2 _ g13 ao (hx2.append (.cons dc .nil)) hp3⟩
  have e := DGet.t hp3 hb3
  rw [mH, lO] at e
  exact e
 next => cases e
theorem sf {K : W.Frag} {E : XK} {Q : VK} {H : Hp} {vs : List V} {N : List Str} {n : Nat} (hN : N.length = 5) (h : DN K (layD (n + 1)) vs H Q E) : tLay K (DN K (layD n)) E { nx := fun _ H' => Q .non H', rt := Q } (start N vs) H := by
 obtain ⟨G, vp, d, s, p, xs, st, pl, r, rfl, hg, hd, hGs, hGp, hs, hx, hp, e, q⟩ := h
 have eσ : start N [vp, .ref s, .ref p] = [some vp, some (.ref s), some (.ref p), none, none] := by
  unfold start; rw [hN]; rfl
 rw [eσ]
 unfold layD at e
 split at e
 next ds dr =>
  split at e
  next => cases e
  next k ek =>
   obtain ⟨a, ws, rfl, qa, hw⟩ : ∃ a ws, vp = .ref a /\ G a = some (.tup ws) /\ Dts K G ws [ds, dr] := by
    cases hd with | tup q1 q2 => exact ⟨_, _, rfl, q1, q2⟩
   obtain ⟨v1, v2, rfl, h1, h2⟩ := dts2 hw
   obtain ⟨b, rfl, hb⟩ := wo h1 (.refl G) ek
   have hbH : H b = some (.tup (k.map kV)) := hg _ _ hb
   have g0 := DGet.t hp hbH
   rw [mH] at g0
   refine ⟨.ref a, rfl, a, _, 0, .ref b, rfl, rfl, .of (hg _ _ qa), rfl, .ref b, rfl, .ref p, rfl, p, _, rfl, g0, _, rfl, ?_⟩
   split at e
   next i hi =>
    cases e
    rw [hi] at g0 ⊢
    exact ⟨.ref p, rfl, .ref b, rfl, p, .int i, rfl, g0, q H G xs (.refl hg) hs hx hp⟩
   next hi =>
    rw [hi]
    refine ⟨.ref a, rfl, a, _, 1, v2, rfl, rfl, .of (hg _ _ qa), rfl, v2, rfl, ?_⟩
    show (∃ _ _, _)
    split at e
    next da db =>
     obtain ⟨c, ys, rfl, qc, hy⟩ : ∃ c ys, v2 = .ref c /\ G c = some (.tup ys) /\ Dts K G ys [da, db] := by
      cases h2 with | tup q1 q2 => exact ⟨_, _, rfl, q1, q2⟩
     obtain ⟨u1, u2, rfl, hu1, hu2⟩ := dts2 hy
     have qcH : H c = some (.tup [u1, u2]) := hg _ _ qc
     obtain ⟨x, ex, e⟩ := Option.bind_eq_some_iff.mp e
     obtain ⟨y, ey, e⟩ := Option.bind_eq_some_iff.mp e
     refine ⟨c, [u1, u2], rfl, .inr (.of qcH), rfl, true, rfl, ?_⟩
     show (∃ _, _)
     refine ⟨.ref c, rfl, c, _, 0, u1, rfl, rfl, .of qcH, rfl, .ref s, rfl, .ref p, rfl, G, u1, da, s, p, xs, st, pl, x, rfl, hg, hu1, hGs, hGp, hs, hx, hp, ex, fun H1 G1 xs1 g1 hs1 hx1 hp1 => ?_⟩
     have ncs : c ≠ s := kP qcH hs (fun z => nomatch z)
     have ncp : c ≠ p := kP qcH hp (fun z => nomatch z)
     have qc1 : H1 c = some (.tup [u1, u2]) := g1.at_ _ _ ncs ncp qcH
     have hs0 : H s ≠ none := by rw [hs]; simp
     have hp0 : H p ≠ none := by rw [hp]; simp
     refine ⟨.ref c, rfl, c, _, 1, u2, rfl, rfl, .of qc1, rfl, .ref s, rfl, .ref p, rfl, G1, u2, db, s, p, xs1, x.2.1, x.2.2, y, rfl, g1.gh, hu2.mono g1.gg, (g1.nb s hs0).trans hGs, (g1.nb p hp0).trans hGp, hs1, hx1, hp1, ey, fun H2 G2 xs2 g2 hs2 hx2 hp2 => ?_⟩
     refine ⟨by show 2 <= sizeLine; decide, fun t ht => ?_⟩
     have g12 := g1.trans g2 (by rw [hs1]; simp) (by rw [hp1]; simp)
     have g3 : Dq s p G2 H2 (upd G2 t (.tup [.int x.1, .int y.1])) (upd H2 t (.tup [.int x.1, .int y.1])) := .laid g12.gh ht
     have g13 := g12.trans g3 (by rw [hs2]; simp) (by rw [hp2]; simp)
     have nts : t ≠ s := (aq hs2 ht).symm
     have ntp : t ≠ p := (aq hp2 ht).symm
     have hs3 : upd H2 t (.tup [.int x.1, .int y.1]) s = some (.lst xs2) := by rw [ag nts.symm]; exact hs2
     have hp3 : upd H2 t (.tup [.int x.1, .int y.1]) p = some (.dT (D5 y.2.2)) := by rw [ag ntp.symm]; exact hp2
     exact qL (sp := DN K (layD n)) (E := E) (vp := .ref a) g13.gh (g13.gg _ _ hb) (h1.mono g13.gg) (.tup (g3.gg.trans (.refl _) |> fun _ => ao) (.cons (.int _) (.cons (.int _) .nil))) ((g13.nb s hs0).trans hGs) ((g13.nb p hp0).trans hGp) hs3 (hx2.mono g3.gg) hp3 e
      fun H' G' xs' g4 a1 a2 a3 => q H' G' xs' (g13.trans g4 (by rw [hs3]; simp) (by rw [hp3]; simp)) a1 a2 a3
    next rs nr =>
     obtain ⟨c, ys, rfl, qc, hy⟩ : ∃ c ys, v2 = .ref c /\ G c = some (.tup ys) /\ Dts K G ys rs := by
      cases h2 with | tup q1 q2 => exact ⟨_, _, rfl, q1, q2⟩
     have qcH : H c = some (.tup ys) := hg _ _ qc
     have hl : (ys.length : Int) ≠ 2 := fun z => by
      have : rs.length = 2 := by rw [<- hy.len]; lia
      match rs, this with
      | [a, b], _ => exact nr a b rfl
     refine ⟨c, ys, rfl, .inr (.of qcH), rfl, false, by simp [hl], ?_⟩
     exact qL (sp := DN K (layD n)) (E := E) (vp := .ref a) hg hb h1 h2 hGs hGp hs hx hp e q
    next => cases e
 next => cases e
noncomputable def ED (n : Nat) : Ct -> Out SD
 | [d] => match layD n d [] [] with
  | some r => .ok (.ol r.2.1)
  | none => .bad
 | _ => .bad
noncomputable def Fy (sp : Sp) (E : XK) : TS :=
 tSeq (tAsg (tLst tNil) (Df 1)) (tSeq (ET (EE sp [] E (D8 (tVar 0) (D8 (tVar 1) (D8 F8 tNil))))) (tSeq (tRet (tVar 1)) E9))
theorem pJ {K : W.Frag} {mg : Cu} {E : XK} {Q : VK} {H : Hp} {vs : List V} {N : List Str} {n : Nat} (hN : N.length = 2) (h : spD K mg (ED n) vs H Q E) : Fy (DN K (layD n)) E { nx := fun _ H' => Q .non H', rt := Q } (start N vs) H := by
 obtain ⟨G, ds, ⟨hg, hnt, htb⟩, hd, m⟩ := h
 unfold ED at m
 split at m
 next d =>
  obtain ⟨v, rfl, h1⟩ := dts1 hd
  split at m
  next r er =>
   have eσ : start N [v] = [some v, none] := by
    unfold start; rw [hN]; rfl
   rw [eσ]
   refine ⟨Nat.zero_le _, fun s hs => ⟨v, rfl, .ref s, rfl, fun p hp => ⟨G, v, d, s, p, [], [], [], r, rfl, ?_, h1, hg.free hs, ?_, ?_, .nil, ao, er, fun H' G' xs' g a1 a2 a3 => ⟨.ref s, rfl, ?_⟩⟩⟩⟩
   ·exact (hg.trans (aA hs)).trans (aA hp)
   ·exact (hg.trans (aA hs)).free hp
   ·rw [ag (aq ao hp)]; exact ao
   ·have sH : Same H H' := fun b o e => by
     have n1 : b ≠ s := aq e hs
     have n2 : b ≠ p := aq ((aA hs) b o e) hp
     exact g.at_ b o n1 n2 (by rw [ag n2, ag n1]; exact e)
    refine m (.ref s) H' G' ⟨.of_same sH, g.gg, g.gh, fun b hb => g.nb b ?_, g.nt⟩ ⟨⟨s, xs', rfl, ?_, a1, a2⟩, fun _ a e => by cases e; exact hs⟩
    ·cases q : H b with
     | none => exact absurd q hb
     | some o => rw [ag (aq ((aA hs) b o q) hp), ag (aq q hs), q]; simp
    ·refine (g.nb s ?_).trans (hg.free hs)
     rw [ag (aq ao hp), ao]; simp
  next => exact m.elim
 next => exact m.elim
theorem qM {K : W.Frag} {vs : List V} {H : Hp} {Q : VK} {E : XK} (h : DN K (layD 0) vs H Q E) : False := by
 obtain ⟨_, _, _, _, _, _, _, _, _, _, _, _, _, _, _, _, _, e, _⟩ := h
 cases e
theorem uu {P : Program} {w : World} {K : W.Frag} {mg : Cu} {base : Heap} {k : Nat} {f : Addr} {fd : FuncData} (ps : List Str) : FnOk P w K mg base (CXe P w) k f fd ps (DN K (layD 0)) :=
 ⟨fun vs H Q E h => (qM h).elim, fun A outer s H args us vs Q E _ _ _ _ h => (qM h).elim⟩
theorem si {K : W.Frag} {φ : PyData -> Ct -> Pl -> Option (Int × Ct × Pl)} (vs : List V) (H : Hp) (Q : VK) (E : XK) (h : DN K φ vs H Q E) : vs.length = 3 := by
 obtain ⟨_, _, _, _, _, _, _, _, _, rfl, _⟩ := h
 rfl
theorem uw {K : W.Frag} {mg : Cu} {n : Nat} (vs : List V) (H : Hp) (Q : VK) (E : XK) (h : spD K mg (ED n) vs H Q E) : vs.length = 1 := by
 obtain ⟨G, ds, _, hd, m⟩ := h
 rw [hd.len]
 unfold ED at m
 split at m
 ·rfl
 ·exact m.elim
abbrev EN (P : Program) (w : World) (K : W.Frag) (mg : Cu) (base : Heap) (x : Str) (k n : Nat) : Prop := ∃ (f : Addr) (fd : FuncData) (ps : List Str), Def P w K mg base (CXe P w) x k f fd ps (DN K (layD n))
theorem lP {P : Program} {w : World} {K : W.Frag} {mg : Cu} {base : Heap} {x : Str} {st : Stmt} {f : Addr} {fd : FuncData} {ps : List Str} {k n : Nat} (A : CP K mg x st f fd) (ok : FnOk P w K mg base (CXe P w) k f fd ps (DN K (layD n)))
  (b : ∀ (kV doc pm : Value) (an : Option Addr) (cdv ct : Value) (us : List Value), us.length = ps.length -> bindArgs (W.fnOf x x (Dx st) (D7 st) (Cy st) .none kV doc pm an cdv ct) ⟨us, []⟩ = pure (ps.zip us)) : EN P w K mg base x k n :=
 ⟨f, fd, ps, ok, A.at_, A.fn.kp, A.fn.binds b⟩
theorem Dts.set' {K : W.Frag} {H : Hp} {v : V} {d : PyData} (hv : Dt K H v d) : ∀ {vs : List V} {ds : Ct} (n : Nat), Dts K H vs ds -> Dts K H (vs.set n v) (ds.set n d)
 | _, _, _, .nil => .nil
 | _, _, 0, .cons _ r => .cons hv r
 | _, _, n + 1, .cons x r => .cons x (Dts.set' hv n r)
noncomputable def setP (i : Nat) (p : Ct × DEnv × DEnv) : SOut := match isOl p.2.2 i, p.1 with
 | some ds, [d, .int k] => (match ixN ds.length k with
  | some j => .nx (p.2.2.set i (some (.ol (ds.set j d))))
  | none => .bad)
 | _, _ => .bad
noncomputable def EV (i : Nat) (ov ok : Opd) : DS := fun δ => match isOl δ i with
 | none => .bad
 | some _ => match opds [ov, ok] δ with
  | .ok p => setP i p
  | .exc x => .exc x
  | .bad => .bad
@[simp] theorem B3 (i : Nat) (d : PyData) (k : Int) (δ1 δ2 : DEnv) : setP i ([d, .int k], δ1, δ2) = match isOl δ2 i with
  | some ds => (match ixN ds.length k with
   | some j => .nx (δ2.set i (some (.ol (ds.set j d))))
   | none => .bad)
  | none => .bad := by
 unfold setP
 cases isOl δ2 i <;> rfl
@[simp] theorem B4 (i : Nat) (ov ok : Opd) (δ : DEnv) : EV i ov ok δ = match isOl δ i with
 | none => .bad
 | some _ => (opds [ov, ok] δ).elimS (setP i) := by unfold EV; cases isOl δ i <;> first | rfl | (simp only; cases opds [ov, ok] δ <;> rfl)
section
variable {X : Cx} {E : XK} {e k v : Expr} {o ov ok : Opd} {x : Str} {px apos cpos pos tpos : Pos}
theorem wq (i : Nat) (hval : SO X E v ov) (hk : SO X E k ok) (hN : X.N[i]? = some x := by rfl) (hv : Vis X.env.scope x := by first | exact Or.inl rfl | exact Or.inr (Or.inl rfl) | exact Or.inr (Or.inr rfl)) (hd : (x == ("__debug__" : Str)) = false := by decide)
  (hcd : (x == ("__classdict__" : Str)) = false := by decide) (hs : swapsWithSole [.Subscript (.Name x px) k tpos] v pos.line X.env = pure false := by rfl) (hw : swappedStores [.Subscript (.Name x px) k tpos] v X.env = pure none := by rfl)
  (h1 : (assignEach [.Subscript (.Name x px) k tpos] X.env).map (·.2) = [assign (.Subscript (.Name x px) k tpos) X.env] := by rfl)
  (ha : ∀ v, assign (.Subscript (.Name x px) k tpos) X.env v = (do
   let ov <- holding [v] (eval (.Name x px) X.env)
   let iv <- holding [v, ov] (eval k X.env)
   standAt tpos
   holding [v, ov, iv] (setItem ov iv v)
   release [v, ov, iv] []) := by intro _; rfl) : S1 X E (.Assign [.Subscript (.Name x px) k tpos] v pos) (EV i ov ok) :=
 (xF hval (xE (fO hN hv hd hcd) hk tD ha) hs hw h1).weak fun D σ H ⟨G0, H0, G, δ, R, m⟩ => by
  unfold EV at m
  cases e0 : isOl δ i with
  | none => rw [e0] at m; exact m.elim
  | some ds0 =>
   rw [e0] at m
   dsimp only at m
   obtain ⟨w, h1, ⟨a, xs, rfl, q1, q2, q3⟩, _⟩ := R.at_ (gs e0)
   have key : tOs X.K X.mg E [ov, ok] σ H fun vs H1 => ∃ y z, vs = [y, z] /\ Fn (.ref a) z y H1 fun H3 => D.nx σ H3 := by
    refine jJ R ?_
    cases e1 : opds [ov, ok] δ with
    | ok p =>
     rw [e1] at m
     dsimp only [setP] at m
     intro vs H1 G1 R1 s1 hdd
     split at m
     next es d k' e2 e3 =>
      rw [e3] at hdd
      obtain ⟨y, z, rfl, hy, hz⟩ := dts2 hdd
      obtain ⟨u, g1, ⟨b, ys, rfl, y1, y2, y3⟩, _⟩ := R1.at_ (gs e2)
      rw [h1] at g1
      cases g1
      split at m
      next j ej =>
       cases hz
       refine ⟨y, _, rfl, a, ys, k', j, rfl, rfl, y2, by rw [y3.len]; exact ej, ?_⟩
       exact m σ _ G1 (R1.write (gs e2) trivial h1 ⟨a, _, rfl, y1, ao, y3.set' hy j⟩ (by rw [y2]; trivial) (fun C z => by rw [y2] at z; cases z)) s1
      next => exact m.elim
     next => exact m.elim
    | exc x => rw [e1] at m; exact m
    | bad => rw [e1] at m; exact m
   refine ie (fun y H1 q => ?_) key
   refine ⟨.ref a, h1, ?_⟩
   exact ie (fun z H2 ⟨y', z', ee, hp⟩ => by cases ee; exact hp) q
end
noncomputable def sBad : DS := fun _ => .bad
@[simp] theorem BY (δ : DEnv) : sBad δ = .bad := rfl
section
variable {X : Cx} {E : XK} {e : Expr} {st : Stmt} {sts : List Stmt}
theorem jW : S1 X E st sBad := fun _ _ _ _ _ _ ⟨_, _, _, _, _, m⟩ => m.elim
end
section
variable {X : Cx} {E : XK} {e k v : Expr} {o ov ok : Opd} {x : Str} {px apos cpos pos tpos : Pos}
end
noncomputable def Fz (w : World) : List DictEntry -> List (Key × Int) -> Prop
 | [], [] => True
 | e :: es, p :: r => Eo p.1 e.key = true /\ e.hash = keyH w p.1 /\ (∃ t, e.val = .int p.2 t) /\ Fz w es r
 | _, _ => False
structure DctK (w : World) (K : W.Frag) (a : Addr) (kd : List (Key × Int)) : Prop where
 nsys : (a == sysModules) = false
 nd : (kd.map (·.1)).Nodup
 obj : ∃ es n, K.lookup a = some { cls := .type "dict", data := .dict es n } /\ Fz w es.toList kd
section
variable {X : Cx} {E : XK} {e k v : Expr} {o ov ok : Opd} {x : Str} {px apos cpos pos tpos : Pos}
end
section
variable {X : Cx} {E : XK} {e a k v : Expr} {o oa ov ok : Opd} {x : Str} {p px apos cpos pos tpos : Pos}
end
@[simp] theorem B5 (i : Nat) (d : PyData) (k : Str) (δ1 δ2 : DEnv) : putP i ([d, .str k], δ1, δ2) = match isOd δ2 i with
  | some es => if es.length < sizeLine then .nx (δ2.set i (some (.od (putD es (.inr k) d)))) else .bad
  | none => .bad := by
 unfold putP
 cases isOd δ2 i <;> rfl
end L2
namespace L2
open PySem PySem.Spec PyProof.Rows
abbrev Rise (l : List Nat) : Prop := l.Pairwise (· < ·)
structure LowB (xs : Array Nat) (j r : Nat) : Prop where
 le : r <= xs.size
 lo : ∀ i x, i < r -> xs[i]? = some x -> x < j
 hi : ∀ i x, r <= i -> xs[i]? = some x -> j <= x
theorem gA {xs : Array Nat} (h : Rise xs.toList) {i k x y : Nat} (hik : i < k) (hx : xs[i]? = some x) (hy : xs[k]? = some y) : x < y := by
 rw [<- Array.getElem?_toList] at hx hy
 obtain ⟨h1, e1⟩ := List.getElem?_eq_some_iff.mp hx
 obtain ⟨h2, e2⟩ := List.getElem?_eq_some_iff.mp hy
 have := List.pairwise_iff_getElem.mp h i k h1 h2 hik
 rw [e1, e2] at this
 exact this
theorem jX {xs : Array Nat} {j : Nat} (h : Rise xs.toList) : ∀ (fuel lo hi : Nat), hi <= xs.size -> lo <= hi -> hi - lo <= fuel -> (∀ i x, i < lo -> xs[i]? = some x -> x < j) -> (∀ i x, hi <= i -> xs[i]? = some x -> j <= x) -> LowB xs j (SetTable.below.go xs j fuel lo hi)
 | 0, lo, hi, h1, h2, h3, h4, h5 => by
  have e : lo = hi := by lia
  subst e
  exact ⟨h1, h4, h5⟩
 | fuel + 1, lo, hi, h1, h2, h3, h4, h5 => by
  unfold SetTable.below.go
  split
  next hlt =>
   have hm : (lo + hi) / 2 < xs.size := by lia
   have em : xs[(lo + hi) / 2]? = some xs[(lo + hi) / 2] := Array.getElem?_eq_getElem hm
   have eg : xs.getD ((lo + hi) / 2) j = xs[(lo + hi) / 2] := by simp [Array.getD, hm]
   dsimp only
   rw [eg]
   split
   next hc =>
    refine jX h fuel _ hi h1 (by lia) (by lia) (fun i x hi' hx => ?_) h5
    rcases Nat.lt_or_ge i ((lo + hi) / 2) with z | z
    ·exact Nat.lt_trans (gA h z hx em) hc
    ·have : i = (lo + hi) / 2 := by lia
     subst this
     rw [em] at hx
     cases hx
     exact hc
   next hc =>
    refine jX h fuel lo _ (by lia) (by lia) (by lia) h4 (fun i x hi' hx => ?_)
    rcases Nat.lt_or_ge ((lo + hi) / 2) i with z | z
    ·exact Nat.le_trans (Nat.le_of_not_lt hc) (Nat.le_of_lt (gA h z em hx))
    ·have : i = (lo + hi) / 2 := by lia
     subst this
     rw [em] at hx
     cases hx
     exact Nat.le_of_not_lt hc
  next hlt =>
   have e : lo = hi := by lia
   subst e
   exact ⟨h1, h4, h5⟩
theorem iq {xs : Array Nat} (h : Rise xs.toList) (j : Nat) : LowB xs j (SetTable.below xs j) := by
 unfold SetTable.below
 exact jX h _ 0 _ (Nat.le_refl _) (Nat.zero_le _) (by lia) (fun i x hi => by lia) fun i x hi hx => by
  rw [Array.getElem?_eq_none (by lia)] at hx
  cases hx
theorem LowB.uniq {xs : Array Nat} {j r r' : Nat} (a : LowB xs j r) (b : LowB xs j r') : r = r' := by
 rcases Nat.lt_trichotomy r r' with z | z | z
 ·have hr : r < xs.size := by have := b.le; lia
  have e := Array.getElem?_eq_getElem hr
  have h1 := a.hi r _ (Nat.le_refl _) e
  have h2 := b.lo r _ z e
  lia
 ·exact z
 ·have hr : r' < xs.size := by have := a.le; lia
  have e := Array.getElem?_eq_getElem hr
  have h1 := b.hi r' _ (Nat.le_refl _) e
  have h2 := a.lo r' _ z e
  lia
theorem o3 {xs : Array Nat} (h : Rise xs.toList) {j : Nat} (hj : j ∉ xs.toList) : Rise (SetTable.insertAt xs (SetTable.below xs j) j).toList := by
 have b := iq h j
 rw [SetTable.toList_insertAt]
 generalize SetTable.below xs j = r at b
 rw [<- List.take_append_drop r xs.toList] at h
 obtain ⟨h1, h2, h3⟩ := List.pairwise_append.mp h
 have lo : ∀ x ∈ xs.toList.take r, x < j := fun x hx => by
  obtain ⟨i, hi, e⟩ := List.getElem_of_mem hx
  rw [List.length_take] at hi
  rw [List.getElem_take] at e
  exact b.lo i x (by lia) (by rw [<- Array.getElem?_toList, List.getElem?_eq_getElem (by lia), e])
 have hi : ∀ x ∈ xs.toList.drop r, j < x := fun x hx => by
  obtain ⟨i, hi, e⟩ := List.getElem_of_mem hx
  rw [List.length_drop] at hi
  rw [List.getElem_drop] at e
  have := b.hi (r + i) x (by lia) (by rw [<- Array.getElem?_toList, List.getElem?_eq_getElem (by lia), e])
  have hne : x ≠ j := fun z => hj (z ▸ List.mem_of_mem_drop hx)
  lia
 refine List.pairwise_append.mpr ⟨h1, List.pairwise_cons.mpr ⟨hi, h2⟩, fun x hx y hy => ?_⟩
 rcases List.mem_cons.mp hy with z | z
 ·subst z; exact lo x hx
 ·exact h3 x hx y z
theorem ux {t : SetTable} (h : Rise t.place.toList) {j : Nat} (e : t.slot j = .empty) : j ∉ t.place.toList := fun hm => by
 have b := iq h j
 unfold SetTable.slot at e
 dsimp only at e
 obtain ⟨i, hi, ei⟩ := List.getElem_of_mem hm
 have hi' : t.place[i]? = some j := by rw [<- Array.getElem?_toList, List.getElem?_eq_getElem hi, ei]
 have hr : SetTable.below t.place j = i := b.uniq ⟨by simpa using Nat.le_of_lt hi, fun k x hk hx => gA h hk hx hi', fun k x hk hx => by
  rcases Nat.lt_or_ge i k with z | z
  ·exact Nat.le_of_lt (gA h z hi' hx)
  ·have : k = i := by lia
   subst this
   rw [hi'] at hx
   cases hx
   exact Nat.le_refl _⟩
 rw [hr, hi'] at e
 simp at e
theorem mJ {t : SetTable} (hd : t.dummies = #[]) (j : Nat) : t.slot j ≠ .dummy := by
 unfold SetTable.slot
 dsimp only
 rw [hd]
 have : SetTable.has #[] j = false := by
  unfold SetTable.has
  simp
 rw [this]
 split <;> simp
theorem o4 {t : SetTable} (hd : t.dummies = #[]) {hashAt : Nat -> Int} {h : Int} {j : Nat} {d : Option Nat} : ∀ (fuel : Nat) (p : SetTable.Probe), p.dummy = none -> SetTable.probe.go t hashAt h fuel p = some (.empty j d) -> d = none /\ t.slot j = .empty
 | 0, p, _, e => by cases e
 | fuel + 1, p, hp, e => by
  unfold SetTable.probe.go at e
  have adv : (t.advance p).dummy = none := by
   unfold SetTable.advance
   split
   ·exact hp
   ·exact hp
  split at e
  next hs =>
   cases e
   exact ⟨hp, hs⟩
  next hs => exact absurd hs (mJ hd _)
  next i hs =>
   split at e
   ·cases e
   ·exact o4 hd fuel _ adv e
theorem wt {t : SetTable} (hR : Rise t.place.toList) (hd : t.dummies = #[]) {h : Int} {slot : Nat} {wd : Bool} (e : t.freeSlot h = some (slot, wd)) : slot ∉ t.place.toList := by
 unfold SetTable.freeSlot at e
 split at e
 next j dummy e1 =>
  cases e
  have hp : (t.probeStart h).dummy = none := rfl
  obtain ⟨h1, h2⟩ := o4 hd _ _ hp (show SetTable.probe.go t _ h _ _ = _ from e1)
  subst h1
  exact ux hR h2
 next => cases e
structure TabS (led : Bool) (t : SetTable) : Prop where
 rise : Rise t.place.toList
 dum : t.dummies = #[]
 led : t.led = led
theorem pK (n : Nat) : Rise (Array.range n).toList := by
 rw [Array.toList_range]
 exact List.pairwise_lt_range
theorem fA {led : Bool} {t : SetTable} (h : TabS led t) (n : Nat) : TabS led (t.standIn n) := ⟨pK n, rfl, h.led⟩
theorem yF {led : Bool} {t : SetTable} (h : TabS led t) {j : Nat} (hj : j ∉ t.place.toList) : TabS led (t.put j).1 := by
 refine ⟨o3 h.rise hj, ?_, h.led⟩
 show (if SetTable.has t.dummies j then SetTable.eraseAt t.dummies (SetTable.below t.dummies j) else t.dummies) = #[]
 have : SetTable.has t.dummies j = false := by
  rw [h.dum]
  unfold SetTable.has
  simp
 rw [this]
 exact h.dum
theorem sj {led : Bool} {t : SetTable} (h : TabS led t) (es : Array (Int × Value)) (k : Int) (x : Value) : TabS led (layNew t es k x).2.1 := by
 unfold layNew
 split
 next slot wd e =>
  have hp := yF h (wt h.rise h.dum e)
  dsimp only
  unfold SetTable.orStandIn
  split
  ·exact hp
  ·exact fA hp _
 next => exact fA h _
theorem pL (g : Nat -> Option Nat) (hg : ∀ a b, g a = some b -> b = a) : ∀ l : List Nat, (l.filterMap g).Sublist l
 | [] => List.Sublist.slnil
 | a :: r => by
  rw [List.filterMap_cons]
  cases e : g a with
  | none => exact (pL g hg r).cons _
  | some b =>
   have := hg a b e
   subst this
   exact (pL g hg r).cons₂ _
theorem wu {mask finger moves : Nat} {led plain : Bool} {hashes : Array Int} {t : SetTable} {order : Array Nat} (e : SetTable.laid mask finger moves led plain hashes = some (t, order)) : TabS led t := by
 unfold SetTable.laid at e
 cases ho : SetTable.layClean mask hashes with
 | none => rw [ho] at e; cases e
 | some owner =>
  rw [ho] at e
  cases e
  refine ⟨?_, rfl, rfl⟩
  show Rise (((List.range (mask + 1)).filterMap fun j => (owner.getD j none).map (j, ·)).map (·.1)).toArray.toList
  rw [List.toList_toArray, List.map_filterMap]
  refine List.Pairwise.sublist ?_ (List.pairwise_lt_range (n := mask + 1))
  exact pL _ (fun a b hb => by
   cases hg : owner.getD a none with
   | none => rw [hg] at hb; cases hb
   | some v => rw [hg] at hb; cases hb; rfl) _
theorem uy {led : Bool} {t : SetTable} (h : TabS led t) (es : Array (Int × Value)) (wanted : Nat) : TabS led (relayAll t es wanted).2.1 := by
 unfold relayAll
 split
 next t' order e =>
  dsimp only
  split
  ·have := wu e
   rw [h.led] at this
   exact this
  ·exact fA h _
 next => exact fA h _
noncomputable def keyE (e : Int × Value) : Int := match e.2 with
 | .int k _ => k
 | _ => 0
noncomputable def EntI (e : Int × Value) : Prop := e.1 = hashInt (keyE e) /\ ∃ tk, e.2 = .int (keyE e) tk
noncomputable def txt (w : World) : Bool := w.params.followText "set-order"
noncomputable def SX (w : World) (h : Heap) (a : Addr) (L : List Int) : Prop :=
 ∃ o es ep t, h.get? a = some o /\ o.ExactSet /\ o.data = .set es ep t /\ (∀ e ∈ es.toList, EntI e) /\ (es.toList.map keyE).Perm L /\ es.size < scanBound /\ t.fits es.size = true /\ TabS (!txt w) t
section
variable {prog : Program} {w : World} {A : Around} {E : Cw} {s : Shared}
theorem uz {l : List (Int × Value)} (h : ∀ e ∈ l, EntI e) : ElemsOf (intKind prog w) l := fun e he => by
 obtain ⟨h1, tk, h2⟩ := h e he
 refine ⟨⟨keyE e, ?_, h1⟩, ?_⟩
 ·rw [h2]; exact intKind_is _ _ _ _
 ·rw [h2]; rfl
theorem uA {e : Int × Value} (h : EntI e) (k : Int) : (intKind prog w).is k e.2 = decide (keyE e = k) := by
 obtain ⟨h1, tk, h2⟩ := h
 have hk : (intKind prog w).is (keyE e) e.2 = true := by rw [h2]; exact intKind_is _ _ _ _
 rw [KeyKind.is_eq_decide hk k]
 exact decide_eq_decide.mpr ⟨Eq.symm, Eq.symm⟩
theorem o5 {h : Heap} {a : Addr} {o : Obj} {es es' : Array (Int × Value)} {ep : Nat} {t t' : SetTable} {L : List Int} (ho : h.get? a = some o) (hex : o.ExactSet) (hd : o.data = .set es ep t)
  (h1 : ∀ e ∈ es'.toList, EntI e) (h2 : (es'.toList.map keyE).Perm L) (h3 : es'.size < scanBound) (h4 : t'.fits es'.size = true) (h5 : TabS (!txt w) t') :
  (h.update a (Obj.putSet es' t')).get? a = some { o with data := .set es' (ep + 1) t' } /\ SX w (h.update a (Obj.putSet es' t')) a L := by
 have hp := putSet_of es' t' hd
 have hg := Heap.get?_update_self (Obj.putSet es' t') ho (by rw [hp] <;> rfl)
 rw [hp] at hg
 exact ⟨hg, _, es', ep + 1, t', hg, hex, rfl, h1, h2, h3, h4, h5⟩
theorem gU (b : Bool) {s₁ : Shared} {Q : Unit -> Shared -> Prop} (hq : Q () s₁) : wpAny (model prog w) A (match b with | true => rule "set.scan.the-table-gave-way" | false => pure ()) Q E s₁ := by
 cases b
 ·exact wpAny_pure hq
 ·exact wpAny_rule hq
theorem o6 {a : Addr} {o : Obj} {es es1 : Array (Int × Value)} {ep : Nat} {t t2 : SetTable} {L : List Int} {wd : Bool} {R : Option Bool -> Shared -> Prop} {g : Bool -> Sem Unit} (hg : ∀ (b : Bool) (s₁ : Shared) (Q : Unit -> Shared -> Prop), Q () s₁ -> wpAny (model prog w) A (g b) Q E s₁)
  (ho : s.heap.get? a = some o) (hex : o.ExactSet) (hd : o.data = .set es ep t) (h1 : ∀ e ∈ es1.toList, EntI e) (h2 : (es1.toList.map keyE).Perm L) (h3 : es1.size < scanBound) (h4 : t2.fits es1.size = true) (h5 : TabS (!txt w) t2)
  (fin : ∀ h', Heap.SameBut a s.heap h' -> SX w h' a L -> R (some true) { s with heap := h' }) :
  wpAny (model prog w) A (do
   storeSet a es1 t2
   if (!wd && t2.tooFull) = true then do
    g (relayAll t2 es1 (SetTable.grown es1.size)).2.2
    storeSet a (relayAll t2 es1 (SetTable.grown es1.size)).1 (relayAll t2 es1 (SetTable.grown es1.size)).2.1
    pure (some true)
   else pure (some true)) R E s := by
 obtain ⟨q1, q2⟩ := o5 (w := w) ho hex hd h1 h2 h3 h4 h5
 have sb := Heap.SameBut.update s.heap a (Obj.putSet es1 t2)
 refine wpAny_bind (wpAny_storeSet_of ho hd ?_ (fits_of_scanBound h3))
 split
 next =>
  have rp := relayAll_perm t2 es1 (SetTable.grown es1.size)
  have rf := relayAll_fits t2 es1 (SetTable.grown es1.size)
  have rt := uy h5 es1 (SetTable.grown es1.size)
  generalize relayAll t2 es1 (SetTable.grown es1.size) = Z at rp rf rt ⊢
  obtain ⟨es2, t3, gv⟩ := Z
  dsimp only at rp rf rt ⊢
  have z : es2.size = es1.size := by
   have := rp.length_eq
   simpa using this
  have b2 : es2.size < scanBound := by lia
  refine wpAny_bind (hg gv _ _ ?_)
  refine wpAny_bind (wpAny_storeSet_of q1 rfl ?_ (fits_of_scanBound b2))
  refine wpAny_pure (fin _ (sb.trans (Heap.SameBut.update _ a _)) ?_)
  exact (o5 (w := w) q1 hex rfl (fun e he => h1 e (rp.mem_iff.mp he)) ((rp.map keyE).trans h2) b2 rf rt).2
 next => exact wpAny_pure (fin _ sb q2)
noncomputable def addK (L : List Int) (k : Int) : List Int := if k ∈ L then L else L ++ [k]
theorem yG {a : Addr} {L : List Int} {k : Int} {tk : Tok} {Q : Bool -> Shared -> Prop} (hS : SX w s.heap a L) (room : L.length + 1 < scanBound)
  (fin : ∀ b h', Heap.SameBut a s.heap h' -> SX w h' a (addK L k) -> Q b { s with heap := h' }) :
  wpAny (model prog w) A (setAddHashed a (.int k tk) (hashInt k)) Q E s := by
 obtain ⟨o, es, ep, t, ho, hex, hd, h1, h2, h3, h4, h5⟩ := hS
 have el : ElemsOf (intKind prog w) es.toList := uz h1
 have hk : (intKind prog w).is k (.int k tk) = true := intKind_is _ _ _ _
 have sz : es.size = L.length := by
  have := h2.length_eq
  simpa using this
 unfold setAddHashed setAddHashedIn
 refine wpAny_holding (wpAny_bind (wpAny_setState_of ho hd h4 ?_))
 dsimp only
 rw [byScan_of (knd := intKind prog w) (show (Value.int k tk).scannable = true from rfl) h3 el]
 simp only [if_true]
 unfold setAddByScan
 refine wpAny_bind (wpAny_bind (wpAny_rule (wpAny_bind (wpAny_setScan_of (knd := intKind prog w) hk ho hd h4 el ?_))))
 cases hr : es.toList.findIdx? (fun e => (intKind prog w).is k e.2) with
 | some j =>
  dsimp only
  obtain ⟨hj, hp, _⟩ := List.findIdx?_eq_some_iff_getElem.mp hr
  have he := h1 _ (List.getElem_mem hj)
  rw [uA he] at hp
  have hm : k ∈ L := h2.mem_iff.mp (List.mem_map.mpr ⟨_, List.getElem_mem hj, of_decide_eq_true hp⟩)
  refine wpAny_pure (wpAny_pure ?_)
  have := fin false s.heap (Heap.SameBut.refl a s.heap) (by
   unfold addK
   rw [if_pos hm]
   exact ⟨o, es, ep, t, ho, hex, hd, h1, h2, h3, h4, h5⟩)
  exact this
 | none =>
  dsimp only
  have hm : k ∉ L := fun z => by
   obtain ⟨e, he, ek⟩ := List.mem_map.mp (h2.mem_iff.mpr z)
   have := List.findIdx?_eq_none_iff.mp hr e he
   rw [uA (h1 e he), ek] at this
   simp at this
  have lp := layNew_perm t es (hashInt k) (.int k tk)
  have lf := layNew_fits t es (hashInt k) (.int k tk)
  have lt := sj h5 es (hashInt k) (.int k tk)
  generalize layNew t es (hashInt k) (.int k tk) = Z at lp lf lt ⊢
  obtain ⟨es1, t1, wd, gv⟩ := Z
  dsimp only at lp lf lt ⊢
  rw [Array.toList_push] at lp
  have e1 : ∀ e ∈ es1.toList, EntI e := fun e he => by
   rcases List.mem_append.mp (lp.mem_iff.mp he) with z | z
   ·exact h1 e z
   ·rw [List.mem_singleton] at z
    subst z
    exact ⟨rfl, tk, rfl⟩
  have e2 : (es1.toList.map keyE).Perm (addK L k) := by
   unfold addK
   rw [if_neg hm]
   refine (lp.map keyE).trans ?_
   rw [List.map_append]
   exact h2.append (List.Perm.refl _)
  have e3 : es1.size < scanBound := by
   have := lp.length_eq
   simp at this
   lia
  have done : ∀ h', Heap.SameBut a s.heap h' -> SX w h' a (addK L k) -> Q true { s with heap := h' } := fin true
  refine wpAny_bind (gU gv ?_)
  split
  next =>
   refine wpAny_bind ?_
   rw [hashByValue_scannable 8 (show (Value.int k tk).scannable = true from rfl)]
   refine wpAny_pure ?_
   refine o6 (fun b _ _ hq => gU b hq) ho hex hd e1 e2 e3 lf lt fun h' sb sx => ?_
   exact wpAny_pure (done h' sb sx)
  next =>
   refine wpAny_bind (wpAny_pure ?_)
   simp only [if_true]
   refine o6 (fun b _ _ hq => gU b hq) ho hex hd e1 e2 e3 lf lt fun h' sb sx => ?_
   exact wpAny_pure (done h' sb sx)
end
theorem SX.keep {w : World} {h h' : Heap} {a : Addr} {L : List Int} (x : SX w h a L) (k : ∀ o, h.get? a = some o -> h'.get? a = some o) : SX w h' a L := by
 obtain ⟨o, es, ep, t, ho, r⟩ := x
 exact ⟨o, es, ep, t, k o ho, r⟩
theorem o7 (L : List Int) (k : Int) : (addK L k).length <= L.length + 1 := by
 unfold addK
 split
 ·lia
 ·rw [List.length_append, List.length_singleton]
  exact Nat.le_refl _
section
variable {prog : Program} {w : World} {A : Around} {R : Result -> Shared -> Prop} {I : Addr} {fp wr : List Addr} {G : Array GenState -> Array GenState -> Prop} {n : Nat} {P : Nat -> Value -> Prop} {St : Nat -> Shared -> Prop}
theorem uB (W : WalksS prog w A.in1 I fp wr G n P St) (S : Addr) (out : S ∉ fp) (val : Nat -> Int) (hv : ∀ i v, P i v -> ∃ t, v = .int (val i) t) (room : n + 1 < scanBound) :
  ∀ (k i : Nat) (s : Shared) (L : List Int), n - i = k -> i <= n -> St i s -> SX w s.heap S L -> L.length <= i ->
   (∀ s', Moved (S :: wr) G s s' -> SX w s'.heap S (((List.range' i k).map val).foldl addK L) -> R (.ok (.ret .none)) s') ->
   codeAny (model prog w) A (.builtin "set.update.loop" ⟨[.ref S, .ref I], []⟩) R s := by
 have ow : S ∉ wr := fun z => out (W.sub _ z)
 have sub : ∀ b ∈ wr, b ∈ S :: wr := fun b hb => List.mem_cons_of_mem _ hb
 intro k
 induction k with
 | zero =>
  intro i s L hk hi st x hl fin
  obtain rfl : i = n := by lia
  refine codeAny_builtin F.entry_set_update_loop ?_
  rw [Around.under_plainId F.plain_set_update_loop]
  show wpAny (model prog w) A.in1 (pyNext (.ref I) >>= _) _ _ s
  refine wpAny_bind (W.done s _ _ st fun s' mv => ?_)
  exact wpAny_pure (fin s' (mv.mono sub) (x.keep fun o e => mv.heap S o ow e))
 | succ k ih =>
  intro i s L hk hi st x hl fin
  have lt : i < n := by lia
  refine codeAny_builtin F.entry_set_update_loop ?_
  rw [Around.under_plainId F.plain_set_update_loop]
  show wpAny (model prog w) A.in1 (pyNext (.ref I) >>= _) _ _ s
  refine wpAny_bind (W.item i s _ _ lt st fun v s' hP st' mv => ?_)
  obtain ⟨t, rfl⟩ := hv i v hP
  have x' := x.keep fun o e => mv.heap S o ow e
  show wpAny (model prog w) A.in1 (holding [Value.int (val i) t] (setAdd S (Value.int (val i) t)) >>= _) _ _ s'
  refine wpAny_bind (wpAny_holding ?_)
  unfold setAdd
  refine wpAny_holding (wpAny_bind (wpAny_pyHash_int ?_))
  refine yG (s := { s' with toks := s'.toks + 1 }) x' (by lia) fun b h' sb sx => ?_
  have ln := o7 L (val i)
  refine wpAny_pure ⟨plainId_quiet F.plain_set_update_loop _, ih (i + 1) _ (addK L (val i)) (by lia) (by lia) (W.frame _ s' _ _ st' (Nat.le_succ _) fun c hc o e => ?_) sx (by lia) fun s2 mv2 sx2 => ?_⟩
  ·rw [sb.2 c (fun z => out (z ▸ hc))]
   exact e
  ·refine fin s2 (Moved.trans W.gtrans ((mv.mono sub).then_heap (Nat.le_succ _) fun c o hc e => ?_) mv2) sx2
   rw [sb.2 c (fun z => hc (by rw [z]; exact List.mem_cons_self))]
   exact e
end
section
variable {prog : Program} {w : World} {A : Around} {E : Cw} {s : Shared}
abbrev Dd (w : World) : Obj := { cls := .type "set", dict := none, data := .set #[] 0 (.fresh 0 0 (!txt w)) }
theorem wx (a : Value) {Q : Cw} (h : Q (.ref s.heap.objs.size) { s with heap := s.heap.push (Dd w) }) :
  codeAny (model prog w) A (.call (.builtin "set.__new__") ⟨[.type "set", a], []⟩) (wants Q E) s := by
 refine codeAny_of_tree ?_
 show wpAny (model prog w) A.in1 (do checkBuiltinCall "set.__new__" ⟨[.type "set", a], []⟩; again (.builtin "set.__new__" ⟨[.type "set", a], []⟩)) _ _ s
 refine wpAny_bind (wpAny_of_eq (PySem.F.newCall_set_1 a) (wpAny_pure ⟨plainId_quiet PySem.F.plain_set_new _, codeAny_builtin PySem.F.entry_set_new ?_⟩))
 rw [Around.under_plainId PySem.F.plain_set_new]
 unfold Builtin.«set.__new__»
 unfold Builtin.Frozenset.newClass
 have hs := sub_set_self
 obtain ⟨h0, g0, d0, k0, o0⟩ := s
 dsimp only
 wp_walk
 refine wpAny_askSetting ?_
 refine wpAny_pure ?_
 dsimp only [newObj]
 exact wpAny_bind (wpAny_alloc (wpAny_pure (wpAny_pure h)))
end
section
variable {prog : Program} {w : World} {A : Around} {E : Cw} {s : Shared}
theorem uC {h : Heap} {a : Addr} (e : h.get? a = some (Dd w)) : SX w h a [] :=
 ⟨_, #[], 0, _, e, ⟨rfl, rfl, rfl⟩, rfl, fun x hx => by simp at hx, List.Perm.nil, by decide, rfl, ⟨List.Pairwise.nil, rfl, rfl⟩⟩
noncomputable def Made (w : World) (s : Shared) (L : List Int) (s2 : Shared) : Prop := ∃ h2 k2, s2 = { s with heap := h2, toks := k2 } /\ SX w h2 s.heap.objs.size L /\ ∀ b o, b < s.heap.objs.size -> s.heap.get? b = some o -> h2.get? b = some o
set_option maxHeartbeats 6400000 in
theorem uD {l : Addr} {items : Array Value} {ns : List Int} {Q : Cw} (hh : A.handled = none) (hl : s.heap.IsList l items) (hi : IntsAre items.toList ns) (hb : items.size + 1 < scanBound)
  (fin : ∀ s2, Made w s (((List.range' 0 items.size).map fun i => ns.getD i 0).foldl addK []) s2 -> Q (.ref s.heap.objs.size) s2) :
  wpAny (model prog w) A (call (.type "set") [.ref l]) Q E s := by
 obtain ⟨c, tl, z1⟩ := PySem.F.called_set.mro
 have z2 := PySem.F.called_set.made
 have z3 := PySem.F.called_set.sub
 refine wpAny_call (codeAny_of_tree ?_)
 show wpAny (model prog w) _ (callAny (.type "set") _) _ _ _
 refine wpAny_pure ⟨Code.quiet_builtin _ (by decide +kernel), codeAny_builtin PySem.F.entry_type_call ?_⟩
 rw [Around.under_plain (weight_type_call_type "set" [Value.ref l] []) rfl]
 have z4 := PySem.F.called_set.notType
 have z5 := PySem.F.called_set.canCreate
 have z6 := PySem.F.typeCall_set_1 (Value.ref l)
 repeat (any_goals (first | assumption | wp_step))
 refine codeAny_mono (wx (w := w) (Value.ref l) (E := E) (Q := fun x s1 => x = .ref s.heap.objs.size /\ s1 = { s with heap := s.heap.push (Dd w) }) ⟨rfl, rfl⟩) fun r s1 hr => ?_
 cases r with
 | error e => exact hr
 | ok fl =>
  cases fl with
  | ret obj =>
   obtain ⟨rfl, rfl⟩ := hr
   have hS : (s.heap.push (Dd w)).get? s.heap.objs.size = some (Dd w) := Heap.get?_push_size _ rfl
   have hT : Shared.TypeIs { s with heap := s.heap.push (Dd w) } (.ref s.heap.objs.size) "set" := ⟨_, hS, rfl⟩
   have z7 := PySem.F.called_set.init.lookup
   have z8 := PySem.F.called_set.init.bind (Value.ref s.heap.objs.size)
   repeat (any_goals (first | assumption | wp_step))
   refine codeAny_mono (codeAny_call_builtin (R := wants (fun r s2 => r = .none /\ Made w s (((List.range' 0 items.size).map fun i => ns.getD i 0).foldl addK []) s2) E) PySem.F.called_set.init.plain PySem.F.entry_set_init (check_set_init_1 hT ?_)) fun r2 s2 hr2 => ?_
   ·obtain ⟨⟨ocls, odict, odata, oslots⟩, hol, hcl, nl, hdl⟩ := hl
    obtain rfl : ocls = .type "list" := hcl
    obtain rfl : odata = .seq items nl := hdl
    have hol' : (s.heap.push (Dd w)).get? l = some { cls := .type "list", dict := odict, data := .seq items nl, slots := oslots } := Heap.get?_push_of_some _ hol
    have q1 := PySem.F.sub_list_set
    have q2 := PySem.F.sub_list_frozenset
    have q3 : (Value.type "list" == Value.type "dict") = false := by decide
    have l1 : (s.heap.push (Dd w)).IsList l items := ⟨_, hol', rfl, nl, rfl⟩
    unfold Builtin.«set.__init__»
    unfold noKeywords
    unfold Builtin.Frozenset.updateFrom
    generalize hPI : pyIter = PI
    wp_walk
    subst hPI
    refine wpAny_pyIter_list l1 ?_
    refine wpAny_bind (wpAny_runValue ?_)
    have lt : l < s.heap.objs.size := Heap.lt_size hol
    have h3 : A.in1.in1.in1.handled = none := by simp [hh]
    have ne : l ≠ (s.heap.push (Dd w)).objs.size := by
     rw [Heap.size_push]
     exact Nat.ne_of_lt (Nat.lt_succ_of_lt lt)
    have out : s.heap.objs.size ∉ [(s.heap.push (Dd w)).objs.size, l] := by
     rw [Heap.size_push]
     simp only [List.mem_cons, List.not_mem_nil, or_false, not_or]
     exact ⟨Nat.ne_of_lt (Nat.lt_succ_self _), Nat.ne_of_gt lt⟩
    have hv : ∀ (i : Nat) (v : Value), items[i]? = some v -> ∃ t, v = .int ((fun i => ns.getD i 0) i) t := fun i v e => hi.int_at i v (by rw [Array.getElem?_toList]; exact e)
    refine uB ((Walks.list h3 _ l ne items).toS) s.heap.objs.size out (fun i => ns.getD i 0) hv hb items.size 0 _ [] (by lia) (Nat.zero_le _) ⟨⟨_, Heap.get?_push_size _ rfl, rfl, rfl⟩, l1.push _⟩ (uC (Heap.get?_push_of_some _ hS)) (Nat.le_refl _) fun s' mv sx => ?_
    obtain ⟨h', g', d', tk', os'⟩ := s'
    obtain rfl : g' = s.gens := mv.gens
    obtain rfl : d' = s.drawn := mv.drawn
    obtain rfl : os' = s.os := mv.os
    refine wpAny_pure ?_
    refine wpAny_pure ⟨rfl, h', tk', rfl, sx, fun b o hb e => ?_⟩
    refine mv.heap b o ?_ (Heap.get?_push_of_some _ (Heap.get?_push_of_some _ e))
    simp only [List.mem_cons, List.not_mem_nil, or_false, not_or]
    refine ⟨Nat.ne_of_lt hb, ?_⟩
    rw [Heap.size_push]
    exact Nat.ne_of_lt (Nat.lt_succ_of_lt hb)
   ·cases r2 with
    | error e => exact hr2
    | ok fl2 =>
     cases fl2 with
     | ret r =>
      obtain ⟨rfl, mk⟩ := hr2
      repeat (any_goals (first | assumption | wp_step))
      exact fin _ mk
     | _ => exact hr2.elim
  | _ => exact hr.elim
end
theorem gc : Slot "set_iterator" "__next__" "set_iterator.__next__" :=
 .of (owner := "set_iterator") (n := "__next__") (by rw [typeLookup_type, builtinLookup_eq_fast]; kernel_rfl) (by decide +kernel) (by decide +kernel) (by decide +kernel) (by first | exact .inl (by decide +kernel) | exact .inr (by decide +kernel)) (by rw [isSubtype_type]; kernel_rfl)
theorem sk : entryFor table "set_iterator.__next__" = some Builtin.«set_iterator.__next__» := entryFor_of_tree (by kernel_rfl)
theorem uE (a : Value) : argsOk "set_iterator.__next__" ⟨[a], []⟩ := by
 unfold argsOk
 kernel_rfl
theorem o8 : entryFor table "set.__iter__" = some Builtin.«frozenset.__iter__» := entryFor_alias (id' := "frozenset.__iter__") (by kernel_rfl) rfl (by decide +kernel) (by kernel_rfl)
section
variable {prog : Program} {w : World} {A : Around} {E : Cw} {s : Shared}
noncomputable def IsSI (h : Heap) (I S : Addr) (first : Value) (i n ep : Nat) : Prop := ∃ o, h.get? I = some o /\ o.cls = .type "set_iterator" /\ o.data = .fields #[first, .int i 0, .ref S, .int n 0, .int ep 0]
theorem IsSI.ty {I S : Addr} {first : Value} {i n ep : Nat} (x : IsSI s.heap I S first i n ep) : s.TypeIs (.ref I) "set_iterator" := let ⟨o, h, c, _⟩ := x; ⟨o, h, c⟩
noncomputable def DO (h : Heap) (S : Addr) (es : Array (Int × Value)) (ep : Nat) (t : SetTable) : Prop := ∃ o, h.get? S = some o /\ o.data = .set es ep t /\ t.fits es.size = true
theorem gB {Q : Bool -> Shared -> Prop} (h : Q (txt w) s) : wpAny (model prog w) A setsByText Q E s := by
 unfold setsByText
 exact wpAny_bind (wpAny_askSetting (wpAny_pure h))
theorem gK {S : Addr} {slot i ep : Nat} {es : Array (Int × Value)} {t : SetTable} {Q : Option (Value × Nat) -> Shared -> Prop} (y : DO s.heap S es ep t) (ht : txt w = false) (hp : t.plain = true \/ es.size <= 1) (hl : t.led = true)
  (fin : Q (match es[SetTable.below t.place slot]?, t.place[SetTable.below t.place slot]? with
   | some (_, x), some j => some (x, j + 1)
   | _, _ => none) s) : wpAny (model prog w) A (setNext S slot i ep) Q E s := by
 obtain ⟨os, hos, hds, hf⟩ := y
 unfold setNext
 refine wpAny_bind (wpAny_setState_of hos hds hf ?_)
 dsimp only
 refine wpAny_bind (gB ?_)
 rw [ht]
 simp only [Bool.false_eq_true, if_false]
 have hdr : ¬ (!t.plain && decide (es.size > 1)) = true := by
  rcases hp with z | z
  ·simp [z]
  ·simp; intro; omega
 have hdr2 : ¬ (!t.led && !es.isEmpty) = true := by simp [hl]
 show wpAny (model prog w) A (if (!t.plain && decide (es.size > 1)) = true then _ else _) _ _ _
 rw [if_neg hdr]
 refine wpAny_bind ?_
 show wpAny (model prog w) A ((if (!t.led && !es.isEmpty) = true then unsupported "set:maker-not-led" else pure PUnit.unit) : Sem PUnit) _ _ _
 rw [if_neg hdr2]
 exact wpAny_pure (wpAny_pure fin)
theorem iu {S : Addr} {slot i ep : Nat} {es : Array (Int × Value)} {t : SetTable} {Q : Option (Value × Nat) -> Shared -> Prop} (y : DO s.heap S es ep t) (ht : txt w = true)
  (fin : Q (((pickOrder (w.params.setOrder S ep) es)[i]?).map fun e => (e.2, slot)) s) : wpAny (model prog w) A (setNext S slot i ep) Q E s := by
 obtain ⟨os, hos, hds, hf⟩ := y
 unfold setNext
 refine wpAny_bind (wpAny_setState_of hos hds hf ?_)
 dsimp only
 refine wpAny_bind (gB ?_)
 rw [ht]
 simp only [if_true, bne_self_eq_false, Bool.false_eq_true, if_false]
 unfold setWalk
 refine wpAny_bind (wpAny_bind (wpAny_setState_of hos hds hf ?_))
 dsimp only
 refine wpAny_bind (gB ?_)
 rw [ht]
 simp only [if_true]
 exact wpAny_bind (wpAny_askSetting (wpAny_pure (wpAny_pure fin)))
theorem jm {I S : Addr} {first : Value} {i n ep : Nat} {es : Array (Int × Value)} {t : SetTable} {Q : Option Value -> Shared -> Prop} (x : IsSI s.heap I S first i n ep) (y : DO s.heap S es ep t) (hn : n = es.size)
  (body : wpAny (model prog w) A.in1 (match first with
   | .int slot _ => do
    match <- setNext S slot.toNat i ep with
    | some (x, next) =>
     setField (.ref I) 0 (rawInt next)
     setField (.ref I) 1 (rawInt ((i : Int) + 1))
     ret x
    | none => setField (.ref I) 2 .none; raiseNew (<- newExc (.type "StopIteration") [])
   | _ => do
    let some places <- seqItems? first | unsupported "internal:set_iterator"
    match places[i]? with
    | some (.int place _) =>
     let x <- setNextDrawn S place.toNat ep
     setField (.ref I) 1 (rawInt ((i : Int) + 1))
     ret x
    | some _ => unsupported "internal:set_iterator"
    | none => setField (.ref I) 0 (rawInt 0); setField (.ref I) 2 .none; raiseNew (<- newExc (.type "StopIteration") []))
   (fun f s1 => ∃ v, f = .done (.ret v) /\ Q (some v) s1) (fun e s1 => wpAny (model prog w) A (do if <- isInstance e (.type "StopIteration") then pure none else throw e) Q E s1) s) :
  wpAny (model prog w) A (pyNext (.ref I)) Q E s := by
 subst hn
 obtain ⟨o, ho, hc, hd⟩ := id x
 obtain ⟨os, hos, hds, hf⟩ := y
 unfold pyNext
 refine wpAny_bind (wpAny_attempt (wpAny_callSpecial?_slot (name := Str.ofString "__next__") x.ty gc (wpAny_call_entry gc x.ty sk ?_ (uE _))))
 unfold Builtin.«set_iterator.__next__»
 unfold slotArgs
 simp only [List.isEmpty_nil, Bool.not_true, Bool.false_eq_true, if_false, List.length_nil, bne_self_eq_false]
 refine wpAny_bind (wpAny_pure ?_)
 refine wpAny_bind (wpAny_fieldsOf ho hd ?_)
 dsimp only
 refine wpAny_bind (wpAny_setEntries_of hos hds hf ?_)
 rw [if_neg (by simp)]
 simp only [Int.toNat_natCast]
 exact wpAny_mono body (fun f s1 ⟨v, e, q⟩ => ⟨v, e, wpAny_pure q⟩) fun _ _ q => q
theorem DO.keep {h h' : Heap} {S : Addr} {es : Array (Int × Value)} {ep : Nat} {t : SetTable} (y : DO h S es ep t) (k : ∀ o, h.get? S = some o -> h'.get? S = some o) : DO h' S es ep t := let ⟨o, ho, r⟩ := y; ⟨o, k o ho, r⟩
theorem fB {h : Heap} {I : Addr} {o : Obj} {vs : Array Value} (ho : h.get? I = some o) (hd : o.data = .fields vs) (j : Nat) (x : Value) :
  ∃ o', (h.update I (Obj.mapFields (·.setIfInBounds j x))).get? I = some o' /\ o'.cls = o.cls /\ o'.data = .fields (vs.setIfInBounds j x) :=
 ⟨_, Heap.get?_update_self _ ho (Obj.isFreed_of_fields (Obj.data_mapFields hd _)), Obj.cls_mapFields .., Obj.data_mapFields hd _⟩
theorem og {I S : Addr} {slot i n ep nx : Nat} {v : Value} {es : Array (Int × Value)} {t : SetTable} {Q : Option Value -> Shared -> Prop} (x : IsSI s.heap I S (.int slot 0) i n ep) (y : DO s.heap S es ep t) (hn : n = es.size)
  (nxt : ∀ (Q' : Option (Value × Nat) -> Shared -> Prop) (E' : Cw), Q' (some (v, nx)) s -> wpAny (model prog w) A.in1 (setNext S slot i ep) Q' E' s)
  (fin : ∀ h', IsSI h' I S (.int nx 0) (i + 1) n ep -> Heap.SameBut I s.heap h' -> Q (some v) { s with heap := h' }) : wpAny (model prog w) A (pyNext (.ref I)) Q E s := by
 refine jm x y hn ?_
 obtain ⟨o, ho, hc, hd⟩ := x
 dsimp only
 refine wpAny_bind (nxt _ _ ?_)
 dsimp only
 obtain ⟨o1, ho1, hc1, hd1⟩ := fB ho hd 0 (rawInt (nx : Int))
 obtain ⟨o2, ho2, hc2, hd2⟩ := fB ho1 hd1 1 (rawInt ((i : Int) + 1))
 refine wpAny_bind (wpAny_setField ho hd (by simp) ?_)
 refine wpAny_bind (wpAny_setField ho1 hd1 (by simp) ?_)
 refine wpAny_pure ⟨v, rfl, fin _ ⟨o2, ho2, hc2.trans (hc1.trans hc), ?_⟩ ((Heap.SameBut.update s.heap I _).trans (Heap.SameBut.update _ I _))⟩
 rw [hd2]
 simp [rawInt]
theorem qN {I : Addr} {o : Obj} {vs : Array Value} {Q : Option Value -> Shared -> Prop} (hh : A.handled = none) (ho : s.heap.get? I = some o) (hd : o.data = .fields vs) (hz : 2 < vs.size)
  (fin : ∀ h', Heap.ExtBut I s.heap h' -> Q none { s with heap := h' }) :
  wpAny (model prog w) A.in1 (do setField (.ref I) 2 .none; raiseNew (<- newExc (.type "StopIteration") []) : Sem PySem.Fin) (fun f s1 => ∃ v, f = .done (.ret v) /\ Q (some v) s1) (fun e s1 => wpAny (model prog w) A (do if <- isInstance e (.type "StopIteration") then pure none else throw e) Q E s1) s := by
 refine wpAny_bind (wpAny_setField ho hd hz ?_)
 refine wpAny_bind ?_
 simp only [newExc, newTuple]
 refine wpAny_bind (wpAny_newObj_type ?_ (by size_fits))
 refine wpAny_bind (m := firstArgMember _ _) (wpAny_of_eq (a := Value.none) (by first | rfl | (simp only [firstArgMember]; rfl)) ?_)
 refine wpAny_newObj_type ?_ (by size_fits)
 simp only [raiseNew]
 refine wpAny_bind (wpAny_handled ?_)
 rw [show A.in1.handled = none from hh]
 refine wpAny_bind (wpAny_pure (wpAny_throw ?_))
 refine wpAny_bind (wpAny_isInstance (T := "StopIteration") (b := true) ⟨_, Heap.get?_push_size _ rfl, rfl⟩ isSubtype_stop ?_)
 exact wpAny_pure (fin _ (((Heap.SameBut.update ..).extBut.push _).push _))
theorem qO {I S : Addr} {slot i n ep : Nat} {es : Array (Int × Value)} {t : SetTable} {Q : Option Value -> Shared -> Prop} (hh : A.handled = none) (x : IsSI s.heap I S (.int slot 0) i n ep) (y : DO s.heap S es ep t) (hn : n = es.size)
  (nxt : ∀ (Q' : Option (Value × Nat) -> Shared -> Prop) (E' : Cw), Q' none s -> wpAny (model prog w) A.in1 (setNext S slot i ep) Q' E' s)
  (fin : ∀ h', Heap.ExtBut I s.heap h' -> Q none { s with heap := h' }) : wpAny (model prog w) A (pyNext (.ref I)) Q E s := by
 refine jm x y hn ?_
 obtain ⟨o, ho, hc, hd⟩ := x
 dsimp only
 refine wpAny_bind (nxt _ _ ?_)
 dsimp only
 exact qN hh ho hd (by simp) fin
theorem pM {I S T : Addr} {i n ep p : Nat} {e : Int × Value} {places : Array Value} {tn : Nat} {ot : Obj} {tp : Tok} {es : Array (Int × Value)} {t : SetTable} {Q : Option Value -> Shared -> Prop} (x : IsSI s.heap I S (.ref T) i n ep) (y : DO s.heap S es ep t) (hn : n = es.size)
  (hT : s.heap.get? T = some ot) (hTd : ot.data = .seq places tn) (hp : places[i]? = some (.int p tp)) (he : es[p]? = some e)
  (fin : ∀ h', IsSI h' I S (.ref T) (i + 1) n ep -> Heap.SameBut I s.heap h' -> Q (some e.2) { s with heap := h' }) : wpAny (model prog w) A (pyNext (.ref I)) Q E s := by
 refine jm x y hn ?_
 obtain ⟨o, ho, hc, hd⟩ := x
 obtain ⟨os, hos, hds, hf⟩ := y
 dsimp only
 refine wpAny_bind (wpAny_seqItems hT hTd ?_)
 dsimp only
 rw [hp]
 dsimp only
 unfold setNextDrawn
 refine wpAny_bind (wpAny_bind (wpAny_setState_of hos hds hf ?_))
 simp only [bne_self_eq_false, Bool.false_eq_true, if_false, Int.toNat_natCast, he]
 refine wpAny_pure ?_
 obtain ⟨o2, ho2, hc2, hd2⟩ := fB ho hd 1 (rawInt ((i : Int) + 1))
 refine wpAny_bind (wpAny_setField ho hd (by simp) ?_)
 refine wpAny_pure ⟨e.2, rfl, fin _ ⟨o2, ho2, hc2.trans hc, ?_⟩ (Heap.SameBut.update s.heap I _)⟩
 rw [hd2]
 simp [rawInt]
theorem so {I S T : Addr} {i n ep : Nat} {places : Array Value} {tn : Nat} {ot : Obj} {es : Array (Int × Value)} {t : SetTable} {Q : Option Value -> Shared -> Prop} (hh : A.handled = none) (x : IsSI s.heap I S (.ref T) i n ep) (y : DO s.heap S es ep t) (hn : n = es.size)
  (hT : s.heap.get? T = some ot) (hTd : ot.data = .seq places tn) (hp : places[i]? = none)
  (fin : ∀ h', Heap.ExtBut I s.heap h' -> Q none { s with heap := h' }) : wpAny (model prog w) A (pyNext (.ref I)) Q E s := by
 refine jm x y hn ?_
 obtain ⟨o, ho, hc, hd⟩ := x
 dsimp only
 refine wpAny_bind (wpAny_seqItems hT hTd ?_)
 dsimp only
 rw [hp]
 dsimp only
 obtain ⟨o1, ho1, hc1, hd1⟩ := fB ho hd 0 (rawInt 0)
 refine wpAny_bind (wpAny_setField ho hd (by simp) ?_)
 refine qN (s := { s with heap := s.heap.update I (Obj.mapFields (·.setIfInBounds 0 (rawInt 0))) }) hh ho1 hd1 (by simp) fun h' eb => fin h' fun b o' hb e => ?_
 refine eb b o' hb ?_
 exact (Heap.get?_update_other _ _ (Ne.symm hb)).trans e
end
theorem oi : Slot "set_iterator" "__iter__" "set_iterator.__iter__" :=
 .of (owner := "set_iterator") (n := "__iter__") (by rw [typeLookup_type, builtinLookup_eq_fast]; kernel_rfl) (by decide +kernel) (by decide +kernel) (by decide +kernel) (by first | exact .inl (by decide +kernel) | exact .inr (by decide +kernel)) (by rw [isSubtype_type]; kernel_rfl)
theorem su : entryFor table "set_iterator.__iter__" = some Builtin.«dict_keyiterator.__iter__» := entryFor_alias (id' := "dict_keyiterator.__iter__") (by kernel_rfl) rfl (by decide +kernel) (by kernel_rfl)
theorem uF (a : Value) : argsOk "set_iterator.__iter__" ⟨[a], []⟩ := by
 unfold argsOk
 kernel_rfl
theorem qP {α : Type} {l : List α} {k : Nat} (h : k < l.length) : ([l[k]] ++ l.eraseIdx k).Perm l := by
 rw [List.eraseIdx_eq_take_drop_succ]
 have e : l = l.take k ++ l[k] :: l.drop (k + 1) := by rw [List.getElem_cons_drop h, List.take_append_drop]
 conv => rhs; rw [e]
 rw [List.singleton_append]
 exact List.perm_middle.symm
theorem qQ {α : Type} (next : Nat -> Nat) : ∀ (fuel k : Nat) (left : List α) (out : Array α), left.length <= fuel -> ((pickOrder.go next fuel k left out).toList).Perm (out.toList ++ left)
 | 0, k, left, out, h => by
  have : left = [] := List.eq_nil_of_length_eq_zero (by lia)
  subst this
  unfold pickOrder.go
  simp
 | fuel + 1, k, left, out, h => by
  unfold pickOrder.go
  split
  next x e =>
   obtain ⟨hx, ex⟩ := List.getElem?_eq_some_iff.mp e
   have ih := qQ next fuel (k + 1) (left.eraseIdx (next k % left.length)) (out.push x) (by rw [List.length_eraseIdx]; split <;> lia)
   refine ih.trans ?_
   rw [Array.toList_push, List.append_assoc]
   refine List.Perm.append_left _ ?_
   rw [<- ex]
   exact qP hx
  next e =>
   have : left = [] := by
    rcases left with _ | ⟨a, r⟩
    ·rfl
    ·exfalso
     rw [List.getElem?_eq_none_iff] at e
     have := Nat.mod_lt (next k) (show 0 < (a :: r).length by simp)
     lia
   subst this
   simp
theorem iO {α : Type} (next : Nat -> Nat) (xs : Array α) : (pickOrder next xs).toList.Perm xs.toList := by
 unfold pickOrder
 have := qQ next xs.size 0 xs.toList #[] (by simp)
 simpa using this
section
variable {prog : Program} {w : World} {A : Around} {E : Cw} {s : Shared}
theorem mK {I S : Addr} {first : Value} {i n ep : Nat} {Q : Cw} (x : IsSI s.heap I S first i n ep) (h : Q (.ref I) s) : wpAny (model prog w) A (pyIter (.ref I)) Q E s := by
 refine wpAny_pyIter_slot x.ty oi (wpAny_call_entry oi x.ty su ?_ (uF _))
 show wpAny (model prog w) _ (ret (Value.ref I)) _ _ s
 exact wpAny_pure ⟨_, rfl, "set_iterator", _, x.ty, gc.lookup, h⟩
theorem IsSI.keep {h h' : Heap} {I S : Addr} {first : Value} {i n ep : Nat} (x : IsSI h I S first i n ep) (k : ∀ o, h.get? I = some o -> h'.get? I = some o) : IsSI h' I S first i n ep := let ⟨o, ho, r⟩ := x; ⟨o, k o ho, r⟩
theorem sv {t : SetTable} {n : Nat} (h : t.fits n = true) : t.place.size = n := by
 simp only [SetTable.fits, Bool.and_eq_true, beq_iff_eq] at h
 exact h.1
theorem pN (hh : A.handled = none) {I S : Addr} (hne : S ≠ I) {es : Array (Int × Value)} {ep : Nat} {t : SetTable} (hf : t.fits es.size = true) (ht : txt w = false) (hp : t.plain = true \/ es.size <= 1) (hl : t.led = true) (hr : Rise t.place.toList) :
  WalksS prog w A I [I, S] [I] (fun a b => b = a) es.size (fun i v => (es.toList.map (·.2))[i]? = some v) (fun i s => ∃ slot, IsSI s.heap I S (.int ((slot : Nat) : Int) 0) i es.size ep /\ LowB t.place slot i /\ DO s.heap S es ep t) where
 sub := fun b hb => by simp at hb; simp [hb]
 grefl := fun _ => rfl
 gtrans := fun _ _ _ h1 h2 => h2.trans h1
 frame := fun i s h' tk ⟨slot, x, l, y⟩ _ k => ⟨slot, x.keep fun o e => k I (by simp) o e, l, y.keep fun o e => k S (by simp) o e⟩
 item := fun i s Q E hi ⟨slot, x, l, y⟩ fin => by
  have hps := sv hf
  have ei : es[i]? = some es[i] := Array.getElem?_eq_getElem hi
  have ej : t.place[i]? = some (t.place[i]'(by lia)) := Array.getElem?_eq_getElem (by lia)
  have hb : SetTable.below t.place slot = i := (iq hr slot).uniq l
  generalize hj : t.place[i]'(by lia) = j at ej
  refine og (nx := j + 1) (v := es[i].2) x y rfl (fun Q' E' q => gK y ht hp hl (by rw [hb, ei, ej]; exact q)) fun h' x' sb => ?_
  refine fin _ _ (by rw [List.getElem?_map, Array.getElem?_toList, ei]; rfl) ⟨j + 1, x', ⟨by lia, fun k z hk hz => ?_, fun k z hk hz => ?_⟩, y.keep fun o e => by rw [sb.2 S hne]; exact e⟩ ⟨fun b o hb e => ?_, rfl, rfl, rfl, Nat.le_refl _⟩
  ·rcases Nat.lt_or_ge k i with c | c
   ·have := gA hr c hz ej
    lia
   ·have : k = i := by lia
    subst this
    rw [ej] at hz
    cases hz
    lia
  ·have := gA hr (show i < k by lia) ej hz
   lia
  ·show h'.get? b = some o
   rw [sb.2 b (fun c => hb (by simp [c]))]
   exact e
 done := fun s Q E ⟨slot, x, l, y⟩ fin => by
  have hb : SetTable.below t.place slot = es.size := (iq hr slot).uniq l
  have en : es[es.size]? = none := Array.getElem?_eq_none (Nat.le_refl _)
  refine qO hh x y rfl (fun Q' E' q => gK y ht hp hl (by rw [hb, en]; exact q)) fun h' eb => ?_
  exact fin _ ⟨fun b o hb e => eb b o (fun c => hb (by simp [c])) e, rfl, rfl, rfl, Nat.le_refl _⟩
 self := fun i s Q E ⟨slot, x, l, y⟩ q => mK x q
theorem sy (hh : A.handled = none) {I S : Addr} (hne : S ≠ I) {es : Array (Int × Value)} {ep : Nat} {t : SetTable} (ht : txt w = true) :
  WalksS prog w A I [I, S] [I] (fun a b => b = a) es.size (fun i v => ((pickOrder (w.params.setOrder S ep) es).toList.map (·.2))[i]? = some v) (fun i s => IsSI s.heap I S (.int ((0 : Nat) : Int) 0) i es.size ep /\ DO s.heap S es ep t) where
 sub := fun b hb => by simp at hb; simp [hb]
 grefl := fun _ => rfl
 gtrans := fun _ _ _ h1 h2 => h2.trans h1
 frame := fun i s h' tk ⟨x, y⟩ _ k => ⟨x.keep fun o e => k I (by simp) o e, y.keep fun o e => k S (by simp) o e⟩
 item := fun i s Q E hi ⟨x, y⟩ fin => by
  have hsz : (pickOrder (w.params.setOrder S ep) es).size = es.size := by
   have := (iO (w.params.setOrder S ep) es).length_eq
   simpa using this
  have ei : (pickOrder (w.params.setOrder S ep) es)[i]? = some ((pickOrder (w.params.setOrder S ep) es)[i]'(by lia)) := Array.getElem?_eq_getElem (by lia)
  generalize (pickOrder (w.params.setOrder S ep) es)[i]'(by lia) = e0 at ei
  refine og (nx := 0) (v := e0.2) x y rfl (fun Q' E' q => iu y ht (by rw [ei]; exact q)) fun h' x' sb => ?_
  refine fin _ _ (by rw [List.getElem?_map, Array.getElem?_toList, ei]; rfl) ⟨x', y.keep fun o e => by rw [sb.2 S hne]; exact e⟩ ⟨fun b o hb e => ?_, rfl, rfl, rfl, Nat.le_refl _⟩
  show h'.get? b = some o
  rw [sb.2 b (fun c => hb (by simp [c]))]
  exact e
 done := fun s Q E ⟨x, y⟩ fin => by
  have hsz : (pickOrder (w.params.setOrder S ep) es).size = es.size := by
   have := (iO (w.params.setOrder S ep) es).length_eq
   simpa using this
  have en : (pickOrder (w.params.setOrder S ep) es)[es.size]? = none := Array.getElem?_eq_none (by lia)
  refine qO hh x y rfl (fun Q' E' q => iu y ht (by rw [en]; exact q)) fun h' eb => ?_
  exact fin _ ⟨fun b o hb e => eb b o (fun c => hb (by simp [c])) e, rfl, rfl, rfl, Nat.le_refl _⟩
 self := fun i s Q E ⟨x, y⟩ q => mK x q
noncomputable def rawP (l : List Nat) : List Value := l.map fun (i : Nat) => rawInt (i : Int)
theorem pO (hh : A.handled = none) {I S T : Addr} (hne : S ≠ I) (hnT : T ≠ I) {es : Array (Int × Value)} {ep : Nat} {t : SetTable} {l : List Nat} (hl : l.Perm (List.range es.size)) :
  WalksS prog w A I [I, S, T] [I] (fun a b => b = a) es.size (fun i v => ∃ p e, l[i]? = some p /\ es[p]? = some e /\ v = e.2) (fun i s => IsSI s.heap I S (.ref T) i es.size ep /\ DO s.heap S es ep t /\ ∃ o tn, s.heap.get? T = some o /\ o.data = .seq (rawP l).toArray tn) where
 sub := fun b hb => by simp at hb; simp [hb]
 grefl := fun _ => rfl
 gtrans := fun _ _ _ h1 h2 => h2.trans h1
 frame := fun i s h' tk ⟨x, y, o, tn, z, zz⟩ _ k => ⟨x.keep fun o e => k I (by simp) o e, y.keep fun o e => k S (by simp) o e, o, tn, k T (by simp) o z, zz⟩
 item := fun i s Q E hi ⟨x, y, o, tn, z, zz⟩ fin => by
  have hlen : l.length = es.size := by simpa using hl.length_eq
  have el : l[i]? = some (l[i]'(by lia)) := List.getElem?_eq_getElem (by lia)
  generalize l[i]'(by lia) = p at el
  have hp : p < es.size := by simpa using hl.mem_iff.mp (List.mem_of_getElem? el)
  have ee : es[p]? = some es[p] := Array.getElem?_eq_getElem hp
  have ep' : (rawP l).toArray[i]? = some (.int (p : Int) 0) := by
   rw [List.getElem?_toArray]
   unfold rawP
   rw [List.getElem?_map, el]
   rfl
  refine pM x y rfl z zz ep' ee fun h' x' sb => ?_
  refine fin _ _ ⟨p, es[p], el, ee, rfl⟩ ⟨x', y.keep fun o e => by rw [sb.2 S hne]; exact e, o, tn, by show h'.get? T = some o; rw [sb.2 T hnT]; exact z, zz⟩ ⟨fun b o hb e => ?_, rfl, rfl, rfl, Nat.le_refl _⟩
  show h'.get? b = some o
  rw [sb.2 b (fun c => hb (by simp [c]))]
  exact e
 done := fun s Q E ⟨x, y, o, tn, z, zz⟩ fin => by
  have hlen : l.length = es.size := by simpa using hl.length_eq
  have en : (rawP l).toArray[es.size]? = none := by
   rw [List.getElem?_toArray]
   unfold rawP
   rw [List.getElem?_map, List.getElem?_eq_none (by lia)]
   rfl
  refine so hh x y rfl z zz en fun h' eb => ?_
  exact fin _ ⟨fun b o hb e => eb b o (fun c => hb (by simp [c])) e, rfl, rfl, rfl, Nat.le_refl _⟩
 self := fun i s Q E ⟨x, y, _⟩ q => mK x q
end
section
variable {prog : Program} {w : World} {A : Around} {E : Cw} {s : Shared}
theorem sA {src : Source} {n : Nat} {Q : Nat -> Shared -> Prop} (hn : n ≠ 0) (h : ∀ k d, k < n -> Q k { s with drawn := d }) : wpAny (model prog w) A (choose src n) Q E s :=
 fun _ _ _ => ⟨hn, h _ _ (Nat.mod_lt _ (Nat.pos_of_ne_zero hn))⟩
theorem qT {α : Type} : ∀ (n : Nat) (xs : List α) (s : Shared) (Q : List α -> Shared -> Prop), xs.length <= n -> (∀ l d, l.Perm xs -> Q l { s with drawn := d }) -> wpAny (model prog w) A (drawOrder n xs) Q E s
 | 0, xs, s, Q, h, fin => by
  have : xs = [] := List.eq_nil_of_length_eq_zero (by lia)
  subst this
  exact wpAny_pure (fin [] s.drawn (List.Perm.refl _))
 | n + 1, [], s, Q, h, fin => wpAny_pure (fin [] s.drawn (List.Perm.refl _))
 | n + 1, x :: r, s, Q, h, fin => by
  unfold drawOrder
  refine wpAny_bind (sA (by simp) fun k d hk => ?_)
  have e : (x :: r)[k]? = some ((x :: r)[k]) := List.getElem?_eq_getElem hk
  rw [e]
  dsimp only
  have hl : ((x :: r).eraseIdx k).length <= n := by
   rw [List.length_eraseIdx]
   split <;> simp at h ⊢ <;> lia
  refine wpAny_bind (qT n _ _ _ hl fun l d' hp => ?_)
  exact wpAny_pure (fin _ d' ((List.Perm.cons _ hp).trans (qP hk)))
noncomputable def Fi (prog : Program) (w : World) (s s1 : Shared) (S I : Addr) (L : List Int) : Prop :=
 ∃ (vs : List Value) (M : List Int) (fp wr : List Addr) (P : Nat -> Value -> Prop) (St : Nat -> Shared -> Prop), M.Perm L /\ IntsAre vs M /\ (∀ i v, P i v -> vs[i]? = some v) /\ (∀ A : Around, A.handled = none -> WalksS prog w A I fp wr (fun a b => b = a) vs.length P St) /\ St 0 s1 /\ (∀ b ∈ fp, b < s1.heap.objs.size) /\ (∀ b ∈ wr, s.heap.objs.size <= b) /\ I ∈ fp /\
  (∀ b o, s.heap.get? b = some o -> s1.heap.get? b = some o) /\ s1.gens = s.gens /\ s1.os = s.os /\ s1.toks = s.toks /\ (∀ b ∈ fp, b = S \/ s.heap.objs.size <= b) /\ vs.length <= sizeLine
theorem mL {s s1 : Shared} {S I : Addr} {L M : List Int} {vs : List Value} {n : Nat} {fp wr : List Addr} {P : Nat -> Value -> Prop} {St : Nat -> Shared -> Prop} (W : ∀ A : Around, A.handled = none -> WalksS prog w A I fp wr (fun a b => b = a) n P St) (hn : vs.length = n) (hM : M.Perm L) (hI : IntsAre vs M) (hP : ∀ i v, P i v -> vs[i]? = some v) (st : St 0 s1)
  (h1 : ∀ b ∈ fp, b < s1.heap.objs.size) (h2 : ∀ b ∈ wr, s.heap.objs.size <= b) (h3 : I ∈ fp) (h4 : ∀ b o, s.heap.get? b = some o -> s1.heap.get? b = some o) (h5 : s1.gens = s.gens) (h6 : s1.os = s.os) (h7 : s1.toks = s.toks) (h8 : ∀ b ∈ fp, b = S \/ s.heap.objs.size <= b) (h9 : n <= sizeLine) : Fi prog w s s1 S I L := by
 subst hn
 exact ⟨vs, M, fp, wr, P, St, hM, hI, hP, W, st, h1, h2, h3, h4, h5, h6, h7, h8, h9⟩
theorem jn : ∀ {l : List (Int × Value)}, (∀ e ∈ l, EntI e) -> IntsAre (l.map (·.2)) (l.map keyE)
 | [], _ => .nil
 | e :: r, h => by
  obtain ⟨_, tk, e2⟩ := h e (by simp)
  have ih := jn (l := r) fun x hx => h x (by simp [hx])
  rw [List.map_cons, List.map_cons, e2]
  exact .cons _ tk ih
theorem uG (es : Array (Int × Value)) (t : SetTable) (a : Addr) {o : Obj} {ep : Nat} {Q : Bool -> Shared -> Prop} (ho : s.heap.get? a = some o) (hd : o.data = .set es ep t) (hf : t.fits es.size = true) (h : Q (!txt w && (!t.plain && decide (es.size > 1))) s) : wpAny (model prog w) A (setDrawn a) Q E s := by
 unfold setDrawn
 refine wpAny_bind (wpAny_setState_of ho hd hf ?_)
 dsimp only
 exact wpAny_bind (gB (wpAny_pure h))
theorem uH {S : Addr} {L : List Int} {Q : Cw} (x : SX w s.heap S L) (fin : ∀ s1 I, Fi prog w s s1 S I L -> Q (.ref I) s1) : wpAny (model prog w) A (pyIter (.ref S)) Q E s := by
 obtain ⟨o, es, ep, t, ho, hex, hd, h1, h2, h3, h4, h5⟩ := x
 have hT : s.TypeIs (.ref S) "set" := ⟨o, ho, hex.1⟩
 have hSl : S < s.heap.objs.size := Heap.lt_size ho
 refine wpAny_pyIter_slot hT PySem.F.slot_set_iter (wpAny_call_entry PySem.F.slot_set_iter hT o8 ?_ (PySem.F.args_set_iter_1 _))
 unfold Builtin.«frozenset.__iter__»
 unfold Builtin.Frozenset.slot0
 unfold slotArgs
 simp only [List.isEmpty_nil, Bool.not_true, Bool.false_eq_true, if_false, List.length_nil, bne_self_eq_false]
 unfold Builtin.Frozenset.addrOf
 unfold Builtin.Frozenset.sizeOf
 refine wpAny_bind (wpAny_bind (wpAny_pure ?_))
 dsimp only
 refine wpAny_pure ?_
 refine wpAny_bind (wpAny_bind (wpAny_setEntries_of ho hd h4 (wpAny_pure ?_)))
 refine wpAny_bind (uG es t S ho hd h4 ?_)
 have hz : es.size <= sizeLine := fits_of_scanBound h3
 split
 next hc =>
  refine wpAny_bind (qT es.size (List.range es.size) s _ (by simp) fun l d hp => ?_)
  have hll : l.length = es.size := by simpa using hp.length_eq
  simp only [newTuple]
  refine wpAny_bind (wpAny_newObj_type ?_ (by show (List.map _ l).toArray.size <= sizeLine; simp; lia))
  have ho1 : (s.heap.push { cls := .type "tuple", data := .seq (List.map (fun (i : Nat) => rawInt (i : Int)) l).toArray }).get? S = some o := Heap.get?_push_of_some _ ho
  refine wpAny_bind (wpAny_setEpoch_of (s := { s with heap := s.heap.push { cls := .type "tuple", data := .seq (List.map (fun (i : Nat) => rawInt (i : Int)) l).toArray }, drawn := d }) ho1 hd h4 ?_)
  simp only [newFields]
  refine wpAny_bind (wpAny_newObj_type (wpAny_pure ⟨_, rfl, "set_iterator", _, ⟨_, Heap.get?_push_size _ rfl, rfl⟩, gc.lookup, fin _ _ ?_⟩))
  have hsz : (s.heap.push { cls := .type "tuple", data := .seq (List.map (fun (i : Nat) => rawInt (i : Int)) l).toArray }).objs.size = s.heap.objs.size + 1 := by rw [Heap.size_push]
  have hvs : (l.map fun p => (es[p]?.getD (0, .none)).2).length = es.size := by simp [hll]
  have hperm : (l.map fun p => es[p]?.getD (0, .none)).Perm es.toList := by
   refine (hp.map _).trans ?_
   have : (List.range es.size).map (fun p => es[p]?.getD (0, .none)) = es.toList := by
    apply List.ext_getElem?
    intro k
    rw [List.getElem?_map]
    by_cases hk : k < es.size
    ·rw [List.getElem?_range hk]
     simp [hk]
    ·rw [List.getElem?_eq_none (by simpa using hk), List.getElem?_eq_none (by simpa using hk)]
     rfl
   rw [this]
  have n1 : S ≠ (s.heap.push { cls := .type "tuple", data := .seq (List.map (fun (i : Nat) => rawInt (i : Int)) l).toArray }).objs.size := by rw [hsz]; exact Nat.ne_of_lt (Nat.lt_succ_of_lt hSl)
  have n2 : s.heap.objs.size ≠ (s.heap.push { cls := .type "tuple", data := .seq (List.map (fun (i : Nat) => rawInt (i : Int)) l).toArray }).objs.size := by rw [hsz]; exact Nat.ne_of_lt (Nat.lt_succ_self _)
  refine mL (n := es.size) (M := (l.map fun p => es[p]?.getD (0, .none)).map keyE) (vs := (l.map fun p => es[p]?.getD (0, .none)).map (·.2)) (fun A' hA => pO hA (S := S) (T := s.heap.objs.size) n1 n2 (es := es) (l := l) (t := t) (ep := ep) hp) (by rw [List.length_map, List.length_map]; exact hll) ((hperm.map keyE).trans h2) (jn fun e he => h1 e (hperm.mem_iff.mp he)) ?_ ⟨⟨_, Heap.get?_push_size _ rfl, rfl, ?_⟩, ⟨o, Heap.get?_push_of_some _ ho1, hd, h4⟩, ⟨_, 0, Heap.get?_push_of_some _ (Heap.get?_push_size _ rfl), rfl⟩⟩ ?_ ?_ ?_ (fun b o' e => Heap.get?_push_of_some _ (Heap.get?_push_of_some _ e)) rfl rfl rfl ?fo hz
  case fo =>
   intro b hb
   simp only [List.mem_cons, List.not_mem_nil, or_false] at hb
   rcases hb with rfl | rfl | rfl
   ·exact .inr (by rw [hsz]; exact Nat.le_succ _)
   ·exact .inl rfl
   ·exact .inr (Nat.le_refl _)
  ·rintro i v ⟨p, e, e1, e2, rfl⟩
   rw [List.getElem?_map, List.getElem?_map, e1]
   simp [e2]
  ·simp [rawInt]
  ·intro b hb
   show b < ((s.heap.push _).push _).objs.size
   rw [Heap.size_push, Heap.size_push]
   simp only [List.mem_cons, List.not_mem_nil, or_false] at hb
   rcases hb with rfl | rfl | rfl
   ·rw [hsz]; exact Nat.lt_succ_self _
   ·exact Nat.lt_succ_of_lt (Nat.lt_succ_of_lt hSl)
   ·exact Nat.lt_succ_of_lt (Nat.lt_succ_self _)
  ·intro b hb
   rw [List.mem_singleton] at hb
   rw [hb, hsz]
   exact Nat.le_succ _
  ·simp
 next hc =>
  refine wpAny_bind (wpAny_pure ?_)
  refine wpAny_bind (wpAny_setEpoch_of ho hd h4 ?_)
  simp only [newFields]
  refine wpAny_bind (wpAny_newObj_type (wpAny_pure ⟨_, rfl, "set_iterator", _, ⟨_, Heap.get?_push_size _ rfl, rfl⟩, gc.lookup, fin _ _ ?_⟩))
  cases ht : txt w with
  | true =>
   have hperm := iO (w.params.setOrder S ep) es
   refine mL (M := (pickOrder (w.params.setOrder S ep) es).toList.map keyE) (vs := (pickOrder (w.params.setOrder S ep) es).toList.map (·.2)) (fun A' hA => sy hA (I := s.heap.objs.size) (S := S) (es := es) (ep := ep) (Nat.ne_of_lt hSl) (t := t) ht) (by rw [List.length_map, hperm.length_eq]; simp) ((hperm.map keyE).trans h2) (jn fun e he => h1 e (hperm.mem_iff.mp he)) (fun i v h => h) ⟨⟨_, Heap.get?_push_size _ rfl, rfl, ?_⟩, ⟨o, Heap.get?_push_of_some _ ho, hd, h4⟩⟩ ?_ ?_ ?_ (fun b o' e => Heap.get?_push_of_some _ e) rfl rfl rfl ?fo hz
   case fo =>
    intro b hb
    simp only [List.mem_cons, List.not_mem_nil, or_false] at hb
    rcases hb with rfl | rfl
    ·exact .inr (Nat.le_refl _)
    ·exact .inl rfl
   ·simp [rawInt]
   ·intro b hb
    show b < (s.heap.push _).objs.size
    rw [Heap.size_push]
    simp only [List.mem_cons, List.not_mem_nil, or_false] at hb
    rcases hb with rfl | rfl
    ·exact Nat.lt_succ_self _
    ·exact Nat.lt_succ_of_lt hSl
   ·intro b hb
    rw [List.mem_singleton] at hb
    rw [hb]
    exact Nat.le_refl _
   ·simp
  | false =>
   rw [ht] at hc h5
   have hp : t.plain = true \/ es.size <= 1 := by
    cases hpl : t.plain with
    | true => exact .inl rfl
    | false =>
     rw [hpl] at hc
     simp at hc
     exact .inr hc
   refine mL (M := es.toList.map keyE) (vs := es.toList.map (·.2)) (fun A' hA => pN hA (I := s.heap.objs.size) (S := S) (ep := ep) (Nat.ne_of_lt hSl) h4 ht hp h5.led h5.rise) (by simp) h2 (jn h1) (fun i v h => h) ⟨0, ⟨_, Heap.get?_push_size _ rfl, rfl, ?_⟩, ⟨Nat.zero_le _, fun i x hi => by lia, fun i x _ _ => Nat.zero_le _⟩, ⟨o, Heap.get?_push_of_some _ ho, hd, h4⟩⟩ ?_ ?_ ?_ (fun b o' e => Heap.get?_push_of_some _ e) rfl rfl rfl ?fo hz
   case fo =>
    intro b hb
    simp only [List.mem_cons, List.not_mem_nil, or_false] at hb
    rcases hb with rfl | rfl
    ·exact .inr (Nat.le_refl _)
    ·exact .inl rfl
   ·simp [rawInt]
   ·intro b hb
    show b < (s.heap.push _).objs.size
    rw [Heap.size_push]
    simp only [List.mem_cons, List.not_mem_nil, or_false] at hb
    rcases hb with rfl | rfl
    ·exact Nat.lt_succ_self _
    ·exact Nat.lt_succ_of_lt hSl
   ·intro b hb
    rw [List.mem_singleton] at hb
    rw [hb]
    exact Nat.le_refl _
   ·simp
end
abbrev nilL : Obj := { cls := .type "list", data := .seq ([] : List Value).toArray }
section
variable {prog : Program} {w : World} {A : Around} {E : Cw} {s : Shared}
theorem oj : isSubtype (.type "set") (.type "set") = pure true := by rw [isSubtype_type]; kernel_rfl
theorem pP {vs : List Value} {acc : Array Value} {P : Nat -> Value -> Prop} (hP : ∀ i v, P i v -> vs[i]? = some v) (h : ItemsOf P acc vs.length) : acc.toList = vs := by
 apply List.ext_getElem?
 intro i
 by_cases hi : i < acc.size
 ·have e : acc[i]? = some acc[i] := Array.getElem?_eq_getElem hi
  rw [Array.getElem?_toList, e, hP i _ (h.2 i _ e)]
 ·rw [List.getElem?_eq_none (by simpa using hi), List.getElem?_eq_none (by rw [<- h.1]; omega)]
theorem uI {S : Addr} {Q : Bool -> Shared -> Prop} (hT : s.TypeIs (.ref S) "set") (h : Q false s) : wpAny (model prog w) A (Builtin.List.listLengthHint (.ref S)) Q E s := by
 unfold Builtin.List.listLengthHint
 refine wpAny_bind (wpAny_specialOf hT PySem.F.slot_set_len.lookup ?_)
 generalize hq : ("set.__len__" : String) = nm
 wp_delta
 rw [show splitId nm = some ("set", "__len__") from by subst hq; decide +kernel]
 subst hq
 refine wpAny_bind (wpAny_isInstance (b := true) hT oj ?_)
 rw [if_neg (show ¬ (!true) = true by decide)]
 split
 next =>
  refine wpAny_bind (wpAny_typeOf hT ?_)
  exact wpAny_pure h
 next hc => exact absurd (by decide +kernel) hc
theorem om {S : Addr} {L : List Int} {Q : List Value -> Shared -> Prop} (hh : A.handled = none) (x : SX w s.heap S L)
  (fin : ∀ s' vs M, M.Perm L -> IntsAre vs M -> (∀ b o, s.heap.get? b = some o -> s'.heap.get? b = some o) -> s'.gens = s.gens -> s'.os = s.os -> s.heap.objs.size < s'.heap.objs.size -> Q vs s') :
  wpAny (model prog w) A (collect (.ref S)) Q E s := by
 have hSl : S < s.heap.objs.size := let ⟨o, _, _, _, ho, _⟩ := x; Heap.lt_size ho
 have x1 : SX w (s.heap.push nilL) S L := x.keep fun o e => Heap.get?_push_of_some _ e
 have hT : Shared.TypeIs { s with heap := s.heap.push nilL } (.ref S) "set" := let ⟨o, _, _, _, ho, hex, _⟩ := x1; ⟨o, ho, hex.1⟩
 have hD : (s.heap.push nilL).get? s.heap.objs.size = some nilL := Heap.get?_push_size _ rfl
 unfold collect
 refine wpAny_bind (wpAny_runValue (codeAny_builtin PySem.F.entry_proto_collect ?_))
 rw [Around.under_plainId PySem.F.plain_proto_collect]
 show wpAny (model prog w) A.in1 (newList [] >>= fun l => again (.builtin "list.__iadd__" ⟨[l, .ref S], []⟩)) _ _ s
 refine wpAny_bind (wpAny_newObj_type ?_)
 refine wpAny_pure ⟨plainId_quiet PySem.F.plain_list_iadd _, codeAny_builtin PySem.F.entry_list_iadd ?_⟩
 rw [Around.under_plainId PySem.F.plain_list_iadd]
 show wpAny (model prog w) A.in1 (Builtin.List.listExtendWith (.ref s.heap.objs.size) (.ref S) (.ref s.heap.objs.size)) _ _ _
 unfold Builtin.List.listExtendWith
 refine wpAny_bind (wpAny_typeOf hT ?_)
 have e1 : Builtin.List.listSameRef (.ref s.heap.objs.size) (.ref S) = false := by
  simp only [Builtin.List.listSameRef, beq_eq_false_iff_ne, ne_eq]
  exact Nat.ne_of_gt hSl
 have e2 : (Value.type "set" == Value.type "list") = false := by decide
 have e3 : (Value.type "set" == Value.type "tuple") = false := by decide
 simp only [e1, e2, e3, Bool.or_false, Bool.false_eq_true, if_false]
 refine wpAny_bind (uH (s := { s with heap := s.heap.push nilL }) x1 fun s1 I ok => ?_)
 obtain ⟨vs, M, fp, wr, P, St, hM, hI, hP, W, st, h1, h2, h3, h4, h5, h6, h7, h8, hn⟩ := ok
 have hT1 : s1.TypeIs (.ref S) "set" := let ⟨o, ho, hc⟩ := hT; ⟨o, h4 S o ho, hc⟩
 refine wpAny_bind (wpAny_holding (uI hT1 ?_))
 have W1 := W A.in1 (by simp [hh])
 have hD1 : s1.heap.get? s.heap.objs.size = some nilL := h4 _ _ hD
 have hpz : (s.heap.push nilL).objs.size = s.heap.objs.size + 1 := by rw [Heap.size_push]
 have hDf : s.heap.objs.size ∉ fp := fun z => by
  rcases h8 _ z with c | c
  ·exact Nat.ne_of_gt hSl c
  ·have c' : (s.heap.push nilL).objs.size <= s.heap.objs.size := c
   rw [hpz] at c'
   exact Nat.not_succ_le_self _ c'
 split
 next =>
  refine wpAny_bind (wpAny_rule ?_)
  refine wpAny_bind ?_
  show wpAny (model prog w) A.in1 (updateSeq s.heap.objs.size (·.push .none) >>= fun _ => updateSeq s.heap.objs.size (·.pop)) _ _ _
  have u1 := Heap.get?_update_self (Obj.mapSeq (·.push Value.none)) hD1 rfl
  have u2 := Heap.get?_update_self (Obj.mapSeq (·.pop)) u1 rfl
  have oth : ∀ b o, b ≠ s.heap.objs.size -> s1.heap.get? b = some o -> ((s1.heap.update s.heap.objs.size (Obj.mapSeq (·.push Value.none))).update s.heap.objs.size (Obj.mapSeq (·.pop))).get? b = some o :=
   fun b o hb e => (Heap.get?_update_other _ _ (Ne.symm hb)).trans ((Heap.get?_update_other _ _ (Ne.symm hb)).trans e)
  refine wpAny_bind (wpAny_updateSeq hD1 rfl ?_)
  refine wpAny_updateSeq u1 rfl ?_
  refine wpAny_pure ⟨plainId_quiet PySem.F.plain_extend_loop _, codeAny_extend_loopS W1 hn _ hDf _ vs.length 0 _ _ _ rfl (Nat.zero_le _) (W1.frame 0 s1 _ s1.toks st (Nat.le_refl _) fun b hb o e => oth b o (fun z => hDf (z ▸ hb)) e) u2 (ItemsOf.nil P) fun s' acc c mv hL ha => ?_⟩
  refine wpAny_bind (wpAny_load hL ?_)
  show wpAny (model prog w) A (pure acc.toList) Q E s'
  rw [pP hP ha]
  refine wpAny_pure (fin s' vs M hM hI (fun b o e => ?_) (mv.gens.trans h5) (mv.os.trans h6) (Heap.lt_size hL))
  have hb : b < s.heap.objs.size := Heap.lt_size e
  refine mv.heap b o (fun z => ?_) (oth b o (Nat.ne_of_lt hb) (h4 b o (Heap.get?_push_of_some _ e)))
  rcases List.mem_cons.mp z with z | z
  ·exact Nat.ne_of_lt hb z
  ·have c : (s.heap.push nilL).objs.size <= b := h2 b z
   rw [hpz] at c
   exact Nat.lt_irrefl _ (Nat.lt_of_lt_of_le (Nat.lt_succ_of_lt hb) c)
 next hc => exact absurd (by decide +kernel) hc
end
variable [Tabs]
theorem Inv.same {X : Cx} {pins : Cv} {σ : List (Option V)} {H : Hp} {s s' : Shared} (I : Inv X pins σ H s) (h1 : s'.heap = s.heap) (h2 : s'.gens = s.gens) (h3 : s'.os = s.os) : Inv X pins σ H s' := by
 obtain ⟨a1, a2, a3, a4, a5, a6, a7, a8, a9, a10, a11⟩ := I
 exact ⟨a1, h3 ▸ a2, h2 ▸ a3, h1 ▸ a4, h1 ▸ a5, h1 ▸ a6, a7, a8, h1 ▸ a9, h1 ▸ a10, a11⟩
noncomputable def EO (w : World) (p : Addr) (L : List Int) : Heap -> Prop := fun h => SX w h p L
noncomputable def Dv (ns : List Int) : List Int := ns.foldl addK []
theorem sC (ns : List Int) : (Dv ns).length <= ns.length := by
 have : ∀ (l acc : List Int), (l.foldl addK acc).length <= acc.length + l.length := by
  intro l
  induction l with
  | nil => intro acc; simp
  | cons a r ih =>
   intro acc
   have h1 := ih (addK acc a)
   have h2 := o7 acc a
   rw [List.foldl_cons, List.length_cons]
   lia
 have := this ns []
 simpa [Dv] using this
section
variable {X : Cx} {pins : Cv} {σ : List (Option V)} {H : Hp} {s : Shared}
noncomputable def F4 (w : World) (K : W.Frag) : List V -> Hp -> VK -> Prop := fun xs H Q => ∃ (l : Addr) (ns : List Int), xs = [.ref l] /\ SqR K H l (ns.map V.int) /\ ns.length < 64 /\ ∀ p, H p = none -> Q (.ref p) (upd H p (.ext (EO w p (Dv ns))))
theorem pQ (ns : List Int) : (List.range' 0 ns.length).map (fun i => ns.getD i 0) = ns := by
 apply List.ext_getElem?
 intro i
 rw [List.getElem?_map]
 by_cases h : i < ns.length
 ·rw [List.getElem?_range' h]
  simp [h]
 ·rw [List.getElem?_eq_none (by simpa using h), List.getElem?_eq_none (by simpa using h)]
  rfl
theorem sD (hc : X.calm = true) : Di X (.type "set") (F4 X.w X.K) := by
 intro pins s σ H xs us Q I r h
 obtain ⟨l, ns, rfl, hq, h64, q⟩ := h
 obtain ⟨u, rfl, r1⟩ := vals1 r
 cases r1
 obtain ⟨z, its, n, rv, hl, e⟩ := I.lstR hq
 have hI := bZ rv
 have hlen : its.length = ns.length := by rw [<- hl, List.length_map]
 refine uD (l := l) (items := its.toArray) (ns := ns) (I.ok.hd hc) ⟨_, e, rfl, n, rfl⟩ hI (by rw [List.size_toArray, hlen]; have : scanBound = 4096 := rfl; lia) fun s2 mk => ?_
 obtain ⟨h2, k2, rfl, sx, keep⟩ := mk
 have ez : its.toArray.size = ns.length := by rw [List.size_toArray, hlen]
 rw [ez, pQ] at sx
 have old : ∀ b o, s.heap.get? b = some o -> h2.get? b = some o := fun b o eo => keep b o (Heap.lt_size eo) eo
 refine ⟨.ref s.heap.objs.size, _, I.laid (t' := k2) (o := .ext (EO X.w s.heap.objs.size (Dv ns))) old (Nat.le_refl _) ?_, rfl, q _ (I.hok.fresh (Nat.le_refl _))⟩
 refine ⟨sx, ?_, fun h1 h2 a b => SX.keep a b⟩
 obtain ⟨o, _, _, _, ho, _⟩ := sx
 exact ⟨o, ho⟩
noncomputable def ER (w : World) : List V -> Hp -> VK -> Prop := fun xs H Q => ∃ (p : Addr) (L : List Int), xs = [.ref p] /\ H p = some (.ext (EO w p L)) /\ L.length < 64 /\ ∀ (ns' : List Int) q, ns'.Perm L -> ns'.Pairwise (· <= ·) -> H q = none -> Q (.ref q) (upd H q (.lst (ns'.map V.int)))
theorem pR (hc : X.calm = true) : Di X (.builtin "sorted") (ER X.w) := by
 intro pins s σ H xs us Q I r h
 obtain ⟨p, L, rfl, hp, h64, q⟩ := h
 obtain ⟨u, rfl, r1⟩ := vals1 r
 cases r1
 obtain ⟨sx, _, _⟩ : EO X.w p L s.heap /\ _ /\ _ := I.hok p _ hp
 refine Calls.call_function_entry kind_sorted plain_sorted entry_sorted (args_sorted1 _) ?_
 unfold Builtin.«sorted»
 refine wpAny_bind (m := checkCount "sorted" 1 1 _) (wpAny_pure ?_)
 refine wpAny_bind (om (by have := I.ok.hd hc; simpa using this) sx fun s' vs M hM hI old hg hos hsz => ?_)
 have hvl : vs.length < 64 := by rw [IntsAre.length hI, hM.length_eq]; exact h64
 refine wpAny_bind (wpAny_newList ?_ (by rw [sizeLine_eq]; lia))
 have hoL : (s'.heap.push (seqObj "list" vs.toArray 0)).get? s'.heap.objs.size = some (seqObj "list" vs.toArray 0) := Heap.get?_push_size _ rfl
 refine wpAny_bind (wpAny_holding (wpAny_call_entry slot_list_sort ⟨_, hoL, rfl⟩ entry_list_sort (list_sort_tree hoL hI hvl fun out ns' a1 a2 a3 => ⟨_, rfl, ?_⟩) (args_list_sort _)))
 refine wpAny_pure ⟨_, rfl, .ref s'.heap.objs.size, upd H s'.heap.objs.size (.lst (ns'.map V.int)), ?_, rfl, q ns' _ (a2.trans hM) a3 (I.hok.fresh (Nat.le_of_lt hsz))⟩
 have keep : ∀ b o, s.heap.get? b = some o -> (sortedHeap (s'.heap.push (seqObj "list" vs.toArray 0)) s'.heap.objs.size vs out).get? b = some o := fun b o e => by
  have e1 := old b o e
  have l1 : b < s'.heap.objs.size := Heap.lt_size e1
  rw [sortedHeap_old (Nat.ne_of_lt l1) (by rw [Heap.size_push]; exact Nat.lt_succ_of_lt l1)]
  exact Heap.get?_push_of_some _ e1
 obtain ⟨e2, he⟩ := sortedHeap_at (out := out) hoL
 have I2 : Inv X pins σ (upd H s'.heap.objs.size (.lst (ns'.map V.int))) { s with heap := sortedHeap (s'.heap.push (seqObj "list" vs.toArray 0)) s'.heap.objs.size vs out, toks := s.toks } := I.laid keep (Nat.le_of_lt hsz) ⟨by
  rw [List.length_map, a2.length_eq, hM.length_eq]
  exact Nat.le_trans (Nat.le_of_lt h64) (by decide), out.toList, e2, dH a1, he⟩
 exact I2.same rfl hg hos
end
noncomputable def E1 : Ct -> Option SD
 | [.list xs] => if xs.length < 64 then (CV xs).map fun ns => .ol ((D2 (Dv ns)).map PyData.int) else none
 | _ => none
@[simp] theorem xi (xs : Ct) : E1 [.list xs] = if xs.length < 64 then (CV xs).map fun ns => .ol ((D2 (Dv ns)).map PyData.int) else none := rfl
theorem sE {w : World} {K : W.Frag} {mg : Cu} : CW K mg E1 (fun vs H Q => F4 w K vs H fun v H2 => ER w [v] H2 Q) := by
 intro G H vs ds res Q hg hd ho k
 unfold E1 at ho
 split at ho
 next xs =>
  split at ho
  next hl =>
   cases e : CV xs with
   | none => rw [e] at ho; cases ho
   | some ns =>
    rw [e] at ho
    cases ho
    obtain ⟨x, rfl, h1⟩ := dts1 hd
    cases h1 with
    | lst q r =>
     have hx := cV r e
     subst hx
     have hln : ns.length < 64 := by
      have := r.len
      rw [List.length_map] at this
      lia
     refine ⟨_, ns, rfl, hg.sqr q, hln, fun p hp => ⟨p, Dv ns, rfl, ao, Nat.lt_of_le_of_lt (sC ns) hln, fun ns' q2 hP hR hq2 => ?_⟩⟩
     have hne : q2 ≠ p := fun z => by
      subst z
      rw [ao] at hq2
      cases hq2
     have hq0 : H q2 = none := by rw [ag hne] at hq2; exact hq2
     have hs : ns' = D2 (Dv ns) := ib hP hR
     subst hs
     refine k _ _ G ((Grow.laidO hg hp).trans (Grow.laidO (hg.trans (aA hp)) hq2)) ⟨⟨q2, _, rfl, hg.free hq0, ao, Dts.ints _⟩, fun _ a ea => ?_⟩
     cases ea
     exact hq0
  next => cases ho
 next => cases ho
section
variable {X : Cx} {E : XK} {a : Expr} {oa : Opd} {p1 p2 pos1 pos2 : Pos}
theorem pT (hc : X.calm = true) (hm : X.mg "sorted" = none) (hm2 : X.mg "set" = none) (ha : SO X E a oa) (hg : Gl X "sorted" := by rfl) (hg2 : Gl X "set" := by rfl) (hst : starEach [a] X.env = [(false, eval a X.env)] := by rfl)
  (hst2 : starEach [.Call (.Name "set" p2) [a] [] pos2] X.env = [(false, eval (.Call (.Name "set" p2) [a] [] pos2) X.env)] := by rfl) : SE X E (.Call (.Name "sorted" p1) [.Call (.Name "set" p2) [a] [] pos2] [] pos1) (eOp E1 [oa]) :=
 (fQ (pR hc) hg hm boot_sorted (aL (kZ (sD hc) hg2 hm2 boot_set (aa ha aj hst) (by decide) (by decide) hst rfl) cE hst2) (by decide) (by decide) hst2 rfl).weak fun σ H Q q => by
  show tOs X.K X.mg E [oa] σ H (fun vs H1 => F4 X.w X.K vs H1 fun v H2 => ER X.w [v] H2 Q)
  exact ia (r := fun vs H Q => F4 X.w X.K vs H fun v H2 => ER X.w [v] H2 Q) sE q
end
section
variable {X : Cx} {E : XK} {a : Expr} {oa : Opd} {pos p : Pos}
theorem sF (hm : X.mg "sorted" = none) (hb : bootBuiltins "sorted" = some (.builtin "sorted")) (ha : SO X E a oa) (hg : Gl X "sorted" := by rfl) (hst : starEach [a] X.env = [(false, eval a X.env)] := by rfl) : SE X E (.Call (.Name "sorted" p) [a] [] pos) (eOp DQ [oa]) :=
 dM kJ ua hm hb (aa ha aj hst) hg (by decide) (by decide) hst rfl
end
@[simp] theorem pU (xs : Ct) : DQ [.tuple xs] = if xs.length < 64 then (CV xs).map fun ns => .ol ((D2 ns).map PyData.int) else none := rfl
end L2
namespace L2
open Sy (Ec D9 Dj Dk allC)
variable [Tabs]
noncomputable def ix (p : Int) : Nat := (absI p - 1).toNat
noncomputable def chAt (ch : List (Option Int)) (i : Nat) : Option Int := ch.getD i none
noncomputable def litO (ch : List (Option Int)) (p : Int) : Bool := decide (chAt ch (ix p) = some (if 0 < p then 1 else 0))
noncomputable def DV (ch : List (Option Int)) (p : Int) : Bool := decide (chAt ch (ix p) = none)
noncomputable def sayO (ch : List (Option Int)) (s : List Int) : Bool := s.any (litO ch)
structure ChOk (n : Nat) (ch : List (Option Int)) : Prop where
 len : ch.length = n
 bit : ∀ v, some v ∈ ch -> v = 0 \/ v = 1
noncomputable def unset (ch : List (Option Int)) : Nat := ch.countP (·.isNone)
noncomputable def E5 (ch : List (Option Int)) : List Int := ch.map (·.getD 0)
noncomputable def Ext (ch : List (Option Int)) (c : List Int) : Prop := ∀ i v, chAt ch i = some v -> c.getD i 0 = v
theorem cu {ch : List (Option Int)} {i j : Nat} {v : Option Int} (hi : i < ch.length) : chAt (ch.set i v) j = if j = i then v else chAt ch j := by
 unfold chAt
 rw [List.getD_eq_getElem?_getD, List.getD_eq_getElem?_getD]
 by_cases h : j = i
 ·subst h; rw [List.getElem?_set_self hi, if_pos rfl]; rfl
 ·rw [List.getElem?_set_ne (Ne.symm h), if_neg h]
theorem jY {ch : List (Option Int)} {i : Nat} {v : Int} (h : chAt ch i = some v) : some v ∈ ch /\ i < ch.length := by
 unfold chAt at h
 rw [List.getD_eq_getElem?_getD] at h
 cases e : ch[i]? with
 | none => rw [e] at h; cases h
 | some o =>
  rw [e] at h
  have : o = some v := h
  subst this
  exact ⟨List.mem_of_getElem? e, (List.getElem?_eq_some_iff.mp e).1⟩
theorem ChOk.set {n : Nat} {ch : List (Option Int)} (h : ChOk n ch) {i : Nat} {v : Int} (hv : v = 0 \/ v = 1) : ChOk n (ch.set i (some v)) :=
 ⟨by rw [List.length_set]; exact h.len, fun w hw => by
  rcases List.mem_or_eq_of_mem_set hw with z | z
  ·exact h.bit w z
  ·cases z; exact hv⟩
theorem ff : ∀ {ch : List (Option Int)} {i : Nat} {v : Int}, i < ch.length -> chAt ch i = none -> unset (ch.set i (some v)) + 1 = unset ch
 | [], i, v, h, _ => by simp at h
 | x :: r, 0, v, _, e => by
  have : x = none := e
  subst this
  simp [unset]
 | x :: r, i + 1, v, h, e => by
  have ih := ff (ch := r) (i := i) (v := v) (by simpa using h) e
  simp only [List.set_cons_succ, unset, List.countP_cons] at ih ⊢
  lia
theorem wy {n : Nat} {ch : List (Option Int)} (h : ChOk n ch) : Dk n (E5 ch) := ⟨by unfold E5; rw [List.length_map]; exact h.len, fun x hx => by
 obtain ⟨o, ho, rfl⟩ := List.mem_map.mp hx
 cases o with
 | none => exact .inl rfl
 | some v => exact h.bit v ho⟩
theorem qU {ch : List (Option Int)} {i : Nat} {v : Int} (h : chAt ch i = some v) : (E5 ch).getD i 0 = v := by
 unfold chAt at h
 unfold E5
 rw [List.getD_eq_getElem?_getD] at h ⊢
 rw [List.getElem?_map]
 cases e : ch[i]? with
 | none => rw [e] at h; cases h
 | some o => rw [e] at h; have : o = some v := h; subst this; rfl
theorem oo (c : List Int) (p : Int) : Ec c p = decide (c.getD (ix p) 0 = if 0 < p then 1 else 0) := rfl
theorem sI {ch : List (Option Int)} {ss : List (List Int)} (h : ∀ s ∈ ss, sayO ch s = true) : Dj ss (E5 ch) = true := by
 unfold Dj
 rw [List.all_eq_true]
 intro s hs
 have := h s hs
 unfold sayO at this
 unfold D9
 rw [List.any_eq_true] at this ⊢
 obtain ⟨p, hp, e⟩ := this
 refine ⟨p, hp, ?_⟩
 rw [oo]
 exact decide_eq_true (qU (of_decide_eq_true e))
structure Clash (n : Nat) (ss : List (List Int)) (ch : List (Option Int)) (s : List Int) : Prop where
 ok : CU n s
 imp : ∀ c, Dk n c -> Dj ss c = true -> D9 c s = true
 fal : ∀ p ∈ s, chAt ch (ix p) = some (if 0 < p then 0 else 1)
theorem B6 {n : Nat} {p : Int} (h : 1 <= absI p /\ absI p <= (n : Int)) : ix p < n := by unfold ix; lia
theorem pV {n : Nat} {ss : List (List Int)} {ch : List (Option Int)} {s : List Int} (hc : ChOk n ch) (hs : s ∈ ss) (ok : CU n s) (h1 : sayO ch s = false) (h2 : s.filter (DV ch) = []) : Clash n ss ch s where
 ok := ok
 imp := fun c _ hf => by unfold Dj at hf; exact List.all_eq_true.mp hf s hs
 fal := fun p hp => by
  have a1 : litO ch p = false := by
   unfold sayO at h1
   rw [List.any_eq_false] at h1
   simpa using h1 p hp
  have a2 : DV ch p = false := by
   have := List.filter_eq_nil_iff.mp h2 p hp
   simpa using this
  unfold litO at a1
  unfold DV at a2
  have b1 := of_decide_eq_false a1
  have b2 := of_decide_eq_false a2
  cases e : chAt ch (ix p) with
  | none => exact absurd e b2
  | some v =>
   rw [e] at b1
   rcases hc.bit v (jY e).1 with z | z
   ·subst z; split
    ·rfl
    next h => rw [if_neg h] at b1; exact absurd rfl b1
   ·subst z; split
    next h => rw [if_pos h] at b1; exact absurd rfl b1
    ·rfl
theorem wz {p q : Int} (h : absI p = absI q) : p = q \/ p = -q := by unfold absI at h; split at h <;> split at h <;> lia
theorem uJ {t : Int} (h : 0 < t) : absI t = t := by unfold absI; split <;> lia
theorem oq (t : Int) : absI (-t) = absI t := by unfold absI; split <;> split <;> lia
theorem jZ {n i : Nat} {ss : List (List Int)} {ch : List (Option Int)} {s : List Int} {v t : Int} (hi : i < ch.length) (ht : t = i + 1) (hv : v = 0 \/ v = 1) (h : Clash n ss (ch.set i (some v)) s) (hn : (if v = 0 then t else -t) ∉ s) : Clash n ss ch s where
 ok := h.ok
 imp := h.imp
 fal := fun p hp => by
  have e := h.fal p hp
  rw [cu hi] at e
  split at e
  next z =>
   exfalso
   have hlow := h.ok.low p hp
   have ha : absI p = t := by unfold ix at z; lia
   have e' := Option.some.inj e
   have hp2 : p = if v = 0 then t else -t := by
    rcases hv with z2 | z2
    ·subst z2
     rw [if_pos rfl]
     split at e'
     next h0 => rw [uJ h0] at ha; exact ha
     ·lia
    ·subst z2
     rw [if_neg (by decide)]
     split at e'
     ·lia
     next h0 => unfold absI at ha; split at ha <;> lia
   exact hn (hp2 ▸ hp)
  ·exact e
noncomputable def insK (ks : List Int) (p : Int) : List Int := if p ∈ ks then ks else ks ++ [p]
noncomputable def Dw (a b : List Int) : List Int := (a ++ b).foldl insK []
theorem ou {ks : List Int} {p q : Int} : q ∈ insK ks p ↔ q ∈ ks \/ q = p := by
 unfold insK
 split
 next h => exact ⟨.inl, fun z => z.elim id fun e => e ▸ h⟩
 ·simp
theorem pW {ks : List Int} {p : Int} (h : ks.Nodup) : (insK ks p).Nodup := by
 unfold insK
 split
 ·exact h
 next hp => exact List.nodup_append.mpr ⟨h, by simp, fun a ha b hb => by simp at hb; subst hb; exact fun z => hp (z ▸ ha)⟩
theorem FA {l : List Int} : ∀ {ks : List Int}, ks.Nodup -> (l.foldl insK ks).Nodup /\ ∀ q, q ∈ l.foldl insK ks ↔ q ∈ ks \/ q ∈ l := by
 induction l with
 | nil => intro ks h; exact ⟨h, fun q => by simp⟩
 | cons p r ih =>
  intro ks h
  obtain ⟨h1, h2⟩ := ih (pW (p := p) h)
  refine ⟨h1, fun q => ?_⟩
  show q ∈ r.foldl insK (insK ks p) ↔ _
  rw [h2 q, ou]
  simp only [List.mem_cons]
  constructor
  ·rintro ((z | z) | z)
   ·exact .inl z
   ·exact .inr (.inl z)
   ·exact .inr (.inr z)
  ·rintro (z | z | z)
   ·exact .inl (.inl z)
   ·exact .inl (.inr z)
   ·exact .inr z
noncomputable def DP (a b : List Int) (t : Int) : List Int := (Dw a b).filter fun p => decide (absI p ≠ t)
noncomputable def resolve (a b : List Int) (t : Int) : List Int := E2 (DP a b t)
theorem iP {a b : List Int} {t q : Int} : q ∈ DP a b t ↔ (q ∈ a \/ q ∈ b) /\ absI q ≠ t := by
 unfold DP Dw
 rw [List.mem_filter, (FA (l := a ++ b) List.nodup_nil).2]
 simp
theorem cX {a b : List Int} {t q : Int} : q ∈ resolve a b t ↔ (q ∈ a \/ q ∈ b) /\ absI q ≠ t := by
 unfold resolve
 rw [(bI _).mem_iff, iP]
noncomputable def Compat (a b : List Int) (t : Int) : Prop := ∀ p ∈ a ++ b, -p ∈ a ++ b -> absI p = t
theorem ja {a b : List Int} {t : Int} (h : Compat a b t) : DY (DP a b t) = true := by
 unfold DY
 refine decide_eq_true ?_
 have nd : (DP a b t).Nodup := (FA (l := a ++ b) List.nodup_nil).1.sublist List.filter_sublist
 refine (List.nodup_iff_pairwise_ne.mp nd).imp_of_mem fun {p q} hp hq hne e => ?_
 rcases wz (p := p) (q := q) e with z | z
 ·exact hne z
 ·obtain ⟨hp1, hp2⟩ := iP.mp hp
  obtain ⟨hq1, _⟩ := iP.mp hq
  exact hp2 (h p (List.mem_append.mpr hp1) (by rw [z, Int.neg_neg]; exact List.mem_append.mpr hq1))
theorem gW {n : Int} {a b : List Int} {t : Int} (ha : CU n a) (hb : CU n b) (h : Compat a b t) : CU n (resolve a b t) where
 rise := by
  rw [List.pairwise_map]
  have h1 := fz (DP a b t)
  have h2 := of_decide_eq_true (ja h)
  have h3 : (resolve a b t).Pairwise fun p q => absK p ≠ absK q := (bI _).symm.pairwise h2 (fun {_ _} z => Ne.symm z)
  exact (List.pairwise_and_iff.mpr ⟨h1, h3⟩).imp fun {p q} ⟨z1, z2⟩ => by
   have e1 : absI p = absK p := rfl
   have e2 : absI q = absK q := rfl
   lia
 low := fun p hp => by
  rcases (cX.mp hp).1 with z | z
  ·exact ha.low p z
  ·exact hb.low p z
theorem lQ {n i : Nat} {ss : List (List Int)} {ch : List (Option Int)} {a b : List Int} {t : Int} (hi : i < ch.length) (ht : t = i + 1) (ha : Clash n ss (ch.set i (some 0)) a) (hb : Clash n ss (ch.set i (some 1)) b) : Compat a b t := by
 have key : ∀ p ∈ a ++ b, absI p ≠ t -> chAt ch (ix p) = some (if 0 < p then 0 else 1) /\ p ≠ 0 := fun p hp hne => by
  rcases List.mem_append.mp hp with z | z
  ·have e := ha.fal p z
   have l := ha.ok.low p z
   rw [cu hi, if_neg (by unfold ix; lia)] at e
   exact ⟨e, fun z => by subst z; unfold absI at l; simp at l⟩
  ·have e := hb.fal p z
   have l := hb.ok.low p z
   rw [cu hi, if_neg (by unfold ix; lia)] at e
   exact ⟨e, fun z => by subst z; unfold absI at l; simp at l⟩
 intro p hp hq
 by_cases hne : absI p = t
 ·exact hne
 ·exfalso
  obtain ⟨e1, z1⟩ := key p hp hne
  obtain ⟨e2, _⟩ := key (-p) hq (by rw [oq]; exact hne)
  have ei : ix (-p) = ix p := by unfold ix; rw [oq]
  rw [ei, e1] at e2
  have e3 := Option.some.inj e2
  by_cases h0 : 0 < p
  ·rw [if_pos h0, if_neg (by lia)] at e3; cases e3
  ·rw [if_neg h0, if_pos (by lia)] at e3; cases e3
theorem sJ {n i : Nat} {ss : List (List Int)} {ch : List (Option Int)} {a b : List Int} {t : Int} (hi : i < ch.length) (ht : t = i + 1) (ha : Clash n ss (ch.set i (some 0)) a) (hb : Clash n ss (ch.set i (some 1)) b) : Clash n ss ch (resolve a b t) where
 ok := gW ha.ok hb.ok (lQ hi ht ha hb)
 imp := fun c hc hf => by
  have h1 := ha.imp c hc hf
  have h2 := hb.imp c hc hf
  unfold D9 at h1 h2 ⊢
  rw [List.any_eq_true] at h1 h2 ⊢
  obtain ⟨p, hp, e1⟩ := h1
  obtain ⟨q, hq, e2⟩ := h2
  by_cases z1 : absI p = t
  ·by_cases z2 : absI q = t
   ·exfalso
    have f1 := ha.fal p hp
    have f2 := hb.fal q hq
    rw [cu hi, if_pos (by unfold ix; lia)] at f1 f2
    rw [oo] at e1 e2
    have g1 := of_decide_eq_true e1
    have g2 := of_decide_eq_true e2
    have ei : ix p = ix q := by unfold ix; rw [z1, z2]
    rw [ei, g2] at g1
    have k1 := Option.some.inj f1
    have k2 := Option.some.inj f2
    by_cases y1 : 0 < p
    ·by_cases y2 : 0 < q
     ·rw [if_pos y2] at k2; cases k2
     ·rw [if_neg y2, if_pos y1] at g1; cases g1
    ·rw [if_neg y1] at k1; cases k1
   ·exact ⟨q, cX.mpr ⟨.inr hq, z2⟩, e2⟩
  ·exact ⟨p, cX.mpr ⟨.inl hp, z1⟩, e1⟩
 fal := fun p hp => by
  obtain ⟨h1, h2⟩ := cX.mp hp
  rcases h1 with z | z
  ·have e := ha.fal p z
   have l := ha.ok.low p z
   rw [cu hi, if_neg (by unfold ix; lia)] at e
   exact e
  ·have e := hb.fal p z
   have l := hb.ok.low p z
   rw [cu hi, if_neg (by unfold ix; lia)] at e
   exact e
open PyProof.Rows PySem PySem.Spec
noncomputable section
noncomputable def gX : DS := sRet (eAnd (eOp (dIsi "int") [.nm 0]) (eNot (eOp (dIsi "bool") [.nm 0])))
noncomputable def bE : Ct -> Out SD := runB 1 1 gX
noncomputable def cI : DS := sRet (eAnd (CJ bE [.nm 0]) (eAnd (eOp dGe [.nm 0, .ex (eC (.int 1))]) (eOp dLe [.nm 0, .nm 1])))
noncomputable def aR : Ct -> Out SD := runB 2 2 cI
noncomputable def bt : DS := sSeq (sIf (CM (tstO (.ex (CJ bE [.nm 3])))) (sRet (eC (.bool false))) (CO)) (sSeq (sIf (Dh (tstV (eOp dLe [.ex (eOp dAbs [.nm 3]), .nm 2])) (tstV (eOp dGt [.ex (eOp dAbs [.nm 3]), .nm 1]))) (sRet (eC (.bool false))) (CO)) (sAsg 2 (eOp dAbs [.nm 3])))
noncomputable def gd : DS := sSeq (sIf (CM (tstO (.ex (eOp (dIsi "tuple") [.nm 0])))) (sRet (eC (.bool false))) (CO)) (sSeq (sAsg 2 (eC (.int 0))) (sSeq (sFor (DJ (eV 0)) (kN 3) (bt)) (sRet (eC (.bool true)))))
noncomputable def b7 : Ct -> Out SD := runB 4 2 gd
noncomputable def gf : DS := sIf (CM (tstO (.ex (CJ b7 [.nm 3, .nm 1])))) (sBad) (CO)
noncomputable def iQ : DS := sSeq (sIf (CM (tstO (.ex (CJ aR [.nm 1, .ex (eC (.int 16))])))) (sBad) (CO)) (sSeq (sIf (CM (tstO (.ex (eOp (dIsi "list") [.nm 0])))) (sBad) (CO)) (sSeq (sIf (tstV (eOp dGt [.ex (eOp dLen [.nm 0]), .ex (eC (.int 24))])) (sBad) (CO)) (sSeq (sFor (EJ (eV 0)) (kTup [2, 3]) (gf)) (sRet (eOp Ea [.nm 0])))))
noncomputable def cJ : Ct -> Out SD := runB 4 2 iQ
noncomputable def mM : DS := sRet (eOp dEq [.ex (eOp dIdx [.nm 1, .ex (eOp dSub [.ex (eOp dAbs [.nm 0]), .ex (eC (.int 1))])]), .ex (eIf (tstV (eOp dGt [.nm 0, .ex (eC (.int 0))])) (eC (.int 1)) (eC (.int 0)))])
noncomputable def gC : Ct -> Out SD := runB 2 2 mM
noncomputable def gE : DE := CJ gC [.nm 0, .nm 1]
noncomputable def mN : DS := sRet (eOp dAny [.ex (Dc [1] (Dz (.nm 0)) (De) (gE))])
noncomputable def gF : Ct -> Out SD := runB 2 2 mN
noncomputable def bh : DS := sSeq (sIf (Es (tstV (eOp dIn2 [.ex (eOp dNeg [.nm 4]), .nm 3])) (tstV (eOp dNe [.ex (eOp dAbs [.nm 4]), .nm 2]))) (sRet (eC .none)) (CO)) (sPut 3 (.ex (eC (.bool true))) (.nm 4))
noncomputable def bJ : DT := tstV (eOp dNe [.ex (eOp dAbs [.nm 0]), .nm 1])
noncomputable def bK : DE := eV 0
noncomputable def dP : DS := sSeq (sAsg 3 (EI)) (sSeq (sFor (DJ (eOp dAdd [.nm 0, .nm 1])) (kN 4) (bh)) (sRet (eOp E7 [.ex (eOp DZ [.ex (EB 3 [2] (bJ) (bK))])])))
noncomputable def aT : Ct -> Out SD := runB 5 3 dP
noncomputable def cw : DT := tstV (eOp dIs [.ex (eOp dIdx [.nm 1, .ex (eOp dSub [.ex (eOp dAbs [.nm 0]), .ex (eC (.int 1))])]), .ex (eC .none)])
noncomputable def cx : DE := eV 0
noncomputable def fE : DS := sRet (Dc [1] (Dz (.nm 0)) (cw) (cx))
noncomputable def aO : Ct -> Out SD := runB 2 2 fE
noncomputable def cN : DT := CM (tstO (.ex (CJ gF [.nm 1, .nm 2])))
noncomputable def cO : DE := eV 0
noncomputable def eG : DE := eOp dLen [.ex (CJ aO [.ex (eOp dIdx [.nm 2, .nm 0]), .nm 1])]
noncomputable def gi : DS := sSeq (sAsg 2 (Eh [1] (EK (.nm 0)) (cN) (cO))) (sRet (eMin [1, 0] (.nm 2) (eG)))
noncomputable def b8 : Ct -> Out SD := runB 3 2 gi
noncomputable def az (φ_searched : Ct -> Out SD) : DS := sSeq (sAsg 5 (CJ φ_searched [.nm 0, .ex (eOp dAdd [.ex (eOp dAdd [.ex (eOp dSlH [.nm 1, .ex (eOp dSub [.nm 2, .ex (eC (.int 1))])]), .ex (eOp dLst [.nm 4])]), .ex (eOp dSlL [.nm 1, .nm 2])])])) (sSeq (sIf (tstV (eOp dEq [.ex (eOp dIdx [.nm 5, .ex (eC (.int 0))]), .ex (eC (.str "case"))])) (Et 5) (CO)) (sSeq (sAsg 6 (eOp dIdx [.nm 5, .ex (eC (.int 1))])) (sSeq (sIf (tstV (eOp DK [.ex (eIf (tstV (eOp dEq [.nm 4, .ex (eC (.int 0))])) (eV 2) (eOp dNeg [.nm 2])), .ex (eOp dIdx [.nm 6, .ex (eC (.int 0))])])) (Et 5) (CO)) (sMut Eu 3 (.nm 6)))))
noncomputable def b9 (φ_searched : Ct -> Out SD) : DS := sSeq (sAsg 3 (eOp dLst [])) (sSeq (sFor (DJ (eOp dTup [.ex (eC (.int 0)), .ex (eC (.int 1))])) (kN 4) ((az φ_searched))) (sSeq (sAsg 7 (CJ aT [.ex (eOp dIdx [.ex (eOp dIdx [.nm 3, .ex (eC (.int 0))]), .ex (eC (.int 0))]), .ex (eOp dIdx [.ex (eOp dIdx [.nm 3, .ex (eC (.int 1))]), .ex (eC (.int 0))]), .nm 2])) (sRet (eOp dTup [.ex (eC (.str "clash")), .ex (eOp dTup [.nm 7, .ex (eOp dTup [.ex (eOp dIdx [.nm 3, .ex (eC (.int 0))]), .ex (eOp dIdx [.nm 3, .ex (eC (.int 1))])])])]))))
noncomputable def af (φ : Ct -> Out SD) : Ct -> Out SD := runB 8 3 (b9 (φ))
noncomputable def cy (φ_searched_both_ways : Ct -> Out SD) : DE := eIf (tstV (eOp dIs [.nm 0, .ex (eC .none)])) (eC (.int 0)) (eV 0)
noncomputable def bF (φ_searched_both_ways : Ct -> Out SD) : DS := sSeq (sAsg 2 (CJ b8 [.nm 0, .nm 1])) (sSeq (sIf (tstV (eOp dIs [.nm 2, .ex (eC .none)])) (sRet (eOp dTup [.ex (eC (.str "case")), .ex (Dc [] (Dz (.nm 1)) (De) ((cy φ_searched_both_ways)))])) (CO)) (sSeq (sAsg 3 (CJ aO [.ex (eOp dIdx [.nm 0, .nm 2]), .nm 1])) (sSeq (sIf (CM (tstO (.nm 3))) (sRet (eOp dTup [.ex (eC (.str "clash")), .ex (eOp dTup [.ex (eOp dIdx [.nm 0, .nm 2]), .ex (eOp dTup [.nm 2])])])) (CO)) (sRet (CJ φ_searched_both_ways [.nm 0, .nm 1, .ex (eOp dAbs [.ex (eOp dIdx [.nm 3, .ex (eC (.int 0))])])])))))
noncomputable def av : Nat -> Ct -> Out SD
 | 0 => fun _ => .bad
 | n + 1 => runB 4 2 (bF (af (av n)))
noncomputable def fF : Ct -> Out SD := av 8
noncomputable def dQ : Ct -> Out SD := ED 8
noncomputable def cY : DS := EV 4 (.ex (eIf (tstV (eOp dGt [.nm 5, .ex (eC (.int 0))])) (eC (.int 0)) (eC (.int 1)))) (.ex (eOp dSub [.ex (eOp dAbs [.nm 5]), .ex (eC (.int 1))]))
noncomputable def gG : DS := sSeq (sAsg 3 (CJ cJ [.nm 0, .nm 1])) (sSeq (sIf (CM (tstO (.ex (CJ b7 [.nm 2, .nm 1])))) (sBad) (CO)) (sSeq (sAsg 4 (eOp dMul [.ex (eOp dLst [.ex (eC .none)]), .nm 1])) (sSeq (sFor (DJ (eV 2)) (kN 5) (cY)) (sSeq (sAsg 6 (CJ fF [.nm 3, .nm 4])) (sRet (eIf (tstV (eOp dEq [.ex (eOp dIdx [.nm 6, .ex (eC (.int 0))]), .ex (eC (.str "case"))])) (eV 6) (eOp dTup [.ex (eC (.str "steps")), .ex (CJ dQ [.ex (eOp dIdx [.nm 6, .ex (eC (.int 1))])])])))))))
noncomputable def cg : Ct -> Out SD := runB 7 3 gG
noncomputable def bN : DS := sSeq (sIf (tstV (eOp dLt [.nm 1, .ex (eOp dLen [.nm 0])])) (sRet (eOp dIdx [.nm 0, .nm 1])) (CO)) (sSeq (sIf (tstV (eOp dEq [.nm 0, .ex (eOp dLst [])])) (sRet (eC (.int 0))) (CO)) (sRet (eOp dAdd [.ex (eOp dMul [.ex (eOp dIdx [.nm 0, .ex (eOp dMod [.nm 1, .ex (eOp dLen [.nm 0])])]), .ex (eC (.int 31))]), .nm 1])))
noncomputable def aP : Ct -> Out SD := runB 2 2 bN
noncomputable def gj : DS := sSeq (sAsg 3 (eOp dMod [.ex (eOp dMul [.ex (eOp dAdd [.ex (eOp dAdd [.ex (CJ aP [.nm 0, .nm 1]), .ex (eOp dMul [.ex (eC (.int 7919)), .nm 1])]), .ex (eC (.int 1))]), .ex (eC (.int 48271))]), .ex (eC (.int 2147483647))])) (sRet (eOp dMod [.ex (eOp dMod [.ex (eOp dAdd [.ex (eOp dAdd [.ex (eOp dMul [.nm 3, .nm 3]), .ex (eOp dMul [.ex (eC (.int 7)), .nm 3])]), .nm 1]), .ex (eC (.int 2147483629))]), .nm 2]))
noncomputable def aK : Ct -> Out SD := runB 4 3 gj
noncomputable def dR : DS := sSeq (sAsg 5 (eOp dAdd [.ex (eC (.int 1)), .ex (CJ aK [.nm 0, .ex (eOp dAdd [.ex (eOp dAdd [.nm 1, .ex (eC (.int 1))]), .nm 4]), .nm 2])])) (sPut 3 (.ex (eOp dSub [.ex (eC (.int 1)), .ex (eOp dMul [.ex (eC (.int 2)), .ex (eOp F0 [.ex (CJ aK [.nm 0, .ex (eOp dAdd [.ex (eOp dAdd [.nm 1, .ex (eC (.int 1))]), .nm 4]), .ex (eOp dMul [.ex (eC (.int 2)), .nm 2])]), .nm 2])])])) (.nm 5))
noncomputable def cz : DE := eOp dMul [.nm 0, .ex (eOp dIdx [.nm 1, .nm 0])]
noncomputable def fG : DS := sSeq (sAsg 3 (EI)) (sSeq (sFor (itR1 [.ex (eOp dIdx [.ex (eOp dLst [.ex (eC (.int 1)), .ex (eC (.int 2)), .ex (eC (.int 2)), .ex (eC (.int 3)), .ex (eC (.int 3)), .ex (eC (.int 3)), .ex (eC (.int 0))]), .ex (CJ aK [.nm 0, .nm 1, .ex (eC (.int 7))])])]) (kN 4) (dR)) (sRet (eOp E7 [.ex (Dc [3] (Dz (.ex (eOp Er [.ex (eOp Ea [.nm 3])]))) (De) (cz))])))
noncomputable def ba : Ct -> Out SD := runB 6 3 fG
noncomputable def bP : DE := CJ ba [.nm 3, .ex (eOp dAdd [.ex (eOp dAdd [.nm 1, .ex (eC (.int 1))]), .ex (eOp dMul [.ex (eC (.int 4)), .nm 0])]), .nm 2]
noncomputable def eJ : DS := sRet (Dc [1, 2, 0] (icR1 (.ex (CJ aK [.nm 0, .nm 1, .ex (eOp dAdd [.nm 3, .ex (eC (.int 1))])]))) (De) (bP))
noncomputable def bu : Ct -> Out SD := runB 4 4 eJ
noncomputable def dz : DS := sIf (tstV (eOp dEq [.ex (eOp dGt [.nm 2, .ex (eC (.int 0))]), .ex (eOp dEq [.ex (eOp dIdx [.nm 1, .ex (eOp dSub [.ex (eOp dAbs [.nm 2]), .ex (eC (.int 1))])]), .ex (eC (.int 1))])])) (sRet (eC (.bool true))) (CO)
noncomputable def gY : DS := sSeq (sFor (DJ (eV 0)) (kN 2) (dz)) (sRet (eC (.bool false)))
noncomputable def bq : Ct -> Out SD := runB 3 2 gY
noncomputable def dA : DT := CM (tstO (.ex (CJ bq [.nm 0, .nm 1])))
noncomputable def dC : DE := eV 0
noncomputable def gZ : DS := sRet (eOp dEq [.ex (Dc [1] (Dz (.nm 0)) (dA) (dC)), .ex (eOp dLst [])])
noncomputable def bG : Ct -> Out SD := runB 2 2 gZ
noncomputable def gL : DE := eOp dAdd [.nm 0, .ex (eOp dLst [.ex (eC (.int 0))])]
noncomputable def gM : DE := eOp dAdd [.nm 0, .ex (eOp dLst [.ex (eC (.int 1))])]
noncomputable def cP : DS := sAsg 1 (eOp dAdd [.ex (Dc [] (Dz (.nm 1)) (De) (gL)), .ex (Dc [] (Dz (.nm 1)) (De) (gM))])
noncomputable def gk : DS := sSeq (sAsg 1 (eOp dLst [.ex (eOp dLst [])])) (sSeq (sFor (itR1 [.nm 0]) (kN 2) (cP)) (sRet (eOp Ex [.nm 1])))
noncomputable def cj : Ct -> Out SD := runB 3 1 gk
noncomputable def bQ : DT := tstO (.ex (CJ bG [.nm 1, .nm 0]))
noncomputable def bR : DE := eV 0
noncomputable def eM : DS := sRet (Dc [0] (Dz (.ex (CJ cj [.nm 1]))) (bQ) (bR))
noncomputable def bw : Ct -> Out SD := runB 2 2 eM
noncomputable def jb : DS := sRet (eAnd (eOp (dIsi "int") [.nm 0]) (eNot (eOp (dIsi "bool") [.nm 0])))
noncomputable def bb : Ct -> Out SD := runB 1 1 jb
noncomputable def bS : DT := Dh (CM (tstO (.ex (CJ bb [.nm 0])))) (Dh (tstV (eOp dLt [.nm 0, .ex (eC (.int 0))])) (tstV (eOp dGt [.nm 0, .ex (eC (.int 1))])))
noncomputable def dj : DE := eV 0
noncomputable def eN : DS := sSeq (sIf (Dh (CM (tstO (.ex (eOp (dIsi "list") [.nm 0])))) (tstV (eOp dNe [.ex (eOp dLen [.nm 0]), .nm 1]))) (sRet (eC (.bool false))) (CO)) (sRet (eOp dEq [.ex (Dc [] (Dz (.nm 0)) (bS) (dj)), .ex (eOp dLst [])]))
noncomputable def bx : Ct -> Out SD := runB 2 2 eN
noncomputable def cA : DS := sSeq (sIf (Dh (CM (tstO (.ex (CJ bb [.nm 3])))) (Dh (tstV (eOp dLe [.ex (eOp dAbs [.nm 3]), .nm 2])) (tstV (eOp dGt [.ex (eOp dAbs [.nm 3]), .nm 1])))) (sRet (eC (.bool false))) (CO)) (sAsg 2 (eOp dAbs [.nm 3]))
noncomputable def dk : DS := sSeq (sIf (CM (tstO (.ex (eOp (dIsi "tuple") [.nm 0])))) (sRet (eC (.bool false))) (CO)) (sSeq (sAsg 2 (eC (.int 0))) (sSeq (sFor (DJ (eV 0)) (kN 3) (cA)) (sRet (eC (.bool true)))))
noncomputable def aW : Ct -> Out SD := runB 4 2 dk
noncomputable def bT : DT := Dh (CM (tstO (.ex (CJ bb [.nm 0])))) (tstV (eOp dLt [.nm 0, .ex (eC (.int 0))]))
noncomputable def dm : DE := eV 0
noncomputable def bU : DT := tstV (eOp dIn2 [.ex (eOp dNeg [.nm 0]), .nm 1])
noncomputable def bV : DE := eV 0
noncomputable def bW : DT := tstV (eOp dNe [.ex (eOp dAbs [.nm 0]), .ex (eOp dIdx [.nm 1, .ex (eC (.int 0))])])
noncomputable def bX : DE := eV 0
noncomputable def cQ : DS := sSeq (sIf (Dh (CM (tstO (.ex (eOp (dIsi "tuple") [.nm 3])))) (Dh (tstV (eOp dNe [.ex (eOp dLen [.nm 3]), .ex (eC (.int 2))])) (CM (tstO (.ex (CJ aW [.ex (eOp dIdx [.nm 3, .ex (eC (.int 0))]), .nm 1])))))) (sRet (eC (.bool false))) (CO)) (sSeq (sAsg 4 (eOp dIdx [.nm 3, .ex (eC (.int 1))])) (sSeq (sIf (Dh (CM (tstO (.ex (eOp (dIsi "tuple") [.nm 4])))) (tstV (eOp dNe [.ex (Dc [] (Dz (.nm 4)) (bT) (dm)), .ex (eOp dLst [])]))) (sRet (eC (.bool false))) (CO)) (sSeq (sIf (tstV (eOp dEq [.ex (eOp dLen [.nm 4]), .ex (eC (.int 1))])) (sRet (eAnd (eOp dLt [.ex (eOp dIdx [.nm 4, .ex (eC (.int 0))]), .ex (eOp dLen [.nm 0])]) (eOp dEq [.ex (eOp dIdx [.nm 0, .ex (eOp dIdx [.nm 4, .ex (eC (.int 0))])]), .ex (eOp dIdx [.nm 3, .ex (eC (.int 0))])]))) (CO)) (sSeq (sIf (Dh (tstV (eOp dNe [.ex (eOp dLen [.nm 4]), .ex (eC (.int 2))])) (tstV (eOp dGe [.ex (eOp dMax [.nm 4]), .ex (eOp dLen [.nm 2])]))) (sRet (eC (.bool false))) (CO)) (sSeq (sAsg 5 (eOp dIdx [.nm 2, .ex (eOp dIdx [.nm 4, .ex (eC (.int 0))])])) (sSeq (sAsg 6 (eOp dIdx [.nm 2, .ex (eOp dIdx [.nm 4, .ex (eC (.int 1))])])) (sSeq (sAsg 7 (Dc [6] (Dz (.nm 5)) (bU) (bV))) (sSeq (sIf (Dh (tstV (eOp dNe [.ex (eOp dLen [.nm 7]), .ex (eC (.int 1))])) (tstV (eOp dLt [.ex (eOp dIdx [.nm 7, .ex (eC (.int 0))]), .ex (eC (.int 0))]))) (sRet (eC (.bool false))) (CO)) (sSeq (sAsg 8 (Dc [7] (Dz (.ex (eOp dAdd [.nm 5, .nm 6]))) (bW) (bX))) (sRet (eOp dEq [.ex (eOp DQ [.ex (eOp dIdx [.nm 3, .ex (eC (.int 0))])]), .ex (eOp E1 [.nm 8])])))))))))))
noncomputable def bg : Ct -> Out SD := runB 9 4 cQ
noncomputable def cB : DS := sSeq (sIf (CM (tstO (.ex (CJ bg [.nm 0, .nm 1, .nm 4, .nm 5])))) (sRet (eC (.bool false))) (CO)) (sMut Eu 4 (.ex (eOp dIdx [.nm 5, .ex (eC (.int 0))])))
noncomputable def bC : DT := tstV (eOp DK [.nm 0, .nm 1])
noncomputable def cC : DE := eV 0
noncomputable def dn : DS := sSeq (sIf (Dh (CM (tstO (.ex (eOp (dIsi "list") [.nm 2])))) (tstV (eOp dEq [.nm 2, .ex (eOp dLst [])]))) (sRet (eC (.bool false))) (CO)) (sSeq (sAsg 4 (eOp dLst [])) (sSeq (sFor (DJ (eV 2)) (kN 5) (cB)) (sRet (eOp dEq [.ex (Dc [3] (Dz (.ex (eOp dIdx [.nm 4, .ex (eOp dNeg [.ex (eC (.int 1))])]))) (bC) (cC)), .ex (eOp dLst [])]))))
noncomputable def aX : Ct -> Out SD := runB 6 4 dn
noncomputable def jo : DT := CM (tstO (.ex (CJ bq [.nm 1, .nm 0])))
noncomputable def mO : DE := eV 0
noncomputable def uK : DS := sSeq (sAsg 1 (eOp dAdd [.ex (eC (.int 1)), .ex (CJ aK [.nm 0, .ex (eC (.int 0)), .ex (eC (.int 5))])])) (sSeq (sAsg 2 (CJ bu [.nm 0, .ex (eC (.int 1)), .nm 1, .ex (eC (.int 9))])) (sSeq (sAsg 3 (CJ ba [.nm 0, .ex (eC (.int 50)), .nm 1])) (sSeq (sAsg 4 (eOp Ea [.nm 2])) (sSeq (sAsg 5 (CJ cg [.nm 4, .nm 1, .nm 3])) (sSeq (sIf (Dh (tstV (eOp dNe [.nm 4, .nm 2])) (Dh (CM (tstO (.ex (eOp (dIsi "tuple") [.nm 5])))) (tstV (eOp dNe [.ex (eOp dLen [.nm 5]), .ex (eC (.int 2))])))) (sRet (eC (.bool false))) (CO)) (sSeq (sIf (tstV (eOp dEq [.ex (eOp dIdx [.nm 5, .ex (eC (.int 0))]), .ex (eC (.str "case"))])) (sSeq (sAsg 6 (eOp dIdx [.nm 5, .ex (eC (.int 1))])) (sRet (eAnd (CJ bx [.nm 6, .nm 1]) (eAnd (CJ bG [.nm 2, .nm 6]) (eNot (CJ bq [.nm 3, .nm 6])))))) (CO)) (sSeq (sIf (Dh (tstV (eOp dNe [.ex (eOp dIdx [.nm 5, .ex (eC (.int 0))]), .ex (eC (.str "steps"))])) (CM (tstO (.ex (CJ aX [.nm 2, .nm 1, .ex (eOp dIdx [.nm 5, .ex (eC (.int 1))]), .nm 3]))))) (sRet (eC (.bool false))) (CO)) (sRet (eOp dEq [.ex (Dc [3] (Dz (.ex (CJ bw [.nm 2, .nm 1]))) (jo) (mO)), .ex (eOp dLst [])])))))))))
noncomputable def qV : Ct -> Out SD := runB 7 1 uK
end
theorem yH (ns : List Int) (k : Int) (hk : 0 <= k) : aP [scr ns, .int k] = .ok (.sh (.int (F2 ns k))) := by
 have hs : ∀ l : List Int, SeqAt.shaped (.list (l.map PyData.int)) = true := fun l => (aQ (cH 0 l)).shaped (by decide)
 have hs0 : SeqAt.shaped (.list []) = true := hs []
 unfold F2
 by_cases h1 : k < ns.length
 ·simp [aP, bN, h1, ij hk h1]
 ·by_cases h2 : ns = []
  ·subst h2
   have h1' : ¬ k < 0 := by lia
   simp [aP, bN, h1', dZ, hs0]
  ·have hl : 0 < (ns.length : Int) := by
    have := List.length_pos_iff.mpr h2
    lia
   have hl' : 0 < ns.length := by lia
   have h3 := Int.emod_nonneg k (b := (ns.length : Int)) (by lia)
   have h4 := Int.emod_lt_of_pos k hl
   simp [aP, bN, h1, h2, dZ, hs0, hs ns, hl', ij h3 h4, my]
theorem ox (ns : List Int) (k m : Int) (hk : 0 <= k) (hm : 0 < m) : aK [scr ns, .int k, .int m] = .ok (.sh (.int (mixZ ns k m))) := by
 have h1 := rM ns k
 have h2 := rN ns k
 have e : (F2 ns k + 7919 * k + 1) * 48271 % 2147483647 = DX ns k := rfl
 have c1 : cMul (DX ns k) (DX ns k) = true := mz (by lia) (by lia)
 simp [aK, gj, yH ns k hk, mz, my, e, c1, hm]
 rfl
theorem xj (ns : List Int) (at_ many : Int) (ha : 0 <= at_) (hm : 0 < many) (hm2 : many <= 1000) : ba [scr ns, .int at_, .int many] = .ok (.sh (encS (sayZ ns at_ many))) := by
 have m0 := fw ns at_ (m := 7) (by decide)
 have m1 := fx ns at_ (m := 7) (by decide)
 have hs := nN ns at_
 obtain ⟨p1, p2, p3, p4⟩ := gy (ns := ns) (at_ := at_) hm (Dp ns at_).toNat
 have hl : ∀ n, (CT ns at_ many n).length <= n := fun n => (gy (ns := ns) (at_ := at_) hm n).2.2.2
 obtain ⟨δ', e1, x4, x5, rfl⟩ := jN (k := kN 4) (fb := dR) (lo := 0) (n := (Dp ns at_).toNat) (δ := [some (.sh (scr ns)), some (.sh (.int at_)), some (.sh (.int many)), some (.od []), none, none])
  (fun j δ => ∃ x4 x5, δ = [some (.sh (scr ns)), some (.sh (.int at_)), some (.sh (.int many)), some (.od (encP (CT ns at_ many j))), x4, x5]) ⟨none, none, rfl⟩ (by
   rintro i δ hi ⟨x4, x5, rfl⟩
   refine ⟨_, rfl, ?_⟩
   have hf1 := ox ns (at_ + 1 + i) many (by lia) hm
   have hf2 := ox ns (at_ + 1 + i) (2 * many) (by lia) (by lia)
   have hli := hl i
   have hll : (CT ns at_ many i).length < sizeLine := gx (by lia)
   have hb : many < 1073741824 := by lia
   simp [dR, hf1, hf2, mz, my, hm, hb, hll, tZ]
   rfl)
 have h7 : atI [PyData.int 1, .int 2, .int 2, .int 3, .int 3, .int 3, .int 0] (mixZ ns at_ 7) = some (.int (Dp ns at_)) := by
  have := ij (ns := [1, 2, 2, 3, 3, 3, 0]) m0 m1
  exact this
 have hr : rngB (Dp ns at_) = true := mw (by lia) (by lia)
 have hlen : (CT ns at_ many (Dp ns at_).toNat).length < 64 := by lia
 have hsl : (D2 (E4 (CT ns at_ many (Dp ns at_).toNat))).length <= sizeLine := aE (by rw [(cF _).length_eq]; unfold E4; rw [List.length_map]; lia)
 have hc : CZ ([none, some (.sh (.dict (encP (CT ns at_ many (Dp ns at_).toNat))))]) De cz ((D2 (E4 (CT ns at_ many (Dp ns at_).toNat))).map PyData.int) = some ((sayZ ns at_ many).map PyData.int) := by
  have := eY (ρ := [none, some (.sh (.dict (encP (CT ns at_ many (Dp ns at_).toNat))))]) (te := cz)
   (y := fun d => match d with | .int t => .int (t * (valZ (CT ns at_ many (Dp ns at_).toNat) t).getD 0) | d => d) (ds := (D2 (E4 (CT ns at_ many (Dp ns at_).toNat))).map PyData.int) fun d hd => by
    obtain ⟨t, ht, rfl⟩ := List.mem_map.mp hd
    have ht' := (cF _).mem_iff.mp ht
    obtain ⟨v, ev, p, hp, hv⟩ := qF ht'
    have hv' : v = 1 \/ v = -1 := by rw [<- hv]; exact p3 p hp
    have hcm : cMul t v = true := my (by lia) (by lia)
    simp [cz, lE, ev, hcm]
  rw [this]
  unfold sayZ
  rw [List.map_map, List.map_map]
  rfl
 simp only [ba, fG]
 simp [ox ns at_ 7 ha (by decide), h7, hr, e1, hlen, hsl, hc]
 rfl
theorem yI (ns : List Int) (at_ many most : Int) (ha : 0 <= at_) (hm : 0 < many) (hm2 : many <= 1000) (h0 : 0 <= most) (h1 : most <= 1000) : bu [scr ns, .int at_, .int many, .int most] = .ok (.ol (Cz (Ew ns at_ many most))) := by
 have m0 := fw ns at_ (m := most + 1) (by lia)
 have m1 := fx ns at_ (m := most + 1) (by lia)
 have hr : rngB (mixZ ns at_ (most + 1)) = true := mw (by lia) (by lia)
 have hl : (rngI 0 (mixZ ns at_ (most + 1)).toNat).length <= sizeLine := aE (by rw [g6]; lia)
 have hc : CZ [none, some (.sh (.int at_)), some (.sh (.int many)), some (.sh (scr ns))] De bP (rngI 0 (mixZ ns at_ (most + 1)).toNat) = some (Cz (Ew ns at_ many most)) := by
  have := eY (ρ := [none, some (.sh (.int at_)), some (.sh (.int many)), some (.sh (scr ns))]) (te := bP) (y := fun d => match d with | .int k => encS (sayZ ns (at_ + 1 + 4 * k) many) | d => d) (ds := rngI 0 (mixZ ns at_ (most + 1)).toNat) fun d hd => by
   obtain ⟨k, hk, rfl⟩ := List.mem_map.mp hd
   have hf := xj ns (at_ + 1 + 4 * (0 + (k : Int))) many (by lia) hm hm2
   rw [Int.zero_add] at hf ⊢
   simp [bP, hf, mz]
  rw [this]
  unfold Cz Ew rngI
  rw [List.map_map, List.map_map]
  congr 1
  apply List.map_congr_left
  intro k _
  simp only [Function.comp, Int.zero_add]
 simp only [bu, eJ]
 simp [ox ns at_ (most + 1) ha (by lia), hr, hl, hc]
theorem e7 (d : PyData) (h : ∀ es, d ≠ .dict es) : bE [d] = .ok (.sh (.bool (isWh d))) := by
 rw [<- AS h]
 simp only [bE, gX]
 cases h1 : isiD "int" d <;> simp [qE, h, h1]
theorem uL {d : PyData} (h : ∀ i, d ≠ .int i) : isWh d = false := by
 cases d <;> first | rfl | exact absurd rfl (h _)
theorem oy (t : PyData) (many : Int) : ∀ (ds : Ct) (last : Int) (pv : Option SD), (∀ d ∈ ds, ∀ es, d ≠ .dict es) -> ∃ pv', forL (kN 3) bt ds [some (.sh t), some (.sh (.int many)), some (.sh (.int last)), pv] = match E3 many last ds with
  | some l => .nx [some (.sh t), some (.sh (.int many)), some (.sh (.int l)), pv']
  | none => .rt (.sh (.bool false))
 | [], last, pv, _ => ⟨pv, rfl⟩
 | d :: r, last, pv, h => by
  have hd := h d (List.mem_cons_self ..)
  rw [aI]
  by_cases hi : ∃ p, d = .int p
  ·obtain ⟨p, rfl⟩ := hi
   obtain ⟨pv', ih⟩ := oy t many r (absI p) (some (.sh (.int p))) fun d' hd' => h d' (List.mem_cons_of_mem _ hd')
   refine ⟨pv', ?_⟩
   rw [E3]
   unfold absI at ih ⊢
   by_cases h1 : (if p < 0 then -p else p) <= last
   ·simp [bt, e7 _ hd, isWh, h1]
   ·by_cases h2 : many < (if p < 0 then -p else p)
    ·simp [bt, e7 _ hd, isWh, h1, h2]
    ·simp [bt, e7 _ hd, isWh, h1, h2]
     exact ih
  ·have hw := uL (d := d) fun i e => hi ⟨i, e⟩
   have hs : E3 many last (d :: r) = none := by
    cases d <;> first | rfl | exact absurd ⟨_, rfl⟩ hi
   refine ⟨none, ?_⟩
   rw [hs]
   simp [bt, e7 _ hd, hw]
theorem B7 (t : PyData) (many : Int) (h : ∀ es, t ≠ .dict es) (h2 : ∀ ds, t = .tuple ds -> ∀ d ∈ ds, ∀ es, d ≠ .dict es) : b7 [t, .int many] = .ok (.sh (.bool (Eb many t))) := by
 simp only [b7, gd]
 by_cases ht : ∃ ds, t = .tuple ds
 ·obtain ⟨ds, rfl⟩ := ht
  obtain ⟨pv', e⟩ := oy (.tuple ds) many ds 0 none (h2 ds rfl)
  have hi : isiD "tuple" (.tuple ds) = true := rfl
  cases hs : E3 many 0 ds with
  | none => rw [hs] at e; simp [hi, e, Eb, hs]
  | some l => rw [hs] at e; simp [hi, e, Eb, hs]
 ·have hi : isiD "tuple" t = false := by cases t <;> first | rfl | exact absurd ⟨_, rfl⟩ ht | exact absurd rfl (h _)
  have hs : Eb many t = false := by cases t <;> first | rfl | exact absurd ⟨_, rfl⟩ ht
  simp [qE "tuple" h, hi, hs]
theorem pX {n : Nat} {t : PyData} (h : D4 n t) : ∀ ds, t = .tuple ds -> ∀ d ∈ ds, ∀ es, d ≠ .dict es := fun ds e d hd => by
 subst e
 exact (nK h d hd).nd
theorem xk {n : Nat} {t : PyData} (many : Int) (h : D4 n t) : b7 [t, .int many] = .ok (.sh (.bool (Eb many t))) := B7 t many h.nd (pX h)
theorem oz (t : PyData) (many : Int) : ∀ (xs : Ct) (k : Nat) (p s : Option SD), (∀ x ∈ xs, D4 50 x /\ Eb many x = true) -> ∃ p' s', forL (kTup [2, 3]) gf (Dy k xs) [some (.sh t), some (.sh (.int many)), p, s] = .nx [some (.sh t), some (.sh (.int many)), p', s']
 | [], k, p, s, _ => ⟨p, s, rfl⟩
 | x :: r, k, p, s, h => by
  obtain ⟨hx, hs⟩ := h x (List.mem_cons_self ..)
  obtain ⟨p', s', ih⟩ := oz t many r (k + 1) (some (.sh (.int k))) (some (.sh x)) (fun y hy => h y (List.mem_cons_of_mem _ hy))
  refine ⟨p', s', ?_⟩
  rw [Dy, aI]
  simp [gf, xk many hx, hs]
  exact ih
noncomputable def isFr (most : Int) : PyData -> Bool
 | .int k => decide (1 <= k) && decide (k <= most)
 | _ => false
theorem wA (d : PyData) (most : Int) (h : ∀ es, d ≠ .dict es) : aR [d, .int most] = .ok (.sh (.bool (isFr most d))) := by
 simp only [aR, cI]
 by_cases h1 : ∃ k, d = .int k
 ·obtain ⟨k, rfl⟩ := h1
  by_cases h2 : 1 <= k
  ·simp [e7 _ h, isWh, isFr, h2]
  ·have h2' : k < 1 := by lia
   simp [e7 _ h, isWh, isFr, h2, h2']
 ·have hw := uL (d := d) fun i e => h1 ⟨i, e⟩
  have hf : isFr most d = false := by cases d <;> first | rfl | exact absurd ⟨_, rfl⟩ h1
  simp [e7 _ h, hw, hf]
theorem B8 {xs : Ct} {many : Int} (h : ∀ x ∈ xs, D4 50 x /\ Eb many x = true) (h1 : 1 <= many) (h2 : many <= 16) (hl : xs.length <= 24) : cJ [.list xs, .int many] = .ok (.ol xs) := by
 have hF : isFr 16 (.int many) = true := by simp [isFr]; lia
 have hi : isiD "list" (.list xs) = true := rfl
 have h5' : ¬ (24 : Int) < xs.length := by lia
 obtain ⟨p', s', el⟩ := oz (.list xs) many xs 0 none none h
 have hf := wA (.int many) 16 (fun es e => by cases e)
 rw [hF] at hf
 simp only [cJ, iQ]
 simp [hf, hi, h5', el]
open Sy (D6)
noncomputable def encO : Option Int -> PyData
 | none => .none
 | some v => .int v
noncomputable def CC (ch : List (Option Int)) : PyData := .list (ch.map encO)
theorem uM {ch : List (Option Int)} {i : Int} (h0 : 0 <= i) (h1 : i < ch.length) : atI (ch.map encO) i = some (encO (chAt ch i.toNat)) := by
 rw [iK h0 (by simpa using h1)]
 simp only [List.getElem_map, Option.some.injEq]
 unfold chAt
 rw [List.getD_eq_getElem?_getD, List.getElem?_eq_getElem (by lia)]
 rfl
noncomputable def Low (n : Nat) (s : List Int) : Prop := ∀ p ∈ s, 1 <= absI p /\ absI p <= n
theorem B9 (o : Option Int) (v : Int) : dEqB (encO o) (.int v) = some (decide (o = some v)) := by
 cases o with
 | none =>
  have h1 : SeqAt.shaped .none = true := (rL 0).shaped (by decide)
  have h2 : SeqAt.shaped (.int v) = true := (g8 0 v).shaped (by decide)
  simp [encO, dEqB, h1, h2, PyData.eqv]
 | some w => simp [encO, dEqB]
theorem Ba {ch : List (Option Int)} {p : Int} (h : 1 <= absI p /\ absI p <= ch.length) : gC [.int p, CC ch] = .ok (.sh (.bool (litO ch p))) := by
 have e1 : atI (ch.map encO) (absI p - 1) = some (encO (chAt ch (ix p))) := uM (by lia) (by lia)
 have q1 := B9 (chAt ch (ix p)) 1
 have q0 := B9 (chAt ch (ix p)) 0
 simp only [gC, mM, CC]
 unfold litO
 generalize chAt ch (ix p) = o at e1 q1 q0
 have pe : CI (encO o) = true := by cases o <;> rfl
 generalize encO o = d at e1 q1 q0 pe
 unfold absI at e1
 by_cases hp : 0 < p
 ·simp [e1, hp, dEq, q1, pe]
 ·simp [e1, hp, dEq, q0, pe]
theorem wB {ch : List (Option Int)} {s : List Int} (h : Low ch.length s) (h2 : s.length <= 1000) : gF [encS s, CC ch] = .ok (.sh (.bool (sayO ch s))) := by
 have hz : s.length <= sizeLine := aE h2
 have hc : CZ [none, some (.sh (CC ch))] De gE (s.map PyData.int) = some (s.map fun p => PyData.bool (litO ch p)) := by
  have := eY (ρ := [none, some (.sh (CC ch))]) (te := gE) (y := fun d => match d with | .int p => .bool (litO ch p) | d => d) (ds := s.map PyData.int) fun d hd => by
   obtain ⟨p, hp, rfl⟩ := List.mem_map.mp hd
   have := Ba (h p hp)
   simp [gE, this]
  rw [this, List.map_map]
  rfl
 have hb := ip (fun p => litO ch p) s
 have e : sayO ch s = (s.map fun p => litO ch p).any id := by simp [sayO]
 rw [e]
 simp only [gF, mN]
 simp [encS, hz, hc, hb]
theorem uN {ch : List (Option Int)} {s : List Int} (h : Low ch.length s) (h2 : s.length <= 1000) : aO [encS s, CC ch] = .ok (.ol ((s.filter (DV ch)).map PyData.int)) := by
 have hz : s.length <= sizeLine := aE h2
 have hc : CZ [none, some (.sh (CC ch))] cw cx (s.map PyData.int) = some ((s.filter (DV ch)).map PyData.int) := by
  have := aV (ρ := [none, some (.sh (CC ch))]) (tc := cw) (te := cx) (b := fun d => match d with | .int p => DV ch p | _ => false) (y := fun d => d) (ds := s.map PyData.int) fun d hd => by
   obtain ⟨p, hp, rfl⟩ := List.mem_map.mp hd
   have hl := h p hp
   have e1 : atI (ch.map encO) (absI p - 1) = some (encO (chAt ch (ix p))) := uM (by lia) (by lia)
   have e2 : dIs [encO (chAt ch (ix p)), .none] = some (.sh (.bool (DV ch p))) := by
    unfold DV
    cases chAt ch (ix p) with
    | none => rfl
    | some v => rfl
   have pe : CI (encO (chAt ch (ix p))) = true := by cases chAt ch (ix p) <;> rfl
   generalize encO (chAt ch (ix p)) = d at e1 e2 pe
   unfold absI at e1
   refine ⟨_, by simp [cw, CC, e1, e2, pe]; rfl, fun _ => ⟨_, by simp [cx]; rfl⟩⟩
  rw [this, List.map_id', List.filter_map]
  rfl
 simp only [aO, fE]
 simp [encS, hz, hc]
noncomputable def Dn (ch : List (Option Int)) : Nat -> List (List Int) -> List Nat
 | _, [] => []
 | k, s :: r => if sayO ch s = true then Dn ch (k + 1) r else k :: Dn ch (k + 1) r
theorem gH {ch : List (Option Int)} : ∀ {ss : List (List Int)} {k i : Nat}, i ∈ Dn ch k ss -> ∃ s, k <= i /\ ss[i - k]? = some s /\ sayO ch s = false
 | [], k, i, h => by simp [Dn] at h
 | s :: r, k, i, h => by
  unfold Dn at h
  split at h
  next hs =>
   obtain ⟨s', h1, h2, h3⟩ := gH h
   refine ⟨s', by lia, ?_, h3⟩
   have : i - k = (i - (k + 1)) + 1 := by lia
   rw [this, List.getElem?_cons_succ]; exact h2
  next hs =>
   rcases List.mem_cons.mp h with rfl | h
   ·exact ⟨s, Nat.le_refl _, by simp, by simpa using hs⟩
   ·obtain ⟨s', h1, h2, h3⟩ := gH h
    refine ⟨s', by lia, ?_, h3⟩
    have : i - k = (i - (k + 1)) + 1 := by lia
    rw [this, List.getElem?_cons_succ]; exact h2
theorem lR {ch : List (Option Int)} : ∀ {ss : List (List Int)} {k : Nat}, Dn ch k ss = [] -> ∀ s ∈ ss, sayO ch s = true
 | [], k, _, s, h => by simp at h
 | s :: r, k, h, s', hs' => by
  unfold Dn at h
  split at h
  next hs =>
   rcases List.mem_cons.mp hs' with rfl | hs'
   ·exact hs
   ·exact lR h s' hs'
  ·cases h
theorem iR {ch : List (Option Int)} : ∀ {ss : List (List Int)} {k : Nat}, (Dn ch k ss).length <= ss.length
 | [], k => by simp [Dn]
 | s :: r, k => by
  unfold Dn
  split
  ·have := iR (ch := ch) (ss := r) (k := k + 1); simp only [List.length_cons]; lia
  ·have := iR (ch := ch) (ss := r) (k := k + 1); simp only [List.length_cons]; lia
theorem lS {ch : List (Option Int)} : ∀ {ss : List (List Int)} {k : Nat}, (∀ s ∈ ss, Low ch.length s /\ s.length <= 1000) ->
  DU [none, none, some (.sh (CC ch))] cN cO (Dy k (Cz ss)) = some ((Dn ch k ss).map fun (i : Nat) => PyData.int (i : Int))
 | [], k, _ => rfl
 | s :: r, k, h => by
  have ih := lS (k := k + 1) fun s hs => h s (List.mem_cons_of_mem _ hs)
  obtain ⟨h1, h2⟩ := h s (List.mem_cons_self ..)
  have hf := wB h1 h2
  show DU _ _ _ (.tuple [.int (k : Int), encS s] :: Dy (k + 1) (Cz r)) = _
  unfold DU Dn
  have hk : kTup [0, 1] (.tuple [.int (k : Int), encS s]) [none, none, some (.sh (CC ch))] = some [some (.sh (.int (k : Int))), some (.sh (encS s)), some (.sh (CC ch))] := rfl
  rw [hk]
  dsimp only
  have ht : cN [some (.sh (.int (k : Int))), some (.sh (encS s)), some (.sh (CC ch))] = .ok (!sayO ch s, [some (.sh (.int (k : Int))), some (.sh (encS s)), some (.sh (CC ch))]) := by
   simp [cN, hf]
  have hx : vE cO [some (.sh (.int (k : Int))), some (.sh (encS s)), some (.sh (CC ch))] = .ok (.int (k : Int), [some (.sh (.int (k : Int))), some (.sh (encS s)), some (.sh (CC ch))]) := by
   simp [cO]
  rw [ht]
  dsimp only
  cases hs : sayO ch s with
  | true =>
   simp only [Bool.not_true, Bool.false_eq_true, if_false, if_true]
   exact ih
  | false =>
   simp only [Bool.not_false, if_true, Bool.false_eq_true, if_false]
   rw [hx]
   dsimp only
   rw [ih]
   rfl
theorem lT {ρ : DEnv} {te : DE} : ∀ {ds : Ct}, (∀ d ∈ ds, ∃ n ρ', vE te (ρ.set 0 (some (.sh d))) = .ok (.int n, ρ')) -> ∃ ks, Ey ρ te ds = some ks /\ ks.length = ds.length
 | [], _ => ⟨[], rfl, rfl⟩
 | d :: r, h => by
  obtain ⟨n, ρ', e⟩ := h d (List.mem_cons_self ..)
  obtain ⟨ks, e2, e3⟩ := lT (ρ := ρ) (te := te) (ds := r) fun x hx => h x (List.mem_cons_of_mem _ hx)
  refine ⟨n :: ks, ?_, by simp [e3]⟩
  unfold Ey
  rw [e]
  dsimp only
  rw [e2]
  rfl
theorem lU : ∀ (l : List (PyData × Int)) (b : PyData × Int), ∃ q, minD (some b) l = some q /\ (q = b \/ q ∈ l)
 | [], b => ⟨b, rfl, .inl rfl⟩
 | p :: r, b => by
  show ∃ q, minD (DR (some b) p) r = some q /\ _
  have : DR (some b) p = some (if p.2 < b.2 then p else b) := by unfold DR; dsimp only; split <;> rfl
  rw [this]
  obtain ⟨q, h1, h2⟩ := lU r (if p.2 < b.2 then p else b)
  refine ⟨q, h1, ?_⟩
  rcases h2 with z | z
  ·split at z
   ·exact .inr (by rw [z]; exact List.mem_cons_self ..)
   ·exact .inl z
  ·exact .inr (List.mem_cons_of_mem _ z)
theorem uO {ds : Ct} {ks : List Int} (hl : ks.length = ds.length) (hne : ds ≠ []) : minR (minD none (ds.zip ks)) ∈ ds := by
 match ds, ks, hl, hne with
 | d :: r, k :: kr, hl, _ =>
  show minR (minD (some (d, k)) (r.zip kr)) ∈ _
  obtain ⟨q, h1, h2⟩ := lU (r.zip kr) (d, k)
  rw [h1]
  show q.1 ∈ _
  rcases h2 with z | z
  ·rw [z]; exact List.mem_cons_self ..
  ·exact List.mem_cons_of_mem _ (List.of_mem_zip z).1
theorem uP {ch : List (Option Int)} {ss : List (List Int)} (h : ∀ s ∈ ss, Low ch.length s /\ s.length <= 1000) (hn : ss.length <= 24) :
  (b8 [.list (Cz ss), CC ch] = .ok (.sh .none) /\ ∀ s ∈ ss, sayO ch s = true) \/ ∃ (i : Nat) (s : List Int), b8 [.list (Cz ss), CC ch] = .ok (.sh (.int (i : Int))) /\ ss[i]? = some s /\ sayO ch s = false := by
 have hw := lS (k := 0) h
 have hl := iR (ch := ch) (ss := ss) (k := 0)
 have hz : (Dy 0 (Cz ss)).length <= sizeLine := aE (by rw [iI, bH]; lia)
 have hkeys := lT (ρ := [none, some (.sh (CC ch)), some (.sh (.list (Cz ss)))]) (te := eG) (ds := (Dn ch 0 ss).map fun (i : Nat) => PyData.int (i : Int)) fun d hd => by
  obtain ⟨i, hi, rfl⟩ := List.mem_map.mp hd
  obtain ⟨s, _, h2, _⟩ := gH hi
  rw [Nat.sub_zero] at h2
  obtain ⟨l1, l2⟩ := h s (List.mem_of_getElem? h2)
  have hf := uN l1 l2
  have hlt : i < ss.length := (List.getElem?_eq_some_iff.mp h2).1
  have hat : atI (Cz ss) (i : Int) = some (encS s) := by
   rw [iK (by lia) (by rw [bH]; lia)]
   simp only [Int.toNat_natCast, Cz, List.getElem_map]
   congr 2
   exact Option.some.inj ((List.getElem?_eq_getElem hlt).symm.trans h2)
  have hlen : ((s.filter (DV ch)).map PyData.int).length <= sizeLine := aE (by rw [List.length_map]; exact Nat.le_trans (List.length_filter_le _ _) l2)
  generalize (s.filter (DV ch)).map PyData.int = L at hf hlen
  generalize Cz ss = S at hat
  exact ⟨_, _, by simp [eG, hat, hf]; exact ⟨rfl, rfl⟩⟩
 obtain ⟨ks, hk, hkl⟩ := hkeys
 have pS := aN ss
 have pw : CA ((Dn ch 0 ss).map fun (i : Nat) => PyData.int (i : Int)) = true := by
  have : ((Dn ch 0 ss).map fun (i : Nat) => PyData.int (i : Int)) = ((Dn ch 0 ss).map fun (i : Nat) => (i : Int)).map PyData.int := by rw [List.map_map]; rfl
  rw [this]; exact aJ _
 have key : b8 [.list (Cz ss), CC ch] = .ok (.sh (minR (minD none (((Dn ch 0 ss).map fun (i : Nat) => PyData.int (i : Int)).zip ks)))) := by
  generalize (Dn ch 0 ss).map (fun (i : Nat) => PyData.int (i : Int)) = W at hw hk pw
  simp only [b8, gi]
  generalize Cz ss = S at hw hk hz pS
  generalize CC ch = C at hw hk
  simp [Eh, EK, eMin, Ez, hz, hw, pw, hk]
 rw [key]
 by_cases he : Dn ch 0 ss = []
 ·rw [he]
  exact .inl ⟨rfl, lR he⟩
 ·have hm := uO (ks := ks) hkl (by intro z; exact he (List.map_eq_nil_iff.mp z))
  obtain ⟨i, hi, e⟩ := List.mem_map.mp hm
  obtain ⟨s, _, h2, h3⟩ := gH hi
  rw [Nat.sub_zero] at h2
  rw [<- e]
  exact .inr ⟨i, s, rfl, h2, h3⟩
noncomputable def encK (ks : List Int) : List (PyData × PyData) := ks.map fun p => (.int p, .bool true)
theorem kc (t : Int) : ∀ ks : List Int, ((encK ks).any fun p => decide (CY p.1 = some (.inl t))) = decide (t ∈ ks)
 | [] => by simp [encK]
 | k :: r => by
  have ih := kc t r
  have e : encK (k :: r) = (.int k, .bool true) :: encK r := rfl
  rw [e, List.any_cons, ih]
  have e2 : CY (PyData.int k) = some (.inl k) := rfl
  dsimp only
  rw [e2]
  by_cases h : k = t
  ·subst h; simp
  ·have h' : ¬ t = k := fun z => h z.symm
   simp [h, h']
theorem yJ (ks : List Int) (p : Int) : putD (encK ks) (.inl p) (.bool true) = encK (insK ks p) := by
 unfold putD insK
 rw [kc]
 by_cases h : p ∈ ks
 ·rw [if_pos (decide_eq_true h), if_pos h]
  unfold encK
  rw [List.map_map]
  refine List.map_congr_left fun q _ => ?_
  simp only [Function.comp, CY]
  exact ite_self _
 ·rw [if_neg (by simpa using h), if_neg h]
  unfold encK
  rw [List.map_append]
  rfl
theorem oA {ks : List Int} {p : Int} : (insK ks p).length <= ks.length + 1 := by
 unfold insK
 split
 ·lia
 ·simp
theorem lV : ∀ {l ks : List Int}, (l.foldl insK ks).length <= ks.length + l.length
 | [], ks => by simp
 | p :: r, ks => by
  have := lV (l := r) (ks := insK ks p)
  have h2 := oA (ks := ks) (p := p)
  simp only [List.foldl_cons, List.length_cons]
  lia
theorem oB {x0 x1 : SD} {t : Int} {U : List Int} (hU : ∀ p ∈ U, -p ∈ U -> absI p = t) : ∀ (l ks : List Int) (x4 : Option SD), (∀ p ∈ l, p ∈ U) -> (∀ p ∈ ks, p ∈ U) -> ks.length + l.length <= 60 ->
  ∃ y4, forL (kN 4) bh (l.map PyData.int) [some x0, some x1, some (.sh (.int t)), some (.od (encK ks)), x4] = .nx [some x0, some x1, some (.sh (.int t)), some (.od (encK (l.foldl insK ks))), y4]
 | [], ks, x4, _, _, _ => ⟨x4, rfl⟩
 | p :: r, ks, x4, h1, h2, hl => by
  rw [List.length_cons] at hl
  have hi := oA (ks := ks) (p := p)
  obtain ⟨y4, ih⟩ := oB (x0 := x0) (x1 := x1) hU r (insK ks p) (some (.sh (.int p))) (fun q hq => h1 q (List.mem_cons_of_mem _ hq)) (fun q hq => by
   rcases ou.mp hq with z | z
   ·exact h2 q z
   ·rw [z]; exact h1 p (List.mem_cons_self ..)) (by lia)
  refine ⟨y4, ?_⟩
  rw [List.map_cons, aI]
  have ha := kc (-p) ks
  have hp := yJ ks p
  have hz : (encK ks).length < sizeLine := gx (by unfold encK; rw [List.length_map]; lia)
  have hin : dIn2 [.int (-p), .dict (encK ks)] = some (.sh (.bool (decide (-p ∈ ks)))) := by
   show ((CY (.int (-p))).map fun k => (encK ks).any fun p => decide (CY p.1 = some k)).map (fun b => SD.sh (.bool b)) = _
   show some (SD.sh (.bool ((encK ks).any fun q => decide (CY q.1 = some (.inl (-p)))))) = _
   rw [ha]
  have hab : (-p ∈ ks) -> (if p < 0 then -p else p) = t := fun z => hU p (h1 p (List.mem_cons_self ..)) (h2 _ z)
  rw [List.foldl_cons]
  generalize hE : encK ks = es at hp hz hin
  generalize hE2 : encK (insK ks p) = es2 at hp ih
  by_cases hm : -p ∈ ks
  ·have ha2 := hab hm
   simp only [hm, decide_true] at hin
   simp [bh, hin, ha2, hz, hp]
   exact ih
  ·simp only [hm, decide_false] at hin
   simp [bh, hin, hz, hp]
   exact ih
theorem Bb {a b : List Int} {t : Int} (h : Compat a b t) (hl : a.length + b.length <= 60) : aT [encS a, encS b, .int t] = .ok (.sh (encS (resolve a b t))) := by
 obtain ⟨y4, e1⟩ := oB (x0 := .sh (encS a)) (x1 := .sh (encS b)) (t := t) (U := a ++ b) h (a ++ b) [] none (fun p hp => hp) (fun p hp => absurd hp (by simp)) (by simpa using hl)
 have hul : (Dw a b).length <= 60 := by
  have := lV (l := a ++ b) (ks := [])
  unfold Dw
  simp at this ⊢
  lia
 have hc : CZ [none, some (.sh (.int t))] bJ bK ((encK (Dw a b)).map (·.1)) = some ((DP a b t).map PyData.int) := by
  have em : (encK (Dw a b)).map (·.1) = (Dw a b).map PyData.int := by unfold encK; rw [List.map_map]; rfl
  rw [em]
  have := aV (ρ := [none, some (.sh (.int t))]) (tc := bJ) (te := bK) (b := fun d => match d with | .int p => decide (absI p ≠ t) | _ => false) (y := fun d => d) (ds := (Dw a b).map PyData.int) fun d hd => by
   obtain ⟨p, hp, rfl⟩ := List.mem_map.mp hd
   refine ⟨[some (.sh (.int p)), some (.sh (.int t))], ?_, fun _ => ⟨_, by simp [bK]; rfl⟩⟩
   unfold absI
   simp [bJ]
  rw [this, List.map_id', List.filter_map]
  rfl
 have hz : (encK (Dw a b)).length <= sizeLine := aE (by unfold encK; rw [List.length_map]; lia)
 have hz' : ¬ (sizeLine < (encK (Dw a b)).length) := Nat.not_lt.mpr hz
 have hr : (DP a b t).length < 64 := by
  have := List.length_filter_le (fun p => decide (absI p ≠ t)) (Dw a b)
  unfold DP
  lia
 have hap := ja h
 have hio := bp (DP a b t)
 have hs : DZ [.list ((DP a b t).map PyData.int)] = some (.ol ((resolve a b t).map PyData.int)) := by
  unfold DZ
  dsimp only
  rw [if_pos (by rw [List.length_map]; exact hr), hio]
  dsimp only
  rw [if_pos hap]
  rfl
 have hit : DJ (eOp dAdd [.nm 0, .nm 1]) [some (.sh (encS a)), some (.sh (encS b)), some (.sh (.int t)), some (.od []), none] = .ok ((a ++ b).map PyData.int, [some (.sh (encS a)), some (.sh (encS b)), some (.sh (.int t)), some (.od []), none]) := by
  have : a.length + b.length <= sizeLine := aE (by lia)
  simp [encS, this]
 have e1' : forL (kN 4) bh ((a ++ b).map PyData.int) [some (.sh (encS a)), some (.sh (encS b)), some (.sh (.int t)), some (.od []), none] = .nx [some (.sh (encS a)), some (.sh (encS b)), some (.sh (.int t)), some (.od (encK (Dw a b))), y4] := e1
 have pr := aJ (DP a b t)
 have ps := aJ (resolve a b t)
 have hzr : ((resolve a b t).map PyData.int).length <= sizeLine := aE (by rw [List.length_map]; unfold resolve; rw [(bI _).length_eq]; lia)
 simp only [aT, dP]
 generalize (a ++ b).map PyData.int = AB at hit e1'
 unfold encS
 unfold encS at hit e1'
 generalize a.map PyData.int = A at hit e1'
 generalize b.map PyData.int = B at hit e1'
 generalize encK (Dw a b) = es at e1' hc hz hz'
 generalize (DP a b t).map PyData.int = L at hc hs pr
 generalize (resolve a b t).map PyData.int = M at hs ps hzr ⊢
 simp [-eW, hit, e1', EB, hz', hc, pr, hs, hzr, ps]
inductive Prf where
 | leaf (i : Nat) (s : List Int)
 | node (a b : Prf) (s : List Int)
noncomputable def Prf.say : Prf -> List Int
 | .leaf _ s => s
 | .node _ _ s => s
noncomputable def CG : Prf -> PyData
 | .leaf i s => .tuple [encS s, .tuple [.int i]]
 | .node a b s => .tuple [encS s, .tuple [CG a, CG b]]
noncomputable def Prf.Ok (ss : List (List Int)) : Prf -> Prop
 | .leaf i s => ss[i]? = some s
 | .node a b s => a.Ok ss /\ b.Ok ss /\ ∃ t, 0 < t /\ t ∈ a.say /\ -t ∈ b.say /\ Compat a.say b.say t /\ s = resolve a.say b.say t
noncomputable def Prf.rest : Prf -> PyData
 | .leaf i _ => .tuple [.int i]
 | .node a b _ => .tuple [CG a, CG b]
theorem iS (p : Prf) : CG p = .tuple [encS p.say, p.rest] := by cases p <;> rfl
theorem dJ : ∀ p : Prf, CI (CG p) = true
 | .leaf i s => by simp [CG]
 | .node a b s => by simp [CG, dJ a, dJ b]
theorem hJ {n : Nat} {s : List Int} (h : CU n s) : s.length <= n := by
 have h1 : (s.map absI).Pairwise (· < ·) := h.rise
 have h2 : ∀ p ∈ s.map absI, 1 <= p /\ p <= (n : Int) := fun p hp => by
  obtain ⟨q, hq, rfl⟩ := List.mem_map.mp hp
  exact h.low q hq
 have key : ∀ (l : List Int) (lo : Int), l.Pairwise (· < ·) -> (∀ p ∈ l, lo < p /\ p <= (n : Int)) -> (l.length : Int) <= (n : Int) - lo \/ l = [] := fun l => by
  induction l with
  | nil => intro _ _ _; exact .inr rfl
  | cons p r ih =>
   intro lo hp hb
   obtain ⟨a1, a2⟩ := List.pairwise_cons.mp hp
   have b1 := hb p (List.mem_cons_self ..)
   rcases ih p a2 fun q hq => ⟨a1 q hq, (hb q (List.mem_cons_of_mem _ hq)).2⟩ with z | z
   ·left; rw [List.length_cons]; lia
   ·subst z; left; simp; lia
 rcases key (s.map absI) 0 h1 fun p hp => by have := h2 p hp; lia with z | z
 ·rw [List.length_map] at z; lia
 ·rw [List.map_eq_nil_iff] at z; subst z; simp
theorem yK {α : Type} {l : List α} {i : Nat} {x : α} (h : i < l.length) : l.set i x = l.take i ++ [x] ++ l.drop (i + 1) := by
 rw [List.set_eq_take_append_cons_drop, if_pos h]
 simp
theorem yL {xs : Ct} {k : Int} (h0 : 0 <= k) (h1 : k <= xs.length) : cutD xs none (some k) = xs.take k.toNat := by
 obtain ⟨m, rfl⟩ := Int.eq_ofNat_of_zero_le h0
 unfold cutD
 rw [HT.nh, HT.qk, Int.toNat_natCast, List.drop_zero, Nat.sub_zero]
 congr 1
 lia
theorem yM {xs : Ct} {k : Int} (h0 : 0 <= k) (h1 : k <= xs.length) : cutD xs (some k) none = xs.drop k.toNat := by
 obtain ⟨m, rfl⟩ := Int.eq_ofNat_of_zero_le h0
 unfold cutD
 rw [HT.nh, HT.qk, Int.toNat_natCast, Nat.min_eq_left (by lia)]
 exact List.take_of_length_le (by rw [List.length_drop]; exact Nat.le_refl _)
noncomputable def yN : DE := eOp dAdd [.ex (eOp dAdd [.ex (eOp dSlH [.nm 1, .ex (eOp dSub [.nm 2, .ex (eC (.int 1))])]), .ex (eOp dLst [.nm 4])]), .ex (eOp dSlL [.nm 1, .nm 2])]
theorem qW {ch : List (Option Int)} {i : Nat} {v : Int} {x0 x3 x5 x6 x7 : Option SD} (hi : i < ch.length) (hl : ch.length <= 100) : vE yN [x0, some (.sh (CC ch)), some (.sh (.int ((i : Int) + 1))), x3, some (.sh (.int v)), x5, x6, x7] =
  .ok (CC (ch.set i (some v)), [x0, some (.sh (CC ch)), some (.sh (.int ((i : Int) + 1))), x3, some (.sh (.int v)), x5, x6, x7]) := by
 have e1 : slD (.list (ch.map encO)) none (some (i : Int)) = some (.ol ((ch.take i).map encO)) := by
  unfold slD
  dsimp only
  rw [yL (by lia) (by rw [List.length_map]; lia), Int.toNat_natCast, List.map_take]
 have e2 : slD (.list (ch.map encO)) (some ((i : Int) + 1)) none = some (.ol ((ch.drop (i + 1)).map encO)) := by
  unfold slD
  dsimp only
  rw [yM (by lia) (by rw [List.length_map]; lia), List.map_drop]
  have : ((i : Int) + 1).toNat = i + 1 := by lia
  rw [this]
 have e3 : (ch.set i (some v)).map encO = ((ch.take i).map encO ++ [.int v]) ++ (ch.drop (i + 1)).map encO := by
  rw [yK hi]
  simp [encO]
 have p : ∀ l : List (Option Int), CA (l.map encO) = true := fun l => by
  induction l with
  | nil => rfl
  | cons o r ih => rw [List.map_cons, cW, ih]; cases o <;> rfl
 have p1 := p (ch.take i)
 have p2 := p (ch.drop (i + 1))
 have l1 : ((ch.take i).map encO).length <= 100 := by rw [List.length_map, List.length_take]; lia
 have l2 : ((ch.drop (i + 1)).map encO).length <= 100 := by rw [List.length_map, List.length_drop]; lia
 have z1 : ((ch.take i).map encO).length + 1 <= sizeLine := aE (by lia)
 have z2 : ((ch.take i).map encO).length + 1 + ((ch.drop (i + 1)).map encO).length <= sizeLine := aE (by lia)
 unfold CC
 rw [e3]
 generalize (ch.take i).map encO = A at *
 generalize (ch.drop (i + 1)).map encO = B at *
 generalize ch.map encO = C at *
 simp [yN, e1, e2, z1, z2, p1, p2]
noncomputable def Em (c : List Int) : PyData := .tuple [.str "case", encL c]
noncomputable def Da (p : Prf) : PyData := .tuple [.str "clash", CG p]
theorem xl (q : Int) (s : List Int) : inB (.int q) (encS s) = some (decide (q ∈ s)) := by
 have h1 : SeqAt.shaped (.int q) = true := (g8 0 q).shaped (by decide)
 have h2 : SeqAt.shaped (.list (s.map PyData.int)) = true := (aQ (cH 0 s)).shaped (by decide)
 unfold encS inB
 dsimp only
 rw [if_pos ⟨h1, h2⟩]
 congr 1
 induction s with
 | nil => rfl
 | cons p r ih =>
  have h3 : SeqAt.shaped (.list (r.map PyData.int)) = true := (aQ (cH 0 r)).shaped (by decide)
  rw [List.map_cons, List.any_cons, ih h3]
  simp only [PyData.eqv]
  by_cases e : p = q
  ·subst e; simp
  ·have e' : ¬ q = p := fun z => e z.symm
   simp [e, e']
theorem mP (q : Int) (s : List Int) : DK [.int q, encS s] = some (.sh (.bool (!decide (q ∈ s)))) := by
 have := xl q s
 unfold encS at this ⊢
 show (inB (.int q) (.tuple (s.map PyData.int))).map (fun b => SD.sh (.bool !b)) = _
 rw [this]
 rfl
theorem oC : ¬ (Str.ofString "clash" = Str.ofString "case") := by decide
theorem lW (φ : Ct -> Out SD) : az φ = sSeq (sAsg 5 (CJ φ [.nm 0, .ex yN])) (sSeq (sIf (tstV (eOp dEq [.ex (eOp dIdx [.nm 5, .ex (eC (.int 0))]), .ex (eC (.str "case"))])) (Et 5) (CO)) (sSeq (sAsg 6 (eOp dIdx [.nm 5, .ex (eC (.int 1))])) (sSeq (sIf (tstV (eOp DK [.ex (eIf (tstV (eOp dEq [.nm 4, .ex (eC (.int 0))])) (eV 2) (eOp dNeg [.nm 2])), .ex (eOp dIdx [.nm 6, .ex (eC (.int 0))])])) (Et 5) (CO)) (sMut Eu 3 (.nm 6))))) := rfl
theorem lX {φ : Ct -> Out SD} {SS : PyData} {ch : List (Option Int)} {i : Nat} {v : Int} {c : List Int} {P : Ct} {x5 x6 x7 : Option SD} (hi : i < ch.length) (hl : ch.length <= 100) (hφ : φ [SS, CC (ch.set i (some v))] = .ok (.sh (Em c))) :
  az φ [some (.sh SS), some (.sh (CC ch)), some (.sh (.int ((i : Int) + 1))), some (.ol P), some (.sh (.int v)), x5, x6, x7] = .rt (.sh (Em c)) := by
 have hT := qW (v := v) (x0 := some (.sh SS)) (x3 := some (.ol P)) (x5 := x5) (x6 := x6) (x7 := x7) hi hl
 rw [wW] at hT
 rw [lW]
 have a0 : atI [PyData.str "case", encL c] 0 = some (.str "case") := rfl
 unfold Em at hφ ⊢
 generalize encL c = C at hφ a0
 generalize CC (ch.set i (some v)) = D at hφ hT
 generalize CC ch = E at hT
 simp [hT, hφ, a0]
theorem ke {φ : Ct -> Out SD} {SS : PyData} {ch : List (Option Int)} {i : Nat} {v : Int} {p : Prf} {P : Ct} {x5 x6 x7 : Option SD} (hi : i < ch.length) (hl : ch.length <= 100) (hP : P.length <= 100) (hφ : φ [SS, CC (ch.set i (some v))] = .ok (.sh (Da p))) :
  az φ [some (.sh SS), some (.sh (CC ch)), some (.sh (.int ((i : Int) + 1))), some (.ol P), some (.sh (.int v)), x5, x6, x7] =
   if (if v = 0 then ((i : Int) + 1) else -((i : Int) + 1)) ∈ p.say then .nx [some (.sh SS), some (.sh (CC ch)), some (.sh (.int ((i : Int) + 1))), some (.ol (P ++ [CG p])), some (.sh (.int v)), some (.sh (Da p)), some (.sh (CG p)), x7] else .rt (.sh (Da p)) := by
 have hT := qW (v := v) (x0 := some (.sh SS)) (x3 := some (.ol P)) (x5 := x5) (x6 := x6) (x7 := x7) hi hl
 rw [wW] at hT
 rw [lW]
 have a0 : atI [PyData.str "clash", CG p] 0 = some (.str "clash") := rfl
 have a1 : atI [PyData.str "clash", CG p] 1 = some (CG p) := rfl
 have ep := iS p
 have a2 : atI [encS p.say, p.rest] 0 = some (encS p.say) := rfl
 have n1 := mP ((i : Int) + 1) p.say
 have n2 := mP (-((i : Int) + 1)) p.say
 have zP : P.length < sizeLine := gx (by lia)
 have pp := dJ p
 unfold Da at hφ ⊢
 rw [ep] at pp
 rw [ep] at hφ a0 a1 ⊢
 have ps := aS p.say
 generalize p.rest = r at *
 generalize hs : p.say = s at *
 generalize CC (ch.set i (some v)) = D at hφ hT
 generalize CC ch = E at hT
 by_cases hv : v = 0
 ·subst hv
  simp only [if_true]
  by_cases hm : ((i : Int) + 1) ∈ s
  ·simp only [hm, decide_true, Bool.not_true] at n1
   generalize encS s = S at *
   simp [hT, hφ, oC, a0, a1, a2, n1, hm, zP, pp, ps]
  ·simp only [hm, decide_false, Bool.not_false] at n1
   generalize encS s = S at *
   simp [hT, hφ, oC, a0, a1, a2, n1, hm, zP, pp, ps]
 ·simp only [hv, if_false]
  by_cases hm : (-((i : Int) + 1)) ∈ s
  ·simp only [hm, decide_true, Bool.not_true] at n2
   generalize encS s = S at *
   simp [hT, hφ, oC, a0, a1, a2, n2, hm, zP, pp, ps, hv]
  ·simp only [hm, decide_false, Bool.not_false] at n2
   generalize encS s = S at *
   simp [hT, hφ, oC, a0, a1, a2, n2, hm, zP, pp, ps, hv]
noncomputable def Prf.dep : Prf -> Nat
 | .leaf _ _ => 1
 | .node a b _ => max a.dep b.dep + 1
noncomputable def Told (n : Nat) (ss : List (List Int)) (ch : List (Option Int)) (out : Out SD) : Prop :=
 (∃ c, out = .ok (.sh (Em c)) /\ Dk n c /\ Dj ss c = true /\ Ext ch c) \/ (∃ p : Prf, out = .ok (.sh (Da p)) /\ p.Ok ss /\ Clash n ss ch p.say /\ p.dep <= unset ch + 1)
theorem oD {ch : List (Option Int)} {i : Nat} {v : Int} {c : List Int} (hi : i < ch.length) (hn : chAt ch i = none) (h : Ext (ch.set i (some v)) c) : Ext ch c := fun j w e => by
 refine h j w ?_
 rw [cu hi, if_neg (fun z => by rw [z, hn] at e; cases e)]
 exact e
theorem yO {φ : Ct -> Out SD} {SS : PyData} {n i : Nat} {ss : List (List Int)} {ch : List (Option Int)} (hc : ChOk n ch) (hn : n <= 16) (hi : i < n) (ho : chAt ch i = none)
  (h0 : Told n ss (ch.set i (some 0)) (φ [SS, CC (ch.set i (some 0))])) (h1 : Told n ss (ch.set i (some 1)) (φ [SS, CC (ch.set i (some 1))])) : Told n ss ch (af φ [SS, CC ch, .int ((i : Int) + 1)]) := by
 have hi' : i < ch.length := by rw [hc.len]; exact hi
 have hl : ch.length <= 100 := by rw [hc.len]; lia
 have u0 := ff (v := 0) hi' ho
 have u1 := ff (v := 1) hi' ho
 have stop : ∀ r, forL (kN 4) (az φ) [.int 0, .int 1] [some (.sh SS), some (.sh (CC ch)), some (.sh (.int ((i : Int) + 1))), some (.ol []), none, none, none, none] = .rt r -> af φ [SS, CC ch, .int ((i : Int) + 1)] = .ok r := fun r e => by
  simp only [af, b9]
  generalize CC ch = E at e
  simp [e]
 have t1 : (i : Int) + 1 = (i : Int) + 1 := rfl
 rcases h0 with ⟨c, e, c1, c2, c3⟩ | ⟨p, e, p1, p2, pd⟩
 ·refine .inl ⟨c, stop _ ?_, c1, c2, oD hi' ho c3⟩
  rw [aI]
  have := lX (P := []) (x5 := none) (x6 := none) (x7 := none) hi' hl e
  generalize CC ch = E at this
  simp [this]
 ·have b0 := ke (P := []) (x5 := none) (x6 := none) (x7 := none) hi' hl (by simp) e
  simp only [if_true] at b0
  by_cases hm : ((i : Int) + 1) ∈ p.say
  ·rw [if_pos hm] at b0
   simp only [List.nil_append] at b0
   rcases h1 with ⟨c, e', c1, c2, c3⟩ | ⟨q, e', q1, q2, qd⟩
   ·refine .inl ⟨c, stop _ ?_, c1, c2, oD hi' ho c3⟩
    have b1 := lX (P := [CG p]) (x5 := some (.sh (Da p))) (x6 := some (.sh (CG p))) (x7 := none) hi' hl e'
    rw [aI]
    generalize CC ch = E at b0 b1
    generalize CG p = Q at b0 b1
    generalize Da p = R at b0 b1
    simp [b0, aI, b1]
   ·have b1 := ke (P := [CG p]) (x5 := some (.sh (Da p))) (x6 := some (.sh (CG p))) (x7 := none) hi' hl (by simp) e'
    simp only [show ¬ ((1 : Int) = 0) by decide, if_false] at b1
    by_cases hm2 : (-((i : Int) + 1)) ∈ q.say
    ·rw [if_pos hm2] at b1
     have hcp : Compat p.say q.say ((i : Int) + 1) := lQ hi' rfl p2 q2
     have hcl := sJ hi' (t := (i : Int) + 1) rfl p2 q2
     refine .inr ⟨.node p q (resolve p.say q.say ((i : Int) + 1)), ?_, ⟨p1, q1, (i : Int) + 1, by lia, hm, hm2, hcp, rfl⟩, hcl, by simp only [Prf.dep]; lia⟩
     have l1 := hJ p2.ok
     have l2 := hJ q2.ok
     have hput := Bb hcp (by lia)
     have ef : forL (kN 4) (az φ) [.int 0, .int 1] [some (.sh SS), some (.sh (CC ch)), some (.sh (.int ((i : Int) + 1))), some (.ol []), none, none, none, none] =
       .nx [some (.sh SS), some (.sh (CC ch)), some (.sh (.int ((i : Int) + 1))), some (.ol ([CG p] ++ [CG q])), some (.sh (.int 1)), some (.sh (Da q)), some (.sh (CG q)), none] := by
      rw [aI]
      generalize CC ch = E at b0 b1
      generalize CG p = Q at b0 b1
      generalize Da p = R at b0 b1
      generalize CG q = Q2 at b1
      generalize Da q = R2 at b1
      simp [b0, aI, b1]
     have ep := iS p
     have eq := iS q
     have a0 : atI [CG p, CG q] 0 = some (CG p) := rfl
     have a1 : atI [CG p, CG q] 1 = some (CG q) := rfl
     have pp := dJ p
     have pq := dJ q
     have k0 : atI [encS p.say, p.rest] 0 = some (encS p.say) := rfl
     have k1 : atI [encS q.say, q.rest] 0 = some (encS q.say) := rfl
     have s0 := aS p.say
     have s1 := aS q.say
     have sr := aS (resolve p.say q.say ((i : Int) + 1))
     have z2 : 2 <= sizeLine := by decide
     have z1 : 1 <= sizeLine := by decide
     show af φ [SS, CC ch, .int ((i : Int) + 1)] = .ok (.sh (.tuple [.str "clash", .tuple [encS (resolve p.say q.say ((i : Int) + 1)), .tuple [CG p, CG q]]]))
     simp only [af, b9]
     generalize encS (resolve p.say q.say ((i : Int) + 1)) = RS at hput sr ⊢
     simp only [List.cons_append, List.nil_append] at ef
     rw [ep, eq] at ef a0 a1
     rw [ep] at pp
     rw [eq] at pq
     rw [ep, eq]
     generalize CC ch = E at ef
     generalize Da q = R2 at ef
     generalize encS p.say = S0 at *
     generalize encS q.say = S1 at *
     generalize p.rest = r0 at *
     generalize q.rest = r1 at *
     simp [ef, a0, a1, k0, k1, hput, pp, pq, s0, s1, sr, z2]
    ·rw [if_neg hm2] at b1
     refine .inr ⟨q, stop _ ?_, q1, jZ hi' (t := (i : Int) + 1) rfl (.inr rfl) q2 (by rw [if_neg (by decide)]; exact hm2), by lia⟩
     rw [aI]
     generalize CC ch = E at b0 b1
     generalize CG p = Q at b0 b1
     generalize Da p = R at b0 b1
     generalize Da q = R2 at b1
     simp [b0, aI, b1]
  ·rw [if_neg hm] at b0
   refine .inr ⟨p, stop _ ?_, p1, jZ hi' (t := (i : Int) + 1) rfl (.inl rfl) p2 (by rw [if_pos rfl]; exact hm), by lia⟩
   rw [aI]
   generalize CC ch = E at b0
   generalize Da p = R at b0
   simp [b0]
theorem sL (φ : Ct -> Out SD) (ch : List (Option Int)) : CZ [none] De (cy φ) (ch.map encO) = some ((E5 ch).map PyData.int) := by
 have := eY (ρ := [none]) (te := cy φ) (y := fun d => match d with | .none => .int 0 | d => d) (ds := ch.map encO) fun d hd => by
  obtain ⟨o, ho, rfl⟩ := List.mem_map.mp hd
  cases o with
  | none =>
   have e : dIs [.none, .none] = some (.sh (.bool true)) := rfl
   refine ⟨[some (.sh .none)], ?_⟩
   simp [cy, encO, e]
  | some v =>
   have e : dIs [.int v, .none] = some (.sh (.bool false)) := rfl
   refine ⟨[some (.sh (.int v))], ?_⟩
   simp [cy, encO, e]
 rw [this]
 unfold E5
 rw [List.map_map, List.map_map]
 congr 1
 refine List.map_congr_left fun o _ => ?_
 cases o <;> rfl
theorem kf {n : Nat} {ss : List (List Int)} (hs : ∀ s ∈ ss, CU n s) (hl : ss.length <= 24) (hn : n <= 16) : ∀ (m : Nat) (ch : List (Option Int)), ChOk n ch -> unset ch < m -> Told n ss ch (av m [.list (Cz ss), CC ch])
 | 0, ch, _, h => absurd h (by lia)
 | m + 1, ch, hc, hu => by
  have hlow : ∀ s ∈ ss, Low ch.length s /\ s.length <= 1000 := fun s hs' => ⟨fun p hp => by rw [hc.len]; exact (hs s hs').low p hp, by have := hJ (hs s hs'); lia⟩
  have z2 : 2 <= sizeLine := by decide
  have z1 : 1 <= sizeLine := by decide
  rcases uP hlow hl with ⟨e, hall⟩ | ⟨i, s, e, hsi, hns⟩
  ·refine .inl ⟨E5 ch, ?_, wy hc, sI hall, fun j v h => qU h⟩
   have hcm := sL (af (av m)) ch
   have hz : (ch.map encO).length <= sizeLine := aE (by rw [List.length_map, hc.len]; lia)
   have d1 : dIs [.none, .none] = some (.sh (.bool true)) := rfl
   have pF := aJ (E5 ch)
   show runB 4 2 (bF (af (av m))) [.list (Cz ss), CC ch] = _
   unfold Em encL
   unfold CC at e ⊢
   generalize af (av m) = φ at hcm ⊢
   generalize (E5 ch).map PyData.int = C at hcm pF ⊢
   generalize ch.map encO = E at e hcm hz ⊢
   generalize Cz ss = S at e ⊢
   simp only [bF]
   simp [e, d1, hz, hcm, pF, z2]
  ·have hmem := List.mem_of_getElem? hsi
   have ho := uN (hlow s hmem).1 (hlow s hmem).2
   have hlt : i < ss.length := (List.getElem?_eq_some_iff.mp hsi).1
   have hat : atI (Cz ss) (i : Int) = some (encS s) := by
    rw [iK (by lia) (by rw [bH]; lia)]
    simp only [Int.toNat_natCast, Cz, List.getElem_map]
    congr 2
    exact Option.some.inj ((List.getElem?_eq_getElem hlt).symm.trans hsi)
   have d2 : dIs [.int (i : Int), .none] = some (.sh (.bool false)) := rfl
   have pS := aS s
   cases hf : s.filter (DV ch) with
   | nil =>
    rw [hf] at ho
    refine .inr ⟨.leaf i s, ?_, hsi, pV hc hmem (hs s hmem) hns hf, by simp only [Prf.dep]; lia⟩
    show runB 4 2 (bF (af (av m))) [.list (Cz ss), CC ch] = .ok (.sh (.tuple [.str "clash", .tuple [encS s, .tuple [.int (i : Int)]]]))
    generalize af (av m) = φ
    generalize CC ch = E at e ho ⊢
    generalize Cz ss = S at e hat ⊢
    generalize encS s = T at ho hat pS ⊢
    simp only [bF]
    simp only [List.map_nil] at ho
    simp [e, d2, hat, ho, pS, z1, z2, DH]
   | cons p0 r0 =>
    rw [hf] at ho
    have hp0 : p0 ∈ s.filter (DV ch) := by rw [hf]; exact List.mem_cons_self ..
    obtain ⟨hp1, hp2⟩ := List.mem_filter.mp hp0
    have hopen : chAt ch (ix p0) = none := of_decide_eq_true hp2
    have hlo := (hs s hmem).low p0 hp1
    have hix : ix p0 < n := B6 hlo
    have et : absI p0 = (ix p0 : Int) + 1 := by unfold ix; lia
    have hi' : ix p0 < ch.length := by rw [hc.len]; exact hix
    have u0 := ff (v := 0) hi' hopen
    have u1 := ff (v := 1) hi' hopen
    have t0 := kf hs hl hn m (ch.set (ix p0) (some 0)) (hc.set (.inl rfl)) (by lia)
    have t1 := kf hs hl hn m (ch.set (ix p0) (some 1)) (hc.set (.inr rfl)) (by lia)
    have hb := yO (SS := .list (Cz ss)) hc hn hix hopen t0 t1
    rw [<- et] at hb
    have key : av (m + 1) [.list (Cz ss), CC ch] = af (av m) [.list (Cz ss), CC ch, .int (absI p0)] := by
     show runB 4 2 (bF (af (av m))) [.list (Cz ss), CC ch] = _
     have a0 : ∀ r : Ct, atI (PyData.int p0 :: r) 0 = some (.int p0) := fun r => by rw [iK (by decide) (by simp)]; rfl
     have pr : CA (PyData.int p0 :: r0.map PyData.int) = true := by have := aJ (p0 :: r0); exact this
     obtain ⟨o, eo⟩ : ∃ o, af (av m) [.list (Cz ss), CC ch, .int (absI p0)] = .ok (.sh o) := by
      rcases hb with ⟨c, e1, _⟩ | ⟨p, e1, _⟩
      ·exact ⟨_, e1⟩
      ·exact ⟨_, e1⟩
     rw [eo]
     simp only [List.map_cons] at ho
     unfold absI at eo
     generalize af (av m) = φ at eo ⊢
     generalize CC ch = E at e ho eo ⊢
     generalize Cz ss = S at e hat eo ⊢
     generalize encS s = T at ho hat pS ⊢
     generalize r0.map PyData.int = R at ho pr
     simp only [bF]
     simp [e, d2, hat, ho, pS, a0, eo, DH, pr]
    rw [key]
    exact hb
theorem uQ (k : Nat) : (List.replicate k [PyData.none]).flatten = (List.replicate k (none : Option Int)).map encO := by
 induction k with
 | zero => rfl
 | succ k ih => rw [List.replicate_succ, List.flatten_cons, ih, List.replicate_succ]; rfl
theorem wC (n : Nat) : ChOk n (List.replicate n none) /\ unset (List.replicate n (none : Option Int)) = n /\ ∀ c, Ext (List.replicate n none) c := by
 refine ⟨⟨by simp, fun v hv => by have := List.eq_of_mem_replicate hv; cases this⟩, by unfold unset; induction n <;> simp_all [List.replicate_succ], fun c i v h => ?_⟩
 have := (jY h).1
 have := List.eq_of_mem_replicate this
 cases this
@[simp] theorem yP (s : List Int) : CI (encL s) = false := by unfold encL; simp [CI]
theorem qX (p : Int) : Sy.absI p = absI p := rfl
noncomputable def col (k : Nat) (c : List Int) : Int := c.getD k 0
theorem wD {n : Nat} {c : List Int} (h : Dk n c) (k : Nat) : col k c = 0 \/ col k c = 1 := by
 unfold col
 rw [List.getD_eq_getElem?_getD]
 by_cases hk : k < c.length
 ·rw [List.getElem?_eq_getElem hk]
  exact h.bit _ (List.getElem_mem hk)
 ·rw [List.getElem?_eq_none (by lia)]; exact .inl rfl
theorem oE {n : Nat} (f : List Int -> Bool) (h : n <= 5) : ((allC n).filter f).length <= 32 := by
 have h1 := List.length_filter_le f (allC n)
 rw [Sy.jQ] at h1
 have h2 : 2 ^ n <= 2 ^ 5 := Nat.pow_le_pow_right (by decide) h
 lia
theorem wF {n : Nat} {c : List Int} {p : Int} (hc : Dk n c) (h : 1 <= absI p /\ absI p <= c.length) : decide (decide (0 < p) = decide (c.getD (absI p - 1).toNat 0 = 1)) = Ec c p := by
 have hb := wD hc (absI p - 1).toNat
 unfold col at hb
 unfold Ec
 rw [qX]
 generalize c.getD (absI p - 1).toNat 0 = v at hb ⊢
 by_cases hp : 0 < p
 ·rcases hb with z | z <;> simp [hp, z]
 ·rcases hb with z | z <;> simp [hp, z]
theorem kg {n : Nat} {c : List Int} {t : PyData} (hc : Dk n c) : ∀ (s : List Int) (pv : Option SD), Low c.length s -> ∃ pv', forL (kN 2) dz (s.map PyData.int) [some (.sh t), some (.sh (encL c)), pv] = if D9 c s = true then .rt (.sh (.bool true)) else .nx [some (.sh t), some (.sh (encL c)), pv']
 | [], pv, _ => ⟨pv, by simp [D9]⟩
 | p :: r, pv, h => by
  obtain ⟨pv', ih⟩ := kg (t := t) hc r (some (.sh (.int p))) fun q hq => h q (List.mem_cons_of_mem _ hq)
  refine ⟨pv', ?_⟩
  have hp := h p (List.mem_cons_self ..)
  have ea : atI (c.map PyData.int) (absI p - 1) = some (.int (c.getD (absI p - 1).toNat 0)) := ij (by lia) (by lia)
  have el := wF hc hp
  generalize c.getD (absI p - 1).toNat 0 = v at ea el
  rw [List.map_cons, aI]
  have e : D9 c (p :: r) = (Ec c p || D9 c r) := by simp [D9]
  rw [e]
  unfold absI at ea
  cases hl : Ec c p with
  | true =>
   rw [hl] at el
   have el' := of_decide_eq_true el
   simp [dz, encL, ea, el']
  | false =>
   rw [hl] at el
   have el' := of_decide_eq_false el
   simp only [Bool.false_or]
   simp [dz, encL, ea, el']
   exact ih
theorem mQ {n : Nat} {c s : List Int} (hc : Dk n c) (h : Low c.length s) : bq [encS s, encL c] = .ok (.sh (.bool (D9 c s))) := by
 obtain ⟨pv', e⟩ := kg (t := encS s) hc s none h
 simp only [bq, gY]
 have es : ∀ δ, DJ (eV 0) (some (.sh (encS s)) :: δ) = .ok (s.map PyData.int, some (.sh (encS s)) :: δ) := fun δ => by simp [encS]
 cases hf : D9 c s with
 | true => rw [hf] at e; simp only [if_true] at e; simp [-eW, es, e]
 | false => rw [hf] at e; simp only [Bool.false_eq_true, if_false] at e; simp [-eW, es, e]
theorem qY {n : Nat} {ss : List (List Int)} {c : List Int} (hc : Dk n c) (hs : ∀ s ∈ ss, Low c.length s) (hn : ss.length <= 24) : bG [.list (Cz ss), encL c] = .ok (.sh (.bool (Dj ss c))) := by
 have hcc : CZ [none, some (.sh (encL c))] dA dC (Cz ss) = some (Cz (ss.filter fun s => !D9 c s)) := by
  have := aV (ρ := [none, some (.sh (encL c))]) (tc := dA) (te := dC) (b := fun d => match d with | .tuple ds => (match CV ds with | some s => !D9 c s | none => false) | _ => false) (y := fun d => d) (ds := Cz ss) fun d hd => by
   obtain ⟨s, hs', rfl⟩ := List.mem_map.mp hd
   have hf := mQ hc (hs s hs')
   unfold encS at hf
   refine ⟨_, by simp [dA, encS, hf, bp]; rfl, fun _ => ⟨_, by simp [dC, encS]; rfl⟩⟩
  rw [this, List.map_id'']
  ·congr 1
   unfold Cz
   rw [List.filter_map]
   congr 1
   refine List.filter_congr fun s hs' => ?_
   simp [encS, bp]
  ·intro d; rfl
 have hz : ss.length <= sizeLine := aE (by lia)
 have hg : SeqAt.shaped (.list (Cz (ss.filter fun s => !D9 c s))) = true := (aQ (n := 1) fun x hx => by
  obtain ⟨s, _, rfl⟩ := List.mem_map.mp hx
  exact cG (cH 0 s)).shaped (by decide)
 have hg0 : SeqAt.shaped (.list []) = true := (aQ (n := 50) (xs := []) fun x hx' => absurd hx' (by simp)).shaped (by decide)
 have he : (Cz (ss.filter fun s => !D9 c s)).isEmpty = Dj ss c := by
  unfold Cz Dj
  rw [Bool.eq_iff_iff, List.isEmpty_iff, List.map_eq_nil_iff, List.filter_eq_nil_iff, List.all_eq_true]
  simp
 generalize Cz (ss.filter fun s => !D9 c s) = L at hcc hg he
 simp only [bG, gZ]
 simp [hz, hcc, hg, hg0, dZ, he]
theorem iw {k : Nat} (h : k <= 5) : (D6 k).length <= 32 := by
 rw [Sy.lG]
 have h2 : 2 ^ k <= 2 ^ 5 := Nat.pow_le_pow_right (by decide) h
 lia
theorem lY {te : DE} {v : Int} (hte : te = eOp dAdd [.nm 0, .ex (eOp dLst [.ex (eC (.int v))])]) {cs : List (List Int)} (hl : ∀ c ∈ cs, c.length <= 500) : CZ [none] De te (cs.map encL) = some ((cs.map (· ++ [v])).map encL) := by
 have := eY (ρ := [none]) (te := te) (y := fun d => match d with | .list ds => .list (ds ++ [.int v]) | d => d) (ds := cs.map encL) fun d hd => by
  obtain ⟨c, hc', rfl⟩ := List.mem_map.mp hd
  have hz : c.length + 1 <= sizeLine := aE (by have := hl c hc'; lia)
  subst hte
  simp [encL, hz]
 rw [this, List.map_map, List.map_map]
 congr 1
 refine List.map_congr_left fun c hc' => ?_
 simp [encL]
theorem oF {k : Nat} (hk : k < 5) (m x : SD) : cP [some m, some (.ol ((D6 k).map encL)), some x] = .nx [some m, some (.ol ((D6 (k + 1)).map encL)), some x] := by
 have hl := iw (k := k) (by lia)
 have hlen : ∀ c ∈ D6 k, c.length <= 500 := fun c hc => by
  have := (Sy.gz k c ((Sy.iL k).mem_iff.mp hc)).len
  lia
 have h0 := lY (te := gL) rfl hlen
 have h1 := lY (te := gM) rfl hlen
 have e : D6 (k + 1) = (D6 k).map (· ++ [0]) ++ (D6 k).map (· ++ [1]) := rfl
 have hz : (D6 k).length <= sizeLine := aE (by lia)
 have hz2 : ((D6 k).map (· ++ [(0 : Int)])).length + ((D6 k).map (· ++ [(1 : Int)])).length <= sizeLine := aE (by simp only [List.length_map]; lia)
 rw [e]
 generalize hA : (D6 k).map (· ++ [(0 : Int)]) = A at h0 hz2
 generalize hB : (D6 k).map (· ++ [(1 : Int)]) = B at h1 hz2
 generalize D6 k = M at h0 h1 hz
 cases p0 : CA (A.map encL) <;> cases p1 : CA (B.map encL) <;> cases p2 : CA ((A ++ B).map encL) <;> simp only [List.map_append] at p2 ⊢ <;> simp [cP, hz, h0, h1, hz2, p0, p1, p2]
theorem uR {n : Nat} (h5 : n <= 5) : cj [.int n] = .ok (.ol ((allC n).map encL)) := by
 obtain ⟨δ', e1, x2, rfl⟩ := jN (k := kN 2) (fb := cP) (lo := 0) (n := n) (δ := [some (.sh (.int n)), some (.ol [.list []]), none])
  (fun j δ => ∃ x2, δ = [some (.sh (.int n)), some (.ol ((D6 j).map encL)), x2]) ⟨none, rfl⟩ (by
   rintro i δ hi ⟨x2, rfl⟩
   exact ⟨_, rfl, _, oF (k := i) (by lia) (.sh (.int n)) (.sh (.int (0 + (i : Int)))), _, rfl⟩)
 have hr : rngB (n : Int) = true := mw (by lia) (by lia)
 have hs : El (D6 n) = allC n := (nS (Sy.iL n).symm ((Sy.lI n).imp fun h => Sy.fy _ _ h)).symm
 have hi := lK (D6 n)
 have hl : (D6 n).length < 64 := by have := iw (k := n) (by lia); lia
 simp only [cj, gk]
 simp -implicitDefEqProofs [hr, e1, hl, hi, hs]
noncomputable def fitD (ss : List (List Int)) (d : PyData) : Bool := match d with
 | .list ds => (match CV ds with | some c => Dj ss c | none => false)
 | _ => false
theorem oG (ss : List (List Int)) (c : List Int) : fitD ss (encL c) = Dj ss c := by
 unfold fitD encL
 simp only [bp]
theorem pY {ss : List (List Int)} {n : Nat} (h5 : n <= 5) (hs : ∀ s ∈ ss, CU n s) (hn : ss.length <= 24) {cs : List (List Int)} (hcs : (allC n).filter (Dj ss) = cs) : bw [.list (Cz ss), .int n] = .ok (.ol (cs.map encL)) := by
 have hk := uR (n := n) h5
 have hl : (allC n).length <= 1000 := by
  rw [Sy.jQ]
  have h2 : 2 ^ n <= 2 ^ 5 := Nat.pow_le_pow_right (by decide) h5
  lia
 have hz' : ((allC n).map encL).length <= sizeLine := by rw [List.length_map]; exact aE hl
 subst hcs
 have hcc : CZ [none, some (.sh (.list (Cz ss)))] bQ bR ((allC n).map encL) = some (((allC n).filter (Dj ss)).map encL) := by
  have := aV (ρ := [none, some (.sh (.list (Cz ss)))]) (tc := bQ) (te := bR) (b := fitD ss) (y := fun d => d) (ds := (allC n).map encL) fun d hd => by
   obtain ⟨c, hc', rfl⟩ := List.mem_map.mp hd
   have hc := Sy.gz n c hc'
   have hf := qY hc (fun s hs' p hp => by rw [hc.len]; exact (hs s hs').low p hp) hn
   rw [oG]
   exact ⟨_, by simp [bQ, hf]; rfl, fun _ => ⟨_, by simp [bR]; rfl⟩⟩
  rw [this, List.map_id']
  rw [List.filter_map]
  have hq : (allC n).filter (fitD ss ∘ encL) = (allC n).filter (Dj ss) := List.filter_congr fun c _ => oG ss c
  rw [hq]
 generalize (allC n).map encL = A at hk hcc hz'
 generalize ((allC n).filter (Dj ss)).map encL = B at hcc ⊢
 simp only [bw, eM]
 simp -implicitDefEqProofs [hk, hz', hcc]
theorem oH : ∀ a b : List Int, PyData.eqvAll (a.map PyData.int) (b.map PyData.int) = decide (a = b)
 | [], [] => by simp [PyData.eqvAll]
 | [], _ :: _ => by simp [PyData.eqvAll]
 | _ :: _, [] => by simp [PyData.eqvAll]
 | x :: a, y :: b => by
  simp only [List.map_cons, PyData.eqvAll, PyData.eqv, oH a b]
  by_cases h1 : x = y <;> by_cases h2 : a = b <;> simp [h1, h2]
theorem sM (a b : List Int) : PyData.eqv (.list (a.map PyData.int)) (.list (b.map PyData.int)) = decide (a = b) := by
 simp only [PyData.eqv]
 exact oH a b
inductive Rsn where
 | one (i : Nat)
 | two (a b : Nat)
abbrev Step := List Int × Rsn
noncomputable def encR : Rsn -> PyData
 | .one i => .tuple [.int (i : Int)]
 | .two a b => .tuple [.int (a : Int), .int (b : Int)]
noncomputable def CK (x : Step) : PyData := .tuple [encS x.1, encR x.2]
noncomputable def EW (ss ahead : List (List Int)) (s : List Int) : Rsn -> Prop
 | .one i => ss[i]? = some s
 | .two a b => ∃ A B t, ahead[a]? = some A /\ ahead[b]? = some B /\ 0 < t /\ t ∈ A /\ -t ∈ B /\ Compat A B t /\ s = resolve A B t
structure Ef (n : Nat) (ss : List (List Int)) (st : List Step) : Prop where
 say : ∀ x ∈ st, CU n x.1
 rsn : ∀ (k : Nat) (x : Step), st[k]? = some x -> EW ss ((st.take k).map (·.1)) x.1 x.2
theorem jq {n : Nat} {ss : List (List Int)} (hs : ∀ s ∈ ss, CU n s) : ∀ p : Prf, p.Ok ss -> CU n p.say
 | .leaf i s, h => hs s (List.mem_of_getElem? h)
 | .node a b s, ⟨ha, hb, t, _, _, _, hc, e⟩ => by
  show CU n s
  rw [e]
  exact gW (jq hs a ha) (jq hs b hb) hc
noncomputable def psize : Prf -> Nat
 | .leaf _ _ => 1
 | .node a b _ => psize a + psize b + 1
theorem kh : ∀ p : Prf, psize p + 1 <= 2 ^ p.dep
 | .leaf _ _ => by simp [psize, Prf.dep]
 | .node a b _ => by
  have h1 := kh a
  have h2 := kh b
  have h3 : 2 ^ a.dep <= 2 ^ (max a.dep b.dep) := Nat.pow_le_pow_right (by decide) (by lia)
  have h4 : 2 ^ b.dep <= 2 ^ (max a.dep b.dep) := Nat.pow_le_pow_right (by decide) (by lia)
  simp only [psize, Prf.dep, Nat.pow_succ]
  lia
noncomputable def keyS (s : List Int) : List Key := s.map Sum.inl
theorem iy (s : List Int) : EM (encS s) = some (keyS s) := by
 unfold EM encS keyS
 dsimp only
 induction s with
 | nil => rfl
 | cons p r ih =>
  rw [List.map_cons, List.map_cons]
  unfold EC
  rw [show CY (.int p) = some (.inl p) from rfl]
  dsimp only
  rw [ih]
  rfl
theorem oJ {a b : List Int} (h : keyS a = keyS b) : a = b := (List.map_inj_right (fun x y e => Sum.inl.inj e)).mp h
theorem uS (pl : Pl) {k k' : List Key} (i : Int) (h : k' ≠ k) : DB (Dm pl k i) k' = DB pl k' := by
 unfold Dm
 split
 next hany =>
  clear hany
  unfold DB
  induction pl with
  | nil => rfl
  | cons q r ih =>
   rw [List.map_cons]
   by_cases e : q.1 = k
   ·have hq : ¬ q.1 = k' := fun z => h (z.symm.trans e)
    rw [if_pos e, List.find?_cons_of_neg (by simpa using hq), List.find?_cons_of_neg (by simpa using hq)]
    exact ih
   ·rw [if_neg e]
    by_cases e2 : q.1 = k'
    ·rw [List.find?_cons_of_pos (by simpa using e2), List.find?_cons_of_pos (by simpa using e2)]
    ·rw [List.find?_cons_of_neg (by simpa using e2), List.find?_cons_of_neg (by simpa using e2)]
     exact ih
 next =>
  unfold DB
  rw [List.find?_append]
  have : ([(k, i)] : Pl).find? (fun q => decide (q.1 = k')) = none := by
   rw [List.find?_eq_none]
   intro q hq
   simp at hq
   subst hq
   simpa using fun z => h (Eq.symm z)
  rw [this]
  simp
structure LInv (n : Nat) (ss : List (List Int)) (st : List Step) (pl : Pl) : Prop where
 steps : Ef n ss st
 get : ∀ key i, DB pl key = some i -> ∃ (k : Nat) (x : Step), i = (k : Int) /\ st[k]? = some x /\ key = keyS x.1
 len : pl.length <= st.length
theorem LInv.put {n : Nat} {ss : List (List Int)} {st : List Step} {pl : Pl} (I : LInv n ss st pl) {s : List Int} {r : Rsn} (hs : CU n s) (hr : EW ss (st.map (·.1)) s r) : LInv n ss (st ++ [(s, r)]) (Dm pl (keyS s) (st.length : Int)) where
 steps := ⟨fun x hx => by
  rcases List.mem_append.mp hx with z | z
  ·exact I.steps.say x z
  ·simp at z; subst z; exact hs, fun k x hx => by
  by_cases hk : k < st.length
  ·rw [List.getElem?_append_left hk] at hx
   rw [List.take_append_of_le_length (by lia)]
   exact I.steps.rsn k x hx
  ·rw [List.getElem?_append_right (by lia)] at hx
   have : k - st.length = 0 := by
    by_cases z : k - st.length = 0
    ·exact z
    ·rw [List.getElem?_eq_none (by simp; lia)] at hx
     cases hx
   rw [this] at hx
   cases hx
   have e : k = st.length := by lia
   subst e
   rw [List.take_left]
   exact hr⟩
 get := fun key i hi => by
  by_cases e : key = keyS s
  ·subst e
   rw [lO] at hi
   cases hi
   exact ⟨st.length, (s, r), rfl, by simp, rfl⟩
  ·rw [uS pl _ e] at hi
   obtain ⟨k, x, h1, h2, h3⟩ := I.get key i hi
   refine ⟨k, x, h1, ?_, h3⟩
   rw [List.getElem?_append_left (List.getElem?_eq_some_iff.mp h2).1]
   exact h2
 len := by
  have := mI pl (keyS s) (st.length : Int)
  have := I.len
  rw [List.length_append, List.length_singleton]
  lia
theorem lZ {st : List Step} {pl : Pl} {s : List Int} (r : Rsn) (hl : st.length <= 900) (hp : pl.length <= st.length) : Ej (encS s) (keyS s) (encR r) (st.map CK) pl = some ((st.length : Int), (st ++ [(s, r)]).map CK, Dm pl (keyS s) (st.length : Int)) := by
 unfold Ej
 have h1 : (st.map CK).length < sizeLine := gx (by rw [List.length_map]; lia)
 have h2 : pl.length < sizeLine := gx (by lia)
 rw [if_pos ⟨h1, h2⟩, List.length_map, List.map_append]
 rfl
theorem pZ {n : Nat} {ss : List (List Int)} (hs : ∀ s ∈ ss, CU n s) : ∀ (m : Nat) (p : Prf) (st : List Step) (pl : Pl), p.Ok ss -> p.dep <= m -> LInv n ss st pl -> st.length + psize p <= 900 ->
  ∃ (k : Nat) (st' : List Step) (pl' : Pl), layD m (CG p) (st.map CK) pl = some ((k : Int), st'.map CK, pl') /\ LInv n ss st' pl' /\ (∃ r, st'[k]? = some (p.say, r)) /\ (∃ t, st' = st ++ t) /\ st'.length <= st.length + psize p /\ (DB pl (keyS p.say) = none -> ∃ t r, st' = t ++ [(p.say, r)])
 | 0, p, _, _, _, h, _, _ => by cases p <;> simp [Prf.dep] at h
 | m + 1, .leaf i s, st, pl, hok, _, I, hl => by
  have hS := jq hs (.leaf i s) hok
  cases hg : DB pl (keyS s) with
  | some j =>
   obtain ⟨k, x, h1, h2, h3⟩ := I.get _ _ hg
   refine ⟨k, st, pl, ?_, I, ⟨x.2, ?_⟩, ⟨[], by simp⟩, by simp, fun z => by rw [show (Prf.leaf i s).say = s from rfl] at z; rw [hg] at z; cases z⟩
   ·simp only [CG, layD, iy, hg, h1]
   ·rw [h2, show (Prf.leaf i s).say = s from rfl, oJ h3]
  | none =>
   have hf := lZ (st := st) (pl := pl) (s := s) (.one i) (by simp [psize] at hl; lia) I.len
   refine ⟨st.length, st ++ [(s, .one i)], _, ?_, I.put hS (show EW ss (st.map (·.1)) s (.one i) from hok), ⟨.one i, by simp [Prf.say]⟩, ⟨_, rfl⟩, by simp [psize], fun _ => ⟨st, _, rfl⟩⟩
   simp only [CG, layD, iy, hg]
   exact hf
 | m + 1, .node a b s, st, pl, ⟨ha, hb, t, t0, t1, t2, hc, e⟩, hd, I, hl => by
  have hS := jq hs (.node a b s) ⟨ha, hb, t, t0, t1, t2, hc, e⟩
  cases hg : DB pl (keyS s) with
  | some j =>
   obtain ⟨k, x, h1, h2, h3⟩ := I.get _ _ hg
   refine ⟨k, st, pl, ?_, I, ⟨x.2, ?_⟩, ⟨[], by simp⟩, by simp, fun z => by rw [show (Prf.node a b s).say = s from rfl] at z; rw [hg] at z; cases z⟩
   ·simp only [CG, layD, iy, hg, h1]
   ·rw [h2, show (Prf.node a b s).say = s from rfl, oJ h3]
  | none =>
   simp only [Prf.dep] at hd
   simp only [psize] at hl
   obtain ⟨k1, st1, pl1, e1, I1, ⟨r1, g1⟩, ⟨w1, p1⟩, l1, _⟩ := pZ hs m a st pl ha (by lia) I (by lia)
   obtain ⟨k2, st2, pl2, e2, I2, ⟨r2, g2⟩, ⟨w2, p2⟩, l2, _⟩ := pZ hs m b st1 pl1 hb (by lia) I1 (by lia)
   have g1' : st2[k1]? = some (a.say, r1) := by
    rw [p2, List.getElem?_append_left (List.getElem?_eq_some_iff.mp g1).1]
    exact g1
   have hf := lZ (st := st2) (pl := pl2) (s := s) (.two k1 k2) (by lia) I2.len
   have hr : EW ss (st2.map (·.1)) s (.two k1 k2) := ⟨a.say, b.say, t, by rw [List.getElem?_map, g1']; rfl, by rw [List.getElem?_map, g2]; rfl, t0, t1, t2, hc, e⟩
   refine ⟨st2.length, st2 ++ [(s, .two k1 k2)], _, ?_, I2.put hS hr, ⟨.two k1 k2, by simp [Prf.say]⟩, ⟨w1 ++ w2 ++ [(s, .two k1 k2)], by rw [p2, p1]; simp⟩, by simp [psize]; lia, fun _ => ⟨st2, _, rfl⟩⟩
   simp only [CG, layD, iy, hg]
   rw [e1]
   simp only [Option.bind_some]
   rw [e2]
   simp only [Option.bind_some]
   exact hf
theorem yQ {n : Nat} {ss : List (List Int)} (hs : ∀ s ∈ ss, CU n s) {p : Prf} (hok : p.Ok ss) (hd : p.dep <= 8) : ∃ st : List Step, dQ [CG p] = .ok (.ol (st.map CK)) /\ Ef n ss st /\ (∃ t r, st = t ++ [(p.say, r)]) /\ st.length <= 300 := by
 have hz := kh p
 have h8 : 2 ^ p.dep <= 2 ^ 8 := Nat.pow_le_pow_right (by decide) hd
 have I0 : LInv n ss [] [] := by
  refine ⟨⟨?_, ?_⟩, ?_, Nat.le_refl _⟩
  ·intro x hx
   simp at hx
  ·intro k x hx
   simp at hx
  ·intro key i hi
   simp [DB] at hi
 obtain ⟨k, st, pl, e, I, _, _, l, lst⟩ := pZ hs 8 p [] [] hok hd I0 (by simp; lia)
 refine ⟨st, ?_, I.steps, lst rfl, by simp at l; lia⟩
 show ED 8 [CG p] = _
 unfold ED
 simp only [List.map_nil] at e
 simp only [e]
theorem uT (d : PyData) (h : ∀ es, d ≠ .dict es) : bb [d] = .ok (.sh (.bool (isWh d))) := e7 d h
theorem oK {n : Nat} (t : PyData) : ∀ (s : List Int) (last : Int) (pv : Option SD), (s.map absI).Pairwise (· < ·) -> (∀ p ∈ s, last < absI p /\ absI p <= n) -> ∃ l pv', forL (kN 3) cA (s.map PyData.int) [some (.sh t), some (.sh (.int n)), some (.sh (.int last)), pv] = .nx [some (.sh t), some (.sh (.int n)), some (.sh (.int l)), pv']
 | [], last, pv, _, _ => ⟨last, pv, rfl⟩
 | p :: r, last, pv, h1, h2 => by
  obtain ⟨a1, a2⟩ := List.pairwise_cons.mp h1
  have hp := h2 p (by simp)
  obtain ⟨l, pv', ih⟩ := oK t r (absI p) (some (.sh (.int p))) a2 fun q hq => ⟨a1 (absI q) (List.mem_map.mpr ⟨q, hq, rfl⟩), (h2 q (by simp [hq])).2⟩
  refine ⟨l, pv', ?_⟩
  rw [List.map_cons, aI]
  have hw := uT (.int p) (fun _ e => nomatch e)
  have c1 : ¬ absI p <= last := by lia
  have c2 : ¬ (n : Int) < absI p := by lia
  unfold absI at c1 c2 ih
  simp [cA, hw, isWh, c1, c2]
  exact ih
theorem yR {n : Nat} {s : List Int} (h : CU n s) : aW [encS s, .int n] = .ok (.sh (.bool true)) := by
 obtain ⟨l, pv', e⟩ := oK (n := n) (encS s) s 0 none h.rise fun p hp => by have := h.low p hp; lia
 have hi : isiD "tuple" (.tuple (s.map PyData.int)) = true := rfl
 have es : ∀ δ, DJ (eV 0) (some (.sh (encS s)) :: δ) = .ok (s.map PyData.int, some (.sh (encS s)) :: δ) := fun δ => by simp [encS]
 simp only [aW, dk]
 unfold encS at e es ⊢
 generalize s.map PyData.int = S at e es hi
 simp [-eW, hi, es, e]
theorem Co (q : Int) (s : List Int) : dIn2 [.int q, .tuple (s.map PyData.int)] = some (.sh (.bool (decide (q ∈ s)))) := by
 have := xl q s
 unfold encS at this
 show (inB (.int q) (.tuple (s.map PyData.int))).map (fun b => SD.sh (.bool b)) = _
 rw [this]
 rfl
theorem fg (s : List Int) : D4 1 (encS s) := cG (cH 0 s)
theorem ki (ss : List (List Int)) : ∀ x ∈ Cz ss, D4 1 x := fun x hx => by
 obtain ⟨s, _, rfl⟩ := List.mem_map.mp hx
 exact fg s
theorem iT {ss : List (List Int)} {k : Nat} {s : List Int} (h : ss[k]? = some s) : atI (Cz ss) (k : Int) = some (encS s) := by
 obtain ⟨hk, e⟩ := List.getElem?_eq_some_iff.mp h
 rw [iK (by lia) (by rw [bH]; lia)]
 unfold Cz
 simp [e]
theorem m4 (l : List Nat) : CZ [none] bT dm (l.map fun (i : Nat) => PyData.int (i : Int)) = some [] := by
 have := aV (ρ := [none]) (tc := bT) (te := dm) (b := fun _ => false) (y := fun d => d) (ds := l.map fun (i : Nat) => PyData.int (i : Int)) fun d hd => by
  obtain ⟨i, _, rfl⟩ := List.mem_map.mp hd
  have hw := uT (.int (i : Int)) (fun _ e => nomatch e)
  have h0 : ¬ (i : Int) < 0 := by lia
  exact ⟨_, by simp [bT, hw, isWh, h0]; rfl, fun z => by cases z⟩
 rw [this]
 simp
theorem sN (A B : List Int) : CZ [none, some (.sh (encS B))] bU bV (A.map PyData.int) = some ((A.filter fun p => decide (-p ∈ B)).map PyData.int) := by
 have := aV (ρ := [none, some (.sh (encS B))]) (tc := bU) (te := bV) (b := fun d => match d with | .int p => decide (-p ∈ B) | _ => false) (y := fun d => d) (ds := A.map PyData.int) fun d hd => by
  obtain ⟨p, hp, rfl⟩ := List.mem_map.mp hd
  have hn := Co (-p) B
  unfold encS
  generalize B.map PyData.int = K at hn
  refine ⟨[some (.sh (.int p)), some (.sh (.tuple K))], ?_, fun _ => ⟨_, by simp [bV]; rfl⟩⟩
  simp [bU, hn]
 rw [this, List.map_id', List.filter_map]
 rfl
theorem sO (t : Int) (L : List Int) : CZ [none, some (.sh (.list [.int t]))] bW bX (L.map PyData.int) = some ((L.filter fun p => decide (absI p ≠ t)).map PyData.int) := by
 have a0 : atI [PyData.int t] 0 = some (.int t) := rfl
 have := aV (ρ := [none, some (.sh (.list [.int t]))]) (tc := bW) (te := bX) (b := fun d => match d with | .int p => decide (absI p ≠ t) | _ => false) (y := fun d => d) (ds := L.map PyData.int) fun d hd => by
  obtain ⟨p, hp, rfl⟩ := List.mem_map.mp hd
  refine ⟨[some (.sh (.int p)), some (.sh (.list [.int t]))], ?_, fun _ => ⟨_, by simp [bX]; rfl⟩⟩
  unfold absI
  by_cases e : (if p < 0 then -p else p) = t <;> simp [bW, a0, e]
 rw [this, List.map_id', List.filter_map]
 rfl
theorem wG {n : Nat} {A B : List Int} {t : Int} (hA : CU n A) (h1 : 0 < t) (h2 : t ∈ A) (h3 : -t ∈ B) (hc : Compat A B t) : A.filter (fun p => decide (-p ∈ B)) = [t] := by
 have hm : ∀ p ∈ A, -p ∈ B -> p = t := fun p hp hq => by
  have := hc p (List.mem_append_left _ hp) (List.mem_append_right _ hq)
  by_cases hneg : p < 0
  ·exfalso
   have e : p = -t := by unfold absI at this; rw [if_pos hneg] at this; lia
   subst e
   have hr := hA.rise
   rw [List.pairwise_map] at hr
   have key : ∀ l : List Int, l.Pairwise (fun a b => absI a < absI b) -> t ∈ l -> -t ∈ l -> False := fun l => by
    induction l with
    | nil => intro _ z; cases z
    | cons a r ih =>
     intro hp z1 z2
     obtain ⟨b1, b2⟩ := List.pairwise_cons.mp hp
     rcases List.mem_cons.mp z1 with y1 | y1
     ·rcases List.mem_cons.mp z2 with y2 | y2
      ·lia
      ·have := b1 _ y2
       subst y1
       unfold absI at this
       rw [if_neg (by lia), if_pos (by lia)] at this
       lia
     ·rcases List.mem_cons.mp z2 with y2 | y2
      ·have := b1 _ y1
       subst y2
       unfold absI at this
       rw [if_pos (by lia), if_neg (by lia)] at this
       lia
      ·exact ih b2 y1 y2
   exact key A hr h2 hp
  ·unfold absI at this
   rw [if_neg hneg] at this
   exact this
 have nd : A.Nodup := by
  have hr := hA.rise
  rw [List.pairwise_map] at hr
  exact hr.imp fun h e => by subst e; lia
 have nd2 := nd.filter (fun p => decide (-p ∈ B))
 have p : (A.filter (fun p => decide (-p ∈ B))).Perm [t] := (List.perm_ext_iff_of_nodup nd2 (by simp)).mpr fun p => by
  rw [List.mem_filter, List.mem_singleton]
  constructor
  ·rintro ⟨z1, z2⟩
   exact hm p z1 (of_decide_eq_true z2)
  ·rintro rfl
   exact ⟨h2, decide_eq_true h3⟩
 exact List.perm_singleton.mp p
theorem sP (ns : List Int) : (Dv ns).Nodup /\ ∀ p, p ∈ Dv ns ↔ p ∈ ns := by
 have key : ∀ (l acc : List Int), acc.Nodup -> (l.foldl addK acc).Nodup /\ ∀ p, p ∈ l.foldl addK acc ↔ p ∈ acc \/ p ∈ l := by
  intro l
  induction l with
  | nil => intro acc h; exact ⟨h, fun p => by simp⟩
  | cons a r ih =>
   intro acc h
   have hn : (addK acc a).Nodup := by
    unfold addK
    split
    ·exact h
    ·rename_i hm
     rw [List.nodup_append]
     exact ⟨h, by simp, fun x hx y hy => by simp at hy; subst hy; intro e; subst e; exact hm hx⟩
   obtain ⟨h1, h2⟩ := ih (addK acc a) hn
   refine ⟨h1, fun p => ?_⟩
   rw [List.foldl_cons, h2]
   unfold addK
   split
   ·rename_i hm
    simp only [List.mem_cons]
    constructor
    ·rintro (z | z)
     ·exact .inl z
     ·exact .inr (.inr z)
    ·rintro (z | rfl | z)
     ·exact .inl z
     ·exact .inl hm
     ·exact .inr z
   ·simp only [List.mem_append, List.mem_cons, List.not_mem_nil, or_false]
    constructor
    ·rintro ((z | z) | z)
     ·exact .inl z
     ·exact .inr (.inl z)
     ·exact .inr (.inr z)
    ·rintro (z | z | z)
     ·exact .inl (.inl z)
     ·exact .inl (.inr z)
     ·exact .inr z
 obtain ⟨h1, h2⟩ := key ns [] List.nodup_nil
 exact ⟨h1, fun p => by have := h2 p; simpa [Dv] using this⟩
theorem sQ {n : Nat} {A B : List Int} {t : Int} (hA : CU n A) (hB : CU n B) (hc : Compat A B t) : D2 (Dv ((A ++ B).filter fun p => decide (absI p ≠ t))) = D2 (resolve A B t) := by
 obtain ⟨d1, d2⟩ := sP ((A ++ B).filter fun p => decide (absI p ≠ t))
 have hR := gW hA hB hc
 have nd : (resolve A B t).Nodup := by
  have hr := hR.rise
  rw [List.pairwise_map] at hr
  exact hr.imp fun h e => by subst e; lia
 have p : (Dv ((A ++ B).filter fun p => decide (absI p ≠ t))).Perm (resolve A B t) := (List.perm_ext_iff_of_nodup d1 nd).mpr fun q => by
  rw [d2, cX, List.mem_filter, List.mem_append]
  simp
 exact ib ((cF _).trans p) (fu _)
theorem yS (r : Rsn) : CI (encR r) = true := by cases r <;> simp [encR, CI, CA]
theorem m5 (x : Step) : CI (CK x) = true := by simp [CK, CI, CA, yS]
theorem yT {n : Nat} {ss ahead : List (List Int)} {x : Step} (hS : CU n x.1) (hr : EW ss ahead x.1 x.2) (hA : ∀ s ∈ ahead, CU n s) (hn : n <= 20) (hl : ss.length <= 100) (hal : ahead.length <= 900) :
  bg [.list (Cz ss), .int n, .list (Cz ahead), CK x] = .ok (.sh (.bool true)) := by
 obtain ⟨s, r⟩ := x
 dsimp only at hS hr
 have hsy := yR hS
 have it : ∀ l, isiD "tuple" (.tuple l) = true := fun _ => rfl
 have g0 : SeqAt.shaped (.list []) = true := (aQ (n := 50) (xs := []) fun x hx' => absurd hx' (by simp)).shaped (by decide)
 have q0 : PyData.eqv (.list []) (.list []) = true := dZ []
 have a0 : ∀ a b : PyData, atI [a, b] 0 = some a := fun _ _ => rfl
 have a1 : ∀ a b : PyData, atI [a, b] 1 = some b := fun _ _ => rfl
 have b0 : ∀ a : PyData, atI [a] 0 = some a := fun _ => rfl
 have ps := aS s
 have shs : SeqAt.shaped (encS s) = true := (fg s).shaped (by decide)
 have z1 : 1 <= sizeLine := by decide
 have z2 : 2 <= sizeLine := by decide
 cases r with
 | one i =>
  have hi : ss[i]? = some s := hr
  have hil : i < ss.length := (List.getElem?_eq_some_iff.mp hi).1
  have ha := iT hi
  have hp := m4 [i]
  simp only [List.map_cons, List.map_nil] at hp
  have k1 : (i : Int) < ((Cz ss).length : Int) := by rw [bH]; lia
  have qs := jM (encS s) (fg s).1
  have pS := aN ss
  simp only [bg, cQ, CK, encR]
  unfold encS at ha hsy ps shs qs ⊢
  generalize s.map PyData.int = S at ha hsy ps shs qs
  generalize Cz ss = SS at ha k1 pS
  generalize Cz ahead = AA
  simp [it, a0, a1, b0, hsy, hp, g0, q0, z1, k1, ha, shs, qs, ps, pS, CI, CA]
 | two a b =>
  obtain ⟨A, B, t, hAa, hBb, t0, tA, tB, hc, e⟩ := hr
  have okA := hA A (List.mem_of_getElem? hAa)
  have okB := hA B (List.mem_of_getElem? hBb)
  have lA := hJ okA
  have lB := hJ okB
  have ka : a < ahead.length := (List.getElem?_eq_some_iff.mp hAa).1
  have kb : b < ahead.length := (List.getElem?_eq_some_iff.mp hBb).1
  have atA := iT hAa
  have atB := iT hBb
  have hp := m4 [a, b]
  simp only [List.map_cons, List.map_nil] at hp
  have hboth := sN A B
  rw [wG okA t0 tA tB hc] at hboth
  simp only [List.map_cons, List.map_nil] at hboth
  have hrest := sO t (A ++ B)
  have hsame := sQ okA okB hc
  rw [<- e] at hsame
  have zr : ((A ++ B).filter fun p => decide (absI p ≠ t)).length < 64 := by
   have := List.length_filter_le (fun p => decide (absI p ≠ t)) (A ++ B)
   rw [List.length_append] at this
   lia
  have hi := bp ((A ++ B).filter fun p => decide (absI p ≠ t))
  generalize ((A ++ B).filter fun p => decide (absI p ≠ t)) = RL at hrest hsame zr hi
  have zr' : (RL.map PyData.int).length < 64 := by rw [List.length_map]; exact zr
  have hss : DQ [encS s] = some (.ol ((D2 s).map PyData.int)) := by
   have hls := hJ hS
   have hq : (s.map PyData.int).length < 64 := by rw [List.length_map]; lia
   unfold DQ encS
   simp only [hq, if_true, bp, Option.map_some]
  have shR : SeqAt.shaped (.list ((D2 s).map PyData.int)) = true := (aQ (cH 0 _)).shaped (by decide)
  have qR : PyData.eqv (.list ((D2 s).map PyData.int)) (.list ((D2 s).map PyData.int)) = true := by rw [sM]; simp
  have pSs := aJ (D2 s)
  have pRL := aJ RL
  have pA := aJ A
  have pB := aJ B
  have zA : (A.map PyData.int).length <= sizeLine := aE (by rw [List.length_map]; lia)
  have zAB : (A.map PyData.int).length + (B.map PyData.int).length <= sizeLine := aE (by simp only [List.length_map]; lia)
  have zAB2 : (A.map PyData.int ++ B.map PyData.int).length <= sizeLine := by rw [List.length_append]; exact zAB
  rw [List.map_append] at hrest
  have hmax : dMax [.tuple [.int (a : Int), .int (b : Int)]] = some (.sh (.int (maxZ [(a : Int), (b : Int)]))) := rfl
  have kmax : ¬ ((Cz ahead).length : Int) <= maxZ [(a : Int), (b : Int)] := by
   rw [bH]
   have hm := jU (l := [(a : Int), (b : Int)]) (by simp)
   generalize maxZ [(a : Int), (b : Int)] = mx at hm
   simp only [List.mem_cons, List.not_mem_nil, or_false] at hm
   rcases hm with z | z <;> lia
  have t1 : ¬ t < 0 := by lia
  have pAH := aN ahead
  simp only [bg, cQ, CK, encR]
  generalize maxZ [(a : Int), (b : Int)] = mx at hmax kmax
  unfold encS at atA atB hboth hsy hss ps
  generalize hSS2 : (D2 s).map PyData.int = SS2 at hss shR qR pSs
  generalize A.map PyData.int = AD at atA hboth hrest pA zA zAB zAB2
  generalize B.map PyData.int = BD at atB hboth hrest pB zAB zAB2
  generalize RL.map PyData.int = RD at hrest hi zr' pRL
  unfold encS
  generalize s.map PyData.int = S at hsy hss ps
  generalize Cz ss = SS
  generalize Cz ahead = AH at atA atB kmax pAH
  simp [-pU, it, a0, a1, b0, hsy, hp, g0, q0, z1, z2, hmax, kmax, atA, atB, hboth, zA, zAB, zAB2, hrest, hi, zr', hsame, hSS2, hss, shR, qR, t1, ps, pA, pB, pRL, pSs, pAH, CI, CA]
theorem yU (r : Rsn) : D4 1 (encR r) := by
 cases r with
 | one i => exact cG (n := 0) fun x hx => by simp at hx; subst hx; exact g8 _ _
 | two a b =>
  refine cG (n := 0) fun x hx => ?_
  simp at hx
  rcases hx with rfl | rfl <;> exact g8 _ _
theorem sR (x : Step) : D4 2 (CK x) := cG (n := 1) fun y hy => by
 simp at hy
 rcases hy with rfl | rfl
 ·exact fg _
 ·exact yU _
theorem fH : ∀ st : List Step, CA (st.map CK) = true
 | [] => rfl
 | x :: r => by rw [List.map_cons, cW, m5, fH r]; rfl
theorem qZ {n : Nat} {ss : List (List Int)} {full : List Step} (ok : Ef n ss full) (hn : n <= 20) (hl : ss.length <= 100) (hf : full.length <= 800) (sd2 sd3 : SD) : ∀ (r done : List Step) (x5 : Option SD), full = done ++ r ->
  ∃ x5', forL (kN 5) cB (r.map CK) [some (.sh (.list (Cz ss))), some (.sh (.int n)), some sd2, some sd3, some (.ol (Cz (done.map (·.1)))), x5] = .nx [some (.sh (.list (Cz ss))), some (.sh (.int n)), some sd2, some sd3, some (.ol (Cz (full.map (·.1)))), x5']
 | [], done, x5, e => ⟨x5, by rw [e]; simp⟩
 | x :: r, done, x5, e => by
  obtain ⟨x5', ih⟩ := qZ ok hn hl hf sd2 sd3 r (done ++ [x]) (some (.sh (CK x))) (by rw [e]; simp)
  refine ⟨x5', ?_⟩
  rw [List.map_cons, aI]
  have hk : full[done.length]? = some x := by rw [e, List.getElem?_append_right (Nat.le_refl _)]; simp
  have hmem : x ∈ full := List.mem_of_getElem? hk
  have hr := ok.rsn _ x hk
  have htk : full.take done.length = done := by rw [e, List.take_left]
  rw [htk] at hr
  have hdl : done.length <= 800 := by
   have := congrArg List.length e
   rw [List.length_append] at this
   lia
  have hs := yT (n := n) (ss := ss) (ahead := done.map (·.1)) (ok.say x hmem) hr (fun s hs' => by
   obtain ⟨y, hy, rfl⟩ := List.mem_map.mp hs'
   exact ok.say y (by rw [e]; exact List.mem_append_left _ hy)) hn hl (by rw [List.length_map]; lia)
  have e2 : Cz ((done ++ [x]).map (·.1)) = Cz (done.map (·.1)) ++ [encS x.1] := by simp [Cz]
  rw [e2] at ih
  have hz : (Cz (done.map (·.1))).length < sizeLine := gx (by rw [bH, List.length_map]; lia)
  have a0 : atI [encS x.1, encR x.2] 0 = some (encS x.1) := rfl
  have pp := aN (done.map (·.1))
  have pS := aN ss
  have px := m5 x
  have ps := aS x.1
  unfold CK at hs ih px ⊢
  generalize Cz (done.map (·.1)) = DD at hs ih hz pp ⊢
  generalize encS x.1 = S1 at hs ih a0 px ps ⊢
  generalize encR x.2 = R1 at hs ih a0 px ⊢
  generalize Cz ss = SS at hs ih pS ⊢
  simp [cB, hs, a0, hz, pp, pS, px, ps]
  exact ih
theorem uU (q : Int) (s : List Int) : DK [.int q, .tuple (s.map PyData.int)] = some (.sh (.bool (!decide (q ∈ s)))) := by
 have := mP q s
 unfold encS at this
 exact this
theorem sS {l parts : List Int} (h : ∀ p ∈ l, p ∈ parts) : CZ [none, some (.sh (encS parts))] bC cC (l.map PyData.int) = some [] := by
 have := aV (ρ := [none, some (.sh (encS parts))]) (tc := bC) (te := cC) (b := fun _ => false) (y := fun d => d) (ds := l.map PyData.int) fun d hd => by
  obtain ⟨p, hp, rfl⟩ := List.mem_map.mp hd
  have hn := uU p parts
  rw [decide_eq_true (h p hp)] at hn
  unfold encS
  generalize parts.map PyData.int = K at hn
  exact ⟨_, by simp [bC, hn]; rfl, fun z => by cases z⟩
 rw [this]
 simp
theorem wH {n : Nat} {ss : List (List Int)} {st : List Step} {s parts : List Int} (ok : Ef n ss st) (hn : n <= 20) (hl : ss.length <= 100) (hf : st.length <= 800) (hlast : ∃ t r, st = t ++ [(s, r)]) (hp : ∀ p ∈ s, p ∈ parts) :
  aX [.list (Cz ss), .int n, .list (st.map CK), encS parts] = .ok (.sh (.bool true)) := by
 obtain ⟨x5', e⟩ := qZ ok hn hl hf (.sh (.list (st.map CK))) (.sh (encS parts)) st [] none (by simp)
 have hc := sS hp
 obtain ⟨t, r, et⟩ := hlast
 have hsm : CU n s := ok.say (s, r) (by rw [et]; simp)
 have hln := hJ hsm
 have elast : atI (Cz (st.map (·.1))) (-1) = some (encS s) := by
  rw [et]
  have : Cz ((t ++ [(s, r)]).map (·.1)) = Cz (t.map (·.1)) ++ [encS s] := by simp [Cz]
  rw [this]
  exact tw _ _
 have il : isiD "list" (.list (st.map CK)) = true := rfl
 have g0 : SeqAt.shaped (.list []) = true := (aQ (n := 50) (xs := []) fun x hx' => absurd hx' (by simp)).shaped (by decide)
 have q0 : PyData.eqv (.list []) (.list []) = true := dZ []
 have shL : SeqAt.shaped (.list (st.map CK)) = true := (aQ (n := 2) fun x hx => by
  obtain ⟨y, _, rfl⟩ := List.mem_map.mp hx
  exact sR y).shaped (by decide)
 have qn := dZ (st.map CK)
 have hne : (st.map CK).isEmpty = false := by rw [et]; simp
 rw [hne] at qn
 have zs : (s.map PyData.int).length <= sizeLine := aE (by rw [List.length_map]; lia)
 have pA := aN (st.map (·.1))
 have pst := fH st
 have ps := aJ s
 have pS := aN ss
 have en : Cz (List.map (fun x : Step => x.1) ([] : List Step)) = [] := rfl
 rw [en] at e
 unfold encS at elast
 simp only [aX, dn]
 have ppa := aS parts
 generalize Cz (st.map (·.1)) = AD at e elast pA
 generalize st.map CK = SD1 at e il shL qn pst
 generalize s.map PyData.int = S at hc elast zs ps
 generalize Cz ss = SS at e pS
 generalize encS parts = PP at e hc ppa
 simp [il, g0, q0, shL, qn, e, elast, zs, hc, pA, pst, ps, pS, ppa]
theorem uV {n : Nat} {ss : List (List Int)} (hs : ∀ s ∈ ss, CU n s) (hl : ss.length <= 24) (h1 : 1 <= n) (hn : n <= 16) : cJ [.list (Cz ss), .int n] = .ok (.ol (Cz ss)) := by
 refine B8 (fun x hx => ?_) (by lia) (by lia) (by rw [bH]; exact hl)
 obtain ⟨s, hs', rfl⟩ := List.mem_map.mp hx
 exact ⟨(fg s).mono (by decide), lF.mpr (hs s hs')⟩
theorem wI {n : Nat} {c : List Int} (hc : Dk n c) (hn : n <= 100) : bx [encL c, .int n] = .ok (.sh (.bool true)) := by
 have hl := hc.len
 have hz : c.length <= sizeLine := aE (by lia)
 have hi : isiD "list" (.list (c.map PyData.int)) = true := rfl
 have hcc : CZ [none] bS dj (c.map PyData.int) = some [] := by
  have := aV (ρ := [none]) (tc := bS) (te := dj) (b := fun _ => false) (y := fun d => d) (ds := c.map PyData.int) fun d hd => by
   obtain ⟨p, hp, rfl⟩ := List.mem_map.mp hd
   have hw := uT (.int p) (fun _ e => nomatch e)
   have h01 := hc.bit p hp
   have h1 : ¬ p < 0 := by lia
   have h2 : ¬ 1 < p := by lia
   exact ⟨_, by simp [bS, hw, isWh, h1, h2]; rfl, fun z => by cases z⟩
  rw [this]
  simp
 have g0 : SeqAt.shaped (.list []) = true := (aQ (n := 50) (xs := []) fun x hx' => absurd hx' (by simp)).shaped (by decide)
 have q0 : PyData.eqv (.list []) (.list []) = true := dZ []
 have hl' : (c.length : Int) = n := by lia
 simp only [bx, eN, encL]
 simp [hi, hl', hz, hcc, g0, q0]
theorem jr : SeqAt.shaped (.str "case") = true := (jK 0 _ (by decide +kernel)).shaped (by decide)
theorem uW : SeqAt.shaped (.str "clash") = true := (jK 0 _ (by decide +kernel)).shaped (by decide)
theorem sU (k : Nat) : CA ((List.replicate k (none : Option Int)).map encO) = true := by
 induction k with
 | zero => rfl
 | succ k ih => rw [List.replicate_succ, List.map_cons, cW, ih]; rfl
noncomputable def sg (p : Int) : Int := if 0 < p then 0 else 1
structure Cho (n : Nat) (s : List Int) (ch : List (Option Int)) : Prop where
 ok : ChOk n ch
 back : ∀ j v, chAt ch j = some v -> ∃ p ∈ s, ix p = j /\ v = sg p
 to : ∀ p ∈ s, chAt ch (ix p) = some (sg p)
theorem yV (p : Int) : sg p = 0 \/ sg p = 1 := by unfold sg; split <;> simp
theorem uX {p q : Int} (hp : 1 <= absI p) (hq : 1 <= absI q) (e : ix p = ix q) : absI p = absI q := by unfold ix at e; lia
theorem Cho.step {n : Nat} {d : List Int} {ch : List (Option Int)} {p : Int} (h : Cho n d ch) (hp : 1 <= absI p /\ absI p <= n) (hd : ∀ q ∈ d, 1 <= absI q /\ absI q < absI p) : Cho n (d ++ [p]) (ch.set (ix p) (some (sg p))) := by
 have hi : ix p < ch.length := by rw [h.ok.len]; unfold ix; lia
 refine ⟨h.ok.set (yV p), fun j v e => ?_, fun q hq => ?_⟩
 ·rw [cu hi] at e
  split at e
  next z => cases e; exact ⟨p, by simp, z.symm, rfl⟩
  next z =>
   obtain ⟨q, hq, h1, h2⟩ := h.back j v e
   exact ⟨q, by simp [hq], h1, h2⟩
 ·rw [cu hi]
  rcases List.mem_append.mp hq with z | z
  ·have := hd q z
   rw [if_neg (fun c => by have := uX (by lia) hp.1 c; lia)]
   exact h.to q z
  ·simp at z
   subst z
   rw [if_pos rfl]
theorem uY (ch : List (Option Int)) (j : Nat) (v : Int) : (ch.map encO).set j (.int v) = (ch.set j (some v)).map encO := by rw [List.map_set]; rfl
theorem wJ {n : Nat} {p : Int} {ch : List (Option Int)} (hc : ch.length = n) (hp : 1 <= absI p /\ absI p <= n) (x0 x1 x2 x3 : SD) (x6 : Option SD) : cY [some x0, some x1, some x2, some x3, some (.ol (ch.map encO)), some (.sh (.int p)), x6] = .nx [some x0, some x1, some x2, some x3, some (.ol ((ch.set (ix p) (some (sg p))).map encO)), some (.sh (.int p)), x6] := by
 have hx : ixN (ch.map encO).length (absI p - 1) = some (ix p) := by
  unfold ixN
  rw [if_pos (by lia), if_pos (by rw [List.length_map]; lia)]
  rfl
 have es := uY ch (ix p) (sg p)
 generalize ix p = j at hx es ⊢
 generalize (ch.set j (some (sg p))).map encO = C2 at es ⊢
 generalize ch.map encO = C at hx es ⊢
 unfold absI at hx
 unfold sg at es
 by_cases h : 0 < p
 ·rw [if_pos h] at es
  simp [cY, h, hx, es]
 ·rw [if_neg h] at es
  simp [cY, h, hx, es]
theorem r6 {n : Nat} (x0 x1 x2 x3 : SD) : ∀ (s d : List Int) (ch : List (Option Int)) (x5 x6 : Option SD), Cho n d ch -> (s.map absI).Pairwise (· < ·) -> (∀ p ∈ s, 1 <= absI p /\ absI p <= n) -> (∀ q ∈ d, 1 <= absI q /\ ∀ p ∈ s, absI q < absI p) ->
  ∃ ch' x5', forL (kN 5) cY (s.map PyData.int) [some x0, some x1, some x2, some x3, some (.ol (ch.map encO)), x5, x6] = .nx [some x0, some x1, some x2, some x3, some (.ol (ch'.map encO)), x5', x6] /\ Cho n (d ++ s) ch'
 | [], d, ch, x5, x6, h, _, _, _ => ⟨ch, x5, rfl, by simpa using h⟩
 | p :: r, d, ch, x5, x6, h, h1, h2, h3 => by
  obtain ⟨a1, a2⟩ := List.pairwise_cons.mp h1
  have hp := h2 p (by simp)
  have hst := h.step hp fun q hq => ⟨(h3 q hq).1, (h3 q hq).2 p (by simp)⟩
  obtain ⟨ch', x5', ih, ok⟩ := r6 x0 x1 x2 x3 r (d ++ [p]) (ch.set (ix p) (some (sg p))) (some (.sh (.int p))) x6 hst a2 (fun q hq => h2 q (by simp [hq])) fun q hq => by
   rcases List.mem_append.mp hq with z | z
   ·exact ⟨(h3 q z).1, fun y hy => (h3 q z).2 y (by simp [hy])⟩
   ·simp at z
    subst z
    exact ⟨hp.1, fun y hy => a1 _ (List.mem_map.mpr ⟨y, hy, rfl⟩)⟩
  refine ⟨ch', x5', ?_, by simpa using ok⟩
  rw [List.map_cons, aI]
  have e := wJ h.ok.len hp x0 x1 x2 x3 x6
  generalize (ch.set (ix p) (some (sg p))).map encO = C2 at e ih
  simp [e]
  exact ih
theorem wK (ch : List (Option Int)) : CA (ch.map encO) = true := by
 induction ch with
 | nil => rfl
 | cons x r ih => rw [List.map_cons, cW, ih]; cases x <;> rfl
theorem uZ (ch : List (Option Int)) : unset ch <= ch.length := List.countP_le_length
noncomputable def ES (st : List Step) : PyData := .tuple [.str "steps", .list (st.map CK)]
theorem sV {n : Nat} {ss : List (List Int)} {s : List Int} (hs : ∀ s ∈ ss, CU n s) (hl : ss.length <= 24) (h1 : 1 <= n) (hn : n <= 6) (hS : CU n s) :
  (∃ c, cg [.list (Cz ss), .int n, encS s] = .ok (.sh (Em c)) /\ Dk n c /\ Dj ss c = true /\ D9 c s = false) \/
  (∃ (st : List Step) (l : List Int), cg [.list (Cz ss), .int n, encS s] = .ok (.sh (ES st)) /\ Ef n ss st /\ (∃ t r, st = t ++ [(l, r)]) /\ st.length <= 300 /\ (∀ p ∈ l, p ∈ s) /\ ∀ c, Dk n c -> Dj ss c = true -> D9 c s = true) := by
 have hk := uV hs hl h1 (by lia)
 have er : dMul [.list [.none], .int (n : Int)] = some (.ol ((List.replicate n (none : Option Int)).map encO)) := by
  rw [iJ, if_pos ⟨by lia, by lia, by rw [Int.toNat_natCast]; exact aE (by simp; lia)⟩, Int.toNat_natCast, uQ]
 obtain ⟨hch, _, _⟩ := wC n
 have c0 : Cho n [] (List.replicate n none) := by
  refine ⟨hch, ?_, ?_⟩
  ·intro j v e
   have := List.eq_of_mem_replicate (jY e).1
   cases this
  ·intro p hp
   simp at hp
 obtain ⟨ch, x5, eL, cho⟩ := r6 (n := n) (.sh (.list (Cz ss))) (.sh (.int n)) (.sh (encS s)) (.ol (Cz ss)) s [] (List.replicate n none) none none c0 hS.rise hS.low (fun q hq => by simp at hq)
 simp only [List.nil_append] at cho
 have hul := uZ ch
 rw [cho.ok.len] at hul
 have ht := kf hs hl (by lia) 8 ch cho.ok (by lia)
 have eF : fF = av 8 := rfl
 have hi := xk (n := 50) n ((cG (n := 49) (cH 49 s)))
 have hok : Eb n (.tuple (s.map PyData.int)) = true := lF.mpr hS
 rw [hok] at hi
 have es : ∀ δ0 δ1 δ, DJ (eV 2) (δ0 :: δ1 :: some (.sh (encS s)) :: δ) = .ok (s.map PyData.int, δ0 :: δ1 :: some (.sh (encS s)) :: δ) := fun _ _ δ => by simp [encS]
 have pr := sU n
 have pch := wK ch
 have pS := aN ss
 have a0 : ∀ a b : PyData, atI [a, b] 0 = some a := fun _ _ => rfl
 have a1 : ∀ a b : PyData, atI [a, b] 1 = some b := fun _ _ => rfl
 have q2 : PyData.eqv (.str "case") (.str "case") = true := by decide
 have q3 : PyData.eqv (.str "clash") (.str "case") = false := by decide
 have z2 : 2 <= sizeLine := by decide
 have pe := aJ s
 unfold CC at ht
 rcases ht with ⟨c, e, c1, c2, c3⟩ | ⟨p, e, pok, pc, pd⟩
 ·refine .inl ⟨c, ?_, c1, c2, ?_⟩
  ·rw [<- eF] at e
   unfold Em at e ⊢
   simp only [cg, gG]
   have pc : CI (encL c) = false := by unfold encL; simp [CI]
   unfold encS at eL es ⊢
   generalize encL c = C at e pc
   generalize ch.map encO = CH at e eL pch
   generalize (List.replicate n (none : Option Int)).map encO = R at eL er pr
   generalize Cz ss = S at e hk eL pS
   generalize s.map PyData.int = S0 at eL es hi pe
   simp -implicitDefEqProofs [-iJ, -eW, hk, er, hi, es, eL, e, pS, pr, pch, pe, a0, jr, q2, pc, CI, CA]
  ·have : ∀ p ∈ s, Ec c p = false := fun p hp => by
    have h2 := c3 (ix p) (sg p) (cho.to p hp)
    unfold Ec
    rw [qX]
    have e3 : (absI p - 1).toNat = ix p := rfl
    rw [e3, h2]
    unfold sg
    split <;> simp
   unfold D9
   rw [List.any_eq_false]
   intro p hp
   simp [this p hp]
 ·obtain ⟨st, e2, ok, hlast, hsl⟩ := yQ hs pok (by lia)
  have hsub : ∀ q ∈ p.say, q ∈ s := fun q hq => by
   obtain ⟨y, hy, h2, h3⟩ := cho.back _ _ (pc.fal q hq)
   have hab := uX ((hS.low y hy).1) ((pc.ok.low q hq).1) h2
   have : q = y := by
    unfold sg at h3
    unfold absI at hab
    have l1 := (hS.low y hy).1
    have l2 := (pc.ok.low q hq).1
    unfold absI at l1 l2
    split at h3 <;> split at h3 <;> (first | (cases h3; done) | skip) <;> (split at hab <;> split at hab <;> lia)
   rw [this]
   exact hy
  refine .inr ⟨st, p.say, ?_, ok, hlast, hsl, hsub, fun c hc hf => ?_⟩
  ·rw [<- eF] at e
   unfold Da at e
   unfold ES
   simp only [cg, gG]
   have pp := dJ p
   have pst := fH st
   unfold encS at eL es ⊢
   generalize CG p = P at e e2 pp
   generalize st.map CK = SD1 at e2 pst
   generalize ch.map encO = CH at e eL pch
   generalize (List.replicate n (none : Option Int)).map encO = R at eL er pr
   generalize Cz ss = S at e hk eL pS
   generalize s.map PyData.int = S0 at eL es hi pe
   simp -implicitDefEqProofs [-iJ, -eW, hk, er, hi, es, eL, e, e2, pS, pr, pch, pe, a0, a1, jr, uW, q3, oC, pp, pst, z2, CI, CA]
  ·have h2 := pc.imp c hc hf
   unfold D9 at h2 ⊢
   obtain ⟨q, hq, hl'⟩ := List.any_eq_true.mp h2
   exact List.any_eq_true.mpr ⟨q, hsub q hq, hl'⟩
theorem v3 : SeqAt.shaped (.str "steps") = true := (jK 0 _ (by decide +kernel)).shaped (by decide)
theorem yW : ¬ (Str.ofString "steps" = Str.ofString "case") := by decide
theorem v5 {n : Nat} {s : List Int} (hS : CU n s) {cs : List (List Int)} (h : ∀ c ∈ cs, Dk n c /\ D9 c s = true) : CZ [none, some (.sh (encS s))] jo mO (cs.map encL) = some [] := by
 have := aV (ρ := [none, some (.sh (encS s))]) (tc := jo) (te := mO) (b := fun _ => false) (y := fun d => d) (ds := cs.map encL) fun d hd => by
  obtain ⟨c, hc, rfl⟩ := List.mem_map.mp hd
  obtain ⟨h1, h2⟩ := h c hc
  have hf := mQ h1 (s := s) (fun p hp => by rw [h1.len]; exact hS.low p hp)
  rw [h2] at hf
  have pe := aS s
  generalize encS s = S at hf pe
  generalize encL c = C at hf
  exact ⟨_, by simp [jo, hf]; rfl, fun z => by cases z⟩
 rw [this]
 simp
theorem law_holds (ns : List Int) : qV [scr ns] = .ok (.sh (.bool true)) := by
 have m0 := fw ns 0 (m := 5) (by decide)
 have m1 := fx ns 0 (m := 5) (by decide)
 have hm := ox ns 0 5 (by decide) (by decide)
 obtain ⟨n, hnI⟩ : ∃ n : Nat, 1 + mixZ ns 0 5 = (n : Int) := ⟨(1 + mixZ ns 0 5).toNat, by lia⟩
 have h1 : 1 <= n := by lia
 have h5 : n <= 5 := by lia
 have hsy := yI ns 1 n 9 (by decide) (by lia) (by lia) (by decide) (by decide)
 have hs1 := xj ns 50 n (by decide) (by lia) (by lia)
 have hS := (qG (ns := ns) (at_ := 50) (many := n) (by lia)).1
 generalize sayZ ns 50 n = s at hs1 hS
 have hl := rQ (ns := ns) (at_ := 1) (many := n) (most := 9) (by decide)
 have hok := u3 (ns := ns) (at_ := 1) (many := n) (most := 9) (by lia)
 generalize Ew ns 1 n 9 = ss at hsy hl hok
 have hn : ss.length <= 24 := by
  have : ss.length <= 9 := by simpa using hl
  lia
 have hz : (Cz ss).length <= sizeLine := aE (by rw [bH]; lia)
 have pS := aN ss
 have shS : SeqAt.shaped (.list (Cz ss)) = true := (aQ (ki ss)).shaped (by decide)
 have qS := jM _ (aQ (ki ss)).1
 have a0 : ∀ a b : PyData, atI [a, b] 0 = some a := fun _ _ => rfl
 have a1 : ∀ a b : PyData, atI [a, b] 1 = some b := fun _ _ => rfl
 have q2 : PyData.eqv (.str "case") (.str "case") = true := by decide
 have q4 : PyData.eqv (.str "steps") (.str "steps") = true := by decide
 have q3 : PyData.eqv (.str "steps") (.str "case") = false := by decide
 have it : ∀ l, isiD "tuple" (.tuple l) = true := fun _ => rfl
 have pe := aS s
 simp only [qV, uK]
 rcases sV hok hn h1 (by lia) hS with ⟨c, e, c1, c2, c3⟩ | ⟨st, l, e, ok, hlast, hsl, hsub, hall⟩
 ·have k1 := wI c1 (by lia)
  have k2 := qY c1 (ss := ss) (fun s hs' p hp => by rw [c1.len]; exact (hok s hs').low p hp) hn
  rw [c2] at k2
  have k3 := mQ c1 (s := s) (fun p hp => by rw [c1.len]; exact hS.low p hp)
  rw [c3] at k3
  unfold Em at e
  have pc : CI (encL c) = false := by unfold encL; simp [CI]
  generalize encL c = C at e k1 k2 k3 pc
  generalize Cz ss = S at hsy e k2 hz pS shS qS
  generalize encS s = E0 at hs1 e k3 pe
  generalize scr ns = sc at hm hsy hs1
  simp [hm, hnI, hsy, hs1, hz, e, shS, qS, it, a0, a1, jr, q2, k1, k2, k3, pS, pc, pe, CI, CA]
 ·have k1 := wH (parts := s) ok (by lia) (by lia) (by lia) hlast hsub
  obtain ⟨cs, hcs⟩ : ∃ cs, (allC n).filter (Dj ss) = cs := ⟨_, rfl⟩
  have k2 := pY h5 hok hn hcs
  have k3 := v5 hS (cs := cs) fun c hc => by
   rw [<- hcs] at hc
   obtain ⟨z1, z2⟩ := List.mem_filter.mp hc
   exact ⟨Sy.gz n c z1, hall c (Sy.gz n c z1) z2⟩
  have zc : (cs.map encL).length <= sizeLine := aE (by
   rw [List.length_map, <- hcs]
   have := oE (Dj ss) h5
   lia)
  have g0 : SeqAt.shaped (.list []) = true := (aQ (n := 50) (xs := []) fun x hx' => absurd hx' (by simp)).shaped (by decide)
  have q0 : PyData.eqv (.list []) (.list []) = true := dZ []
  unfold ES at e
  have pst := fH st
  generalize cs.map encL = CS at k2 k3 zc
  generalize st.map CK = SD1 at e k1 pst
  generalize Cz ss = S at hsy e k1 k2 hz pS shS qS
  generalize encS s = E0 at hs1 e k1 k3 pe
  generalize scr ns = sc at hm hsy hs1
  simp -implicitDefEqProofs [hm, hnI, hsy, hs1, hz, e, shS, qS, it, a0, a1, jr, v3, q3, q4, yW, k1, k2, k3, zc, g0, q0, pS, pst, pe, CI, CA]
  cases pcs : CA CS <;> simp [zc, k3, g0, q0, pcs]
theorem bnd1 {p : List Value -> Prop} (h : ∀ a, p [a]) (us : List Value) (e : us.length = 1) : p us := match us, e with | [a], _ => h a
theorem bnd2 {p : List Value -> Prop} (h : ∀ a b, p [a, b]) (us : List Value) (e : us.length = 2) : p us := match us, e with | [a, b], _ => h a b
theorem bnd3 {p : List Value -> Prop} (h : ∀ a b c, p [a, b, c]) (us : List Value) (e : us.length = 3) : p us := match us, e with | [a, b, c], _ => h a b c
theorem bnd4 {p : List Value -> Prop} (h : ∀ a b c d, p [a, b, c, d]) (us : List Value) (e : us.length = 4) : p us := match us, e with | [a, b, c, d], _ => h a b c d
noncomputable def top (i : Nat) : Stmt := PySem.Challenge.pw_sayhall_k04_whole_follows.main.body.getD i (.Pass ⟨0, 0, 0, 0⟩)
abbrev hV : Stmt := top 7
abbrev kj : List Str := ["value"]
theorem oM : CF kj ["value"] (Cy hV) := ⟨rfl, rfl, rfl, by decide +kernel, rfl, by decide +kernel, by decide +kernel⟩
abbrev cK : Stmt := top 8
abbrev fh : List Str := ["value", "most"]
theorem iz : CF fh ["value", "most"] (Cy cK) := ⟨rfl, rfl, rfl, by decide +kernel, rfl, by decide +kernel, by decide +kernel⟩
abbrev gm : Stmt := top 9
abbrev jc : List Str := ["thing", "many", "last", "part"]
theorem dD : CF jc ["thing", "many"] (Cy gm) := ⟨rfl, rfl, rfl, by decide +kernel, rfl, by decide +kernel, by decide +kernel⟩
abbrev iU : Stmt := top 10
abbrev m7 : List Str := ["sayings", "many", "place", "saying"]
theorem km : CF m7 ["sayings", "many"] (Cy iU) := ⟨rfl, rfl, rfl, by decide +kernel, rfl, by decide +kernel, by decide +kernel⟩
abbrev mR : Stmt := top 11
abbrev r8 : List Str := ["part", "case"]
theorem v7 : CF r8 ["part", "case"] (Cy mR) := ⟨rfl, rfl, rfl, by decide +kernel, rfl, by decide +kernel, by decide +kernel⟩
abbrev js : Stmt := top 12
abbrev mS : List Str := ["saying", "case"]
theorem v8 : CF mS ["saying", "case"] (Cy js) := ⟨rfl, rfl, rfl, by decide +kernel, rfl, by decide +kernel, by decide +kernel⟩
abbrev cD : Stmt := top 13
abbrev dU : List Str := ["one", "other", "thing", "parts", "part"]
theorem dq : CF dU ["one", "other", "thing"] (Cy cD) := ⟨rfl, rfl, rfl, by decide +kernel, rfl, by decide +kernel, by decide +kernel⟩
abbrev dE : Stmt := top 18
abbrev fJ : List Str := ["saying", "chosen"]
theorem kL : CF fJ ["saying", "chosen"] (Cy dE) := ⟨rfl, rfl, rfl, by decide +kernel, rfl, by decide +kernel, by decide +kernel⟩
abbrev cZ : Stmt := top 17
abbrev e8 : List Str := ["sayings", "chosen", "waiting"]
theorem iA : CF e8 ["sayings", "chosen"] (Cy cZ) := ⟨rfl, rfl, rfl, by decide +kernel, rfl, by decide +kernel, by decide +kernel⟩
abbrev bc : Stmt := top 19
abbrev de : List Str := ["sayings", "chosen", "thing", "proofs", "choice", "told", "proof", "saying"]
theorem aB : CF de ["sayings", "chosen", "thing"] (Cy bc) := ⟨rfl, rfl, rfl, by decide +kernel, rfl, by decide +kernel, by decide +kernel⟩
abbrev dW : Stmt := top 16
abbrev hW : List Str := ["sayings", "chosen", "place", "left"]
theorem gn : CF hW ["sayings", "chosen"] (Cy dW) := ⟨rfl, rfl, rfl, by decide +kernel, rfl, by decide +kernel, by decide +kernel⟩
abbrev r9 : Stmt := top 21
abbrev xm : List Str := ["proof", "steps", "places", "saying", "reasons"]
theorem mT : CF xm ["proof", "steps", "places"] (Cy r9) := ⟨rfl, rfl, rfl, by decide +kernel, rfl, by decide +kernel, by decide +kernel⟩
abbrev hX : Stmt := top 20
abbrev kn : List Str := ["proof", "steps"]
theorem jd : CF kn ["proof"] (Cy hX) := ⟨rfl, rfl, rfl, by decide +kernel, rfl, by decide +kernel, by decide +kernel⟩
abbrev iV : Stmt := top 15
abbrev m8 : List Str := ["sayings", "many", "saying", "good", "chosen", "part", "told"]
theorem dX : CF m8 ["sayings", "many", "saying"] (Cy iV) := ⟨rfl, rfl, rfl, by decide +kernel, rfl, by decide +kernel, by decide +kernel⟩
abbrev eO : Stmt := top 23
abbrev gN : List Str := ["_law_script", "_law_k"]
theorem ko : CF gN ["_law_script", "_law_k"] (Cy eO) := ⟨rfl, rfl, rfl, by decide +kernel, rfl, by decide +kernel, by decide +kernel⟩
abbrev gp : Stmt := top 24
abbrev je : List Str := ["_law_script", "_law_k", "_law_many", "_law_drawn"]
theorem iB : CF je ["_law_script", "_law_k", "_law_many"] (Cy gp) := ⟨rfl, rfl, rfl, by decide +kernel, rfl, by decide +kernel, by decide +kernel⟩
abbrev dF : Stmt := top 25
abbrev fK : List Str := ["_law_script", "_law_at", "_law_many", "_law_parts", "_law_k", "_law_thing"]
theorem cR : CF fK ["_law_script", "_law_at", "_law_many"] (Cy dF) := ⟨rfl, rfl, rfl, by decide +kernel, rfl, by decide +kernel, by decide +kernel⟩
abbrev cS : Stmt := top 26
abbrev eQ : List Str := ["_law_script", "_law_at", "_law_many", "_law_most"]
theorem kq : CF eQ ["_law_script", "_law_at", "_law_many", "_law_most"] (Cy cS) := ⟨rfl, rfl, rfl, by decide +kernel, rfl, by decide +kernel, by decide +kernel⟩
abbrev hZ : Stmt := top 27
abbrev ku : List Str := ["_law_saying_here", "_law_case", "_law_part"]
theorem jf : CF ku ["_law_saying_here", "_law_case"] (Cy hZ) := ⟨rfl, rfl, rfl, by decide +kernel, rfl, by decide +kernel, by decide +kernel⟩
abbrev fL : Stmt := top 28
abbrev i0 : List Str := ["_law_sayings_here", "_law_case"]
theorem oO : CF i0 ["_law_sayings_here", "_law_case"] (Cy fL) := ⟨rfl, rfl, rfl, by decide +kernel, rfl, by decide +kernel, by decide +kernel⟩
abbrev df : Stmt := top 29
abbrev e9 : List Str := ["_law_many", "_law_made", "_law_thing"]
theorem dG : CF e9 ["_law_many"] (Cy df) := ⟨rfl, rfl, rfl, by decide +kernel, rfl, by decide +kernel, by decide +kernel⟩
abbrev cT : Stmt := top 30
abbrev eR : List Str := ["_law_sayings_here", "_law_many"]
theorem kx : CF eR ["_law_sayings_here", "_law_many"] (Cy cT) := ⟨rfl, rfl, rfl, by decide +kernel, rfl, by decide +kernel, by decide +kernel⟩
abbrev gq : Stmt := top 31
abbrev jg : List Str := ["_law_found"]
theorem mU : CF jg ["_law_found"] (Cy gq) := ⟨rfl, rfl, rfl, by decide +kernel, rfl, by decide +kernel, by decide +kernel⟩
abbrev cU : Stmt := top 32
abbrev eS : List Str := ["_law_thing", "_law_many"]
theorem ky : CF eS ["_law_thing", "_law_many"] (Cy cU) := ⟨rfl, rfl, rfl, by decide +kernel, rfl, by decide +kernel, by decide +kernel⟩
abbrev dt : Stmt := top 33
abbrev fM : List Str := ["_law_thing", "_law_many", "_law_last", "_law_part"]
theorem bL : CF fM ["_law_thing", "_law_many"] (Cy dt) := ⟨rfl, rfl, rfl, by decide +kernel, rfl, by decide +kernel, by decide +kernel⟩
abbrev bz : Stmt := top 34
abbrev bO : List Str := ["_law_sayings_here", "_law_many", "_law_ahead", "_law_step", "_law_reasons", "_law_one", "_law_other", "_law_both", "_law_rest"]
theorem bj : CF bO ["_law_sayings_here", "_law_many", "_law_ahead", "_law_step"] (Cy bz) := ⟨rfl, rfl, rfl, by decide +kernel, rfl, by decide +kernel, by decide +kernel⟩
abbrev bY : Stmt := top 35
abbrev du : List Str := ["_law_sayings_here", "_law_many", "_law_steps", "_law_parts", "_law_ahead", "_law_step"]
theorem cL : CF du ["_law_sayings_here", "_law_many", "_law_steps", "_law_parts"] (Cy bY) := ⟨rfl, rfl, rfl, by decide +kernel, rfl, by decide +kernel, by decide +kernel⟩
abbrev gO : Stmt := top 36
abbrev v9 : List Str := ["_law_script", "_law_many", "_law_sayings_here", "_law_saying_here", "_law_handed", "_law_answer", "_law_case"]
theorem i4 : CF v9 ["_law_script"] (Cy gO) := ⟨rfl, rfl, rfl, by decide +kernel, rfl, by decide +kernel, by decide +kernel⟩
structure Txt (K : W.Frag) (mg : Cu) : Prop where
 n_abs : mg "abs" = none
 n_any : mg "any" = none
 n_bool : mg "bool" = none
 n_enumerate : mg "enumerate" = none
 n_int : mg "int" = none
 n_isinstance : mg "isinstance" = none
 n_len : mg "len" = none
 n_list : mg "list" = none
 n_max : mg "max" = none
 n_min : mg "min" = none
 n_range : mg "range" = none
 n_set : mg "set" = none
 n_sorted : mg "sorted" = none
 n_tuple : mg "tuple" = none
 c_MOST_SAYINGS : ∃ t, mg "MOST_SAYINGS" = some (.int 24 t)
 c_MOST_THINGS : ∃ t, mg "MOST_THINGS" = some (.int 16 t)
section
variable {P : Program} {w : World} {K : W.Frag} {mg : Cu} {base : Heap}
theorem oP {f : Addr} {fd : FuncData} (F : Fun K "is_whole" "is_whole" hV f fd) (T : Txt K mg) : FnOk P w K mg base (CXe P w) 1 f fd ["value"] (spD K mg bE) := by
 refine aC (N := kj) (fb := gX) F oM fun cdv A outer s H E hr => ?_
 have hu := hr.units
 exact ak (au (gR (dh "int" T.n_isinstance T.n_int boot_int rfl boot_isinstance (ae 0)) (jG (pb (dh "bool" T.n_isinstance T.n_bool boot_bool rfl boot_isinstance (ae 0))))))
theorem iC {f : Addr} {fd : FuncData} (F : Fun K "is_from_one_to" "is_from_one_to" cK f fd) (T : Txt K mg) (D_is_whole : DefD P w K mg base "is_whole" 1 bE) : FnOk P w K mg base (CXe P w) 2 f fd ["value", "most"] (spD K mg aR) := by
 refine aC (N := fh) (fb := cI) F iz fun cdv A outer s H E hr => ?_
 have hu := hr.units
 exact ak (au (gR (ar D_is_whole hr CN (aa (ae 0) (aj))) (gR (A3 (ae 0) (ab (ah))) (jG (A1 (ae 0) (ae 1))))))
theorem mV {f : Addr} {fd : FuncData} (F : Fun K "is_saying" "is_saying" gm f fd) (T : Txt K mg) (D_is_whole : DefD P w K mg base "is_whole" 1 bE) : FnOk P w K mg base (CXe P w) 2 f fd ["thing", "many"] (spD K mg b7) := by
 refine aC (N := jc) (fb := gd) F dD fun cdv A outer s H E hr => ?_
 have hu := hr.units
 exact ai (aY (aU (dN (ab (dh "tuple" T.n_isinstance T.n_tuple boot_tuple rfl boot_isinstance (ae 0))))) (ak (au (cn))) (aH)) (ai (aG 2 dD.nd (ah)) (ai (eE PassesOwn.leaving rfl (gT (eU 0)) (mn 3 dD.nd) (cM 3) (ai (aY (aU (dN (ab (ar D_is_whole hr CN (aa (ae 3) (aj)))))) (ak (au (cn))) (aH)) (ai (aY (iH (dv (wV (ab (cq T.n_abs boot_abs (ae 3))) (ae 2)) (di (lx (ab (cq T.n_abs boot_abs (ae 3))) (ae 1))))) (ak (au (cn))) (aH)) (ak (aG 2 dD.nd (cq T.n_abs boot_abs (ae 3))))))) (ak (au (cn)))))
theorem q5 {f : Addr} {fd : FuncData} (F : Fun K "checked" "checked" iU f fd) (T : Txt K mg) (D_is_from_one_to : DefD P w K mg base "is_from_one_to" 2 aR) (D_is_saying : DefD P w K mg base "is_saying" 2 b7) : FnOk P w K mg base (CXe P w) 3 f fd ["sayings", "many"] (spD K mg cJ) := by
 refine aC (N := m7) (fb := iQ) F km fun cdv A outer s H E hr => ?_
 have hu := hr.units
 exact ai (aY (aU (dN (ab (ar D_is_from_one_to hr CN (aa (ae 1) (aa (ab (qD T.c_MOST_THINGS)) (aj))))))) (ak (jW)) (aH)) (ai (aY (aU (dN (ab (dh "list" T.n_isinstance T.n_list boot_list rfl boot_isinstance (ae 0))))) (ak (jW)) (aH)) (ai (aY (lx (ab (dg T.n_len (ae 0))) (ab (qD T.c_MOST_SAYINGS))) (ak (jW)) (aH)) (ai (eE PassesOwn.leaving rfl (vT T.n_enumerate (eU 0)) (Ad 2 3 rfl km.nd) (tV [2, 3]) (ak (aY (aU (dN (ab (ar D_is_saying hr CN (aa (ae 3) (aa (ae 1) (aj))))))) (ak (jW)) (aH)))) (ak (au (ml rfl T.n_list boot_list (ae 0)))))))
theorem va {f : Addr} {fd : FuncData} (F : Fun K "is_so" "is_so" mR f fd) (T : Txt K mg) : FnOk P w K mg base (CXe P w) 1 f fd ["part", "case"] (spD K mg gC) := by
 refine aC (N := r8) (fb := mM) F v7 fun cdv A outer s H E hr => ?_
 have hu := hr.units
 exact ak (au (j1 hu (ab (ax hu (ae 1) (ab (iF (ab (cq T.n_abs boot_abs (ae 0))) (ab (ah)))))) (ab (nF (lx (ae 0) (ab (ah))) (ah) (ah)))))
theorem vb {f : Addr} {fd : FuncData} (F : Fun K "holds" "holds" js f fd) (T : Txt K mg) (D_is_so : DefD P w K mg base "is_so" 1 gC) : FnOk P w K mg base (CXe P w) 2 f fd ["saying", "case"] (spD K mg gF) := by
 refine aC (N := mS) (fb := mN) F v8 fun cdv A outer s H E hr => ?_
 have hu := hr.units
 exact ak (au (yA T.n_any boot_any (ab (bB (N0 := mS) (sc0 := (Cy js)) (F := [1]) (by decide +kernel) (by decide +kernel) (bA (ae 0)) (fun _ _ _ _ _ => gw) (fun _ _ _ _ _ => ar D_is_so hr bo (aa (ae 0) (aa (ae 1) (aj))))))))
theorem ji {f : Addr} {fd : FuncData} (F : Fun K "put_together" "put_together" cD f fd) (T : Txt K mg) : FnOk P w K mg base (CXe P w) 1 f fd ["one", "other", "thing"] (spD K mg aT) := by
 refine aC (N := dU) (fb := dP) F dq fun cdv A outer s H E hr => ?_
 have hu := hr.units
 exact ai (aG 3 dq.nd (nC)) (ai (eE PassesOwn.leaving rfl (gT (bf (ae 0) (ae 1))) (mn 4 dq.nd) (cM 4) (ai (aY (iH (y0 (ur hu (ab (mj (ae 4))) (ae 3)) (vS (fZ hu (ab (cq T.n_abs boot_abs (ae 4))) (ae 2))))) (ak (au (jF))) (aH)) (ak (tX 3 hu (ab (cn)) (ae 4))))) (ak (au (nE T.n_tuple boot_tuple (ab (pI T.n_sorted T.n_abs (ab (uk 3 (N0 := dU) (sc0 := (Cy cD)) (F := [2]) (by decide +kernel) (by decide +kernel) (fun _ _ _ _ _ => cm (fZ hu (ab (cq T.n_abs boot_abs (ae 0))) (ae 1))) (fun _ _ _ _ _ => eU 0)))))))))
theorem kM {f : Addr} {fd : FuncData} (F : Fun K "open_parts" "open_parts" dE f fd) (T : Txt K mg) : FnOk P w K mg base (CXe P w) 1 f fd ["saying", "chosen"] (spD K mg aO) := by
 refine aC (N := fJ) (fb := fE) F kL fun cdv A outer s H E hr => ?_
 have hu := hr.units
 exact ak (au (bB (N0 := fJ) (sc0 := (Cy dE)) (F := [1]) (by decide +kernel) (by decide +kernel) (bA (ae 0)) (fun _ _ _ _ _ => cm (u7 (ab (ax hu (ae 1) (ab (iF (ab (cq T.n_abs boot_abs (ae 0))) (ab (ah)))))) (ab (jF)))) (fun _ _ _ _ _ => eU 0)))
theorem mW {f : Addr} {fd : FuncData} (F : Fun K "narrowest" "narrowest" cZ f fd) (T : Txt K mg) (D_holds : DefD P w K mg base "holds" 2 gF) (D_open_parts : DefD P w K mg base "open_parts" 1 aO) (BM : Bm mg base) {lc lp : Addr} (LK : LamQ K "narrowest" fd.code lc lp) : FnOk P w K mg base (CXe P w) 4 f fd ["sayings", "chosen"] (spD K mg b8) := by
 refine ui (N := e8) (fb := gi) F iA fun cdv A outer s H E hcd hr => ?_
 have LK' : LamQ K "narrowest" cdv lc lp := hcd ▸ LK
 have hu := hr.units
 exact ai (ug 2 iA.nd (N0 := e8) (sc0 := (Cy cZ)) (F := [1]) (by decide +kernel) (by decide +kernel) (uh T.n_enumerate (ae 0)) (fun _ _ _ _ _ => cm (aU (dN (ab (ar D_holds hr bo (aa (ae 1) (aa (ae 2) (aj)))))))) (fun _ _ _ _ _ => eU 0)) (ak (au (wk (F := [1, 0]) (a := "place") 1 (N0 := e8) (sc0 := (Cy cZ)) (qn := "narrowest") (by decide +kernel) (by decide +kernel) (hr.mono (by decide)) LK' BM T.n_min (ae 2) (fun _ _ _ _ _ _ hr2 => (fun hu => dg T.n_len (ab (ar D_open_parts hr2 bo (aa (ab (ax hu (ae 2) (ae 0))) (aa (ae 1) (aj)))))) hr2.units))))
theorem fN {f : Addr} {fd : FuncData} {n : Nat} (F : Fun K "searched_both_ways" "searched_both_ways" bc f fd) (T : Txt K mg) (D_put_together : DefD P w K mg base "put_together" 1 aT) (D_searched : DefD P w K mg base "searched" (4 + 2 * n + 1) (av n)) : FnOk P w K mg base (CXe P w) (4 + 2 * n + 1 + 1) f fd ["sayings", "chosen", "thing"] (spD K mg (af (av n))) := by
 refine aC (N := de) (fb := (b9 (av n))) F aB fun cdv A outer s H E hr => ?_
 have hu := hr.units
 exact ai (aG 3 aB.nd (bM (aj))) (ai (eE PassesOwn.leaving rfl (gT (fq (aa (ab (ah)) (aa (ab (ah)) (aj))))) (mn 4 aB.nd) (cM 4) (ai (aG 5 aB.nd (ar D_searched hr CN (aa (ae 0) (aa (ab (bf (ab (bf (ab (xY (ae 1) (ab (iF (ae 2) (ab (ah)))))) (ab (bM (aa (ae 4) (aj)))))) (ab (xX (ae 1) (ae 2))))) (aj))) (by omega))) (ai (aY (j2 hu (ab (ax hu (ae 5) (ab (ah)))) (ab (fY))) (ak (qC 5)) (aH)) (ai (aG 6 aB.nd (ax hu (ae 5) (ab (ah)))) (ai (aY (lN hu (ab (nF (j2 hu (ae 4) (ab (ah))) (eU 2) (mj (ae 2)))) (ab (ax hu (ae 6) (ab (ah))))) (ak (qC 5)) (aH)) (ak (tW 3 (ae 6)))))))) (ai (aG 7 aB.nd (ar D_put_together hr CN (aa (ab (ax hu (ab (ax hu (ae 3) (ab (ah)))) (ab (ah)))) (aa (ab (ax hu (ab (ax hu (ae 3) (ab (ah)))) (ab (ah)))) (aa (ae 2) (aj)))) (by omega))) (ak (au (fq (aa (ab (fY)) (aa (ab (fq (aa (ae 7) (aa (ab (fq (aa (ab (ax hu (ae 3) (ab (ah)))) (aa (ab (ax hu (ae 3) (ab (ah)))) (aj))))) (aj))))) (aj))))))))
theorem oQ {f : Addr} {fd : FuncData} {n : Nat} (F : Fun K "searched" "searched" dW f fd) (T : Txt K mg) (D_narrowest : DefD P w K mg base "narrowest" 4 b8) (D_open_parts : DefD P w K mg base "open_parts" 1 aO) (D_searched_both_ways : DefD P w K mg base "searched_both_ways" (4 + 2 * n + 1 + 1) (af (av n))) : FnOk P w K mg base (CXe P w) (4 + 2 * (n + 1) + 1) f fd ["sayings", "chosen"] (spD K mg (av (n + 1))) := by
 refine aC (N := hW) (fb := (bF (af (av n)))) F gn fun cdv A outer s H E hr => ?_
 have hu := hr.units
 exact ai (aG 2 gn.nd (ar D_narrowest hr CN (aa (ae 0) (aa (ae 1) (aj))) (by omega))) (ai (aY (u7 (ae 2) (ab (jF))) (ak (au (fq (aa (ab (fY)) (aa (ab (bB (N0 := hW) (sc0 := (Cy dW)) (F := []) (by decide +kernel) (by decide +kernel) (bA (ae 1)) (fun _ _ _ _ _ => gw) (fun _ _ _ _ _ => nF (u7 (ae 0) (ab (jF))) (ah) (eU 0)))) (aj)))))) (aH)) (ai (aG 3 gn.nd (ar D_open_parts hr CN (aa (ab (ax hu (ae 0) (ae 2))) (aa (ae 1) (aj))) (by omega))) (ai (aY (aU (dN (ae 3))) (ak (au (fq (aa (ab (fY)) (aa (ab (fq (aa (ab (ax hu (ae 0) (ae 2))) (aa (ab (fq (aa (ae 2) (aj)))) (aj))))) (aj)))))) (aH)) (ak (au (ar D_searched_both_ways hr CN (aa (ae 0) (aa (ae 1) (aa (ab (cq T.n_abs boot_abs (ab (ax hu (ae 3) (ab (ah)))))) (aj)))) (by omega)))))))
theorem iD {f_searched_both_ways : Addr} {fd_searched_both_ways : FuncData} {f_searched : Addr} {fd_searched : FuncData} (A_searched_both_ways : CP K mg "searched_both_ways" bc f_searched_both_ways fd_searched_both_ways) (A_searched : CP K mg "searched" dW f_searched fd_searched) (T : Txt K mg) (D_put_together : DefD P w K mg base "put_together" 1 aT) (D_narrowest : DefD P w K mg base "narrowest" 4 b8) (D_open_parts : DefD P w K mg base "open_parts" 1 aO) : ∀ n, DefD P w K mg base "searched" (4 + 2 * n + 1) (av n)
 | 0 => ay A_searched (wj ["sayings", "chosen"]) fun _ _ _ _ _ _ => bnd2 fun _ _ => rfl
 | n + 1 => by
  have D_searched := iD A_searched_both_ways A_searched T D_put_together D_narrowest D_open_parts n
  have D_searched_both_ways : DefD P w K mg base "searched_both_ways" (4 + 2 * n + 1 + 1) (af (av n)) := ay A_searched_both_ways (fN A_searched_both_ways.fn T D_put_together D_searched) fun _ _ _ _ _ _ => bnd3 fun _ _ _ => rfl
  exact ay A_searched (oQ A_searched.fn T D_narrowest D_open_parts D_searched_both_ways) fun _ _ _ _ _ _ => bnd2 fun _ _ => rfl
theorem yX {f : Addr} {fd : FuncData} {n : Nat} (F : Fun K "lay" "lay" r9 f fd) (T : Txt K mg) (D_lay : EN P w K mg base "lay" (n + 1) n) : FnOk P w K mg base (CXe P w) (n + 1 + 1) f fd ["proof", "steps", "places"] (DN K (layD (n + 1))) := by
 obtain ⟨f', fd', ps', D⟩ := D_lay
 refine F.okE (N := xm) mT si fun cdv A outer s H vs Q E hr h => ⟨tLay K (DN K (layD n)) E, ?_, sf rfl h⟩
 have hu := hr.units
 exact br (jk rfl mT.nd (nj jy (pv 0) iE (fun _ _ => rfl))) (br (sY (xv (rz (Nat.lt_trans (Nat.add_lt_add_left (by decide : 1 < 64) _) hu) (pv 3) (pv 2)) (by with_unfolding_all rfl)) (br (jk rfl mT.nd (nj jy (pv 0) iE (fun _ _ => rfl))) (br (sY (qj qi (fQ dw rfl T.n_len PySem.boot_len (aL (pv 4) cE)) iE (nomark _))
  (br (jk rfl mT.nd (oY (aL (i9 D hr CN (aL (nj jy (pv 4) iE (fun _ _ => rfl)) (aL (pv 1) (aL (pv 2) cE))) rfl (by omega)) (aL (i9 D hr CN (aL (nj jy (pv 4) iE (fun _ _ => rfl)) (aL (pv 1) (aL (pv 2) cE))) rfl (by omega)) cE)))) fj) fj)
  (br (qw (Nat.lt_trans (Nat.add_lt_add_left (by decide : 1 < 64) _) hu) (pv 2) (pv 3) (fQ dw rfl T.n_len PySem.boot_len (aL (pv 1) cE)) rfl) (br (m9 (wR PySem.F.plainAttrs_list PySem.F.slot_list_append PySem.F.type_list_append lb (pv 1) (aL (oY (aL (pv 3) (aL (pv 4) cE))) cE) rfl rfl rfl rfl rfl)) fj)))) fj) (br (ma (vz (Nat.lt_trans (Nat.add_lt_add_left (by decide : 1 < 64) _) hu) (pv 2) (pv 3) (fun _ _ => rfl))) fj))
theorem rg {f : Addr} {fd : FuncData} (A_lay : CP K mg "lay" r9 f fd) (T : Txt K mg) : ∀ n, EN P w K mg base "lay" (n + 1) n
 | 0 => lP A_lay (uu ["proof", "steps", "places"]) fun _ _ _ _ _ _ => bnd3 fun _ _ _ => rfl
 | n + 1 => lP A_lay (yX A_lay.fn T (rg A_lay T n)) fun _ _ _ _ _ _ => bnd3 fun _ _ _ => rfl
theorem oR {f : Addr} {fd : FuncData} (F : Fun K "laid_out" "laid_out" hX f fd) (T : Txt K mg) (D_lay : EN P w K mg base "lay" (8 + 1) 8) : FnOk P w K mg base (CXe P w) (8 + 1 + 1) f fd ["proof"] (spD K mg dQ) := by
 obtain ⟨f', fd', ps', D⟩ := D_lay
 refine F.okE (N := kn) jd uw fun cdv A outer s H vs Q E hr h => ⟨Fy (DN K (layD 8)) E, ?_, pJ rfl h⟩
 exact br (jk rfl jd.nd (tj cE)) (br (m9 (i9 D hr CN (aL (pv 0) (aL (pv 1) (aL tJ cE))) rfl (by omega))) (br (ma (pv 1)) fj))
theorem qb {f : Addr} {fd : FuncData} (F : Fun K "follows" "follows" iV f fd) (T : Txt K mg) (D_checked : DefD P w K mg base "checked" 3 cJ) (D_searched : DefD P w K mg base "searched" 21 fF) (D_is_saying : DefD P w K mg base "is_saying" 2 b7) (D_laid_out : DefD P w K mg base "laid_out" 10 dQ) : FnOk P w K mg base (CXe P w) 22 f fd ["sayings", "many", "saying"] (spD K mg cg) := by
 refine aC (N := m8) (fb := gG) F dX fun cdv A outer s H E hr => ?_
 have hu := hr.units
 exact ai (aG 3 dX.nd (ar D_checked hr CN (aa (ae 0) (aa (ae 1) (aj))))) (ai (aY (aU (dN (ab (ar D_is_saying hr CN (aa (ae 2) (aa (ae 1) (aj))))))) (ak (jW)) (aH)) (ai (aG 4 dX.nd (eB (ab (bM (aa (ab (jF)) (aj)))) (ae 1))) (ai (eE PassesOwn.leaving rfl (gT (eU 2)) (mn 5 dX.nd) (cM 5) (ak (wq 4 (ab (nF (lx (ae 5) (ab (ah))) (ah) (ah))) (ab (iF (ab (cq T.n_abs boot_abs (ae 5))) (ab (ah))))))) (ai (aG 6 dX.nd (ar D_searched hr CN (aa (ae 3) (aa (ae 4) (aj))))) (ak (au (nF (j2 hu (ab (ax hu (ae 6) (ab (ah)))) (ab (fY))) (eU 6) (fq (aa (ab (fY)) (aa (ab (ar D_laid_out hr CN (aa (ab (ax hu (ae 6) (ab (ah)))) (aj)))) (aj)))))))))))
theorem kC {f : Addr} {fd : FuncData} (F : Fun K "_law_cell_at" "_law_cell_at" eO f fd) (T : Txt K mg) : FnOk P w K mg base (CXe P w) 1 f fd ["_law_script", "_law_k"] (spD K mg aP) := by
 refine aC (N := gN) (fb := bN) F ko fun cdv A outer s H E hr => ?_
 have hu := hr.units
 exact ai (aY (qB (ae 1) (ab (dg T.n_len (ae 0)))) (ak (au (ax hu (ae 0) (ae 1)))) (aH)) (ai (aY (j2 hu (ae 0) (ab (bM (aj)))) (ak (au (ah))) (aH)) (ak (au (bf (ab (eB (ab (ax hu (ae 0) (ab (mi (ae 1) (ab (dg T.n_len (ae 0))))))) (ab (ah)))) (ae 1)))))
theorem mX {f : Addr} {fd : FuncData} (F : Fun K "_law_mixed" "_law_mixed" gp f fd) (T : Txt K mg) (D_law_cell_at : DefD P w K mg base "_law_cell_at" 1 aP) : FnOk P w K mg base (CXe P w) 2 f fd ["_law_script", "_law_k", "_law_many"] (spD K mg aK) := by
 refine aC (N := je) (fb := gj) F iB fun cdv A outer s H E hr => ?_
 have hu := hr.units
 exact ai (aG 3 iB.nd (mi (ab (eB (ab (bf (ab (bf (ab (ar D_law_cell_at hr CN (aa (ae 0) (aa (ae 1) (aj))))) (ab (eB (ab (ah)) (ae 1))))) (ab (ah)))) (ab (ah)))) (ab (ah)))) (ak (au (mi (ab (mi (ab (bf (ab (bf (ab (eB (ae 3) (ae 3))) (ab (eB (ab (ah)) (ae 3))))) (ae 1))) (ab (ah)))) (ae 2))))
theorem kO {f : Addr} {fd : FuncData} (F : Fun K "_law_saying" "_law_saying" dF f fd) (T : Txt K mg) (D_law_mixed : DefD P w K mg base "_law_mixed" 2 aK) : FnOk P w K mg base (CXe P w) 3 f fd ["_law_script", "_law_at", "_law_many"] (spD K mg ba) := by
 refine aC (N := fK) (fb := fG) F cR fun cdv A outer s H E hr => ?_
 have hu := hr.units
 exact ai (aG 3 cR.nd (nC)) (ai (eE PassesOwn.leaving rfl (lC T.n_range (ab (ax hu (ab (bM (aa (ab (ah)) (aa (ab (ah)) (aa (ab (ah)) (aa (ab (ah)) (aa (ab (ah)) (aa (ab (ah)) (aa (ab (ah)) (aj)))))))))) (ab (ar D_law_mixed hr CN (aa (ae 0) (aa (ae 1) (aa (ab (ah)) (aj))))))))) (mn 4 cR.nd) (cM 4) (ai (aG 5 cR.nd (bf (ab (ah)) (ab (ar D_law_mixed hr CN (aa (ae 0) (aa (ab (bf (ab (bf (ae 1) (ab (ah)))) (ae 4))) (aa (ae 2) (aj)))))))) (ak (tX 3 hu (ab (iF (ab (ah)) (ab (eB (ab (ah)) (ab (vL (ab (ar D_law_mixed hr CN (aa (ae 0) (aa (ab (bf (ab (bf (ae 1) (ab (ah)))) (ae 4))) (aa (ab (eB (ab (ah)) (ae 2))) (aj)))))) (ae 2))))))) (ae 5))))) (ak (au (nE T.n_tuple boot_tuple (ab (bB (N0 := fK) (sc0 := (Cy dF)) (F := [3]) (by decide +kernel) (by decide +kernel) (bA (ab (tQ T.n_sorted boot_sorted (ab (ml rfl T.n_list boot_list (ae 3)))))) (fun _ _ _ _ _ => gw) (fun _ _ _ _ _ => eB (ae 0) (ab (ax hu (ae 1) (ae 0))))))))))
theorem kD {f : Addr} {fd : FuncData} (F : Fun K "_law_sayings" "_law_sayings" cS f fd) (T : Txt K mg) (D_law_saying : DefD P w K mg base "_law_saying" 3 ba) (D_law_mixed : DefD P w K mg base "_law_mixed" 2 aK) : FnOk P w K mg base (CXe P w) 4 f fd ["_law_script", "_law_at", "_law_many", "_law_most"] (spD K mg bu) := by
 refine aC (N := eQ) (fb := eJ) F kq fun cdv A outer s H E hr => ?_
 have hu := hr.units
 exact ak (au (bB (N0 := eQ) (sc0 := (Cy cS)) (F := [1, 2, 0]) (by decide +kernel) (by decide +kernel) (pf T.n_range (ab (ar D_law_mixed hr CN (aa (ae 0) (aa (ae 1) (aa (ab (bf (ae 3) (ab (ah)))) (aj))))))) (fun _ _ _ _ _ => gw) (fun _ _ _ _ _ => ar D_law_saying hr bo (aa (ae 3) (aa (ab (bf (ab (bf (ae 1) (ab (ah)))) (ab (eB (ab (ah)) (ae 0))))) (aa (ae 2) (aj)))))))
theorem oS {f : Addr} {fd : FuncData} (F : Fun K "_law_true" "_law_true" hZ f fd) (T : Txt K mg) : FnOk P w K mg base (CXe P w) 1 f fd ["_law_saying_here", "_law_case"] (spD K mg bq) := by
 refine aC (N := ku) (fb := gY) F jf fun cdv A outer s H E hr => ?_
 have hu := hr.units
 exact ai (eE PassesOwn.leaving rfl (gT (eU 0)) (mn 2 jf.nd) (cM 2) (ak (aY (j2 hu (ab (A2 (ae 2) (ab (ah)))) (ab (j1 hu (ab (ax hu (ae 1) (ab (iF (ab (cq T.n_abs boot_abs (ae 2))) (ab (ah)))))) (ab (ah))))) (ak (au (cn))) (aH)))) (ak (au (cn)))
theorem oT {f : Addr} {fd : FuncData} (F : Fun K "_law_fits" "_law_fits" fL f fd) (T : Txt K mg) (D_law_true : DefD P w K mg base "_law_true" 1 bq) : FnOk P w K mg base (CXe P w) 2 f fd ["_law_sayings_here", "_law_case"] (spD K mg bG) := by
 refine aC (N := i0) (fb := gZ) F oO fun cdv A outer s H E hr => ?_
 have hu := hr.units
 exact ak (au (j1 hu (ab (bB (N0 := i0) (sc0 := (Cy fL)) (F := [1]) (by decide +kernel) (by decide +kernel) (bA (ae 0)) (fun _ _ _ _ _ => cm (aU (dN (ab (ar D_law_true hr bo (aa (ae 0) (aa (ae 1) (aj)))))))) (fun _ _ _ _ _ => eU 0))) (ab (bM (aj)))))
theorem mY {f : Addr} {fd : FuncData} (F : Fun K "_law_cases" "_law_cases" df f fd) (T : Txt K mg) : FnOk P w K mg base (CXe P w) 1 f fd ["_law_many"] (spD K mg cj) := by
 refine aC (N := e9) (fb := gk) F dG fun cdv A outer s H E hr => ?_
 have hu := hr.units
 exact ai (aG 1 dG.nd (bM (aa (ab (bM (aj))) (aj)))) (ai (eE PassesOwn.leaving rfl (lC T.n_range (ae 0)) (mn 2 dG.nd) (cM 2) (ak (aG 1 dG.nd (bf (ab (bB (N0 := e9) (sc0 := (Cy df)) (F := []) (by decide +kernel) (by decide +kernel) (bA (ae 1)) (fun _ _ _ _ _ => gw) (fun _ _ _ _ _ => bf (ae 0) (ab (bM (aa (ab (ah)) (aj))))))) (ab (bB (N0 := e9) (sc0 := (Cy df)) (F := []) (by decide +kernel) (by decide +kernel) (bA (ae 1)) (fun _ _ _ _ _ => gw) (fun _ _ _ _ _ => bf (ae 0) (ab (bM (aa (ab (ah)) (aj))))))))))) (ak (au (u9 hu T.n_sorted boot_sorted (ae 1)))))
theorem kE {f : Addr} {fd : FuncData} (F : Fun K "_law_fitting" "_law_fitting" cT f fd) (T : Txt K mg) (D_law_cases : DefD P w K mg base "_law_cases" 1 cj) (D_law_fits : DefD P w K mg base "_law_fits" 2 bG) : FnOk P w K mg base (CXe P w) 3 f fd ["_law_sayings_here", "_law_many"] (spD K mg bw) := by
 refine aC (N := eR) (fb := eM) F kx fun cdv A outer s H E hr => ?_
 have hu := hr.units
 exact ak (au (bB (N0 := eR) (sc0 := (Cy cT)) (F := [0]) (by decide +kernel) (by decide +kernel) (bA (ab (ar D_law_cases hr CN (aa (ae 1) (aj))))) (fun _ _ _ _ _ => cm (dN (ab (ar D_law_fits hr bo (aa (ae 1) (aa (ae 0) (aj))))))) (fun _ _ _ _ _ => eU 0)))
theorem mZ {f : Addr} {fd : FuncData} (F : Fun K "_law_whole" "_law_whole" gq f fd) (T : Txt K mg) : FnOk P w K mg base (CXe P w) 1 f fd ["_law_found"] (spD K mg bb) := by
 refine aC (N := jg) (fb := jb) F mU fun cdv A outer s H E hr => ?_
 have hu := hr.units
 exact ak (au (gR (dh "int" T.n_isinstance T.n_int boot_int rfl boot_isinstance (ae 0)) (jG (pb (dh "bool" T.n_isinstance T.n_bool boot_bool rfl boot_isinstance (ae 0))))))
theorem kF {f : Addr} {fd : FuncData} (F : Fun K "_law_is_case" "_law_is_case" cU f fd) (T : Txt K mg) (D_law_whole : DefD P w K mg base "_law_whole" 1 bb) : FnOk P w K mg base (CXe P w) 2 f fd ["_law_thing", "_law_many"] (spD K mg bx) := by
 refine aC (N := eS) (fb := eN) F ky fun cdv A outer s H E hr => ?_
 have hu := hr.units
 exact ai (aY (iH (dv (aU (dN (ab (dh "list" T.n_isinstance T.n_list boot_list rfl boot_isinstance (ae 0))))) (di (fZ hu (ab (dg T.n_len (ae 0))) (ae 1))))) (ak (au (cn))) (aH)) (ak (au (j1 hu (ab (bB (N0 := eS) (sc0 := (Cy cU)) (F := []) (by decide +kernel) (by decide +kernel) (bA (ae 0)) (fun _ _ _ _ _ => cm (iH (dv (aU (dN (ab (ar D_law_whole hr bo (aa (ae 0) (aj)))))) (dv (qB (ae 0) (ab (ah))) (di (lx (ae 0) (ab (ah)))))))) (fun _ _ _ _ _ => eU 0))) (ab (bM (aj))))))
theorem iW {f : Addr} {fd : FuncData} (F : Fun K "_law_is_saying" "_law_is_saying" dt f fd) (T : Txt K mg) (D_law_whole : DefD P w K mg base "_law_whole" 1 bb) : FnOk P w K mg base (CXe P w) 2 f fd ["_law_thing", "_law_many"] (spD K mg aW) := by
 refine aC (N := fM) (fb := dk) F bL fun cdv A outer s H E hr => ?_
 have hu := hr.units
 exact ai (aY (aU (dN (ab (dh "tuple" T.n_isinstance T.n_tuple boot_tuple rfl boot_isinstance (ae 0))))) (ak (au (cn))) (aH)) (ai (aG 2 bL.nd (ah)) (ai (eE PassesOwn.leaving rfl (gT (eU 0)) (mn 3 bL.nd) (cM 3) (ai (aY (iH (dv (aU (dN (ab (ar D_law_whole hr CN (aa (ae 3) (aj)))))) (dv (wV (ab (cq T.n_abs boot_abs (ae 3))) (ae 2)) (di (lx (ab (cq T.n_abs boot_abs (ae 3))) (ae 1)))))) (ak (au (cn))) (aH)) (ak (aG 2 bL.nd (cq T.n_abs boot_abs (ae 3)))))) (ak (au (cn)))))
theorem kG {f : Addr} {fd : FuncData} (F : Fun K "_law_is_step" "_law_is_step" bz f fd) (T : Txt K mg) (D_law_is_saying : DefD P w K mg base "_law_is_saying" 2 aW) (D_law_whole : DefD P w K mg base "_law_whole" 1 bb) : FnOk P w K mg base (CXe P w) 3 f fd ["_law_sayings_here", "_law_many", "_law_ahead", "_law_step"] (spD K mg bg) := by
 refine aC (N := bO) (fb := cQ) F bj fun cdv A outer s H E hr => ?_
 have hu := hr.units
 exact ai (aY (iH (dv (aU (dN (ab (dh "tuple" T.n_isinstance T.n_tuple boot_tuple rfl boot_isinstance (ae 3))))) (dv (fZ hu (ab (dg T.n_len (ae 3))) (ab (ah))) (di (aU (dN (ab (ar D_law_is_saying hr CN (aa (ab (ax hu (ae 3) (ab (ah)))) (aa (ae 1) (aj))))))))))) (ak (au (cn))) (aH)) (ai (aG 4 bj.nd (ax hu (ae 3) (ab (ah)))) (ai (aY (iH (dv (aU (dN (ab (dh "tuple" T.n_isinstance T.n_tuple boot_tuple rfl boot_isinstance (ae 4))))) (di (fZ hu (ab (bB (N0 := bO) (sc0 := (Cy bz)) (F := []) (by decide +kernel) (by decide +kernel) (bA (ae 4)) (fun _ _ _ _ _ => cm (iH (dv (aU (dN (ab (ar D_law_whole hr bo (aa (ae 0) (aj)))))) (di (qB (ae 0) (ab (ah))))))) (fun _ _ _ _ _ => eU 0))) (ab (bM (aj))))))) (ak (au (cn))) (aH)) (ai (aY (j2 hu (ab (dg T.n_len (ae 4))) (ab (ah))) (ak (au (gR (A0 (ab (ax hu (ae 4) (ab (ah)))) (ab (dg T.n_len (ae 0)))) (jG (j1 hu (ab (ax hu (ae 0) (ab (ax hu (ae 4) (ab (ah)))))) (ab (ax hu (ae 3) (ab (ah))))))))) (aH)) (ai (aY (iH (dv (fZ hu (ab (dg T.n_len (ae 4))) (ab (ah))) (di (Ab (ab (yB T.n_max boot_max (ae 4))) (ab (dg T.n_len (ae 2))))))) (ak (au (cn))) (aH)) (ai (aG 5 bj.nd (ax hu (ae 2) (ab (ax hu (ae 4) (ab (ah)))))) (ai (aG 6 bj.nd (ax hu (ae 2) (ab (ax hu (ae 4) (ab (ah)))))) (ai (aG 7 bj.nd (bB (N0 := bO) (sc0 := (Cy bz)) (F := [6]) (by decide +kernel) (by decide +kernel) (bA (ae 5)) (fun _ _ _ _ _ => cm (ur hu (ab (mj (ae 0))) (ae 1))) (fun _ _ _ _ _ => eU 0))) (ai (aY (iH (dv (fZ hu (ab (dg T.n_len (ae 7))) (ab (ah))) (di (qB (ab (ax hu (ae 7) (ab (ah)))) (ab (ah)))))) (ak (au (cn))) (aH)) (ai (vU 8 bj.nd (N0 := bO) (sc0 := (Cy bz)) (F := [7]) (by decide +kernel) (by decide +kernel) (bA (ab (bf (ae 5) (ae 6)))) (fun _ _ _ _ _ => cm (fZ hu (ab (cq T.n_abs boot_abs (ae 0))) (ab (ax hu (ae 1) (ab (ah)))))) (fun _ _ _ _ _ => eU 0)) (ak (au (j1 hu (ab (sF T.n_sorted boot_sorted (ab (ax hu (ae 3) (ab (ah)))))) (ab (pT rfl T.n_sorted T.n_set (ae 8)))))))))))))))
theorem iX {f : Addr} {fd : FuncData} (F : Fun K "_law_are_steps" "_law_are_steps" bY f fd) (T : Txt K mg) (D_law_is_step : DefD P w K mg base "_law_is_step" 3 bg) : FnOk P w K mg base (CXe P w) 4 f fd ["_law_sayings_here", "_law_many", "_law_steps", "_law_parts"] (spD K mg aX) := by
 refine aC (N := du) (fb := dn) F cL fun cdv A outer s H E hr => ?_
 have hu := hr.units
 exact ai (aY (iH (dv (aU (dN (ab (dh "list" T.n_isinstance T.n_list boot_list rfl boot_isinstance (ae 2))))) (di (j2 hu (ae 2) (ab (bM (aj))))))) (ak (au (cn))) (aH)) (ai (aG 4 cL.nd (bM (aj))) (ai (eE PassesOwn.leaving rfl (gT (eU 2)) (mn 5 cL.nd) (cM 5) (ai (aY (aU (dN (ab (ar D_law_is_step hr CN (aa (ae 0) (aa (ae 1) (aa (ae 4) (aa (ae 5) (aj))))))))) (ak (au (cn))) (aH)) (ak (tW 4 (ab (ax hu (ae 5) (ab (ah)))))))) (ak (au (j1 hu (ab (bB (N0 := du) (sc0 := (Cy bY)) (F := [3]) (by decide +kernel) (by decide +kernel) (bA (ab (ax hu (ae 4) (ab (mj (ab (ah))))))) (fun _ _ _ _ _ => cm (lN hu (ae 0) (ae 1))) (fun _ _ _ _ _ => eU 0))) (ab (bM (aj))))))))
theorem yY {f : Addr} {fd : FuncData} (F : Fun K "law" "law" gO f fd) (T : Txt K mg) (D_law_sayings : DefD P w K mg base "_law_sayings" 4 bu) (D_law_saying : DefD P w K mg base "_law_saying" 3 ba) (D_follows : DefD P w K mg base "follows" 22 cg) (D_law_mixed : DefD P w K mg base "_law_mixed" 2 aK) (D_law_is_case : DefD P w K mg base "_law_is_case" 2 bx) (D_law_fits : DefD P w K mg base "_law_fits" 2 bG) (D_law_are_steps : DefD P w K mg base "_law_are_steps" 4 aX) (D_law_true : DefD P w K mg base "_law_true" 1 bq) (D_law_fitting : DefD P w K mg base "_law_fitting" 3 bw) : FnOk P w K mg base (CXe P w) 23 f fd ["_law_script"] (spD K mg qV) := by
 refine aC (N := v9) (fb := uK) F i4 fun cdv A outer s H E hr => ?_
 have hu := hr.units
 exact ai (aG 1 i4.nd (bf (ab (ah)) (ab (ar D_law_mixed hr CN (aa (ae 0) (aa (ab (ah)) (aa (ab (ah)) (aj)))))))) (ai (aG 2 i4.nd (ar D_law_sayings hr CN (aa (ae 0) (aa (ab (ah)) (aa (ae 1) (aa (ab (ah)) (aj))))))) (ai (aG 3 i4.nd (ar D_law_saying hr CN (aa (ae 0) (aa (ab (ah)) (aa (ae 1) (aj)))))) (ai (aG 4 i4.nd (ml rfl T.n_list boot_list (ae 2))) (ai (aG 5 i4.nd (ar D_follows hr CN (aa (ae 4) (aa (ae 1) (aa (ae 3) (aj)))))) (ai (aY (iH (dv (fZ hu (ae 4) (ae 2)) (dv (aU (dN (ab (dh "tuple" T.n_isinstance T.n_tuple boot_tuple rfl boot_isinstance (ae 5))))) (di (fZ hu (ab (dg T.n_len (ae 5))) (ab (ah))))))) (ak (au (cn))) (aH)) (ai (aY (j2 hu (ab (ax hu (ae 5) (ab (ah)))) (ab (fY))) (ai (aG 6 i4.nd (ax hu (ae 5) (ab (ah)))) (ak (au (gR (ar D_law_is_case hr CN (aa (ae 6) (aa (ae 1) (aj)))) (gR (ar D_law_fits hr CN (aa (ae 2) (aa (ae 6) (aj)))) (jG (pb (ar D_law_true hr CN (aa (ae 3) (aa (ae 6) (aj))))))))))) (aH)) (ai (aY (iH (dv (fZ hu (ab (ax hu (ae 5) (ab (ah)))) (ab (fY))) (di (aU (dN (ab (ar D_law_are_steps hr CN (aa (ae 2) (aa (ae 1) (aa (ab (ax hu (ae 5) (ab (ah)))) (aa (ae 3) (aj)))))))))))) (ak (au (cn))) (aH)) (ak (au (j1 hu (ab (bB (N0 := v9) (sc0 := (Cy gO)) (F := [3]) (by decide +kernel) (by decide +kernel) (bA (ab (ar D_law_fitting hr CN (aa (ae 2) (aa (ae 1) (aj)))))) (fun _ _ _ _ _ => cm (aU (dN (ab (ar D_law_true hr bo (aa (ae 1) (aa (ae 0) (aj)))))))) (fun _ _ _ _ _ => eU 0))) (ab (bM (aj)))))))))))))
end
theorem gval {K : W.Frag} {h : Heap} {mg : Cu} {x : Str} {p : Tok -> Value} {t : Tok} (X : K.In h) (G : h.Ns mainGlobals mg) (a : W.nsIn K mainGlobals x = some (some (p t))) : ∃ t, mg x = some (p t) := ⟨t, W.mg_of X G a⟩
theorem yZ {l : W.OpenLaw} {w : World} {K : W.Frag} {h : Heap} {mg : Cu} {fa : Addr} {f0 f1 f2 f3 f4 f5 f6 f7 f8 f9 f10 f11 f12 f13 f14 f15 f16 f17 f18 f19 f20 f21 f22 f23 f24 f25 f26 f27 lc8 lp8 : Addr} {d0 d1 d2 d3 d4 d5 d6 d7 d8 d9 d10 d11 d12 d13 d14 d15 d16 d17 d18 d19 d20 d21 d22 d23 d24 d25 d26 : FuncData} {od27 an27 : Option Addr} {sl27 : Array (Option Value)} {oc27 kV27 dc27 pm27 cd27 ct27 : Value} (X : K.In h) (G : h.Ns mainGlobals mg) (hfa : mg "law" = some (.ref fa))
  (A_is_whole : CP K mg "is_whole" hV f0 d0)
  (A_is_from_one_to : CP K mg "is_from_one_to" cK f1 d1)
  (A_is_saying : CP K mg "is_saying" gm f2 d2)
  (A_checked : CP K mg "checked" iU f3 d3)
  (A_is_so : CP K mg "is_so" mR f4 d4)
  (A_holds : CP K mg "holds" js f5 d5)
  (A_put_together : CP K mg "put_together" cD f6 d6)
  (A_open_parts : CP K mg "open_parts" dE f7 d7)
  (A_narrowest : CP K mg "narrowest" cZ f8 d8)
  (y8 : LamQ K "narrowest" d8.code lc8 lp8)
  (A_searched_both_ways : CP K mg "searched_both_ways" bc f9 d9)
  (A_searched : CP K mg "searched" dW f10 d10)
  (A_lay : CP K mg "lay" r9 f11 d11)
  (A_laid_out : CP K mg "laid_out" hX f12 d12)
  (A_follows : CP K mg "follows" iV f13 d13)
  (A_law_cell_at : CP K mg "_law_cell_at" eO f14 d14)
  (A_law_mixed : CP K mg "_law_mixed" gp f15 d15)
  (A_law_saying : CP K mg "_law_saying" dF f16 d16)
  (A_law_sayings : CP K mg "_law_sayings" cS f17 d17)
  (A_law_true : CP K mg "_law_true" hZ f18 d18)
  (A_law_fits : CP K mg "_law_fits" fL f19 d19)
  (A_law_cases : CP K mg "_law_cases" df f20 d20)
  (A_law_fitting : CP K mg "_law_fitting" cT f21 d21)
  (A_law_whole : CP K mg "_law_whole" gq f22 d22)
  (A_law_is_case : CP K mg "_law_is_case" cU f23 d23)
  (A_law_is_saying : CP K mg "_law_is_saying" dt f24 d24)
  (A_law_is_step : CP K mg "_law_is_step" bz f25 d25)
  (A_law_are_steps : CP K mg "_law_are_steps" bY f26 d26)
  (a27 : W.nsIn K mainGlobals "law" = some (some (.ref f27)))
  (l27 : K.lookup f27 = some ⟨oc27, od27, .func (W.fnOf "law" "law" (Dx gO) (D7 gO) (Cy gO) .none kV27 dc27 pm27 an27 cd27 ct27), sl27⟩)
  (c27 : W.codeIn K cd27 "law" = true)
  (k27 : W.keepIn K (.ref f27) = true)
  (T : Txt K mg)
  (hlaw : ∀ ns : List Int, ns.length <= 63 -> qV [.list (ns.map PyData.int)] = .ok (.sh (.bool true))) :
  ∃ fd : FuncData, (∀ (s : Shared) (v : Value), BindsTo s fd ⟨[v], []⟩ [("_law_script", v)]) /\ ∀ base : Heap, K.In base -> base.Ns mainGlobals mg -> Bm mg base -> FnOk l.prog w K mg base (CXe l.prog w) 23 fa fd ["_law_script"] (F1 K) := by
 have e := hfa.symm.trans (W.mg_of X G a27)
 cases e
 have A_law := aw (st := gO) X G a27 l27 c27 k27
 refine ⟨W.fnOf "law" "law" (Dx gO) (D7 gO) (Cy gO) .none kV27 dc27 pm27 an27 cd27 ct27, fun s v => .of_eq rfl, fun base _ _ BM => ?_⟩
 have D_is_whole : DefD l.prog w K mg base "is_whole" 1 bE := ay A_is_whole (oP A_is_whole.fn T) fun _ _ _ _ _ _ => bnd1 fun _ => rfl
 have D_is_from_one_to : DefD l.prog w K mg base "is_from_one_to" 2 aR := ay A_is_from_one_to (iC A_is_from_one_to.fn T D_is_whole) fun _ _ _ _ _ _ => bnd2 fun _ _ => rfl
 have D_is_saying : DefD l.prog w K mg base "is_saying" 2 b7 := ay A_is_saying (mV A_is_saying.fn T D_is_whole) fun _ _ _ _ _ _ => bnd2 fun _ _ => rfl
 have D_checked : DefD l.prog w K mg base "checked" 3 cJ := ay A_checked (q5 A_checked.fn T D_is_from_one_to D_is_saying) fun _ _ _ _ _ _ => bnd2 fun _ _ => rfl
 have D_is_so : DefD l.prog w K mg base "is_so" 1 gC := ay A_is_so (va A_is_so.fn T) fun _ _ _ _ _ _ => bnd2 fun _ _ => rfl
 have D_holds : DefD l.prog w K mg base "holds" 2 gF := ay A_holds (vb A_holds.fn T D_is_so) fun _ _ _ _ _ _ => bnd2 fun _ _ => rfl
 have D_put_together : DefD l.prog w K mg base "put_together" 1 aT := ay A_put_together (ji A_put_together.fn T) fun _ _ _ _ _ _ => bnd3 fun _ _ _ => rfl
 have D_open_parts : DefD l.prog w K mg base "open_parts" 1 aO := ay A_open_parts (kM A_open_parts.fn T) fun _ _ _ _ _ _ => bnd2 fun _ _ => rfl
 have D_narrowest : DefD l.prog w K mg base "narrowest" 4 b8 := ay A_narrowest (mW A_narrowest.fn T D_holds D_open_parts BM y8) fun _ _ _ _ _ _ => bnd2 fun _ _ => rfl
 have DR_searched := iD (P := l.prog) (w := w) (base := base) A_searched_both_ways A_searched T D_put_together D_narrowest D_open_parts 8
 have D_searched : DefD l.prog w K mg base "searched" 21 fF := DR_searched
 have D_lay := rg (P := l.prog) (w := w) (base := base) A_lay T 8
 have D_laid_out : DefD l.prog w K mg base "laid_out" 10 dQ := ay A_laid_out (oR A_laid_out.fn T D_lay) fun _ _ _ _ _ _ => bnd1 fun _ => rfl
 have D_follows : DefD l.prog w K mg base "follows" 22 cg := ay A_follows (qb A_follows.fn T D_checked D_searched D_is_saying D_laid_out) fun _ _ _ _ _ _ => bnd3 fun _ _ _ => rfl
 have D_law_cell_at : DefD l.prog w K mg base "_law_cell_at" 1 aP := ay A_law_cell_at (kC A_law_cell_at.fn T) fun _ _ _ _ _ _ => bnd2 fun _ _ => rfl
 have D_law_mixed : DefD l.prog w K mg base "_law_mixed" 2 aK := ay A_law_mixed (mX A_law_mixed.fn T D_law_cell_at) fun _ _ _ _ _ _ => bnd3 fun _ _ _ => rfl
 have D_law_saying : DefD l.prog w K mg base "_law_saying" 3 ba := ay A_law_saying (kO A_law_saying.fn T D_law_mixed) fun _ _ _ _ _ _ => bnd3 fun _ _ _ => rfl
 have D_law_sayings : DefD l.prog w K mg base "_law_sayings" 4 bu := ay A_law_sayings (kD A_law_sayings.fn T D_law_saying D_law_mixed) fun _ _ _ _ _ _ => bnd4 fun _ _ _ _ => rfl
 have D_law_true : DefD l.prog w K mg base "_law_true" 1 bq := ay A_law_true (oS A_law_true.fn T) fun _ _ _ _ _ _ => bnd2 fun _ _ => rfl
 have D_law_fits : DefD l.prog w K mg base "_law_fits" 2 bG := ay A_law_fits (oT A_law_fits.fn T D_law_true) fun _ _ _ _ _ _ => bnd2 fun _ _ => rfl
 have D_law_cases : DefD l.prog w K mg base "_law_cases" 1 cj := ay A_law_cases (mY A_law_cases.fn T) fun _ _ _ _ _ _ => bnd1 fun _ => rfl
 have D_law_fitting : DefD l.prog w K mg base "_law_fitting" 3 bw := ay A_law_fitting (kE A_law_fitting.fn T D_law_cases D_law_fits) fun _ _ _ _ _ _ => bnd2 fun _ _ => rfl
 have D_law_whole : DefD l.prog w K mg base "_law_whole" 1 bb := ay A_law_whole (mZ A_law_whole.fn T) fun _ _ _ _ _ _ => bnd1 fun _ => rfl
 have D_law_is_case : DefD l.prog w K mg base "_law_is_case" 2 bx := ay A_law_is_case (kF A_law_is_case.fn T D_law_whole) fun _ _ _ _ _ _ => bnd2 fun _ _ => rfl
 have D_law_is_saying : DefD l.prog w K mg base "_law_is_saying" 2 aW := ay A_law_is_saying (iW A_law_is_saying.fn T D_law_whole) fun _ _ _ _ _ _ => bnd2 fun _ _ => rfl
 have D_law_is_step : DefD l.prog w K mg base "_law_is_step" 3 bg := ay A_law_is_step (kG A_law_is_step.fn T D_law_is_saying D_law_whole) fun _ _ _ _ _ _ => bnd4 fun _ _ _ _ => rfl
 have D_law_are_steps : DefD l.prog w K mg base "_law_are_steps" 4 aX := ay A_law_are_steps (iX A_law_are_steps.fn T D_law_is_step) fun _ _ _ _ _ _ => bnd4 fun _ _ _ _ => rfl
 exact (yY A_law.fn T D_law_sayings D_law_saying D_follows D_law_mixed D_law_is_case D_law_fits D_law_are_steps D_law_true D_law_fitting).imp fun vs H Q E h => rJ hlaw vs H Q E h
theorem walk {l : W.OpenLaw} {q : Program} {loose : List Str} {XP : (Str -> Option Value) -> Heap -> Prop} {YP : World -> Heap -> Prop} {d : DefRec} {K : Params -> W.Frag} (hn : l.most = some 63) (hdf : d.params.defaults = [])
  (hY : ∀ (w : World) (h : Heap), YP w h -> (K w.params).In h)
  (hT : ∀ (w : World) (h : Heap), YP w h -> ∀ P ∈ Tabs.ts, h.get? P = some (W.tabObj #[]) /\ (K w.params).lookup P = none /\ ∃ c, W.CodeHd h c P)
  (F : ∀ (w : World) (mg : Cu) (fa : Addr) (h : Heap), (K w.params).In h -> h.Ns mainGlobals mg -> mg d.name = some (.ref fa) ->
   ∃ fd : FuncData, (∀ (s : Shared) (u : Value), BindsTo s fd ⟨[u], []⟩ [("_law_script", u)]) /\ ∀ base : Heap, (K w.params).In base -> base.Ns mainGlobals mg -> Bm mg base -> FnOk l.prog w (K w.params) mg base (CXe l.prog w) 23 fa fd ["_law_script"] (F1 (K w.params))) :
  W.WalkO q loose XP YP l.row.toRowW d [] (fun f vs => PySem.call f vs) :=
 L2.uj (n := 63) (k := 23) (x := "_law_script") (CX := fun w => CXe l.prog w) (sp := fun w => F1 (K w.params)) hn (by decide) hdf ⟨rfl, by decide, by decide⟩ hY hT F (fun _ _ a ns hl tb hS => ⟨a, ns, rfl, hS, hl, tb, fun _ => rfl⟩) fun _ _ _ _ _ z => rK _ _ _ _ _ z
end L2
instance : L2.Tabs := ⟨[110], PySem.Str.ofString "narrowest.<locals>.<lambda>"⟩
open PySem PySem.W PyProof.Rows
set_option maxRecDepth 100000 in
set_option maxHeartbeats 0 in
theorem PySem.Challenge.cw_sayhall_k04_whole_follows_holds : PySem.Challenge.rw_sayhall_k04_whole_follows.Holds := by
 w_on; o_law; k_head; (case hw => w_witness2)
 k_fill
 refine L2.walk (l := PySem.Challenge.rw_sayhall_k04_whole_follows) rfl rfl (fun w h Y => W.km_in_of Y) ?T ?F
 case T =>
  intro w h Y P hP
  have hP' : P = 110 := by simpa [L2.Tabs.ts] using hP
  subst hP'
  exact ⟨W.km_tabs_of Y _ (by simp), by kernel_rfl, 112, W.codeHd_of_K (c := 112) (P := 110) (W.km_in_of Y) (by kernel_rfl)⟩
 case F =>
  intro w mg fa h KX G hmg
  refine' L2.yZ KX G hmg (L2.aw KX G ?a0 ?l0 ?c0 ?k0) (L2.aw KX G ?a1 ?l1 ?c1 ?k1) (L2.aw KX G ?a2 ?l2 ?c2 ?k2) (L2.aw KX G ?a3 ?l3 ?c3 ?k3) (L2.aw KX G ?a4 ?l4 ?c4 ?k4) (L2.aw KX G ?a5 ?l5 ?c5 ?k5) (L2.aw KX G ?a6 ?l6 ?c6 ?k6) (L2.aw KX G ?a7 ?l7 ?c7 ?k7) (L2.aw KX G ?a8 ?l8 ?c8 ?k8) ?y8 (L2.aw KX G ?a9 ?l9 ?c9 ?k9) (L2.aw KX G ?a10 ?l10 ?c10 ?k10) (L2.aw KX G ?a11 ?l11 ?c11 ?k11) (L2.aw KX G ?a12 ?l12 ?c12 ?k12) (L2.aw KX G ?a13 ?l13 ?c13 ?k13) (L2.aw KX G ?a14 ?l14 ?c14 ?k14) (L2.aw KX G ?a15 ?l15 ?c15 ?k15) (L2.aw KX G ?a16 ?l16 ?c16 ?k16) (L2.aw KX G ?a17 ?l17 ?c17 ?k17) (L2.aw KX G ?a18 ?l18 ?c18 ?k18) (L2.aw KX G ?a19 ?l19 ?c19 ?k19) (L2.aw KX G ?a20 ?l20 ?c20 ?k20) (L2.aw KX G ?a21 ?l21 ?c21 ?k21) (L2.aw KX G ?a22 ?l22 ?c22 ?k22) (L2.aw KX G ?a23 ?l23 ?c23 ?k23) (L2.aw KX G ?a24 ?l24 ?c24 ?k24) (L2.aw KX G ?a25 ?l25 ?c25 ?k25) (L2.aw KX G ?a26 ?l26 ?c26 ?k26) ?a27 ?l27 ?c27 ?k27 ⟨W.mg_none_of KX G ?z_abs, W.mg_none_of KX G ?z_any, W.mg_none_of KX G ?z_bool, W.mg_none_of KX G ?z_enumerate, W.mg_none_of KX G ?z_int, W.mg_none_of KX G ?z_isinstance, W.mg_none_of KX G ?z_len, W.mg_none_of KX G ?z_list, W.mg_none_of KX G ?z_max, W.mg_none_of KX G ?z_min, W.mg_none_of KX G ?z_range, W.mg_none_of KX G ?z_set, W.mg_none_of KX G ?z_sorted, W.mg_none_of KX G ?z_tuple, L2.gval KX G ?v_MOST_SAYINGS, L2.gval KX G ?v_MOST_THINGS⟩ (fun ns _ => L2.law_holds ns)
  (case a0 => k_is)
  (case l0 => k_is)
  (case c0 => k_is)
  (case k0 => k_is)
  (case a1 => k_is)
  (case l1 => k_is)
  (case c1 => k_is)
  (case k1 => k_is)
  (case a2 => k_is)
  (case l2 => k_is)
  (case c2 => k_is)
  (case k2 => k_is)
  (case a3 => k_is)
  (case l3 => k_is)
  (case c3 => k_is)
  (case k3 => k_is)
  (case a4 => k_is)
  (case l4 => k_is)
  (case c4 => k_is)
  (case k4 => k_is)
  (case a5 => k_is)
  (case l5 => k_is)
  (case c5 => k_is)
  (case k5 => k_is)
  (case a6 => k_is)
  (case l6 => k_is)
  (case c6 => k_is)
  (case k6 => k_is)
  (case a7 => k_is)
  (case l7 => k_is)
  (case c7 => k_is)
  (case k7 => k_is)
  (case a8 => k_is)
  (case l8 => k_is)
  (case c8 => k_is)
  (case k8 => k_is)
  (case y8 => exact L2.LamQ.mk (L2.LamK.mk (c := 112) (P := 110) rfl (by kernel_rfl) (by decide)) (by decide))
  (case a9 => k_is)
  (case l9 => k_is)
  (case c9 => k_is)
  (case k9 => k_is)
  (case a10 => k_is)
  (case l10 => k_is)
  (case c10 => k_is)
  (case k10 => k_is)
  (case a11 => k_is)
  (case l11 => k_is)
  (case c11 => k_is)
  (case k11 => k_is)
  (case a12 => k_is)
  (case l12 => k_is)
  (case c12 => k_is)
  (case k12 => k_is)
  (case a13 => k_is)
  (case l13 => k_is)
  (case c13 => k_is)
  (case k13 => k_is)
  (case a14 => k_is)
  (case l14 => k_is)
  (case c14 => k_is)
  (case k14 => k_is)
  (case a15 => k_is)
  (case l15 => k_is)
  (case c15 => k_is)
  (case k15 => k_is)
  (case a16 => k_is)
  (case l16 => k_is)
  (case c16 => k_is)
  (case k16 => k_is)
  (case a17 => k_is)
  (case l17 => k_is)
  (case c17 => k_is)
  (case k17 => k_is)
  (case a18 => k_is)
  (case l18 => k_is)
  (case c18 => k_is)
  (case k18 => k_is)
  (case a19 => k_is)
  (case l19 => k_is)
  (case c19 => k_is)
  (case k19 => k_is)
  (case a20 => k_is)
  (case l20 => k_is)
  (case c20 => k_is)
  (case k20 => k_is)
  (case a21 => k_is)
  (case l21 => k_is)
  (case c21 => k_is)
  (case k21 => k_is)
  (case a22 => k_is)
  (case l22 => k_is)
  (case c22 => k_is)
  (case k22 => k_is)
  (case a23 => k_is)
  (case l23 => k_is)
  (case c23 => k_is)
  (case k23 => k_is)
  (case a24 => k_is)
  (case l24 => k_is)
  (case c24 => k_is)
  (case k24 => k_is)
  (case a25 => k_is)
  (case l25 => k_is)
  (case c25 => k_is)
  (case k25 => k_is)
  (case a26 => k_is)
  (case l26 => k_is)
  (case c26 => k_is)
  (case k26 => k_is)
  (case a27 => k_is)
  (case l27 => k_is)
  (case c27 => k_is)
  (case k27 => k_is)
  (case z_abs => k_is)
  (case z_any => k_is)
  (case z_bool => k_is)
  (case z_enumerate => k_is)
  (case z_int => k_is)
  (case z_isinstance => k_is)
  (case z_len => k_is)
  (case z_list => k_is)
  (case z_max => k_is)
  (case z_min => k_is)
  (case z_range => k_is)
  (case z_set => k_is)
  (case z_sorted => k_is)
  (case z_tuple => k_is)
  (case v_MOST_SAYINGS => k_is)
  (case v_MOST_THINGS => k_is)
