import PyProof.Rows.All
import Wide.All
import OpenK.AllK
import Wide.FinOn
import Lean
import PyProof.EqAt
import PyProof.EqKinds
import PyProof.TupleCall
import PySem.Challenge.RW_sayhall_k15_refusals
set_option bootstrap.genMatcherCode false
noncomputable section
set_option Elab.async false
set_option linter.all false
set_option maxRecDepth 100000
abbrev A4 := List PySem.PyData
abbrev A5 := PySem.Str -> Option PySem.Value
abbrev A6 := List (PySem.Addr × PySem.Obj)
abbrev A8 := PySem.Value -> PySem.Shared -> Prop
namespace L2
open PySem PySem.Spec PyProof.Rows
abbrev Key := Sum Int Str
noncomputable def Bd : Key -> Value -> Bool
 | .inl k, v => Value.isInt k v
 | .inr x, v => Value.isStrOf x v
noncomputable def keyH (w : World) : Key -> Int
 | .inl k => hashInt k
 | .inr x => hashStr w x
theorem b9 : ∀ {k : Key} {v : Value}, Bd k v = true -> (∃ i t, k = Sum.inl i /\ v = Value.int i t) \/ (∃ x t, k = Sum.inr x /\ v = Value.str x t)
 | .inl i, v, h => by
  obtain ⟨t, e⟩ := Value.isInt_shape (k := i) (v := v) h
  exact .inl ⟨i, t, rfl, e⟩
 | .inr x, v, h => by
  obtain ⟨t, e⟩ := Value.isStrOf_shape (x := x) (v := v) h
  exact .inr ⟨x, t, rfl, e⟩
theorem ox (i : Int) (t : Tok) : Bd (.inl i) (.int i t) = true := by simp [Bd, Value.isInt]
theorem oy (x : Str) (t : Tok) : Bd (.inr x) (.str x t) = true := by simp [Bd, Value.isStrOf]
theorem ug (a b : Int) : decide ((Sum.inl a : Key) = Sum.inl b) = (a == b) := by
 by_cases e : a = b
 ·subst e; simp
 ·have h : ¬ (Sum.inl a : Key) = Sum.inl b := fun q => e (Sum.inl.inj q)
  rw [decide_eq_false h]
  exact (beq_eq_false_iff_ne.mpr e).symm
theorem uh (a b : Str) : decide ((Sum.inr a : Key) = Sum.inr b) = decide (a = b) := by
 by_cases e : a = b
 ·subst e; simp
 ·have h : ¬ (Sum.inr a : Key) = Sum.inr b := fun q => e (Sum.inr.inj q)
  rw [decide_eq_false h, decide_eq_false e]
theorem ui (a : Int) (b : Str) : decide ((Sum.inl a : Key) = Sum.inr b) = false := decide_eq_false (fun q => nomatch q)
theorem uj (a : Str) (b : Int) : decide ((Sum.inr a : Key) = Sum.inl b) = false := decide_eq_false (fun q => nomatch q)
noncomputable def Ah (prog : Program) (w : World) : PySem.KeyKind prog w Key where
 is := Bd
 hash := keyH w
 inj := fun v a b ha hb => by
  rcases b9 ha with ⟨i, t, rfl, rfl⟩ | ⟨x, t, rfl, rfl⟩
  ·rcases b9 hb with ⟨j, u, rfl, e⟩ | ⟨y, u, rfl, e⟩
   ·injection e with e1 _; rw [e1]
   ·exact nomatch e
  ·rcases b9 hb with ⟨j, u, rfl, e⟩ | ⟨y, u, rfl, e⟩
   ·exact nomatch e
   ·injection e with e1 _; rw [e1]
 byValue := fun k v h => by
  rcases b9 h with ⟨i, t, rfl, rfl⟩ | ⟨x, t, rfl, rfl⟩ <;> rfl
 pyHash := fun hv h => by
  rcases b9 hv with ⟨i, t, rfl, rfl⟩ | ⟨x, t, rfl, rfl⟩
  ·exact wpAny_pyHash_int h
  ·exact wpAny_pyHash_str h
 eqBool := fun hu hv h => by
  rcases b9 hu with ⟨i, t, rfl, rfl⟩ | ⟨x, t, rfl, rfl⟩
  ·rcases b9 hv with ⟨j, u, rfl, rfl⟩ | ⟨y, u, rfl, rfl⟩
   ·rw [ug] at h; exact wpAny_eqBool_int h
   ·rw [ui] at h; exact SeqAt.EqAt.int_str i t y u _ _ _ _ h
  ·rcases b9 hv with ⟨j, u, rfl, rfl⟩ | ⟨y, u, rfl, rfl⟩
   ·rw [uj] at h; exact SeqAt.EqAt.str_int x t j u _ _ _ _ h
   ·rw [uh] at h; exact wpAny_eqBool_str h
 «strs» := fun k x t v h => by
  rcases b9 h with ⟨i, u, rfl, e⟩ | ⟨y, u, rfl, e⟩
  ·exact nomatch e
  ·injection e with e1 _
   subst e1
   cases v <;> rfl
theorem kW (prog : Program) (w : World) (i : Int) (t : Tok) : (Ah prog w).is (.inl i) (.int i t) = true := ox i t
theorem kX (prog : Program) (w : World) (x : Str) (t : Tok) : (Ah prog w).is (.inr x) (.str x t) = true := oy x t
inductive V where
 | non | bl (b : Bool) | int (i : Int) | str (x : Str) | byt (b : Array UInt8) | flt (b : UInt64) | ref (a : Addr) | ty (n : String)
 deriving DecidableEq
noncomputable def RelV : V -> Value -> Prop
 | .non, u => u = Value.none
 | .bl b, u => u = Value.bool b
 | .int i, u => ∃ t, u = Value.int i t
 | .str x, u => ∃ t, u = Value.str x t
 | .byt b, u => ∃ t, u = Value.bytes b t
 | .flt b, u => ∃ t, u = Value.float b t
 | .ref a, u => u = Value.ref a
 | .ty n, u => u = Value.type n
abbrev Vals : List V -> List Value -> Prop := Paired RelV
theorem Vals.length {xs : List V} {us : List Value} (r : Vals xs us) : xs.length = us.length := Paired.length r
theorem Vals.get : ∀ {xs : List V} {us : List Value} {i : Nat} {x : V}, Vals xs us -> xs[i]? = some x -> ∃ u, us[i]? = some u /\ RelV x u
 | _, _, _, _, .nil, e => by simp at e
 | _, _, 0, _, .cons r _, e => by simp at e; subst e; exact ⟨_, rfl, r⟩
 | _, _, i + 1, x, .cons _ t, e => by
  obtain ⟨u, h1, h2⟩ := Vals.get (i := i) (x := x) t (by simpa using e)
  exact ⟨u, by simpa using h1, h2⟩
theorem Vals.append : ∀ {xs ys : List V} {us ws : List Value}, Vals xs us -> Vals ys ws -> Vals (xs ++ ys) (us ++ ws)
 | _, _, _, _, .nil, s => s
 | _, _, _, _, .cons r t, s => .cons r (Vals.append t s)
theorem Vals.take : ∀ {xs : List V} {us : List Value} (n : Nat), Vals xs us -> Vals (xs.take n) (us.take n)
 | _, _, 0, _ => .nil
 | _, _, _ + 1, .nil => .nil
 | _, _, n + 1, .cons r t => .cons r (Vals.take n t)
theorem Vals.drop : ∀ {xs : List V} {us : List Value} (n : Nat), Vals xs us -> Vals (xs.drop n) (us.drop n)
 | _, _, 0, r => r
 | _, _, _ + 1, .nil => .nil
 | _, _, n + 1, .cons _ t => Vals.drop n t
noncomputable def RelO : Option V -> Option Value -> Prop
 | some v, some u => RelV v u
 | none, none => True
 | _, _ => False
noncomputable def KV {κ : Type} : List (κ × V) -> List (κ × Value) -> Prop := Paired fun (p : κ × V) (q : κ × Value) => p.1 = q.1 /\ RelV p.2 q.2
def kV : Key -> V
 | .inl i => .int i
 | .inr x => .str x
inductive HO where
 | lst (xs : List V)
 | tup (xs : List V)
 | dK (kvs : List (Key × V)) | dT (kvs : List (List Key × V))
 | set (S : Int -> Bool) (n : Nat)
 | ins (C dx : Addr) (fs : List (Str × V))
 | own (x : Addr)
 | xd (fs : List (Str × V))
 | met (f x : Addr)
 | rng (lo hi : Int)
 | frz (o : Obj) (u : HO)
 | tbl (ps : Array Value)
 | ext (φ : Heap -> Prop)
abbrev Hp := Addr -> Option HO
noncomputable def upd (H : Hp) (a : Addr) (o : HO) : Hp := fun b => if b = a then some o else H b
theorem aK {H : Hp} {a : Addr} {o : HO} : upd H a o a = some o := by unfold upd; rw [if_pos rfl]
theorem av {H : Hp} {a b : Addr} {o : HO} (h : b ≠ a) : upd H a o b = H b := by unfold upd; rw [if_neg h]
theorem wV {H : Hp} {a b : Addr} {o u : HO} (h : H a = some o) (h' : H b = some u) (d : o ≠ u) : a ≠ b := by
 intro e; subst e; rw [h] at h'; exact d (Option.some.inj h')
theorem aD {H : Hp} {a b : Addr} {o : HO} (h : H a = some o) (h' : H b = none) : a ≠ b := by
 intro e; subst e; rw [h] at h'; cases h'
section
variable (P : Program) (w : World)
noncomputable def Ao (H : Hp) (h : Heap) (a : Addr) : HO -> Prop
 | .lst xs => xs.length <= sizeLine /\ ∃ (its : List Value) (n : Nat), Vals xs its /\ h.get? a = some { cls := .type "list", data := .seq its.toArray n }
 | .tup xs => xs.length <= sizeLine /\ ∃ its : List Value, Vals xs its /\ IsTup h a its.toArray
 | .dK kvs => kvs.length <= sizeLine /\ (a == sysModules) = false /\ ∃ vs, KV kvs vs /\ h.DictOf (Ah P w) a vs
 | .dT kvs => kvs.length <= sizeLine /\ (a == sysModules) = false /\ ∃ xs : List (List Key × Addr × Value),
   Paired (fun (p : List Key × V) (q : List Key × Addr × Value) => p.1 = q.1 /\ H q.2.1 = some (.tup (p.1.map kV)) /\ RelV p.2 q.2.2) kvs xs /\
   ∃ o es ep, h.get? a = some o /\ o.ExactDict /\ o.data = .dict es ep /\ es.toList = xs.map (entryOfKey (tupleKind (Ah P w))) /\ (xs.map (·.1)).Nodup
 | .set S n => h.SetOf (intKind P w) a S n
 | .ins C dx fs => H dx = some (.own a) /\ fs.length <= 1000 /\ dx ≠ a /\ h.get? a = some (W.instObj C dx) /\
   ∃ mA, h.Ns1 dx mA /\ (∀ f, RelO (fs.lookup f) (mA f)) /\ PySem.Within mA (fs.map (·.1))
 | .own _ => ∃ o, h.get? a = some o
 | .xd fs => ∃ mA, h.Ns1 a mA /\ ∀ f, RelO (fs.lookup f) (mA f)
 | .rng lo hi => ∃ t u v, h.get? a = some { cls := .type "range", data := .fields #[.int lo t, .int hi u, .int 1 v] }
 | .frz o u => h.get? a = some o /\ Ao H h a u
 | .tbl ps => h.get? a = some { cls := .none, data := .fields ps }
 | .met f x => h.get? a = some (W.methodObj (.ref f) (.ref x))
 | .ext φ => φ h /\ (∃ o, h.get? a = some o) /\ ∀ h1 h2 : Heap, φ h1 -> (∀ o, h1.get? a = some o -> h2.get? a = some o) -> φ h2
noncomputable def HOk (H : Hp) (h : Heap) : Prop := ∀ a o, H a = some o -> Ao P w H h a o
end
section
variable {P : Program} {w : World} {H H' : Hp} {h h' : Heap} {a : Addr} {o : HO}
theorem Ao.lt (x : Ao P w H h a o) : a < h.objs.size := by
 cases o with
 | lst xs => obtain ⟨_, _, _, _, e⟩ := x; exact Heap.lt_size e
 | tup xs => obtain ⟨_, _, _, p⟩ := x; exact p.lt
 | dK kvs => obtain ⟨_, _, _, _, o, _, _, e, _⟩ := x; exact Heap.lt_size e
 | dT kvs => obtain ⟨_, _, _, _, o, _, _, e, _⟩ := x; exact Heap.lt_size e
 | set S n => obtain ⟨o, _, _, _, e, _⟩ := x; exact Heap.lt_size e
 | ins C dx fs => obtain ⟨_, _, _, e, _⟩ := x; exact Heap.lt_size e
 | own y => obtain ⟨_, e⟩ := x; exact Heap.lt_size e
 | xd fs => obtain ⟨_, ⟨_, _, _, e, _⟩, _⟩ := x; exact Heap.lt_size e
 | rng lo hi => obtain ⟨_, _, _, e⟩ := x; exact Heap.lt_size e
 | frz ob u => obtain ⟨e, _⟩ := x; exact Heap.lt_size e
 | tbl ps => exact Heap.lt_size (show h.get? a = some _ from x)
 | met f y => exact Heap.lt_size (show h.get? a = some _ from x)
 | ext φ => obtain ⟨_, ⟨_, e⟩, _⟩ := x; exact Heap.lt_size e
theorem Paired.mapP {α β : Type} {F G : α -> β -> Prop} : ∀ {l₁ : List α} {l₂ : List β}, Paired F l₁ l₂ -> (∀ a b, F a b -> G a b) -> Paired G l₁ l₂
 | _, _, .nil, _ => .nil
 | _, _, .cons r t, f => .cons (f _ _ r) (Paired.mapP t f)
theorem Ao.stay (x : Ao P w H h a o) (k : ∀ b u, (b = a \/ H b = some (.own a)) -> h.get? b = some u -> h'.get? b = some u)
  (ho : ∀ b, H b = some (.own a) -> H' b = some (.own a)) (ht : ∀ b xs, H b = some (.tup xs) -> H' b = some (.tup xs)) : Ao P w H' h' a o := by
 induction o with
 | lst xs => obtain ⟨z, its, n, r, e⟩ := x; exact ⟨z, its, n, r, k _ _ (.inl rfl) e⟩
 | tup xs => obtain ⟨z, its, r, ob, e, c⟩ := x; exact ⟨z, its, r, ob, k _ _ (.inl rfl) e, c⟩
 | dK kvs => obtain ⟨z, y, vs, r, ob, es, ep, e, c⟩ := x; exact ⟨z, y, vs, r, ob, es, ep, k _ _ (.inl rfl) e, c⟩
 | dT kvs =>
  obtain ⟨z, y, xs, r, ob, es, ep, e, c⟩ := x
  exact ⟨z, y, xs, Paired.mapP r fun p q z => ⟨z.1, ht _ _ z.2.1, z.2.2⟩, ob, es, ep, k _ _ (.inl rfl) e, c⟩
 | set S n => obtain ⟨ob, es, ep, t, e, c⟩ := x; exact ⟨ob, es, ep, t, k _ _ (.inl rfl) e, c⟩
 | ins C dx fs =>
  obtain ⟨d, z, ne, e, mA, ⟨od, es, ep, e2, c⟩, r⟩ := x
  exact ⟨ho _ d, z, ne, k _ _ (.inl rfl) e, mA, ⟨od, es, ep, k _ _ (.inr d) e2, c⟩, r⟩
 | own y => obtain ⟨ob, e⟩ := x; exact ⟨ob, k _ _ (.inl rfl) e⟩
 | xd fs => obtain ⟨mA, ⟨od, es, ep, e, c⟩, r⟩ := x; exact ⟨mA, ⟨od, es, ep, k _ _ (.inl rfl) e, c⟩, r⟩
 | rng lo hi => obtain ⟨t, u, v, e⟩ := x; exact ⟨t, u, v, k _ _ (.inl rfl) e⟩
 | frz ob u ih => obtain ⟨e, q⟩ := x; exact ⟨k _ _ (.inl rfl) e, ih q⟩
 | tbl ps =>
  have e : h.get? a = some { cls := .none, data := .fields ps } := x
  show h'.get? a = some { cls := .none, data := .fields ps }
  exact k a _ (.inl rfl) e
 | met f y =>
  have e : h.get? a = some (W.methodObj (.ref f) (.ref y)) := x
  show h'.get? a = some (W.methodObj (.ref f) (.ref y))
  exact k a _ (.inl rfl) e
 | ext φ => obtain ⟨p, ⟨o, e⟩, st⟩ := x; exact ⟨st _ _ p fun o q => k _ _ (.inl rfl) q, ⟨o, k _ _ (.inl rfl) e⟩, st⟩
theorem HOk.lt (x : HOk P w H h) (e : H a = some o) : a < h.objs.size := (x a o e).lt
theorem HOk.fresh (x : HOk P w H h) (e : h.objs.size <= a) : H a = none := by
 cases q : H a with
 | none => rfl
 | some u => exact absurd (Nat.lt_of_lt_of_le (x.lt q) e) (Nat.lt_irrefl _)
theorem HOk.kept (x : HOk P w H h) (k : ∀ b u, h.get? b = some u -> h'.get? b = some u) : HOk P w H h' := fun a o e =>
 (x a o e).stay (fun b u _ q => k b u q) (fun _ q => q) fun _ _ q => q
theorem HOk.laid (x : HOk P w H h) (k : ∀ b u, h.get? b = some u -> h'.get? b = some u) (hp : h.objs.size <= a) (new : Ao P w (upd H a o) h' a o) : HOk P w (upd H a o) h' := fun b u e => by
 have hn := x.fresh hp
 by_cases hb : b = a
 ·subst hb; rw [aK] at e; cases e; exact new
 ·rw [av hb] at e
  exact (x b u e).stay (fun c v _ q => k c v q) (fun c q => by rw [av (aD q hn)]; exact q) fun c xs q => by rw [av (aD q hn)]; exact q
end
noncomputable def Rd (H : Hp) (a : Addr) (u : HO) : Prop := H a = some u \/ ∃ o, H a = some (.frz o u)
theorem Rd.of {H : Hp} {a : Addr} {u : HO} (h : H a = some u) : Rd H a u := .inl h
theorem Rd.ok {P : Program} {w : World} {H : Hp} {h : Heap} {a : Addr} {u : HO} (r : Rd H a u) (x : HOk P w H h) : Ao P w H h a u := by
 rcases r with r | ⟨o, r⟩
 ·exact x a u r
 ·obtain ⟨_, q⟩ := x a _ r
  exact q
noncomputable def Mut : Option HO -> Prop
 | some (.lst _) => True
 | some (.dK _) => True
 | some (.dT _) => True
 | some (.set _ _) => True
 | some (.ins _ _ _) => True
 | some (.ext _) => True
 | _ => False
section
variable {P : Program} {w : World} {H : Hp} {h h' : Heap} {x e : Addr} {o' : HO}
theorem HOk.write (ok : HOk P w H h) (mu : Mut (H x)) (he : e = x \/ H e = some (.own x)) (k : ∀ b u, b ≠ e -> h.get? b = some u -> h'.get? b = some u) (heo : ∃ u, h'.get? e = some u)
  (new : Ao P w (upd H x o') h' x o') : HOk P w (upd H x o') h' := fun b u q => by
 have nown : ∀ c y, H c = some (.own y) -> c ≠ x := fun c y r z => by subst z; rw [r] at mu; exact mu
 have ntup : ∀ c xs, H c = some (.tup xs) -> c ≠ x := fun c xs r z => by subst z; rw [r] at mu; exact mu
 by_cases hb : b = x
 ·subst hb; rw [aK] at q; cases q; exact new
 ·rw [av hb] at q
  by_cases hbe : b = e
  ·have q' : H b = some (.own x) := by
    rcases he with z | z
    ·exact absurd (hbe.trans z) hb
    ·rw [hbe]; exact z
   rw [q] at q'; cases q'
   obtain ⟨v, hv⟩ := heo
   exact ⟨v, by rw [hbe]; exact hv⟩
  ·refine (ok b u q).stay (fun c v hc r => k c v ?_ r) (fun c r => by rw [av (nown c b r)]; exact r) fun c xs r => by rw [av (ntup c xs r)]; exact r
   rcases hc with rfl | hc
   ·exact hbe
   ·rintro rfl
    rcases he with z | z
    ·exact nown c b hc z
    ·rw [hc] at z; cases z; exact hb rfl
end
structure Un (fs ex : List Addr) (H H' : Hp) (h h' : Heap) : Prop where
 keep : ∀ b o, h.get? b = some o -> H b = none -> b ∉ fs -> b ∉ ex -> h'.get? b = some o
 slot : ∀ b o, h.get? b = some o -> H b = none -> b ∈ fs -> b ∉ ex -> ∃ sl, h'.get? b = some { o with slots := sl }
 free : ∀ b o, h.get? b = some o -> H b = none -> b ∉ ex -> H' b = none
 there : ∀ b o, h.get? b = some o -> b ∉ ex -> ∃ o', h'.get? b = some o'
 tups : ∀ b xs, H b = some (.tup xs) -> H' b = some (.tup xs)
 frzs : ∀ b o u, H b = some (.frz o u) -> H' b = some (.frz o u)
 tbls : ∀ b ps, H b = some (.tbl ps) -> ∃ more, H' b = some (.tbl (ps ++ more))
section
variable {fs fs' ex ex' : List Addr} {H H1 H2 : Hp} {h h1 h2 h' : Heap} {a x e : Addr} {o : HO}
theorem Un.any (u : Un fs ex H H1 h h1) {b : Addr} {ob : Obj} (q : h.get? b = some ob) (n : H b = none) (hx : b ∉ ex) : ∃ sl, h1.get? b = some { ob with slots := sl } := by
 by_cases hb : b ∈ fs
 ·exact u.slot b ob q n hb hx
 ·exact ⟨ob.slots, u.keep b ob q n hb hx⟩
theorem Un.trans (a : Un fs ex H H1 h h1) (b : Un fs ex H1 H2 h1 h2) : Un fs ex H H2 h h2 where
 keep := fun c ob q n hc hx => b.keep c ob (a.keep c ob q n hc hx) (a.free c ob q n hx) hc hx
 slot := fun c ob q n hc hx => by
  obtain ⟨sl, e1⟩ := a.slot c ob q n hc hx
  obtain ⟨sl', e2⟩ := b.slot c _ e1 (a.free c ob q n hx) hc hx
  exact ⟨sl', e2⟩
 free := fun c ob q n hx => by
  obtain ⟨o', e1⟩ := a.there c ob q hx
  exact b.free c o' e1 (a.free c ob q n hx) hx
 there := fun c ob q hx => by
  obtain ⟨o', e1⟩ := a.there c ob q hx
  exact b.there c o' e1 hx
 tups := fun c xs q => b.tups c xs (a.tups c xs q)
 frzs := fun c ob xs q => b.frzs c ob xs (a.frzs c ob xs q)
 tbls := fun c ps q => by
  obtain ⟨m1, e1⟩ := a.tbls c ps q
  obtain ⟨m2, e2⟩ := b.tbls c _ e1
  exact ⟨m1 ++ m2, by rw [e2, Array.append_assoc]⟩
theorem Un.kept (k : ∀ b u, h.get? b = some u -> h'.get? b = some u) : Un fs ex H H h h' :=
 ⟨fun b ob q _ _ _ => k b ob q, fun b ob q _ _ _ => ⟨ob.slots, k b ob q⟩, fun _ _ _ n _ => n, fun b ob q _ => ⟨ob, k b ob q⟩, fun _ _ q => q, fun _ _ _ q => q, fun _ ps q => ⟨#[], by rw [q]; simp⟩⟩
theorem Un.refl : Un fs ex H H h h := Un.kept fun _ _ q => q
theorem Un.laid (k : ∀ b u, h.get? b = some u -> h'.get? b = some u) (hp : h.objs.size <= a) (hn : H a = none) : Un fs ex H (upd H a o) h h' where
 keep := fun b u q _ _ _ => k b u q
 slot := fun b u q _ _ _ => ⟨u.slots, k b u q⟩
 free := fun b u q n _ => by rw [av (Nat.ne_of_lt (Nat.lt_of_lt_of_le (Heap.lt_size q) hp))]; exact n
 there := fun b u q _ => ⟨u, k b u q⟩
 tups := fun b xs q => by rw [av (aD q hn)]; exact q
 frzs := fun b u xs q => by rw [av (aD q hn)]; exact q
 tbls := fun b ps q => ⟨#[], by rw [av (aD q hn), q]; simp⟩
theorem Un.write (mu : Mut (H x)) (he : e = x \/ H e = some (.own x)) (k : ∀ b u, b ≠ e -> h.get? b = some u -> h'.get? b = some u) (heo : ∃ u, h'.get? e = some u) : Un fs ex H (upd H x o) h h' := by
 have hx : ∀ b, H b = none -> b ≠ x := fun b n z => by subst z; rw [n] at mu; exact mu
 have hb : ∀ b, H b = none -> b ≠ e := fun b n z => by
  subst z
  rcases he with r | r
  ·exact hx b n r
  ·rw [n] at r; cases r
 have hm : ∀ b u, H b = some u -> ¬ Mut (some u) -> b ≠ x := fun b u q nm z => by subst z; rw [q] at mu; exact nm mu
 refine ⟨fun b u q n _ _ => k b u (hb b n) q, fun b u q n _ _ => ⟨u.slots, k b u (hb b n) q⟩, fun b u q n _ => by rw [av (hx b n)]; exact n, fun b u q _ => ?_,
  fun b xs q => by rw [av (hm b _ q fun z => z)]; exact q, fun b u xs q => by rw [av (hm b _ q fun z => z)]; exact q, fun b ps q => ⟨#[], by rw [av (hm b _ q fun z => z), q]; simp⟩⟩
 by_cases hbe : b = e
 ·subst hbe; exact heo
 ·exact ⟨u, k b u hbe q⟩
theorem Un.mono (u : Un fs ex H H1 h h1) (hs : ∀ b ∈ fs, b ∈ fs') (hx : ∀ b ∈ ex, b ∈ ex') : Un fs' ex' H H1 h h1 :=
 ⟨fun b ob q n hb he => u.keep b ob q n (fun z => hb (hs b z)) fun z => he (hx b z), fun _ _ q n _ he => u.any q n fun z => he (hx _ z), fun b ob q n he => u.free b ob q n fun z => he (hx b z), fun b ob q he => u.there b ob q fun z => he (hx b z), u.tups, u.frzs, u.tbls⟩
end
noncomputable def trk (h : Heap) (H : Hp) : List Addr := (List.range h.objs.size).filter fun a => (H a).isSome
noncomputable def hidT (h : Heap) (H : Hp) : Heap := W.hideAll h (trk h H)
theorem oz (h : Heap) (H : Hp) : (hidT h H).objs.size = h.objs.size := W.hideAll_size _ _
theorem pF {h : Heap} {H : Hp} {b : Addr} {o : Obj} (e : h.get? b = some o) (n : H b = none) : (hidT h H).get? b = some o :=
 W.hideAll_get _ e fun hm => by
  have q : (H b).isSome = true := (List.mem_filter.mp hm).2
  rw [n] at q; simp at q
theorem rn {h : Heap} {H : Hp} {b : Addr} {o : Obj} (e : (hidT h H).get? b = some o) : h.get? b = some o /\ H b = none := by
 have e' : h.get? b = some o := W.of_hideAll (trk h H) e
 refine ⟨e', ?_⟩
 cases q : H b with
 | none => rfl
 | some x =>
  have hm : b ∈ trk h H := List.mem_filter.mpr ⟨List.mem_range.mpr (Heap.lt_size e'), by simp [q]⟩
  have z : (hidT h H).get? b = none := W.hideAll_none (trk h H) hm
  rw [z] at e; cases e
noncomputable def C5 (g h : Heap) (L : Addr) : A6 := (List.range h.objs.size).filterMap fun a => if a = L \/ (g.get? a).isSome = true then none else (h.get? a).map fun o => (a, o)
noncomputable def rest (g h : Heap) (L d : Addr) : A6 := (C5 g h L).filter fun p => decide (p.1 ≠ d)
structure Mod (K : W.Frag) (mg : A5) (base : Heap) : Prop where
 kin : K.In base
 glob : base.Ns mainGlobals mg
 blt : ∃ mb, base.Ns builtinsNs mb /\ ∀ x : Str, x ≠ "__name__" -> mb x = bootBuiltins x
 nolimit : base.NoLimit
structure Cx where
 prog : Program
 w : World
 K : W.Frag
 mg : Str -> Option Value
 base : Heap
 A : Around
 N : List Str
 s₀ : Shared
 H₀ : Hp
 env : Env
 outer : List Env
 stack : List Env
 ex : List Addr
 fn : Str -> Bool
 calm : Bool
 pn : A6
 xe : Value -> Shared -> Prop
def frs (l : List Env) : List Addr := l.filterMap (·.frame)
abbrev Cx.fs (X : Cx) : List Addr := frs X.outer
noncomputable def Vis (sc : Scope) (x : Str) : Prop := sc.names.lookup x = some .local \/ sc.names.lookup x = some .cell \/ sc.names.lookup x = some .free
noncomputable def Loc (sc : Scope) (x : Str) : Prop := sc.names.lookup x = some .local \/ sc.names.lookup x = some .cell
noncomputable def Look (env : Env) (h : Heap) (m : A5) (x : Str) (u : Value) : Prop :=
 (env.kindOf x = some .local /\ m x = some u) \/ ((env.kindOf x = some .cell \/ env.kindOf x = some .free) /\ ∃ c, env.cells.lookup x = some c /\ h.IsCell c (some u))
structure Cx.Ok (X : Cx) : Prop where
 mod : Mod X.K X.mg X.base
 kind : X.env.scope.kind = .function
 glob : X.env.globals = mainGlobals
 blt : X.env.builtins = builtinsNs
 above : X.s₀.heap.objs.size <= X.env.locals
 inj : ∀ x y c, X.env.cells.lookup x = some c -> X.env.cells.lookup y = some c -> x = y
 has : ∀ x, (X.env.kindOf x = some .cell \/ X.env.kindOf x = some .free) -> ∃ c, X.env.cells.lookup x = some c
 cab : ∀ x c, X.fn x = true -> X.env.cells.lookup x = some c -> X.s₀.heap.objs.size <= c
 hd : X.calm = true -> X.A.handled = none
 frames : X.A.frames = some X.stack
 stk : X.stack = X.outer \/ (X.stack = X.env :: X.outer /\ X.env.frame = some X.env.locals)
 exf : ∀ b ∈ X.ex, b ≠ X.env.locals /\ ∀ x c, X.env.cells.lookup x = some c -> c ≠ b
 bs : ∀ b o, X.base.get? b = some o -> X.s₀.heap.get? b = some o /\ X.H₀ b = none
 bsz : X.base.objs.size <= X.s₀.heap.objs.size
 noex : ∀ b o, X.base.get? b = some o -> b ∉ X.ex
 exfs : ∀ b ∈ X.ex, b ∉ X.fs
 funs : X.s₀.heap.FunFrames X.base X.outer
 frf : ∀ b ∈ X.fs, X.H₀ b = none
structure Inv (X : Cx) (pins : A6) (σ : List (Option V)) (H : Hp) (s : Shared) : Prop where
 ok : X.Ok
 os : s.os = X.s₀.os
 bare : AllBare s.gens
 base : Un X.fs X.ex X.H₀ H X.s₀.heap s.heap
 loc : ∃ m, s.heap.Ns X.env.locals m /\ ∀ (i : Nat) (x : Str) (v : V), X.N[i]? = some x -> σ[i]? = some (some v) -> Vis X.env.scope x -> ∃ u, RelV v u /\ Look X.env s.heap m x u
 cell : ∀ x c, X.env.cells.lookup x = some c -> ∃ v, s.heap.IsCell c v
 free : H X.env.locals = none
 freeC : ∀ x c, X.env.cells.lookup x = some c -> H c = none
 pin : ∀ p ∈ X.pn ++ pins, s.heap.get? p.1 = some p.2 /\ H p.1 = none /\ p.1 ≠ X.env.locals /\ p.1 ∉ X.fs /\ ∀ v, p.2.data ≠ .cell v
 hok : HOk X.prog X.w H s.heap
 len : σ.length = X.N.length
section
variable {X : Cx} {pins : A6} {σ : List (Option V)} {H H' : Hp} {s : Shared} {h' : Heap}
theorem Cx.Ok.nofr (ok : X.Ok) {b : Addr} {o : Obj} (e : X.base.get? b = some o) : b ∉ X.fs := fun hb => by
 have := (ok.funs.mem hb).1
 rw [e] at this; cases this
theorem Inv.bs (I : Inv X pins σ H s) : ∀ b o, X.base.get? b = some o -> s.heap.get? b = some o /\ H b = none := fun b o e =>
 ⟨I.base.keep b o (I.ok.bs b o e).1 (I.ok.bs b o e).2 (I.ok.nofr e) (I.ok.noex b o e), I.base.free b o (I.ok.bs b o e).1 (I.ok.bs b o e).2 (I.ok.noex b o e)⟩
theorem Inv.bk (I : Inv X pins σ H s) : ∀ b o, X.base.get? b = some o -> s.heap.get? b = some o := fun b o e => (I.bs b o e).1
theorem Inv.mod (I : Inv X pins σ H s) : Mod X.K X.mg X.base := I.ok.mod
theorem Inv.kIn (I : Inv X pins σ H s) : X.K.In s.heap := I.ok.mod.kin.keeps I.bk
theorem Inv.fr (I : Inv X pins σ H s) : ∃ m, Fr X.base X.env.locals s.heap m :=
 let ⟨m, hn, _⟩ := I.loc
 ⟨m, hn, I.bk, Nat.le_trans I.ok.bsz I.ok.above⟩
theorem Inv.lt (I : Inv X pins σ H s) : X.env.locals < s.heap.objs.size := let ⟨_, hn, _⟩ := I.loc; hn.lt
theorem Inv.sz (I : Inv X pins σ H s) : X.s₀.heap.objs.size <= s.heap.objs.size := Nat.le_trans I.ok.above (Nat.le_of_lt I.lt)
theorem Inv.nofs (I : Inv X pins σ H s) {a : Addr} (h : s.heap.objs.size <= a) : a ∉ X.fs := fun hb => by
 obtain ⟨_, o, ho, _⟩ := I.ok.funs.mem hb
 exact absurd (Nat.lt_of_lt_of_le (Heap.lt_size ho) (Nat.le_trans I.sz h)) (Nat.lt_irrefl _)
theorem Inv.cne (I : Inv X pins σ H s) : ∀ x c, X.env.cells.lookup x = some c -> c ≠ X.env.locals := fun x c e z => by
 obtain ⟨v, o, ho, hd⟩ := I.cell x c e
 obtain ⟨m, ⟨o', es, ep, ho', hd', _⟩, _⟩ := I.loc
 rw [z, ho'] at ho; cases ho; rw [hd'] at hd; cases hd
theorem Inv.funs (I : Inv X pins σ H s) : s.heap.FunFrames X.base X.outer := by
 have all : ∀ (l : List Env), (∀ b ∈ frs l, b ∈ X.fs) -> X.s₀.heap.FunFrames X.base l -> s.heap.FunFrames X.base l := by
  intro l
  induction l with
  | nil => intro _ _; trivial
  | cons env r ih =>
   intro hs hl
   obtain ⟨hk, ⟨L, o, hf, hn, ho, hd⟩, hr⟩ := hl
   have hL : L ∈ X.fs := hs L (by unfold frs; rw [List.filterMap_cons, hf]; exact List.mem_cons_self)
   obtain ⟨sl, e⟩ := I.base.slot L o ho (I.ok.frf L hL) hL fun z => I.ok.exfs L z hL
   exact ⟨hk, ⟨L, _, hf, hn, e, hd⟩, ih (fun b hb => hs b (by unfold frs; rw [List.filterMap_cons, hf]; exact List.mem_cons_of_mem _ hb)) hr⟩
 exact all X.outer (fun _ hb => hb) I.ok.funs
theorem Inv.stack (I : Inv X pins σ H s) : s.heap.FunFrames X.base X.stack := by
 rcases I.ok.stk with e | ⟨e, hf⟩
 ·rw [e]; exact I.funs
 ·rw [e]
  obtain ⟨m, hn, _⟩ := I.loc
  refine .cons (by rw [I.ok.kind]; decide) hf hn ?_ I.funs
  exact Heap.get?_none_of_le (Nat.le_trans I.ok.bsz I.ok.above)
theorem Inv.stkSub (I : Inv X pins σ H s) : ∀ b ∈ frs X.stack, b ∈ X.env.locals :: X.fs := fun b hb => by
 rcases I.ok.stk with e | ⟨e, hf⟩
 ·rw [e] at hb; exact List.mem_cons_of_mem _ hb
 ·rw [e] at hb
  unfold frs at hb
  rw [List.filterMap_cons, hf] at hb
  exact hb
theorem Inv.stkFree (I : Inv X pins σ H s) : ∀ b ∈ frs X.stack, H b = none := fun b hb => by
 rcases List.mem_cons.mp (I.stkSub b hb) with e | hb
 ·rw [e]; exact I.free
 ·obtain ⟨_, o, ho, _⟩ := I.ok.funs.mem hb
  exact I.base.free b o ho (I.ok.frf b hb) fun z => I.ok.exfs b z hb
theorem Inv.step {g' : Array GenState} {t' : Nat} {d' : Drawn} {ch : List Addr} (I : Inv X pins σ H s)
  (hch : ∀ b ∈ ch, (b ∈ X.ex \/ X.s₀.heap.objs.size <= b) /\ b ≠ X.env.locals /\ (∀ x c, X.env.cells.lookup x = some c -> c ≠ b) /\ ∀ p ∈ X.pn ++ pins, p.1 ≠ b)
  (keep : ∀ b o, b ≠ X.env.locals -> b ∉ X.fs -> b ∉ ch -> s.heap.get? b = some o -> H b = none -> h'.get? b = some o)
  (slot : ∀ b o, b ≠ X.env.locals -> b ∈ X.fs -> b ∉ ch -> s.heap.get? b = some o -> H b = none -> ∃ sl, h'.get? b = some { o with slots := sl }) (free : ∀ b o, b ∉ ch -> s.heap.get? b = some o -> H b = none -> H' b = none)
  (there : ∀ b o, b ∉ ch -> s.heap.get? b = some o -> ∃ o', h'.get? b = some o')
  (tups : ∀ b xs, H b = some (.tup xs) -> H' b = some (.tup xs)) (frzs : ∀ b o u, H b = some (.frz o u) -> H' b = some (.frz o u)) (tbls : ∀ b ps, H b = some (.tbl ps) -> ∃ more, H' b = some (.tbl (ps ++ more)))
  (ns : ∀ m, s.heap.Ns X.env.locals m -> h'.Ns X.env.locals m) (hok : HOk X.prog X.w H' h') (hg : AllBare g') :
  Inv X pins σ H' { s with heap := h', gens := g', drawn := d', toks := t' } := by
 have neL : ∀ b o, X.s₀.heap.get? b = some o -> b ≠ X.env.locals := fun b o e => Nat.ne_of_lt (Nat.lt_of_lt_of_le (Heap.lt_size e) I.ok.above)
 have neC : ∀ b o, X.s₀.heap.get? b = some o -> b ∉ X.ex -> b ∉ ch := fun b o e hx hb => by
  rcases (hch b hb).1 with z | z
  ·exact hx z
  ·exact absurd (Nat.lt_of_lt_of_le (Heap.lt_size e) z) (Nat.lt_irrefl _)
 have cellK : ∀ x c, X.env.cells.lookup x = some c -> ∀ v, s.heap.IsCell c v -> h'.IsCell c v := fun x c e v ⟨o, ho, hd⟩ => by
  have nch : c ∉ ch := fun z => (hch c z).2.2.1 x c e rfl
  by_cases hc : c ∈ X.fs
  ·obtain ⟨sl, q⟩ := slot c o (I.cne x c e) hc nch ho (I.freeC x c e)
   exact ⟨_, q, hd⟩
  ·exact ⟨o, keep c o (I.cne x c e) hc nch ho (I.freeC x c e), hd⟩
 refine ⟨I.ok, I.os, hg, ⟨fun b o e n hb hx => ?_, fun b o e n hb hx => ?_, fun b o e n hx => ?_, fun b o e hx => ?_, fun b xs e => tups b xs (I.base.tups b xs e), fun b o xs e => frzs b o xs (I.base.frzs b o xs e), fun b ps e => ?_⟩, ?_, fun x c e => ?_, ?_, fun x c e => ?_, fun p hp => ?_, hok, I.len⟩
 ·exact keep b o (neL b o e) hb (neC b o e hx) (I.base.keep b o e n hb hx) (I.base.free b o e n hx)
 ·obtain ⟨sl, e1⟩ := I.base.slot b o e n hb hx
  obtain ⟨sl', e2⟩ := slot b _ (neL b o e) hb (neC b o e hx) e1 (I.base.free b o e n hx)
  exact ⟨sl', e2⟩
 ·obtain ⟨o', e1⟩ := I.base.there b o e hx
  exact free b o' (neC b o e hx) e1 (I.base.free b o e n hx)
 ·obtain ⟨o', e1⟩ := I.base.there b o e hx
  exact there b o' (neC b o e hx) e1
 ·obtain ⟨m1, e1⟩ := I.base.tbls b ps e
  obtain ⟨m2, e2⟩ := tbls b _ e1
  exact ⟨m1 ++ m2, by rw [e2, Array.append_assoc]⟩
 ·obtain ⟨m, hn, hl⟩ := I.loc
  refine ⟨m, ns m hn, fun i x v e1 e2 e3 => ?_⟩
  obtain ⟨u, r, l⟩ := hl i x v e1 e2 e3
  refine ⟨u, r, ?_⟩
  rcases l with l | ⟨k, c, e, z⟩
  ·exact .inl l
  ·exact .inr ⟨k, c, e, cellK x c e _ z⟩
 ·obtain ⟨v, z⟩ := I.cell x c e
  exact ⟨v, cellK x c e v z⟩
 ·obtain ⟨m, ⟨o, _, _, ho, _⟩, _⟩ := I.loc
  exact free _ o (fun z => (hch _ z).2.1 rfl) ho I.free
 ·obtain ⟨v, o, ho, hd⟩ := I.cell x c e
  exact free c o (fun z => (hch c z).2.2.1 x c e rfl) ho (I.freeC x c e)
 ·obtain ⟨e, n, ne, nf, d⟩ := I.pin p hp
  have nch : p.1 ∉ ch := fun z => (hch p.1 z).2.2.2 p hp rfl
  exact ⟨keep p.1 p.2 ne nf nch e n, free p.1 p.2 nch e n, ne, nf, d⟩
theorem Inv.un {t' : Nat} (I : Inv X pins σ H s) (u : Un X.fs [] H H' s.heap h') (hok : HOk X.prog X.w H' h') : Inv X pins σ H' { s with heap := h', toks := t' } := by
 obtain ⟨m, ⟨o, es, ep, ho, r⟩, _⟩ := id I.loc
 obtain ⟨sl, hL⟩ := u.any ho I.free (by simp)
 exact I.step (g' := s.gens) (d' := s.drawn) (ch := []) (fun _ z => nomatch z) (fun b o _ hb _ e n => u.keep b o e n hb (by simp)) (fun b o _ hb _ e n => u.slot b o e n hb (by simp)) (fun b o _ e n => u.free b o e n (by simp)) (fun b o _ e => u.there b o e (by simp)) u.tups u.frzs u.tbls (fun m' hm => by
  obtain ⟨o', es', ep', ho', r'⟩ := hm
  rw [ho] at ho'; cases ho'
  exact ⟨_, es', ep', hL, r'⟩) hok I.bare
theorem Inv.call {g' : Array GenState} {t' : Nat} {d' : Drawn} {ch : List Addr} (I : Inv X pins σ H s) (u : Un (frs X.stack) ch H H' s.heap h') (hok : HOk X.prog X.w H' h') (hg : AllBare g')
  (hch : ∀ b ∈ ch, (b ∈ X.ex \/ X.s₀.heap.objs.size <= b) /\ b ≠ X.env.locals /\ (∀ x c, X.env.cells.lookup x = some c -> c ≠ b) /\ ∀ p ∈ X.pn ++ pins, p.1 ≠ b) :
  Inv X pins σ H' { s with heap := h', gens := g', drawn := d', toks := t' } := by
 obtain ⟨m, ⟨o, es, ep, ho, r⟩, _⟩ := id I.loc
 obtain ⟨sl, hL⟩ := u.any ho I.free fun z => (hch _ z).2.1 rfl
 exact I.step (ch := ch) hch (fun b o hL hb hc e n => u.keep b o e n (fun z => (List.mem_cons.mp (I.stkSub b z)).elim hL hb) hc) (fun b o _ _ hc e n => u.any e n hc) (fun b o hc e n => u.free b o e n hc) (fun b o hc e => u.there b o e hc) u.tups u.frzs u.tbls (fun m' hm => by
  obtain ⟨o', es', ep', ho', r'⟩ := hm
  rw [ho] at ho'; cases ho'
  exact ⟨_, es', ep', hL, r'⟩) hok hg
theorem Inv.turned {t' : Nat} {it : Addr} (I : Inv X pins σ H s) (k : ∀ b o, b ≠ it -> s.heap.get? b = some o -> h'.get? b = some o) (hn : H it = none) (hL : it ≠ X.env.locals)
  (h1 : it ∈ X.ex \/ X.s₀.heap.objs.size <= it) (h2 : ∀ x c, X.env.cells.lookup x = some c -> c ≠ it) (h3 : ∀ p ∈ X.pn ++ pins, p.1 ≠ it) : Inv X pins σ H { s with heap := h', toks := t' } := by
 have nit : ∀ b u, H b = some u -> b ≠ it := fun b u e z => by rw [z, hn] at e; cases e
 refine I.step (g' := s.gens) (d' := s.drawn) (ch := [it]) (fun b hb => ?_) (fun b o _ _ hc e _ => k b o (fun z => hc (by simp [z])) e) (fun b o _ _ hc e _ => ⟨o.slots, k b o (fun z => hc (by simp [z])) e⟩) (fun _ _ _ _ n => n)
  (fun b o hc e => ⟨o, k b o (fun z => hc (by simp [z])) e⟩) (fun _ _ e => e) (fun _ _ _ e => e) (fun b ps e => ⟨#[], by rw [e]; simp⟩) (fun m hm => ?_) (fun b u e => ?_) I.bare
 ·have e : b = it := by simpa using hb
  subst e
  exact ⟨h1, hL, h2, h3⟩
 ·obtain ⟨o, es, ep, ho, r⟩ := hm
  exact ⟨o, es, ep, k _ o (Ne.symm hL) ho, r⟩
 ·refine (I.hok b u e).stay (fun c v hc q => k c v ?_ q) (fun _ q => q) fun _ _ q => q
  rcases hc with z | z
  ·rw [z]; exact nit b u e
  ·exact nit c _ z
theorem Inv.tok (I : Inv X pins σ H s) (t : Nat) : Inv X pins σ H { s with toks := t } := I.un (h' := s.heap) (t' := t) Un.refl I.hok
theorem Inv.kept {t' : Nat} (I : Inv X pins σ H s) (k : ∀ b u, s.heap.get? b = some u -> h'.get? b = some u) : Inv X pins σ H { s with heap := h', toks := t' } := I.un (Un.kept k) (I.hok.kept k)
theorem Inv.laid {a : Addr} {o : HO} {t' : Nat} (I : Inv X pins σ H s) (k : ∀ b u, s.heap.get? b = some u -> h'.get? b = some u) (hp : s.heap.objs.size <= a) (new : Ao X.prog X.w (upd H a o) h' a o) :
  Inv X pins σ (upd H a o) { s with heap := h', toks := t' } := I.un (Un.laid k hp (I.hok.fresh hp)) (I.hok.laid k hp new)
theorem Inv.write {x e : Addr} {o : HO} {t' : Nat} (I : Inv X pins σ H s) (mu : Mut (H x)) (he : e = x \/ H e = some (.own x)) (k : ∀ b u, b ≠ e -> s.heap.get? b = some u -> h'.get? b = some u) (heo : ∃ u, h'.get? e = some u)
  (new : Ao X.prog X.w (upd H x o) h' x o) : Inv X pins σ (upd H x o) { s with heap := h', toks := t' } := I.un (Un.write mu he k heo) (I.hok.write mu he k heo new)
theorem Inv.weak {σ' : List (Option V)} (I : Inv X pins σ H s) (hl : σ'.length = σ.length) (w : ∀ (i : Nat) v, σ'[i]? = some (some v) -> σ[i]? = some (some v)) : Inv X pins σ' H s :=
 ⟨I.ok, I.os, I.bare, I.base, let ⟨m, hn, hl'⟩ := I.loc; ⟨m, hn, fun i x v e1 e2 e3 => hl' i x v e1 (w i v e2) e3⟩, I.cell, I.free, I.freeC, I.pin, I.hok, hl.trans I.len⟩
theorem Inv.pins_of {pins' : A6} (I : Inv X pins σ H s) (h : ∀ p ∈ pins', s.heap.get? p.1 = some p.2 /\ H p.1 = none /\ p.1 ≠ X.env.locals /\ p.1 ∉ X.fs /\ ∀ v, p.2.data ≠ .cell v) : Inv X pins' σ H s :=
 ⟨I.ok, I.os, I.bare, I.base, I.loc, I.cell, I.free, I.freeC, fun p hp => (List.mem_append.mp hp).elim (fun z => I.pin p (List.mem_append_left _ z)) (h p), I.hok, I.len⟩
theorem iN {N : List Str} (hN : N.Nodup) {i j : Nat} {x : Str} (a : N[i]? = some x) (b : N[j]? = some x) : i = j := by
 obtain ⟨h1, e1⟩ := List.getElem?_eq_some_iff.mp a
 obtain ⟨h2, e2⟩ := List.getElem?_eq_some_iff.mp b
 exact (List.getElem_inj hN).mp (e1.trans e2.symm)
theorem jA {M : Model} {A : Around} {E : A8} {i : Nat} {x : Str} {v : V} {u : Value} {Q : Unit -> Shared -> Prop} (I : Inv X pins σ H s) (hN : X.N.Nodup) (hi : X.N[i]? = some x) (hx : Loc X.env.scope x) (r : RelV v u)
  (h : ∀ s', Inv X pins (σ.set i (some v)) H s' -> (∃ a, Heap.SameBut a s.heap s'.heap /\ (a = X.env.locals \/ X.env.cells.lookup x = some a)) -> Q () s') (hf : X.fn x = true \/ X.env.scope.names.lookup x = some .local := by first | exact .inl rfl | exact .inr rfl | assumption) : wpAny M A (storeName X.env x u) Q E s := by
 obtain ⟨m, hn, hl⟩ := id I.loc
 have hcls : (X.env.scope.kind == .class || (X.env.scope.kind == .module && X.env.locals != X.env.globals)) = false := by rw [I.ok.kind]; rfl
 have hiσ : i < σ.length := by rw [I.len]; exact (List.getElem?_eq_some_iff.mp hi).1
 have cne := I.cne
 have tracked : ∀ {a : Addr} {h' : Heap}, (∃ o, s.heap.get? a = some o /\ H a = none) -> Heap.SameBut a s.heap h' -> HOk X.prog X.w H h' := fun {a h'} ha hs b ob e => by
  obtain ⟨_, _, hfree⟩ := ha
  refine (I.hok b ob e).stay (fun c w' hc q => (hs.2 c ?_).trans q) (fun _ q => q) fun _ _ q => q
  rintro rfl
  rcases hc with rfl | hc
  ·rw [hfree] at e; cases e
  ·rw [hfree] at hc; cases hc
 rcases hx with hk | hk
 ·refine wpAny_storeName_local hk hn (fun h' hn' hs => ?_) hcls
  obtain ⟨oL, _, _, hoL, _⟩ := id hn
  refine h _ ⟨I.ok, I.os, I.bare, ⟨fun b o e n hb hx => ?_, fun b o e n hb hx => ?_, I.base.free, fun b o e hx => ?_, I.base.tups, I.base.frzs, I.base.tbls⟩, ⟨_, hn', fun j y v' e1 e2 e3 => ?_⟩, fun y c e => ?_, I.free, I.freeC, fun p hp => ?_, tracked ⟨oL, hoL, I.free⟩ hs, by simpa using I.len⟩ ⟨_, hs, .inl rfl⟩
  ·exact (hs.2 b (Nat.ne_of_lt (Nat.lt_of_lt_of_le (Heap.lt_size e) I.ok.above))).trans (I.base.keep b o e n hb hx)
  ·obtain ⟨sl, e1⟩ := I.base.slot b o e n hb hx
   exact ⟨sl, (hs.2 b (Nat.ne_of_lt (Nat.lt_of_lt_of_le (Heap.lt_size e) I.ok.above))).trans e1⟩
  ·obtain ⟨o', e1⟩ := I.base.there b o e hx
   exact ⟨o', (hs.2 b (Nat.ne_of_lt (Nat.lt_of_lt_of_le (Heap.lt_size e) I.ok.above))).trans e1⟩
  ·by_cases hj : j = i
   ·subst hj
    rw [hi] at e1; cases e1
    rw [List.getElem?_set_self hiσ] at e2
    cases e2
    exact ⟨u, r, .inl ⟨hk, by simp⟩⟩
   ·rw [List.getElem?_set_ne (Ne.symm hj)] at e2
    obtain ⟨u', r', q⟩ := hl j y v' e1 e2 e3
    refine ⟨u', r', ?_⟩
    rcases q with ⟨k, e⟩ | ⟨k, c, e, z⟩
    ·refine .inl ⟨k, ?_⟩
     have : y ≠ x := fun e => hj (iN hN e1 (e ▸ hi))
     simp [this, e]
    ·exact .inr ⟨k, c, e, z.sameBut hs (cne y c e)⟩
  ·obtain ⟨w', z⟩ := I.cell y c e
   exact ⟨w', z.sameBut hs (cne y c e)⟩
  ·obtain ⟨e, n, ne, nf, d⟩ := I.pin p hp
   exact ⟨(hs.2 p.1 ne).trans e, n, ne, nf, d⟩
 ·have hfn : X.fn x = true := by
   rcases hf with z | z
   ·exact z
   ·rw [z] at hk; cases hk
  obtain ⟨c, hc⟩ := I.ok.has x (.inl hk)
  obtain ⟨w', z⟩ := I.cell x c hc
  refine wpAny_storeName_cell I.ok.kind hk hc z (fun h' hc' hs => ?_)
  obtain ⟨oc, hoc, hocd⟩ := id z
  refine h { s with heap := h' } ⟨I.ok, I.os, I.bare, ⟨fun b o e n hb hx => ?_, fun b o e n hb hx => ?_, I.base.free, fun b o e hx => ?_, I.base.tups, I.base.frzs, I.base.tbls⟩, ⟨m, hn.sameBut hs (Ne.symm (cne x c hc)), fun j y v' e1 e2 e3 => ?_⟩, fun y c' e => ?_, I.free, I.freeC, fun p hp => ?_, tracked ⟨oc, hoc, I.freeC x c hc⟩ hs, by simpa using I.len⟩ ⟨c, hs, .inr hc⟩
  ·exact (hs.2 b (Nat.ne_of_lt (Nat.lt_of_lt_of_le (Heap.lt_size e) (I.ok.cab x c hfn hc)))).trans (I.base.keep b o e n hb hx)
  ·obtain ⟨sl, e1⟩ := I.base.slot b o e n hb hx
   exact ⟨sl, (hs.2 b (Nat.ne_of_lt (Nat.lt_of_lt_of_le (Heap.lt_size e) (I.ok.cab x c hfn hc)))).trans e1⟩
  ·obtain ⟨o', e1⟩ := I.base.there b o e hx
   exact ⟨o', (hs.2 b (Nat.ne_of_lt (Nat.lt_of_lt_of_le (Heap.lt_size e) (I.ok.cab x c hfn hc)))).trans e1⟩
  ·by_cases hj : j = i
   ·subst hj
    rw [hi] at e1; cases e1
    rw [List.getElem?_set_self hiσ] at e2
    cases e2
    exact ⟨u, r, .inr ⟨.inl hk, c, hc, hc'⟩⟩
   ·rw [List.getElem?_set_ne (Ne.symm hj)] at e2
    obtain ⟨u', r', q⟩ := hl j y v' e1 e2 e3
    refine ⟨u', r', ?_⟩
    rcases q with q | ⟨k, c', e, z'⟩
    ·exact .inl q
    ·refine .inr ⟨k, c', e, z'.sameBut hs ?_⟩
     rintro rfl
     exact hj (iN hN e1 (I.ok.inj _ _ _ e hc ▸ hi))
  ·by_cases hcc : c' = c
   ·subst hcc; exact ⟨_, hc'⟩
   ·obtain ⟨w2, z2⟩ := I.cell y c' e
    exact ⟨w2, z2.sameBut hs hcc⟩
  ·obtain ⟨e, n, ne, nf, d⟩ := I.pin p hp
   refine ⟨(hs.2 p.1 ?_).trans e, n, ne, nf, d⟩
   intro q
   rw [q, hoc] at e
   have q' : oc = p.2 := Option.some.inj e
   exact d w' (by rw [<- q']; exact hocd)
theorem gq {M : Model} {A : Around} {E : A8} {i : Nat} {x : Str} {v : V} {u : Value} {Q : Unit -> Shared -> Prop} (I : Inv X pins σ H s) (hN : X.N.Nodup) (hi : X.N[i]? = some x) (hx : Loc X.env.scope x) (r : RelV v u)
  (h : ∀ s', Inv X pins (σ.set i (some v)) H s' -> Q () s') (hf : X.fn x = true \/ X.env.scope.names.lookup x = some .local := by first | exact .inl rfl | exact .inr rfl | assumption) : wpAny M A (storeName X.env x u) Q E s :=
 jA I hN hi hx r (fun s' I' _ => h s' I') hf
theorem Inv.call' {s' : Shared} {ch : List Addr} (I : Inv X pins σ H s) (ho : s'.os = s.os) (u : Un (frs X.stack) ch H H' s.heap s'.heap) (hok : HOk X.prog X.w H' s'.heap) (hg : AllBare s'.gens)
  (hch : ∀ b ∈ ch, (b ∈ X.ex \/ X.s₀.heap.objs.size <= b) /\ b ≠ X.env.locals /\ (∀ x c, X.env.cells.lookup x = some c -> c ≠ b) /\ ∀ p ∈ X.pn ++ pins, p.1 ≠ b) : Inv X pins σ H' s' := by
 obtain ⟨h', g', d', t', o'⟩ := s'
 have e : o' = s.os := ho
 subst e
 exact I.call (g' := g') (t' := t') (d' := d') u hok hg hch
end
abbrev XK := Value -> Option Addr -> Hp -> Prop
abbrev St := List (Option V)
abbrev VK := V -> Hp -> Prop
abbrev TE := St -> Hp -> VK -> Prop
abbrev TT := St -> Hp -> (Bool -> Hp -> Prop) -> Prop
abbrev TA := St -> Hp -> (List V -> Hp -> Prop) -> Prop
structure Ends where
 nx : St -> Hp -> Prop
 rt : VK
 bk : St -> Hp -> Prop := fun _ _ => False
 ct : St -> Hp -> Prop := fun _ _ => False
abbrev TS := Ends -> St -> Hp -> Prop
noncomputable def EP (X : Cx) (pins : A6) (σ : St) (Q : VK) (u : Value) (s' : Shared) : Prop := ∃ v H', Inv X pins σ H' s' /\ RelV v u /\ Q v H'
noncomputable def TP (X : Cx) (pins : A6) (σ : St) (Q : Bool -> Hp -> Prop) (b : Bool) (s' : Shared) : Prop := ∃ H', Inv X pins σ H' s' /\ Q b H'
noncomputable def AP (X : Cx) (pins : A6) (σ : St) (Q : List V -> Hp -> Prop) (us : List Value) (s' : Shared) : Prop := ∃ vs H', Inv X pins σ H' s' /\ Vals vs us /\ Q vs H'
noncomputable def SP (X : Cx) (pins : A6) (D : Ends) (f : Flow) (s' : Shared) : Prop :=
 match f with
 | .next => ∃ σ' H', Inv X pins σ' H' s' /\ D.nx σ' H'
 | .brk => ∃ σ' H', Inv X pins σ' H' s' /\ D.bk σ' H'
 | .cont => ∃ σ' H', Inv X pins σ' H' s' /\ D.ct σ' H'
 | .ret u => ∃ v σ' H', Inv X pins σ' H' s' /\ RelV v u /\ D.rt v H'
noncomputable def PE (X : Cx) (e : Expr) (t : TE) : Prop :=
 ∀ (pins : A6) (s : Shared) (σ : St) (H : Hp) (Q : VK), Inv X pins σ H s -> t σ H Q -> wpAny (model X.prog X.w) X.A (eval e X.env) (EP X pins σ Q) X.xe s
noncomputable def PT (X : Cx) (e : Expr) (t : TT) : Prop :=
 ∀ (pins : A6) (s : Shared) (σ : St) (H : Hp) (Q : Bool -> Hp -> Prop), Inv X pins σ H s -> t σ H Q -> wpAny (model X.prog X.w) X.A (isTrue e X.env (eval e X.env)) (TP X pins σ Q) X.xe s
noncomputable def PW (X : Cx) (e : Expr) (t : TT) : Prop :=
 ∀ (whole : Sem Value) (pins : A6) (s : Shared) (σ : St) (H : Hp) (Q : Bool -> Hp -> Prop), Inv X pins σ H s -> t σ H Q -> wpAny (model X.prog X.w) X.A (isTrue e X.env whole) (TP X pins σ Q) X.xe s
theorem PW.pt {X : Cx} {e : Expr} {t : TT} (h : PW X e t) : PT X e t := h _
noncomputable def PA (X : Cx) (es : List Expr) (t : TA) : Prop :=
 ∀ (pos : Pos) (pins : A6) (s : Shared) (σ : St) (H : Hp) (Q : List V -> Hp -> Prop), Inv X pins σ H s -> t σ H Q -> wpAny (model X.prog X.w) X.A (spliced (backTo pos (starEach es X.env))) (AP X pins σ Q) X.xe s
noncomputable def PS (X : Cx) (st : Stmt) (t : TS) : Prop :=
 ∀ (pins : A6) (s : Shared) (σ : St) (H : Hp) (D : Ends), Inv X pins σ H s -> t D σ H -> wpAny (model X.prog X.w) X.A (exec st X.env) (SP X pins D) X.xe s
noncomputable def PSs (X : Cx) (st : List Stmt) (t : TS) : Prop :=
 ∀ (pins : A6) (s : Shared) (σ : St) (H : Hp) (D : Ends), Inv X pins σ H s -> t D σ H -> wpAny (model X.prog X.w) X.A (execs st X.env) (SP X pins D) X.xe s
theorem thn {α : Type} {t : Sem α} {Q Q' : α -> Shared -> Prop} {M : Model} {A : Around} {E : A8} {s : Shared} (h : wpAny M A t Q E s) (hQ : ∀ a s, Q a s -> Q' a s) : wpAny M A t Q' E s := wpAny_mono h hQ fun _ _ x => x
section
variable {X : Cx}
theorem bin {a b : Expr} {ta tb : TE} (ha : PE X a ta) (hb : PE X b tb) {pins : A6} {s : Shared} {σ : St} {H : Hp} {R : V -> V -> Hp -> Prop} (I : Inv X pins σ H s) (h : ta σ H fun x H1 => tb σ H1 fun y H2 => R x y H2)
  {α : Type} {Q : α -> Shared -> Prop} {f : Value -> Value -> Sem α}
  (hf : ∀ v u s2 x y H2, Inv X pins σ H2 s2 -> RelV x v -> RelV y u -> R x y H2 -> wpAny (model X.prog X.w) X.A (f v u) Q X.xe s2) :
  wpAny (model X.prog X.w) X.A (eval a X.env) (fun v s₁ => wpAny (model X.prog X.w) X.A (eval b X.env) (fun u s₂ => wpAny (model X.prog X.w) X.A (f v u) Q X.xe s₂) X.xe s₁) X.xe s := by
 refine thn (ha pins s σ H _ I h) fun v s1 ⟨x, H1, I1, r1, q1⟩ => ?_
 refine thn (hb pins s1 σ H1 _ I1 q1) fun u s2 ⟨y, H2, I2, r2, q2⟩ => ?_
 exact hf v u s2 x y H2 I2 r1 r2 q2
noncomputable def tVar (i : Nat) : TE := fun σ H Q => ∃ v, σ[i]? = some (some v) /\ Q v H
def tC (v : V) : TE := fun _ H Q => Q v H
theorem ft {i : Nat} {x : Str} {pos : Pos} (hN : X.N[i]? = some x) (hv : Vis X.env.scope x) (hd : (x == ("__debug__" : Str)) = false := by decide) (hcd : (x == ("__classdict__" : Str)) = false := by decide) : PE X (.Name x pos) (tVar i) := by
 intro pins s σ H Q I h
 obtain ⟨v, e, h⟩ := h
 obtain ⟨m, hn, hl⟩ := I.loc
 obtain ⟨u, r, l⟩ := hl i x v hN e hv
 have fin : EP X pins σ Q u s := ⟨v, H, I, r, h⟩
 rcases l with ⟨hk, hm⟩ | ⟨hk, c, hc, hcell⟩
 ·exact wpAny_Name (wpAny_loadName_local I.ok.kind hk hn hm fin) hd
 ·rcases hk with hk | hk
  ·exact wpAny_Name (wpAny_loadName_cell I.ok.kind hk hc hcell fin) hd
  ·exact wpAny_Name (wpAny_loadName_free I.ok.kind hk hc hcell fin hcd) hd
theorem uk {i j pos} : PE X (.Constant (.int i) j pos) (tC (.int i)) := fun _ _ _ H _ I h => wpAny_Constant_int ⟨.int i, H, I.tok _, ⟨_, rfl⟩, h⟩
theorem wW {b j pos} : PE X (.Constant (.bool b) j pos) (tC (.bl b)) := fun _ _ _ H _ I h => Constant_bool ⟨.bl b, H, I, rfl, h⟩
theorem mn {j pos} : PE X (.Constant .none j pos) (tC .non) := fun _ _ _ H _ I h => Constant_none ⟨.non, H, I, rfl, h⟩
theorem fZ {x j pos} : PE X (.Constant (.str x) j pos) (tC (.str x)) := fun _ _ _ H _ I h => Calls.Constant_str ⟨.str x, H, I.tok _, ⟨_, rfl⟩, h⟩
noncomputable def Gl (X : Cx) (x : Str) : Prop := X.env.kindOf x = some .globalImplicit
theorem dq {E : A8} {pins : A6} {s : Shared} {σ : St} {H : Hp} {x : Str} {u : Value} {pos : Pos} {Q : A8} (I : Inv X pins σ H s) (hg : Gl X x) (hm : X.mg x = some u) (h : Q u s)
  (hd : (x == ("__debug__" : Str)) = false := by decide) : wpAny (model X.prog X.w) X.A (eval (.Name x pos) X.env) Q E s :=
 Calls.Name_function_global I.ok.kind hg (Calls.loadGlobal_global (by rw [I.ok.glob]; exact I.mod.glob.keeps I.bk) hm h) hd
theorem iO {E : A8} {pins : A6} {s : Shared} {σ : St} {H : Hp} {x : Str} {u : Value} {pos : Pos} {Q : A8} (I : Inv X pins σ H s) (hg : Gl X x) (hm : X.mg x = none) (hv : bootBuiltins x = some u) (h : Q u s)
  (hn : x ≠ "__name__" := by decide) (hd : (x == ("__debug__" : Str)) = false := by decide) : wpAny (model X.prog X.w) X.A (eval (.Name x pos) X.env) Q E s := by
 obtain ⟨mb, h1, h2⟩ := I.mod.blt
 exact Calls.Name_function_global I.ok.kind hg (Calls.loadGlobal_builtin (by rw [I.ok.glob]; exact I.mod.glob.keeps I.bk) hm (by rw [I.ok.blt]; exact h1.keeps I.bk) ((h2 x hn).trans hv) h) hd
theorem nu {x : Str} {v : V} {u : Value} {pos : Pos} (hg : Gl X x) (hm : X.mg x = some u) (r : RelV v u) (hd : (x == ("__debug__" : Str)) = false := by decide) : PE X (.Name x pos) (tC v) :=
 fun _ _ _ H _ I h => dq I hg hm ⟨v, H, I, r, h⟩ hd
theorem ro {x : Str} {v : V} {u : Value} {pos : Pos} (hg : Gl X x) (hm : X.mg x = none) (hv : bootBuiltins x = some u) (r : RelV v u) (hn : x ≠ "__name__" := by decide) (hd : (x == ("__debug__" : Str)) = false := by decide) : PE X (.Name x pos) (tC v) :=
 fun _ _ _ H _ I h => iO I hg hm hv ⟨v, H, I, r, h⟩ hn hd
variable {a b : Expr} {ta tb : TE} {pos : Pos}
variable {tA tB' : TT} {rest : List Expr}
noncomputable def tAnd (t u : TT) : TT := fun σ H Q => t σ H fun c H1 => if c = true then u σ H1 Q else Q false H1
noncomputable def tOr (t u : TT) : TT := fun σ H Q => t σ H fun c H1 => if c = true then Q true H1 else u σ H1 Q
noncomputable def tNot (t : TT) : TT := fun σ H Q => t σ H fun c H1 => Q (!c) H1
theorem rq (ha : PT X a tA) : PW X (.BoolOp .And [a] pos) tA := by
 intro wh pins s σ H Q I h
 refine isTrue_and (thn (ha pins s σ H Q I h) fun c s1 e => ?_)
 cases c with
 | true => exact isTrue_and_nil e
 | false => exact e
theorem um (ha : PT X a tA) : PW X (.BoolOp .Or [a] pos) tA := by
 intro wh pins s σ H Q I h
 refine isTrue_or (thn (ha pins s σ H Q I h) fun c s1 e => ?_)
 cases c with
 | false => exact isTrue_or_nil e
 | true => exact e
theorem uo (ha : PT X a tA) (hb : PW X (.BoolOp .And (b :: rest) pos) tB') : PW X (.BoolOp .And (a :: b :: rest) pos) (tAnd tA tB') := by
 intro wh pins s σ H Q I h
 refine isTrue_and (thn (ha pins s σ H _ I h) fun c s1 ⟨H1, I1, q1⟩ => ?_)
 cases c with
 | true => exact hb wh pins s1 σ H1 Q I1 q1
 | false => exact ⟨H1, I1, q1⟩
theorem wX (ha : PT X a tA) (hb : PW X (.BoolOp .Or (b :: rest) pos) tB') : PW X (.BoolOp .Or (a :: b :: rest) pos) (tOr tA tB') := by
 intro wh pins s σ H Q I h
 refine isTrue_or (thn (ha pins s σ H _ I h) fun c s1 ⟨H1, I1, q1⟩ => ?_)
 cases c with
 | true => exact ⟨H1, I1, q1⟩
 | false => exact hb wh pins s1 σ H1 Q I1 q1
theorem uq (ha : PT X a tA) : PT X (.UnaryOp .Not a pos) (tNot tA) := by
 intro pins s σ H Q I h
 exact isTrue_not (ha pins s σ H (fun c H1 => Q (!c) H1) I h)
noncomputable def Cu (ta tb : TE) : TE := fun σ H Q => ta σ H fun x H1 => ∃ c, x = .bl c /\ if c = true then tb σ H1 Q else Q (.bl false) H1
noncomputable def tOrV (ta tb : TE) : TE := fun σ H Q => ta σ H fun x H1 => ∃ c, x = .bl c /\ if c = true then Q (.bl true) H1 else tb σ H1 Q
noncomputable def Cv (ta : TE) : TE := fun σ H Q => ta σ H fun x H1 => ∃ c, x = .bl c /\ Q (.bl (!c)) H1
theorem ur {op} {t : TE} (h : PE X a t) : PE X (.BoolOp op [a] pos) t := fun pins s σ H Q I hw => BoolOp_one (h pins s σ H Q I hw)
theorem uu (ha : PE X a ta) (hb : PE X (.BoolOp .And (b :: rest) pos) tb) : PE X (.BoolOp .And (a :: b :: rest) pos) (Cu ta tb) := by
 intro pins s σ H Q I h
 refine BoolOp_and (thn (ha pins s σ H _ I h) fun v s1 ⟨x, H1, I1, r1, q1⟩ => ?_)
 obtain ⟨c, rfl, q1⟩ := q1
 cases r1
 refine wpAny_truthy_bool ?_
 cases c with
 | true => exact hb pins s1 σ H1 Q I1 q1
 | false => exact ⟨.bl false, H1, I1, rfl, q1⟩
theorem wY (ha : PE X a ta) (hb : PE X (.BoolOp .Or (b :: rest) pos) tb) : PE X (.BoolOp .Or (a :: b :: rest) pos) (tOrV ta tb) := by
 intro pins s σ H Q I h
 refine BoolOp_or (thn (ha pins s σ H _ I h) fun v s1 ⟨x, H1, I1, r1, q1⟩ => ?_)
 obtain ⟨c, rfl, q1⟩ := q1
 cases r1
 refine wpAny_truthy_bool ?_
 cases c with
 | false => exact hb pins s1 σ H1 Q I1 q1
 | true => exact ⟨.bl true, H1, I1, rfl, q1⟩
theorem uw (ha : PE X a ta) : PE X (.UnaryOp .Not a pos) (Cv ta) := by
 intro pins s σ H Q I h
 refine UnaryOp_ (thn (ha pins s σ H _ I h) fun v s1 ⟨x, H1, I1, r1, q1⟩ => ?_)
 obtain ⟨c, rfl, q1⟩ := q1
 cases r1
 exact not_of (wpAny_truthy_bool ⟨.bl (!c), H1, I1, rfl, q1⟩)
end
noncomputable def SqL (K : W.Frag) (H : Hp) (a : Addr) (xs : List V) : Prop :=
 Rd H a (.lst xs) \/
  ∃ (o : Obj) (its : Array Value) (n : Nat), K.lookup a = some o /\ o.cls = .type "list" /\ o.dict = none /\ o.data = .seq its n /\ its.size <= sizeLine /\ Vals xs its.toList
noncomputable def SqT (K : W.Frag) (H : Hp) (a : Addr) (xs : List V) : Prop :=
 Rd H a (.tup xs) \/
  ∃ (o : Obj) (its : Array Value) (n : Nat), K.lookup a = some o /\ o.cls = .type "tuple" /\ o.data = .seq its n /\ its.size <= sizeLine /\ Vals xs its.toList
noncomputable def SqR (K : W.Frag) (H : Hp) (a : Addr) (xs : List V) : Prop :=
 Rd H a (.lst xs) \/ ∃ (its : Array Value) (n : Nat), K.lookup a = some { cls := .type "list", data := .seq its n } /\ its.size <= sizeLine /\ Vals xs its.toList
noncomputable def absV : Value -> Option V
 | .none => some .non
 | .bool b => some (.bl b)
 | .int i _ => some (.int i)
 | .str x _ => some (.str x)
 | .bytes b _ => some (.byt b)
 | .float b _ => some (.flt b)
 | .ref a => some (.ref a)
 | .type n => some (.ty n)
 | _ => none
theorem RelV.abs {x : V} {u : Value} (r : RelV x u) : absV u = some x := by
 cases x with
 | non => cases r; rfl
 | bl _ => cases r; rfl
 | int _ => obtain ⟨t, rfl⟩ := r; rfl
 | str _ => obtain ⟨t, rfl⟩ := r; rfl
 | byt _ => obtain ⟨t, rfl⟩ := r; rfl
 | flt _ => obtain ⟨t, rfl⟩ := r; rfl
 | ref _ => cases r; rfl
 | ty _ => cases r; rfl
theorem RelV.inj {x y : V} {u : Value} (r : RelV x u) (q : RelV y u) : x = y := Option.some.inj (r.abs.symm.trans q.abs)
theorem Vals.inj : ∀ {xs ys : List V} {us : List Value}, Vals xs us -> Vals ys us -> xs = ys
 | _, _, _, .nil, .nil => rfl
 | _, _, _, .cons r t, .cons r' t' => by rw [r.inj r', Vals.inj t t']
section
variable {X : Cx} {pins : A6} {σ : St} {H : Hp} {s : Shared} {a : Addr} {xs ys : List V}
theorem SqT.of {K : W.Frag} (h : H a = some (.tup xs)) : SqT K H a xs := .inl (.inl h)
theorem Inv.list (I : Inv X pins σ H s) (h : SqL X.K H a xs) : ∃ its : List Value, Vals xs its /\ PlainL s.heap a its.toArray /\ xs.length <= sizeLine := by
 rcases h with h | ⟨o, its, n, hk, hc, hd, hs, hz, r⟩
 ·obtain ⟨z, its, n, r, e⟩ := h.ok I.hok
  exact ⟨its, r, ⟨_, n, e, rfl, rfl, rfl⟩, z⟩
 ·refine ⟨its.toList, r, ⟨o, n, I.kIn a o hk, hc, hd, by simpa using hs⟩, ?_⟩
  have e := r.length
  simp only [Array.length_toList] at e
  lia
theorem Inv.tuple (I : Inv X pins σ H s) (h : SqT X.K H a xs) : ∃ its : List Value, Vals xs its /\ IsTup s.heap a its.toArray /\ xs.length <= sizeLine := by
 rcases h with h | ⟨o, its, n, hk, hc, hs, hz, r⟩
 ·obtain ⟨z, its, r, p⟩ := h.ok I.hok
  exact ⟨its, r, p, z⟩
 ·refine ⟨its.toList, r, ⟨o, I.kIn a o hk, hc, n, by simpa using hs⟩, ?_⟩
  have e := r.length
  simp only [Array.length_toList] at e
  lia
theorem Inv.list_inj (I : Inv X pins σ H s) (h : SqL X.K H a xs) (h' : SqL X.K H a ys) : xs = ys := by
 obtain ⟨its, r, ⟨o, n, e, _, _, d⟩, _⟩ := I.list h
 obtain ⟨its', r', ⟨o', n', e', _, _, d'⟩, _⟩ := I.list h'
 rw [e] at e'; cases e'
 rw [d] at d'
 injection d' with d1 _
 have : its = its' := by simpa using congrArg Array.toList d1
 subst this
 exact r.inj r'
theorem Inv.tuple_inj (I : Inv X pins σ H s) (h : SqT X.K H a xs) (h' : SqT X.K H a ys) : xs = ys := by
 obtain ⟨its, r, ⟨o, e, _, n, d⟩, _⟩ := I.tuple h
 obtain ⟨its', r', ⟨o', e', _, n', d'⟩, _⟩ := I.tuple h'
 rw [e] at e'; cases e'
 rw [d] at d'
 injection d' with d1 _
 have : its = its' := by simpa using congrArg Array.toList d1
 subst this
 exact r.inj r'
end
abbrev Cx.wish (X : Cx) (E : A8) : Cx := { X with xe := E }
abbrev Cx.nox (X : Cx) : Cx := X.wish fun _ _ => False
theorem Cx.Ok.wish {X : Cx} (ok : X.Ok) (E : A8) : (X.wish E).Ok :=
 ⟨ok.mod, ok.kind, ok.glob, ok.blt, ok.above, ok.inj, ok.has, ok.cab, ok.hd, ok.frames, ok.stk, ok.exf, ok.bs, ok.bsz, ok.noex, ok.exfs, ok.funs, ok.frf⟩
theorem Cx.Ok.unwish {X : Cx} {E : A8} (ok : (X.wish E).Ok) : X.Ok :=
 ⟨ok.mod, ok.kind, ok.glob, ok.blt, ok.above, ok.inj, ok.has, ok.cab, ok.hd, ok.frames, ok.stk, ok.exf, ok.bs, ok.bsz, ok.noex, ok.exfs, ok.funs, ok.frf⟩
section
variable {X : Cx} {pins : A6} {σ : St} {H : Hp} {s : Shared} {E : A8}
theorem Inv.wish (I : Inv X pins σ H s) (E : A8) : Inv (X.wish E) pins σ H s := ⟨I.ok.wish E, I.os, I.bare, I.base, I.loc, I.cell, I.free, I.freeC, I.pin, I.hok, I.len⟩
theorem Inv.unwish (I : Inv (X.wish E) pins σ H s) : Inv X pins σ H s := ⟨I.ok.unwish, I.os, I.bare, I.base, I.loc, I.cell, I.free, I.freeC, I.pin, I.hok, I.len⟩
end
section
variable {X : Cx} {st : Stmt} {rest : List Stmt} {t u : TS} {e : Expr} {te : TE} {pos : Pos}
def C7 : TS := fun D σ H => D.nx σ H
noncomputable def tSeq (t u : TS) : TS := fun D σ H => t { D with nx := u D } σ H
theorem nv : PSs X [] C7 := fun _ _ σ H _ I h => wpAny_execs_nil ⟨σ, H, I, h⟩
theorem dH (h1 : PS X st t) (h2 : PSs X rest u) : PSs X (st :: rest) (tSeq t u) := by
 intro pins s σ H D I h
 refine wpAny_execs_cons (thn (h1 pins s σ H { D with nx := u D } I h) fun f s1 q => ?_)
 cases f with
 | next =>
  obtain ⟨σ', H', I', q⟩ := q
  exact h2 pins s1 σ' H' D I' q
 | ret v => exact q
 | brk => exact q
 | cont => exact q
theorem rz (h1 : PS X st t) : PSs X [st] t := by
 intro pins s σ H D I h
 refine wpAny_execs_cons (thn (h1 pins s σ H D I h) fun f s1 q => ?_)
 cases f with
 | next => exact wpAny_execs_nil q
 | ret v => exact q
 | brk => exact q
 | cont => exact q
theorem Inv.quiet {pins : A6} {σ : St} {H : Hp} {s : Shared} (I : Inv X pins σ H s) : interactive X.env = false := by simp [interactive, I.ok.kind]
noncomputable def C8 (te : TE) : TS := fun D σ H => te σ H fun _ H1 => D.nx σ H1
theorem ny (he : PE X e te) (hs : swapsWith e none pos.line X.env = pure false := by rfl) : PS X (.Expr e pos) (C8 te) := by
 intro pins s σ H D I h
 exact wpAny_Expr_any (thn (he pins s σ H _ I h) fun v s1 ⟨x, H1, I1, r1, q1⟩ => ⟨σ, H1, I1, q1⟩) I.quiet hs
def tRet (te : TE) : TS := fun D σ H => te σ H D.rt
theorem pG (he : PE X e te) : PS X (.Return (some e) pos) (tRet te) := by
 intro pins s σ H D I h
 exact wpAny_Return_some (thn (he pins s σ H _ I h) fun v s1 ⟨x, H1, I1, r1, q1⟩ => ⟨x, σ, H1, I1, r1, q1⟩)
noncomputable def tIfS (c : TT) (t u : TS) : TS := fun D σ H => c σ H fun b H1 => if b = true then t D σ H1 else u D σ H1
theorem wZ {c : Expr} {a b : List Stmt} {tc : TT} (hc : PT X c tc) (ha : PSs X a t) (hb : PSs X b u) : PS X (.If c a b pos) (tIfS tc t u) := by
 intro pins s σ H D I h
 refine wpAny_If (thn (hc pins s σ H _ I h) fun d s1 ⟨H1, I1, q1⟩ => ?_)
 cases d with
 | true => exact ha pins s1 σ H1 D I1 q1
 | false => exact hb pins s1 σ H1 D I1 q1
end
abbrev TG := V -> St -> Hp -> (St -> Hp -> Prop) -> Prop
abbrev TGs := List V -> St -> Hp -> (St -> Hp -> Prop) -> Prop
noncomputable def PG (X : Cx) (target : Expr) (t : TG) : Prop :=
 ∀ (pins : A6) (s : Shared) (σ : St) (H : Hp) (v : V) (u : Value) (Q : St -> Hp -> Prop), Inv X pins σ H s -> RelV v u -> t v σ H Q ->
  wpAny (model X.prog X.w) X.A (assign target X.env u) (fun _ s' => ∃ σ' H', Inv X pins σ' H' s' /\ Q σ' H') X.xe s
noncomputable def PGs (X : Cx) (ts : List Expr) (t : TGs) : Prop :=
 ∀ (pins : A6) (s : Shared) (σ : St) (H : Hp) (vs : List V) (us : List Value) (Q : St -> Hp -> Prop), Inv X pins σ H s -> Vals vs us -> t vs σ H Q ->
  wpAny (model X.prog X.w) X.A (assignInOrder ((assignEach ts X.env).map (·.2)) us) (fun _ s' => ∃ σ' H', Inv X pins σ' H' s' /\ Q σ' H') X.xe s
abbrev TIp := V -> V -> Hp -> VK -> Prop
noncomputable def PIp (X : Cx) (op : Operator) (t : TIp) : Prop :=
 ∀ (pins : A6) (s : Shared) (σ : St) (H : Hp) (x y : V) (v u : Value) (Q : VK), Inv X pins σ H s -> RelV x v -> RelV y u -> t x y H Q ->
  wpAny (model X.prog X.w) X.A (inplaceOp op v u) (EP X pins σ Q) X.xe s
section
variable {X : Cx} {pos : Pos}
noncomputable def AC (i : Nat) : TG := fun v σ H Q => Q (σ.set i (some v)) H
theorem gu {i : Nat} {x : Str} (hN : X.N.Nodup) (hi : X.N[i]? = some x) (hx : Loc X.env.scope x) (hf : X.fn x = true \/ X.env.scope.names.lookup x = some .local := by first | exact .inl rfl | exact .inr rfl | assumption) : PG X (.Name x pos) (AC i) := by
 intro pins s σ H v u Q I r h
 exact wpAny_assign_Name (gq I hN hi hx r (fun s' I' => ⟨_, H, I', h⟩) hf)
def gNil : TGs := fun vs σ H Q => vs = [] /\ Q σ H
noncomputable def C9 (t : TG) (u : TGs) : TGs := fun vs σ H Q => ∃ v r, vs = v :: r /\ t v σ H fun σ' H' => u r σ' H' Q
theorem rA : PGs X [] gNil := by
 intro pins s σ H vs us Q I r h
 obtain ⟨e, h⟩ := h
 subst e
 cases r
 exact assignInOrder_nil ⟨σ, H, I, h⟩
theorem kY {e : Expr} {es : List Expr} {t : TG} {u : TGs} (h1 : PG X e t) (h2 : PGs X es u)
  (hs : (assignEach (e :: es) X.env).map (·.2) = assign e X.env :: (assignEach es X.env).map (·.2) := by rfl) : PGs X (e :: es) (C9 t u) := by
 intro pins s σ H vs us Q I r h
 obtain ⟨v, vr, e1, h⟩ := h
 subst e1
 cases r with
 | cons r rr =>
  rw [hs]
  refine assignInOrder_cons (thn (h1 pins s σ H _ _ _ I r h) fun _ s1 ⟨σ1, H1, I1, q1⟩ => ?_)
  exact h2 pins s1 σ1 H1 _ _ Q I1 rr q1
noncomputable def gTup (K : W.Frag) (n : Nat) (t : TGs) : TG := fun v σ H Q => ∃ a xs, v = .ref a /\ SqT K H a xs /\ xs.length = n /\ t xs σ H Q
theorem ux {es : List Expr} {k : Nat} {t : TGs} {n : Nat} (hc : X.calm = true) (h : PGs X es t)
  (hn : (assignEach es X.env).length = n := by rfl) (hst : (assignEach es X.env).findIdx? (·.1) = none := by rfl) : PG X (.Tuple es k pos) (gTup X.K n t) := by
 intro pins s σ H v u Q I r hw
 obtain ⟨a, xs, e1, hq, hl, hw⟩ := hw
 subst e1
 cases r
 obtain ⟨its, rv, ht, hz⟩ := I.tuple hq
 refine assign_Tuple_tuple (I.ok.hd hc) ht (by simp [hn, <- hl, rv.length]) hst fun h' hx => ?_
 have I1 : Inv X pins σ H { s with heap := h' } := I.kept (t' := s.toks) fun b o e => hx b o (Nat.ne_of_lt (Heap.lt_size e)) e
 exact h pins _ σ H xs _ Q I1 (by simpa using rv) hw
noncomputable def tAsg (te : TE) (g : TG) : TS := fun D σ H => te σ H fun x H1 => g x σ H1 D.nx
theorem pH {i : Nat} {x : Str} {e : Expr} {te : TE} {pos' : Pos} (hN : X.N.Nodup) (hi : X.N[i]? = some x) (hx : Loc X.env.scope x) (he : PE X e te) (hs : swapsWith e (some (.Name x pos')) pos.line X.env = pure false := by rfl) (hf : X.fn x = true \/ X.env.scope.names.lookup x = some .local := by first | exact .inl rfl | exact .inr rfl | assumption) :
  PS X (.Assign [.Name x pos'] e pos) (tAsg te (AC i)) := by
 intro pins s σ H D I h
 refine wpAny_Assign_Name (thn (he pins s σ H _ I h) fun v s1 ⟨y, H1, I1, r1, q1⟩ => ?_) hs
 exact gq I1 hN hi hx r1 (fun s2 I2 => ⟨_, H1, I2, q1⟩) hf
noncomputable def tAug (i : Nat) (te : TE) (ti : TIp) : TS := fun D σ H => ∃ x, σ[i]? = some (some x) /\ te σ H fun y H1 => ti x y H1 fun z H2 => D.nx (σ.set i (some z)) H2
theorem uy {i : Nat} {x : Str} {e : Expr} {te : TE} {op : Operator} {ti : TIp} {pos' : Pos} (hN : X.N.Nodup) (hi : X.N[i]? = some x) (hx : Loc X.env.scope x) (he : PE X e te) (ho : PIp X op ti) (hf : X.fn x = true \/ X.env.scope.names.lookup x = some .local := by first | exact .inl rfl | exact .inr rfl | assumption) :
  PS X (.AugAssign (.Name x pos') op e pos) (tAug i te ti) := by
 intro pins s σ H D I h
 obtain ⟨v, e1, h⟩ := h
 obtain ⟨m, hn, hl⟩ := I.loc
 have vis : Vis X.env.scope x := by rcases hx with k | k; exact .inl k; exact .inr (.inl k)
 obtain ⟨u, r, l⟩ := hl i x v hi e1 vis
 refine wpAny_AugAssign_Name ?_
 have go : wpAny (model X.prog X.w) X.A (eval e X.env) (fun w s₂ => wpAny (model X.prog X.w) X.A (inplaceOp op u w) (fun r s₃ => wpAny (model X.prog X.w) X.A (storeName X.env x r) (fun _ => SP X pins D .next) X.xe s₃) X.xe s₂) X.xe s := by
  refine thn (he pins s σ H _ I h) fun w s1 ⟨y, H1, I1, r1, q1⟩ => ?_
  refine thn (ho pins s1 σ H1 v y u w _ I1 r r1 q1) fun z s2 ⟨zv, H2, I2, r2, q2⟩ => ?_
  exact gq I2 hN hi hx r2 (fun s3 I3 => ⟨_, H2, I3, q2⟩) hf
 rcases l with ⟨hk, hm⟩ | ⟨hk, c, hc, hcell⟩
 ·exact wpAny_loadName_local I.ok.kind hk hn hm go
 ·rcases hk with hk | hk
  ·exact wpAny_loadName_cell I.ok.kind hk hc hcell go
  ·rcases hx with k | k
   ·have : X.env.scope.names.lookup x = some .free := hk
    rw [k] at this; cases this
   ·have : X.env.scope.names.lookup x = some .free := hk
    rw [k] at this; cases this
noncomputable def ipI (f : Int -> Int -> Int) : TIp := fun x y H Q => ∃ i j, x = .int i /\ y = .int j /\ Q (.int (f i j)) H
theorem uz : PIp X .Add (ipI fun i j => i + j) := by
 intro pins s σ H x y v u Q I r1 r2 h
 obtain ⟨i, j, e1, e2, q⟩ := h
 subst e1; subst e2
 obtain ⟨t, rfl⟩ := r1
 obtain ⟨t', rfl⟩ := r2
 exact iadd_int ⟨.int _, H, I.tok _, ⟨_, rfl⟩, q⟩
end
section
variable {X : Cx} {pos : Pos}
noncomputable def BQ (c : TT) (tb : TS) : TS := fun D σ H => ∃ W : Nat -> St -> Hp -> Prop, (∃ m, W m σ H) /\ ∀ m σ H, W m σ H ->
 c σ H fun b H1 => if b = true then ∃ N : St -> Hp -> Prop, (∀ σ' H', N σ' H' -> ∃ m', m' < m /\ W m' σ' H') /\ tb { D with nx := N, ct := N, bk := D.nx } σ H1 else D.nx σ H1
theorem pI {c : Expr} {body : List Stmt} {tc : TT} {tb : TS} (hp : PassesOwn (model X.prog X.w) X.A X.env X.xe) (hc : PT X c tc) (hb : PSs X body tb) : PS X (.While c body [] pos) (BQ tc tb) := by
 intro pins s σ H D I h
 obtain ⟨W, ⟨m0, w0⟩, turn⟩ := h
 refine wpAny_While (codeAny_whileLoop (fun n s' => ∃ σ' H', Inv X pins σ' H' s' /\ W n σ' H') ?_ m0 ⟨σ, H, I, w0⟩)
 rintro n s1 ⟨σ1, H1, I1, w1⟩
 refine wpAny_passesOwn hp (thn (hc pins s1 σ1 H1 _ I1 (turn n σ1 H1 w1)) fun b s2 ⟨H2, I2, q2⟩ => ?_)
 cases b with
 | true =>
  obtain ⟨N, hN, q2⟩ := q2
  rw [if_pos rfl]
  refine wpAny_passesOwn hp (thn (hb pins s2 σ1 H2 _ I2 q2) fun f s3 q3 => ?_)
  cases f with
  | next =>
   obtain ⟨σ3, H3, I3, n3⟩ := q3
   obtain ⟨m', hm, w3⟩ := hN σ3 H3 n3
   exact ⟨m', hm, σ3, H3, I3, w3⟩
  | cont =>
   obtain ⟨σ3, H3, I3, n3⟩ := q3
   obtain ⟨m', hm, w3⟩ := hN σ3 H3 n3
   exact ⟨m', hm, σ3, H3, I3, w3⟩
  | brk => exact q3
  | ret v => exact q3
 | false =>
  rw [if_neg Bool.false_ne_true]
  exact wpAny_execs_nil ⟨σ1, H2, I2, q2⟩
end
structure It where
 go : Nat -> Hp -> Prop
 yld : Nat -> Hp -> V -> Hp -> Prop
 stop : Nat -> Hp -> Prop
noncomputable def FpOk (X : Cx) (pins : A6) (H : Hp) (b : Addr) : Prop :=
 H b = none /\ b ≠ X.env.locals /\ b ∉ X.fs /\ (b ∈ X.ex \/ X.s₀.heap.objs.size <= b) /\ (∀ x c, X.env.cells.lookup x = some c -> c ≠ b) /\ ∀ p ∈ X.pn ++ pins, p.1 ≠ b
theorem Inv.fpOk {X : Cx} {pins : A6} {σ : St} {H H' : Hp} {s : Shared} {b : Addr} (I : Inv X pins σ H s) (hb : s.heap.objs.size <= b) (hn : H' b = none) : FpOk X pins H' b := by
 refine ⟨hn, Nat.ne_of_gt (Nat.lt_of_lt_of_le I.lt hb), I.nofs hb, .inr (Nat.le_trans I.sz hb), fun x c e z => ?_, fun p hp z => ?_⟩
 ·obtain ⟨v, q⟩ := I.cell x c e
  exact absurd (Nat.lt_of_lt_of_le q.lt (by rw [z]; exact hb)) (Nat.lt_irrefl _)
 ·exact absurd (Nat.lt_of_lt_of_le (Heap.lt_size (I.pin p hp).1) (by rw [z]; exact hb)) (Nat.lt_irrefl _)
structure Turn (P : Program) (w : World) (K : W.Frag) (tg : Expr) (J : It) (fp : List Addr) (it : Addr) (tn : Nat -> Heap -> Prop) : Prop where
 mem : it ∈ fp
 obj : ∀ i h, tn i h -> ∀ b ∈ fp, ∃ o, h.get? b = some o /\ ∀ v, o.data ≠ .cell v
 keep : ∀ i h h', tn i h -> (∀ b ∈ fp, ∀ o, h.get? b = some o -> h'.get? b = some o) -> tn i h'
 item : ∀ (X : Cx), X.prog = P -> X.w = w -> X.K = K -> X.calm = true -> ∀ (i : Nat) (pins : A6) (s : Shared) (σ : St) (H : Hp) (E : A8), Inv X pins σ H s -> (∀ b ∈ fp, FpOk X pins H b) -> tn i s.heap -> J.go i H ->
  wpAny (model P w) X.A (pyNext (.ref it)) (fun r s1 => ∃ u, r = some u /\
   wpAny (model P w) X.A (letOwnedTupleGo tg (.ref it) u) (fun _ s2 => ∃ x H', Inv X pins σ H' s2 /\ RelV x u /\ J.yld i H x H' /\ tn (i + 1) s2.heap /\ ∀ b ∈ fp, H' b = none) E s1) E s
 done : ∀ (X : Cx), X.prog = P -> X.w = w -> X.K = K -> X.calm = true -> ∀ (i : Nat) (pins : A6) (s : Shared) (σ : St) (H : Hp) (E : A8), Inv X pins σ H s -> (∀ b ∈ fp, FpOk X pins H b) -> tn i s.heap -> J.stop i H ->
  wpAny (model P w) X.A (pyNext (.ref it)) (fun r s1 => r = none /\ Inv X pins σ H s1) E s
 self : ∀ (A : Around) (i : Nat) (s : Shared) (Q : A8) (E : A8), tn i s.heap -> Q (.ref it) s -> wpAny (model P w) A (pyIter (.ref it)) Q E s
abbrev TI := St -> Hp -> (It -> Hp -> Prop) -> Prop
noncomputable def PIE (X : Cx) (pins : A6) (σ : St) (tg : Expr) (R : It -> Hp -> Prop) (itv : Value) (s2 : Shared) : Prop :=
 ∃ (it : Addr) (fp : List Addr) (tn : Nat -> Heap -> Prop) (J : It) (H' : Hp), itv = .ref it /\ Inv X pins σ H' s2 /\ Turn X.prog X.w X.K tg J fp it tn /\ tn 0 s2.heap /\ (∀ b ∈ fp, FpOk X pins H' b) /\ R J H'
noncomputable def PI (X : Cx) (tg iter : Expr) (wi : TI) : Prop :=
 ∀ (pins : A6) (s : Shared) (σ : St) (H : Hp) (R : It -> Hp -> Prop), Inv X pins σ H s -> wi σ H R ->
  wpAny (model X.prog X.w) X.A (eval iter X.env) (fun v s1 => wpAny (model X.prog X.w) X.A (pyIter v) (PIE X pins σ tg R) X.xe s1) X.xe s
theorem pJ {M : Model} {A : Around} {E : A8} {s : Shared} {tg : Expr} {it : Addr} {u : Value} {o : Obj} {n : String} {vs : Array Value} {Q : Unit -> Shared -> Prop} (ho : s.heap.get? it = some o) (hc : o.cls = .type n) (hd : o.data = .fields vs)
    (hn : ["enumerate", "zip", "dict_itemiterator", "dict_reverseitemiterator", "odict_iterator", "itertools.zip_longest", "itertools.pairwise"].contains n = false) (hQ : Q () s) : wpAny M A (letOwnedTupleGo tg (.ref it) u) Q E s := by
  unfold letOwnedTupleGo
  cases tg <;> first
    | exact wpAny_pure hQ
    | (cases u <;> first
        | exact wpAny_pure hQ
        | (refine wpAny_bind (wpAny_load ho ?_)
           rw [hc, hd]
           show wpAny M A (if (["enumerate", "zip", "dict_itemiterator", "dict_reverseitemiterator", "odict_iterator", "itertools.zip_longest", "itertools.pairwise"].contains n && vs[0]? == some (rawInt _)) = true then _ else _) Q E s
           rw [if_neg (by intro h; rw [hn, Bool.false_and] at h; cases h)]
           exact wpAny_pure hQ))
noncomputable def Itl (K : W.Frag) (a : Addr) : It :=
 ⟨fun i H => ∃ xs x, SqL K H a xs /\ xs[i]? = some x, fun i H x H' => H' = H /\ ∀ xs, SqL K H a xs -> xs[i]? = some x, fun i H => ∃ xs, SqL K H a xs /\ xs.length <= i⟩
noncomputable def Itt (K : W.Frag) (a : Addr) : It :=
 ⟨fun i H => ∃ xs x, SqT K H a xs /\ xs[i]? = some x, fun i H x H' => H' = H /\ ∀ xs, SqT K H a xs -> xs[i]? = some x, fun i H => ∃ xs, SqT K H a xs /\ xs.length <= i⟩
noncomputable def Itr (lo : Int) (n : Nat) : It := ⟨fun i _ => i < n, fun i H x H' => H' = H /\ x = .int (lo + i), fun i _ => n <= i⟩
theorem oA {P : Program} {w : World} {K : W.Frag} {tg : Expr} (a it : Addr) : Turn P w K tg (Itl K a) [it] it (fun i h => h.IsListIter it a i) where
 mem := by simp
 obj := fun i h st b hb => by
  have e : b = it := by simpa using hb
  subst e
  obtain ⟨o, e, c, d⟩ := st
  exact ⟨o, e, fun v z => by rw [d] at z; cases z⟩
 keep := fun i h h' st k => st.at fun o e => k it (by simp) o e
 item := by
  intro X hP hw hK hc i pins s σ H E I hf st hg
  subst hP hw hK
  obtain ⟨xs, x, hq, hx⟩ := hg
  obtain ⟨its, rv, p, hz⟩ := I.list hq
  obtain ⟨u, hu, ru⟩ := rv.get hx
  obtain ⟨f0, f1, f2, f3, f4, f5⟩ := hf it (by simp)
  refine wpAny_pyNext_list_item st p.isList (x := u) (by simpa using hu) fun h' st' sb => ?_
  have I1 : Inv X pins σ H { s with heap := h' } := I.turned (t' := s.toks) (fun b o hb e => (sb.2 b hb).trans e) f0 f1 f3 f4 f5
  obtain ⟨o, e, c, d⟩ := id st'
  exact ⟨u, rfl, pJ (s := { s with heap := h' }) e c d (by decide) ⟨x, H, I1, ru, ⟨rfl, fun ys hy => by rw [I.list_inj hy hq]; exact hx⟩, st', fun b hb => (hf b hb).1⟩⟩
 done := by
  intro X hP hw hK hc i pins s σ H E I hf st hg
  subst hP hw hK
  obtain ⟨xs, hq, hx⟩ := hg
  obtain ⟨its, rv, p, hz⟩ := I.list hq
  obtain ⟨f0, f1, f2, f3, f4, f5⟩ := hf it (by simp)
  have hl := rv.length
  exact wpAny_pyNext_list_end (I.ok.hd hc) st p.isList (by simp; lia) fun h' eb => ⟨rfl, I.turned (t' := s.toks) (fun b o hb e => eb b o hb e) f0 f1 f3 f4 f5⟩
 self := fun _ _ _ _ _ st h => wpAny_pyIter_listiter st h
theorem mq {P : Program} {w : World} {K : W.Frag} {tg : Expr} (a it : Addr) : Turn P w K tg (Itt K a) [it] it (fun i h => h.IsTupleIter it a i) where
 mem := by simp
 obj := fun i h st b hb => by
  have e : b = it := by simpa using hb
  subst e
  obtain ⟨o, e, c, d⟩ := st
  exact ⟨o, e, fun v z => by rw [d] at z; cases z⟩
 keep := fun i h h' st k => st.at fun o e => k it (by simp) o e
 item := by
  intro X hP hw hK hc i pins s σ H E I hf st hg
  subst hP hw hK
  obtain ⟨xs, x, hq, hx⟩ := hg
  obtain ⟨its, rv, p, hz⟩ := I.tuple hq
  obtain ⟨u, hu, ru⟩ := rv.get hx
  obtain ⟨f0, f1, f2, f3, f4, f5⟩ := hf it (by simp)
  refine wpAny_pyNext_tuple_item st (show s.heap.IsTuple a its.toArray from p) (x := u) (by simpa using hu) fun h' st' sb => ?_
  have I1 : Inv X pins σ H { s with heap := h' } := I.turned (t' := s.toks) (fun b o hb e => (sb.2 b hb).trans e) f0 f1 f3 f4 f5
  obtain ⟨o, e, c, d⟩ := id st'
  exact ⟨u, rfl, pJ (s := { s with heap := h' }) e c d (by decide) ⟨x, H, I1, ru, ⟨rfl, fun ys hy => by rw [I.tuple_inj hy hq]; exact hx⟩, st', fun b hb => (hf b hb).1⟩⟩
 done := by
  intro X hP hw hK hc i pins s σ H E I hf st hg
  subst hP hw hK
  obtain ⟨xs, hq, hx⟩ := hg
  obtain ⟨its, rv, p, hz⟩ := I.tuple hq
  obtain ⟨f0, f1, f2, f3, f4, f5⟩ := hf it (by simp)
  have hl := rv.length
  exact wpAny_pyNext_tuple_end (I.ok.hd hc) st (show s.heap.IsTuple a its.toArray from p) (by simp; lia) fun h' eb => ⟨rfl, I.turned (t' := s.toks) (fun b o hb e => eb b o hb e) f0 f1 f3 f4 f5⟩
 self := fun _ _ _ _ _ st h => wpAny_pyIter_tupleiter st h
theorem mr {P : Program} {w : World} {K : W.Frag} {tg : Expr} (it : Addr) (lo : Int) (n : Nat) : Turn P w K tg (Itr lo n) [it] it (fun i h => IsRangeIter h it (lo + (i : Nat) * 1) ((n : Int) - (i : Nat)) 1) where
 mem := by simp
 obj := fun i h st b hb => by
  have e : b = it := by simpa using hb
  subst e
  exact ⟨_, st, fun v z => by
   have z' : Data.fields _ = Data.cell v := z
   cases z'⟩
 keep := fun i h h' st k => k it (by simp) _ st
 item := by
  intro X hP hw hK hc i pins s σ H E I hf st hg
  subst hP hw hK
  obtain ⟨f0, f1, f2, f3, f4, f5⟩ := hf it (by simp)
  have W := Walks.range (prog := X.prog) (w := X.w) (I.ok.hd hc) it lo 1 n
  refine W.item i s _ _ hg st fun v h' tk hv st' kk => ?_
  obtain ⟨t, rfl⟩ := hv
  have I1 : Inv X pins σ H { s with heap := h', toks := tk } := I.turned (fun b o hb e => kk b o (by simpa using hb) e) f0 f1 f3 f4 f5
  refine ⟨_, rfl, pJ (s := { s with heap := h', toks := tk }) (n := "range_iterator") st' rfl rfl (by decide) ⟨.int (lo + i), H, I1, ⟨t, ?_⟩, ⟨rfl, rfl⟩, st', fun b hb => (hf b hb).1⟩⟩
  rw [Int.mul_one]
 done := by
  intro X hP hw hK hc i pins s σ H E I hf st hg
  subst hP hw hK
  obtain ⟨f0, f1, f2, f3, f4, f5⟩ := hf it (by simp)
  exact wpAny_pyNext_range_end (I.ok.hd hc) st (by have : n <= i := hg; lia) fun h' eb => ⟨rfl, I.turned (t' := s.toks) (fun b o hb e => eb b o hb e) f0 f1 f3 f4 f5⟩
 self := fun _ _ _ _ _ st h => wpAny_pyIter_rangeiter st h
section
variable {X : Cx} {tg : Expr}
theorem pK {pins : A6} {σ : St} {H : Hp} {s : Shared} {R : It -> Hp -> Prop} {E : A8} {lo hi : Int} {t u v : Tok} {tk : Nat} (I : Inv X pins σ H s) (h1 : -(2 ^ 62) <= lo) (h2 : lo < 2 ^ 62) (h3 : -(2 ^ 62) <= hi) (h4 : hi < 2 ^ 62)
  (q : R (Itr lo (hi - lo).toNat) H) : wpAny (model X.prog X.w) X.A (pyIter (.ref s.heap.objs.size)) (PIE X pins σ tg R) E { s with heap := s.heap.push { cls := .type "range", data := .fields #[.int lo t, .int hi u, .int 1 v] }, toks := tk } := by
 refine wpAny_pyIter_range (IsRange.new ..) (small_one h1 h2 h3 h4) ?_
 have I1 : Inv X pins σ H { s with heap := s.heap.push { cls := .type "range", data := .fields #[.int lo t, .int hi u, .int 1 v] }, toks := tk } := I.kept fun b o e => Heap.get?_push_of_some _ e
 refine ⟨(s.heap.push { cls := .type "range", data := .fields #[.int lo t, .int hi u, .int 1 v] }).objs.size, [(s.heap.push { cls := .type "range", data := .fields #[.int lo t, .int hi u, .int 1 v] }).objs.size], _, _, H, rfl,
  I1.kept (t' := tk) fun b o e => Heap.get?_push_of_some _ e, mr _ lo (hi - lo).toNat, ?_, fun b hb => ?_, q⟩
 ·have e1 : lo + ((0 : Nat) : Int) * 1 = lo := by simp
  have e2 : (((hi - lo).toNat : Nat) : Int) - ((0 : Nat) : Int) = Builtin.Range.rangeSize lo hi 1 := by rw [rangeSize_one]; split <;> lia
  show IsRangeIter _ _ (lo + ((0 : Nat) : Int) * 1) ((((hi - lo).toNat : Nat) : Int) - ((0 : Nat) : Int)) 1
  rw [e1, e2]
  exact Heap.get?_push_size _ rfl
 ·have e : b = (s.heap.push { cls := .type "range", data := .fields #[.int lo t, .int hi u, .int 1 v] }).objs.size := by simpa using hb
  subst e
  exact I1.fpOk (Nat.le_refl _) (I1.hok.fresh (Nat.le_refl _))
noncomputable def Cw (ta : TA) : TI := fun σ H R => ta σ H fun vs H1 => ∃ j : Int, vs = [.int j] /\ -(2 ^ 62) <= j /\ j < 2 ^ 62 /\ R (Itr 0 j.toNat) H1
theorem jB {a : Expr} {ta : TA} {p pos : Pos} (hg : Gl X "range") (hm : X.mg "range" = none) (ha : PA X [a] ta) (hs : starEach [a] X.env = [(false, eval a X.env)] := by rfl) : PI X tg (.Call (.Name "range" p) [a] [] pos) (Cw ta) := by
 intro pins s σ H R I h
 refine Call_ (iO I hg hm boot_range (callWith_type1 (thn (ha pos pins s σ H _ I h) fun us s1 ⟨vs, H1, I1, r1, q1⟩ => ?_) hs rfl))
 obtain ⟨j, e, q1, q2, q⟩ := q1
 subst e
 cases r1 with
 | cons r rr =>
  cases rr
  obtain ⟨t, rfl⟩ := r
  exact call_range_1 (pK I1 (by lia) (by lia) q1 q2 (by simpa using q))
noncomputable def tFor (wi : TI) (g : TG) (tb : TS) : TS := fun D σ H => wi σ H fun J H1 => ∃ W : Nat -> Nat -> St -> Hp -> Prop, (∃ m, W 0 m σ H1) /\ ∀ i m σ H, W i m σ H ->
 (J.stop i H /\ D.nx σ H) \/ (J.go i H /\ ∃ N : St -> Hp -> Prop, (∀ σ' H', N σ' H' -> ∃ m', m' < m /\ W (i + 1) m' σ' H') /\ ∀ x H', J.yld i H x H' -> g x σ H' fun σ2 H2 => tb { D with nx := N, ct := N, bk := D.nx } σ2 H2)
noncomputable def B5 (fp : List Addr) (h : Heap) : A6 := fp.filterMap fun b => (h.get? b).map fun o => (b, o)
theorem eO {fp : List Addr} {h : Heap} {b : Addr} {o : Obj} (hb : b ∈ fp) (e : h.get? b = some o) : (b, o) ∈ B5 fp h := List.mem_filterMap.mpr ⟨b, hb, by rw [e]; rfl⟩
theorem jC {fp : List Addr} {h : Heap} {p : Addr × Obj} (hp : p ∈ B5 fp h) : p.1 ∈ fp /\ h.get? p.1 = some p.2 := by
 obtain ⟨b, hb, e⟩ := List.mem_filterMap.mp hp
 cases q : h.get? b with
 | none => rw [q] at e; cases e
 | some o =>
  rw [q] at e
  have e' : (b, o) = p := Option.some.inj e
  subst e'
  exact ⟨hb, q⟩
theorem Inv.pinned {pins : A6} {σ : St} {H : Hp} {s : Shared} {fp : List Addr} (I : Inv X pins σ H s) (hf : ∀ b ∈ fp, FpOk X pins H b) (ho : ∀ b ∈ fp, ∃ o, s.heap.get? b = some o /\ ∀ v, o.data ≠ .cell v) : Inv X (pins ++ B5 fp s.heap) σ H s :=
 I.pins_of fun p hp => (List.mem_append.mp hp).elim (fun z => I.pin p (List.mem_append_right _ z)) fun z => by
  obtain ⟨hb, e⟩ := jC z
  obtain ⟨f0, f1, f2, _⟩ := hf p.1 hb
  obtain ⟨o, e', d⟩ := ho p.1 hb
  rw [e] at e'; cases e'
  exact ⟨e, f0, f1, f2, d⟩
theorem Inv.unpinned {pins pl : A6} {σ : St} {H : Hp} {s : Shared} (I : Inv X (pins ++ pl) σ H s) : Inv X pins σ H s := I.pins_of fun p hp => I.pin p (List.mem_append_right _ (List.mem_append_left _ hp))
theorem uA {iter : Expr} {body : List Stmt} {wi : TI} {g : TG} {tb : TS} {pos : Pos} (hp : PassesOwn (model X.prog X.w) X.A X.env X.xe) (hc : X.calm = true) (hi : PI X tg iter wi) (hg : PG X tg g) (hb : PSs X body tb)
  (hs : ∀ x, foldedSetIterable iter X.env x = pure x := by intro _; rfl) : PS X (.For tg iter body [] pos) (tFor wi g tb) := by
 intro pins s σ H D I h
 refine wpAny_For (thn (hi pins s σ H _ I h) fun v s1 h1 => thn h1 fun itv s2 h2 => ?_) hs
 obtain ⟨it, fp, tn, J, H2, e, I2, T, st2, f2, W, ⟨m0, w0⟩, turn⟩ := h2
 subst e
 have stat : ∀ {H' : Hp}, (∀ b ∈ fp, H' b = none) -> ∀ b ∈ fp, FpOk X pins H' b := fun hn b hb => ⟨hn b hb, (f2 b hb).2⟩
 refine codeAny_forLoop_any (fun n s' => ∃ i σ' H', Inv X pins σ' H' s' /\ tn i s'.heap /\ (∀ b ∈ fp, H' b = none) /\ W i n σ' H') ?_ m0 ⟨0, σ, H2, I2, st2, fun b hb => (f2 b hb).1, w0⟩
 rintro n s3 ⟨i, σ3, H3, I3, st3, fr3, w3⟩
 rcases turn i n σ3 H3 w3 with ⟨stop, qn⟩ | ⟨go, N, hN, step⟩
 ·refine wpAny_passesOwn hp (thn (T.done X rfl rfl rfl hc i pins s3 σ3 H3 X.xe I3 (stat fr3) st3 stop) fun r s4 ⟨hr, I4⟩ => ?_)
  subst hr
  exact wpAny_execs_nil ⟨σ3, H3, I4, qn⟩
 ·refine wpAny_passesOwn hp (thn (T.item X rfl rfl rfl hc i pins s3 σ3 H3 X.xe I3 (stat fr3) st3 go) fun r s4 ⟨u, hr, h4⟩ => ?_)
  subst hr
  refine wpAny_passesOwn hp (thn h4 fun _ s5 ⟨x, H5, I5, r5, y5, st5, fr5⟩ => ?_)
  have I5' := I5.pinned (stat fr5) (T.obj _ _ st5)
  refine wpAny_passesOwn hp (thn (hg _ s5 σ3 H5 x u _ I5' r5 (step x H5 y5)) fun _ s6 ⟨σ6, H6, I6, q6⟩ => ?_)
  refine wpAny_passesOwn hp (thn (hb _ s6 σ6 H6 _ I6 q6) fun f s7 q7 => ?_)
  have again : ∀ {σ7 : St} {H7 : Hp}, Inv X (pins ++ B5 fp s5.heap) σ7 H7 s7 -> N σ7 H7 -> ∃ m, m < n /\ ∃ i σ' H', Inv X pins σ' H' s7 /\ tn i s7.heap /\ (∀ b ∈ fp, H' b = none) /\ W i m σ' H' := fun {σ7 H7} I7 n7 => by
   obtain ⟨m', hm, w7⟩ := hN σ7 H7 n7
   refine ⟨m', hm, i + 1, σ7, H7, I7.unpinned, T.keep _ _ _ st5 fun b hb o e => (I7.pin (b, o) (List.mem_append_right _ (List.mem_append_right _ (eO hb e)))).1, fun b hb => ?_, w7⟩
   obtain ⟨o, e, d⟩ := T.obj _ _ st5 b hb
   exact (I7.pin (b, o) (List.mem_append_right _ (List.mem_append_right _ (eO hb e)))).2.1
  cases f with
  | next => obtain ⟨σ7, H7, I7, n7⟩ := q7; exact again I7 n7
  | cont => obtain ⟨σ7, H7, I7, n7⟩ := q7; exact again I7 n7
  | brk => obtain ⟨σ7, H7, I7, q7⟩ := q7; exact ⟨σ7, H7, I7.unpinned, q7⟩
  | ret v => obtain ⟨x7, σ7, H7, I7, r7, q7⟩ := q7; exact ⟨x7, σ7, H7, I7.unpinned, r7, q7⟩
end
abbrev R2 := V -> V -> Hp -> VK -> Prop
noncomputable def OpR (X : Cx) (f : Value -> Value -> Sem Value) (r : R2) : Prop :=
 ∀ (pins : A6) (s : Shared) (σ : St) (H : Hp) (x y : V) (v u : Value) (Q : VK), Inv X pins σ H s -> RelV x v -> RelV y u -> r x y H Q ->
  wpAny (model X.prog X.w) X.A (f v u) (EP X pins σ Q) X.xe s
noncomputable def UnR (X : Cx) (f : Value -> Sem Value) (r : V -> Hp -> VK -> Prop) : Prop :=
 ∀ (pins : A6) (s : Shared) (σ : St) (H : Hp) (x : V) (v : Value) (Q : VK), Inv X pins σ H s -> RelV x v -> r x H Q ->
  wpAny (model X.prog X.w) X.A (f v) (EP X pins σ Q) X.xe s
noncomputable def AD (X : Cx) (f : Value) (r : List V -> Hp -> VK -> Prop) : Prop :=
 ∀ (pins : A6) (s : Shared) (σ : St) (H : Hp) (xs : List V) (us : List Value) (Q : VK), Inv X pins σ H s -> Vals xs us -> r xs H Q ->
  wpAny (model X.prog X.w) X.A (call f us) (EP X pins σ Q) X.xe s
noncomputable def TruR (X : Cx) (r : V -> Hp -> (Bool -> Hp -> Prop) -> Prop) : Prop :=
 ∀ (pins : A6) (s : Shared) (σ : St) (H : Hp) (x : V) (v : Value) (Q : Bool -> Hp -> Prop), Inv X pins σ H s -> RelV x v -> r x H Q ->
  wpAny (model X.prog X.w) X.A (truthy v) (TP X pins σ Q) X.xe s
noncomputable def tOp (r : R2) (ta tb : TE) : TE := fun σ H Q => ta σ H fun x H1 => tb σ H1 fun y H2 => r x y H2 Q
noncomputable def tUn (r : V -> Hp -> VK -> Prop) (ta : TE) : TE := fun σ H Q => ta σ H fun x H1 => r x H1 Q
noncomputable def rI (C : Int -> Int -> Prop) (g : Int -> Int -> V) : R2 := fun x y H Q => ∃ i j, x = .int i /\ y = .int j /\ C i j /\ Q (g i j) H
noncomputable def rI0 (g : Int -> Int -> V) : R2 := fun x y H Q => ∃ i j, x = .int i /\ y = .int j /\ Q (g i j) H
noncomputable def rU (g : Int -> V) : V -> Hp -> VK -> Prop := fun x H Q => ∃ i, x = .int i /\ Q (g i) H
section
variable {X : Cx} {a b c : Expr} {ta tb tc : TE} {pos : Pos}
theorem binT (ha : PE X a ta) (hb : PE X b tb) {pins : A6} {s : Shared} {σ : St} {H : Hp} {R : V -> V -> Hp -> Prop} (I : Inv X pins σ H s)
  (h : ta σ H fun x H1 => tb σ H1 fun y H2 => R x y H2) {Q : A8} {f : Value -> Value -> Sem Value}
  (hf : ∀ v u s2 x y H2, Inv X pins σ H2 s2 -> RelV x v -> RelV y u -> R x y H2 -> wpAny (model X.prog X.w) X.A (f v u) Q X.xe s2) :
  wpAny (model X.prog X.w) X.A (eval a X.env) (fun v s₁ => wpAny (model X.prog X.w) X.A (eval b X.env) (fun u s₂ => wpAny (model X.prog X.w) X.A (f v u) Q X.xe s₂) X.xe s₁) X.xe s := by
 refine thn (ha pins s σ H _ I h) fun v s1 ⟨x, H1, I1, r1, q1⟩ => ?_
 refine thn (hb pins s1 σ H1 _ I1 q1) fun u s2 ⟨y, H2, I2, r2, q2⟩ => ?_
 exact hf v u s2 x y H2 I2 r1 r2 q2
theorem x8 {op : Operator} {r : R2} (ho : OpR X (binaryOp op) r) (ha : PE X a ta) (hb : PE X b tb) : PE X (.BinOp a op b pos) (tOp r ta tb) := by
 intro pins s σ H Q I h
 exact wpAny_BinOp (binT ha hb I h fun v u s2 x y H2 I2 rx ry q => ho pins s2 σ H2 x y v u Q I2 rx ry q)
theorem x9 {op : UnaryOp} {r : V -> Hp -> VK -> Prop} (ho : UnR X (unaryOp op) r) (ha : PE X a ta) : PE X (.UnaryOp op a pos) (tUn r ta) := by
 intro pins s σ H Q I h
 exact UnaryOp_ (thn (ha pins s σ H _ I h) fun v s1 ⟨x, H1, I1, r1, q1⟩ => ho pins s1 σ H1 x v Q I1 r1 q1)
theorem opI {f : Value -> Value -> Sem Value} {C : Int -> Int -> Prop} {g : Int -> Int -> Int}
  (rule : ∀ (i j : Int) (t u : Tok) (s : Shared) (Q : A8) (E : A8), C i j -> Q (.int (g i j) s.toks) { s with toks := s.toks + 1 } -> wpAny (model X.prog X.w) X.A (f (.int i t) (.int j u)) Q E s) :
  OpR X f (rI C fun i j => .int (g i j)) := by
 intro pins s σ H x y v u Q I rx ry h
 obtain ⟨i, j, rfl, rfl, hc, q⟩ := h
 obtain ⟨t, rfl⟩ := rx
 obtain ⟨t', rfl⟩ := ry
 exact rule i j t t' s _ _ hc ⟨.int (g i j), H, I.tok _, ⟨_, rfl⟩, q⟩
theorem opI0 {f : Value -> Value -> Sem Value} {g : Int -> Int -> Int}
  (rule : ∀ (i j : Int) (t u : Tok) (s : Shared) (Q : A8) (E : A8), Q (.int (g i j) s.toks) { s with toks := s.toks + 1 } -> wpAny (model X.prog X.w) X.A (f (.int i t) (.int j u)) Q E s) :
  OpR X f (rI0 fun i j => .int (g i j)) := by
 intro pins s σ H x y v u Q I rx ry h
 obtain ⟨i, j, rfl, rfl, q⟩ := h
 obtain ⟨t, rfl⟩ := rx
 obtain ⟨t', rfl⟩ := ry
 exact rule i j t t' s _ _ ⟨.int (g i j), H, I.tok _, ⟨_, rfl⟩, q⟩
theorem opB0 {f : Value -> Value -> Sem Value} {g : Int -> Int -> Bool}
  (rule : ∀ (i j : Int) (t u : Tok) (s : Shared) (Q : A8) (E : A8), Q (.bool (g i j)) s -> wpAny (model X.prog X.w) X.A (f (.int i t) (.int j u)) Q E s) :
  OpR X f (rI0 fun i j => .bl (g i j)) := by
 intro pins s σ H x y v u Q I rx ry h
 obtain ⟨i, j, rfl, rfl, q⟩ := h
 obtain ⟨t, rfl⟩ := rx
 obtain ⟨t', rfl⟩ := ry
 exact rule i j t t' s _ _ ⟨.bl (g i j), H, I, rfl, q⟩
def CDiv (i j : Int) : Prop := 0 < j /\ j < 1073741824
noncomputable def CPow (i j : Int) : Prop := 0 <= j /\ j <= 1000000 /\ i.natAbs < 2 ^ 64
noncomputable def CMul (i j : Int) : Prop := (-(2 ^ 64) < i /\ i < 2 ^ 64) \/ (-(2 ^ 64) < j /\ j < 2 ^ 64)
theorem CMul.ok {i j : Int} (h : CMul i j) : IntMulOk i j := by
 rcases h with ⟨h1, h2⟩ | ⟨h1, h2⟩
 ·exact .of_left (intBits_le_64 h1 h2)
 ·exact .of_right (intBits_le_64 h1 h2)
theorem uB : OpR X (binaryOp .Add) (rI0 fun i j => .int (i + j)) := opI0 fun _ _ _ _ _ _ _ q => add_int q
theorem uC : OpR X (binaryOp .Sub) (rI0 fun i j => .int (i - j)) := opI0 fun _ _ _ _ _ _ _ q => sub_int q
theorem uD : OpR X (binaryOp .Mult) (rI CMul fun i j => .int (i * j)) := opI fun _ _ _ _ _ _ _ hc q => mul_int q hc.ok
theorem rB : OpR X (binaryOp .FloorDiv) (rI CDiv fun i j => .int (i / j)) := opI fun i j _ _ _ _ _ hc q => by
 have h1 : (0 : Int) < j := hc.1
 have h2 : j < 1073741824 := hc.2
 exact floordiv_int (by lia) (by rw [Int.fdiv_eq_ediv_of_nonneg i (by lia)]; exact q) (.inl (PyProof.noPylong_small (by lia)))
theorem uE : OpR X (binaryOp .Mod) (rI (fun _ j => 0 < j) fun i j => .int (i % j)) := opI fun i j _ _ _ _ _ hc q => by
 have h1 : (0 : Int) < j := hc
 exact mod_int' (by lia) (by rw [Int.fmod_eq_emod_of_nonneg i (by lia)]; exact q)
theorem uF : OpR X (binaryOp .Pow) (rI CPow fun i j => .int (i ^ j.toNat)) := opI fun _ _ _ _ _ _ _ hc q => pow_int_small hc.1 hc.2.1 hc.2.2 q
theorem unI {f : Value -> Sem Value} {g : Int -> Int}
  (rule : ∀ (i : Int) (t : Tok) (s : Shared) (Q : A8) (E : A8), Q (.int (g i) s.toks) { s with toks := s.toks + 1 } -> wpAny (model X.prog X.w) X.A (f (.int i t)) Q E s) :
  UnR X f (rU fun i => .int (g i)) := by
 intro pins s σ H x v Q I rx h
 obtain ⟨i, rfl, q⟩ := h
 obtain ⟨t, rfl⟩ := rx
 exact rule i t s _ _ ⟨.int (g i), H, I.tok _, ⟨_, rfl⟩, q⟩
theorem uG : UnR X (unaryOp .USub) (rU fun i => .int (-i)) := unI fun _ _ _ _ _ q => neg_int q
end
noncomputable def scal : V -> V -> Bool
 | .non, .non => true | .non, .int _ => true | .int _, .non => true | .non, .bl _ => true | .bl _, .non => true | .non, .str _ => true | .str _, .non => true
 | .int _, .int _ => true | .bl _, .bl _ => true | .str _, .str _ => true | .byt _, .byt _ => true
 | .int _, .str _ => true | .str _, .int _ => true | .bl _, .str _ => true | .str _, .bl _ => true
 | _, _ => false
noncomputable def rEq : R2 := fun x y H Q => scal x y = true /\ Q (.bl (decide (x = y))) H
noncomputable def rNe : R2 := fun x y H Q => scal x y = true /\ Q (.bl (!decide (x = y))) H
theorem nz {i j : Int} : decide (V.int i = V.int j) = (i == j) := by
 rw [Bool.eq_iff_iff]
 simp
theorem pM {i j : Bool} : decide (V.bl i = V.bl j) = (i == j) := by
 rw [Bool.eq_iff_iff]
 simp
theorem nA {i j : Str} : decide (V.str i = V.str j) = (i == j) := by
 rw [Bool.eq_iff_iff]
 simp
theorem nB {i j : Array UInt8} : decide (V.byt i = V.byt j) = (i.toList == j.toList) := by
 rw [Bool.eq_iff_iff]
 cases i
 cases j
 simp
section
variable {X : Cx} {a b c : Expr} {ta tb tc : TE} {pos : Pos}
theorem aW {pins : A6} {σ : St} {H : Hp} {s : Shared} {Q : VK} {k k' : Bool} (I : Inv X pins σ H s) (q : Q (.bl k) H) (e : k = k') : EP X pins σ Q (.bool k') s := by
 subst e
 exact ⟨.bl k, H, I, rfl, q⟩
theorem pN : OpR X (compareOp .Eq) rEq := by
 intro pins s σ H x y v u Q I rx ry h
 obtain ⟨hs, q⟩ := h
 cases x with
 | non =>
  cases rx
  cases y with
  | non => cases ry; exact PySem.EqNone.eq_none_none (aW I q (by simp))
  | bl j => cases ry; exact PySem.EqNone.eq_none_bool (aW I q (by simp))
  | int j => obtain ⟨t', rfl⟩ := ry; exact PySem.EqNone.eq_none_int (aW I q (by simp))
  | str j => obtain ⟨t', rfl⟩ := ry; exact PySem.EqNone.eq_none_str (aW I q (by simp))
  | _ => exact absurd (show false = true from hs) Bool.false_ne_true
 | bl i =>
  cases rx
  cases y with
  | non => cases ry; exact PySem.EqNone.eq_bool_none (aW I q (by simp))
  | bl j => cases ry; exact eq_bool (aW I q pM)
  | str j => obtain ⟨t', rfl⟩ := ry; exact PySem.EqMixed.eq_bool_str (aW I q (by simp))
  | _ => exact absurd (show false = true from hs) Bool.false_ne_true
 | int i =>
  obtain ⟨t, rfl⟩ := rx
  cases y with
  | non => cases ry; exact PySem.EqNone.eq_int_none (aW I q (by simp))
  | int j => obtain ⟨t', rfl⟩ := ry; exact eq_int (aW I q nz)
  | str j => obtain ⟨t', rfl⟩ := ry; exact PySem.EqMixed.eq_int_str (aW I q (by simp))
  | _ => exact absurd (show false = true from hs) Bool.false_ne_true
 | str i =>
  obtain ⟨t, rfl⟩ := rx
  cases y with
  | non => cases ry; exact PySem.EqNone.eq_str_none (aW I q (by simp))
  | bl j => cases ry; exact PySem.EqMixed.eq_str_bool (aW I q (by simp))
  | int j => obtain ⟨t', rfl⟩ := ry; exact PySem.EqMixed.eq_str_int (aW I q (by simp))
  | str j => obtain ⟨t', rfl⟩ := ry; exact eq_str (aW I q nA)
  | _ => exact absurd (show false = true from hs) Bool.false_ne_true
 | byt i =>
  obtain ⟨t, rfl⟩ := rx
  cases y with
  | byt j => obtain ⟨t', rfl⟩ := ry; exact W.eq_bytes (aW I q nB)
  | _ => exact absurd (show false = true from hs) Bool.false_ne_true
 | _ => cases y <;> exact absurd (show false = true from hs) Bool.false_ne_true
theorem pO : OpR X (compareOp .NotEq) rNe := by
 intro pins s σ H x y v u Q I rx ry h
 obtain ⟨hs, q⟩ := h
 cases x with
 | non =>
  cases rx
  cases y with
  | non => cases ry; exact PySem.EqNone.ne_none_none (aW I q (by simp))
  | bl j => cases ry; exact PySem.EqNone.ne_none_bool (aW I q (by simp))
  | int j => obtain ⟨t', rfl⟩ := ry; exact PySem.EqNone.ne_none_int (aW I q (by simp))
  | str j => obtain ⟨t', rfl⟩ := ry; exact PySem.EqNone.ne_none_str (aW I q (by simp))
  | _ => exact absurd (show false = true from hs) Bool.false_ne_true
 | bl i =>
  cases rx
  cases y with
  | non => cases ry; exact PySem.EqNone.ne_bool_none (aW I q (by simp))
  | bl j => cases ry; exact ne_bool (aW I q (congrArg not pM))
  | str j => obtain ⟨t', rfl⟩ := ry; exact PySem.EqMixed.ne_bool_str (aW I q (by simp))
  | _ => exact absurd (show false = true from hs) Bool.false_ne_true
 | int i =>
  obtain ⟨t, rfl⟩ := rx
  cases y with
  | non => cases ry; exact PySem.EqNone.ne_int_none (aW I q (by simp))
  | int j => obtain ⟨t', rfl⟩ := ry; exact ne_int (aW I q (congrArg not nz))
  | str j => obtain ⟨t', rfl⟩ := ry; exact PySem.EqMixed.ne_int_str (aW I q (by simp))
  | _ => exact absurd (show false = true from hs) Bool.false_ne_true
 | str i =>
  obtain ⟨t, rfl⟩ := rx
  cases y with
  | non => cases ry; exact PySem.EqNone.ne_str_none (aW I q (by simp))
  | bl j => cases ry; exact PySem.EqMixed.ne_str_bool (aW I q (by simp))
  | int j => obtain ⟨t', rfl⟩ := ry; exact PySem.EqMixed.ne_str_int (aW I q (by simp))
  | str j => obtain ⟨t', rfl⟩ := ry; exact ne_str (aW I q (congrArg not nA))
  | _ => exact absurd (show false = true from hs) Bool.false_ne_true
 | byt i =>
  obtain ⟨t, rfl⟩ := rx
  cases y with
  | byt j => obtain ⟨t', rfl⟩ := ry; exact W.ne_bytes (aW I q (congrArg not nB))
  | _ => exact absurd (show false = true from hs) Bool.false_ne_true
 | _ => cases y <;> exact absurd (show false = true from hs) Bool.false_ne_true
theorem xa : OpR X (compareOp .Lt) (rI0 fun i j => .bl (decide (i < j))) := opB0 fun _ _ _ _ _ _ _ q => lt_int q
theorem tP : OpR X (compareOp .LtE) (rI0 fun i j => .bl (decide (i <= j))) := opB0 fun _ _ _ _ _ _ _ q => le_int q
theorem xb : OpR X (compareOp .Gt) (rI0 fun i j => .bl (decide (j < i))) := opB0 fun _ _ _ _ _ _ _ q => gt_int q
theorem xc : OpR X (compareOp .GtE) (rI0 fun i j => .bl (decide (j <= i))) := opB0 fun _ _ _ _ _ _ _ q => ge_int q
theorem nomark (b : Expr) {op : CmpOp} (h : op ≠ .In := by decide) (h2 : op ≠ .NotIn := by decide) : behindInMarks op b = false := by
 have e1 : (op == CmpOp.In) = false := by cases op <;> first | rfl | exact absurd rfl h
 have e2 : (op == CmpOp.NotIn) = false := by cases op <;> first | rfl | exact absurd rfl h2
 cases b <;> simp [behindInMarks, e1, e2]
theorem rC {op : CmpOp} {r : R2} (ho : OpR X (compareOp op) r) (ha : PE X a ta) (hb : PE X b tb) (hm : behindInMarks op b = false) : PE X (.Compare a [op] [b] pos) (tOp r ta tb) := by
 intro pins s σ H Q I h
 exact wpAny_Compare1 (binT ha hb I h fun v u s2 x y H2 I2 rx ry q => ho pins s2 σ H2 x y v u Q I2 rx ry q) hm
noncomputable def Cy (t : TE) : TT := fun σ H Q => t σ H fun x H' => ∃ k, x = .bl k /\ Q k H'
theorem rD {op : CmpOp} {r : R2} (ho : OpR X (compareOp op) r) (ha : PE X a ta) (hb : PE X b tb) (hm : behindInMarks op b = false) : PT X (.Compare a [op] [b] pos) (Cy (tOp r ta tb)) := by
 intro pins s σ H Q I h
 refine wpAny_isTrue_Compare1 (thn (ha pins s σ H _ I h) fun v s1 ⟨x, H1, I1, r1, q1⟩ => thn (hb pins s1 σ H1 _ I1 q1) fun u s2 ⟨y, H2, I2, r2, q2⟩ =>
  thn (ho pins s2 σ H2 x y v u _ I2 r1 r2 q2) fun c s3 ⟨z, H3, I3, r3, k, e, q3⟩ => ?_) hm
 subst e
 cases r3
 exact wpAny_truthy_bool ⟨H3, I3, q3⟩
noncomputable def TruV (K : W.Frag) (x : V) (H : Hp) (k : Bool) : Prop :=
 match x with
 | .non => k = false
 | .bl b => k = b
 | .int i => k = (i != 0)
 | .str y => y.length <= sizeLine /\ k = ((y.length : Int) != 0)
 | .byt y => y.size <= sizeLine /\ k = ((y.size : Int) != 0)
 | .ref p => (∃ xs, SqL K H p xs /\ k = !xs.isEmpty) \/ (∃ xs, SqT K H p xs /\ k = !xs.isEmpty) \/ ∃ kvs, H p = some (.dK kvs) /\ k = !kvs.isEmpty
 | _ => False
theorem mv {κ : Type} {kvs : List (κ × V)} {vs : List (κ × Value)} (r : KV kvs vs) : (!vs.isEmpty) = !kvs.isEmpty := by
 cases r <;> rfl
theorem iP {xs : List V} {its : List Value} (r : Vals xs its) : (!its.toArray.isEmpty) = !xs.isEmpty := by
 cases r <;> simp
theorem line63 : (sizeLine : Nat) < 2 ^ 63 := by rw [sizeLine_eq]; decide
theorem uH : TruR X (fun x H Q => ∃ k, TruV X.K x H k /\ Q k H) := by
 intro pins s σ H x v Q I rx h
 obtain ⟨k, e, q⟩ := h
 have hl := line63
 have hs : sizeLine = 16777216 := sizeLine_eq
 cases x with
 | non =>
  cases rx
  have e' : k = false := e
  subst e'
  exact truthy_none ⟨H, I, q⟩
 | bl b =>
  cases rx
  have e' : k = b := e
  subst e'
  exact wpAny_truthy_bool ⟨H, I, q⟩
 | int i =>
  obtain ⟨t, rfl⟩ := rx
  have e' : k = (i != 0) := e
  subst e'
  exact PySem.P.truthy_int ⟨H, I, q⟩
 | str y =>
  obtain ⟨t, rfl⟩ := rx
  obtain ⟨hy, e'⟩ : y.length <= sizeLine /\ k = ((y.length : Int) != 0) := e
  subst e'
  exact PySem.P.truthy_str (by lia) ⟨H, I.tok _, q⟩
 | byt y =>
  obtain ⟨t, rfl⟩ := rx
  obtain ⟨hy, e'⟩ : y.size <= sizeLine /\ k = ((y.size : Int) != 0) := e
  subst e'
  exact W.truthy_bytes (by lia) ⟨H, I.tok _, q⟩
 | ref p =>
  cases rx
  have e' : (∃ xs, SqL X.K H p xs /\ k = !xs.isEmpty) \/ (∃ xs, SqT X.K H p xs /\ k = !xs.isEmpty) \/ ∃ kvs, H p = some (.dK kvs) /\ k = !kvs.isEmpty := e
  rcases e' with ⟨xs, hx, e'⟩ | ⟨xs, hx, e'⟩ | ⟨kvs, hx, e'⟩
  ·subst e'
   obtain ⟨its, r, pl, hz⟩ := I.list hx
   have hlen := r.length
   exact wpAny_truthy_list pl.isList (by simp only [List.size_toArray]; lia) ⟨H, I.tok _, by rw [iP r]; exact q⟩
  ·subst e'
   obtain ⟨its, r, pl, hz⟩ := I.tuple hx
   have hlen := r.length
   exact truthy_tuple pl (by simp only [List.size_toArray]; lia) ⟨H, I.tok _, by rw [iP r]; exact q⟩
  ·subst e'
   obtain ⟨hz, hS, vs, r, m⟩ : kvs.length <= sizeLine /\ (p == sysModules) = false /\ ∃ vs, KV kvs vs /\ s.heap.DictOf (Ah X.prog X.w) p vs := I.hok p _ hx
   have hlen : kvs.length = vs.length := Paired.length r
   exact wpAny_truthy_dict hS m (by lia) ⟨H, I.tok _, by rw [mv r]; exact q⟩
 | _ => exact (show False from e).elim
theorem pP (ha : PE X a ta) (he : ∀ whole, isTrue a X.env whole = (do let v <- whole; standAt a.pos; holding [v] (truthy v))) :
  PT X a (fun σ H Q => ta σ H fun x H' => ∃ k, TruV X.K x H' k /\ Q k H') := by
 intro pins s σ H Q I h
 exact isTrue_plain (thn (ha pins s σ H _ I h) fun v s1 ⟨x, H1, I1, r1, q1⟩ => uH pins s1 σ H1 x v Q I1 r1 q1) (he _)
theorem mw : OpR X (binaryOp .Add) (fun x y H Q => ∃ i j, x = .str i /\ y = .str j /\ i.length + j.length <= sizeLine /\ Q (.str (i ++ j)) H) := by
 intro pins s σ H x y v u Q I rx ry h
 obtain ⟨i, j, rfl, rfl, hz, q⟩ := h
 obtain ⟨t, rfl⟩ := rx
 obtain ⟨t', rfl⟩ := ry
 exact add_str (fun t' tk => ⟨.str (i ++ j), H, I.tok _, ⟨_, rfl⟩, q⟩) hz
theorem vals1 {x : V} {us : List Value} (r : Vals [x] us) : ∃ u, us = [u] /\ RelV x u := by
 cases r with
 | cons r1 r2 => cases r2; exact ⟨_, rfl, r1⟩
theorem vals2 {x y : V} {us : List Value} (r : Vals [x, y] us) : ∃ u w', us = [u, w'] /\ RelV x u /\ RelV y w' := by
 cases r with
 | cons r1 r2 =>
  cases r2 with
  | cons r3 r4 => cases r4; exact ⟨_, _, rfl, r1, r3⟩
theorem pQ : AD X (.builtin "abs") (fun xs H Q => ∃ i, xs = [.int i] /\ Q (.int (if i < 0 then -i else i)) H) := by
 intro pins s σ H xs us Q I r h
 obtain ⟨i, rfl, q⟩ := h
 obtain ⟨u, rfl, t, rfl⟩ := vals1 r
 exact call_abs_int fun u tk => ⟨.int (if i < 0 then -i else i), H, I.tok _, ⟨_, rfl⟩, q⟩
end
structure ObjM (h : Heap) (x dx C : Addr) (mA : A5) : Prop where
 obj : h.get? x = some (W.instObj C dx)
 ns : h.Ns1 dx mA
 ne : dx ≠ x
theorem oB {h : Heap} {dx : Addr} {mA : A5} (n : h.Ns1 dx mA) : ∃ od, h.get? dx = some od /\ ∀ name, W.lookIn name od = some (mA name) := by
 obtain ⟨o, es, ep, ho, hd, hk, _, hm⟩ := n
 refine ⟨o, ho, fun name => ?_⟩
 have e := hm name
 unfold nsFind findBy at e
 rw [<- Array.find?_toList] at e
 unfold W.lookIn
 rw [hd]
 dsimp only
 split
 ·rename_i y q
  rw [q] at e
  exact congrArg some e
 ·rename_i q
  rw [q] at e
  have a : es.toList.any (·.refKey) = false := by
   rw [List.any_eq_false]
   intro y hy
   obtain ⟨z, t, hkey⟩ := hk y (Array.mem_toList_iff.mp hy)
   simp [DictEntry.refKey, hkey]
  have a' : ¬ es.toList.any (·.refKey) = true := by rw [a]; exact Bool.false_ne_true
  rw [if_neg a']
  exact congrArg some e
theorem ObjM.look {h : Heap} {x dx C : Addr} {mA : A5} (I : ObjM h x dx C mA) : ∃ od, W.InstAt h x (W.instObj C dx) C (some od) /\ ∀ name, W.lookIn name od = some (mA name) :=
 let ⟨od, ho, hl⟩ := oB I.ns
 ⟨od, ⟨I.obj, rfl, rfl, ho⟩, hl⟩
section
variable {prog : Program} {w : World} {A : Around} {E : A8} {s : Shared} {K : W.Frag} {x dx C f : Addr} {mA : A5} {name : Str} {v : Value}
theorem pR {pl : Sem Bool} {Q : Value × List Value -> Shared -> Prop} (X : K.In s.heap) (I : ObjM s.heap x dx C mA) (hg : W.plainGet K C name = true)
  (hf : W.findIn K (.ref C) name = some (some (.ref f))) (ht : W.isFn K (.ref f) = true) (hv : mA name = none) (h : Q (.ref f, [.ref x]) s) :
  wpAny (model prog w) A (getMethod (.ref x) name pl) Q E s := by
 obtain ⟨od, J, hl⟩ := I.look
 exact W.method_fn X J (W.plainGet_of hg).1 (W.plainGet_of hg).2 hf (beq_iff_eq.mp ht) (by show (W.lookIn name od).map (·.isSome) = some false; rw [hl, hv]; rfl) h
theorem rE {ns : List Str} {Q : Unit -> Shared -> Prop} (X : K.In s.heap) (I : ObjM s.heap x dx C mA)
  (hs : W.findIn K (.ref C) "__setattr__" = some (some (.builtin "object.__setattr__"))) (hp : W.plainOver K C = true) (ht : W.takerIn K C name = some none) (hh : W.hasDictIn K C = true)
  (hw : PySem.Within mA ns) (hsz : ns.length <= sizeLine)
  (h : ∀ h', ObjM h' x dx C (fun y => if y = name then some v else mA y) -> Heap.SameBut dx s.heap h' -> Q () { s with heap := h', toks := s.toks + 2 }) :
  wpAny (model prog w) A (setAttr (.ref x) name v) Q E s := by
 obtain ⟨od, J, hl⟩ := I.look
 refine W.set_plain X J hs (W.osa_open (s := { s with toks := s.toks + 1 }) (r := none) X J hp ht fun b => ?_)
 obtain ⟨cd, hc, hd'⟩ := W.any_some hh
 have hx : s.heap.get? x = some ⟨.ref C, some dx, .plain, #[]⟩ := I.obj
 refine wpAny_bind (wpAny_pure (wpAny_bind (wpAny_bind (wpAny_loadPart hx (wpAny_bind (W.Looks.here (s := { s with toks := s.toks + 1 }) (W.looks_clsIn X hc) ?_))))))
 rw [hd']
 refine wpAny_pure (a := some dx) (wpAny_bind (wpAny_pure (wpAny_bind ?_)))
 refine wpAny_nsSet1 (s := { s with toks := s.toks + 1 }) I.ns fun h' hn2 hs2 => ?_
 obtain ⟨oD, esD, epD, hoD, hdD, hcD⟩ := hn2.count (PySem.Within.cons name v hw)
 refine wpAny_bind (wpAny_lookBehind hoD (by rw [hdD]; exact pastItsLine_dict (Nat.le_trans hcD (by rw [List.length_cons]; lia))) ?_)
 exact wpAny_pure (h _ ⟨(hs2.2 _ (Ne.symm I.ne)).trans I.obj, hn2, I.ne⟩ hs2)
theorem pS {R : Result -> Shared -> Prop} {vs : List Value} {kw : List (Str × Value)} (X : K.In s.heap) (hm : W.makesIn K C = true)
  (hi : W.findIn K (.ref C) "__init__" = some (some (.ref f))) (hf : W.typeIn K (.ref f) = some (.type "function"))
  (h : codeAny (model prog w) (A.under (.builtin "type.__call__" ⟨.ref C :: vs, kw⟩)) (.call (.ref f) ⟨.ref (s.heap.objs.size + 1) :: vs, kw⟩) (W.InitBack (s.heap.objs.size + 1) R)
   { s with heap := (s.heap.push W.emptyDict).push (W.instObj C s.heap.objs.size) }) :
  codeAny (model prog w) A (.call (.ref C) ⟨vs, kw⟩) R s := by
 obtain ⟨hh, g, d, t, os⟩ := s
 exact W.make_core (W.makes_of X hm) (W.looks_findIn X hi) (fun self => W.bind_fn X self hf) (.inl rfl) h
end
noncomputable def putF (f : Str) (v : V) : List (Str × V) -> List (Str × V)
 | [] => [(f, v)]
 | (g, x) :: r => if g = f then (g, v) :: r else (g, x) :: putF f v r
theorem ig (f g : Str) (v : V) : ∀ fs : List (Str × V), (putF f v fs).lookup g = if g = f then some v else fs.lookup g
 | [] => by
  show List.lookup g [(f, v)] = _
  by_cases h : g = f
  ·have hb : (g == f) = true := beq_iff_eq.mpr h
   simp only [List.lookup, hb, if_pos h]
  ·have hb : (g == f) = false := beq_eq_false_iff_ne.mpr h
   simp only [List.lookup, hb, if_neg h]
 | (k, x) :: r => by
  have ih := ig f g v r
  rw [show putF f v ((k, x) :: r) = (if k = f then (k, v) :: r else (k, x) :: putF f v r) from rfl]
  by_cases hk : k = f
  ·rw [if_pos hk]
   by_cases h : g = k
   ·have hb : (g == k) = true := beq_iff_eq.mpr h
    simp only [List.lookup, hb, if_pos (h.trans hk)]
   ·have hb : (g == k) = false := beq_eq_false_iff_ne.mpr h
    simp only [List.lookup, hb, if_neg (fun e : g = f => h (e.trans hk.symm))]
  ·rw [if_neg hk]
   by_cases h : g = k
   ·have hb : (g == k) = true := beq_iff_eq.mpr h
    simp only [List.lookup, hb, if_neg (fun e : g = f => hk (h.symm.trans e))]
   ·have hb : (g == k) = false := beq_eq_false_iff_ne.mpr h
    simp only [List.lookup, hb]
    exact ih
theorem hJ (f : Str) (v : V) : ∀ fs : List (Str × V), f ∈ (putF f v fs).map (·.1) /\ ∀ g, g ∈ fs.map (·.1) -> g ∈ (putF f v fs).map (·.1)
 | [] => ⟨by simp [putF], fun g h => by simp at h⟩
 | (k, x) :: r => by
  obtain ⟨i1, i2⟩ := hJ f v r
  rw [show putF f v ((k, x) :: r) = (if k = f then (k, v) :: r else (k, x) :: putF f v r) from rfl]
  by_cases hk : k = f
  ·rw [if_pos hk]
   subst hk
   exact ⟨by simp, fun g h => by simpa using h⟩
  ·rw [if_neg hk]
   refine ⟨?_, fun g h => ?_⟩
   ·rw [List.map_cons]
    exact List.mem_cons_of_mem _ i1
   ·rw [List.map_cons] at h ⊢
    rcases List.mem_cons.mp h with e | e
    ·exact List.mem_cons.mpr (.inl e)
    ·exact List.mem_cons_of_mem _ (i2 g e)
theorem ij (f : Str) (v : V) : ∀ fs : List (Str × V), (putF f v fs).length <= fs.length + 1
 | [] => by simp [putF]
 | (k, x) :: r => by
  have ih := ij f v r
  rw [show putF f v ((k, x) :: r) = (if k = f then (k, v) :: r else (k, x) :: putF f v r) from rfl]
  by_cases hk : k = f
  ·rw [if_pos hk, List.length_cons, List.length_cons]; lia
  ·rw [if_neg hk, List.length_cons, List.length_cons]; lia
theorem RelO.some_of {v : V} {o : Option Value} (r : RelO (some v) o) : ∃ u, o = some u /\ RelV v u := by
 cases o with
 | none => exact (show False from r).elim
 | some u => exact ⟨u, rfl, r⟩
theorem RelO.none_of {o : Option Value} (r : RelO none o) : o = none := by
 cases o with
 | none => rfl
 | some u => exact (show False from r).elim
section
variable {P : Program} {w : World} {H H' : Hp} {h h' : Heap} {a C dx : Addr} {fs fs' : List (Str × V)}
theorem nC (hok : HOk P w H h) (e : H a = some (.ins C dx fs)) : ∃ mA, ObjM h a dx C mA /\ (∀ f, RelO (fs.lookup f) (mA f)) /\ PySem.Within mA (fs.map (·.1)) /\ fs.length <= 1000 /\ H dx = some (.own a) := by
 obtain ⟨d, z, ne, ob, mA, n, r, q⟩ := (show Ao P w H h a (.ins C dx fs) from hok a _ e)
 exact ⟨mA, ⟨ob, n, ne⟩, r, q, z, d⟩
end
structure Cls (K : W.Frag) (C : Addr) : Prop where
 pg : W.plainGet K C Str.empty = true
 hd : W.hasDictIn K C = true
 po : W.plainOver K C = true
 sa : W.findIn K (.ref C) "__setattr__" = some (some (.builtin "object.__setattr__"))
theorem Cls.get {K : W.Frag} {C : Addr} (c : Cls K C) (f : Str) : W.plainGet K C f = true := c.pg
noncomputable def NoAttr (K : W.Frag) (C : Addr) (f : Str) : Prop := W.findIn K (.ref C) f = some none
theorem NoAttr.taker {K : W.Frag} {C : Addr} {f : Str} (n : NoAttr K C f) : W.takerIn K C f = some none := by
 unfold W.takerIn
 rw [show W.findIn K (.ref C) f = some none from n]
 rfl
structure Con (K : W.Frag) (C : Addr) (f : Str) (v : V) (u : Value) : Prop where
 at_ : W.findIn K (.ref C) f = some (some u)
 rel : RelV v u
 get : W.specialIn K u "__get__" = some none
 cp : W.copiedNames.contains f = false
structure Meth (K : W.Frag) (C : Addr) (m : Str) (f : Addr) : Prop where
 at_ : W.findIn K (.ref C) m = some (some (.ref f))
 fn : W.isFn K (.ref f) = true
 kp : W.keepIn K (.ref f) = true
section
variable {X : Cx} {pins : A6} {σ : St} {H : Hp} {s : Shared} {a C dx : Addr} {fs : List (Str × V)} {f : Str} {v : V} {A : Around} {E : A8}
theorem iQ {m : Str} {g : Addr} {pl : Sem Bool} {Q : Value × List Value -> Shared -> Prop} (I : Inv X pins σ H s) (e : H a = some (.ins C dx fs)) (c : Cls X.K C) (k : Meth X.K C m g) (l : fs.lookup m = none)
  (h : Q (.ref g, [.ref a]) s) : wpAny (model X.prog X.w) A (getMethod (.ref a) m pl) Q E s := by
 obtain ⟨mA, O, r, _, _, _⟩ := nC I.hok e
 have hn : mA m = none := RelO.none_of (by rw [<- l]; exact r m)
 exact pR I.kIn O (c.get m) k.at_ k.fn hn h
theorem mx {y : V} {u : Value} {Q : Unit -> Shared -> Prop} (I : Inv X pins σ H s) (e : H a = some (.ins C dx fs)) (c : Cls X.K C) (n : NoAttr X.K C f) (hl : fs.length < 1000) (ry : RelV y u)
  (h : ∀ s', Inv X pins σ (upd H a (.ins C dx (putF f y fs))) s' -> Q () s') : wpAny (model X.prog X.w) A (setAttr (.ref a) f u) Q E s := by
 obtain ⟨mA, O, r, wi, _, ho⟩ := nC I.hok e
 have hz : (fs.map (·.1)).length <= sizeLine := by rw [List.length_map, sizeLine_eq]; lia
 refine rE I.kIn O c.sa c.po n.taker c.hd wi hz fun h' O' sb => h _ ?_
 have hd : ∃ o, h'.get? dx = some o := let ⟨o, _, _, e', _⟩ := O'.ns; ⟨o, e'⟩
 refine I.write (x := a) (e := dx) (by rw [e]; exact True.intro) (.inr ho) (fun b q hb z => (sb.2 b hb).trans z) hd ?_
 refine ⟨by rw [av O.ne]; exact ho, ?_, O.ne, O'.obj, _, O'.ns, fun g => ?_, fun g hg => ?_⟩
 ·have := ij f y fs; lia
 ·show RelO ((putF f y fs).lookup g) (if g = f then some u else mA g)
  rw [ig]
  by_cases q : g = f
  ·rw [if_pos q, if_pos q]; exact ry
  ·rw [if_neg q, if_neg q]; exact r g
 ·by_cases q : g = f
  ·rw [q]; exact (hJ f y fs).1
  ·refine (hJ f y fs).2 g (wi g fun z => hg ?_)
   show (if g = f then some u else mA g) = none
   rw [if_neg q]; exact z
theorem Inv.made (I : Inv X pins σ H s) : Inv X pins σ (upd (upd H s.heap.objs.size (.own (s.heap.objs.size + 1))) (s.heap.objs.size + 1) (.ins C s.heap.objs.size []))
  { s with heap := (s.heap.push W.emptyDict).push (W.instObj C s.heap.objs.size) } := by
 have e1 : (s.heap.push W.emptyDict).get? s.heap.objs.size = some W.emptyDict := Heap.get?_push_size s.heap rfl
 have e2 : ((s.heap.push W.emptyDict).push (W.instObj C s.heap.objs.size)).get? (s.heap.objs.size + 1) = some (W.instObj C s.heap.objs.size) := by
  have := Heap.get?_push_size (s.heap.push W.emptyDict) (o := W.instObj C s.heap.objs.size) rfl
  rwa [Heap.size_push] at this
 have e3 : (s.heap.push W.emptyDict).Ns s.heap.objs.size (fun _ => none) := ⟨W.emptyDict, #[], _, e1, rfl, (fun e he => absurd he (by simp)), fun _ => rfl⟩
 have I1 := I.laid (a := s.heap.objs.size) (o := .own (s.heap.objs.size + 1)) (h' := s.heap.push W.emptyDict) (t' := s.toks) (fun b u q => Heap.get?_push_of_some _ q) (Nat.le_refl _) ⟨_, e1⟩
 refine I1.laid (a := s.heap.objs.size + 1) (o := .ins C s.heap.objs.size []) (t' := s.toks) (fun b u q => Heap.get?_push_of_some _ q) (Nat.le_of_eq (Heap.size_push _ _)) ?_
 have ne : s.heap.objs.size ≠ s.heap.objs.size + 1 := Nat.ne_of_lt (Nat.lt_succ_self _)
 refine ⟨by rw [av ne, aK], Nat.zero_le _, ne, e2, fun _ => none, (Heap.Ns1.of_empty e3).at fun o q => Heap.get?_push_of_some _ q, fun _ => True.intro, fun y hy => absurd rfl hy⟩
end
noncomputable def sFld (K : W.Frag) (ta tv : TE) (f : Str) : TS := fun D σ H => tv σ H fun y H1 => ta σ H1 fun x H2 => ∃ a C dx fs, x = .ref a /\ H2 a = some (.ins C dx fs) /\ Cls K C /\ NoAttr K C f /\ fs.length < 1000 /\
 D.nx σ (upd H2 a (.ins C dx (putF f y fs)))
section
variable {X : Cx} {o e value : Expr} {f : Str} {pos pos' tpos : Pos} {ta tv : TE}
theorem kl (ha : PE X o ta) (hv : PE X value tv) (hs : swapsWith value (some (.Attribute o f pos')) pos.line X.env = pure false) : PS X (.Assign [.Attribute o f pos'] value pos) (sFld X.K ta tv f) := by
 intro pins s σ H D I h
 refine plainObj_wpAny_Assign_Attribute (thn (hv pins s σ H _ I h) fun u s1 ⟨y, H1, I1, ry, q⟩ => thn (ha pins s1 σ H1 _ I1 q) fun ov s2 ⟨x, H2, I2, rx, a, C, dx, fs, ex, ea, c, n, l, q2⟩ => ?_) hs
 subst ex
 obtain rfl : ov = Value.ref a := rx
 exact mx I2 ea c n l ry fun s3 I3 => ⟨σ, _, I3, q2⟩
theorem tQ {pl : Sem Bool} {m : Str} {apos : Pos} {args : List Expr} {pins : A6} {s : Shared} {σ : St} {H : Hp} {Q : A8} {te : TE} (he : PE X e te) (I : Inv X pins σ H s)
  (h : te σ H fun x H1 => ∃ a C dx fs g, x = .ref a /\ H1 a = some (.ins C dx fs) /\ Cls X.K C /\ Meth X.K C m g /\ fs.lookup m = none /\
   ∀ s1, Inv X pins σ H1 s1 -> wpAny (model X.prog X.w) X.A (callWith pos (.ref g) [.ref a] (backTo pos (starEach args X.env)) (backToKw pos (keywordEach [] X.env))) Q X.xe s1)
  (ht : eval (.Call (.Attribute e m apos) args [] pos) X.env = (do
   let ov <- eval e X.env
   standAt apos.atName
   let (f, first) <- holding [ov] (getMethod ov m pl)
   callWith pos f first (backTo pos (starEach args X.env)) (backToKw pos (keywordEach [] X.env)))) :
  wpAny (model X.prog X.w) X.A (eval (.Call (.Attribute e m apos) args [] pos) X.env) Q X.xe s := by
 refine W.methodCall_KW (pl := pl) (thn (he pins s σ H _ I h) fun u s1 ⟨x, H1, I1, rx, a, C, dx, fs, g, ex, ea, c, k, l, q⟩ => ?_) ht
 subst ex
 obtain rfl : u = Value.ref a := rx
 exact iQ I1 ea c k l (q s1 I1)
end
section
variable {X : Cx} {pins : A6} {σ : St} {H : Hp} {s : Shared} {A : Around} {E : A8} {Q : A8} {c : Value} {b : Bool}
inductive TyOf (K : W.Frag) (H : Hp) : V -> Value -> Prop where
 | non : TyOf K H .non (.type "NoneType")
 | bl (x : Bool) : TyOf K H (.bl x) (.type "bool")
 | int (i : Int) : TyOf K H (.int i) (.type "int")
 | str (x : Str) : TyOf K H (.str x) (.type "str")
 | flt (x : UInt64) : TyOf K H (.flt x) (.type "float")
 | lst {a : Addr} {xs : List V} (e : H a = some (.lst xs)) : TyOf K H (.ref a) (.type "list")
 | frz {a : Addr} {o : Obj} {xs : List V} (e : H a = some (.frz o (.lst xs))) : TyOf K H (.ref a) (.type "list")
 | tup {a : Addr} {xs : List V} (e : H a = some (.tup xs)) : TyOf K H (.ref a) (.type "tuple")
 | dK {a : Addr} {kvs : List (Key × V)} (e : H a = some (.dK kvs)) : TyOf K H (.ref a) (.type "dict")
 | dT {a : Addr} {kvs : List (List Key × V)} (e : H a = some (.dT kvs)) : TyOf K H (.ref a) (.type "dict")
 | ins {a C dx : Addr} {fs : List (Str × V)} (e : H a = some (.ins C dx fs)) (cl : Cls K C) (ha : W.findIn K (.ref C) "__class__" = some (some (.builtin "object.__class__")))
   (hn : W.specialIn K (.builtin "object.__class__") "__get__" = some (some (.builtin "getset_descriptor.__get__"))) (htk : W.takesIn K (.builtin "object.__class__") = some true)
   (hm : W.mroIn K C (.type "object") = some true) : TyOf K H (.ref a) (.ref C)
end
structure Room (k : Nat) (A : Around) : Prop where
 hd : A.handled = none
 dp : A.depth + 3 * k + 5 < recursionLimit
 un : A.units + 16 * k + 200 < cLine
theorem Room.mono {j k : Nat} {A : Around} (r : Room k A) (h : j <= k) : Room j A := ⟨r.hd, by have := r.dp; lia, by have := r.un; lia⟩
theorem Room.deeper {k : Nat} {A : Around} (r : Room (k + 1) A) (env : Env) : Room k (A.deeper env) :=
 ⟨r.hd, by have := r.dp; show A.depth + 1 + 3 * k + 5 < _; lia, by have := r.un; show A.units + 3 + 16 * k + 200 < _; lia⟩
theorem my {A : Around} {C : Addr} {us : List Value} {kw : List (Str × Value)} : (A.under (.builtin "type.__call__" ⟨.ref C :: us, kw⟩)).depth = A.depth + 1 := by
 first | rfl | simp [Around.under, Code.weight, Code.isCreation, Code.isGuard, Code.isCaller, Code.frames, Code.isFrame, guardIds]
theorem mz {A : Around} {C : Addr} {us : List Value} {kw : List (Str × Value)} : (A.under (.builtin "type.__call__" ⟨.ref C :: us, kw⟩)).units = A.units + 1 := by
 first | rfl | simp [Around.under, Code.cUnits, Code.frames, Code.isFrame]
theorem Room.make {k : Nat} {A : Around} (r : Room (k + 1) A) (C : Addr) (us : List Value) (kw : List (Str × Value)) : Room k (A.under (.builtin "type.__call__" ⟨.ref C :: us, kw⟩)) :=
 ⟨r.hd, by have := r.dp; rw [my]; lia, by have := r.un; rw [mz]; lia⟩
theorem Room.depth {k : Nat} {A : Around} (r : Room k A) : A.depth < recursionLimit := by have := r.dp; lia
theorem Room.units {k : Nat} {A : Around} (r : Room k A) : A.units + 64 < cLine := by have := r.un; lia
def tNil : TA := fun _ H Q => Q [] H
noncomputable def AU (ta : TE) (tr : TA) : TA := fun σ H Q => ta σ H fun x H1 => tr σ H1 fun xs H2 => Q (x :: xs) H2
section
variable {X : Cx} {e : Expr} {es : List Expr} {te : TE} {t : TA} {pos : Pos}
theorem bC : PA X [] tNil := fun _ _ _ _ H Q I h => Calls.spliced_nil ⟨[], H, I, .nil, h⟩
theorem aV (ha : PE X e te) (hr : PA X es t) (hs : starEach (e :: es) X.env = (false, eval e X.env) :: starEach es X.env := by rfl) : PA X (e :: es) (AU te t) := by
 intro pos pins s σ H Q I h
 rw [hs]
 show wpAny _ _ (spliced ((false, eval e X.env) :: backTo pos (starEach es X.env))) _ _ s
 refine Calls.spliced_cons (thn (ha pins s σ H _ I h) fun u s1 ⟨x, H1, I1, r1, q1⟩ => ?_)
 exact thn (hr pos pins s1 σ H1 _ I1 q1) fun us s2 ⟨xs, H2, I2, r2, q2⟩ => ⟨x :: xs, H2, I2, .cons r1 r2, q2⟩
noncomputable def tTup (t : TA) : TE := fun σ H Q => t σ H fun xs H1 => xs.length <= sizeLine /\ ∀ p, H1 p = none -> Q (.ref p) (upd H1 p (.tup xs))
noncomputable def tLst (t : TA) : TE := fun σ H Q => t σ H fun xs H1 => xs.length <= sizeLine /\ ∀ p, H1 p = none -> Q (.ref p) (upd H1 p (.lst xs))
theorem uI {x1} (h : PA X es t) : PE X (.Tuple es x1 pos) (tTup t) := by
 intro pins s σ H Q I hq
 refine wpAny_Tuple_spliced (thn (h pos pins s σ H _ I hq) fun us s1 ⟨xs, H1, I1, r, z, q⟩ => ⟨by rw [<- r.length]; exact z, ?_⟩)
 have hf : H1 s1.heap.objs.size = none := I1.hok.fresh (Nat.le_refl _)
 refine ⟨.ref s1.heap.objs.size, upd H1 s1.heap.objs.size (.tup xs), I1.laid (t' := s1.toks) (fun b u e => Heap.get?_push_of_some _ e) (Nat.le_refl _) ?_, rfl, q _ hf⟩
 exact ⟨z, us, r, ⟨_, Heap.get?_push_size _ rfl, rfl, _, rfl⟩⟩
theorem pT (h : PA X es t) : PE X (.List es pos) (tLst t) := by
 intro pins s σ H Q I hq
 refine wpAny_List_spliced (thn (h pos pins s σ H _ I hq) fun us s1 ⟨xs, H1, I1, r, z, q⟩ => ⟨by rw [<- r.length]; exact z, ?_⟩)
 have hf : H1 s1.heap.objs.size = none := I1.hok.fresh (Nat.le_refl _)
 refine ⟨.ref s1.heap.objs.size, upd H1 s1.heap.objs.size (.lst xs), I1.laid (t' := s1.toks) (fun b u e => Heap.get?_push_of_some _ e) (Nat.le_refl _) ?_, rfl, q _ hf⟩
 exact ⟨z, us, 0, r, Heap.get?_push_size _ rfl⟩
end
abbrev Sp := List V -> Hp -> VK -> XK -> Prop
abbrev CXT := List Env -> Hp -> Shared -> XK -> Value -> Shared -> Prop
structure Env0 (P : Program) (w : World) (K : W.Frag) (mg : A5) (base : Heap) (A : Around) (outer : List Env) (s : Shared) (H : Hp) : Prop where
 frames : A.frames = some outer
 mod : Mod K mg base
 bs : ∀ b o, base.get? b = some o -> s.heap.get? b = some o /\ H b = none
 bsz : base.objs.size <= s.heap.objs.size
 funs : s.heap.FunFrames base outer
 frf : ∀ b ∈ frs outer, H b = none
 hok : HOk P w H s.heap
 bare : AllBare s.gens
noncomputable def CE (outer : List Env) (P : Program) (w : World) (H : Hp) (s : Shared) (Q : VK) (u : Value) (s' : Shared) : Prop :=
 ∃ v H', s'.os = s.os /\ AllBare s'.gens /\ Un (frs outer) [] H H' s.heap s'.heap /\ HOk P w H' s'.heap /\ RelV v u /\ Q v H'
noncomputable def CR (CX : CXT) (outer : List Env) (P : Program) (w : World) (H : Hp) (s : Shared) (Q : VK) (E : XK) (r : Result) (s' : Shared) : Prop :=
 match r with
 | .ok (.ret u) => CE outer P w H s Q u s'
 | .ok _ => False
 | .error e => CX outer H s E e s'
structure FnOk (P : Program) (w : World) (K : W.Frag) (mg : A5) (base : Heap) (CX : CXT) (k : Nat) (f : Addr) (fd : FuncData) (ps : List Str) (sp : Sp) : Prop where
 len : ∀ vs H Q E, sp vs H Q E -> vs.length = ps.length
 run : ∀ (A : Around) (outer : List Env) (s : Shared) (H : Hp) (args : Args) (us : List Value) (vs : List V) (Q : VK) (E : XK), Room k A -> Env0 P w K mg base A outer s H -> BindsTo s fd args (ps.zip us) -> Vals vs us -> sp vs H Q E ->
  codeAny (model P w) A (.call (.ref f) args) (CR CX outer P w H s Q E) s
theorem FnOk.imp {P : Program} {w : World} {K : W.Frag} {mg : A5} {base : Heap} {CX : CXT} {k : Nat} {f : Addr} {fd : FuncData} {ps : List Str} {sp sp' : Sp} (F : FnOk P w K mg base CX k f fd ps sp)
  (h : ∀ vs H Q E, sp' vs H Q E -> sp vs H Q E) : FnOk P w K mg base CX k f fd ps sp' :=
 ⟨fun vs H Q E q => F.len vs H Q E (h _ _ _ _ q), fun A outer s H args us vs Q E hr he hb hv hs => F.run A outer s H args us vs Q E hr he hb hv (h _ _ _ _ hs)⟩
theorem Env0.make {P : Program} {w : World} {K : W.Frag} {mg : A5} {base : Heap} {A : Around} {outer : List Env} {s : Shared} {H : Hp} (e : Env0 P w K mg base A outer s H) (C : Addr) (us : List Value) (kw : List (Str × Value)) :
  Env0 P w K mg base (A.under (.builtin "type.__call__" ⟨.ref C :: us, kw⟩)) outer s H := ⟨by first | exact e.frames | (simpa [Around.under, Code.envs, Code.isFrame, pushEnvs] using e.frames), e.mod, e.bs, e.bsz, e.funs, e.frf, e.hok, e.bare⟩
section
variable {X : Cx} {pins : A6} {σ : St} {H : Hp} {s s' : Shared}
theorem Inv.env0 (I : Inv X pins σ H s) : Env0 X.prog X.w X.K X.mg X.base X.A X.stack s H :=
 ⟨I.ok.frames, I.ok.mod, I.bs, Nat.le_trans I.ok.bsz I.sz, I.stack, I.stkFree, I.hok, I.bare⟩
theorem Inv.after {Q : VK} {u : Value} (I : Inv X pins σ H s) (h : CE X.stack X.prog X.w H s Q u s') : EP X pins σ Q u s' := by
 obtain ⟨v, H', os, bare, un, hok, r, q⟩ := h
 obtain ⟨hh, g, d, t, os'⟩ := s'
 obtain rfl : os' = s.os := os
 exact ⟨v, H', I.call (h' := hh) (g' := g) (d' := d) (t' := t) (ch := []) un hok bare (fun b z => absurd z (by simp)), r, q⟩
end
noncomputable def BF (sp : Sp) (dvs : List V) (E : XK) (t : TA) : TE := fun σ H Q => t σ H fun vs H1 => sp (vs ++ dvs) H1 Q E
noncomputable def Ca (C : Addr) (m : Str) (sp : Sp) (dvs : List V) (E : XK) (ta : TE) (t : TA) : TE := fun σ H Q => ta σ H fun x H1 => ∃ a dx fs, x = .ref a /\ H1 a = some (.ins C dx fs) /\ fs.lookup m = none /\
 t σ H1 fun vs H2 => sp (x :: (vs ++ dvs)) H2 Q E
noncomputable def Cb (C : Addr) (sp : Sp) (dvs : List V) (E : XK) (t : TA) : TE := fun σ H Q => t σ H fun vs H1 => ∀ x dx, H1 x = none -> H1 dx = none -> dx ≠ x ->
 sp (.ref x :: (vs ++ dvs)) (upd (upd H1 dx (.own x)) x (.ins C dx [])) (fun v H2 => v = .non /\ Q (.ref x) H2) E
noncomputable def Binds (K : W.Frag) (fd : FuncData) (ps : List Str) (ds : List Value) : Prop :=
 ∀ (s : Shared) (us : List Value), K.In s.heap -> (us ++ ds).length = ps.length -> BindsTo s fd ⟨us, []⟩ (ps.zip (us ++ ds))
theorem Binds.all {K : W.Frag} {fd : FuncData} {ps : List Str} (h : ∀ us : List Value, us.length = ps.length -> bindArgs fd ⟨us, []⟩ = pure (ps.zip us)) : Binds K fd ps [] := fun s us _ hl => by
 rw [List.append_nil] at hl ⊢
 exact .of_eq (h us hl)
noncomputable def Passes (CX : CXT) (X : Cx) (E : XK) : Prop := ∀ (pins : A6) (σ : St) (H : Hp) (s : Shared) (e : Value) (s' : Shared), Inv X pins σ H s -> CX X.stack H s E e s' -> X.xe e s'
section
variable {X : Cx} {CX : CXT} {k : Nat} {f C : Addr} {fd : FuncData} {ps : List Str} {sp : Sp} {dvs : List V} {ds : List Value} {E : XK} {x m : Str} {p pos apos : Pos} {e o : Expr} {es : List Expr} {ta : TE} {t : TA}
theorem pU {pins : A6} {σ : St} {H : Hp} {s : Shared} {Q : VK} {us : List Value} {vs : List V} (F : FnOk X.prog X.w X.K X.mg X.base CX k f fd ps sp) (hr : Room k X.A) (hb : Binds X.K fd ps ds) (hd : Vals dvs ds) (hx : Passes CX X E)
  (I : Inv X pins σ H s) (r : Vals vs us) (h : sp (vs ++ dvs) H Q E) : wpAny (model X.prog X.w) X.A (call (.ref f) us) (EP X pins σ Q) X.xe s := by
 have r2 : Vals (vs ++ dvs) (us ++ ds) := r.append hd
 have hl : (us ++ ds).length = ps.length := by rw [<- r2.length]; exact F.len _ _ _ _ h
 refine wpAny_call (codeAny_mono (F.run X.A X.stack s H ⟨us, []⟩ (us ++ ds) (vs ++ dvs) Q E hr I.env0 (hb s us I.kIn hl) r2 h) fun r s' hq => ?_)
 cases r with
 | error e => exact hx pins σ H s e s' I hq
 | ok fl =>
  cases fl with
  | ret u => exact I.after hq
  | next => exact False.elim hq
  | brk => exact False.elim hq
  | cont => exact False.elim hq
theorem rF (F : FnOk X.prog X.w X.K X.mg X.base CX k f fd ps sp) (hr : Room k X.A) (hg : Gl X x) (hm : X.mg x = some (.ref f)) (hk : W.keepIn X.K (.ref f) = true) (hb : Binds X.K fd ps ds) (hd : Vals dvs ds) (hx : Passes CX X E)
  (ha : PA X (e :: es) t) (hdb : (x == ("__debug__" : Str)) = false := by decide) (he : starEach (e :: es) X.env = (false, eval e X.env) :: starEach es X.env := by rfl) (hpl : (backTo pos (starEach es X.env)).any (·.1) = false := by rfl) :
  PE X (.Call (.Name x p) (e :: es) [] pos) (BF sp dvs E t) := by
 intro pins s σ H Q I h
 refine wpAny_Call_Name_kw (dq I hg hm ?_ hdb)
 refine W.callWith_K (h₀ := X.base) I.ok.mod.kin hk (thn (ha pos pins s σ H _ I h) fun us s1 ⟨vs, H1, I1, r, q⟩ => ⟨I1.kIn, ?_⟩) he hpl
 exact pU F hr hb hd hx I1 r q
theorem rG {pl : Sem Bool} (he : PE X o ta) (c : Cls X.K C) (hm : Meth X.K C m f) (F : FnOk X.prog X.w X.K X.mg X.base CX k f fd ps sp) (hr : Room k X.A) (hb : Binds X.K fd ps ds) (hd : Vals dvs ds) (hx : Passes CX X E) (ha : PA X (e :: es) t)
  (hst : starEach (e :: es) X.env = (false, eval e X.env) :: starEach es X.env := by rfl) (hpl : (backTo pos (starEach es X.env)).any (·.1) = false := by rfl)
  (ht : eval (.Call (.Attribute o m apos) (e :: es) [] pos) X.env = (do
   let ov <- eval o X.env
   standAt apos.atName
   let (f, first) <- holding [ov] (getMethod ov m pl)
   callWith pos f first (backTo pos (starEach (e :: es) X.env)) (backToKw pos (keywordEach [] X.env))) := by rfl) :
  PE X (.Call (.Attribute o m apos) (e :: es) [] pos) (Ca C m sp dvs E ta t) := by
 intro pins s σ H Q I h
 refine W.methodCall_KW (pl := pl) (thn (he pins s σ H _ I h) fun u s1 ⟨x, H1, I1, rx, a, dx, fs, ex, ea, l, q⟩ => ?_) ht
 subst ex
 obtain rfl : u = Value.ref a := rx
 refine iQ I1 ea c hm l ?_
 refine W.callWith_K (first := [.ref a]) (h₀ := X.base) I.ok.mod.kin hm.kp (thn (ha pos pins s1 σ H1 _ I1 q) fun us s2 ⟨vs, H2, I2, r, q2⟩ => ⟨I2.kIn, ?_⟩) hst hpl
 exact pU (us := .ref a :: us) (vs := .ref a :: vs) F hr hb hd hx I2 (.cons rfl r) q2
structure Mk (K : W.Frag) (C f : Addr) : Prop where
 makes : W.makesIn K C = true
 init : W.findIn K (.ref C) "__init__" = some (some (.ref f))
 fn : W.isFn K (.ref f) = true
 kp : W.keepIn K (.ref C) = true
theorem pV {pins : A6} {σ : St} {H : Hp} {s : Shared} {Q : VK} {us : List Value} {vs : List V} (M : Mk X.K C f) (F : FnOk X.prog X.w X.K X.mg X.base CX k f fd ps sp) (hr : Room (k + 1) X.A) (hb : Binds X.K fd ps ds) (hd : Vals dvs ds)
  (hx : Passes CX X E) (I : Inv X pins σ H s) (r : Vals vs us)
  (h : ∀ x dx, H x = none -> H dx = none -> dx ≠ x -> sp (.ref x :: (vs ++ dvs)) (upd (upd H dx (.own x)) x (.ins C dx [])) (fun v H2 => v = .non /\ Q (.ref x) H2) E) :
  wpAny (model X.prog X.w) X.A (call (.ref C) us) (EP X pins σ Q) X.xe s := by
 have hq := h (s.heap.objs.size + 1) s.heap.objs.size (I.hok.fresh (Nat.le_succ _)) (I.hok.fresh (Nat.le_refl _)) (Nat.ne_of_lt (Nat.lt_succ_self _))
 have I2 := Inv.made (C := C) I
 have r2 : Vals (V.ref (s.heap.objs.size + 1) :: (vs ++ dvs)) (Value.ref (s.heap.objs.size + 1) :: (us ++ ds)) := .cons rfl (r.append hd)
 have hl : (Value.ref (s.heap.objs.size + 1) :: us ++ ds).length = ps.length := by
  have e := r2.length
  rw [F.len _ _ _ _ hq] at e
  exact e.symm
 refine wpAny_call (pS (f := f) I.kIn M.makes M.init (beq_iff_eq.mp M.fn) (codeAny_mono (F.run _ X.stack _ _ ⟨Value.ref (s.heap.objs.size + 1) :: us, []⟩ (Value.ref (s.heap.objs.size + 1) :: (us ++ ds)) _ _ E (hr.make C us [])
  (I2.env0.make C us []) (hb _ (Value.ref (s.heap.objs.size + 1) :: us) I2.kIn hl) r2 hq) fun r s' hq' => ?_))
 cases r with
 | error e => exact hx pins σ _ _ e s' I2 hq'
 | ok fl =>
  cases fl with
  | ret u =>
   obtain ⟨v, H', I3, rv, ev, q3⟩ := I2.after hq'
   subst ev
   exact ⟨rv, ⟨V.ref (s.heap.objs.size + 1), H', I3, rfl, q3⟩⟩
  | next => exact False.elim hq'
  | brk => exact False.elim hq'
  | cont => exact False.elim hq'
theorem pW (M : Mk X.K C f) (F : FnOk X.prog X.w X.K X.mg X.base CX k f fd ps sp) (hr : Room (k + 1) X.A) (hg : Gl X x) (hm : X.mg x = some (.ref C)) (hb : Binds X.K fd ps ds) (hd : Vals dvs ds) (hx : Passes CX X E)
  (hdb : (x == ("__debug__" : Str)) = false := by decide) : PE X (.Call (.Name x p) [] [] pos) (Cb C sp dvs E tNil) := by
 intro pins s σ H Q I h
 refine wpAny_Call_Name_kw (dq I hg hm ?_ hdb)
 exact W.callWith_K0 I.kIn M.kp (pV (us := []) M F hr hb hd hx I .nil h)
end
section
variable {X : Cx} {CX : CXT} {k : Nat} {f C : Addr} {fd : FuncData} {ps ks : List Str} {sp : Sp} {E : XK} {x m : Str} {p pos apos kpos : Pos} {e o : Expr} {es : List Expr} {kws : List Keyword} {te ta : TE} {t tk : TA} {nm : Option Str}
structure CK (K : W.Frag) (fd : FuncData) (ps ks : List Str) (g : List Value -> List Value -> List Value) (gV : List V -> List V -> List V) : Prop where
 to : ∀ (s : Shared) (us ws : List Value), K.In s.heap -> (g us ws).length = ps.length -> BindsTo s fd ⟨us, ks.zip ws⟩ (ps.zip (g us ws))
 rel : ∀ {vs : List V} {us : List Value} {zs : List V} {ws : List Value}, Vals vs us -> Vals zs ws -> Vals (gV vs zs) (g us ws)
variable {g : List Value -> List Value -> List Value} {gV : List V -> List V -> List V}
end
structure Ae (N P : List Str) (sc : Scope) : Prop where
 kind : sc.kind = .function
 co : sc.isCoroutine = false
 gen : sc.isGenerator = false
 nd : N.Nodup
 pre : N.take P.length = P
 par : ∀ x ∈ P, sc.names.lookup x = some .local \/ sc.names.lookup x = some .cell
 nofree : ∀ y ∈ sc.names, y.2 ≠ .free
theorem jD {kindOf : Str -> Option NameKind} {x : Str} : ∀ {binds : List (Str × Value)} {m : A5}, (∀ v, (x, v) ∉ binds) -> bindL kindOf binds m x = m x
 | [], _, _ => rfl
 | (n, v) :: r, m, h => by
  unfold bindL
  rw [jD fun w hw => h w (List.mem_cons_of_mem _ hw)]
  split
  ·have : x ≠ n := by rintro rfl; exact h v List.mem_cons_self
   simp [this]
  ·rfl
theorem jE {kindOf : Str -> Option NameKind} {x : Str} : ∀ {binds : List (Str × Value)} {m : A5}, (∀ v, (x, v) ∉ binds) -> bindC kindOf binds m x = m x
 | [], _, _ => rfl
 | (n, v) :: r, m, h => by
  unfold bindC
  rw [jE fun w hw => h w (List.mem_cons_of_mem _ hw)]
  split
  ·rfl
  ·have : x ≠ n := by rintro rfl; exact h v List.mem_cons_self
   simp [this]
theorem jF {kindOf : Str -> Option NameKind} {x : Str} {v : Value} : ∀ {P : List Str} {vs : List Value} {i : Nat} {m : A5}, P.Nodup -> P[i]? = some x -> vs[i]? = some v -> kindOf x = some .local ->
  bindL kindOf (P.zip vs) m x = some v
 | [], _, _, _, _, h, _, _ => by simp at h
 | _ :: _, [], _, _, _, _, h, _ => by simp at h
 | p :: P, w :: vs, 0, m, nd, h1, h2, hk => by
  simp at h1 h2; subst h1; subst h2
  show bindL kindOf ((p, w) :: P.zip vs) m p = _
  unfold bindL
  rw [jD fun v hv => (List.nodup_cons.mp nd).1 (List.of_mem_zip hv).1, if_pos hk]
  simp
 | p :: P, w :: vs, i + 1, m, nd, h1, h2, hk => by
  show bindL kindOf ((p, w) :: P.zip vs) m x = _
  unfold bindL
  exact jF (i := i) (List.nodup_cons.mp nd).2 (by simpa using h1) (by simpa using h2) hk
theorem jG {kindOf : Str -> Option NameKind} {x : Str} {v : Value} : ∀ {P : List Str} {vs : List Value} {i : Nat} {m : A5}, P.Nodup -> P[i]? = some x -> vs[i]? = some v -> kindOf x ≠ some .local ->
  bindC kindOf (P.zip vs) m x = some v
 | [], _, _, _, _, h, _, _ => by simp at h
 | _ :: _, [], _, _, _, _, h, _ => by simp at h
 | p :: P, w :: vs, 0, m, nd, h1, h2, hk => by
  simp at h1 h2; subst h1; subst h2
  show bindC kindOf ((p, w) :: P.zip vs) m p = _
  unfold bindC
  rw [jE fun v hv => (List.nodup_cons.mp nd).1 (List.of_mem_zip hv).1, if_neg hk]
  simp
 | p :: P, w :: vs, i + 1, m, nd, h1, h2, hk => by
  show bindC kindOf ((p, w) :: P.zip vs) m x = _
  unfold bindC
  exact jG (i := i) (List.nodup_cons.mp nd).2 (by simpa using h1) (by simpa using h2) hk
noncomputable def start (N : List Str) (vs : List V) : St := vs.map some ++ List.replicate (N.length - vs.length) none
noncomputable def cxOf (CX : CXT) (P : Program) (w : World) (K : W.Frag) (mg : A5) (base : Heap) (N : List Str) (qual : Str) (scope : Scope) (f : Addr) (cd : Value) (A : Around) (outer : List Env) (s : Shared) (H : Hp) (E : XK) : Cx where
 prog := P
 w := w
 K := K
 mg := mg
 base := base
 A := A.deeper (envOfC qual scope s.heap.objs.size f cd)
 N := N
 s₀ := s
 H₀ := H
 env := envOfC qual scope s.heap.objs.size f cd
 outer := outer
 stack := envOfC qual scope s.heap.objs.size f cd :: outer
 ex := []
 calm := true
 fn := fun _ => true
 pn := []
 xe := fun e s' => wpAny (model P w) (A.deeper (envOfC qual scope s.heap.objs.size f cd)) (leaving (envOfC qual scope s.heap.objs.size f cd) e) (fun _ s'' => CX outer H s E e s'') (fun e' s'' => CX outer H s E e' s'') s'
theorem kZ {sc : Scope} {n : Nat} {x : Str} (h : sc.names.lookup x = some .cell) : ∃ c, (cellsFrom n sc.names []).lookup x = some c := by
 have q := W.cellsFrom_some sc.names n [] (.inl h)
 exact Option.isSome_iff_exists.mp q
theorem oC {CX : CXT} {P : Program} {w : World} {K : W.Frag} {mg : A5} {base : Heap} {N ps : List Str} {qual : Str} {scope : Scope} {f : Addr} {cd : Value} {A : Around} {outer : List Env} {s s1 : Shared} {H : Hp} {E : XK} {us : List Value} {vs : List V}
  (S : Ae N ps scope) (hd : A.handled = none) (e0 : Env0 P w K mg base A outer s H) (hl : vs.length = ps.length) (r : Vals vs us)
  (x : InCallC s s.heap.objs.size (bindL (envOfC qual scope s.heap.objs.size f cd).kindOf (ps.zip us) fun _ => none) (cellsFrom (s.heap.objs.size + 1) scope.names []) (bindC (envOfC qual scope s.heap.objs.size f cd).kindOf (ps.zip us) fun _ => none) s1) :
  Inv (cxOf CX P w K mg base N qual scope f cd A outer s H E) [] (start N vs) H s1 := by
 have hpl : ps.length <= N.length := by have := congrArg List.length S.pre; rw [List.length_take] at this; lia
 obtain ⟨h1, tk, rfl, hk⟩ := x.done
 have noA : ∀ b : Addr, b ∉ (cxOf CX P w K mg base N qual scope f cd A outer s H E).ex := fun b z => absurd (show b ∈ ([] : List Addr) from z) (by simp)
 refine ⟨⟨e0.mod, S.kind, rfl, rfl, Nat.le_refl _, fun y z c h1 h2 => ?_, fun y hy => ?_, fun y c _ h => ?_, fun _ => hd, Around.frames_deeper e0.frames, .inr ⟨rfl, rfl⟩, fun b z => absurd z (noA b), e0.bs, e0.bsz, fun b _ _ => noA b, fun b z => absurd z (noA b), e0.funs, e0.frf⟩,
  rfl, e0.bare, Un.kept hk, ⟨_, x.toInCall.ns, fun i y v h1 h2 h3 => ?_⟩, fun y c h => ⟨_, x.cell y c h⟩, e0.hok.fresh (Nat.le_refl _), fun y c h => ?_, fun p hp => absurd (show p ∈ ([] : A6) from hp) (by simp), e0.hok.kept hk, ?_⟩
 ·exact name_of_addr x.apart (PySem.mem_of_lookup h1) (PySem.mem_of_lookup h2)
 ·have hy : scope.names.lookup y = some .cell \/ scope.names.lookup y = some .free := hy
  rcases hy with hy | hy
  ·exact kZ hy
  ·exact absurd rfl (S.nofree _ (PySem.mem_of_lookup hy))
 ·exact Nat.le_of_lt (x.above y c (PySem.mem_of_lookup h))
 ·have hi : i < vs.length := by
   unfold start at h2
   by_cases hi : i < vs.length
   ·exact hi
   ·rw [List.getElem?_append_right (by simpa using hi)] at h2
    rw [List.getElem?_replicate] at h2
    split at h2 <;> cases h2
  have ha : vs[i]? = some v := by
   unfold start at h2
   rw [List.getElem?_append_left (by simpa using hi), List.getElem?_map] at h2
   cases e : vs[i]? with
   | none => rw [e] at h2; cases h2
   | some a => rw [e] at h2; cases h2; rfl
  obtain ⟨u, hu, rv⟩ := r.get ha
  have hp : ps[i]? = some y := by
   rw [<- S.pre, List.getElem?_take_of_lt (by lia)]; exact h1
  have ndP : ps.Nodup := by rw [<- S.pre]; exact S.nd.sublist (List.take_sublist _ _)
  refine ⟨u, rv, ?_⟩
  rcases S.par y (List.mem_of_getElem? hp) with k | k
  ·exact .inl ⟨k, jF ndP hp hu k⟩
  ·obtain ⟨c, e⟩ := kZ (n := s.heap.objs.size + 1) k
   refine .inr ⟨.inl k, c, e, ?_⟩
   have q := x.cell y c e
   rw [jG ndP hp hu (by show scope.names.lookup y ≠ _; rw [k]; decide)] at q
   exact q
 ·exact e0.hok.fresh (Nat.le_of_lt (x.above y c (PySem.mem_of_lookup h)))
 ·unfold start
  show _ = N.length
  rw [List.length_append, List.length_map, List.length_replicate]
  lia
theorem xf {CX : CXT} {P : Program} {w : World} {K : W.Frag} {mg : A5} {base : Heap} {k : Nat} {f : Addr} {name qual : Str} {params : Arguments} {body : List Stmt} {scope : Scope} {dV kV doc pm cdv ct oc : Value} {an od : Option Addr}
  {osl : Array (Option Value)} {N ps : List Str} {sp : Sp} (lk : K.lookup f = some ⟨oc, od, .func (W.fnOf name qual params body scope dV kV doc pm an cdv ct), osl⟩) (hcd : W.codeIn K cdv qual = true) (S : Ae N ps scope)
  (len : ∀ vs H Q E, sp vs H Q E -> vs.length = ps.length)
  (hbody : ∀ (A : Around) (outer : List Env) (s : Shared) (H : Hp) (vs : List V) (Q : VK) (E : XK), Room k (A.deeper (envOfC qual scope s.heap.objs.size f cdv)) -> sp vs H Q E ->
   ∃ t, PSs (cxOf CX P w K mg base N qual scope f cdv A outer s H E) body t /\ t { nx := fun _ H' => Q .non H', rt := Q } (start N vs) H) :
  FnOk P w K mg base CX (k + 1) f (W.fnOf name qual params body scope dV kV doc pm an cdv ct) ps sp := by
 refine ⟨len, fun A outer s H args us vs Q E hr e0 hb r hsp => ?_⟩
 have hl := len _ _ _ _ hsp
 have KX : K.In s.heap := e0.mod.kin.keeps fun b o e => (e0.bs b o e).1
 have lim : s.heap.NoLimit := e0.mod.nolimit.keeps fun b o e => (e0.bs b o e).1
 have hkind : ∀ y ∈ ps.zip us, scope.names.lookup y.1 = some .local \/ (scope.names.lookup y.1 = some .cell /\ ((cellsFrom (s.heap.objs.size + 1) scope.names []).lookup y.1).isSome = true) := fun ⟨n, v⟩ hy => by
  rcases S.par n (List.of_mem_zip hy).1 with q | q
  ·exact .inl q
  ·exact .inr ⟨q, W.cellsFrom_some _ _ _ (.inl q)⟩
 refine codeAny_call_function hr.depth (KX _ _ lk) rfl S.co S.gen rfl (W.codeRec_of KX hcd) (hb _ _ _ _ ?_)
 refine wpAny_newFunctionEnv_cells S.kind hkind fun env he s1 x => ?_
 subst he
 refine ⟨lim.keeps x.toInCall.keep, codeAny_func ?_⟩
 obtain ⟨t, ht, hq⟩ := hbody A outer s H vs Q E (hr.deeper _) hsp
 have I : Inv (cxOf CX P w K mg base N qual scope f cdv A outer s H E) [] (start N vs) H s1 := oC S hr.hd e0 hl r x
 refine wpAny_mono (ht [] s1 (start N vs) H _ I hq) (fun fl s' hs => ?_) fun e s' hs => hs
 have fin : ∀ {σ' : St} {H' : Hp} {v : V} {u : Value}, Inv (cxOf CX P w K mg base N qual scope f cdv A outer s H E) [] σ' H' s' -> RelV v u -> Q v H' -> CE outer P w H s Q u s' :=
  fun {σ' H' v u} J rv q => ⟨v, H', J.os, J.bare, J.base, J.hok, rv, q⟩
 cases fl with
 | ret u =>
  obtain ⟨v, σ', H', J, rv, q⟩ := hs
  exact fin J rv q
 | next =>
  obtain ⟨σ', H', J, q⟩ := hs
  exact fin (v := V.non) (u := Value.none) J rfl q
 | brk =>
  obtain ⟨_, _, _, q⟩ := hs
  exact False.elim q
 | cont =>
  obtain ⟨_, _, _, q⟩ := hs
  exact False.elim q
section
variable {X : Cx} {x : Str} {p pos : Pos} {e : Expr} {es : List Expr} {t : TA} {id T : String} {r : List V -> Hp -> VK -> Prop}
noncomputable def tCB (r : List V -> Hp -> VK -> Prop) (t : TA) : TE := fun σ H Q => t σ H fun vs H1 => r vs H1 Q
theorem iR (hc : AD X (.builtin id) r) (hg : Gl X x) (hm : X.mg x = none) (hv : bootBuiltins x = some (.builtin id)) (ha : PA X (e :: es) t) (hn : x ≠ "__name__" := by decide) (hdb : (x == ("__debug__" : Str)) = false := by decide)
  (he : starEach (e :: es) X.env = (false, eval e X.env) :: starEach es X.env := by rfl) (hpl : (backTo pos (starEach es X.env)).any (·.1) = false := by rfl) : PE X (.Call (.Name x p) (e :: es) [] pos) (tCB r t) := by
 intro pins s σ H Q I h
 refine wpAny_Call_Name_kw (iO I hg hm hv ?_ hn hdb)
 exact callWith_builtin1 (thn (ha pos pins s σ H _ I h) fun us s1 ⟨vs, H1, I1, r1, q1⟩ => hc pins s1 σ H1 vs us Q I1 r1 q1) he hpl
theorem jH (hc : AD X (.type T) r) (hg : Gl X x) (hm : X.mg x = none) (hv : bootBuiltins x = some (.type T)) (ha : PA X (e :: es) t) (hn : x ≠ "__name__" := by decide) (hdb : (x == ("__debug__" : Str)) = false := by decide)
  (he : starEach (e :: es) X.env = (false, eval e X.env) :: starEach es X.env := by rfl) (hpl : (backTo pos (starEach es X.env)).any (·.1) = false := by rfl) : PE X (.Call (.Name x p) (e :: es) [] pos) (tCB r t) := by
 intro pins s σ H Q I h
 refine wpAny_Call_Name_kw (iO I hg hm hv ?_ hn hdb)
 exact callWith_type1 (thn (ha pos pins s σ H _ I h) fun us s1 ⟨vs, H1, I1, r1, q1⟩ => hc pins s1 σ H1 vs us Q I1 r1 q1) he hpl
end
end L2
namespace HT
open PySem PyProof.Rows
noncomputable def BR : List Int -> List Int -> Bool
 | [], [] => false
 | [], _ :: _ => true
 | _ :: _, [] => false
 | x :: xs, y :: ys => if x = y then BR xs ys else decide (x < y)
section
open PySem.SeqAt
open PySem.AutoSeq1 (wpAny_loadPart')
open PySem.MeetsSeq PySem.MeetsSeq2 PySem.MeetsSeq3
end
section
variable {prog : Program} {w : World} {A : Around} {E : A8} {s : Shared}
theorem rH {t b : Addr} {vs ws : List Value} {Q : A8} (ht : IsTup s.heap t vs.toArray) (hb : IsTup s.heap b ws.toArray) (hv : vs ≠ [])
  (h1 : ws = [] -> Q (.ref t) s) (h2 : ws ≠ [] -> Q (.ref s.heap.objs.size) { s with heap := s.heap.push { cls := .type "tuple", data := .seq (vs ++ ws).toArray } })
  (hsz : vs.length + ws.length <= sizeLine) : wpAny (model prog w) A (binaryOp .Add (.ref t) (.ref b)) Q E s := by
 obtain ⟨⟨cls, dd, data, sl⟩, ho, hc, n, hd⟩ := id ht
 obtain ⟨⟨cls2, dd2, data2, sl2⟩, ho2, hc2, n2, hd2⟩ := id hb
 simp only at hc hd hc2 hd2
 subst hc hd hc2 hd2
 have e : vs.toArray ++ ws.toArray = (vs ++ ws).toArray := by simp
 by_cases hw : ws = []
 ·exact concat_meets ⟨_, ho, rfl⟩ ⟨_, ho2, rfl⟩ noFill_tuple_add seq_tuple_add PySem.F.slot_tuple_add PySem.F.entry_tuple_add (PySem.F.args_tuple_add_2 _ _)
   (tuple_addW1 t b vs.toArray ws.toArray n n2 dd dd2 sl sl2 (by simpa using hv) (by simp [hw])) ⟨ho, ho2, h1 hw⟩
 ·refine concat_meets ⟨_, ho, rfl⟩ ⟨_, ho2, rfl⟩ noFill_tuple_add seq_tuple_add PySem.F.slot_tuple_add PySem.F.entry_tuple_add (PySem.F.args_tuple_add_2 _ _)
   (tuple_addW2 t b vs.toArray ws.toArray n n2 dd dd2 sl sl2 (by simpa using hv) (by simpa using hw) (by rw [List.size_toArray, List.size_toArray]; exact hsz)) ⟨ho, ho2, ?_⟩
  rw [e]
  exact h2 hw
noncomputable def sIx (n d : Nat) : Option Int -> Nat
 | none => d
 | some v => if v < 0 then (v + (n : Int)).toNat else min v.toNat n
theorem la (n d : Nat) : sIx n d none = d := rfl
theorem rJ (n d k : Nat) : sIx n d (some (k : Int)) = min k n := by
 show (if (k : Int) < 0 then ((k : Int) + (n : Int)).toNat else min (k : Int).toNat n) = min k n
 rw [if_neg (by lia), Int.toNat_natCast]
theorem uJ (n d : Nat) (hd : d <= n) (o : Option Int) : sIx n d o <= n := by
 cases o with
 | none => exact hd
 | some v =>
  show (if v < 0 then (v + (n : Int)).toNat else min v.toNat n) <= n
  by_cases hv : v < 0
  ·rw [if_pos hv]; lia
  ·rw [if_neg hv]; exact Nat.min_le_right _ _
theorem nD (v : Int) (n d : Nat) : (if v < 0 then max (v + (n : Int)) 0 else min v (n : Int)) = ((sIx n d (some v) : Nat) : Int) := by
 show (if v < 0 then max (v + (n : Int)) 0 else min v (n : Int)) = (((if v < 0 then (v + (n : Int)).toNat else min v.toNat n) : Nat) : Int)
 by_cases hv : v < 0
 ·simp only [if_pos hv]; lia
 ·simp only [if_neg hv]; lia
theorem mB (lo hi : Option Int) (n : Nat) : Builtin.Slice.sliceAdjust lo hi 1 (n : Int) = (((sIx n 0 lo : Nat) : Int), ((sIx n n hi : Nat) : Int)) := by
 have h1 : ¬ ((1 : Int) < 0) := by lia
 unfold Builtin.Slice.sliceAdjust
 simp only [h1, if_false]
 refine Prod.ext ?_ ?_
 ·cases lo with
  | none => rfl
  | some v => exact nD v n 0
 ·cases hi with
  | none => rfl
  | some v => exact nD v n n
theorem mC (i j : Nat) : Builtin.Slice.slicePlaces (i : Int) (j : Int) 1 = j - i := by
 unfold Builtin.Slice.slicePlaces
 have h1 : (1 : Int) > 0 := by lia
 simp only [h1, if_true, Int.ediv_one]
 split <;> lia
theorem iS {v : Value} {o : Option Int} {Q : Option Int -> Shared -> Prop} (p : IsPart v o) (h : Q o s) : wpAny (model prog w) A (Builtin.Slice.slicePartIndex v) Q E s := by
 cases p with
 | none => exact slicePart_none h
 | int i t => exact slicePart_int h
theorem eE {sl : Addr} {vl vu : Value} {lo hi : Option Int} {n : Nat} {Q : Int × Int × Nat -> Shared -> Prop} (hs : s.heap.IsSliceOf sl vl vu .none) (pl : IsPart vl lo) (pu : IsPart vu hi)
  (h : Q (((sIx n 0 lo : Nat) : Int), 1, sIx n n hi - sIx n 0 lo) s) : wpAny (model prog w) A (Builtin.Slice.sliceApplied (.ref sl) (pure (n : Int))) Q E s := by
 obtain ⟨os, hos, hcs, hds⟩ := id hs
 unfold Builtin.Slice.sliceApplied Builtin.Slice.sliceFields
 refine wpAny_bind (wpAny_bind (wpAny_field hos hds (x := vl) rfl (wpAny_bind (wpAny_field hos hds (x := vu) rfl (wpAny_bind (wpAny_field hos hds (x := .none) rfl (wpAny_pure ?_)))))))
 refine wpAny_bind (slicePart_none ?_)
 show wpAny _ _ (if ((1 : Int) == 0) = true then _ else _) _ _ s
 rw [if_neg (by decide)]
 refine wpAny_bind (iS pl (wpAny_bind (iS pu (wpAny_bind (wpAny_pure ?_)))))
 show wpAny _ _ (match Builtin.Slice.sliceAdjust lo hi 1 (n : Int) with | (lo, hi) => pure (lo, (1 : Int), Builtin.Slice.slicePlaces lo hi 1)) _ _ s
 rw [mB lo hi n]
 show wpAny _ _ (pure (((sIx n 0 lo : Nat) : Int), (1 : Int), Builtin.Slice.slicePlaces ((sIx n 0 lo : Nat) : Int) ((sIx n n hi : Nat) : Int) 1)) _ _ s
 rw [mC]
 exact wpAny_pure h
theorem pX (xs : Array Value) (i k : Nat) : ((List.range k).filterMap fun (m : Nat) => xs[((i : Int) + (m : Int) * 1).toNat]?).toArray = ((xs.toList.drop i).take k).toArray := by
 have e : (fun (m : Nat) => xs[((i : Int) + (m : Int) * 1).toNat]?) = fun m => xs[i + m]? := by
  funext m
  have : ((i : Int) + (m : Int) * 1).toNat = i + m := by lia
  rw [this]
 rw [e]
 have := pick_run xs i k
 rw [List.filterMap_map] at this
 have e2 : ((fun x => xs[x]?) ∘ fun x => i + x) = fun m => xs[i + m]? := rfl
 rw [e2] at this
 rw [this]
theorem gw {t sl : Addr} {items : Array Value} {vl vu : Value} {lo hi : Option Int} {Q : A8} (ht : IsTup s.heap t items) (hs : s.heap.IsSliceOf sl vl vu .none) (pl : IsPart vl lo) (pu : IsPart vu hi)
  (hw : ¬ (sIx items.size 0 lo = 0 /\ sIx items.size items.size hi = items.size))
  (h : Q (.ref s.heap.objs.size) { s with heap := s.heap.push { cls := .type "tuple", data := .seq ((items.toList.drop (sIx items.size 0 lo)).take (sIx items.size items.size hi - sIx items.size 0 lo)).toArray } })
  (hsz : items.size <= sizeLine) : wpAny (model prog w) A (getItem (.ref t) (.ref sl)) Q E s := by
 have htake : sizeOk (.seq ((items.toList.drop (sIx items.size 0 lo)).take (sIx items.size items.size hi - sIx items.size 0 lo)).toArray) := by
  show ((items.toList.drop (sIx items.size 0 lo)).take (sIx items.size items.size hi - sIx items.size 0 lo)).toArray.size <= sizeLine
  rw [List.size_toArray, List.length_take, List.length_drop, Array.length_toList]
  lia
 have hj : sIx items.size items.size hi <= items.size := uJ _ _ (Nat.le_refl _) hi
 obtain ⟨os, hos, hcs, hds⟩ := id hs
 have hTs : s.TypeIs (.ref sl) "slice" := ⟨os, hos, hcs⟩
 unfold getItem
 try with_reducible refine wpAny_holding ?_
 first | refine wpAny_bind (wpAny_pure ?_) | skip
 refine wpAny_bind (wpAny_sequenceKey ht.typeIs (by decide) ?_)
 refine wpAny_bind (wpAny_callSpecial?_slot (name := Str.ofString "__getitem__") ht.typeIs slot_tuple_getitem
  (wpAny_call_entry slot_tuple_getitem ht.typeIs entry_tuple_getitem ?_ (args_tuple_getitem _ _)))
 show wpAny _ _ (Builtin.Tuple.tupleItemsOf (.ref t) >>= _) _ _ s
 refine wpAny_bind (tupleItemsOf_ ht ?_)
 refine wpAny_bind (wpAny_typeOf hTs ?_)
 rw [if_pos (by decide)]
 refine wpAny_bind (eE hs pl pu ?_)
 have hno : ¬ ((((sIx items.size 0 lo : Nat) : Int) == 0 && (1 : Int) == 1 && (sIx items.size items.size hi - sIx items.size 0 lo) == items.size) = true) := by
  intro q
  rw [Bool.and_eq_true, Bool.and_eq_true] at q
  have q1 : ((sIx items.size 0 lo : Nat) : Int) = 0 := eq_of_beq q.1.1
  have q2 : sIx items.size items.size hi - sIx items.size 0 lo = items.size := eq_of_beq q.2
  exact hw ⟨by lia, by lia⟩
 show wpAny _ _ (if (((sIx items.size 0 lo : Nat) : Int) == 0 && (1 : Int) == 1 && (sIx items.size items.size hi - sIx items.size 0 lo) == items.size) = true then _ else _) _ _ s
 rw [if_neg hno, pX]
 first
  | exact wpAny_bind (m := Builtin.Tuple.tupleExact _) (wpAny_newObj_type (wpAny_pure ⟨_, rfl, wpAny_pure h⟩) htake)
  | exact wpAny_bind (m := Builtin.Tuple.tupleExact _) (wpAny_newObj_type (wpAny_bind (wpAny_pure (wpAny_pure ⟨_, rfl, wpAny_pure h⟩))) htake)
  | exact wpAny_bind (wpAny_bind (m := Builtin.Tuple.tupleExact _) (wpAny_newObj_type (wpAny_pure (wpAny_pure ⟨_, rfl, wpAny_pure h⟩)) htake))
  | exact wpAny_bind (wpAny_bind (m := Builtin.Tuple.tupleExact _) (wpAny_newObj_type (wpAny_pure ⟨_, rfl, wpAny_pure h⟩) htake))
end
end HT
namespace L2
open PySem PySem.Spec PyProof.Rows
abbrev TO := St -> Hp -> (Option Int -> Hp -> Prop) -> Prop
noncomputable def PO (X : Cx) (e : Option Expr) (t : TO) : Prop :=
 ∀ (pins : A6) (s : Shared) (σ : St) (H : Hp) (Q : Option Int -> Hp -> Prop), Inv X pins σ H s -> t σ H Q ->
  wpAny (model X.prog X.w) X.A (evalPart e X.env) (fun u s' => ∃ o H', Inv X pins σ H' s' /\ IsPart u o /\ Q o H') X.xe s
def C6 : TO := fun _ H Q => Q none H
noncomputable def Cz (t : TE) : TO := fun σ H Q => t σ H fun x H1 => ∃ i, x = .int i /\ Q (some i) H1
theorem mD {ns : List Int} : ∀ {us : List Value}, Vals (ns.map V.int) us -> IntsAre us ns := by
 induction ns with
 | nil => intro us r; rw [List.map_nil] at r; cases r; exact .nil
 | cons n ns ih =>
  intro us r
  rw [List.map_cons] at r
  cases r with
  | cons r1 r2 =>
   obtain ⟨t, e⟩ := r1
   subst e
   exact .cons n t (ih r2)
section
variable {X : Cx} {e : Expr} {te : TE} {lo hi : Option Expr} {tl th : TO} {pos p2 : Pos}
theorem nE : PO X none C6 := by
 intro pins s σ H Q I h
 rw [evalPart_none]
 exact wpAny_pure ⟨none, H, I, .none, h⟩
theorem nF (h : PE X e te) : PO X (some e) (Cz te) := by
 intro pins s σ H Q I hw
 rw [evalPart_some]
 refine thn (h pins s σ H _ I hw) fun u s1 ⟨x, H1, I1, r1, q1⟩ => ?_
 obtain ⟨i, rfl, q⟩ := q1
 obtain ⟨t, rfl⟩ := r1
 exact ⟨some i, H1, I1, .int i t, q⟩
noncomputable def SlR (X : Cx) (r : V -> Option Int -> Option Int -> Hp -> VK -> Prop) : Prop :=
 ∀ (pins : A6) (s : Shared) (σ : St) (H : Hp) (x : V) (v vl vu : Value) (lo hi : Option Int) (sl : Addr) (Q : VK), Inv X pins σ H s -> RelV x v -> s.heap.IsSliceOf sl vl vu .none -> IsPart vl lo -> IsPart vu hi -> r x lo hi H Q ->
  ∃ T id, typeLookup (.type T) "__getitem__" = pure (some (.builtin id)) /\ s.TypeIs v T /\ wpAny (model X.prog X.w) X.A (getItem v (.ref sl)) (EP X pins σ Q) X.xe s
theorem SlR.or {r r' : V -> Option Int -> Option Int -> Hp -> VK -> Prop} (h : SlR X r) (h' : SlR X r') : SlR X (fun x lo hi H Q => r x lo hi H Q \/ r' x lo hi H Q) := by
 intro pins s σ H x v vl vu lo hi sl Q I rx hs pl pu q
 rcases q with q | q
 ·exact h pins s σ H x v vl vu lo hi sl Q I rx hs pl pu q
 ·exact h' pins s σ H x v vl vu lo hi sl Q I rx hs pl pu q
noncomputable def tSl (r : V -> Option Int -> Option Int -> Hp -> VK -> Prop) (te : TE) (tl th : TO) : TE := fun σ H Q => te σ H fun x H1 => tl σ H1 fun l H2 => th σ H2 fun u H3 => r x l u H3 Q
theorem lb {r : V -> Option Int -> Option Int -> Hp -> VK -> Prop} (hr : SlR X r) (he : PE X e te) (hl : PO X lo tl) (hu : PO X hi th) : PE X (.Subscript e (.Slice lo hi none p2) pos) (tSl r te tl th) := by
 intro pins s σ H Q I h
 refine Subscript_ (thn (he pins s σ H _ I h) fun v s1 ⟨x, H1, I1, r1, q1⟩ => ?_)
 refine wpAny_Slice (thn (hl pins s1 σ H1 _ I1 q1) fun vl s2 ⟨l, H2, I2, pl, q2⟩ => thn (hu pins s2 σ H2 _ I2 q2) fun vu s3 ⟨u, H3, I3, pu, q3⟩ => ?_)
 rw [evalPart_none]
 refine wpAny_pure ?_
 have I4 : Inv X pins σ H3 { s3 with heap := s3.heap.push { cls := .type "slice", data := .fields #[vl, vu, .none] } } := I3.kept (t' := s3.toks) fun b ob q => Heap.get?_push_of_some _ q
 obtain ⟨T, id, hT, ht, hg⟩ := hr pins { s3 with heap := s3.heap.push { cls := .type "slice", data := .fields #[vl, vu, .none] } } σ H3 x v vl vu l u s3.heap.objs.size Q I4 r1 (Heap.IsSliceOf.new ..) pl pu q3
 show wpAny (model X.prog X.w) X.A (subscriptTail e (.Slice lo hi none p2) v (.ref s3.heap.objs.size)) (EP X pins σ Q) X.xe { s3 with heap := s3.heap.push { cls := .type "slice", data := .fields #[vl, vu, .none] } }
 exact tail_any (ops := [.ref s3.heap.objs.size, v]) ht hT hg (by with_unfolding_all rfl)
noncomputable def cutV (xs : List V) (lo hi : Option Int) : List V := (xs.drop (HT.sIx xs.length 0 lo)).take (HT.sIx xs.length xs.length hi - HT.sIx xs.length 0 lo)
theorem ik (xs : List V) (lo hi : Option Int) : (cutV xs lo hi).length <= xs.length := by
 unfold cutV
 rw [List.length_take, List.length_drop]
 lia
noncomputable def rSlT (K : W.Frag) : V -> Option Int -> Option Int -> Hp -> VK -> Prop := fun x lo hi H Q => ∃ a xs, x = .ref a /\ SqT K H a xs /\
 ¬ (HT.sIx xs.length 0 lo = 0 /\ HT.sIx xs.length xs.length hi = xs.length) /\ ∀ p, H p = none -> Q (.ref p) (upd H p (.tup (cutV xs lo hi)))
theorem uK : SlR X (rSlT X.K) := by
 intro pins s σ H x v vl vu lo hi sl Q I rx hs pl pu h
 obtain ⟨a, xs, rfl, hx, hw, q⟩ := h
 cases rx
 obtain ⟨its, r, ht, hz⟩ := I.tuple hx
 have hlen : its.toArray.size = xs.length := by rw [List.size_toArray]; exact r.length.symm
 refine ⟨"tuple", _, slot_tuple_getitem.lookup, ht.typeIs, ?_⟩
 refine HT.gw ht hs pl pu (by rw [hlen]; exact hw) ?_ (by rw [hlen]; exact hz)
 rw [hlen]
 refine ⟨.ref s.heap.objs.size, _, I.laid (t' := s.toks) (o := .tup (cutV xs lo hi)) (fun b ob q => Heap.get?_push_of_some _ q) (Nat.le_refl _) ?_, rfl, q _ (I.hok.fresh (Nat.le_refl _))⟩
 exact ⟨Nat.le_trans (ik xs lo hi) hz, _, (r.drop (HT.sIx xs.length 0 lo)).take (HT.sIx xs.length xs.length hi - HT.sIx xs.length 0 lo), IsTup.new _ _⟩
noncomputable def CA (K : W.Frag) : R2 := fun x y H Q => ∃ a b xs ys, x = .ref a /\ y = .ref b /\ SqT K H a xs /\ SqT K H b ys /\ xs ≠ [] /\ xs.length + ys.length <= sizeLine /\
 (ys = [] -> Q (.ref a) H) /\ (ys ≠ [] -> ∀ p, H p = none -> Q (.ref p) (upd H p (.tup (xs ++ ys))))
theorem Vals.nil_iff {xs : List V} {us : List Value} (r : Vals xs us) : us = [] ↔ xs = [] := by
 cases r with
 | nil => simp
 | cons _ _ => simp
theorem rK : OpR X (binaryOp .Add) (CA X.K) := by
 intro pins s σ H x y v u Q I rx ry h
 obtain ⟨a, b, xs, ys, rfl, rfl, ha, hb, hx, hz, q1, q2⟩ := h
 cases rx
 cases ry
 obtain ⟨its, r1, p1, _⟩ := I.tuple ha
 obtain ⟨its2, r2, p2, _⟩ := I.tuple hb
 refine HT.rH p1 p2 (fun z => hx (r1.nil_iff.mp z)) (fun z => ⟨.ref a, H, I, rfl, q1 (r2.nil_iff.mp z)⟩) (fun z => ?_) (by rw [<- r1.length, <- r2.length]; exact hz)
 refine ⟨.ref s.heap.objs.size, _, I.laid (t' := s.toks) (o := .tup (xs ++ ys)) (fun b ob q => Heap.get?_push_of_some _ q) (Nat.le_refl _) ?_, rfl, q2 (fun w => z (r2.nil_iff.mpr w)) _ (I.hok.fresh (Nat.le_refl _))⟩
 exact ⟨by rw [List.length_append]; exact hz, _, r1.append r2, IsTup.new _ _⟩
end
noncomputable def ixN (n : Nat) (i : Int) : Option Nat := if 0 <= i then (if i < n then some i.toNat else none) else if -(n : Int) <= i then some (i + n).toNat else none
noncomputable def atI {α : Type} (xs : List α) (i : Int) : Option α := (ixN xs.length i).bind fun j => xs[j]?
theorem rL {n : Nat} {i : Int} {j : Nat} (h : ixN n i = some j) : seqIndex? i n = some j /\ j < n /\ -(n : Int) <= i /\ i < n := by
 unfold ixN at h
 by_cases h0 : 0 <= i
 ·rw [if_pos h0] at h
  by_cases h1 : i < n
  ·rw [if_pos h1] at h
   have e : i.toNat = j := Option.some.inj h
   exact ⟨by rw [seqIndex_of h0 h1, e], by lia, by lia, h1⟩
  ·rw [if_neg h1] at h; cases h
 ·rw [if_neg h0] at h
  by_cases h1 : -(n : Int) <= i
  ·rw [if_pos h1] at h
   have e : (i + n).toNat = j := Option.some.inj h
   exact ⟨by rw [seqIndex_neg (by lia) h1, e], by lia, h1, by lia⟩
  ·rw [if_neg h1] at h; cases h
theorem nG {α : Type} {xs : List α} {i : Int} {v : α} (h : atI xs i = some v) : ∃ j, seqIndex? i xs.length = some j /\ xs[j]? = some v /\ j < xs.length /\ -(xs.length : Int) <= i /\ i < xs.length := by
 unfold atI at h
 cases e : ixN xs.length i with
 | none => rw [e] at h; cases h
 | some j =>
  rw [e] at h
  obtain ⟨h1, h2, h3, h4⟩ := rL e
  exact ⟨j, h1, h, h2, h3, h4⟩
noncomputable def Bs (b : Expr) : Prop := ∀ o i, subscripted b false o i = operate [o, i] (getItem o i)
noncomputable def IxR (X : Cx) (r : R2) : Prop :=
 ∀ (value slice : Expr) (pins : A6) (s : Shared) (σ : St) (H : Hp) (x y : V) (v u : Value) (Q : VK), Inv X pins σ H s -> RelV x v -> RelV y u -> r x y H Q ->
  subscripted slice false v u = operate [v, u] (getItem v u) -> wpAny (model X.prog X.w) X.A (subscriptTail value slice v u) (EP X pins σ Q) X.xe s
noncomputable def MtR (X : Cx) (id : String) (r : V -> List V -> Hp -> VK -> Prop) : Prop :=
 ∀ (pins : A6) (s : Shared) (σ : St) (H : Hp) (x : V) (xs : List V) (v : Value) (us : List Value) (Q : VK), Inv X pins σ H s -> RelV x v -> Vals xs us -> r x xs H Q ->
  wpAny (model X.prog X.w) X.A (call (.builtin id) (v :: us)) (EP X pins σ Q) X.xe s
section
variable {X : Cx} {a b : Expr} {ta tb : TE} {pos : Pos}
theorem IxR.or {r r' : R2} (h : IxR X r) (h' : IxR X r') : IxR X (fun x y H Q => r x y H Q \/ r' x y H Q) := by
 intro value slice pins s σ H x y v u Q I rx ry q hs
 rcases q with q | q
 ·exact h value slice pins s σ H x y v u Q I rx ry q hs
 ·exact h' value slice pins s σ H x y v u Q I rx ry q hs
theorem xg {r : R2} (hr : IxR X r) (ha : PE X a ta) (hb : PE X b tb) (hs : Bs b) : PE X (.Subscript a b pos) (tOp r ta tb) := by
 intro pins s σ H Q I h
 exact Subscript_ (binT ha hb I h fun v u s2 x y H2 I2 rx ry q => hr a b pins s2 σ H2 x y v u Q I2 rx ry q (hs _ _))
noncomputable def rIxL (K : W.Frag) : R2 := fun x y H Q => ∃ p xs i v, x = .ref p /\ y = .int i /\ SqL K H p xs /\ atI xs i = some v /\ Q v H
noncomputable def rIxT (K : W.Frag) : R2 := fun x y H Q => ∃ p xs i v, x = .ref p /\ y = .int i /\ SqT K H p xs /\ atI xs i = some v /\ Q v H
theorem rM : IxR X (rIxL X.K) := by
 intro value slice pins s σ H x y v u Q I rx ry h hs
 obtain ⟨p, xs, i, z, rfl, rfl, hq, he, q⟩ := h
 cases rx
 obtain ⟨t, rfl⟩ := ry
 obtain ⟨its, r, pl, hz⟩ := I.list hq
 obtain ⟨j, h1, h2, h3, h4, h5⟩ := nG he
 obtain ⟨w, ew, rw'⟩ := r.get h2
 have hl := r.length
 have hn := line63
 have fin : EP X pins σ Q w s := ⟨z, H, I, rw', q⟩
 by_cases h0 : 0 <= i
 ·have hj : i.toNat = j := by
   rw [seqIndex_of h0 h5] at h1
   exact Option.some.inj h1
  exact item_listR pl.isList h0 (by lia) (by rw [hj]; simpa using ew) fin hs
 ·have hj : (i + (its.toArray.size : Int)).toNat = j := by
   rw [seqIndex_neg (by lia) h4] at h1
   rw [List.size_toArray, <- hl]
   exact Option.some.inj h1
  exact subscriptTail_builtinR (x := w) pl.isList.typeIs slot_list_getitem.lookup
   (wpAny_getItem_list_neg (Q := fun r s' => r = w /\ EP X pins σ Q r s') pl.isList (by lia) (by rw [List.size_toArray] <;> lia) (by lia) (by rw [hj]; simpa using ew) ⟨rfl, fin⟩) hs
theorem uL : IxR X (rIxT X.K) := by
 intro value slice pins s σ H x y v u Q I rx ry h hs
 obtain ⟨p, xs, i, z, rfl, rfl, hq, he, q⟩ := h
 cases rx
 obtain ⟨t, rfl⟩ := ry
 obtain ⟨its, r, pl, hz⟩ := I.tuple hq
 obtain ⟨j, h1, h2, h3, h4, h5⟩ := nG he
 obtain ⟨w, ew, rw'⟩ := r.get h2
 have hl := r.length
 have hn := line63
 have fin : EP X pins σ Q w s := ⟨z, H, I, rw', q⟩
 exact subscriptTail_builtinR (x := w) pl.typeIs slot_tuple_getitem.lookup
  (getItem_tuple (j := j) (Q := fun r s' => r = w /\ EP X pins σ Q r s') pl (by lia) (by lia) (by rw [List.size_toArray, <- hl]; exact h1) (by simpa using ew) ⟨rfl, fin⟩) hs
theorem km (lo hi : Option Int) (n : Nat) : (sliceBounds lo hi none n).1 = ((HT.sIx n 0 lo : Nat) : Int) /\ (sliceBounds lo hi none n).2.1 = ((HT.sIx n n hi : Nat) : Int) /\ (sliceBounds lo hi none n).2.2 = 1 := by
 refine ⟨?_, ?_, rfl⟩
 ·cases lo with
  | none => simp [sliceBounds, HT.sIx]
  | some i =>
   simp only [sliceBounds, HT.sIx, Option.getD_none, show (1 : Int) > 0 by decide, if_true]
   by_cases h : i < 0
   ·simp only [h, if_true] <;> lia
   ·simp only [h, if_false] <;> lia
 ·cases hi with
  | none => simp [sliceBounds, HT.sIx]
  | some i =>
   simp only [sliceBounds, HT.sIx, Option.getD_none, show (1 : Int) > 0 by decide, if_true]
   by_cases h : i < 0
   ·simp only [h, if_true] <;> lia
   ·simp only [h, if_false] <;> lia
theorem jv (its : List Value) (lo hi : Option Int) : slicePick its.toArray lo hi none = ((its.drop (HT.sIx its.length 0 lo)).take (HT.sIx its.length its.length hi - HT.sIx its.length 0 lo)).toArray := by
 obtain ⟨h1, h2, h3⟩ := km lo hi its.toArray.size
 unfold slicePick
 rw [h1, h2, h3]
 simp only [sliceRange_one, pick_run, List.size_toArray] <;> rfl
noncomputable def rSlL (K : W.Frag) : V -> Option Int -> Option Int -> Hp -> VK -> Prop := fun x lo hi H Q => ∃ a xs, x = .ref a /\ SqL K H a xs /\ ∀ p, H p = none -> Q (.ref p) (upd H p (.lst (cutV xs lo hi)))
theorem rN : SlR X (rSlL X.K) := by
 intro pins s σ H x v vl vu lo hi sl Q I rx hs pl pu h
 obtain ⟨a, xs, rfl, hx, q⟩ := h
 cases rx
 obtain ⟨its, r, ht, hz⟩ := I.list hx
 have hlen := r.length
 refine ⟨"list", _, slot_list_getitem.lookup, ht.isList.typeIs, ?_⟩
 refine wpAny_getItem_list_slice ht.isList hs pl pu .none (by simp) ?_ (by rw [List.size_toArray] <;> lia)
 rw [jv, <- hlen]
 refine ⟨.ref s.heap.objs.size, _, I.laid (t' := s.toks) (o := .lst (cutV xs lo hi)) (fun b ob q => Heap.get?_push_of_some _ q) (Nat.le_refl _) ?_, rfl, q _ (I.hok.fresh (Nat.le_refl _))⟩
 exact ⟨Nat.le_trans (ik xs lo hi) hz, _, 0, (r.drop (HT.sIx xs.length 0 lo)).take (HT.sIx xs.length xs.length hi - HT.sIx xs.length 0 lo), Heap.get?_push_size _ rfl⟩
theorem gx : AD X (.builtin "len") (fun xs H Q => ∃ p ys, xs = [.ref p] /\ (SqL X.K H p ys \/ SqT X.K H p ys) /\ Q (.int ys.length) H) := by
 intro pins s σ H xs us Q I r h
 obtain ⟨p, ys, rfl, hq, q⟩ := h
 obtain ⟨u, rfl, rx⟩ := vals1 r
 cases rx
 have hn := line63
 rcases hq with hq | hq
 ·obtain ⟨its, r', pl, hz⟩ := I.list hq
  have hlen := r'.length
  exact Calls.call_len_list pl.isList (by simp only [List.size_toArray] <;> lia) ⟨.int ys.length, H, I.tok _, ⟨s.toks + 1, by rw [List.size_toArray, hlen]⟩, q⟩
 ·obtain ⟨its, r', pl, hz⟩ := I.tuple hq
  have hlen := r'.length
  exact len_tuple pl (by simp only [List.size_toArray] <;> lia) ⟨.int ys.length, H, I.tok _, ⟨s.toks + 1, by rw [List.size_toArray, hlen]⟩, q⟩
theorem gy : AD X (.type "list") (fun xs H Q => ∃ p ys, xs = [.ref p] /\ (SqL X.K H p ys \/ SqT X.K H p ys) /\ ∀ l, H l = none -> Q (.ref l) (upd H l (.lst ys))) := by
 intro pins s σ H xs us Q I r h
 obtain ⟨p, ys, rfl, hq, q⟩ := h
 obtain ⟨u, rfl, rx⟩ := vals1 r
 cases rx
 have fin : ∀ (its : List Value), Vals ys its -> ys.length <= sizeLine -> ∀ (h' : Heap) (c' : Nat), (∀ b o', s.heap.get? b = some o' -> h'.get? b = some o') ->
   h'.get? s.heap.objs.size = some { cls := .type "list", dict := none, data := .seq its.toArray c', slots := #[] } -> EP X pins σ Q (.ref s.heap.objs.size) { s with heap := h' } := fun its r' hz h' c' kp e =>
  ⟨.ref s.heap.objs.size, _, I.laid (t' := s.toks) kp (Nat.le_refl _) (show Ao X.prog X.w _ h' _ (.lst ys) from ⟨hz, its, c', r', e⟩), rfl, q _ (I.hok.fresh (Nat.le_refl _))⟩
 rcases hq with hq | hq
 ·obtain ⟨its, r', pl, hz⟩ := I.list hq
  have hlen := r'.length
  obtain ⟨o, ho, hc, n, hd⟩ := pl.isList
  exact call_list_seq p (.inl rfl) ho hc hd (fun h' c' kp e => fin its r' hz h' c' kp e) (by simp only [List.size_toArray] <;> lia)
 ·obtain ⟨its, r', pl, hz⟩ := I.tuple hq
  have hlen := r'.length
  obtain ⟨o, ho, hc, n, hd⟩ := pl
  exact call_list_seq p (.inr rfl) ho hc hd (fun h' c' kp e => fin its r' hz h' c' kp e) (by simp only [List.size_toArray] <;> lia)
theorem eh : AD X (.type "tuple") (fun xs H Q => ∃ p ys, xs = [.ref p] /\ ((SqL X.K H p ys /\ ∀ l, H l = none -> Q (.ref l) (upd H l (.tup ys))) \/ (SqT X.K H p ys /\ Q (.ref p) H))) := by
 intro pins s σ H xs us Q I r h
 obtain ⟨p, ys, rfl, h⟩ := h
 obtain ⟨u, rfl, rx⟩ := vals1 r
 cases rx
 rcases h with ⟨hq, q⟩ | ⟨hq, q⟩
 ·obtain ⟨its, r', pl, hz⟩ := I.list hq
  have hlen := r'.length
  refine call_tuple_list pl.isList (fun h' kp => ?_) (by simp only [List.size_toArray] <;> lia)
  have I1 : Inv X pins σ H { s with heap := h' } := I.kept (t' := s.toks) kp
  have I2 : Inv X pins σ (upd H h'.objs.size (.tup ys)) { s with heap := h'.push { cls := .type "tuple", data := .seq its.toArray } } :=
   I1.laid (t' := s.toks) (fun b o e => Heap.get?_push_of_some _ e) (Nat.le_refl _) (show Ao X.prog X.w _ _ _ (.tup ys) from ⟨hz, its, r', IsTup.new _ _⟩)
  exact ⟨.ref h'.objs.size, _, I2, rfl, q _ (I1.hok.fresh (Nat.le_refl _))⟩
 ·obtain ⟨its, r', pl, hz⟩ := I.tuple hq
  exact call_tuple_same pl ⟨.ref p, H, I, rfl, q⟩
noncomputable def tyV (K : W.Frag) (T : String) (x : V) (H : Hp) : Prop := match x with
 | .str _ => T = "str"
 | .int _ => T = "int"
 | .ref p => (T = "list" /\ ∃ xs, SqL K H p xs) \/ (T = "tuple" /\ ∃ o, K.lookup p = some o /\ o.cls = .type "tuple" /\ o.dict = none) \/
   (T = "dict" /\ ((∃ kvs, H p = some (.dK kvs)) \/ ∃ kvs, H p = some (.dT kvs))) \/ (T = "set" /\ ∃ S n, H p = some (.set S n))
 | _ => False
theorem pY {pins : A6} {σ : St} {H : Hp} {s : Shared} {T : String} {x : V} {v : Value} (I : Inv X pins σ H s) (r : RelV x v) (ty : tyV X.K T x H) :
  s.TypeIs v T /\ ∀ a, v = .ref a -> ∃ ob, s.heap.get? a = some ob /\ ob.dict = none := by
 cases x with
 | str z =>
  obtain ⟨t, rfl⟩ := r
  cases (show T = "str" from ty)
  exact ⟨typeIs_str s z t, fun _ e => nomatch e⟩
 | int i =>
  obtain ⟨t, rfl⟩ := r
  cases (show T = "int" from ty)
  exact ⟨typeIs_int s i t, fun _ e => nomatch e⟩
 | ref p =>
  cases r
  rcases ty with ⟨rfl, xs, hq⟩ | ⟨rfl, o, hk, hc, hd⟩ | ⟨rfl, hk⟩ | ⟨rfl, S, n, hk⟩
  ·obtain ⟨its, _, pl, _⟩ := I.list hq
   refine ⟨pl.isList.typeIs, fun a e => ?_⟩
   cases e
   obtain ⟨o, n, e, c, hd, _⟩ := pl
   exact ⟨o, e, hd⟩
  ·refine ⟨⟨o, I.kIn p o hk, hc⟩, fun a e => ?_⟩
   cases e
   exact ⟨o, I.kIn _ o hk, hd⟩
  ·have z : ∃ o, s.heap.get? p = some o /\ o.ExactDict := by
    rcases hk with ⟨kvs, hk⟩ | ⟨kvs, hk⟩
    ·obtain ⟨_, _, _, _, o, _, _, e, ex, _⟩ := I.hok p _ hk
     exact ⟨o, e, ex⟩
    ·obtain ⟨_, _, _, _, o, _, _, e, ex, _⟩ := I.hok p _ hk
     exact ⟨o, e, ex⟩
   obtain ⟨o, e, ex⟩ := z
   refine ⟨⟨o, e, ex.1⟩, fun a e2 => ?_⟩
   cases e2
   exact ⟨o, e, ex.2.1⟩
  ·obtain ⟨o, _, _, _, e, ex, _⟩ := I.hok p _ hk
   refine ⟨⟨o, e, ex.1⟩, fun a e2 => ?_⟩
   cases e2
   exact ⟨o, e, ex.2.1⟩
 | _ => exact False.elim ty
noncomputable def tBM0 (K : W.Frag) (T : String) (r : V -> List V -> Hp -> VK -> Prop) (to : TE) : TE := fun σ H Q => to σ H fun x H1 => tyV K T x H1 /\ r x [] H1 Q
noncomputable def tBM (K : W.Frag) (T : String) (r : V -> List V -> Hp -> VK -> Prop) (to : TE) (t : TA) : TE := fun σ H Q => to σ H fun x H1 => tyV K T x H1 /\ t σ H1 fun xs H2 => r x xs H2 Q
variable {o e : Expr} {es : List Expr} {to : TE} {t : TA} {name : Str} {apos cpos : Pos} {T id : String} {r : V -> List V -> Hp -> VK -> Prop}
theorem uM (pa : PlainAttrs T) (slot : Slot T name id) (hty : typeOf (.builtin id) = pure (.type "method_descriptor")) (hm : MtR X id r) (ho : PE X o to)
  (hbase : attributeBase o name X.env (eval o X.env) = eval o X.env := by rfl) (hline : (apos.endLine == cpos.line) = true := by rfl) : PE X (.Call (.Attribute o name apos) [] [] cpos) (tBM0 X.K T r to) := by
 intro pins s σ H Q I h
 refine wpAny_Call_method0_late hbase hline (thn (ho pins s σ H _ I h) fun v s1 ⟨x, H1, I1, r1, ty, q1⟩ => ?_)
 obtain ⟨h1, h2⟩ := pY I1 r1 ty
 exact ⟨T, id, pa, slot, hty, h1, h2, Calls.callWith_builtin rfl (PySem.evalArgs_none (hm pins s1 σ H1 x [] v [] Q I1 r1 .nil q1))⟩
theorem xh (pa : PlainAttrs T) (slot : Slot T name id) (hty : typeOf (.builtin id) = pure (.type "method_descriptor")) (hm : MtR X id r) (ho : PE X o to) (ha : PA X (e :: es) t)
  (hbase : attributeBase o name X.env (eval o X.env) = eval o X.env := by rfl)
  (hfew : ((backTo cpos (starEach (e :: es) X.env)).all (fun x => !x.1) && (backToKw cpos (keywordEach [] X.env)).all (fun x => x.1.isSome)
   && decide ((e :: es).length + ([] : List Keyword).length + (if ([] : List Keyword).isEmpty then 0 else 1) < 30)) = true := by rfl)
  (hline : (apos.endLine == cpos.line) = true := by rfl) (hs : starEach (e :: es) X.env = (false, eval e X.env) :: starEach es X.env := by rfl) (hplain : (backTo cpos (starEach es X.env)).any (·.1) = false := by rfl) :
  PE X (.Call (.Attribute o name apos) (e :: es) [] cpos) (tBM X.K T r to t) := by
 intro pins s σ H Q I h
 refine wpAny_Call_method_late hbase hfew hline rfl (thn (ho pins s σ H _ I h) fun v s1 ⟨x, H1, I1, r1, ty, q1⟩ => ?_)
 obtain ⟨h1, h2⟩ := pY I1 r1 ty
 refine ⟨T, id, pa, slot, hty, h1, h2, ?_⟩
 have hA := ha cpos pins s1 σ H1 _ I1 q1
 rw [hs] at hA ⊢
 refine Calls.callWith_builtin (by show (false || (backTo cpos (starEach es X.env)).any (·.1)) = false; rw [hplain] <;> rfl) (Calls.evalArgs_plain ?_)
 exact thn hA fun us s2 ⟨vs, H2, I2, r2, q2⟩ => hm pins s2 σ H2 x vs v us Q I2 r1 r2 q2
end
noncomputable def MtM (X : Cx) (id : String) (r : V -> List V -> Hp -> VK -> Prop) : Prop :=
 ∀ (pins : A6) (s : Shared) (σ : St) (H : Hp) (x : V) (xs : List V) (v : Value) (us : List Value) (Q : VK), Inv X pins σ H s -> RelV x v -> Vals xs us -> r x xs H Q ->
  wpAny (model X.prog X.w) X.A (call (.builtin id) (v :: us)) (EP X pins σ Q) X.xe s
theorem Vals.one : ∀ {x : V} {us : List Value}, Vals [x] us -> ∃ u, us = [u] /\ RelV x u
 | _, _, .cons r .nil => ⟨_, rfl, r⟩
theorem Vals.zero : ∀ {us : List Value}, Vals [] us -> us = []
 | _, .nil => rfl
theorem Vals.dropLast {xs : List V} {us : List Value} (h : Vals xs us) : Vals xs.dropLast us.dropLast := by
 induction h with
 | nil => exact .nil
 | cons r t ih =>
  cases t with
  | nil => exact .nil
  | cons q t' => exact .cons r ih
theorem Vals.rep {xs : List V} {us : List Value} (h : Vals xs us) : ∀ k : Nat, Vals (List.replicate k xs).flatten (List.replicate k us).flatten
 | 0 => .nil
 | k + 1 => by
  rw [List.replicate_succ, List.replicate_succ, List.flatten_cons, List.flatten_cons]
  exact Vals.append h (Vals.rep h k)
theorem mE {α : Type} (l : List α) : l.eraseIdx (l.length - 1) = l.dropLast := by
 induction l with
 | nil => rfl
 | cons a r ih =>
  cases r with
  | nil => rfl
  | cons b r =>
   have e : (a :: b :: r).length - 1 = ((b :: r).length - 1) + 1 := by
    have h1 : (a :: b :: r).length = r.length + 2 := rfl
    have h2 : (b :: r).length = r.length + 1 := rfl
    lia
   rw [e, List.eraseIdx_cons_succ, ih]
   all_goals rfl
theorem jI (its : List Value) : ∀ (k : Nat) (acc : List Value),
  List.foldl (fun x1 x2 => x1 ++ x2) acc.toArray (List.replicate k its.toArray) = (acc ++ (List.replicate k its).flatten).toArray
 | 0, acc => by simp
 | k + 1, acc => by
  have e : acc.toArray ++ its.toArray = (acc ++ its).toArray := by simp
  have e2 : (acc ++ its) ++ (List.replicate k its).flatten = acc ++ (List.replicate (k + 1) its).flatten := by
   rw [List.replicate_succ, List.flatten_cons, List.append_assoc]
  rw [<- e2, <- jI its k (acc ++ its), <- e, List.replicate_succ, List.foldl_cons]
section
variable {X : Cx} {pins : A6} {σ : St} {H : Hp} {s : Shared} {l b : Addr} {xs ys zs : List V}
theorem Inv.lset {its its' : List Value} {n : Nat} {f : Array Value -> Array Value} {t' : Nat} (I : Inv X pins σ H s) (hH : H l = some (.lst xs))
  (e : s.heap.get? l = some { cls := .type "list", data := .seq its.toArray n }) (hf : f its.toArray = its'.toArray) (hv : Vals ys its') (hz : ys.length <= sizeLine) :
  Inv X pins σ (upd H l (.lst ys)) { s with heap := s.heap.update l (Obj.mapSeq f), toks := t' } := by
 have q := PySem.IsL.update e f
 rw [hf] at q
 refine I.write (x := l) (e := l) (by rw [hH]; exact trivial) (.inl rfl) (fun b' u hb hu => (Heap.get?_update_other s.heap (Obj.mapSeq f) (Ne.symm hb)).trans hu) ⟨_, q⟩ ?_
 exact ⟨hz, its', _, hv, q⟩
theorem Inv.lnew {its : List Value} {t' : Nat} (I : Inv X pins σ H s) (hv : Vals ys its) (hz : ys.length <= sizeLine) :
  Inv X pins σ (upd H s.heap.objs.size (.lst ys)) { s with heap := s.heap.push { cls := .type "list", data := .seq its.toArray }, toks := t' } :=
 I.laid (fun _ _ q => Heap.get?_push_of_some _ q) (Nat.le_refl _) ⟨hz, its, 0, hv, Heap.get?_push_size _ rfl⟩
theorem Inv.fresh (I : Inv X pins σ H s) : H s.heap.objs.size = none := I.hok.fresh (Nat.le_refl _)
theorem Inv.lstM (I : Inv X pins σ H s) (hH : H l = some (.lst xs)) : xs.length <= sizeLine /\ ∃ (its : List Value) (n : Nat), Vals xs its /\ xs.length = its.length /\ s.heap.get? l = some { cls := .type "list", data := .seq its.toArray n } := by
 obtain ⟨z, its, n, r, e⟩ := I.hok l _ hH
 exact ⟨z, its, n, r, r.length, e⟩
theorem Bg {n : Nat} (h : n <= sizeLine) : Builtin.List.listTooLong n = false := by
 unfold Builtin.List.listTooLong
 exact decide_eq_false (by lia)
end
section
variable {X : Cx}
noncomputable def rPop : V -> List V -> Hp -> VK -> Prop := fun x vs H Q => ∃ l xs y, x = .ref l /\ vs = [] /\ H l = some (.lst xs) /\ xs[xs.length - 1]? = some y /\ Q y (upd H l (.lst xs.dropLast))
theorem uN : MtM X "list.pop" rPop := by
 intro pins s σ H x vs v us Q I rx rv h
 obtain ⟨l, xs, y, rfl, rfl, hH, hy, q⟩ := h
 cases rx
 have hus := rv.zero
 subst hus
 obtain ⟨z, its, n, r, hl, e⟩ := I.lstM hH
 obtain ⟨u, hu, ru⟩ := r.get hy
 have hy' : its.toArray[its.toArray.size - 1]? = some u := by
  show its.toArray[its.length - 1]? = some u
  rw [<- Array.getElem?_toList, <- hl]
  exact hu
 refine call_meets F.slot_list_pop ⟨_, e, rfl⟩ F.entry_list_pop (F.args_list_pop_1 _) (MeetsSeq.list_pop_last l its.toArray n u hy' (by rw [List.size_toArray]; lia)) ⟨e, ?_⟩
 refine ⟨y, _, I.lset (its' := its.dropLast) hH e ?_ r.dropLast ?_, ru, q⟩
 ·show its.toArray.eraseIdxIfInBounds (its.toArray.size - 1) = its.dropLast.toArray
  rw [List.size_toArray, List.eraseIdxIfInBounds_toArray, mE]
 ·rw [List.length_dropLast]
  lia
theorem rO {α : Type} (xs : List α) (k : Nat) : (List.replicate k xs).flatten.length = k * xs.length := by
 induction k with
 | zero => simp
 | succ k ih => rw [List.replicate_succ, List.flatten_cons, List.length_append, ih, Nat.succ_mul, Nat.add_comm]
end
section
variable {prog : Program} {w : World} {A : Around} {E : A8} {s : Shared}
end
section
variable {X : Cx}
end
section
variable {κ : Type} [DecidableEq κ]
noncomputable def valV (kvs : List (κ × V)) (k : κ) : Option V := (kvs.find? fun kv => decide (kv.1 = k)).map (·.2)
noncomputable def putK (kvs : List (κ × V)) (k : κ) (v : V) : List (κ × V) :=
 if (kvs.any fun kv => decide (kv.1 = k)) = true then kvs.map (fun kv => if kv.1 = k then (kv.1, v) else kv) else kvs ++ [(k, v)]
theorem gz {p : κ × V} {r : List (κ × V)} {k : κ} (e : p.1 = k) : valV (p :: r) k = some p.2 := by simp [valV, List.find?_cons, e]
theorem gA {p : κ × V} {r : List (κ × V)} {k : κ} (e : ¬ p.1 = k) : valV (p :: r) k = valV r k := by simp [valV, List.find?_cons, e]
theorem lg (k : κ) : ∀ kvs : List (κ × V), (kvs.any fun kv => decide (kv.1 = k)) = (valV kvs k).isSome
 | [] => rfl
 | p :: r => by
  rw [List.any_cons]
  by_cases e : p.1 = k
  ·simp only [gz e, decide_eq_true e, Bool.true_or, Option.isSome_some]
  ·rw [gA e, decide_eq_false e, Bool.false_or]; exact lg k r
theorem il (kvs : List (κ × V)) (k : κ) (v : V) : (putK kvs k v).length <= kvs.length + 1 := by
 unfold putK
 split
 ·rw [List.length_map]; lia
 ·rw [List.length_append, List.length_cons, List.length_nil]; lia
theorem RelO.isSome_eq {o : Option V} {u : Option Value} (r : RelO o u) : o.isSome = u.isSome := by
 cases o with
 | none => cases u with
  | none => rfl
  | some _ => exact (show False from r).elim
 | some _ => cases u with
  | none => exact (show False from r).elim
  | some _ => rfl
theorem RelO.getD {o : Option V} {u : Option Value} {d : V} {d' : Value} (r : RelO o u) (rd : RelV d d') : RelV (o.getD d) (u.getD d') := by
 cases o with
 | none => cases u with
  | none => exact rd
  | some _ => exact (show False from r).elim
 | some _ => cases u with
  | none => exact (show False from r).elim
  | some _ => exact r
theorem KV.val {kvs : List (κ × V)} {vs : List (κ × Value)} (r : KV kvs vs) (k : κ) : RelO (valV kvs k) (valueAt vs k) := by
 unfold KV at r
 induction r with
 | nil => exact True.intro
 | @cons p q ps qs h t ih =>
  obtain ⟨h1, h2⟩ := h
  by_cases e : p.1 = k
  ·have e' : q.1 = k := h1.symm.trans e
   have b : valueAt (q :: qs) k = some q.2 := by simp [valueAt, List.find?_cons, e']
   rw [gz e, b]; exact h2
  ·have e' : ¬ q.1 = k := fun z => e (h1.trans z)
   have b : valueAt (q :: qs) k = valueAt qs k := by simp [valueAt, List.find?_cons, e']
   rw [gA e, b]; exact ih
theorem KV.any {kvs : List (κ × V)} {vs : List (κ × Value)} (r : KV kvs vs) (k : κ) : (kvs.any fun kv => decide (kv.1 = k)) = vs.any fun kv => decide (kv.1 = k) := by
 unfold KV at r
 induction r with
 | nil => rfl
 | cons h t ih => rw [List.any_cons, List.any_cons, ih, h.1]
theorem KV.repl {kvs : List (κ × V)} {vs : List (κ × Value)} (r : KV kvs vs) (k : κ) {y : V} {u : Value} (ry : RelV y u) :
  KV (kvs.map fun kv => if kv.1 = k then (kv.1, y) else kv) (vs.map fun kv => if kv.1 = k then (kv.1, u) else kv) := by
 unfold KV at r ⊢
 induction r with
 | nil => exact .nil
 | @cons p q ps qs h t ih =>
  rw [List.map_cons, List.map_cons]
  refine .cons ?_ ih
  obtain ⟨h1, h2⟩ := h
  by_cases e : p.1 = k
  ·rw [if_pos e, if_pos (h1.symm.trans e)]; exact ⟨h1, ry⟩
  ·rw [if_neg e, if_neg (fun z => e (h1.trans z))]; exact ⟨h1, h2⟩
theorem KV.put {kvs : List (κ × V)} {vs : List (κ × Value)} (r : KV kvs vs) (k : κ) {y : V} {u : Value} (ry : RelV y u) : KV (putK kvs k y) (stored vs k u) := by
 unfold putK stored
 rw [r.any k]
 by_cases e : (vs.any fun kv => decide (kv.1 = k)) = true
 ·rw [if_pos e, if_pos e]; exact r.repl k ry
 ·rw [if_neg e, if_neg e]; exact Paired.snoc r ⟨rfl, ry⟩
theorem KV.length {kvs : List (κ × V)} {vs : List (κ × Value)} (r : KV kvs vs) : kvs.length = vs.length := Paired.length r
end
theorem lh {P : Program} {w : World} {k : Key} {u : Value} (r : RelV (kV k) u) : (Ah P w).is k u = true := by
 cases k with
 | inl i => obtain ⟨t, e⟩ := (show ∃ t, u = Value.int i t from r); subst e; exact kW P w i t
 | inr x => obtain ⟨t, e⟩ := (show ∃ t, u = Value.str x t from r); subst e; exact kX P w x t
theorem jJ {P : Program} {w : World} : ∀ {ks : List Key} {us : List Value}, Vals (ks.map kV) us -> ItemsAre (Ah P w) ks us
 | [], _, r => by rw [List.map_nil] at r; cases r; exact .nil
 | k :: ks, _, r => by
  rw [List.map_cons] at r
  cases r with
  | cons h t => exact .cons (lh h) (jJ t)
abbrev KT (H : Hp) : List (List Key × V) -> List (List Key × Addr × Value) -> Prop := Paired fun p q => p.1 = q.1 /\ H q.2.1 = some (.tup (p.1.map kV)) /\ RelV p.2 q.2.2
theorem KT.val {H : Hp} {kvs : List (List Key × V)} {xs : List (List Key × Addr × Value)} (r : KT H kvs xs) (k : List Key) : RelO (valV kvs k) ((atKey xs k).map (·.2)) := by
 induction r with
 | nil => exact True.intro
 | @cons p q ps qs h t ih =>
  obtain ⟨h1, _, h2⟩ := h
  by_cases e : p.1 = k
  ·have e' : q.1 = k := h1.symm.trans e
   have b : atKey (q :: qs) k = some q.2 := by simp [atKey, List.find?_cons, e']
   rw [gz e, b]; exact h2
  ·have e' : ¬ q.1 = k := fun z => e (h1.trans z)
   have b : atKey (q :: qs) k = atKey qs k := by simp [atKey, List.find?_cons, e']
   rw [gA e, b]; exact ih
theorem KT.repl {H : Hp} {kvs : List (List Key × V)} {xs : List (List Key × Addr × Value)} (r : KT H kvs xs) (k : List Key) {y : V} {u : Value} (ry : RelV y u) :
  KT H (kvs.map fun kv => if kv.1 = k then (kv.1, y) else kv) (xs.map (putAt k u)) := by
 induction r with
 | nil => exact .nil
 | @cons p q ps qs h t ih =>
  rw [List.map_cons, List.map_cons]
  refine .cons ?_ ih
  obtain ⟨h1, h2, h3⟩ := h
  unfold putAt
  by_cases e : p.1 = k
  ·rw [if_pos e, if_pos (h1.symm.trans e)]; exact ⟨h1, h2, ry⟩
  ·rw [if_neg e, if_neg (fun z => e (h1.trans z))]; exact ⟨h1, h2, h3⟩
theorem KT.put {H : Hp} {kvs : List (List Key × V)} {xs : List (List Key × Addr × Value)} (r : KT H kvs xs) (k : List Key) {b : Addr} {y : V} {u : Value} (hb : H b = some (.tup (k.map kV))) (ry : RelV y u) :
  KT H (putK kvs k y) (storedH xs k b u) := by
 have e : (kvs.any fun kv => decide (kv.1 = k)) = (atKey xs k).isSome := by
  rw [lg, (r.val k).isSome_eq, Option.isSome_map]
 unfold putK storedH
 rw [e]
 by_cases q : (atKey xs k).isSome = true
 ·rw [if_pos q, if_pos q]; exact r.repl k ry
 ·rw [if_neg q, if_neg q]; exact Paired.snoc r ⟨rfl, hb, ry⟩
theorem KT.keeps {H H' : Hp} {kvs : List (List Key × V)} {xs : List (List Key × Addr × Value)} (r : KT H kvs xs) (ht : ∀ b ys, H b = some (.tup ys) -> H' b = some (.tup ys)) : KT H' kvs xs :=
 Paired.mapP r fun _ _ z => ⟨z.1, ht _ _ z.2.1, z.2.2⟩
section
variable {P : Program} {w : World} {H : Hp} {h : Heap} {a : Addr}
theorem tR {u : HO} (ok : HOk P w H h) (e : Rd H a u) : Ao P w H h a u := e.ok ok
theorem lj {kvs : List (Key × V)} (ok : HOk P w H h) (e : Rd H a (.dK kvs)) : kvs.length <= sizeLine /\ (a == sysModules) = false /\ ∃ vs, KV kvs vs /\ h.DictOf (Ah P w) a vs :=
 show Ao P w H h a (.dK kvs) from tR ok e
theorem xi {kvs : List (Key × V)} (ok : HOk P w H h) (e : H a = some (.dK kvs)) : kvs.length <= sizeLine /\ (a == sysModules) = false /\ ∃ vs, KV kvs vs /\ h.DictOf (Ah P w) a vs := lj ok (.inl e)
theorem kn {ks : List Key} (ok : HOk P w H h) (e : H a = some (.tup (ks.map kV))) : (tupleKind (Ah P w)).is h ks a := by
 obtain ⟨_, its, r, o, h1, h2, n, h3⟩ := (show Ao P w H h a (.tup (ks.map kV)) from ok a _ e)
 exact ⟨o, its.toArray, n, h1, h2, h3, by simpa using jJ r⟩
theorem nH {kvs : List (List Key × V)} (ok : HOk P w H h) (e : Rd H a (.dT kvs)) : kvs.length <= sizeLine /\ (a == sysModules) = false /\
  ∃ xs, KT H kvs xs /\ h.DictOfH (tupleKind (Ah P w)) a xs := by
 obtain ⟨z, y, xs, r, o, es, ep, h1, h2, h3, h4, h5⟩ := (show Ao P w H h a (.dT kvs) from tR ok e)
 refine ⟨z, y, xs, r, o, es, ep, h1, h2, h3, h4, fun x hx => ?_, h5⟩
 have all : ∀ {l : List (List Key × V)} {m : List (List Key × Addr × Value)}, KT H l m -> ∀ x ∈ m, (tupleKind (Ah P w)).is h x.1 x.2.1 := by
  intro l m q
  induction q with
  | nil => intro x hx; exact nomatch hx
  | @cons p q ps qs hq t ih =>
   intro x hx
   rcases List.mem_cons.mp hx with e | hx
   ·subst e
    exact kn ok (by rw [<- hq.1]; exact hq.2.1)
   ·exact ih x hx
 exact all r x hx
theorem xj {kvs : List (List Key × V)} (ok : HOk P w H h) (e : H a = some (.dT kvs)) : kvs.length <= sizeLine /\ (a == sysModules) = false /\
  ∃ xs, KT H kvs xs /\ h.DictOfH (tupleKind (Ah P w)) a xs := nH ok (.inl e)
end
noncomputable def DGet (H : Hp) (a : Addr) (y : V) (r : Option V) : Prop :=
 (∃ kvs k, Rd H a (.dK kvs) /\ y = kV k /\ r = valV kvs k) \/ ∃ kvs k b, Rd H a (.dT kvs) /\ y = .ref b /\ H b = some (.tup (k.map kV)) /\ r = valV kvs k
noncomputable def DPut (H : Hp) (a : Addr) (y v : V) (H' : Hp) : Prop :=
 (∃ kvs k, H a = some (.dK kvs) /\ y = kV k /\ kvs.length < sizeLine /\ H' = upd H a (.dK (putK kvs k v))) \/
 ∃ kvs k b, H a = some (.dT kvs) /\ y = .ref b /\ H b = some (.tup (k.map kV)) /\ kvs.length < sizeLine /\ H' = upd H a (.dT (putK kvs k v))
theorem DGet.k {H : Hp} {a : Addr} {kvs : List (Key × V)} {k : Key} (e : H a = some (.dK kvs)) : DGet H a (kV k) (valV kvs k) := .inl ⟨kvs, k, .inl e, rfl, rfl⟩
theorem DPut.k {H : Hp} {a : Addr} {kvs : List (Key × V)} {k : Key} {v : V} (e : H a = some (.dK kvs)) (hl : kvs.length < sizeLine) : DPut H a (kV k) v (upd H a (.dK (putK kvs k v))) := .inl ⟨kvs, k, e, rfl, hl, rfl⟩
section
variable {X : Cx} {pins : A6} {σ : St} {H : Hp} {s : Shared} {a : Addr} {y v : V} {u r : Value} {o : Option V} {A : Around} {E : A8}
theorem Inv.big (I : Inv X pins σ H s) : sysModules < s.heap.objs.size := by
 have h : mainGlobals < s.heap.objs.size := (I.mod.glob.keeps I.bk).lt
 exact Nat.lt_trans (by decide) h
theorem oE {Q : A8} (hu : A.units + 1 < cLine) (I : Inv X pins σ H s) (g : DGet H a y (some v)) (ry : RelV y u) (h : ∀ w' s', Inv X pins σ H s' -> RelV v w' -> Q w' s') :
  wpAny (model X.prog X.w) A (getItem (.ref a) u) Q E s := by
 rcases g with ⟨kvs, k, e, ey, l⟩ | ⟨kvs, k, b, e, ey, eb, l⟩
 ·subst ey
  obtain ⟨z, hd, vs, rel, dd⟩ := lj I.hok e
  obtain ⟨w', hw, rw'⟩ := RelO.some_of (v := v) (o := valueAt vs k) (by rw [l]; exact rel.val k)
  exact wpAny_getItem_of (lh ry) dd.mapOf hw (h w' _ (I.tok _) rw')
 ·subst ey
  cases (show u = Value.ref b from ry)
  obtain ⟨z, hd, xs, rel, dd⟩ := nH I.hok e
  obtain ⟨w', hw, rw'⟩ := RelO.some_of (v := v) (o := (atKey xs k).map (·.2)) (by rw [l]; exact rel.val k)
  obtain ⟨p, hp, hp2⟩ := Option.map_eq_some_iff.mp hw
  refine wpAny_getItem_heap (tupleKind_room_in1 hu) (kn I.hok eb) dd hp ?_
  rw [hp2]
  exact h w' _ (I.tok _) rw'
theorem zF {Q : A8} (hu : A.units + 1 < cLine) (I : Inv X pins σ H s) (g : DGet H a y o) (ry : RelV y u) (h : ∀ s', Inv X pins σ H s' -> Q (.bool o.isSome) s') :
  wpAny (model X.prog X.w) A (compareOp .In u (.ref a)) Q E s := by
 rcases g with ⟨kvs, k, e, ey, l⟩ | ⟨kvs, k, b, e, ey, eb, l⟩
 ·subst ey
  obtain ⟨z, hd, vs, rel, dd⟩ := lj I.hok e
  refine wpAny_in_of (lh ry) hd dd.mapOf ?_
  rw [<- (rel.val k).isSome_eq, <- l]
  exact h _ (I.tok _)
 ·subst ey
  cases (show u = Value.ref b from ry)
  obtain ⟨z, hd, xs, rel, dd⟩ := nH I.hok e
  refine wpAny_in_heap (tupleKind_room_in1 hu) (kn I.hok eb) hd dd ?_
  have q := (rel.val k).isSome_eq
  rw [Option.isSome_map] at q
  rw [<- q, <- l]
  exact h _ (I.tok _)
theorem nI {h' : Heap} {t' : Nat} {ob : HO} (I : Inv X pins σ H s) (mu : Mut (H a)) (hs : Heap.SameBut a s.heap h') (he : ∃ q, h'.get? a = some q) (new : Ao X.prog X.w (upd H a ob) h' a ob) :
  Inv X pins σ (upd H a ob) { s with heap := h', toks := t' } :=
 I.write (x := a) (e := a) mu (.inl rfl) (fun b q hb z => (hs.2 b hb).trans z) he new
theorem uO {P : Program} {w : World} {H' : Hp} {h' : Heap} {kvs : List (Key × V)} {vs : List (Key × Value)} (z : kvs.length <= sizeLine) (hd : (a == sysModules) = false) (rel : KV kvs vs) (dd : h'.DictOf (Ah P w) a vs) :
  Ao P w H' h' a (.dK kvs) := ⟨z, hd, vs, rel, dd⟩
theorem oF {H' : Hp} {Q : Unit -> Shared -> Prop} (hu : A.units + 1 < cLine) (I : Inv X pins σ H s) (g : DPut H a y v H') (ry : RelV y u) (rv : RelV v r) (h : ∀ s', Inv X pins σ H' s' -> Q () s') :
  wpAny (model X.prog X.w) A (setItem (.ref a) u r) Q E s := by
 rcases g with ⟨kvs, k, e, ey, l, eH⟩ | ⟨kvs, k, b, e, ey, eb, l, eH⟩
 ·subst ey eH
  obtain ⟨z, hd, vs, rel, dd⟩ := xi I.hok e
  have hz : vs.length <= sizeLine := by rw [<- rel.length]; exact z
  have hl : (putK kvs k v).length <= sizeLine := by have := il kvs k v; lia
  refine wpAny_setItem_pairs (hsz := hz) (lh ry) dd fun h' dd' hs => h _ ?_
  have he : ∃ q, h'.get? a = some q := let ⟨q, _, _, hq, _⟩ := dd'; ⟨q, hq⟩
  exact nI I (by rw [e]; exact True.intro) hs he (uO hl hd (rel.put k rv) dd')
 ·subst ey eH
  cases (show u = Value.ref b from ry)
  obtain ⟨z, hd, xs, rel, dd⟩ := xj I.hok e
  have hz : xs.length <= sizeLine := by rw [<- Paired.length rel]; exact z
  have hl : (putK kvs k v).length <= sizeLine := by have := il kvs k v; lia
  refine wpAny_setItem_heap (hsz := hz) (tupleKind_room_in1 hu) (kn I.hok eb) dd fun h' dd' hs => h _ ?_
  obtain ⟨q, es, ep, hq, h2, h3, h4, _, h5⟩ := dd'
  refine nI I (by rw [e]; exact True.intro) hs ⟨q, hq⟩ ⟨hl, hd, _, (rel.put k eb rv).keeps fun c ys ec => ?_, q, es, ep, hq, h2, h3, h4, h5⟩
  rw [av (wV ec e (fun z => nomatch z))]
  exact ec
end
section
variable {X : Cx} {pins : A6} {σ : St} {H : Hp} {s : Shared} {a : Addr} {kvs : List (Key × V)} {k : Key} {u : Value} {A : Around} {E : A8}
theorem xk {Q : A8} (I : Inv X pins σ H s) (e : Rd H a (.dK kvs)) (h : ∀ t s', Inv X pins σ H s' -> Q (.int kvs.length t) s') : wpAny (model X.prog X.w) A (call (.builtin "len") [.ref a]) Q E s := by
 obtain ⟨z, hd, vs, rel, dd⟩ := lj I.hok e
 refine call_len_dict hd dd (by rw [<- rel.length]; rw [sizeLine_eq] at z; lia) ?_
 rw [<- rel.length]
 exact h _ _ (I.tok _)
end
theorem ll {X : Cx} {pins : A6} {σ : St} {H : Hp} {s : Shared} {a : Addr} {y : V} {o : Option V} (I : Inv X pins σ H s) (g : DGet H a y o) : s.TypeIs (.ref a) "dict" := by
 rcases g with ⟨kvs, k, e, _, _⟩ | ⟨kvs, k, b, e, _, _, _⟩
 ·obtain ⟨_, _, vs, _, dd⟩ := lj I.hok e
  exact dd.typeIs
 ·obtain ⟨_, _, xs, _, dd⟩ := nH I.hok e
  exact dd.typeIs
noncomputable def CB (td ty tv : TE) : TS := fun D σ H => tv σ H fun v H1 => td σ H1 fun x H2 => ty σ H2 fun y H3 => ∃ a H4, x = .ref a /\ DPut H3 a y v H4 /\ D.nx σ H4
section
variable {X : Cx} {o i e value : Expr} {pos pos' tpos : Pos} {td ty tv : TE}
theorem rP (hu : X.A.units + 1 < cLine) (ho : PE X o td) (hi : PE X i ty) (hv : PE X value tv) (hs : swapsWith value (some (.Subscript o i pos')) pos.line X.env = pure false) :
  PS X (.Assign [.Subscript o i pos'] value pos) (CB td ty tv) := by
 intro pins s σ H D I h
 refine wpAny_Assign_Subscript (thn (hv pins s σ H _ I h) fun r s1 ⟨v, H1, I1, rv, q1⟩ => thn (ho pins s1 σ H1 _ I1 q1) fun u s2 ⟨x, H2, I2, rx, q2⟩ => thn (hi pins s2 σ H2 _ I2 q2) fun iv s3 ⟨y, H3, I3, ry, a, H4, ex, g, q3⟩ => ?_) hs
 subst ex
 obtain rfl : u = Value.ref a := rx
 exact oF hu I3 g ry rv fun s4 I4 => ⟨σ, H4, I4, q3⟩
end
theorem pZ {P : Program} {w : World} {H : Hp} (h : Heap) (hb : sysModules < h.objs.size) : Ao P w H (h.push { cls := .type "dict", data := .dict #[] }) h.objs.size (.dK []) :=
 ⟨Nat.zero_le _, beq_eq_false_iff_ne.mpr (Ne.symm (Nat.ne_of_lt hb)), [], .nil, Heap.DictOf.new h⟩
noncomputable def Bt : TE := fun _ H Q => ∀ p, H p = none -> Q (.ref p) (upd H p (.dK []))
section
variable {X : Cx} {pos : Pos}
theorem gB : PE X (.Dict [] [] pos) Bt := fun pins s σ H Q I h =>
 wpAny_Dict_empty ⟨.ref s.heap.objs.size, _, I.laid (a := s.heap.objs.size) (o := .dK []) (t' := s.toks) (fun _ _ q => Heap.get?_push_of_some _ q) (Nat.le_refl _) (pZ s.heap I.big), rfl, h _ (I.hok.fresh (Nat.le_refl _))⟩
end
structure M1 (X : Cx) (o : Expr) (m : Str) (apos : Pos) (e : Expr) (cpos : Pos) : Prop where
 base : attributeBase o m X.env (eval o X.env) = eval o X.env
 few : ((backTo cpos (starEach [e] X.env)).all (fun x => !x.1) && (backToKw cpos (keywordEach [] X.env)).all (fun x => x.1.isSome)
  && decide (([e] : List Expr).length + ([] : List Keyword).length + (if ([] : List Keyword).isEmpty then 0 else 1) < 30)) = true
 line : (apos.endLine == cpos.line) = true
 trees : backTo cpos (starEach [e] X.env) = [(false, eval e X.env)]
structure M2 (X : Cx) (o : Expr) (m : Str) (apos : Pos) (e f : Expr) (cpos : Pos) : Prop where
 base : attributeBase o m X.env (eval o X.env) = eval o X.env
 few : ((backTo cpos (starEach [e, f] X.env)).all (fun x => !x.1) && (backToKw cpos (keywordEach [] X.env)).all (fun x => x.1.isSome)
  && decide (([e, f] : List Expr).length + ([] : List Keyword).length + (if ([] : List Keyword).isEmpty then 0 else 1) < 30)) = true
 line : (apos.endLine == cpos.line) = true
 trees : backTo cpos (starEach [e, f] X.env) = [(false, eval e X.env), (false, eval f X.env)]
section
variable {X : Cx} {pins : A6} {σ : St} {H : Hp} {s : Shared} {a : Addr} {y d : V} {u r : Value} {o : Option V} {A : Around} {E : A8}
end
section
variable {X : Cx} {o e f : Expr} {apos cpos : Pos} {td ty tx : TE}
end
section
variable {X : Cx} {pins : A6} {σ : St} {H : Hp} {s : Shared} {a : Addr} {kvs : List (Key × V)} {A : Around} {E : A8}
end
section
variable {X : Cx} {pins : A6} {σ : St} {H : Hp} {s : Shared} {a : Addr} {y : V} {u : Value} {A : Around} {E : A8}
end
end L2
namespace Att
open PySem PySem.W PySem.Calls PyProof.Rows
theorem iC {P : Params} {h : Heap} : ∀ (ns : List Int) (vs : List Value), WellAll P h vs (ns.map WData.int) -> IntsAre vs ns := by
 intro ns
 induction ns with
 | nil =>
  intro vs w
  rw [List.map_nil] at w
  cases w
  exact .nil
 | cons n ns ih =>
  intro vs w
  rw [List.map_cons] at w
  cases w with
  | cons a b =>
   cases a
   exact .cons _ _ (ih _ b)
theorem oG {l : OpenLaw} {n : Nat} (hn : l.most = some n) {P : Params} {h : Heap} {args : List WData} {vals : List Value}
  (hpre : l.row.toRowW.claim.pre args = true) (hwl : WellAll P h vals args) :
  ∃ a vs ns, vals = [Value.ref a] /\ args = [WData.list (ns.map WData.int)] /\ h.get? a = some { cls := .type "list", data := .seq vs.toArray } /\ IntsAre vs ns /\ ns.length <= n := by
 have hsh : WShape.hasAll [] args [.list .int] = true := (pre_splitW hpre).1
 have hc : l.pre.holds [] { args := args } = true := (pre_splitW hpre).2
 obtain ⟨d, r, rfl, h1, h2⟩ := hasAllW_cons hsh
 obtain rfl := hasAllW_nil h2
 obtain ⟨xs, rfl, h3⟩ := hasW_list h1
 obtain ⟨ns, rfl⟩ := items_int h3
 have hlen : ns.length <= n := by
  unfold OpenLaw.pre at hc
  have h4 : (WTm.not (.lt (.lit (.int (n : Int))) (.len (.arg 0)))).holds [] { args := [.list (ns.map .int)] } = true := by
   have h4 := (holds_andW hc).1
   rw [hn] at h4
   exact h4
  have h5 := condW_of h4 (w_not (w_lt w_lit (w_len_list (w_arg rfl))))
  rw [List.length_map] at h5
  refine Nat.le_of_not_lt fun q => ?_
  have q' : (n : Int) < ((ns.length : Nat) : Int) := by lia
  first
   | (rw [decide_eq_true q'] at h5; exact absurd h5 (by decide))
   | (simp at h5; lia)
 cases hwl with
 | cons w1 w2 =>
  cases w2
  cases w1 with
  | list ho hall => exact ⟨_, _, ns, rfl, rfl, ho, iC ns _ hall, hlen⟩
theorem oH (l : OpenLaw) (args : List WData) : l.row.toRowW.claim.post args (.bool true) args = true :=
 postW_of (r := l.row.toRowW) (X := (true == true))
  (show WShape.has [] (.bool true) .bool = true by first | rfl | decide | simp [WShape.has, WShape.arms, WShape.armsAll])
  (show (WTm.eq .res (.lit (.bool true))).value [] { args := args, res := some (.bool true), after := args } = some (.bool (true == true)) from w_eq_bool (w_res rfl) w_lit) rfl
theorem lq {l : OpenLaw} {n : Nat} {q : Program} {loose : List Str} {XP : (Str -> Option Value) -> Heap -> Prop} {YP : World -> Heap -> Prop} {d : DefRec}
  (hn : l.most = some n) (hdf : d.params.defaults = [])
  (call : ∀ (w : World) (s₀ s₁ : Shared) (mg mb : A5) (fa : Addr) (o : Obj) (pm cd doc : Value) (a : Addr) (vs : List Value) (ns : List Int),
   Ground q loose [] XP w s₀ mg mb s₁.heap -> YP w s₁.heap ->
   s₁.heap.get? fa = some o -> o.data = .func (docDef d.name d.params d.body d.scope pm cd doc) -> s₁.heap.CodeRec cd d.name -> mg d.name = some (.ref fa) ->
   s₁.heap.get? a = some { cls := .type "list", data := .seq vs.toArray } -> IntsAre vs ns -> ns.length <= n -> s₁.gens = #[] ->
   codeAny (model l.prog w) callerA (.call (.ref fa) ⟨[.ref a], []⟩) (fun r s' => r = .ok (.ret (.bool true)) /\ OldK s₁.heap s'.heap /\ s'.os = s₁.os /\ AllBare s'.gens) s₁) :
  WalkO q loose XP YP l.row.toRowW d [] (fun f vs => PySem.call f vs) := by
 intro w s₀ s₁ mg mb G Y fa o pm cd doc dV kV ho hd hcd hD hmg hg args vals as hpre hlay hrd hwl hlo
 obtain rfl : dV = .none := Dflts.none hD hdf
 obtain rfl : kV = .none := Dflts.noKw hD
 obtain ⟨a, vs, ns, rfl, rfl, hobj, hints, hlen⟩ := oG hn hpre hwl
 refine enter_call (codeAny_mono (call w s₀ s₁ mg mb fa o pm cd doc a vs ns G Y ho (fd_plain hd) hcd hmg hobj hints hlen hg) fun r s' hq => ?_)
 obtain ⟨rfl, h2, h3, h4⟩ := hq
 exact ⟨.inl ⟨.bool true, .bool true, [], rfl, fun _ => rfl, .bool true, oH l _, fun _ => ⟨List.Pairwise.nil, fun _ hm => (nomatch hm)⟩⟩, h2, h3, h4⟩
section
variable {prog : Program} {w : World} {A : Around} {E : A8} {s : Shared} {K : Frag}
end
end Att
namespace L2
open PySem PySem.Spec PyProof.Rows
theorem hR : ∀ {vs : List Value} {ns : List Int}, IntsAre vs ns -> Vals (ns.map V.int) vs
 | _, _, .nil => .nil
 | _, _, .cons n t h => .cons ⟨t, rfl⟩ (hR h)
noncomputable def Only (H : Hp) : Prop := ∀ b, H b = none \/ ∃ o xs, H b = some (.frz o (.lst xs))
theorem qc {P : Program} {w : World} {K : W.Frag} {mg mb : A5} {CX : CXT} {k : Nat} {fa a : Addr} {fd : FuncData} {x : Str} {sp : Sp} {s₁ : Shared} {vs : List Value} {ns : List Int}
  (KX : K.In s₁.heap) (hns : s₁.heap.Ns mainGlobals mg) (hb : s₁.heap.Ns builtinsNs mb) (hbb : ∀ x : Str, x ≠ "__name__" -> mb x = bootBuiltins x) (hlim : s₁.heap.NoLimit) (hg : s₁.gens = #[])
  (ha : s₁.heap.get? a = some { cls := .type "list", data := .seq vs.toArray }) (hi : IntsAre vs ns) (hl : ns.length <= sizeLine) (hr : Room k callerA)
  (F : ∀ base : Heap, K.In base -> base.Ns mainGlobals mg -> FnOk P w K mg base CX k fa fd [x] sp) (hbind : ∀ (s : Shared) (u : Value), BindsTo s fd ⟨[u], []⟩ [(x, u)])
  (hsp : ∀ H : Hp, Only H -> SqR K H a (ns.map V.int) -> sp [.ref a] H (fun v _ => v = .bl true) fun _ _ _ => False)
  (hCX : ∀ H e s', CX [] H s₁ (fun _ _ _ => False) e s' -> False) :
  codeAny (model P w) callerA (.call (.ref fa) ⟨[.ref a], []⟩) (fun r s' => r = .ok (.ret (.bool true)) /\ OldK s₁.heap s'.heap /\ s'.os = s₁.os /\ AllBare s'.gens) s₁ := by
 have rv := hR hi
 have lenV := hi.length
 have core : ∀ H : Hp, Only H -> SqR K H a (ns.map V.int) -> HOk P w H s₁.heap -> (∀ b, H b ≠ none -> b = a) -> (H a ≠ none -> K.lookup a = none) ->
   codeAny (model P w) callerA (.call (.ref fa) ⟨[.ref a], []⟩) (fun r s' => r = .ok (.ret (.bool true)) /\ OldK s₁.heap s'.heap /\ s'.os = s₁.os /\ AllBare s'.gens) s₁ := by
  intro H hO hS hok hA hK
  have iM : ∀ {b : Addr} {o : Obj}, s₁.heap.get? b = some o -> H b = none -> (hidT s₁.heap H).get? b = some o := fun e n => pF e n
  have noA : ∀ {b : Addr} {o : Obj} {es : Array DictEntry} {ep : Nat}, s₁.heap.get? b = some o -> o.data = .dict es ep -> H b = none := fun {b o es ep} e d => by
   cases q : H b with
   | none => rfl
   | some u =>
    have e' : b = a := hA b (by rw [q]; simp)
    subst e'
    rw [ha] at e; cases e
    have d' : Data.seq vs.toArray _ = Data.dict es ep := d
    cases d'
  have nsK : ∀ {b : Addr} {m : A5}, s₁.heap.Ns b m -> (hidT s₁.heap H).Ns b m := fun {b m} ⟨o, es, ep, e, d, r⟩ => ⟨o, es, ep, iM e (noA e d), d, r⟩
  have hKb : K.In (hidT s₁.heap H) := fun b o e => iM (KX b o e) (by
   cases q : H b with
   | none => rfl
   | some u =>
    have e' : b = a := hA b (by rw [q]; simp)
    subst e'
    rw [hK (by rw [q]; simp)] at e; cases e)
  have hM : Mod K mg (hidT s₁.heap H) := ⟨hKb, nsK hns, ⟨mb, nsK hb, hbb⟩, let ⟨mc, h1, h2⟩ := hlim; ⟨mc, nsK h1, h2⟩⟩
  have e0 : Env0 P w K mg (hidT s₁.heap H) callerA [] s₁ H := ⟨rfl, hM, fun b o e => rn e, Nat.le_of_eq (oz _ _), trivial, fun b hb => absurd (show b ∈ ([] : List Addr) from hb) (by simp), hok, .of_eq hg⟩
  refine codeAny_mono ((F _ hKb (nsK hns)).run callerA [] s₁ H ⟨[.ref a], []⟩ [.ref a] [.ref a] _ _ hr e0 (hbind s₁ (.ref a)) (.cons rfl .nil) (hsp H hO hS)) fun r s' h => ?_
  cases r with
  | error e => exact (hCX H e s' h).elim
  | ok fl =>
   cases fl with
   | next => exact False.elim h
   | brk => exact False.elim h
   | cont => exact False.elim h
   | ret u =>
    obtain ⟨v, H', os, bare, un, hok', r', q⟩ := h
    have q' : v = .bl true := q
    subst q'
    obtain rfl : u = Value.bool true := r'
    refine ⟨rfl, OldK.of_keep fun b o e => ?_, os, bare⟩
    cases q : H b with
    | none => exact un.keep b o e q (by intro z; exact absurd (show b ∈ ([] : List Addr) from z) (by simp)) (by simp)
    | some u =>
     rcases hO b with z | ⟨ob, xs, z⟩
     ·rw [q] at z; cases z
     ·have z2 := un.frzs b ob _ z
      obtain ⟨e1, _⟩ := hok b _ z
      obtain ⟨e2, _⟩ := hok' b _ z2
      rw [e] at e1; cases e1
      exact e2
 cases hk : K.lookup a with
 | some o =>
  have e := KX a o hk
  rw [ha] at e
  cases e
  refine core (fun _ => none) (fun _ => .inl rfl) (.inr ⟨vs.toArray, _, hk, by rw [List.size_toArray, lenV]; exact hl, by simpa using rv⟩) (fun b u z => by have z' : (none : Option HO) = some u := z; cases z') (fun b z => absurd rfl z) fun z => absurd rfl z
 | none =>
  refine core (fun b => if b = a then some (.frz { cls := .type "list", data := .seq vs.toArray } (.lst (ns.map V.int))) else none) (fun b => ?_) (.inl (.inr ⟨{ cls := .type "list", data := .seq vs.toArray }, if_pos rfl⟩)) (fun b u z => ?_) (fun b z => ?_) fun _ => hk
  ·by_cases hb : b = a
   ·exact .inr ⟨_, _, if_pos hb⟩
   ·exact .inl (if_neg hb)
  ·by_cases hb : b = a
   ·have z' := (if_pos hb).symm.trans z
    cases z'
    subst hb
    exact ⟨ha, by rw [List.length_map]; exact hl, vs, _, rv, ha⟩
   ·have z' := (if_neg hb).symm.trans z
    cases z'
  ·by_cases hb : b = a
   ·exact hb
   ·exact absurd (if_neg hb) z
theorem rQ {l : W.OpenLaw} {n k : Nat} {q : Program} {loose : List Str} {XP : (Str -> Option Value) -> Heap -> Prop} {YP : World -> Heap -> Prop} {d : DefRec} {K : Params -> W.Frag} {CX : World -> CXT} {sp : World -> Sp} {x : Str}
  (hn : l.most = some n) (hn2 : n <= sizeLine) (hdf : d.params.defaults = []) (hr : Room k callerA)
  (hY : ∀ (w : World) (h : Heap), YP w h -> (K w.params).In h)
  (F : ∀ (w : World) (mg : A5) (fa : Addr) (h : Heap), (K w.params).In h -> h.Ns mainGlobals mg -> mg d.name = some (.ref fa) ->
   ∃ fd : FuncData, (∀ (s : Shared) (u : Value), BindsTo s fd ⟨[u], []⟩ [(x, u)]) /\
    ∀ base : Heap, (K w.params).In base -> base.Ns mainGlobals mg -> FnOk l.prog w (K w.params) mg base (CX w) k fa fd [x] (sp w))
  (hsp : ∀ (w : World) (H : Hp) (a : Addr) (ns : List Int), ns.length <= n -> Only H -> SqR (K w.params) H a (ns.map V.int) -> sp w [.ref a] H (fun v _ => v = .bl true) fun _ _ _ => False)
  (hCX : ∀ (w : World) (H : Hp) (s : Shared) (e : Value) (s' : Shared), CX w [] H s (fun _ _ _ => False) e s' -> False) :
  W.WalkO q loose XP YP l.row.toRowW d [] (fun f vs => PySem.call f vs) := by
 refine Att.lq hn hdf fun w s₀ s₁ mg mb fa o pm cd doc a vs ns G Y ho hd hcd hmg hobj hints hlen hg => ?_
 have KX := hY w _ Y
 obtain ⟨fd, hb, hF⟩ := F w mg fa _ KX G.T.g hmg
 exact qc KX G.T.g G.T.b G.T.builtins G.T.nolimit hg hobj hints (Nat.le_trans hlen hn2) hr hF hb (fun H hO hS => hsp w H a ns hlen hO hS) fun H e s' => hCX w H s₁ e s'
noncomputable def inClass (s : Stmt) (j : Nat) : Stmt := match s with
 | .ClassDef _ _ _ body _ _ _ _ _ _ _ => body.getD j (.Pass ⟨0, 0, 0, 0⟩)
 | _ => .Pass ⟨0, 0, 0, 0⟩
noncomputable def defArgs (s : Stmt) : Arguments := match s with
 | .FunctionDef _ a _ _ _ _ _ _ _ _ => a
 | _ => { posonlyargs := [], args := [], vararg := none, kwonlyargs := [], kw_defaults := [], kwarg := none, defaults := [] }
noncomputable def defBody (s : Stmt) : List Stmt := match s with
 | .FunctionDef _ _ b _ _ _ _ _ _ _ => b
 | _ => []
noncomputable def defScope (s : Stmt) : Scope := match s with
 | .FunctionDef _ _ _ _ _ _ sc _ _ _ => sc
 | _ => { kind := .function, names := [], isGenerator := false, isCoroutine := false }
abbrev E0 : XK := fun _ _ _ => False
structure Fun (K : W.Frag) (x qual : Str) (st : Stmt) (f : Addr) (fd : FuncData) : Prop where
 ex : ∃ (oc : Value) (od : Option Addr) (kV doc pm : Value) (an : Option Addr) (cdv ct : Value) (osl : Array (Option Value)),
  fd = W.fnOf x qual (defArgs st) (defBody st) (defScope st) .none kV doc pm an cdv ct /\ K.lookup f = some ⟨oc, od, .func fd, osl⟩ /\ W.codeIn K cdv qual = true
 kp : W.keepIn K (.ref f) = true
section
variable {P : Program} {w : World} {K : W.Frag} {mg : A5} {base : Heap}
theorem Fun.binds {x qual : Str} {st : Stmt} {f : Addr} {fd : FuncData} {ps : List Str} (F : Fun K x qual st f fd)
  (h : ∀ (kV doc pm : Value) (an : Option Addr) (cdv ct : Value) (us : List Value), us.length = ps.length -> bindArgs (W.fnOf x qual (defArgs st) (defBody st) (defScope st) .none kV doc pm an cdv ct) ⟨us, []⟩ = pure (ps.zip us)) : Binds K fd ps [] := by
 obtain ⟨oc, od, kV, doc, pm, an, cdv, ct, osl, rfl, lk, hcd⟩ := F.ex
 exact .all (h kV doc pm an cdv ct)
theorem mF {x qual : Str} {st : Stmt} {f : Addr} {oc : Value} {od an : Option Addr} {osl : Array (Option Value)} {kV doc pm cdv ct : Value} (l : K.lookup f = some ⟨oc, od, .func (W.fnOf x qual (defArgs st) (defBody st) (defScope st) .none kV doc pm an cdv ct), osl⟩)
  (c : W.codeIn K cdv qual = true) (k : W.keepIn K (.ref f) = true) : Fun K x qual st f (W.fnOf x qual (defArgs st) (defBody st) (defScope st) .none kV doc pm an cdv ct) := ⟨⟨oc, od, kV, doc, pm, an, cdv, ct, osl, rfl, l, c⟩, k⟩
end
section
variable {X : Cx}
theorem pv (i : Nat) {x : Str} {pos : Pos} (hN : X.N[i]? = some x := by rfl) (hv : Vis X.env.scope x := by first | exact Or.inl rfl | exact Or.inr (Or.inl rfl) | exact Or.inr (Or.inr rfl)) (hd : (x == ("__debug__" : Str)) = false := by decide)
  (hcd : (x == ("__classdict__" : Str)) = false := by decide) : PE X (.Name x pos) (tVar i) := ft hN hv hd hcd
end
noncomputable def Same (H H' : Hp) : Prop := ∀ b o, H b = some o -> H' b = some o
theorem Same.refl (H : Hp) : Same H H := fun _ _ h => h
theorem Same.trans {H H1 H2 : Hp} (a : Same H H1) (b : Same H1 H2) : Same H H2 := fun c o h => b c o (a c o h)
theorem Same.free {H H' : Hp} (e : Same H H') {l : Addr} (h : H' l = Option.none) : H l = Option.none := by
 cases q : H l with
 | none => rfl
 | some o =>
  rw [e l o q] at h
  cases h
section
variable {X : Cx}
end
section
variable {κ : Type} [DecidableEq κ]
theorem nJ : ∀ {l : List κ} {k : κ}, l.Nodup -> ¬ k ∈ l -> (l ++ [k]).Nodup
 | [], k, _, _ => by simp
 | a :: r, k, h, hk => by
  obtain ⟨h1, h2⟩ := List.nodup_cons.mp h
  show (a :: (r ++ [k])).Nodup
  refine List.nodup_cons.mpr ⟨fun m => ?_, nJ h2 fun m => hk (List.mem_cons.mpr (Or.inr m))⟩
  rcases List.mem_append.mp m with q | q
  ·exact h1 q
  ·exact hk (List.mem_cons.mpr (Or.inl (List.mem_singleton.mp q).symm))
end
end L2
set_option maxHeartbeats 4000000
namespace L2
open PySem PySem.W
noncomputable def runT (tb : String -> Option Builtin) (p : Program) (w : World) (n₀ : Nat) (ann : Option Value) : Nat -> SharedT -> Thread -> Option SharedT :=
 fun n => Nat.rec (fun _ _ => none) (fun _ ih s t => match through t with
  | true => some s
  | false => match stepOk n₀ ann t with
   | false => none
   | true => match stepT (denote tb) p w s t with
    | some (s', t') => ih s' t'
    | none => none) n
theorem nK {tb : String -> Option Builtin} {p : Program} {w : World} {n₀ : Nat} {ann : Option Value} : ∀ {n : Nat} {s s' : SharedT} {t : Thread}, runT tb p w n₀ ann n s t = some s' -> topRun tb p w n₀ ann n s.abs t = some s'.abs
 | 0, _, _, _, h => by cases h
 | n + 1, s, s', t, h => by
  have h2 : (match through t with
   | true => some s
   | false => match stepOk n₀ ann t with
    | false => none
    | true => match stepT (denote tb) p w s t with
     | some (s', t') => runT tb p w n₀ ann n s' t'
     | none => none) = some s' := h
  unfold topRun
  cases he : through t with
  | true => rw [he] at h2; cases h2; rfl
  | false =>
   rw [he] at h2
   cases hk : stepOk n₀ ann t with
   | false => rw [hk] at h2; cases h2
   | true =>
    rw [hk] at h2
    cases hs : stepT (denote tb) p w s t with
    | none => rw [hs] at h2; cases h2
    | some r => obtain ⟨s₂, t₂⟩ := r; rw [hs] at h2; rw [stepT_spec hs]; exact nK h2
noncomputable def goT (tb : String -> Option Builtin) (p : Program) (w : World) (n₀ : Nat) (ann : Option Value) : Nat -> SharedT -> Thread -> Option (SharedT × Thread) :=
 fun n => Nat.rec (fun s t => some (s, t)) (fun _ ih s t => match through t with
  | true => none
  | false => match stepOk n₀ ann t with
   | false => none
   | true => match stepT (denote tb) p w s t with
    | some (s', t') => ih s' t'
    | none => none) n
theorem qd {tb : String -> Option Builtin} {p : Program} {w : World} {n₀ : Nat} {ann : Option Value} : ∀ {n : Nat} {s s' : SharedT} {t t' : Thread}, goT tb p w n₀ ann n s t = some (s', t') -> topGo tb p w n₀ ann n s.abs t = some (s'.abs, t')
 | 0, _, _, _, _, h => by cases h; rfl
 | n + 1, s, s', t, t', h => by
  have h2 : (match through t with
   | true => none
   | false => match stepOk n₀ ann t with
    | false => none
    | true => match stepT (denote tb) p w s t with
     | some (s', t') => goT tb p w n₀ ann n s' t'
     | none => none) = some (s', t') := h
  unfold topGo
  cases he : through t with
  | true => rw [he] at h2; cases h2
  | false =>
   rw [he] at h2
   cases hk : stepOk n₀ ann t with
   | false => rw [hk] at h2; cases h2
   | true =>
    rw [hk] at h2
    cases hs : stepT (denote tb) p w s t with
    | none => rw [hs] at h2; cases h2
    | some r => obtain ⟨s₂, t₂⟩ := r; rw [hs] at h2; rw [stepT_spec hs]; exact qd h2
noncomputable def part1 (p : Program) (w : World) (n₀ : Nat) (ann : Option Value) (n1 n2 n3 : Nat) (b l : List Stmt) (env : Env) (c : Code) (B : List Frame) (s : SharedT) : Option (Thread × Code × SharedT × Code × Pos) :=
 match goT treeTable p w n₀ ann n1 s (topStub p) with
 | none => none
 | some (sa, ta) => match segRunT treeTable p w n₀ ann 1 n2 sa (blockOf b env c ta.pos B) with
  | some (.next, sb, cb, pb) => match segRunT treeTable p w n₀ ann 1 n3 sb (piecesOf l env c pb B) with
   | some (.next, s1, c1, p1) => some (ta, cb, s1, c1, p1)
   | _ => none
  | _ => none
theorem oI {p : Program} {w : World} {n₀ : Nat} {ann : Option Value} {n1 n2 n3 N : Nat} {b l rest : List Stmt} {env : Env} {c : Code} {q pos p1 : Pos} {s s1 : SharedT} {r : Shared}
  (h : part1 p w n₀ ann n1 n2 n3 b l env c [topFrame q] s = some (⟨denote treeTable (.body b env), c, pos, [topFrame q]⟩, c, s1, c, p1)) (hb : b = l ++ rest)
  (k : topRun treeTable p w n₀ ann N s1.abs (restOf rest env c p1 [topFrame q]) = some r) : topRun treeTable p w n₀ ann (n1 + (n2 + (n3 + N))) s.abs (topStub p) = some r := by
 unfold part1 at h
 split at h
 ·cases h
 ·rename_i sa ta h1
  split at h
  ·rename_i sb cb pb h2
   split at h
   ·rename_i s1' c1 p1' h3
    cases h
    have a1 := qd h1
    have a2 := segRun_of h2
    have a3 := segRun_of h3
    refine go_top a1 (piece_block a2 ?_)
    subst hb
    exact piece_app a3 k
   ·cases h
  ·cases h
abbrev BU (p : Program) (m₀ : Nat) (ann : Option Value) (n1 n2 n3 : Nat) (b l : List Stmt) (env : Env) (c : Code) (qq pos p1 : Pos) (T0 T1 : Params -> BT) (n0 nn tk : Nat) (w : World) : Prop := (fun os => part1 p w m₀ ann n1 n2 n3 b l env c [topFrame qq] ⟨T0 w.params, n0, {}, Array.mk [], boot_drawn, boot_toks, os⟩) =
   fun os => some (⟨denote treeTable (.body b env), c, pos, [topFrame qq]⟩, c, ⟨T1 w.params, nn, {}, Array.mk [], boot_drawn, tk, os⟩, c, p1)
abbrev RunP (p : Program) (m₀ : Nat) (ann : Option Value) (M : Nat) (rest : List Stmt) (env : Env) (c : Code) (qq p1 : Pos) (T1 T2 : Params -> BT) (nn tk n4 tk2 : Nat) (w : World) : Prop := (fun os => runT treeTable p w m₀ ann M ⟨T1 w.params, nn, {}, Array.mk [], boot_drawn, tk, os⟩ (restOf rest env c p1 [topFrame qq])) = fun os => some ⟨T2 w.params, n4, {}, Array.mk [], boot_drawn, tk2, os⟩
abbrev BV (p q : Program) (loose : List Str) (Xt : Shared -> Bool) {α : Type} (Yf : Shared -> α) (Ya : World -> α) (T2 : Params -> BT) (n4 tk2 : Nat) (w : World) : Prop := (fun os : OsState => let s : SharedT := ⟨T2 w.params, n4, {}, Array.mk [], boot_drawn, tk2, os⟩
   ((staticsOk (importedModules p.main.body) (boot_heap w.params) s.abs.heap && namesBound p s.abs.heap && gensDone s.abs && laidKept (boot_heap w.params) s.abs.heap),
    openSeen q loose (importedModules p.main.body) Xt true s.abs, Yf s.abs)) = fun _ => (true, openGood q loose, Ya w)
theorem mG {p q : Program} {loose : List Str} {Xt : Shared -> Bool} {α : Type} {Yf : Shared -> α} {Ya : World -> α} {N M n1 n2 n3 : Nat} {T0 T1 T2 : Params -> BT} {n0 m₀ nn tk n4 tk2 : Nat} {ann : Option Value} {b l rest : List Stmt} {env : Env} {c : Code} {qq pos p1 : Pos}
  (eo : opening p = plainProg p.main.scope.names) (hN : Nat.ble 600 N = true) (f : ∀ s, fenceModules? p s = some s)
  (size : ∀ w : World, ((boot_heap w.params).isNs mainGlobals, (boot_heap w.params).objs.size, (boot_heap w.params).nsMap mainGlobals "__annotations__") = (true, m₀, ann))
  (hT : ∀ P, absHeap (T0 P) n0 {} = boot_heap P) (hb : b = l ++ rest) (le : Nat.ble (n1 + (n2 + (n3 + M))) N = true)
  (first : ∀ w, BU p m₀ ann n1 n2 n3 b l env c qq pos p1 T0 T1 n0 nn tk w) (run : ∀ w, RunP p m₀ ann M rest env c qq p1 T1 T2 nn tk n4 tk2 w) (looks : ∀ w, BV p q loose Xt Yf Ya T2 n4 tk2 w) : LeftO p q loose Xt Yf Ya N := fun w => by
 obtain ⟨⟨h, gs, d, k, os⟩, e, e'⟩ := Option.map_eq_some_iff.mp (boot_open eo hN f w)
 obtain ⟨rfl, rfl, rfl, rfl⟩ : h = boot_heap w.params /\ gs = Array.mk [] /\ d = boot_drawn /\ k = boot_toks := by simpa using e'
 obtain ⟨z1, z2, z3⟩ : _ /\ _ /\ _ := by simpa only [Prod.mk.injEq] using size w
 have r0 := congrFun (run w) os
 have lk := congrFun (looks w) os
 generalize (⟨T2 w.params, n4, {}, Array.mk [], boot_drawn, tk2, os⟩ : SharedT) = s' at r0 lk
 obtain ⟨l1, l2, l3⟩ : _ /\ _ /\ _ := by simpa only [Prod.mk.injEq] using lk
 have r := topRun_mono (N - (n1 + (n2 + (n3 + M)))) _ _ _ _ (oI (congrFun (first w) os) hb (nK r0))
 rw [show n1 + (n2 + (n3 + M)) + (N - (n1 + (n2 + (n3 + M)))) = N by have := Nat.le_of_ble_eq_true le; omega] at r
 have hs : SharedT.abs ⟨T0 w.params, n0, {}, Array.mk [], boot_drawn, boot_toks, os⟩ = ⟨boot_heap w.params, Array.mk [], boot_drawn, boot_toks, os⟩ := by
  show (⟨absHeap _ _ _, _, _, _, _⟩ : Shared) = _
  rw [hT]
 rw [hs] at r
 have t : topFrom treeTable p w N ⟨boot_heap w.params, Array.mk [], boot_drawn, boot_toks, os⟩ = some s'.abs := by
  unfold topFrom
  dsimp only
  rw [z1, z2, z3, r]
  show (match staticsOk (importedModules p.main.body) (boot_heap w.params) s'.abs.heap && namesBound p s'.abs.heap && gensDone s'.abs && laidKept (boot_heap w.params) s'.abs.heap with | true => _ | false => _) = _
  rw [l1]
 unfold openEnds
 rw [e]
 show (topFrom treeTable p w N _).map _ = _
 rw [t]
 exact congrArg some (Prod.ext l2 l3)
end L2
namespace L2H
open PySem PySem.W PyProof.Rows L2
noncomputable def tp (l : List Value) : Obj := ⟨.type "tuple", none, .seq l.toArray 0, #[]⟩
noncomputable def fl : Obj := ⟨.none, none, .fields #[], #[]⟩
noncomputable def cd (n q : Str) (t l a f r : Nat) (b : Bool) (x y z u : Value) (k : Nat) : Obj := ⟨.type "code", none, .fields #[.str n t, .str q (t + 1), .str "/claim/cut.py" (t + 2), .int l 0, .int a 0, .int 0 0, .int 0 0, .int f 0, .ref r, .bool b, .int 181 0, .ref (r + 1), x, y, z, u, .int k 0, .int l 0, .str "/claim/cut.py" (k + 1)], #[]⟩
noncomputable def fo (n q : Str) (s : Stmt) (m : Value) (c : Nat) : Obj := ⟨.type "function", none, .func (fnOf n q (L2.defArgs s) (L2.defBody s) (L2.defScope s) .none .none .none m none (.ref c) .none), #[]⟩
noncomputable def f0 (n q : Str) (s : Stmt) : Obj := ⟨.none, none, .func { fnOf n q (L2.defArgs s) (L2.defBody s) (L2.defScope s) .none .none .none .none none .none .none with globals := 0 }, #[]⟩
noncomputable def dc (e : Array DictEntry) (k : Nat) : Obj := ⟨.type "dict", none, .dict e k, #[]⟩
noncomputable def de (P : Params) (k : Str) (t : Nat) (v : Value) : DictEntry := ⟨PyData.keyHash P k, .str k t, v⟩
noncomputable def fd (n : String) (l : List Value) : Obj := ⟨.type n, none, .fields l.toArray, #[]⟩
noncomputable def fm (c l : Nat) (m : Value) : Obj := ⟨.type "frame", none, .plain, #[some (.ref c), some (.ref 3), some (.ref l), none, some m, none, some (.ref 0)]⟩
noncomputable def top (i : Nat) : Stmt := PySem.Challenge.pw_sayhall_k15_refusals.main.body.getD i (.Pass ⟨0, 0, 0, 0⟩)
noncomputable def VW : Program := { PySem.Challenge.pw_sayhall_k15_refusals with main := { PySem.Challenge.pw_sayhall_k15_refusals.main with body := [top 1, top 2, top 3, top 4, top 5, top 6, top 7, top 8, top 9, top 10, top 12, top 13, top 14, top 15, top 17, top 18, top 19, top 20, top 21, top 22, top 23, top 24, top 25, top 26, top 27, top 28, top 30, top 31, top 32, top 33, top 34, top 35, top 36, top 38, top 39, top 40, top 42, top 43, top 44, top 45, top 46, top 47, top 48, top 49, top 50, top 52, top 53, top 54, top 55, top 56, top 58, top 59, top 60, top 61, top 62, top 63, top 65, top 66, top 67, top 68, top 70, top 71, top 72, top 73, top 74, top 75, top 76, top 77, top 78, top 79, top 80, top 82, top 83, top 84, top 85, top 86, top 87, top 88, top 89, top 90, top 91, top 92, top 93] } }
noncomputable def o0 (P : Params) : Obj := dc (List.toArray (de P "__name__" 165 (.str "law_sayhall_k15_refusals" 908) :: de P "__doc__" 166 .none :: de P "__package__" 167 .none :: de P "__loader__" 168 (.builtin "__main__.__loader__#opaque") :: de P "__spec__" 169 .none :: de P "__annotations__" 170 (.ref 6) :: de P "__builtins__" 171 (.ref 4) :: de P "__file__" 173 (.str "/claim/cut.py" 172) :: de P "__cached__" 174 .none :: de P "SayError" 206 (.ref 24) :: de P "NoSayings" 222 (.ref 37) :: de P "NoSaying" 238 (.ref 49) :: de P "NoCase" 254 (.ref 61) :: de P "NoThing" 270 (.ref 73) :: de P "Clash" 286 (.ref 85) :: de P "Fits" 302 (.ref 97) :: de P "NotPlain" 318 (.ref 109) :: de P "NoKinds" 334 (.ref 121) :: de P "NoSentence" 350 (.ref 133) :: de P "NO_CASE" 354 (.int 0 353) :: de P "EVERY_CASE" 356 (.int 1 355) :: de P "Forks" 428 (.ref 178) :: de P "left_over" 438 (.ref 189) :: de P "MOST_THINGS" 442 (.int 16 441) :: de P "MOST_SAYINGS" 444 (.int 24 443) :: de P "is_whole" 451 (.ref 196) :: de P "is_from_one_to" 459 (.ref 203) :: de P "is_saying" 469 (.ref 210) :: de P "is_case" 475 (.ref 215) :: de P "checked" 485 (.ref 222) :: de P "is_so" 493 (.ref 229) :: de P "holds" 499 (.ref 234) :: de P "all_true" 508 (.ref 241) :: de P "fits" 518 (.ref 248) :: de P "put_together" 524 (.ref 253) :: de P "SOME" 528 (.str "some" 527) :: de P "ALL" 530 (.str "all" 529) :: de P "played" 540 (.ref 260) :: de P "are_kinds" 546 (.ref 265) :: de P "told_from" 556 (.ref 272) :: de P "told_by_choices" 571 (.ref 279) :: de P "after" 579 (.ref 286) :: de P "cases" 587 (.ref 291) :: de P "longer" 599 (.ref 298) :: de P "settled" 605 (.ref 303) :: de P "case_or_clash" 616 (.ref 310) :: de P "follows" 629 (.ref 317) :: de P "fitting_case" 638 (.ref 324) :: de P "searched" 644 (.ref 329) :: de P "narrowest" 650 (.ref 334) :: de P "open_parts" 656 (.ref 339) :: de P "searched_both_ways" 670 (.ref 346) :: de P "laid_out" 678 (.ref 353) :: de P "lay" 689 (.ref 360) :: de P "sharpest" 701 (.ref 367) :: de P "sharpest_at" 714 (.ref 374) :: de P "led_by" 720 (.ref 379) :: de P "alike" 732 (.ref 386) :: de P "case_against" 743 (.ref 393) :: de P "least_clash" 751 (.ref 398) :: de P "between" 757 (.ref 403) :: de P "things_in_both" 763 (.ref 408) :: de P "things_of" 769 (.ref 413) :: de P "has_only" 775 (.ref 418) :: de P "forgotten" 781 (.ref 423) :: de P "least_case" 794 (.ref 430) :: de P "told_so" 800 (.ref 435) :: de P "grown" 812 (.ref 442) :: de P "first_untrue" 822 (.ref 449) :: de P "MOST_SENTENCE_THINGS" 826 (.int 5 825) :: de P "MOST_TUPLES" 828 (.int 12 827) :: de P "LENGTH_BY_WORD" 841 (.ref 450) :: de P "is_true" 850 (.ref 457) :: de P "check_sentence" 861 (.ref 464) :: de P "has_form" 869 (.ref 471) :: de P "truth" 875 (.ref 476) :: de P "sayings_of" 888 (.ref 483) :: de P "number_of" 894 (.ref 488) :: de P "tied" 900 (.ref 493) :: de P "by_things" 907 (.ref 500) :: de P "_law_cell_at" 917 (.ref 507) :: de P "_law_mixed" 927 (.ref 514) :: de P "_law_saying" 933 (.ref 519) :: de P "_law_sayings" 939 (.ref 524) :: de P "_law_with_sayings" 948 (.ref 531) :: de P "_law_with_other" 958 (.ref 538) :: de P "_law_asked" 969 (.ref 545) :: de P "_law_kind" 981 (.ref 552) :: de P "_law_by_base" 993 (.ref 559) :: de P "_law_bad_sentence" 1006 (.ref 566) :: de P "_law_bad" 1018 (.ref 573) :: de P "law" 1024 (.ref 578) :: [])) 92
noncomputable def o1 (P : Params) : Obj := cd "<module>" "<module>" 182 1 0 0 11 false .none .none .none .none 185
noncomputable def o2 (P : Params) : Obj := fd "builtin_function_or_method" [(.builtin "type.__prepare__"), (.type "type")]
noncomputable def o3 (P : Params) : Obj := dc #[de P "__module__" 196 (.str "sayhall.errors" 187), de P "__qualname__" 198 (.str "SayError" 197), de P "__firstlineno__" 200 (.int 2 199), de P "__static_attributes__" 201 (.ref 22)] 4
noncomputable def o4 (P : Params) : Obj := cd "SayError" "SayError" 191 2 0 0 18 false .none .none .none .none 194
noncomputable def o5 (P : Params) : Obj := dc #[de P "__module__" 196 (.str "sayhall.errors" 187), de P "__firstlineno__" 200 (.int 2 199), de P "__static_attributes__" 201 (.ref 22), de P "__weakref__" 203 (.ref 25), de P "__doc__" 204 .none] 3
noncomputable def o6 (P : Params) : Obj := ⟨(.type "type"), none, (.cls ⟨"SayError", [(.type "ValueError")], [(.ref 24), (.type "ValueError"), (.type "Exception"), (.type "BaseException"), (.type "object")], 23, "SayError", true, [], [(.ref 37), (.ref 49), (.ref 61), (.ref 73), (.ref 85), (.ref 97), (.ref 109), (.ref 121), (.ref 133)], false, none, false⟩), #[some (.ref 15), none, some (.str "SayError" 189), some (.str "SayError" 197), some (.builtin "ValueError.__new__"), some (.bool true)]⟩
noncomputable def o7 (P : Params) : Obj := fd "getset_descriptor" [(.str "__weakref__" 202), (.ref 24), (.builtin "ExceptionGroup.__weakref__"), .none]
noncomputable def o8 (P : Params) : Obj := fd "super" [(.ref 24), (.ref 24), (.ref 24)]
noncomputable def o9 (P : Params) : Obj := fd "builtin_function_or_method" [(.builtin "object.__init_subclass__"), (.ref 24)]
noncomputable def o10 (P : Params) : Obj := tp [(.ref 24)]
noncomputable def o11 (P : Params) : Obj := dc #[de P "__module__" 214 (.str "sayhall.errors" 187), de P "__qualname__" 216 (.str "NoSayings" 215), de P "__firstlineno__" 218 (.int 4 217), de P "__static_attributes__" 219 (.ref 35)] 4
noncomputable def o12 (P : Params) : Obj := cd "NoSayings" "NoSayings" 209 4 0 0 31 false .none .none .none .none 212
noncomputable def o13 (P : Params) : Obj := dc #[de P "__module__" 214 (.str "sayhall.errors" 187), de P "__firstlineno__" 218 (.int 4 217), de P "__static_attributes__" 219 (.ref 35), de P "__doc__" 220 .none] 2
noncomputable def o14 (P : Params) : Obj := ⟨(.type "type"), none, (.cls ⟨"NoSayings", [(.ref 24)], [(.ref 37), (.ref 24), (.type "ValueError"), (.type "Exception"), (.type "BaseException"), (.type "object")], 36, "NoSayings", true, [], [], false, none, false⟩), #[some (.ref 28), none, some (.str "NoSayings" 207), some (.str "NoSayings" 215), some (.builtin "ValueError.__new__"), some (.bool true)]⟩
noncomputable def o15 (P : Params) : Obj := fd "super" [(.ref 37), (.ref 37), (.ref 37)]
noncomputable def o16 (P : Params) : Obj := fd "builtin_function_or_method" [(.builtin "object.__init_subclass__"), (.ref 37)]
noncomputable def o17 (P : Params) : Obj := dc #[de P "__module__" 230 (.str "sayhall.errors" 187), de P "__qualname__" 232 (.str "NoSaying" 231), de P "__firstlineno__" 234 (.int 6 233), de P "__static_attributes__" 235 (.ref 47)] 4
noncomputable def o18 (P : Params) : Obj := cd "NoSaying" "NoSaying" 225 6 0 0 43 false .none .none .none .none 228
noncomputable def o19 (P : Params) : Obj := dc #[de P "__module__" 230 (.str "sayhall.errors" 187), de P "__firstlineno__" 234 (.int 6 233), de P "__static_attributes__" 235 (.ref 47), de P "__doc__" 236 .none] 2
noncomputable def o20 (P : Params) : Obj := ⟨(.type "type"), none, (.cls ⟨"NoSaying", [(.ref 24)], [(.ref 49), (.ref 24), (.type "ValueError"), (.type "Exception"), (.type "BaseException"), (.type "object")], 48, "NoSaying", true, [], [], false, none, false⟩), #[some (.ref 40), none, some (.str "NoSaying" 223), some (.str "NoSaying" 231), some (.builtin "ValueError.__new__"), some (.bool true)]⟩
noncomputable def o21 (P : Params) : Obj := fd "super" [(.ref 49), (.ref 49), (.ref 49)]
noncomputable def o22 (P : Params) : Obj := fd "builtin_function_or_method" [(.builtin "object.__init_subclass__"), (.ref 49)]
noncomputable def o23 (P : Params) : Obj := dc #[de P "__module__" 246 (.str "sayhall.errors" 187), de P "__qualname__" 248 (.str "NoCase" 247), de P "__firstlineno__" 250 (.int 8 249), de P "__static_attributes__" 251 (.ref 59)] 4
noncomputable def o24 (P : Params) : Obj := cd "NoCase" "NoCase" 241 8 0 0 55 false .none .none .none .none 244
noncomputable def o25 (P : Params) : Obj := dc #[de P "__module__" 246 (.str "sayhall.errors" 187), de P "__firstlineno__" 250 (.int 8 249), de P "__static_attributes__" 251 (.ref 59), de P "__doc__" 252 .none] 2
noncomputable def o26 (P : Params) : Obj := ⟨(.type "type"), none, (.cls ⟨"NoCase", [(.ref 24)], [(.ref 61), (.ref 24), (.type "ValueError"), (.type "Exception"), (.type "BaseException"), (.type "object")], 60, "NoCase", true, [], [], false, none, false⟩), #[some (.ref 52), none, some (.str "NoCase" 239), some (.str "NoCase" 247), some (.builtin "ValueError.__new__"), some (.bool true)]⟩
noncomputable def o27 (P : Params) : Obj := fd "super" [(.ref 61), (.ref 61), (.ref 61)]
noncomputable def o28 (P : Params) : Obj := fd "builtin_function_or_method" [(.builtin "object.__init_subclass__"), (.ref 61)]
noncomputable def o29 (P : Params) : Obj := dc #[de P "__module__" 262 (.str "sayhall.errors" 187), de P "__qualname__" 264 (.str "NoThing" 263), de P "__firstlineno__" 266 (.int 10 265), de P "__static_attributes__" 267 (.ref 71)] 4
noncomputable def o30 (P : Params) : Obj := cd "NoThing" "NoThing" 257 10 0 0 67 false .none .none .none .none 260
noncomputable def o31 (P : Params) : Obj := dc #[de P "__module__" 262 (.str "sayhall.errors" 187), de P "__firstlineno__" 266 (.int 10 265), de P "__static_attributes__" 267 (.ref 71), de P "__doc__" 268 .none] 2
noncomputable def o32 (P : Params) : Obj := ⟨(.type "type"), none, (.cls ⟨"NoThing", [(.ref 24)], [(.ref 73), (.ref 24), (.type "ValueError"), (.type "Exception"), (.type "BaseException"), (.type "object")], 72, "NoThing", true, [], [], false, none, false⟩), #[some (.ref 64), none, some (.str "NoThing" 255), some (.str "NoThing" 263), some (.builtin "ValueError.__new__"), some (.bool true)]⟩
noncomputable def o33 (P : Params) : Obj := fd "super" [(.ref 73), (.ref 73), (.ref 73)]
noncomputable def o34 (P : Params) : Obj := fd "builtin_function_or_method" [(.builtin "object.__init_subclass__"), (.ref 73)]
noncomputable def o35 (P : Params) : Obj := dc #[de P "__module__" 278 (.str "sayhall.errors" 187), de P "__qualname__" 280 (.str "Clash" 279), de P "__firstlineno__" 282 (.int 12 281), de P "__static_attributes__" 283 (.ref 83)] 4
noncomputable def o36 (P : Params) : Obj := cd "Clash" "Clash" 273 12 0 0 79 false .none .none .none .none 276
noncomputable def o37 (P : Params) : Obj := dc #[de P "__module__" 278 (.str "sayhall.errors" 187), de P "__firstlineno__" 282 (.int 12 281), de P "__static_attributes__" 283 (.ref 83), de P "__doc__" 284 .none] 2
noncomputable def o38 (P : Params) : Obj := ⟨(.type "type"), none, (.cls ⟨"Clash", [(.ref 24)], [(.ref 85), (.ref 24), (.type "ValueError"), (.type "Exception"), (.type "BaseException"), (.type "object")], 84, "Clash", true, [], [], false, none, false⟩), #[some (.ref 76), none, some (.str "Clash" 271), some (.str "Clash" 279), some (.builtin "ValueError.__new__"), some (.bool true)]⟩
noncomputable def o39 (P : Params) : Obj := fd "super" [(.ref 85), (.ref 85), (.ref 85)]
noncomputable def o40 (P : Params) : Obj := fd "builtin_function_or_method" [(.builtin "object.__init_subclass__"), (.ref 85)]
noncomputable def o41 (P : Params) : Obj := dc #[de P "__module__" 294 (.str "sayhall.errors" 187), de P "__qualname__" 296 (.str "Fits" 295), de P "__firstlineno__" 298 (.int 14 297), de P "__static_attributes__" 299 (.ref 95)] 4
noncomputable def o42 (P : Params) : Obj := cd "Fits" "Fits" 289 14 0 0 91 false .none .none .none .none 292
noncomputable def o43 (P : Params) : Obj := dc #[de P "__module__" 294 (.str "sayhall.errors" 187), de P "__firstlineno__" 298 (.int 14 297), de P "__static_attributes__" 299 (.ref 95), de P "__doc__" 300 .none] 2
noncomputable def o44 (P : Params) : Obj := ⟨(.type "type"), none, (.cls ⟨"Fits", [(.ref 24)], [(.ref 97), (.ref 24), (.type "ValueError"), (.type "Exception"), (.type "BaseException"), (.type "object")], 96, "Fits", true, [], [], false, none, false⟩), #[some (.ref 88), none, some (.str "Fits" 287), some (.str "Fits" 295), some (.builtin "ValueError.__new__"), some (.bool true)]⟩
noncomputable def o45 (P : Params) : Obj := fd "super" [(.ref 97), (.ref 97), (.ref 97)]
noncomputable def o46 (P : Params) : Obj := fd "builtin_function_or_method" [(.builtin "object.__init_subclass__"), (.ref 97)]
noncomputable def o47 (P : Params) : Obj := dc #[de P "__module__" 310 (.str "sayhall.errors" 187), de P "__qualname__" 312 (.str "NotPlain" 311), de P "__firstlineno__" 314 (.int 16 313), de P "__static_attributes__" 315 (.ref 107)] 4
noncomputable def o48 (P : Params) : Obj := cd "NotPlain" "NotPlain" 305 16 0 0 103 false .none .none .none .none 308
noncomputable def o49 (P : Params) : Obj := dc #[de P "__module__" 310 (.str "sayhall.errors" 187), de P "__firstlineno__" 314 (.int 16 313), de P "__static_attributes__" 315 (.ref 107), de P "__doc__" 316 .none] 2
noncomputable def o50 (P : Params) : Obj := ⟨(.type "type"), none, (.cls ⟨"NotPlain", [(.ref 24)], [(.ref 109), (.ref 24), (.type "ValueError"), (.type "Exception"), (.type "BaseException"), (.type "object")], 108, "NotPlain", true, [], [], false, none, false⟩), #[some (.ref 100), none, some (.str "NotPlain" 303), some (.str "NotPlain" 311), some (.builtin "ValueError.__new__"), some (.bool true)]⟩
noncomputable def o51 (P : Params) : Obj := fd "super" [(.ref 109), (.ref 109), (.ref 109)]
noncomputable def o52 (P : Params) : Obj := fd "builtin_function_or_method" [(.builtin "object.__init_subclass__"), (.ref 109)]
noncomputable def o53 (P : Params) : Obj := dc #[de P "__module__" 326 (.str "sayhall.errors" 187), de P "__qualname__" 328 (.str "NoKinds" 327), de P "__firstlineno__" 330 (.int 18 329), de P "__static_attributes__" 331 (.ref 119)] 4
noncomputable def o54 (P : Params) : Obj := cd "NoKinds" "NoKinds" 321 18 0 0 115 false .none .none .none .none 324
noncomputable def o55 (P : Params) : Obj := dc #[de P "__module__" 326 (.str "sayhall.errors" 187), de P "__firstlineno__" 330 (.int 18 329), de P "__static_attributes__" 331 (.ref 119), de P "__doc__" 332 .none] 2
noncomputable def o56 (P : Params) : Obj := ⟨(.type "type"), none, (.cls ⟨"NoKinds", [(.ref 24)], [(.ref 121), (.ref 24), (.type "ValueError"), (.type "Exception"), (.type "BaseException"), (.type "object")], 120, "NoKinds", true, [], [], false, none, false⟩), #[some (.ref 112), none, some (.str "NoKinds" 319), some (.str "NoKinds" 327), some (.builtin "ValueError.__new__"), some (.bool true)]⟩
noncomputable def o57 (P : Params) : Obj := fd "super" [(.ref 121), (.ref 121), (.ref 121)]
noncomputable def o58 (P : Params) : Obj := fd "builtin_function_or_method" [(.builtin "object.__init_subclass__"), (.ref 121)]
noncomputable def o59 (P : Params) : Obj := dc #[de P "__module__" 342 (.str "sayhall.errors" 187), de P "__qualname__" 344 (.str "NoSentence" 343), de P "__firstlineno__" 346 (.int 20 345), de P "__static_attributes__" 347 (.ref 131)] 4
noncomputable def o60 (P : Params) : Obj := cd "NoSentence" "NoSentence" 337 20 0 0 127 false .none .none .none .none 340
noncomputable def o61 (P : Params) : Obj := dc #[de P "__module__" 342 (.str "sayhall.errors" 187), de P "__firstlineno__" 346 (.int 20 345), de P "__static_attributes__" 347 (.ref 131), de P "__doc__" 348 .none] 2
noncomputable def o62 (P : Params) : Obj := ⟨(.type "type"), none, (.cls ⟨"NoSentence", [(.ref 24)], [(.ref 133), (.ref 24), (.type "ValueError"), (.type "Exception"), (.type "BaseException"), (.type "object")], 132, "NoSentence", true, [], [], false, none, false⟩), #[some (.ref 124), none, some (.str "NoSentence" 335), some (.str "NoSentence" 343), some (.builtin "ValueError.__new__"), some (.bool true)]⟩
noncomputable def o63 (P : Params) : Obj := fd "super" [(.ref 133), (.ref 133), (.ref 133)]
noncomputable def o64 (P : Params) : Obj := fd "builtin_function_or_method" [(.builtin "object.__init_subclass__"), (.ref 133)]
noncomputable def o65 (P : Params) : Obj := cd "__init__" "Forks.__init__" 369 27 1 3 143 true .none (.ref 145) (.ref 146) (.ref 147) 373
noncomputable def o66 (P : Params) : Obj := fo "__init__" "Forks.__init__" (L2.inClass (top 14) 0) (.str "sayhall.forks" 351) 148
noncomputable def o67 (P : Params) : Obj := cd "fork" "Forks.fork" 376 33 4 3 150 true .none (.ref 152) (.ref 153) (.ref 154) 384
noncomputable def o68 (P : Params) : Obj := fo "fork" "Forks.fork" (L2.inClass (top 14) 1) (.str "sayhall.forks" 351) 155
noncomputable def o69 (P : Params) : Obj := cd "all_of" "Forks.all_of" 387 42 2 3 157 true .none .none .none (.ref 159) 390
noncomputable def o70 (P : Params) : Obj := fo "all_of" "Forks.all_of" (L2.inClass (top 14) 2) (.str "sayhall.forks" 351) 160
noncomputable def o71 (P : Params) : Obj := cd "either_of" "Forks.either_of" 393 54 3 3 162 true .none (.ref 164) (.ref 165) (.ref 166) 403
noncomputable def o72 (P : Params) : Obj := fo "either_of" "Forks.either_of" (L2.inClass (top 14) 3) (.str "sayhall.forks" 351) 167
noncomputable def o73 (P : Params) : Obj := cd "side" "Forks.side" 406 69 4 3 169 true .none (.ref 171) (.ref 172) (.ref 173) 414
noncomputable def o74 (P : Params) : Obj := fo "side" "Forks.side" (L2.inClass (top 14) 4) (.str "sayhall.forks" 351) 174
noncomputable def o75 (P : Params) : Obj := dc #[de P "__module__" 364 (.str "sayhall.forks" 351), de P "__firstlineno__" 368 (.int 25 367), de P "__init__" 375 (.ref 149), de P "fork" 386 (.ref 156), de P "all_of" 392 (.ref 161), de P "either_of" 405 (.ref 168), de P "side" 416 (.ref 175), de P "__static_attributes__" 421 (.ref 176), de P "__dict__" 423 (.ref 179), de P "__weakref__" 425 (.ref 180), de P "__doc__" 426 .none] 4
noncomputable def o76 (P : Params) : Obj := ⟨(.type "type"), none, (.cls ⟨"Forks", [(.type "object")], [(.ref 178), (.type "object")], 177, "Forks", true, [], [], false, none, false⟩), #[none, none, some (.str "Forks" 357), some (.str "Forks" 365), some (.builtin "object.__new__"), some (.bool true)]⟩
noncomputable def o77 (P : Params) : Obj := cd "left_over" "left_over" 429 72 2 3 183 true .none (.ref 185) (.ref 186) (.ref 187) 436
noncomputable def o78 (P : Params) : Obj := fo "left_over" "left_over" (top 15) (.str "sayhall.forks" 351) 188
noncomputable def o79 (P : Params) : Obj := cd "is_whole" "is_whole" 445 83 1 3 190 true .none (.ref 192) (.ref 193) (.ref 194) 449
noncomputable def o80 (P : Params) : Obj := fo "is_whole" "is_whole" (top 19) (.str "sayhall.sayings" 439) 195
noncomputable def o81 (P : Params) : Obj := cd "is_from_one_to" "is_from_one_to" 452 85 2 3 197 true .none (.ref 199) (.ref 200) (.ref 201) 457
noncomputable def o82 (P : Params) : Obj := fo "is_from_one_to" "is_from_one_to" (top 20) (.str "sayhall.sayings" 439) 202
noncomputable def o83 (P : Params) : Obj := cd "is_saying" "is_saying" 460 87 2 3 204 true .none (.ref 206) (.ref 207) (.ref 208) 467
noncomputable def o84 (P : Params) : Obj := fo "is_saying" "is_saying" (top 21) (.str "sayhall.sayings" 439) 209
noncomputable def o85 (P : Params) : Obj := cd "is_case" "is_case" 470 98 2 3 211 true .none .none .none (.ref 213) 473
noncomputable def o86 (P : Params) : Obj := fo "is_case" "is_case" (top 22) (.str "sayhall.sayings" 439) 214
noncomputable def o87 (P : Params) : Obj := cd "checked" "checked" 476 102 2 3 216 true .none (.ref 218) (.ref 219) (.ref 220) 483
noncomputable def o88 (P : Params) : Obj := fo "checked" "checked" (top 23) (.str "sayhall.sayings" 439) 221
noncomputable def o89 (P : Params) : Obj := cd "is_so" "is_so" 486 113 2 3 223 true .none (.ref 225) (.ref 226) (.ref 227) 491
noncomputable def o90 (P : Params) : Obj := fo "is_so" "is_so" (top 24) (.str "sayhall.sayings" 439) 228
noncomputable def o91 (P : Params) : Obj := cd "holds" "holds" 494 115 2 3 230 true .none .none .none (.ref 232) 497
noncomputable def o92 (P : Params) : Obj := fo "holds" "holds" (top 25) (.str "sayhall.sayings" 439) 233
noncomputable def o93 (P : Params) : Obj := cd "all_true" "all_true" 500 117 2 3 235 true .none (.ref 237) (.ref 238) (.ref 239) 506
noncomputable def o94 (P : Params) : Obj := fo "all_true" "all_true" (top 26) (.str "sayhall.sayings" 439) 240
noncomputable def o95 (P : Params) : Obj := cd "fits" "fits" 509 122 3 3 242 true .none (.ref 244) (.ref 245) (.ref 246) 516
noncomputable def o96 (P : Params) : Obj := fo "fits" "fits" (top 27) (.str "sayhall.sayings" 439) 247
noncomputable def o97 (P : Params) : Obj := cd "put_together" "put_together" 519 127 3 3 249 true .none .none .none (.ref 251) 522
noncomputable def o98 (P : Params) : Obj := fo "put_together" "put_together" (top 28) (.str "sayhall.sayings" 439) 252
noncomputable def o99 (P : Params) : Obj := cd "played" "played" 531 137 3 3 254 true .none (.ref 256) (.ref 257) (.ref 258) 538
noncomputable def o100 (P : Params) : Obj := fo "played" "played" (top 32) (.str "sayhall.turns" 525) 259
noncomputable def o101 (P : Params) : Obj := cd "are_kinds" "are_kinds" 541 142 2 3 261 true .none .none .none (.ref 263) 544
noncomputable def o102 (P : Params) : Obj := fo "are_kinds" "are_kinds" (top 33) (.str "sayhall.turns" 525) 264
noncomputable def o103 (P : Params) : Obj := cd "told_from" "told_from" 547 146 4 3 266 true .none (.ref 268) (.ref 269) (.ref 270) 554
noncomputable def o104 (P : Params) : Obj := fo "told_from" "told_from" (top 34) (.str "sayhall.turns" 525) 271
noncomputable def o105 (P : Params) : Obj := cd "told_by_choices" "told_by_choices" 557 152 4 3 273 true .none (.ref 275) (.ref 276) (.ref 277) 569
noncomputable def o106 (P : Params) : Obj := fo "told_by_choices" "told_by_choices" (top 35) (.str "sayhall.turns" 525) 278
noncomputable def o107 (P : Params) : Obj := cd "after" "after" 572 162 2 3 280 true .none (.ref 282) (.ref 283) (.ref 284) 577
noncomputable def o108 (P : Params) : Obj := fo "after" "after" (top 36) (.str "sayhall.turns" 525) 285
noncomputable def o109 (P : Params) : Obj := cd "cases" "cases" 582 165 2 3 287 true .none .none .none (.ref 289) 585
noncomputable def o110 (P : Params) : Obj := fo "cases" "cases" (top 38) (.str "sayhall.cases" 580) 290
noncomputable def o111 (P : Params) : Obj := cd "longer" "longer" 588 174 2 3 292 true .none (.ref 294) (.ref 295) (.ref 296) 597
noncomputable def o112 (P : Params) : Obj := fo "longer" "longer" (top 39) (.str "sayhall.cases" 580) 297
noncomputable def o113 (P : Params) : Obj := cd "settled" "settled" 600 182 2 3 299 true .none .none .none (.ref 301) 603
noncomputable def o114 (P : Params) : Obj := fo "settled" "settled" (top 40) (.str "sayhall.cases" 580) 302
noncomputable def o115 (P : Params) : Obj := cd "case_or_clash" "case_or_clash" 608 195 2 3 304 true .none (.ref 306) (.ref 307) (.ref 308) 614
noncomputable def o116 (P : Params) : Obj := fo "case_or_clash" "case_or_clash" (top 42) (.str "sayhall.clashes" 606) 309
noncomputable def o117 (P : Params) : Obj := cd "follows" "follows" 617 198 3 3 311 true .none (.ref 313) (.ref 314) (.ref 315) 627
noncomputable def o118 (P : Params) : Obj := fo "follows" "follows" (top 43) (.str "sayhall.clashes" 606) 316
noncomputable def o119 (P : Params) : Obj := cd "fitting_case" "fitting_case" 630 207 2 3 318 true .none (.ref 320) (.ref 321) (.ref 322) 636
noncomputable def o120 (P : Params) : Obj := fo "fitting_case" "fitting_case" (top 44) (.str "sayhall.clashes" 606) 323
noncomputable def o121 (P : Params) : Obj := cd "searched" "searched" 639 210 2 3 325 true .none .none .none (.ref 327) 642
noncomputable def o122 (P : Params) : Obj := fo "searched" "searched" (top 45) (.str "sayhall.clashes" 606) 328
noncomputable def o123 (P : Params) : Obj := cd "narrowest" "narrowest" 645 218 2 3 330 true .none .none .none (.ref 332) 648
noncomputable def o124 (P : Params) : Obj := fo "narrowest" "narrowest" (top 46) (.str "sayhall.clashes" 606) 333
noncomputable def o125 (P : Params) : Obj := cd "open_parts" "open_parts" 651 221 2 3 335 true .none .none .none (.ref 337) 654
noncomputable def o126 (P : Params) : Obj := fo "open_parts" "open_parts" (top 47) (.str "sayhall.clashes" 606) 338
noncomputable def o127 (P : Params) : Obj := cd "searched_both_ways" "searched_both_ways" 657 223 3 3 340 true .none (.ref 342) (.ref 343) (.ref 344) 668
noncomputable def o128 (P : Params) : Obj := fo "searched_both_ways" "searched_both_ways" (top 48) (.str "sayhall.clashes" 606) 345
noncomputable def o129 (P : Params) : Obj := cd "laid_out" "laid_out" 671 235 1 3 347 true .none (.ref 349) (.ref 350) (.ref 351) 676
noncomputable def o130 (P : Params) : Obj := fo "laid_out" "laid_out" (top 49) (.str "sayhall.clashes" 606) 352
noncomputable def o131 (P : Params) : Obj := cd "lay" "lay" 679 239 3 3 354 true .none (.ref 356) (.ref 357) (.ref 358) 687
noncomputable def o132 (P : Params) : Obj := fo "lay" "lay" (top 50) (.str "sayhall.clashes" 606) 359
noncomputable def o133 (P : Params) : Obj := cd "sharpest" "sharpest" 692 249 2 3 361 true .none (.ref 363) (.ref 364) (.ref 365) 699
noncomputable def o134 (P : Params) : Obj := fo "sharpest" "sharpest" (top 52) (.str "sayhall.sharpest" 690) 366
noncomputable def o135 (P : Params) : Obj := cd "sharpest_at" "sharpest_at" 702 253 3 3 368 true .none (.ref 370) (.ref 371) (.ref 372) 712
noncomputable def o136 (P : Params) : Obj := fo "sharpest_at" "sharpest_at" (top 53) (.str "sayhall.sharpest" 690) 373
noncomputable def o137 (P : Params) : Obj := cd "led_by" "led_by" 715 265 3 3 375 true .none .none .none (.ref 377) 718
noncomputable def o138 (P : Params) : Obj := fo "led_by" "led_by" (top 54) (.str "sayhall.sharpest" 690) 378
noncomputable def o139 (P : Params) : Obj := cd "alike" "alike" 721 270 3 3 380 true .none (.ref 382) (.ref 383) (.ref 384) 730
noncomputable def o140 (P : Params) : Obj := fo "alike" "alike" (top 55) (.str "sayhall.sharpest" 690) 385
noncomputable def o141 (P : Params) : Obj := cd "case_against" "case_against" 733 275 3 3 387 true .none (.ref 389) (.ref 390) (.ref 391) 741
noncomputable def o142 (P : Params) : Obj := fo "case_against" "case_against" (top 56) (.str "sayhall.sharpest" 690) 392
noncomputable def o143 (P : Params) : Obj := cd "least_clash" "least_clash" 746 282 2 3 394 true .none .none .none (.ref 396) 749
noncomputable def o144 (P : Params) : Obj := fo "least_clash" "least_clash" (top 58) (.str "sayhall.least" 744) 397
noncomputable def o145 (P : Params) : Obj := cd "between" "between" 752 292 3 3 399 true .none .none .none (.ref 401) 755
noncomputable def o146 (P : Params) : Obj := fo "between" "between" (top 59) (.str "sayhall.least" 744) 402
noncomputable def o147 (P : Params) : Obj := cd "things_in_both" "things_in_both" 758 300 2 3 404 true .none .none .none (.ref 406) 761
noncomputable def o148 (P : Params) : Obj := fo "things_in_both" "things_in_both" (top 60) (.str "sayhall.least" 744) 407
noncomputable def o149 (P : Params) : Obj := cd "things_of" "things_of" 764 303 1 3 409 true .none .none .none (.ref 411) 767
noncomputable def o150 (P : Params) : Obj := fo "things_of" "things_of" (top 61) (.str "sayhall.least" 744) 412
noncomputable def o151 (P : Params) : Obj := cd "has_only" "has_only" 770 308 2 3 414 true .none .none .none (.ref 416) 773
noncomputable def o152 (P : Params) : Obj := fo "has_only" "has_only" (top 62) (.str "sayhall.least" 744) 417
noncomputable def o153 (P : Params) : Obj := cd "forgotten" "forgotten" 776 310 3 3 419 true .none .none .none (.ref 421) 779
noncomputable def o154 (P : Params) : Obj := fo "forgotten" "forgotten" (top 63) (.str "sayhall.least" 744) 422
noncomputable def o155 (P : Params) : Obj := cd "least_case" "least_case" 784 322 2 3 424 true .none (.ref 426) (.ref 427) (.ref 428) 792
noncomputable def o156 (P : Params) : Obj := fo "least_case" "least_case" (top 65) (.str "sayhall.plain" 782) 429
noncomputable def o157 (P : Params) : Obj := cd "told_so" "told_so" 795 328 1 3 431 true .none .none .none (.ref 433) 798
noncomputable def o158 (P : Params) : Obj := fo "told_so" "told_so" (top 66) (.str "sayhall.plain" 782) 434
noncomputable def o159 (P : Params) : Obj := cd "grown" "grown" 801 330 2 3 436 true .none (.ref 438) (.ref 439) (.ref 440) 810
noncomputable def o160 (P : Params) : Obj := fo "grown" "grown" (top 67) (.str "sayhall.plain" 782) 441
noncomputable def o161 (P : Params) : Obj := cd "first_untrue" "first_untrue" 813 342 2 3 443 true .none (.ref 445) (.ref 446) (.ref 447) 820
noncomputable def o162 (P : Params) : Obj := fo "first_untrue" "first_untrue" (top 68) (.str "sayhall.plain" 782) 448
noncomputable def o163 (P : Params) : Obj := dc #[de P "thing" 829 (.int 2 830), de P "not" 831 (.int 2 832), de P "and" 833 (.int 3 834), de P "or" 835 (.int 3 836)] 4
noncomputable def o164 (P : Params) : Obj := cd "is_true" "is_true" 842 351 3 3 451 true .none (.ref 453) (.ref 454) (.ref 455) 848
noncomputable def o165 (P : Params) : Obj := fo "is_true" "is_true" (top 73) (.str "sayhall.sentences" 823) 456
noncomputable def o166 (P : Params) : Obj := cd "check_sentence" "check_sentence" 851 356 2 3 458 true .none (.ref 460) (.ref 461) (.ref 462) 859
noncomputable def o167 (P : Params) : Obj := fo "check_sentence" "check_sentence" (top 74) (.str "sayhall.sentences" 823) 463
noncomputable def o168 (P : Params) : Obj := cd "has_form" "has_form" 862 370 2 3 465 true .none (.ref 467) (.ref 468) (.ref 469) 867
noncomputable def o169 (P : Params) : Obj := fo "has_form" "has_form" (top 75) (.str "sayhall.sentences" 823) 470
noncomputable def o170 (P : Params) : Obj := cd "truth" "truth" 870 376 2 3 472 true .none .none .none (.ref 474) 873
noncomputable def o171 (P : Params) : Obj := fo "truth" "truth" (top 76) (.str "sayhall.sentences" 823) 475
noncomputable def o172 (P : Params) : Obj := cd "sayings_of" "sayings_of" 876 384 2 3 477 true .none (.ref 479) (.ref 480) (.ref 481) 886
noncomputable def o173 (P : Params) : Obj := fo "sayings_of" "sayings_of" (top 77) (.str "sayhall.sentences" 823) 482
noncomputable def o174 (P : Params) : Obj := cd "number_of" "number_of" 889 392 3 3 484 true .none .none .none (.ref 486) 892
noncomputable def o175 (P : Params) : Obj := fo "number_of" "number_of" (top 78) (.str "sayhall.sentences" 823) 487
noncomputable def o176 (P : Params) : Obj := cd "tied" "tied" 895 398 3 3 489 true .none .none .none (.ref 491) 898
noncomputable def o177 (P : Params) : Obj := fo "tied" "tied" (top 79) (.str "sayhall.sentences" 823) 492
noncomputable def o178 (P : Params) : Obj := cd "by_things" "by_things" 901 404 1 3 494 true .none (.ref 496) (.ref 497) (.ref 498) 905
noncomputable def o179 (P : Params) : Obj := fo "by_things" "by_things" (top 80) (.str "sayhall.sentences" 823) 499
noncomputable def o180 (P : Params) : Obj := cd "_law_cell_at" "_law_cell_at" 910 407 2 3 501 true .none (.ref 503) (.ref 504) (.ref 505) 915
noncomputable def o181 (P : Params) : Obj := fo "_law_cell_at" "_law_cell_at" (top 82) (.str "law_sayhall_k15_refusals" 908) 506
noncomputable def o182 (P : Params) : Obj := cd "_law_mixed" "_law_mixed" 918 413 3 3 508 true .none (.ref 510) (.ref 511) (.ref 512) 925
noncomputable def o183 (P : Params) : Obj := fo "_law_mixed" "_law_mixed" (top 83) (.str "law_sayhall_k15_refusals" 908) 513
noncomputable def o184 (P : Params) : Obj := cd "_law_saying" "_law_saying" 928 416 3 3 515 true .none .none .none (.ref 517) 931
noncomputable def o185 (P : Params) : Obj := fo "_law_saying" "_law_saying" (top 84) (.str "law_sayhall_k15_refusals" 908) 518
noncomputable def o186 (P : Params) : Obj := cd "_law_sayings" "_law_sayings" 934 422 4 3 520 true .none .none .none (.ref 522) 937
noncomputable def o187 (P : Params) : Obj := fo "_law_sayings" "_law_sayings" (top 85) (.str "law_sayhall_k15_refusals" 908) 523
noncomputable def o188 (P : Params) : Obj := cd "_law_with_sayings" "_law_with_sayings" 940 424 3 3 525 true .none (.ref 527) (.ref 528) (.ref 529) 946
noncomputable def o189 (P : Params) : Obj := fo "_law_with_sayings" "_law_with_sayings" (top 86) (.str "law_sayhall_k15_refusals" 908) 530
noncomputable def o190 (P : Params) : Obj := cd "_law_with_other" "_law_with_other" 949 452 4 3 532 true .none (.ref 534) (.ref 535) (.ref 536) 956
noncomputable def o191 (P : Params) : Obj := fo "_law_with_other" "_law_with_other" (top 87) (.str "law_sayhall_k15_refusals" 908) 537
noncomputable def o192 (P : Params) : Obj := cd "_law_asked" "_law_asked" 959 470 5 3 539 true .none (.ref 541) (.ref 542) (.ref 543) 967
noncomputable def o193 (P : Params) : Obj := fo "_law_asked" "_law_asked" (top 88) (.str "law_sayhall_k15_refusals" 908) 544
noncomputable def o194 (P : Params) : Obj := cd "_law_kind" "_law_kind" 970 474 5 3 546 true .none (.ref 548) (.ref 549) (.ref 550) 979
noncomputable def o195 (P : Params) : Obj := fo "_law_kind" "_law_kind" (top 89) (.str "law_sayhall_k15_refusals" 908) 551
noncomputable def o196 (P : Params) : Obj := cd "_law_by_base" "_law_by_base" 982 491 5 3 553 true .none (.ref 555) (.ref 556) (.ref 557) 991
noncomputable def o197 (P : Params) : Obj := fo "_law_by_base" "_law_by_base" (top 90) (.str "law_sayhall_k15_refusals" 908) 558
noncomputable def o198 (P : Params) : Obj := cd "_law_bad_sentence" "_law_bad_sentence" 994 497 2 3 560 true .none (.ref 562) (.ref 563) (.ref 564) 1004
noncomputable def o199 (P : Params) : Obj := fo "_law_bad_sentence" "_law_bad_sentence" (top 91) (.str "law_sayhall_k15_refusals" 908) 565
noncomputable def o200 (P : Params) : Obj := cd "_law_bad" "_law_bad" 1007 510 4 3 567 true .none (.ref 569) (.ref 570) (.ref 571) 1016
noncomputable def o201 (P : Params) : Obj := fo "_law_bad" "_law_bad" (top 92) (.str "law_sayhall_k15_refusals" 908) 572
noncomputable def o202 (P : Params) : Obj := cd "law" "law" 1019 525 1 3 574 true .none .none .none (.ref 576) 1022
noncomputable def o203 (P : Params) : Obj := fo "law" "law" (top 93) (.str "law_sayhall_k15_refusals" 908) 577
noncomputable def T0 (P : Params) : BT := (.node (boot_o_0 P) (.node (boot_o_1 P) (.node (boot_o_3 P) (.node (boot_o_7 P) .nil .nil) .nil) (.node (boot_o_5 P) (.node (boot_o_9 P) .nil .nil) .nil)) (.node (boot_o_2 P) (.node (boot_o_4 P) (.node (boot_o_8 P) .nil .nil) .nil) (.node (boot_o_6 P) (.node (boot_o_10 P) .nil .nil) .nil)))
noncomputable def T1 (P : Params) : BT := (.node (boot_o_0 P) (.node (boot_o_1 P) (.node (dc #[de P "__name__" 165 (.str "sayhall.forks" 351), de P "__doc__" 166 .none, de P "__package__" 167 .none, de P "__loader__" 168 (.builtin "__main__.__loader__#opaque"), de P "__spec__" 169 .none, de P "__annotations__" 170 (.ref 6), de P "__builtins__" 171 (.ref 4), de P "__file__" 173 (.str "/claim/cut.py" 172), de P "__cached__" 174 .none, de P "SayError" 206 (.ref 24), de P "NoSayings" 222 (.ref 37), de P "NoSaying" 238 (.ref 49), de P "NoCase" 254 (.ref 61), de P "NoThing" 270 (.ref 73), de P "Clash" 286 (.ref 85), de P "Fits" 302 (.ref 97), de P "NotPlain" 318 (.ref 109), de P "NoKinds" 334 (.ref 121), de P "NoSentence" 350 (.ref 133), de P "NO_CASE" 354 (.int 0 353), de P "EVERY_CASE" 356 (.int 1 355)] 21) (.node (boot_o_7 P) (.node (tp [(.type "ValueError")]) (.node (tp []) (.node (o28 P) (.node (tp []) .nil .nil) .nil) (.node (tp []) .nil .nil)) (.node (tp []) (.node (tp []) .nil .nil) (.node (o52 P) .nil .nil))) (.node (o5 P) (.node (o16 P) (.node (tp []) (.node (o64 P) .nil .nil) .nil) (.node (tp []) .nil .nil)) (.node (tp []) (.node (o40 P) .nil .nil) (.node (tp []) .nil .nil)))) (.node (tp []) (.node fl (.node (tp []) (.node (tp []) (.node (tp []) .nil .nil) .nil) (.node (o46 P) .nil .nil)) (.node (o22 P) (.node (tp []) .nil .nil) (.node (tp []) .nil .nil))) (.node (o9 P) (.node (tp []) (.node (o34 P) .nil .nil) (.node (tp []) .nil .nil)) (.node (tp []) (.node (tp []) .nil .nil) (.node (o58 P) .nil .nil))))) (.node (boot_o_5 P) (.node (boot_o_9 P) (.node (o3 P) (.node (o12 P) (.node (o2 P) (.node (o60 P) .nil .nil) .nil) (.node (o44 P) .nil .nil)) (.node (o20 P) (.node (o36 P) .nil .nil) (.node (o2 P) .nil .nil))) (.node (o7 P) (.node (o2 P) (.node (o32 P) .nil .nil) (.node (o48 P) .nil .nil)) (.node (o24 P) (.node (o2 P) .nil .nil) (.node (o56 P) .nil .nil)))) (.node (o1 P) (.node (fm 20 17 (.str "sayhall.errors" 187)) (.node (o14 P) (.node (o30 P) (.node (o62 P) .nil .nil) .nil) (.node (o2 P) .nil .nil)) (.node (o2 P) (.node (o38 P) .nil .nil) (.node (o54 P) .nil .nil))) (.node (o2 P) (.node (o18 P) (.node (o2 P) .nil .nil) (.node (o50 P) .nil .nil)) (.node (o26 P) (.node (o42 P) .nil .nil) (.node (o2 P) .nil .nil)))))) (.node (boot_o_2 P) (.node (boot_o_4 P) (.node (boot_o_8 P) (.node (o2 P) (.node fl (.node (o10 P) (.node fl .nil .nil) .nil) (.node (o43 P) .nil .nil)) (.node (o19 P) (.node fl .nil .nil) (.node (o10 P) .nil .nil))) (.node (o6 P) (.node (o10 P) (.node (o31 P) .nil .nil) (.node fl .nil .nil)) (.node fl (.node (o10 P) .nil .nil) (.node (o55 P) .nil .nil)))) (.node ⟨.none, none, (.fields #[(.int 2 0), (.int 0 0), (.ref 20), (.int 4 0), (.int 0 0), (.ref 33), (.int 6 0), (.int 0 0), (.ref 45), (.int 8 0), (.int 0 0), (.ref 57), (.int 10 0), (.int 0 0), (.ref 69), (.int 12 0), (.int 0 0), (.ref 81), (.int 14 0), (.int 0 0), (.ref 93), (.int 16 0), (.int 0 0), (.ref 105), (.int 18 0), (.int 0 0), (.ref 117), (.int 20 0), (.int 0 0), (.ref 129)]), #[]⟩ (.node (o4 P) (.node (o13 P) (.node fl (.node (o61 P) .nil .nil) .nil) (.node (o10 P) .nil .nil)) (.node (o10 P) (.node (o37 P) .nil .nil) (.node fl .nil .nil))) (.node (o10 P) (.node fl (.node (o10 P) .nil .nil) (.node (o49 P) .nil .nil)) (.node (o25 P) (.node fl .nil .nil) (.node (o10 P) .nil .nil))))) (.node (boot_o_6 P) (.node (boot_o_10 P) (.node (tp []) (.node (fm 33 30 (.str "sayhall.errors" 187)) (.node (o29 P) (.node (fm 129 126 (.str "sayhall.errors" 187)) .nil .nil) .nil) (.node (o45 P) .nil .nil)) (.node (o21 P) (.node (fm 81 78 (.str "sayhall.errors" 187)) .nil .nil) (.node (o53 P) .nil .nil))) (.node (o8 P) (.node (o17 P) (.node (o33 P) .nil .nil) (.node (fm 105 102 (.str "sayhall.errors" 187)) .nil .nil)) (.node (fm 57 54 (.str "sayhall.errors" 187)) (.node (o41 P) .nil .nil) (.node (o57 P) .nil .nil)))) (.node (fm 13 3 (.str "__main__" 164)) (.node (tp []) (.node (o15 P) (.node (fm 69 66 (.str "sayhall.errors" 187)) (.node (o63 P) .nil .nil) .nil) (.node (o47 P) .nil .nil)) (.node (o23 P) (.node (o39 P) .nil .nil) (.node (fm 117 114 (.str "sayhall.errors" 187)) .nil .nil))) (.node (o11 P) (.node (fm 45 42 (.str "sayhall.errors" 187)) (.node (o35 P) .nil .nil) (.node (o51 P) .nil .nil)) (.node (o27 P) (.node (fm 93 90 (.str "sayhall.errors" 187)) .nil .nil) (.node (o59 P) .nil .nil)))))))
noncomputable def T2 (P : Params) : BT := (.node (boot_o_0 P) (.node (boot_o_1 P) (.node (o0 P) (.node (boot_o_7 P) (.node (tp [(.type "ValueError")]) (.node (tp []) (.node (o28 P) (.node (tp []) (.node fl (.node (tp []) .nil .nil) .nil) (.node (tp []) .nil .nil)) (.node fl (.node fl (.node fl .nil .nil) .nil) (.node (f0 "first_untrue" "first_untrue" (top 68)) .nil .nil))) (.node (tp []) (.node (f0 "all_of" "Forks.all_of" (L2.inClass (top 14) 2)) (.node (tp []) (.node (f0 "_law_asked" "_law_asked" (top 88)) .nil .nil) .nil) (.node fl .nil .nil)) (.node (tp []) (.node (f0 "laid_out" "laid_out" (top 49)) .nil .nil) (.node (tp [(.str "sentence" 879), (.str "many" 880), (.str "rows" 881), (.str "whole" 882), (.str "sayings" 883), (.str "number" 884), (.str "row" 885)]) .nil .nil)))) (.node (tp []) (.node (tp []) (.node (tp []) (.node (o103 P) (.node (tp [(.str "_law_what" 943), (.str "_law_bad_here" 944), (.str "_law_many" 945)]) .nil .nil) .nil) (.node (tp []) .nil .nil)) (.node (tp []) (.node (tp []) .nil .nil) (.node (o166 P) .nil .nil))) (.node (o52 P) (.node (o74 P) (.node (o114 P) (.node (o197 P) .nil .nil) .nil) (.node (tp []) .nil .nil)) (.node (f0 "all_true" "all_true" (top 26)) (.node (o134 P) .nil .nil) (.node fl .nil .nil))))) (.node (o5 P) (.node (o16 P) (.node (tp []) (.node (o64 P) (.node (f0 "are_kinds" "are_kinds" (top 33)) (.node (o185 P) .nil .nil) .nil) (.node (f0 "case_against" "case_against" (top 56)) .nil .nil)) (.node (tp [(.str "value" 455), (.str "most" 456)]) (.node (f0 "searched" "searched" (top 45)) .nil .nil) (.node (f0 "is_true" "is_true" (top 73)) .nil .nil))) (.node (tp []) (.node (o71 P) (.node (tp []) (.node (o194 P) .nil .nil) .nil) (.node (o154 P) .nil .nil)) (.node fl (.node (o131 P) .nil .nil) (.node (o174 P) .nil .nil)))) (.node (tp []) (.node (o40 P) (.node fl (.node (o106 P) (.node (tp []) .nil .nil) .nil) (.node (o147 P) .nil .nil)) (.node (o86 P) (.node (tp []) .nil .nil) (.node (o169 P) .nil .nil))) (.node (tp []) (.node (tp []) (.node (tp []) (.node (tp []) .nil .nil) .nil) (.node (tp []) .nil .nil)) (.node (o95 P) (.node (tp []) .nil .nil) (.node (tp [(.str "_law_script" 913), (.str "_law_k" 914)]) .nil .nil)))))) (.node (tp []) (.node fl (.node (tp []) (.node (tp []) (.node (tp []) (.node (o99 P) (.node (tp []) .nil .nil) .nil) (.node (tp []) .nil .nil)) (.node (o79 P) (.node (o119 P) .nil .nil) (.node (tp []) .nil .nil))) (.node (o46 P) (.node fl (.node (o110 P) (.node fl .nil .nil) .nil) (.node (tp []) .nil .nil)) (.node (f0 "is_so" "is_so" (top 24)) (.node fl .nil .nil) (.node (o173 P) .nil .nil)))) (.node (o22 P) (.node (tp []) (.node (f0 "__init__" "Forks.__init__" (L2.inClass (top 14) 0)) (.node (tp [(.str "thing" 560), (.str "sayings" 561), (.str "kinds" 562), (.str "known" 563), (.str "chooser" 564), (.str "plans" 565), (.str "choice" 566), (.str "left" 567), (.str "told" 568)]) (.node (o189 P) .nil .nil) .nil) (.node (o146 P) .nil .nil)) (.node (tp []) (.node (o126 P) .nil .nil) (.node (tp [(.str "one" 865), (.str "many" 866)]) .nil .nil))) (.node (tp []) (.node (fd "getset_descriptor" [(.str "__dict__" 422), (.ref 178), (.builtin "function.__dict__"), (.builtin "function.__dict__#set")]) (.node (tp []) (.node (tp []) .nil .nil) .nil) (.node (o158 P) .nil .nil)) (.node fl (.node (tp []) .nil .nil) (.node (o178 P) .nil .nil))))) (.node (o9 P) (.node (tp []) (.node (o34 P) (.node (tp []) (.node fl (.node (o186 P) .nil .nil) .nil) (.node fl .nil .nil)) (.node (o82 P) (.node fl .nil .nil) (.node fl .nil .nil))) (.node (tp []) (.node (tp [(.str "self" 409), (.str "place" 410), (.str "thing" 411), (.str "choice" 412), (.str "row" 413)]) (.node (tp []) (.node (tp [(.str "_law_way" 985), (.str "_law_what" 986), (.str "_law_bad_here" 987), (.str "_law_many" 988), (.str "_law_case" 989), (.str "e" 990)]) .nil .nil) .nil) (.node (tp []) .nil .nil)) (.node (tp []) (.node (tp [(.str "sayings" 695), (.str "many" 696), (.str "forks" 697), (.str "place" 698)]) .nil .nil) (.node (f0 "tied" "tied" (top 79)) .nil .nil)))) (.node (tp []) (.node (tp []) (.node (o67 P) (.node (tp []) (.node (tp []) .nil .nil) .nil) (.node (f0 "things_of" "things_of" (top 61)) .nil .nil)) (.node (tp []) (.node (tp []) .nil .nil) (.node (o170 P) .nil .nil))) (.node (o58 P) (.node (f0 "left_over" "left_over" (top 15)) (.node (f0 "follows" "follows" (top 43)) (.node (f0 "_law_bad" "_law_bad" (top 92)) .nil .nil) .nil) (.node (tp []) .nil .nil)) (.node (f0 "put_together" "put_together" (top 28)) (.node (o138 P) .nil .nil) (.node (o181 P) .nil .nil))))))) (.node (boot_o_5 P) (.node (boot_o_9 P) (.node (o3 P) (.node (o12 P) (.node (o2 P) (.node (o60 P) (.node (tp []) (.node (o182 P) .nil .nil) .nil) (.node (o139 P) .nil .nil)) (.node (tp []) (.node (tp []) (.node (o202 P) .nil .nil) .nil) (.node (o162 P) .nil .nil))) (.node (o44 P) (.node (o70 P) (.node (f0 "cases" "cases" (top 38)) (.node (o193 P) .nil .nil) .nil) (.node (o151 P) .nil .nil)) (.node (tp [(.str "part" 489), (.str "case" 490)]) (.node (o130 P) .nil .nil) (.node (f0 "sayings_of" "sayings_of" (top 77)) .nil .nil)))) (.node (o20 P) (.node (o36 P) (.node (tp [(.str "self" 372)]) (.node (tp []) (.node (f0 "_law_with_sayings" "_law_with_sayings" (top 86)) .nil .nil) .nil) (.node (f0 "between" "between" (top 59)) .nil .nil)) (.node (o83 P) (.node (f0 "open_parts" "open_parts" (top 47)) .nil .nil) (.node (tp []) .nil .nil))) (.node (o2 P) (.node (o75 P) (.node fl (.node fl .nil .nil) .nil) (.node (f0 "told_so" "told_so" (top 66)) .nil .nil)) (.node (o94 P) (.node fl .nil .nil) (.node (tp []) .nil .nil))))) (.node (o7 P) (.node (o2 P) (.node (o32 P) (.node (o2 P) (.node (o102 P) (.node fl .nil .nil) .nil) (.node (o142 P) .nil .nil)) (.node (f0 "is_from_one_to" "is_from_one_to" (top 20)) (.node (o122 P) .nil .nil) (.node (o165 P) .nil .nil))) (.node (o48 P) (.node (tp []) (.node (o111 P) (.node (tp []) .nil .nil) .nil) (.node fl .nil .nil)) (.node (o91 P) (.node (tp []) .nil .nil) (.node (tp []) .nil .nil)))) (.node (o24 P) (.node (o2 P) (.node (tp []) (.node fl (.node (o190 P) .nil .nil) .nil) (.node (tp []) .nil .nil)) (.node fl (.node (o127 P) .nil .nil) (.node fl .nil .nil))) (.node (o56 P) (.node (tp [(.str "sayings" 432), (.str "part" 433), (.str "found" 434), (.str "saying" 435)]) (.node (tp [(.str "sayings" 620), (.str "many" 621), (.str "saying" 622), (.str "good" 623), (.str "chosen" 624), (.str "part" 625), (.str "told" 626)]) (.node (tp [(.str "_law_way" 1010), (.str "_law_many" 1011), (.str "_law_case" 1012), (.str "_law_cell" 1013), (.str "_law_some" 1014), (.str "_law_kinds" 1015)]) .nil .nil) .nil) (.node (o159 P) .nil .nil)) (.node (tp []) (.node (f0 "led_by" "led_by" (top 54)) .nil .nil) (.node (f0 "_law_cell_at" "_law_cell_at" (top 82)) .nil .nil)))))) (.node (o1 P) (.node (fm 20 17 (.str "sayhall.errors" 187)) (.node (o14 P) (.node (o30 P) (.node (o62 P) (.node (tp []) (.node (f0 "_law_saying" "_law_saying" (top 84)) .nil .nil) .nil) (.node (tp [(.str "sayings" 736), (.str "others" 737), (.str "many" 738), (.str "saying" 739), (.str "told" 740)]) .nil .nil)) (.node (tp []) (.node (tp []) .nil .nil) (.node (tp [(.str "sentence" 845), (.str "many" 846), (.str "case" 847)]) .nil .nil))) (.node (o2 P) (.node (tp []) (.node fl (.node (tp []) .nil .nil) .nil) (.node (f0 "forgotten" "forgotten" (top 63)) .nil .nil)) (.node (o90 P) (.node (tp []) .nil .nil) (.node fl .nil .nil)))) (.node (o2 P) (.node (o38 P) (.node (o66 P) (.node (f0 "told_by_choices" "told_by_choices" (top 35)) (.node fl .nil .nil) .nil) (.node fl .nil .nil)) (.node (f0 "is_case" "is_case" (top 22)) (.node fl .nil .nil) (.node (f0 "has_form" "has_form" (top 75)) .nil .nil))) (.node (o54 P) (.node (fd "super" [(.ref 178), (.ref 178), (.ref 178)]) (.node (o115 P) (.node (o198 P) .nil .nil) .nil) (.node fl .nil .nil)) (.node (tp []) (.node (o135 P) .nil .nil) (.node (tp []) .nil .nil))))) (.node (o2 P) (.node (o18 P) (.node (o2 P) (.node (cd "Forks" "Forks" 359 25 0 0 139 false .none .none .none .none 362) (.node (tp []) (.node (tp []) .nil .nil) .nil) (.node (o143 P) .nil .nil)) (.node fl (.node (o123 P) .nil .nil) (.node (tp []) .nil .nil))) (.node (o50 P) (.node (f0 "side" "Forks.side" (L2.inClass (top 14) 4)) (.node (f0 "settled" "settled" (top 40)) (.node (f0 "_law_by_base" "_law_by_base" (top 90)) .nil .nil) .nil) (.node (o155 P) .nil .nil)) (.node (tp [(.str "sayings" 503), (.str "case" 504), (.str "saying" 505)]) (.node (f0 "sharpest" "sharpest" (top 52)) .nil .nil) (.node (o177 P) .nil .nil)))) (.node (o26 P) (.node (o42 P) (.node (tp []) (.node (o107 P) (.node (tp [(.str "_law_way" 962), (.str "_law_what" 963), (.str "_law_bad_here" 964), (.str "_law_many" 965), (.str "_law_case" 966)]) .nil .nil) .nil) (.node (o150 P) .nil .nil)) (.node (o87 P) (.node (tp [(.str "proof" 674), (.str "steps" 675)]) .nil .nil) (.node (tp []) .nil .nil))) (.node (o2 P) (.node (o78 P) (.node (o118 P) (.node (o201 P) .nil .nil) .nil) (.node (tp [(.str "sayings" 816), (.str "case" 817), (.str "place" 818), (.str "saying" 819)]) .nil .nil)) (.node (o98 P) (.node fl .nil .nil) (.node fl .nil .nil)))))))) (.node (boot_o_2 P) (.node (boot_o_4 P) (.node (boot_o_8 P) (.node (o2 P) (.node fl (.node (o10 P) (.node fl (.node (tp [(.str "sayings" 534), (.str "many" 535), (.str "kinds" 536), (.str "good" 537)]) (.node (f0 "_law_mixed" "_law_mixed" (top 83)) .nil .nil) .nil) (.node (f0 "alike" "alike" (top 55)) .nil .nil)) (.node (tp [(.str "value" 448)]) (.node (tp [(.str "sayings" 633), (.str "many" 634), (.str "told" 635)]) (.node (f0 "law" "law" (top 93)) .nil .nil) .nil) (.node (o161 P) .nil .nil))) (.node (o43 P) (.node (o69 P) (.node fl (.node (o192 P) .nil .nil) .nil) (.node (f0 "has_only" "has_only" (top 62)) .nil .nil)) (.node fl (.node (o129 P) .nil .nil) (.node (tp []) .nil .nil)))) (.node (o19 P) (.node fl (.node fl (.node (o104 P) (.node (tp []) .nil .nil) .nil) (.node fl .nil .nil)) (.node (f0 "is_saying" "is_saying" (top 21)) (.node fl .nil .nil) (.node (o167 P) .nil .nil))) (.node (o10 P) (.node (tp [(.str "place_by_pair" 417), (.str "place_by_row" 418), (.str "place_by_sayings" 419), (.str "rows" 420)]) (.node (tp []) (.node (tp []) .nil .nil) .nil) (.node fl .nil .nil)) (.node (o93 P) (.node (tp []) .nil .nil) (.node (tp [(.str "parts" 904)]) .nil .nil))))) (.node (o6 P) (.node (o10 P) (.node (o31 P) (.node (tp []) (.node (o101 P) (.node (tp []) .nil .nil) .nil) (.node (o141 P) .nil .nil)) (.node (tp []) (.node (o121 P) .nil .nil) (.node (o164 P) .nil .nil))) (.node fl (.node (o72 P) (.node (f0 "longer" "longer" (top 39)) (.node (o195 P) .nil .nil) .nil) (.node (tp []) .nil .nil)) (.node (f0 "holds" "holds" (top 25)) (.node (o132 P) .nil .nil) (.node (o175 P) .nil .nil)))) (.node fl (.node (o10 P) (.node (tp [(.str "self" 379), (.str "thing" 380), (.str "low" 381), (.str "high" 382), (.str "row" 383)]) (.node (tp []) (.node (f0 "_law_with_other" "_law_with_other" (top 87)) .nil .nil) .nil) (.node (o148 P) .nil .nil)) (.node (tp []) (.node (f0 "searched_both_ways" "searched_both_ways" (top 48)) .nil .nil) (.node (tp []) .nil .nil))) (.node (o55 P) (.node fl (.node fl (.node fl .nil .nil) .nil) (.node (f0 "grown" "grown" (top 67)) .nil .nil)) (.node (o96 P) (.node fl .nil .nil) (.node (tp []) .nil .nil)))))) (.node ⟨.none, none, (.fields #[(.int 2 0), (.int 0 0), (.ref 20), (.int 4 0), (.int 0 0), (.ref 33), (.int 6 0), (.int 0 0), (.ref 45), (.int 8 0), (.int 0 0), (.ref 57), (.int 10 0), (.int 0 0), (.ref 69), (.int 12 0), (.int 0 0), (.ref 81), (.int 14 0), (.int 0 0), (.ref 93), (.int 16 0), (.int 0 0), (.ref 105), (.int 18 0), (.int 0 0), (.ref 117), (.int 20 0), (.int 0 0), (.ref 129), (.int 25 0), (.int 0 0), (.ref 141), (.int 72 0), (.int 0 0), (.ref 188), (.int 83 0), (.int 0 0), (.ref 195), (.int 85 0), (.int 0 0), (.ref 202), (.int 87 0), (.int 0 0), (.ref 209), (.int 98 0), (.int 0 0), (.ref 214), (.int 102 0), (.int 0 0), (.ref 221), (.int 113 0), (.int 0 0), (.ref 228), (.int 115 0), (.int 0 0), (.ref 233), (.int 117 0), (.int 0 0), (.ref 240), (.int 122 0), (.int 0 0), (.ref 247), (.int 127 0), (.int 0 0), (.ref 252), (.int 137 0), (.int 0 0), (.ref 259), (.int 142 0), (.int 0 0), (.ref 264), (.int 146 0), (.int 0 0), (.ref 271), (.int 152 0), (.int 0 0), (.ref 278), (.int 162 0), (.int 0 0), (.ref 285), (.int 165 0), (.int 0 0), (.ref 290), (.int 174 0), (.int 0 0), (.ref 297), (.int 182 0), (.int 0 0), (.ref 302), (.int 195 0), (.int 0 0), (.ref 309), (.int 198 0), (.int 0 0), (.ref 316), (.int 207 0), (.int 0 0), (.ref 323), (.int 210 0), (.int 0 0), (.ref 328), (.int 218 0), (.int 0 0), (.ref 333), (.int 221 0), (.int 0 0), (.ref 338), (.int 223 0), (.int 0 0), (.ref 345), (.int 235 0), (.int 0 0), (.ref 352), (.int 239 0), (.int 0 0), (.ref 359), (.int 249 0), (.int 0 0), (.ref 366), (.int 253 0), (.int 0 0), (.ref 373), (.int 265 0), (.int 0 0), (.ref 378), (.int 270 0), (.int 0 0), (.ref 385), (.int 275 0), (.int 0 0), (.ref 392), (.int 282 0), (.int 0 0), (.ref 397), (.int 292 0), (.int 0 0), (.ref 402), (.int 300 0), (.int 0 0), (.ref 407), (.int 303 0), (.int 0 0), (.ref 412), (.int 308 0), (.int 0 0), (.ref 417), (.int 310 0), (.int 0 0), (.ref 422), (.int 322 0), (.int 0 0), (.ref 429), (.int 328 0), (.int 0 0), (.ref 434), (.int 330 0), (.int 0 0), (.ref 441), (.int 342 0), (.int 0 0), (.ref 448), (.int 351 0), (.int 0 0), (.ref 456), (.int 356 0), (.int 0 0), (.ref 463), (.int 370 0), (.int 0 0), (.ref 470), (.int 376 0), (.int 0 0), (.ref 475), (.int 384 0), (.int 0 0), (.ref 482), (.int 392 0), (.int 0 0), (.ref 487), (.int 398 0), (.int 0 0), (.ref 492), (.int 404 0), (.int 0 0), (.ref 499), (.int 407 0), (.int 0 0), (.ref 506), (.int 413 0), (.int 0 0), (.ref 513), (.int 416 0), (.int 0 0), (.ref 518), (.int 422 0), (.int 0 0), (.ref 523), (.int 424 0), (.int 0 0), (.ref 530), (.int 452 0), (.int 0 0), (.ref 537), (.int 470 0), (.int 0 0), (.ref 544), (.int 474 0), (.int 0 0), (.ref 551), (.int 491 0), (.int 0 0), (.ref 558), (.int 497 0), (.int 0 0), (.ref 565), (.int 510 0), (.int 0 0), (.ref 572), (.int 525 0), (.int 0 0), (.ref 577)]), #[]⟩ (.node (o4 P) (.node (o13 P) (.node fl (.node (o61 P) (.node (o100 P) (.node fl .nil .nil) .nil) (.node fl .nil .nil)) (.node (o80 P) (.node (o120 P) .nil .nil) (.node fl .nil .nil))) (.node (o10 P) (.node (tp [(.str "self" 396), (.str "one" 397), (.str "other" 398), (.str "pair" 399), (.str "thing" 400), (.str "low" 401), (.str "high" 402)]) (.node (tp []) (.node (tp [(.str "_law_way" 973), (.str "_law_what" 974), (.str "_law_bad_here" 975), (.str "_law_many" 976), (.str "_law_case" 977), (.str "_law_found" 978)]) .nil .nil) .nil) (.node fl .nil .nil)) (.node (o89 P) (.node (tp [(.str "proof" 682), (.str "steps" 683), (.str "places" 684), (.str "saying" 685), (.str "reasons" 686)]) .nil .nil) (.node (tp []) .nil .nil)))) (.node (o10 P) (.node (o37 P) (.node (o65 P) (.node (tp []) (.node (tp []) .nil .nil) .nil) (.node (tp []) .nil .nil)) (.node fl (.node (tp []) .nil .nil) (.node (tp []) .nil .nil))) (.node fl (.node (fd "getset_descriptor" [(.str "__weakref__" 424), (.ref 178), (.builtin "ExceptionGroup.__weakref__"), .none]) (.node (f0 "case_or_clash" "case_or_clash" (top 42)) (.node (f0 "_law_bad_sentence" "_law_bad_sentence" (top 91)) .nil .nil) .nil) (.node (tp []) .nil .nil)) (.node (tp [(.str "sayings" 512), (.str "many" 513), (.str "case" 514), (.str "good" 515)]) (.node (f0 "sharpest_at" "sharpest_at" (top 53)) .nil .nil) (.node (o179 P) .nil .nil))))) (.node (o10 P) (.node fl (.node (o10 P) (.node ⟨.none, none, (.fields #[(.int 27 0), (.int 4 0), (.ref 148), (.int 33 0), (.int 4 0), (.ref 155), (.int 42 0), (.int 4 0), (.ref 160), (.int 54 0), (.int 4 0), (.ref 167), (.int 69 0), (.int 4 0), (.ref 174)]), #[]⟩ (.node (tp [(.str "thing" 550), (.str "sayings" 551), (.str "kinds" 552), (.str "known" 553)]) (.node (o187 P) .nil .nil) .nil) (.node (f0 "least_clash" "least_clash" (top 58)) .nil .nil)) (.node (tp []) (.node (f0 "narrowest" "narrowest" (top 46)) .nil .nil) (.node (tp [(.str "sentence" 854), (.str "many" 855), (.str "found" 856), (.str "waiting" 857), (.str "one" 858)]) .nil .nil))) (.node (o49 P) (.node (tp []) (.node fl (.node (tp []) .nil .nil) .nil) (.node (f0 "least_case" "least_case" (top 65)) .nil .nil)) (.node fl (.node (tp []) .nil .nil) (.node (o176 P) .nil .nil)))) (.node (o25 P) (.node fl (.node (o68 P) (.node (f0 "after" "after" (top 36)) (.node fl .nil .nil) .nil) (.node (o149 P) .nil .nil)) (.node (f0 "checked" "checked" (top 23)) (.node fl .nil .nil) (.node (o171 P) .nil .nil))) (.node (o10 P) (.node (o77 P) (.node (o117 P) (.node (o200 P) .nil .nil) .nil) (.node fl .nil .nil)) (.node (o97 P) (.node (tp []) .nil .nil) (.node (tp []) .nil .nil))))))) (.node (boot_o_6 P) (.node (boot_o_10 P) (.node (tp []) (.node (fm 33 30 (.str "sayhall.errors" 187)) (.node (o29 P) (.node (fm 129 126 (.str "sayhall.errors" 187)) (.node (f0 "played" "played" (top 32)) (.node (o183 P) .nil .nil) .nil) (.node (o140 P) .nil .nil)) (.node (f0 "is_whole" "is_whole" (top 19)) (.node (f0 "fitting_case" "fitting_case" (top 44)) (.node (o203 P) .nil .nil) .nil) (.node (o163 P) .nil .nil))) (.node (o45 P) (.node (tp []) (.node (o109 P) (.node (tp []) .nil .nil) .nil) (.node (o152 P) .nil .nil)) (.node (tp []) (.node (tp []) .nil .nil) (.node (o172 P) .nil .nil)))) (.node (o21 P) (.node (fm 81 78 (.str "sayhall.errors" 187)) (.node (tp []) (.node fl (.node (o188 P) .nil .nil) .nil) (.node (o145 P) .nil .nil)) (.node (o84 P) (.node (o125 P) .nil .nil) (.node fl .nil .nil))) (.node (o53 P) (.node (o76 P) (.node (tp [(.str "sayings" 611), (.str "many" 612), (.str "told" 613)]) (.node (tp [(.str "_law_many" 997), (.str "_law_cell" 998), (.str "_law_one" 999), (.str "_law_some" 1000), (.str "_law_long" 1001), (.str "_law_k" 1002), (.str "_law_wide" 1003)]) .nil .nil) .nil) (.node (o157 P) .nil .nil)) (.node (tp []) (.node (tp [(.str "forks" 705), (.str "place" 706), (.str "known" 707), (.str "row" 708), (.str "whole" 709), (.str "low" 710), (.str "high" 711)]) .nil .nil) (.node (f0 "by_things" "by_things" (top 80)) .nil .nil))))) (.node (o8 P) (.node (o17 P) (.node (o33 P) (.node (dc #[de P "__module__" 364 (.str "sayhall.forks" 351), de P "__qualname__" 366 (.str "Forks" 365), de P "__firstlineno__" 368 (.int 25 367), de P "__init__" 375 (.ref 149), de P "fork" 386 (.ref 156), de P "all_of" 392 (.ref 161), de P "either_of" 405 (.ref 168), de P "side" 416 (.ref 175), de P "__static_attributes__" 421 (.ref 176)] 9) (.node (tp []) (.node (f0 "_law_sayings" "_law_sayings" (top 85)) .nil .nil) .nil) (.node (tp []) .nil .nil)) (.node (o81 P) (.node (tp []) .nil .nil) (.node (tp []) .nil .nil))) (.node (fm 105 102 (.str "sayhall.errors" 187)) (.node fl (.node (o112 P) (.node fl .nil .nil) .nil) (.node (tp [(.str "sayings" 787), (.str "many" 788), (.str "good" 789), (.str "place" 790), (.str "saying" 791)]) .nil .nil)) (.node (o92 P) (.node fl .nil .nil) (.node fl .nil .nil)))) (.node (fm 57 54 (.str "sayhall.errors" 187)) (.node (o41 P) (.node (f0 "fork" "Forks.fork" (L2.inClass (top 14) 1)) (.node (tp [(.str "sayings" 575), (.str "part" 576)]) (.node (o191 P) .nil .nil) .nil) (.node fl .nil .nil)) (.node (tp [(.str "sayings" 479), (.str "many" 480), (.str "place" 481), (.str "saying" 482)]) (.node (o128 P) .nil .nil) (.node (f0 "truth" "truth" (top 76)) .nil .nil))) (.node (o57 P) (.node (tp []) (.node (tp []) (.node (tp []) .nil .nil) .nil) (.node (o160 P) .nil .nil)) (.node fl (.node (o137 P) .nil .nil) (.node (o180 P) .nil .nil)))))) (.node (fm 13 3 (.str "__main__" 164)) (.node (tp []) (.node (o15 P) (.node (fm 69 66 (.str "sayhall.errors" 187)) (.node (o63 P) (.node fl (.node (o184 P) .nil .nil) .nil) (.node (tp []) .nil .nil)) (.node fl (.node fl .nil .nil) (.node (tp []) .nil .nil))) (.node (o47 P) (.node (f0 "either_of" "Forks.either_of" (L2.inClass (top 14) 3)) (.node (tp [(.str "begun" 591), (.str "ripe" 592), (.str "found" 593), (.str "start" 594), (.str "choice" 595), (.str "case" 596)]) (.node (f0 "_law_kind" "_law_kind" (top 89)) .nil .nil) .nil) (.node (o153 P) .nil .nil)) (.node (tp []) (.node (f0 "lay" "lay" (top 50)) .nil .nil) (.node (f0 "number_of" "number_of" (top 78)) .nil .nil)))) (.node (o23 P) (.node (o39 P) (.node (tp []) (.node (o105 P) (.node (tp [(.str "_law_way" 952), (.str "_law_bad_here" 953), (.str "_law_many" 954), (.str "_law_case" 955)]) .nil .nil) .nil) (.node (f0 "things_in_both" "things_in_both" (top 60)) .nil .nil)) (.node (o85 P) (.node (tp [(.str "sayings" 660), (.str "chosen" 661), (.str "thing" 662), (.str "proofs" 663), (.str "choice" 664), (.str "told" 665), (.str "proof" 666), (.str "saying" 667)]) .nil .nil) (.node (o168 P) .nil .nil))) (.node (fm 117 114 (.str "sayhall.errors" 187)) (.node (fd "builtin_function_or_method" [(.builtin "object.__init_subclass__"), (.ref 178)]) (.node (o116 P) (.node (o199 P) .nil .nil) .nil) (.node (tp [(.str "sayings" 804), (.str "many" 805), (.str "case" 806), (.str "order" 807), (.str "place" 808), (.str "told" 809)]) .nil .nil)) (.node (f0 "fits" "fits" (top 27)) (.node (o136 P) .nil .nil) (.node fl .nil .nil))))) (.node (o11 P) (.node (fm 45 42 (.str "sayhall.errors" 187)) (.node (o35 P) (.node (fm 141 138 (.str "sayhall.forks" 351)) (.node (f0 "told_from" "told_from" (top 34)) (.node fl .nil .nil) .nil) (.node (o144 P) .nil .nil)) (.node (tp [(.str "thing" 463), (.str "many" 464), (.str "last" 465), (.str "part" 466)]) (.node (o124 P) .nil .nil) (.node (f0 "check_sentence" "check_sentence" (top 74)) .nil .nil))) (.node (o51 P) (.node (o73 P) (.node (o113 P) (.node (o196 P) .nil .nil) .nil) (.node (o156 P) .nil .nil)) (.node (tp []) (.node (o133 P) .nil .nil) (.node (tp []) .nil .nil)))) (.node (o27 P) (.node (fm 93 90 (.str "sayhall.errors" 187)) (.node fl (.node (o108 P) (.node (tp []) .nil .nil) .nil) (.node (tp []) .nil .nil)) (.node (o88 P) (.node (tp []) .nil .nil) (.node fl .nil .nil))) (.node (o59 P) (.node (tp []) (.node (tp []) (.node (tp []) .nil .nil) .nil) (.node (tp []) .nil .nil)) (.node (tp []) (.node (tp [(.str "one" 724), (.str "other" 725), (.str "many" 726), (.str "first" 727), (.str "second" 728), (.str "case" 729)]) .nil .nil) (.node (tp [(.str "_law_script" 921), (.str "_law_k" 922), (.str "_law_many" 923), (.str "_law_drawn" 924)]) .nil .nil)))))))))
noncomputable def KF (P : Params) : Frag :=
(nat_lit 2, ⟨.none, none, (.dict #[] 0), #[]⟩) ::
(nat_lit 3, o0 P) ::
(nat_lit 23, o5 P) ::
(nat_lit 24, o6 P) ::
(nat_lit 36, o13 P) ::
(nat_lit 37, o14 P) ::
(nat_lit 48, o19 P) ::
(nat_lit 49, o20 P) ::
(nat_lit 60, o25 P) ::
(nat_lit 61, o26 P) ::
(nat_lit 72, o31 P) ::
(nat_lit 73, o32 P) ::
(nat_lit 84, o37 P) ::
(nat_lit 85, o38 P) ::
(nat_lit 96, o43 P) ::
(nat_lit 97, o44 P) ::
(nat_lit 108, o49 P) ::
(nat_lit 109, o50 P) ::
(nat_lit 120, o55 P) ::
(nat_lit 121, o56 P) ::
(nat_lit 132, o61 P) ::
(nat_lit 133, o62 P) ::
(nat_lit 148, o65 P) ::
(nat_lit 149, o66 P) ::
(nat_lit 155, o67 P) ::
(nat_lit 156, o68 P) ::
(nat_lit 160, o69 P) ::
(nat_lit 161, o70 P) ::
(nat_lit 167, o71 P) ::
(nat_lit 168, o72 P) ::
(nat_lit 174, o73 P) ::
(nat_lit 175, o74 P) ::
(nat_lit 177, o75 P) ::
(nat_lit 178, o76 P) ::
(nat_lit 188, o77 P) ::
(nat_lit 189, o78 P) ::
(nat_lit 195, o79 P) ::
(nat_lit 196, o80 P) ::
(nat_lit 202, o81 P) ::
(nat_lit 203, o82 P) ::
(nat_lit 209, o83 P) ::
(nat_lit 210, o84 P) ::
(nat_lit 214, o85 P) ::
(nat_lit 215, o86 P) ::
(nat_lit 221, o87 P) ::
(nat_lit 222, o88 P) ::
(nat_lit 228, o89 P) ::
(nat_lit 229, o90 P) ::
(nat_lit 233, o91 P) ::
(nat_lit 234, o92 P) ::
(nat_lit 240, o93 P) ::
(nat_lit 241, o94 P) ::
(nat_lit 247, o95 P) ::
(nat_lit 248, o96 P) ::
(nat_lit 252, o97 P) ::
(nat_lit 253, o98 P) ::
(nat_lit 259, o99 P) ::
(nat_lit 260, o100 P) ::
(nat_lit 264, o101 P) ::
(nat_lit 265, o102 P) ::
(nat_lit 271, o103 P) ::
(nat_lit 272, o104 P) ::
(nat_lit 278, o105 P) ::
(nat_lit 279, o106 P) ::
(nat_lit 285, o107 P) ::
(nat_lit 286, o108 P) ::
(nat_lit 290, o109 P) ::
(nat_lit 291, o110 P) ::
(nat_lit 297, o111 P) ::
(nat_lit 298, o112 P) ::
(nat_lit 302, o113 P) ::
(nat_lit 303, o114 P) ::
(nat_lit 309, o115 P) ::
(nat_lit 310, o116 P) ::
(nat_lit 316, o117 P) ::
(nat_lit 317, o118 P) ::
(nat_lit 323, o119 P) ::
(nat_lit 324, o120 P) ::
(nat_lit 328, o121 P) ::
(nat_lit 329, o122 P) ::
(nat_lit 333, o123 P) ::
(nat_lit 334, o124 P) ::
(nat_lit 338, o125 P) ::
(nat_lit 339, o126 P) ::
(nat_lit 345, o127 P) ::
(nat_lit 346, o128 P) ::
(nat_lit 352, o129 P) ::
(nat_lit 353, o130 P) ::
(nat_lit 359, o131 P) ::
(nat_lit 360, o132 P) ::
(nat_lit 366, o133 P) ::
(nat_lit 367, o134 P) ::
(nat_lit 373, o135 P) ::
(nat_lit 374, o136 P) ::
(nat_lit 378, o137 P) ::
(nat_lit 379, o138 P) ::
(nat_lit 385, o139 P) ::
(nat_lit 386, o140 P) ::
(nat_lit 392, o141 P) ::
(nat_lit 393, o142 P) ::
(nat_lit 397, o143 P) ::
(nat_lit 398, o144 P) ::
(nat_lit 402, o145 P) ::
(nat_lit 403, o146 P) ::
(nat_lit 407, o147 P) ::
(nat_lit 408, o148 P) ::
(nat_lit 412, o149 P) ::
(nat_lit 413, o150 P) ::
(nat_lit 417, o151 P) ::
(nat_lit 418, o152 P) ::
(nat_lit 422, o153 P) ::
(nat_lit 423, o154 P) ::
(nat_lit 429, o155 P) ::
(nat_lit 430, o156 P) ::
(nat_lit 434, o157 P) ::
(nat_lit 435, o158 P) ::
(nat_lit 441, o159 P) ::
(nat_lit 442, o160 P) ::
(nat_lit 448, o161 P) ::
(nat_lit 449, o162 P) ::
(nat_lit 450, o163 P) ::
(nat_lit 456, o164 P) ::
(nat_lit 457, o165 P) ::
(nat_lit 463, o166 P) ::
(nat_lit 464, o167 P) ::
(nat_lit 470, o168 P) ::
(nat_lit 471, o169 P) ::
(nat_lit 475, o170 P) ::
(nat_lit 476, o171 P) ::
(nat_lit 482, o172 P) ::
(nat_lit 483, o173 P) ::
(nat_lit 487, o174 P) ::
(nat_lit 488, o175 P) ::
(nat_lit 492, o176 P) ::
(nat_lit 493, o177 P) ::
(nat_lit 499, o178 P) ::
(nat_lit 500, o179 P) ::
(nat_lit 506, o180 P) ::
(nat_lit 507, o181 P) ::
(nat_lit 513, o182 P) ::
(nat_lit 514, o183 P) ::
(nat_lit 518, o184 P) ::
(nat_lit 519, o185 P) ::
(nat_lit 523, o186 P) ::
(nat_lit 524, o187 P) ::
(nat_lit 530, o188 P) ::
(nat_lit 531, o189 P) ::
(nat_lit 537, o190 P) ::
(nat_lit 538, o191 P) ::
(nat_lit 544, o192 P) ::
(nat_lit 545, o193 P) ::
(nat_lit 551, o194 P) ::
(nat_lit 552, o195 P) ::
(nat_lit 558, o196 P) ::
(nat_lit 559, o197 P) ::
(nat_lit 565, o198 P) ::
(nat_lit 566, o199 P) ::
(nat_lit 572, o200 P) ::
(nat_lit 573, o201 P) ::
(nat_lit 577, o202 P) ::
(nat_lit 578, o203 P) :: []
noncomputable def AS : List Addr := nat_lit 2 :: nat_lit 3 :: nat_lit 23 :: nat_lit 24 :: nat_lit 36 :: nat_lit 37 :: nat_lit 48 :: nat_lit 49 :: nat_lit 60 :: nat_lit 61 :: nat_lit 72 :: nat_lit 73 :: nat_lit 84 :: nat_lit 85 :: nat_lit 96 :: nat_lit 97 :: nat_lit 108 :: nat_lit 109 :: nat_lit 120 :: nat_lit 121 :: nat_lit 132 :: nat_lit 133 :: nat_lit 148 :: nat_lit 149 :: nat_lit 155 :: nat_lit 156 :: nat_lit 160 :: nat_lit 161 :: nat_lit 167 :: nat_lit 168 :: nat_lit 174 :: nat_lit 175 :: nat_lit 177 :: nat_lit 178 :: nat_lit 188 :: nat_lit 189 :: nat_lit 195 :: nat_lit 196 :: nat_lit 202 :: nat_lit 203 :: nat_lit 209 :: nat_lit 210 :: nat_lit 214 :: nat_lit 215 :: nat_lit 221 :: nat_lit 222 :: nat_lit 228 :: nat_lit 229 :: nat_lit 233 :: nat_lit 234 :: nat_lit 240 :: nat_lit 241 :: nat_lit 247 :: nat_lit 248 :: nat_lit 252 :: nat_lit 253 :: nat_lit 259 :: nat_lit 260 :: nat_lit 264 :: nat_lit 265 :: nat_lit 271 :: nat_lit 272 :: nat_lit 278 :: nat_lit 279 :: nat_lit 285 :: nat_lit 286 :: nat_lit 290 :: nat_lit 291 :: nat_lit 297 :: nat_lit 298 :: nat_lit 302 :: nat_lit 303 :: nat_lit 309 :: nat_lit 310 :: nat_lit 316 :: nat_lit 317 :: nat_lit 323 :: nat_lit 324 :: nat_lit 328 :: nat_lit 329 :: nat_lit 333 :: nat_lit 334 :: nat_lit 338 :: nat_lit 339 :: nat_lit 345 :: nat_lit 346 :: nat_lit 352 :: nat_lit 353 :: nat_lit 359 :: nat_lit 360 :: nat_lit 366 :: nat_lit 367 :: nat_lit 373 :: nat_lit 374 :: nat_lit 378 :: nat_lit 379 :: nat_lit 385 :: nat_lit 386 :: nat_lit 392 :: nat_lit 393 :: nat_lit 397 :: nat_lit 398 :: nat_lit 402 :: nat_lit 403 :: nat_lit 407 :: nat_lit 408 :: nat_lit 412 :: nat_lit 413 :: nat_lit 417 :: nat_lit 418 :: nat_lit 422 :: nat_lit 423 :: nat_lit 429 :: nat_lit 430 :: nat_lit 434 :: nat_lit 435 :: nat_lit 441 :: nat_lit 442 :: nat_lit 448 :: nat_lit 449 :: nat_lit 450 :: nat_lit 456 :: nat_lit 457 :: nat_lit 463 :: nat_lit 464 :: nat_lit 470 :: nat_lit 471 :: nat_lit 475 :: nat_lit 476 :: nat_lit 482 :: nat_lit 483 :: nat_lit 487 :: nat_lit 488 :: nat_lit 492 :: nat_lit 493 :: nat_lit 499 :: nat_lit 500 :: nat_lit 506 :: nat_lit 507 :: nat_lit 513 :: nat_lit 514 :: nat_lit 518 :: nat_lit 519 :: nat_lit 523 :: nat_lit 524 :: nat_lit 530 :: nat_lit 531 :: nat_lit 537 :: nat_lit 538 :: nat_lit 544 :: nat_lit 545 :: nat_lit 551 :: nat_lit 552 :: nat_lit 558 :: nat_lit 559 :: nat_lit 565 :: nat_lit 566 :: nat_lit 572 :: nat_lit 573 :: nat_lit 577 :: nat_lit 578 :: []
noncomputable abbrev HH : Hook := kHook KF AS (fun _ => by kernel_rfl)
noncomputable abbrev XT : Shared -> Bool := fun s => xlAt VW [] s && recOk (RowW.records (OpenRow.toRowW (OpenLaw.row PySem.Challenge.rw_sayhall_k15_refusals))) s
noncomputable def EV : Env := { scope := PySem.Challenge.pw_sayhall_k15_refusals.main.scope, locals := mainNs, globals := mainNs, cells := [], code := (.ref 13), frame := some 14 }
noncomputable abbrev BD : List Stmt := behindTheImports PySem.Challenge.pw_sayhall_k15_refusals
noncomputable abbrev CC : Code := .body BD EV
theorem h1 : ∀ w, BU PySem.Challenge.pw_sayhall_k15_refusals 11 (some (.ref 6)) 12 1 2159 BD (BD.take 14) EV CC ⟨0, 0, 0, 0⟩ ⟨0, 0, 0, 0⟩ ⟨24, 0, 24, 10⟩ T0 T1 11 136 357 w := by intro w; kernel_rfl
noncomputable abbrev RR (w : World) : Prop := RunP PySem.Challenge.pw_sayhall_k15_refusals 11 (some (.ref 6)) 2470 (BD.drop 14) EV CC ⟨0, 0, 0, 0⟩ ⟨24, 0, 24, 10⟩ T1 T2 136 357 579 1025 w
theorem h2 (w : World) : RR (w.withFollow "special-get-raises" false) := by kernel_rfl
theorem h3 (w : World) : RR (w.withFollow "special-get-raises" true) := by kernel_rfl
theorem h4 : ∀ w, BV PySem.Challenge.pw_sayhall_k15_refusals VW ["LENGTH_BY_WORD"] XT (Hook.obs HH) (Hook.val HH) T2 579 1025 w := by intro w; kernel_rfl
theorem hl : LeftO (OpenLaw.row PySem.Challenge.rw_sayhall_k15_refusals).prog VW ["LENGTH_BY_WORD"] XT (Hook.obs HH) (Hook.val HH) 9318 :=
 mG (p := PySem.Challenge.pw_sayhall_k15_refusals) (by rfl) (by decide) (fun _ => rfl) (fun _ => by kernel_rfl) (fun _ => by kernel_rfl) (List.take_append_drop 14 BD).symm (by decide) h1 (byRow2 "special-get-raises" h2 h3) h4
end L2H
namespace L2
open PySem PySem.Spec PyProof.Rows
section
variable {fs ex : List Addr} {H H' : Hp} {h h1 h2 : Heap}
theorem HOk.beyond {P : Program} {w : World} {C : Addr} (x : HOk P w H h1) (hC : H C = none) (hs : Heap.SameBut C h1 h2) : HOk P w H h2 := fun a o e => by
 refine (x a o e).stay (fun c q hc e' => (hs.2 c ?_).trans e') (fun _ q => q) fun _ _ q => q
 intro z
 subst z
 rcases hc with z | z
 ·subst z
  rw [hC] at e
  cases e
 ·rw [hC] at z
  cases z
end
theorem g0 {env : Env} : ∀ (names : List (Str × NameKind)) (cs : List (Str × Addr)), (∀ y ∈ names, y.2 = .free -> ∃ c, env.cells.lookup y.1 = some c) -> (∀ x c, cs.lookup x = some c -> env.cells.lookup x = some c) ->
  ∃ cl : List (Str × Addr), (forIn names cs fun (y : Str × NameKind) (r : List (Str × Addr)) => if (y.2 == NameKind.free) = true then (do let a <- cellOf env y.1; pure (ForInStep.yield ((y.1, a) :: r)) : Sem _) else pure (ForInStep.yield r)) = (pure cl : Sem _) /\
   (∀ x c, cl.lookup x = some c -> env.cells.lookup x = some c) /\ (∀ x c, cs.lookup x = some c -> ∃ c', cl.lookup x = some c') /\ ∀ y ∈ names, y.2 = .free -> ∃ c, cl.lookup y.1 = some c
 | [], cs, _, h2 => ⟨cs, rfl, h2, fun x c e => ⟨c, e⟩, fun y hy => absurd hy (by simp)⟩
 | (n, k) :: r, cs, h1, h2 => by
  have hr : ∀ y ∈ r, y.2 = .free -> ∃ c, env.cells.lookup y.1 = some c := fun y hy => h1 y (List.mem_cons_of_mem _ hy)
  by_cases hk : k = .free
  ·obtain ⟨c, hc⟩ := h1 (n, k) (List.mem_cons_self ..) hk
   have h2' : ∀ x d, ((n, c) :: cs).lookup x = some d -> env.cells.lookup x = some d := fun x d e => by
    rw [List.lookup_cons] at e
    cases q : x == n with
    | true =>
     rw [q] at e
     have : x = n := by simpa using q
     subst this
     simp only [Option.some.injEq] at e
     subst e
     exact hc
    | false => rw [q] at e; exact h2 x d e
   obtain ⟨cl, e1, e2, e3, e4⟩ := g0 r ((n, c) :: cs) hr h2'
   have hn : ∃ c', cl.lookup n = some c' := e3 n c (by simp)
   refine ⟨cl, ?_, e2, fun x d e => ?_, fun y hy hf => ?_⟩
   ·subst hk
    rw [List.forIn_cons]
    simp only [beq_self_eq_true, if_true]
    have ec : cellOf env n = pure c := by unfold cellOf; rw [hc]
    rw [ec]
    simp only [pure_bind]
    exact e1
   ·by_cases q : x = n
    ·subst q; exact hn
    ·exact e3 x d (by rw [List.lookup_cons, show (x == n) = false by simpa using q]; exact e)
   ·rcases List.mem_cons.mp hy with z | z
    ·subst z; exact hn
    ·exact e4 y z hf
  ·obtain ⟨cl, e1, e2, e3, e4⟩ := g0 r cs hr h2
   refine ⟨cl, ?_, e2, e3, fun y hy hf => ?_⟩
   ·rw [List.forIn_cons]
    have hb : (k == NameKind.free) = false := by simpa using hk
    simp only [hb, Bool.false_eq_true, if_false, pure_bind]
    exact e1
   ·rcases List.mem_cons.mp hy with z | z
    ·subst z; exact absurd hf hk
    ·exact e4 y z hf
theorem mH {scope : Scope} {env : Env} (h : ∀ y ∈ scope.names, y.2 = .free -> ∃ c, env.cells.lookup y.1 = some c) :
  ∃ cl : List (Str × Addr), closureFor scope env = pure cl /\ (∀ x c, cl.lookup x = some c -> env.cells.lookup x = some c) /\ ∀ y ∈ scope.names, y.2 = .free -> ∃ c, cl.lookup y.1 = some c := by
 obtain ⟨cl, e1, e2, _, e4⟩ := g0 (env := env) scope.names [] h (fun x c e => by simp at e)
 refine ⟨cl, ?_, e2, e4⟩
 unfold closureFor
 exact (bind_pure _).trans e1
noncomputable def An (X : Cx) (N : List Str) (scope : Scope) (cl : List (Str × Addr)) (C : Addr) (ex : List Addr) (s : Shared) (H : Hp) : Cx :=
 { X with N := N, s₀ := s, H₀ := H, env := compEnvC scope cl C X.env, outer := X.stack, ex := ex, fn := fun _ => false, pn := [], xe := fun _ _ => False }
structure AG (X : Cx) (own : List Str) (F : List Nat) (N : List Str) (scope : Scope) : Prop where
 kind : scope.kind = .function
 nocell : ∀ y ∈ scope.names, y.2 ≠ .cell
 loc : ∀ y ∈ scope.names, y.2 = .local -> scope.names.lookup y.1 = some .local
 fkind : X.env.scope.kind = .function
 free : ∀ y ∈ scope.names, y.2 = .free -> X.env.kindOf y.1 = some .cell \/ X.env.kindOf y.1 = some .free
 names : ∀ (i : Nat) x, N[i]? = some x -> (i < own.length \/ ∃ j, F[i - own.length]? = some j /\ X.N[j]? = some x /\ Vis X.env.scope x /\ ∀ k, (relabel scope X.env).names.lookup x = some k -> k = .cell \/ k = .free)
 len : N.length = own.length + F.length
noncomputable def rho (n : Nat) (F : List Nat) (σ : St) : St := List.replicate n none ++ F.map fun j => (σ[j]?).join
theorem ko (n : Nat) (F : List Nat) (σ : St) : (rho n F σ).length = n + F.length := by simp [rho]
theorem nL {n : Nat} {F : List Nat} {σ : St} {i : Nat} {v : V} (h : (rho n F σ)[i]? = some (some v)) : n <= i /\ ∃ j, F[i - n]? = some j /\ σ[j]? = some (some v) := by
 unfold rho at h
 by_cases hi : i < n
 ·rw [List.getElem?_append_left (by simpa using hi), List.getElem?_replicate] at h
  simp [hi] at h
 ·rw [List.getElem?_append_right (by simpa using hi), List.length_replicate, List.getElem?_map] at h
  refine ⟨Nat.le_of_not_lt hi, ?_⟩
  cases e : F[i - n]? with
  | none => rw [e] at h; cases h
  | some j =>
   rw [e] at h
   simp only [Option.map_some, Option.some.injEq] at h
   refine ⟨j, rfl, ?_⟩
   cases q : σ[j]? with
   | none => rw [q] at h; cases h
   | some o => rw [q] at h; simp only [Option.join] at h; rw [show o = some v from h]
theorem bU {env : Env} {x : Str} {k : NameKind} : ∀ {names : List (Str × NameKind)}, (names.map fun (n, k) => if (k == NameKind.free && env.scope.kind == .function && env.kindOf n == some .cell) then (n, NameKind.cell) else (n, k)).lookup x = some k ->
  ∃ k', (x, k') ∈ names /\ (k = k' \/ (k = .cell /\ k' = .free))
 | [], h => by simp at h
 | (n, k') :: r, h => by
  rw [List.map_cons] at h
  by_cases hc : (k' == NameKind.free && env.scope.kind == .function && env.kindOf n == some .cell) = true
  ·simp only [hc, if_true] at h
   rw [List.lookup_cons] at h
   cases q : x == n with
   | true =>
    rw [q] at h
    have : x = n := by simpa using q
    subst this
    refine ⟨k', List.mem_cons_self .., .inr ⟨?_, ?_⟩⟩
    ·simpa using h.symm
    ·simp only [Bool.and_eq_true, beq_iff_eq] at hc
     exact hc.1.1
   | false =>
    rw [q] at h
    obtain ⟨k2, h1, h2⟩ := bU h
    exact ⟨k2, List.mem_cons_of_mem _ h1, h2⟩
  ·simp only [hc, Bool.false_eq_true, if_false] at h
   rw [List.lookup_cons] at h
   cases q : x == n with
   | true =>
    rw [q] at h
    have : x = n := by simpa using q
    subst this
    refine ⟨k', List.mem_cons_self .., .inl ?_⟩
    simpa using h.symm
   | false =>
    rw [q] at h
    obtain ⟨k2, h1, h2⟩ := bU h
    exact ⟨k2, List.mem_cons_of_mem _ h1, h2⟩
section
variable {X : Cx} {pins : A6} {σ : St} {H : Hp} {s : Shared} {own N : List Str} {F : List Nat} {scope : Scope} {cl : List (Str × Addr)} {fp : List Addr}
theorem rR (S : AG X own F N scope) (I : Inv X pins σ H s) (hf : ∀ b ∈ fp, FpOk X pins H b) (c1 : ∀ x c, cl.lookup x = some c -> X.env.cells.lookup x = some c) (c2 : ∀ y ∈ scope.names, y.2 = .free -> ∃ c, cl.lookup y.1 = some c)
  {C : Addr} (hC : s.heap.objs.size <= C) (hfp : ∀ b ∈ fp, b < s.heap.objs.size) : (An X N scope cl C fp s H).Ok where
 mod := I.ok.mod
 kind := S.kind
 glob := I.ok.glob
 blt := I.ok.blt
 above := hC
 inj := fun x y c e1 e2 => I.ok.inj x y c (c1 x c e1) (c1 y c e2)
 has := fun x hx => by
  rcases hx with e | e
  ·obtain ⟨k', hm, hk⟩ := bU (env := X.env) (names := scope.names) e
   rcases hk with z | ⟨_, z⟩
   ·exact absurd z.symm (S.nocell _ hm)
   ·exact c2 _ hm z
  ·obtain ⟨k', hm, hk⟩ := bU (env := X.env) (names := scope.names) e
   rcases hk with z | ⟨z, _⟩
   ·exact c2 _ hm z.symm
   ·cases z
 cab := fun x c h _ => absurd h (by simp [An])
 hd := I.ok.hd
 frames := I.ok.frames
 stk := .inl rfl
 exf := fun b hb => ⟨Nat.ne_of_lt (Nat.lt_of_lt_of_le (hfp b hb) hC), fun x c e => (hf b hb).2.2.2.2.1 x c (c1 x c e)⟩
 bs := I.bs
 bsz := Nat.le_trans I.ok.bsz I.sz
 noex := fun b o e hb => by
  rcases (hf b hb).2.2.2.1 with z | z
  ·exact I.ok.noex b o e z
  ·exact absurd (Nat.lt_of_lt_of_le (Nat.lt_of_lt_of_le (Heap.lt_size e) I.ok.bsz) z) (Nat.lt_irrefl _)
 exfs := fun b hb z => by
  rcases List.mem_cons.mp (I.stkSub b z) with q | q
  ·exact (hf b hb).2.1 q
  ·exact (hf b hb).2.2.1 q
 funs := I.stack
 frf := I.stkFree
theorem qe (S : AG X own F N scope) (I : Inv X pins σ H s) (hf : ∀ b ∈ fp, FpOk X pins H b) (c1 : ∀ x c, cl.lookup x = some c -> X.env.cells.lookup x = some c) (c2 : ∀ y ∈ scope.names, y.2 = .free -> ∃ c, cl.lookup y.1 = some c)
  {C : Addr} (hC : s.heap.objs.size <= C) (hfp : ∀ b ∈ fp, b < s.heap.objs.size) {h' : Heap} {m : A5} {tk : Nat} (k : ∀ b o, s.heap.get? b = some o -> h'.get? b = some o) (hn : h'.Ns C m) :
  Inv (An X N scope cl C fp s H) [] (rho own.length F σ) H { s with heap := h', toks := tk } := by
 have fresh : H C = none := I.hok.fresh hC
 refine ⟨rR S I hf c1 c2 hC hfp, rfl, I.bare, Un.kept k, ⟨m, hn, fun i x v e1 e2 e3 => ?_⟩, fun x c e => ?_, fresh, fun x c e => I.freeC x c (c1 x c e), fun p hp => absurd (show p ∈ ([] : A6) from hp) (by simp), I.hok.kept k, ?_⟩
 ·obtain ⟨hi, j, q1, q2⟩ := nL e2
  rcases S.names i x e1 with z | ⟨j', z1, z2, z3, z4⟩
  ·exact absurd hi (Nat.not_le.mpr z)
  ·rw [q1] at z1
   cases z1
   obtain ⟨m0, _, hl⟩ := I.loc
   obtain ⟨u, r, l⟩ := hl j x v z2 q2 z3
   refine ⟨u, r, ?_⟩
   have vis : ∀ k, (relabel scope X.env).names.lookup x = some k -> k = .cell \/ k = .free := z4
   obtain ⟨k2, hk2, hkc⟩ : ∃ k2, (relabel scope X.env).names.lookup x = some k2 /\ (k2 = .cell \/ k2 = .free) := by
    rcases e3 with z | z | z
    ·exact ⟨_, z, vis _ z⟩
    ·exact ⟨_, z, vis _ z⟩
    ·exact ⟨_, z, vis _ z⟩
   obtain ⟨k', hm, hk⟩ := bU (env := X.env) (names := scope.names) hk2
   have hfree : k' = .free := by
    rcases hk with q | ⟨_, q⟩
    ·rcases hkc with y | y
     ·exact absurd (q.symm.trans y) (S.nocell _ hm)
     ·exact q.symm.trans y
    ·exact q
   obtain ⟨c, hc⟩ := c2 _ hm hfree
   refine .inr ⟨?_, c, hc, ?_⟩
   ·rcases hkc with y | y
    ·subst y; exact .inl hk2
    ·subst y; exact .inr hk2
   ·have hx := S.free _ hm hfree
    rcases l with ⟨q, _⟩ | ⟨_, c', e', ic⟩
    ·rcases hx with y | y
     ·rw [q] at y; cases y
     ·rw [q] at y; cases y
    ·have : c' = c := Option.some.inj (e'.symm.trans (c1 _ _ hc))
     subst this
     obtain ⟨o, ho, hd⟩ := ic
     exact ⟨o, k _ _ ho, hd⟩
 ·obtain ⟨v, o, ho, hd⟩ := I.cell x c (c1 x c e)
  exact ⟨v, o, k _ _ ho, hd⟩
 ·show (rho own.length F σ).length = N.length
  rw [ko, S.len]
end
noncomputable def Bz (n : Nat) (F : List Nat) (wi : TI) (g : TG) (tc : TT) (te : TE) : TE := fun σ H Q => wi σ H fun J H1 =>
 ∃ W : Nat -> Nat -> List V -> Hp -> Prop, (∃ m, W 0 m [] H1) /\ ∀ i m ys H2, W i m ys H2 ->
  (J.stop i H2 /\ ∀ D, H2 D = none -> Q (.ref D) (upd H2 D (.lst ys))) \/
  (J.go i H2 /\ ∀ x H3, J.yld i H2 x H3 -> g x (rho n F σ) H3 fun ρ H4 => tc ρ H4 fun b H5 =>
   if b = true then te ρ H5 fun v H6 => ys.length < sizeLine /\ ∃ m', m' < m /\ W (i + 1) m' (ys ++ [v]) H6 else ∃ m', m' < m /\ W (i + 1) m' ys H5)
def tYes : TT := fun _ H Q => Q true H
theorem HOk.track {P : Program} {w : World} {H : Hp} {h : Heap} {a : Addr} {o : HO} (x : HOk P w H h) (hn : H a = none) (new : Ao P w (upd H a o) h a o) : HOk P w (upd H a o) h := fun b u e => by
 by_cases hb : b = a
 ·subst hb
  rw [aK] at e
  cases e
  exact new
 ·rw [av hb] at e
  refine (x b u e).stay (fun _ _ _ q => q) (fun c q => ?_) fun c xs q => ?_
  ·rw [av (aD q hn)]; exact q
  ·rw [av (aD q hn)]; exact q
section
variable {prog : Program} {w : World} {A : Around} {R : Result -> Shared -> Prop} {s : Shared}
abbrev BG (ifs : List Expr) (env : Env) : Sem Bool := forIn ifs true fun c r => if r = true then do let ok <- isTrue c env (eval c env); pure (ForInStep.yield ok) else pure (ForInStep.yield r)
theorem oJ {elt tg iter : Expr} {ifs : List Expr} {scope : Scope} {pos : Pos} {it acc : Value} {env : Env} (W : Nat -> Shared -> Prop)
  (turn : ∀ n s, W n s -> wpAny (model prog w) A (pyNext it) (fun r s1 => match r with
   | none => R (.ok .next) s1
   | some v => wpAny (model prog w) A (letOwnedTupleGo tg it v) (fun _ s2 => wpAny (model prog w) A (assign tg env v) (fun _ s3 => wpAny (model prog w) A (BG ifs env) (fun ok s4 =>
     if ok = true then wpAny (model prog w) A (eval elt env) (fun x s5 => wpAny (model prog w) A (call (.builtin "list.append") [acc, x]) (fun _ s6 => ∃ m, m < n /\ W m s6) (fun _ _ => False) s5) (fun _ _ => False) s4
     else ∃ m, m < n /\ W m s4) (fun _ _ => False) s3) (fun _ _ => False) s2) (fun _ _ => False) s1) (fun _ _ => False) s)
  (n : Nat) (h : W n s) : codeAny (model prog w) A (.compLoop (.ListComp elt [⟨tg, iter, ifs, 0⟩] scope pos) 0 it acc env) R s := by
 have no : ∀ {α : Type} {m : Sem α} {Q : α -> Shared -> Prop} {E : A8} {s : Shared}, wpAny (model prog w) A m Q (fun _ _ => False) s -> wpAny (model prog w) A m Q E s := fun z => wpAny_mono z (fun _ _ q => q) fun _ _ q => q.elim
 refine codeAny_loop rfl W (fun n s hI => ?_) n h
 show wpAny _ A ((compTurn (.ListComp elt [⟨tg, iter, ifs, 0⟩] scope pos) 0 it acc env).onRaise (fun x => do noteFrame x env; theTreesLotGoes x)) _ _ s
 refine wpAny_noted ?_
 rw [compTurn_list]
 refine wpAny_bind (wpAny_standAt (wpAny_bind (wpAny_mono (turn n s hI) (fun r s1 h1 => ?_) fun _ _ q => q.elim)))
 cases r with
 | none => exact wpAny_pure h1
 | some v =>
  refine wpAny_bind (wpAny_mono h1 (fun _ s2 h2 => ?_) fun _ _ q => q.elim)
  refine wpAny_bind (wpAny_mono h2 (fun _ s3 h3 => ?_) fun _ _ q => q.elim)
  refine wpAny_bind (wpAny_mono h3 (fun ok s4 h4 => ?_) fun _ _ q => q.elim)
  cases ok with
  | false => exact wpAny_pure ⟨rfl, h4⟩
  | true =>
   refine wpAny_bind (wpAny_bind (wpAny_mono h4 (fun x s5 h5 => ?_) fun _ _ q => q.elim))
   exact wpAny_bind (wpAny_mono h5 (fun _ s6 h6 => wpAny_pure (wpAny_pure ⟨rfl, h6⟩)) fun _ _ q => q.elim)
end
noncomputable def Stays (n : Nat) (F : List Nat) (g : TG) : Prop := ∀ x σ H Q, g x (rho n F σ) H Q -> g x (rho n F σ) H fun ρ' H' => (ρ'.length = (rho n F σ).length /\ ∀ (j : Nat) v, (rho n F σ)[j]? = some (some v) -> ρ'[j]? = some (some v)) /\ Q ρ' H'
theorem iT {n i : Nat} {F : List Nat} (h : i < n) : Stays n F (AC i) := fun x σ H Q q => by
 refine ⟨⟨by simp, fun j v e => ?_⟩, q⟩
 have := (nL e).1
 rw [List.getElem?_set_ne (by lia)]
 exact e
section
variable {X : Cx} {own N : List Str} {F : List Nat} {scope : Scope} {tg elt iter : Expr} {wi : TI} {g : TG} {tc : TT} {te : TE} {pos : Pos} {ifs : List Expr}
noncomputable def PTs (X : Cx) (ifs : List Expr) (tc : TT) : Prop :=
 ∀ (pins : A6) (s : Shared) (σ : St) (H : Hp) (Q : Bool -> Hp -> Prop), Inv X pins σ H s -> tc σ H Q -> wpAny (model X.prog X.w) X.A (BG ifs X.env) (TP X pins σ Q) X.xe s
theorem rS : PTs X [] tYes := fun pins s σ H Q I h => wpAny_tests_nil ⟨H, I, h⟩
structure Beside (X : Cx) (pins : A6) (H : Hp) (C : Addr) : Prop where
 hn : H C = none
 hL : C ≠ X.env.locals
 h1 : C ∈ X.ex \/ X.s₀.heap.objs.size <= C
 h2 : ∀ x c, X.env.cells.lookup x = some c -> c ≠ C
 h3 : ∀ p ∈ X.pn ++ pins, p.1 ≠ C
theorem Inv.beside {X : Cx} {pins : A6} {σ : St} {H : Hp} {s : Shared} {C : Addr} {h' : Heap} (I : Inv X pins σ H s) (B : Beside X pins H C) (hs : Heap.SameBut C s.heap h') : Inv X pins σ H { s with heap := h' } :=
 I.turned (t' := s.toks) (fun b o hb e => (hs.2 b hb).trans e) B.hn B.hL B.h1 B.h2 B.h3
theorem jK {pins : A6} {s : Shared} {σ : St} {H : Hp} {Fin : List V -> Hp -> Prop} {use : Option (Value -> Sem Unit)} {Qv : A8} {cpos : Pos} (S : AG X own F N scope) (hcm : X.calm = true) (hi : PI X tg iter wi) (hg : ∀ cl C ex s H, PG (An X N scope cl C ex s H) tg g)
  (ht : ∀ cl C ex s H, PTs (An X N scope cl C ex s H) ifs tc) (he : ∀ cl C ex s H, PE (An X N scope cl C ex s H) elt te) (hgw : Stays own.length F g) (hs : ∀ x, foldedSetIterable iter X.env x = pure x) (I : Inv X pins σ H s)
  (h : wi σ H fun J H1 => ∃ W : Nat -> Nat -> List V -> Hp -> Prop, (∃ m, W 0 m [] H1) /\ ∀ i m ys H2, W i m ys H2 -> (J.stop i H2 /\ Fin ys H2) \/
   (J.go i H2 /\ ∀ x H3, J.yld i H2 x H3 -> g x (rho own.length F σ) H3 fun ρ H4 => tc ρ H4 fun b H5 => if b = true then te ρ H5 fun v H6 => ys.length < sizeLine /\ ∃ m', m' < m /\ W (i + 1) m' (ys ++ [v]) H6 else ∃ m', m' < m /\ W (i + 1) m' ys H5))
  (fin : ∀ D C ys H' s', Fin ys H' -> H' D = none -> Inv X pins σ (upd H' D (.lst ys)) s' -> Beside X pins (upd H' D (.lst ys)) C -> (∃ m, s'.heap.Ns C m) -> compPost (model X.prog X.w) X.A X.xe use Qv (.ref D) C (.ok .next) s') :
  wpAny (model X.prog X.w) X.A (comprehension (.ListComp elt [⟨tg, iter, ifs, 0⟩] scope pos) scope X.env cpos (newList []) false (eval iter X.env) use) Qv X.xe s := by
 obtain ⟨cl, hcl, c1, c2⟩ := mH (scope := scope) (env := X.env) fun y hy hf => I.ok.has _ (S.free y hy hf)
 refine wpAny_comprehension_free (use := use) rfl hs hcl S.kind S.loc (thn (hi pins s σ H _ I h) fun x s1 h1 => thn h1 fun itv s2 h2 => ?_)
 obtain ⟨it, fp, tn, J, H2, e, I2, T, st2, f2, W, ⟨m0, w0⟩, turn⟩ := h2
 subst e
 refine wpAny_newObj_type (wpAny_newFunctionEnv S.nocell (fun y hy => absurd hy (by simp)) (fun h4 hns hsb => ?_) S.kind)
 dsimp only at hns hsb ⊢
 generalize eP : s2.heap.push { cls := .type "list", dict := none, data := .seq ([] : List Value).toArray } = hp3 at hns hsb ⊢
 have hD : hp3.objs.size = s2.heap.objs.size + 1 := by rw [<- eP, Heap.size_push]
 generalize eD : s2.heap.objs.size = D at hD ⊢
 generalize eC : hp3.objs.size = C at hns hsb hD ⊢
 have k23 : ∀ b o, s2.heap.get? b = some o -> hp3.get? b = some o := fun b o q => by rw [<- eP]; exact Heap.get?_push_of_some _ q
 have ltD : ∀ {b : Addr} {o : Obj}, s2.heap.get? b = some o -> b < D := fun {b o} q => by rw [<- eD]; exact Heap.lt_size q
 have k34 : ∀ b o, hp3.get? b = some o -> h4.get? b = some o := fun b o q => hsb.extBut b o (Nat.ne_of_lt (by rw [<- eC]; exact Heap.lt_size q)) (Heap.get?_push_of_some _ q)
 have oD3 : hp3.get? D = some { cls := .type "list", dict := none, data := .seq ([] : List Value).toArray } := by rw [<- eP, <- eD]; exact Heap.get?_push_size _ rfl
 have I3 : Inv X pins σ H2 { s2 with heap := hp3 } := I2.kept (t' := s2.toks) k23
 have fD : FpOk X pins H2 D := I2.fpOk (by rw [eD]; exact Nat.le_refl _) (I2.hok.fresh (by rw [eD]; exact Nat.le_refl _))
 have f3 : ∀ b ∈ D :: fp, FpOk X pins H2 b := fun b hb => by
  rcases List.mem_cons.mp hb with z | z
  ·subst z; exact fD
  ·exact f2 b z
 have ltf : ∀ b ∈ fp, b < D := fun b hb => by
  obtain ⟨o, q, _⟩ := T.obj _ _ st2 b hb
  exact ltD q
 have lt3 : ∀ b ∈ D :: fp, b < ({ s2 with heap := hp3 } : Shared).heap.objs.size := fun b hb => by
  show b < hp3.objs.size
  rw [eC, hD]
  rcases List.mem_cons.mp hb with z | z
  ·subst z; exact Nat.lt_succ_self _
  ·exact Nat.lt_succ_of_lt (ltf b z)
 have I4 := qe (N := N) S I3 f3 c1 c2 (C := C) (by show hp3.objs.size <= C; lia) lt3 (h' := h4) (tk := s2.toks + ([] : List (Str × Value)).length) k34 hns
 generalize eX : An X N scope cl C (D :: fp) { s2 with heap := hp3 } H2 = X' at I4
 have hX'loc : X'.env.locals = C := by rw [<- eX]; rfl
 have hX'fs : X'.fs = frs X.stack := by rw [<- eX]; rfl
 have nfD : D ∉ X'.fs := fun z => by
  rw [hX'fs] at z
  rcases List.mem_cons.mp (I2.stkSub D z) with q | q
  ·exact fD.2.1 q
  ·exact fD.2.2.1 q
 have nLD : D ≠ X'.env.locals := by rw [hX'loc, hD]; exact Nat.ne_of_lt (Nat.lt_succ_self _)
 have pinD : ∀ {H' : Hp} {s' : Shared} {σ' : St} {pl : A6} {its : List Value} {k : Nat}, Inv X' pl σ' H' s' -> H' D = none -> s'.heap.get? D = some { cls := .type "list", data := .seq its.toArray k } ->
   Inv X' [(D, { cls := .type "list", data := .seq its.toArray k })] σ' H' s' := fun {H' s' σ' pl its k} J hn q => J.pins_of fun p hp => by
  have : p = (D, { cls := .type "list", data := .seq its.toArray k }) := by simpa using hp
  subst this
  exact ⟨q, hn, nLD, nfD, fun v z => by cases z⟩
 have stat : ∀ {H' : Hp} {its : List Value} {k : Nat}, (∀ b ∈ fp, H' b = none) -> ∀ b ∈ fp, FpOk X' [(D, { cls := .type "list", data := .seq its.toArray k })] H' b := fun {H' its k} hn b hb => by
  refine ⟨hn b hb, ?_, fun z => ?_, .inl ?_, fun x c q => ?_, fun p hp => ?_⟩
  ·rw [hX'loc, hD]; exact Nat.ne_of_lt (Nat.lt_succ_of_lt (ltf b hb))
  ·rw [hX'fs] at z
   rcases List.mem_cons.mp (I2.stkSub b z) with q | q
   ·exact (f2 b hb).2.1 q
   ·exact (f2 b hb).2.2.1 q
  ·rw [<- eX]; exact List.mem_cons_of_mem _ hb
  ·rw [<- eX] at q
   exact (f2 b hb).2.2.2.2.1 x c (c1 x c q)
  ·have hpn : X'.pn = [] := by rw [<- eX]; rfl
   rw [hpn] at hp
   have : p = (D, { cls := .type "list", data := .seq its.toArray k }) := by simpa using hp
   subst this
   exact fun z => Nat.lt_irrefl b (Nat.lt_of_lt_of_eq (ltf b hb) z)
 let Wn : Nat -> Shared -> Prop := fun n s' => ∃ i ys its k H', Inv X' [(D, { cls := .type "list", data := .seq (List.toArray its) k })] (rho own.length F σ) H' s' /\ Vals ys its /\ ys.length <= sizeLine /\ tn i s'.heap /\ (∀ b ∈ fp, H' b = none) /\ W i n ys H'
 have start : Wn m0 { s2 with heap := h4, toks := s2.toks + ([] : List (Str × Value)).length } :=
  ⟨0, [], [], 0, H2, pinD I4 fD.1 (k34 _ _ oD3), .nil, Nat.zero_le _, T.keep _ _ _ st2 (fun b _ o q => k34 b o (k23 b o q)), fun b hb => (f2 b hb).1, w0⟩
 have loop : ∀ s' : Shared, Wn m0 s' -> codeAny (model X.prog X.w) X.A (.compLoop (.ListComp elt [⟨tg, iter, ifs, 0⟩] scope pos) 0 (.ref it) (.ref D) X'.env) (compPost (model X.prog X.w) X.A X.xe use Qv (.ref D) C) s' := by
  intro s' hs'
  refine oJ Wn ?_ m0 hs'
  rintro n s5 ⟨i, ys, its, k, H5, I5, rv5, z5, st5, fr5, w5⟩
  have ePr : X'.prog = X.prog := by rw [<- eX]; rfl
  have ew : X'.w = X.w := by rw [<- eX]; rfl
  have eK : X'.K = X.K := by rw [<- eX]; rfl
  have eA : X'.A = X.A := by rw [<- eX]; rfl
  have ecm : X'.calm = true := by rw [<- eX]; exact hcm
  have exe : X'.xe = fun _ _ => False := by rw [<- eX]; rfl
  rcases turn i n ys H5 w5 with ⟨stop, qn⟩ | ⟨go, step⟩
  ·have td := T.done X' ePr ew eK ecm i _ s5 _ H5 (fun _ _ => False) I5 (stat fr5) st5 stop
   rw [eA] at td
   refine thn td fun r s6 ⟨hr, I6⟩ => ?_
   subst hr
   show compPost (model X.prog X.w) X.A X.xe use Qv (.ref D) C (.ok .next) s6
   obtain ⟨m6, hn6, _⟩ := I6.loc
   have oD6 := (I6.pin (D, { cls := .type "list", data := .seq its.toArray k }) (List.mem_append_right _ (List.mem_cons_self ..))).1
   have nD6 : H5 D = none := (I6.pin (D, { cls := .type "list", data := .seq its.toArray k }) (List.mem_append_right _ (List.mem_cons_self ..))).2.1
   have nC6 : H5 C = none := by rw [<- hX'loc]; exact I6.free
   have u6 : Un (frs X.stack) (D :: fp) H2 H5 hp3 s6.heap := by
    have := I6.base
    rw [hX'fs] at this
    rw [<- eX] at this
    exact this
   have hok7 : HOk X.prog X.w H5 s6.heap := by
    have := I6.hok
    rw [ePr, ew] at this
    exact this
   have neD : ∀ {b : Addr} {o : Obj}, s2.heap.get? b = some o -> b ≠ D := fun {b o} q => Nat.ne_of_lt (ltD q)
   have nin : ∀ {b : Addr} {o : Obj}, s2.heap.get? b = some o -> b ∉ fp -> b ∉ D :: fp := fun {b o} q hb z => by
    rcases List.mem_cons.mp z with y | y
    ·exact neD q y
    ·exact hb y
   have u8 : Un (frs X.stack) fp H2 (upd H5 D (.lst ys)) s2.heap s6.heap :=
    ⟨fun b o q n x y => u6.keep b o (k23 b o q) n x (nin q y), fun b o q n x y => u6.slot b o (k23 b o q) n x (nin q y), fun b o q n y => by rw [av (neD q)]; exact u6.free b o (k23 b o q) n (nin q y),
     fun b o q y => u6.there b o (k23 b o q) (nin q y), fun b xs q => by
      have q' := u6.tups b xs q
      rw [av (aD q' nD6)]; exact q', fun b o u q => by
      have q' := u6.frzs b o u q
      rw [av (aD q' nD6)]; exact q', fun b ps q => by
      obtain ⟨more, q'⟩ := u6.tbls b ps q
      exact ⟨more, by rw [av (aD q' nD6)]; exact q'⟩⟩
   have hos : s6.os = s2.os := by
    have := I6.os
    rw [<- eX] at this
    exact this
   have J : Inv X pins σ (upd H5 D (.lst ys)) s6 :=
    I2.call' (s' := s6) (ch := fp) hos u8 (hok7.track nD6 ⟨z5, its, k, rv5, oD6⟩) I6.bare fun b hb => ⟨(f2 b hb).2.2.2.1, (f2 b hb).2.1, (f2 b hb).2.2.2.2.1, (f2 b hb).2.2.2.2.2⟩
   have fC : FpOk X pins (upd H5 D (.lst ys)) C := I2.fpOk (by rw [eD, hD]; exact Nat.le_succ _) (by rw [av (by rw [hD]; exact Nat.ne_of_gt (Nat.lt_succ_self _))]; exact nC6)
   exact fin D C ys H5 s6 qn nD6 J ⟨fC.1, fC.2.1, fC.2.2.2.1, fC.2.2.2.2.1, fC.2.2.2.2.2⟩ ⟨m6, by rw [<- hX'loc]; exact hn6⟩
  ·have ti := T.item X' ePr ew eK ecm i _ s5 _ H5 (fun _ _ => False) I5 (stat fr5) st5 go
   rw [eA] at ti
   refine thn ti fun r s6 ⟨u, hr, h6⟩ => ?_
   subst hr
   refine thn h6 fun _ s7 ⟨x, H7, I7, r7, y7, st7, fr7⟩ => ?_
   have I7' := I7.pinned (stat fr7) (T.obj _ _ st7)
   have hg' : PG X' tg g := by rw [<- eX]; exact hg _ _ _ _ _
   have ht' : PTs X' ifs tc := by rw [<- eX]; exact ht _ _ _ _ _
   have he' : PE X' elt te := by rw [<- eX]; exact he _ _ _ _ _
   have sg := hg' _ s7 _ H7 x u _ I7' r7 (hgw x σ H7 _ (step x H7 y7))
   rw [ePr, ew, eA, exe] at sg
   refine thn sg fun _ s8 ⟨ρ8, H8, I8, q8', q8⟩ => ?_
   have stt := ht' _ s8 ρ8 H8 _ I8 q8
   rw [ePr, ew, eA, exe] at stt
   refine thn stt fun ok s9 ⟨H9, I9, q9⟩ => ?_
   have hw8 : ρ8.length = (rho own.length F σ).length /\ ∀ (j : Nat) v, (rho own.length F σ)[j]? = some (some v) -> ρ8[j]? = some (some v) := q8'
   have onward : ∀ {s' : Shared} {ρ : St} {H' : Hp} {ys' : List V} {its' : List Value} {k' : Nat}, ρ.length = (rho own.length F σ).length -> (∀ (j : Nat) v, (rho own.length F σ)[j]? = some (some v) -> ρ[j]? = some (some v)) ->
     Inv X' (B5 fp s7.heap) ρ H' s' -> H' D = none -> s'.heap.get? D = some { cls := .type "list", data := .seq its'.toArray k' } -> Vals ys' its' -> ys'.length <= sizeLine -> (∃ m', m' < n /\ W (i + 1) m' ys' H') -> ∃ m, m < n /\ Wn m s' :=
    fun {s' ρ H' ys' its' k'} hl hw J hn ho rv hz ⟨m', hm, w'⟩ => by
     refine ⟨m', hm, i + 1, ys', its', k', H', (pinD J hn ho).weak hl.symm hw, rv, hz, T.keep _ _ _ st7 fun b hb o e => (J.pin (b, o) (List.mem_append_right _ (eO hb e))).1, fun b hb => ?_, w'⟩
     obtain ⟨o, e, _⟩ := T.obj _ _ st7 b hb
     exact (J.pin (b, o) (List.mem_append_right _ (eO hb e))).2.1
   have noD : ∀ {ρ : St} {H' : Hp} {s' : Shared}, Inv X' ([(D, { cls := .type "list", data := .seq its.toArray k })] ++ B5 fp s7.heap) ρ H' s' -> Inv X' (B5 fp s7.heap) ρ H' s' /\ H' D = none /\ s'.heap.get? D = some { cls := .type "list", data := .seq its.toArray k } :=
    fun {ρ H' s'} J => by
     have pD := J.pin (D, { cls := .type "list", data := .seq its.toArray k }) (List.mem_append_right _ (List.mem_append_left _ (List.mem_cons_self ..)))
     exact ⟨J.pins_of fun p hp => J.pin p (List.mem_append_right _ (List.mem_append_right _ hp)), pD.2.1, pD.1⟩
   cases ok with
   | false =>
    obtain ⟨J, n9, o9⟩ := noD I9
    have q9' : ∃ m', m' < n /\ W (i + 1) m' ys H9 := by simpa using q9
    show ∃ m, m < n /\ Wn m s9
    exact onward hw8.1 hw8.2 J n9 o9 rv5 z5 q9'
   | true =>
    have q9' : te ρ8 H9 fun v H6 => ys.length < sizeLine /\ ∃ m', m' < n /\ W (i + 1) m' (ys ++ [v]) H6 := by simpa using q9
    have se := he' _ s9 ρ8 H9 _ I9 q9'
    rw [ePr, ew, eA, exe] at se
    refine thn se fun uv s10 ⟨v, H10, I10, rv, hz, qm⟩ => ?_
    obtain ⟨J, n10, o10⟩ := noD I10
    have hlen := rv5.length
    refine call_meets PySem.F.slot_list_append ⟨_, o10, rfl⟩ PySem.F.entry_list_append (PySem.F.args_list_append_2 _ _) (PySem.list_append D its.toArray k uv (by rw [List.size_toArray]; lia)) ⟨o10, ?_⟩
    have oN := PySem.IsL.update o10 (·.push uv)
    rw [show its.toArray.push uv = (its ++ [uv]).toArray by simp] at oN
    have kN : ∀ b o, b ≠ D -> s10.heap.get? b = some o -> (s10.heap.update D (Obj.mapSeq (·.push uv))).get? b = some o := fun b o hb q => (Heap.get?_update_other _ _ (Ne.symm hb)).trans q
    have JN := J.turned (t' := s10.toks) (it := D) kN n10 nLD (.inl (by rw [<- eX]; exact List.mem_cons_self ..)) (fun x c q => by
     rw [<- eX] at q
     exact fD.2.2.2.2.1 x c (c1 x c q)) (fun p hp => by
     have hpn : X'.pn = [] := by rw [<- eX]; rfl
     rw [hpn] at hp
     exact Nat.ne_of_lt (ltf p.1 (jC (by simpa using hp)).1))
    refine onward hw8.1 hw8.2 JN n10 (its' := its ++ [uv]) oN (rv5.append (.cons rv .nil)) (by rw [List.length_append, List.length_singleton]; lia) qm
 have fin := loop _ start
 rw [show X'.env = compEnvC scope cl C X.env by rw [<- eX]; rfl] at fin
 exact codeAny_compStart_list fin (T.self X.A 0 _ _ _ (T.keep _ _ _ st2 (fun b _ o q => k34 b o (k23 b o q))) fin)
theorem rT (S : AG X own F N scope) (hcm : X.calm = true) (hi : PI X tg iter wi) (hg : ∀ cl C ex s H, PG (An X N scope cl C ex s H) tg g) (ht : ∀ cl C ex s H, PTs (An X N scope cl C ex s H) ifs tc)
  (he : ∀ cl C ex s H, PE (An X N scope cl C ex s H) elt te) (hgw : Stays own.length F g) (hs : ∀ x, foldedSetIterable iter X.env x = pure x := by intro _; rfl) : PE X (.ListComp elt [⟨tg, iter, ifs, 0⟩] scope pos) (Bz own.length F wi g tc te) := by
 intro pins s σ H Q I h
 rw [eval_ListComp]
 refine jK (use := none) (Fin := fun ys H2 => ∀ D, H2 D = none -> Q (.ref D) (upd H2 D (.lst ys))) S hcm hi hg ht he hgw hs I h fun D C ys H' s' q hD J B ⟨m, hn⟩ => ?_
 exact ⟨m, hn, fun h' hs' => ⟨.ref D, _, J.beside B hs', rfl, q D hD⟩⟩
theorem rV {i : Nat} {y : Str} {py spos : Pos} (S : AG X own F N scope) (hcm : X.calm = true) (hi : PI X tg iter wi) (hg : ∀ cl C ex s H, PG (An X N scope cl C ex s H) tg g) (ht : ∀ cl C ex s H, PTs (An X N scope cl C ex s H) ifs tc)
  (he : ∀ cl C ex s H, PE (An X N scope cl C ex s H) elt te) (hgw : Stays own.length F g) (hN : X.N.Nodup) (hy : X.N[i]? = some y) (hl : X.env.scope.names.lookup y = some .local)
  (hsw : swapsWith (.ListComp elt [⟨tg, iter, ifs, 0⟩] scope pos) (some (.Name y py)) spos.line X.env = pure true) (hs : ∀ x, foldedSetIterable iter X.env x = pure x := by intro _; rfl) :
  PS X (.Assign [.Name y py] (.ListComp elt [⟨tg, iter, ifs, 0⟩] scope pos) spos) (tAsg (Bz own.length F wi g tc te) (AC i)) := by
 intro pins s σ H D0 I h
 rw [exec_Assign_Name_used _ _ _ _ hsw]
 refine wpAny_bind (wpAny_standAt (wpAny_bind ?_))
 show wpAny _ X.A (do let _ <- comprehension (.ListComp elt [⟨tg, iter, ifs, 0⟩] scope pos) scope X.env _ (newList []) false (eval iter X.env) (some (assign (.Name y py) X.env))) _ _ s
 refine wpAny_bind (wpAny_mono (jK (use := some (assign (.Name y py) X.env)) (Qv := fun _ s' => SP X pins D0 .next s') (Fin := fun ys H2 => ∀ D, H2 D = none -> D0.nx (σ.set i (some (.ref D))) (upd H2 D (.lst ys))) S hcm hi hg ht he hgw hs I h fun D C ys H' s' q hD J B ⟨m, hn⟩ => ?_)
  (fun _ s' hq => wpAny_pure (wpAny_pure hq)) fun _ _ z => z)
 show wpAny _ X.A (assign (.Name y py) X.env (.ref D)) _ _ s'
 refine wpAny_assign_Name (jA J hN hy (.inl hl) (v := .ref D) rfl (fun s2 J2 ⟨a, sb, ha⟩ => ?_) (.inr hl))
 have hCa : C ≠ a := by
  rcases ha with z | z
  ·subst z; exact B.hL
  ·exact (B.h2 _ _ z).symm
 exact ⟨m, hn.sameBut sb hCa, fun h' hs' => ⟨_, _, J2.beside ⟨B.hn, B.hL, B.h1, B.h2, B.h3⟩ hs', q D hD⟩⟩
end
abbrev TuT (H : Hp) (a : Addr) (xs : List V) : Prop := H a = some (.tup xs)
noncomputable def keyD : Key -> PyData
 | .inl i => .int i
 | .inr x => .str x
mutual
inductive Dt (K : W.Frag) (H : Hp) : V -> PyData -> Prop
 | non : Dt K H .non .none
 | bl (b : Bool) : Dt K H (.bl b) (.bool b)
 | int (i : Int) : Dt K H (.int i) (.int i)
 | str (x : Str) : Dt K H (.str x) (.str x)
 | lst {a : Addr} {xs : List V} {ds : A4} : SqR K H a xs -> Dts K H xs ds -> Dt K H (.ref a) (.list ds)
 | tup {a : Addr} {xs : List V} {ds : A4} : TuT H a xs -> Dts K H xs ds -> Dt K H (.ref a) (.tuple ds)
 | dct {a : Addr} {kvs : List (Key × V)} {es : List (PyData × PyData)} : H a = some (.dK kvs) -> Des K H kvs es -> Dt K H (.ref a) (.dict es)
inductive Dts (K : W.Frag) (H : Hp) : List V -> A4 -> Prop
 | nil : Dts K H [] []
 | cons {x : V} {xs : List V} {d : PyData} {ds : A4} : Dt K H x d -> Dts K H xs ds -> Dts K H (x :: xs) (d :: ds)
inductive Des (K : W.Frag) (H : Hp) : List (Key × V) -> List (PyData × PyData) -> Prop
 | nil : Des K H [] []
 | cons {k : Key} {v : V} {kvs : List (Key × V)} {d : PyData} {es : List (PyData × PyData)} : Dt K H v d -> Des K H kvs es -> Des K H ((k, v) :: kvs) ((keyD k, d) :: es)
end
theorem Same.tup {K : W.Frag} {H H' : Hp} {a : Addr} {xs : List V} (e : Same H H') (h : TuT H a xs) : SqT K H' a xs := .of (e _ _ h)
theorem Same.rd {H H' : Hp} {a : Addr} {u : HO} (e : Same H H') (h : Rd H a u) : Rd H' a u := by
 rcases h with h | ⟨o, h⟩
 ·exact .inl (e _ _ h)
 ·exact .inr ⟨o, e _ _ h⟩
theorem Same.sqr {K : W.Frag} {H H' : Hp} {a : Addr} {xs : List V} (e : Same H H') (h : SqR K H a xs) : SqR K H' a xs := by
 rcases h with h | h
 ·exact .inl (e.rd h)
 ·exact .inr h
theorem SqR.sq {K : W.Frag} {H : Hp} {a : Addr} {xs : List V} (h : SqR K H a xs) : SqL K H a xs := by
 rcases h with h | ⟨its, n, h1, h2, h3⟩
 ·exact .inl h
 ·exact .inr ⟨_, its, n, h1, rfl, rfl, rfl, h2, h3⟩
theorem SqR.of {K : W.Frag} {H : Hp} {a : Addr} {xs : List V} (h : H a = some (.lst xs)) : SqR K H a xs := .inl (.inl h)
section
variable {K : W.Frag} {H H' : Hp}
mutual
theorem Dt.mono (e : Same H H') : ∀ {v : V} {d : PyData}, Dt K H v d -> Dt K H' v d
 | _, _, .non => .non
 | _, _, .bl b => .bl b
 | _, _, .int i => .int i
 | _, _, .str x => .str x
 | _, _, .lst q r => .lst (e.sqr q) (Dts.mono e r)
 | _, _, .tup q r => .tup (e _ _ q) (Dts.mono e r)
 | _, _, .dct q r => .dct (e _ _ q) (Des.mono e r)
theorem Dts.mono (e : Same H H') : ∀ {vs : List V} {ds : A4}, Dts K H vs ds -> Dts K H' vs ds
 | _, _, .nil => .nil
 | _, _, .cons x r => .cons (Dt.mono e x) (Dts.mono e r)
theorem Des.mono (e : Same H H') : ∀ {vs : List (Key × V)} {ds : List (PyData × PyData)}, Des K H vs ds -> Des K H' vs ds
 | _, _, .nil => .nil
 | _, _, .cons x r => .cons (Dt.mono e x) (Des.mono e r)
end
theorem Dts.len : ∀ {vs : List V} {ds : A4}, Dts K H vs ds -> vs.length = ds.length
 | _, _, .nil => rfl
 | _, _, .cons _ r => by rw [List.length_cons, List.length_cons, Dts.len r]
theorem Dts.append : ∀ {vs ws : List V} {ds es : A4}, Dts K H vs ds -> Dts K H ws es -> Dts K H (vs ++ ws) (ds ++ es)
 | _, _, _, _, .nil, s => s
 | _, _, _, _, .cons x r, s => .cons x (Dts.append r s)
theorem Dts.get' : ∀ {vs : List V} {ds : A4} {i : Nat} {d : PyData}, Dts K H vs ds -> ds[i]? = some d -> ∃ v, vs[i]? = some v /\ Dt K H v d
 | _, _, _, _, .nil, e => by simp at e
 | _, _, 0, _, .cons x _, e => by simp at e; subst e; exact ⟨_, rfl, x⟩
 | _, _, i + 1, d, .cons _ r, e => by
  obtain ⟨v, h1, h2⟩ := Dts.get' (i := i) (d := d) r (by simpa using e)
  exact ⟨v, by simpa using h1, h2⟩
theorem Dts.take : ∀ {vs : List V} {ds : A4} (n : Nat), Dts K H vs ds -> Dts K H (vs.take n) (ds.take n)
 | _, _, 0, _ => .nil
 | _, _, _ + 1, .nil => .nil
 | _, _, n + 1, .cons x r => .cons x (Dts.take n r)
theorem Dts.drop : ∀ {vs : List V} {ds : A4} (n : Nat), Dts K H vs ds -> Dts K H (vs.drop n) (ds.drop n)
 | _, _, 0, h => h
 | _, _, _ + 1, .nil => .nil
 | _, _, n + 1, .cons _ r => Dts.drop n r
theorem Dts.ints : ∀ (ns : List Int), Dts K H (ns.map V.int) (ns.map PyData.int)
 | [] => .nil
 | n :: r => .cons (.int n) (Dts.ints r)
theorem Dts.rep {v : V} {d : PyData} (h : Dt K H v d) : ∀ n, Dts K H (List.replicate n v) (List.replicate n d)
 | 0 => .nil
 | n + 1 => by rw [List.replicate_succ, List.replicate_succ]; exact .cons h (Dts.rep h n)
theorem Dts.reps {vs : List V} {ds : A4} (h : Dts K H vs ds) : ∀ n, Dts K H (List.replicate n vs).flatten (List.replicate n ds).flatten
 | 0 => .nil
 | n + 1 => by rw [List.replicate_succ, List.replicate_succ, List.flatten_cons, List.flatten_cons]; exact h.append (Dts.reps h n)
end
section
variable {X : Cx} {pins : A6} {σ : St} {H : Hp} {s : Shared}
mutual
theorem Dt.reads (I : Inv X pins σ H s) : ∀ {v : V} {d : PyData} {u : Value}, Dt X.K H v d -> d.canLay0 = true -> RelV v u -> ∃ as, Reads s.heap u d as
 | _, _, u, .non, _, r => by cases (show u = Value.none from r); exact ⟨_, Reads.none⟩
 | _, _, u, .bl b, _, r => by cases (show u = Value.bool b from r); exact ⟨_, Reads.bool b⟩
 | _, _, u, .int i, _, r => by obtain ⟨t, e⟩ := (show ∃ t, u = Value.int i t from r); cases e; exact ⟨_, Reads.int i t⟩
 | _, _, u, .str x, _, r => by obtain ⟨t, e⟩ := (show ∃ t, u = Value.str x t from r); cases e; exact ⟨_, Reads.str x t⟩
 | _, _, u, .lst (a := a) q z, c, r => by
  cases (show u = Value.ref a from r)
  obtain ⟨its, rv, ⟨o, n, h1, h2, _, h4⟩, _⟩ := I.list (SqR.sq q)
  obtain ⟨as, ra⟩ := Dts.reads I z (show PyData.canLayAll0 _ = true from c) rv
  exact ⟨_, reads_list_at h1 h2 h4 (by simpa using ra)⟩
 | _, _, u, .tup (a := a) q z, c, r => by
  cases (show u = Value.ref a from r)
  obtain ⟨its, rv, ⟨o, h1, h2, n, h4⟩, _⟩ := I.tuple (.of q)
  obtain ⟨as, ra⟩ := Dts.reads I z (show PyData.canLayAll0 _ = true from c) rv
  exact ⟨_, reads_tuple_at h1 h2 h4 (by simpa using ra)⟩
 | _, _, u, .dct q z, c, r => by exact absurd c (by simp [PyData.canLay0])
theorem Dts.reads (I : Inv X pins σ H s) : ∀ {vs : List V} {ds : A4} {us : List Value}, Dts X.K H vs ds -> PyData.canLayAll0 ds = true -> Vals vs us -> ∃ as, ReadsAll s.heap us ds as
 | _, _, _, .nil, _, .nil => ⟨_, ReadsAll.nil⟩
 | _, _, _, .cons x z, c, .cons r rs => by
  have c' := Bool.and_eq_true_iff.mp (show (PyData.canLay0 _ && PyData.canLayAll0 _) = true from c)
  obtain ⟨as, h1⟩ := Dt.reads I x c'.1 r
  obtain ⟨bs, h2⟩ := Dts.reads I z c'.2 rs
  exact ⟨_, ReadsAll.cons h1 h2⟩
end
end
theorem iU {α β : Type} {F : α -> β -> Prop} : ∀ {xs : List α} {ys : List β} {i : Nat} {x : α}, Paired F xs ys -> xs[i]? = some x -> ∃ y, ys[i]? = some y /\ F x y
 | _, _, _, _, .nil, e => by simp at e
 | _, _, 0, _, .cons r _, e => by simp at e; subst e; exact ⟨_, rfl, r⟩
 | _, _, i + 1, x, .cons _ t, e => by
  obtain ⟨u, h1, h2⟩ := iU (i := i) (x := x) t (by simpa using e)
  exact ⟨u, by simpa using h1, h2⟩
theorem ip : ∀ {xs : List V} {us : List Value}, xs.length = us.length -> (∀ (j : Nat) x u, xs[j]? = some x -> us[j]? = some u -> RelV x u) -> Vals xs us
 | [], [], _, _ => .nil
 | [], _ :: _, h, _ => by simp at h
 | _ :: _, [], h, _ => by simp at h
 | x :: xs, u :: us, h, k => .cons (k 0 x u rfl rfl) (ip (by simpa using h) fun j y v e1 e2 => k (j + 1) y v (by simpa using e1) (by simpa using e2))
section
variable {X : Cx}
noncomputable def rEqD (K : W.Frag) (neg : Bool) : R2 := fun x y H Q => ∃ d e, Dt K H x d /\ Dt K H y e /\ SeqAt.shaped d = true /\ SeqAt.shaped e = true /\ Q (.bl (if neg then !PyData.eqv d e else PyData.eqv d e)) H
theorem uP (hu : X.A.units + 64 < cLine) : OpR X (compareOp .Eq) (rEqD X.K false) := by
 intro pins s σ H x y v u Q I rx ry h
 obtain ⟨d, e, hd, he, sd, se, q⟩ := h
 obtain ⟨as, ra⟩ := hd.reads I (SeqAt.canLay_of_shaped sd) rx
 obtain ⟨bs, rb⟩ := he.reads I (SeqAt.canLay_of_shaped se) ry
 exact eq_dataH ra rb sd se hu ⟨.bl (PyData.eqv d e), H, I, rfl, q⟩
theorem uQ (hu : X.A.units + 64 < cLine) : OpR X (compareOp .NotEq) (rEqD X.K true) := by
 intro pins s σ H x y v u Q I rx ry h
 obtain ⟨d, e, hd, he, sd, se, q⟩ := h
 obtain ⟨as, ra⟩ := hd.reads I (SeqAt.canLay_of_shaped sd) rx
 obtain ⟨bs, rb⟩ := he.reads I (SeqAt.canLay_of_shaped se) ry
 exact ne_dataH ra rb sd se hu ⟨.bl (!PyData.eqv d e), H, I, rfl, q⟩
theorem kq : AD X (.builtin "sorted") (fun xs H Q => ∃ a ns, xs = [.ref a] /\ SqL X.K H a (ns.map V.int) /\ ns.length < 64 /\ ∀ (ns' : List Int) p, ns'.Perm ns -> ns'.Pairwise (· <= ·) -> H p = none -> Q (.ref p) (upd H p (.lst (ns'.map V.int)))) := by
 intro pins s σ H xs us Q I r h
 obtain ⟨a, ns, rfl, hq, h64, q⟩ := h
 obtain ⟨u, rfl, r1⟩ := vals1 r
 cases r1
 obtain ⟨its, rv, pl, hz⟩ := I.list hq
 have hI := mD rv
 have hl : its.length < 64 := by rw [<- rv.length, List.length_map]; exact h64
 refine sorted_ints pl.isList hI hl fun out ns' a1 a2 a3 => ?_
 obtain ⟨e, he⟩ := sortedAll_at s.heap its out
 refine ⟨.ref (s.heap.objs.size + 1), _, I.laid (t' := s.toks) (fun _ _ => sortedAll_old) (Nat.le_succ _) ?_, rfl, q ns' _ a2 a3 (I.hok.fresh (Nat.le_succ _))⟩
 refine ⟨?_, out.toList, e, hR a1, he⟩
 rw [List.length_map, a2.length_eq]
 exact Nat.le_trans (Nat.le_of_lt h64) (by decide)
end
end L2
namespace L2
open PySem PySem.Spec PyProof.Rows
theorem Ao.obj {P : Program} {w : World} {H : Hp} {h : Heap} {a : Addr} {o : HO} (x : Ao P w H h a o) : ∃ ob, h.get? a = some ob := by
 cases o with
 | lst xs => obtain ⟨_, _, _, _, e⟩ := x; exact ⟨_, e⟩
 | tup xs => obtain ⟨_, _, _, o, e, _⟩ := x; exact ⟨_, e⟩
 | dK kvs => obtain ⟨_, _, _, _, o, _, _, e, _⟩ := x; exact ⟨_, e⟩
 | dT kvs => obtain ⟨_, _, _, _, o, _, _, e, _⟩ := x; exact ⟨_, e⟩
 | set S n => obtain ⟨o, _, _, _, e, _⟩ := x; exact ⟨_, e⟩
 | ins C dx fs => obtain ⟨_, _, _, e, _⟩ := x; exact ⟨_, e⟩
 | own y => exact x
 | xd fs => obtain ⟨_, ⟨_, _, _, e, _⟩, _⟩ := x; exact ⟨_, e⟩
 | rng lo hi => obtain ⟨_, _, _, e⟩ := x; exact ⟨_, e⟩
 | frz ob u => obtain ⟨e, _⟩ := x; exact ⟨_, e⟩
 | tbl ps => exact ⟨_, x⟩
 | met f y => exact ⟨_, x⟩
 | ext φ => obtain ⟨_, e, _⟩ := x; exact e
structure Flew (P : Program) (w : World) (outer : List Env) (H : Hp) (s : Shared) (H' : Hp) (ea : Addr) (C : Value) (s' : Shared) : Prop where
 os : s'.os = s.os
 bare : AllBare s'.gens
 un : Un (frs outer) [] H H' s.heap s'.heap
 hok : HOk P w H' s'.heap
 frf : ∀ b ∈ frs outer, H' b = none
 fly : ∃ B t, Heap.FlyingW B outer ea C (.ref t) s'.heap /\ ∀ b o, s'.heap.get? b = some o -> b ∉ frs outer -> ((∃ o', s.heap.get? b = some o') \/ H' b ≠ none) -> B.get? b = some o
noncomputable def CXe (P : Program) (w : World) : CXT := fun outer H s E e s' => ∃ ea C H', e = .ref ea /\ Flew P w outer H s H' ea C s' /\ E C none H'
theorem HOk.stays {P : Program} {w : World} {H : Hp} {h1 h2 : Heap} (x : HOk P w H h1) (hk : ∀ b o u, H b = some u -> h1.get? b = some o -> h2.get? b = some o) : HOk P w H h2 := fun a o e => by
 refine (x a o e).stay (fun c q hc e' => ?_) (fun _ q => q) fun _ _ q => q
 rcases hc with z | z
 ·subst z; exact hk _ _ _ e e'
 ·exact hk _ _ _ z e'
section
variable {P : Program} {w : World} {outer : List Env} {H H' : Hp} {s s' : Shared} {ea : Addr} {C : Value}
theorem Flew.step (F : Flew P w outer H s H' ea C s') {B h2 : Heap} (kB : ∀ b o, s'.heap.get? b = some o -> b ∉ frs outer -> ((∃ o', s.heap.get? b = some o') \/ H' b ≠ none) -> B.get? b = some o)
  (fr : s'.heap.FunFrames B outer) (st : B.StaysIn h2) (up : s'.heap.UpToSlots h2) : Un (frs outer) [] H H' s.heap h2 /\ HOk P w H' h2 := by
 have sl : ∀ b o, b ∈ frs outer -> s'.heap.get? b = some o -> ∃ l, h2.get? b = some { o with slots := l } := fun b o hb e => by
  obtain ⟨_, o', e', nf⟩ := fr.mem hb
  rw [e] at e'
  cases e'
  exact up b o e nf
 refine ⟨⟨fun b o e n hb hx => ?_, fun b o e n hb hx => ?_, F.un.free, fun b o e hx => ?_, F.un.tups, F.un.frzs, F.un.tbls⟩, F.hok.stays fun b o u e e' => ?_⟩
 ·exact st b o (kB b o (F.un.keep b o e n hb hx) hb (.inl ⟨_, e⟩))
 ·obtain ⟨l, q⟩ := F.un.slot b o e n hb hx
  obtain ⟨l', q'⟩ := sl b _ hb q
  exact ⟨l', q'⟩
 ·obtain ⟨o', q⟩ := F.un.there b o e hx
  by_cases hb : b ∈ frs outer
  ·obtain ⟨l, q'⟩ := sl b _ hb q
   exact ⟨_, q'⟩
  ·exact ⟨o', st b o' (kB b o' q hb (.inl ⟨_, e⟩))⟩
 ·refine st b o (kB b o e' (fun z => ?_) (.inr (by rw [e]; simp)))
  rw [F.frf b z] at e
  cases e
theorem Flew.new (F : Flew P w outer H s H' ea C s') : s.heap.get? ea = none /\ H' ea = none := by
 obtain ⟨B, t, fl, kB⟩ := F.fly
 obtain ⟨ob, ho, _⟩ := fl.there
 have nfr : ea ∉ frs outer := fun z => by
  obtain ⟨_, _, fr, oe, vs, T, oT, ts, a1, _, a3, _⟩ := fl
  obtain ⟨_, o', e', nf⟩ := fr.mem z
  rw [a1] at e'
  cases e'
  exact nf _ a3
 constructor
 ·cases e : s.heap.get? ea with
  | none => rfl
  | some o' =>
   have := kB ea ob ho nfr (.inl ⟨_, e⟩)
   rw [fl.2.1] at this
   cases this
 ·cases e : H' ea with
  | none => rfl
  | some u =>
   have := kB ea ob ho nfr (.inr (by rw [e]; simp))
   rw [fl.2.1] at this
   cases this
end
noncomputable def Wish (X : Cx) (E : XK) : Prop := ∀ (pins : A6) (σ : St) (H : Hp) (s : Shared) (ea : Addr) (C : Value) (vs : List Value) (h' : Heap), Inv X pins σ H s -> Heap.MadeExcOf s.heap h' ea C vs -> E C none H -> X.xe (.ref ea) { s with heap := h' }
section
variable {P : Program} {w : World} {K : W.Frag} {mg : A5} {base : Heap} {N : List Str} {qual : Str} {scope : Scope} {f : Addr} {cd : Value} {A : Around} {outer : List Env} {s0 : Shared} {H0 : Hp} {E : XK}
abbrev cxE (P : Program) (w : World) (K : W.Frag) (mg : A5) (base : Heap) (N : List Str) (qual : Str) (scope : Scope) (f : Addr) (cd : Value) (A : Around) (outer : List Env) (s0 : Shared) (H0 : Hp) (E : XK) : Cx :=
 cxOf (CXe P w) P w K mg base N qual scope f cd A outer s0 H0 E
theorem lr {en : Env} {L : Addr} (h : en.frame = some L) {b : Addr} : b ∈ frs (en :: outer) ↔ b = L \/ b ∈ frs outer := by
 unfold frs
 rw [List.filterMap_cons, h]
 exact List.mem_cons
theorem bK : Wish (cxE P w K mg base N qual scope f cd A outer s0 H0 E) E := by
 intro pins σ H s ea C vs h' I hx q
 have hfr : (A.deeper (envOfC qual scope s0.heap.objs.size f cd)).frames = some (envOfC qual scope s0.heap.objs.size f cd :: outer) := I.ok.frames
 have fun0 : s.heap.FunFrames base (envOfC qual scope s0.heap.objs.size f cd :: outer) := I.stack
 have sfr : ∀ b ∈ frs (envOfC qual scope s0.heap.objs.size f cd :: outer), H b = none := I.stkFree
 have un0 : Un (frs outer) [] H0 H s0.heap s.heap := I.base
 have hok : HOk P w H s.heap := I.hok
 have eos : s.os = s0.os := I.os
 have fc : ∀ {b : Addr}, b ∈ frs (envOfC qual scope s0.heap.objs.size f cd :: outer) ↔ b = s0.heap.objs.size \/ b ∈ frs outer := fun {b} => lr rfl
 have hin : ∀ env ∈ (envOfC qual scope s0.heap.objs.size f cd :: outer), ∀ b, env.frame = some b -> b ∈ frs (envOfC qual scope s0.heap.objs.size f cd :: outer) := fun env he b hb => List.mem_filterMap.mpr ⟨env, he, hb⟩
 show wpAny (model P w) (A.deeper (envOfC qual scope s0.heap.objs.size f cd)) (leaving (envOfC qual scope s0.heap.objs.size f cd) (.ref ea)) _ _ { s with heap := h' }
 refine wpAny_leaves_madeW (base := W.hideAll s.heap (frs (envOfC qual scope s0.heap.objs.size f cd :: outer))) (h := s.heap) hfr rfl (fun b o e => W.of_hideAll _ e) (W.funFrames_hide fun0 hin) hx fun h2 t fl _ _ up => ?_
 have keep2 : ∀ b o, s.heap.get? b = some o -> b ∉ frs (envOfC qual scope s0.heap.objs.size f cd :: outer) -> h2.get? b = some o := fun b o e hb => fl.1 b o (W.hideAll_get _ e hb)
 have slot2 : ∀ b o, b ∈ frs outer -> s.heap.get? b = some o -> ∃ l, h2.get? b = some { o with slots := l } := fun b o hb e => by
  obtain ⟨_, o', e', nf⟩ := fun0.mem (fc.mpr (.inr hb))
  rw [e] at e'
  cases e'
  exact up b o (hx.keeps b o e) nf
 have out0 : ∀ b o, s0.heap.get? b = some o -> b ∉ frs outer -> b ∉ frs (envOfC qual scope s0.heap.objs.size f cd :: outer) := fun b o e hb z => by
  rcases fc.mp z with y | y
  ·exact absurd (Heap.lt_size e) (by rw [y]; exact Nat.lt_irrefl _)
  ·exact hb y
 have outT : ∀ b u, H b = some u -> b ∉ frs (envOfC qual scope s0.heap.objs.size f cd :: outer) := fun b u e z => by
  rw [sfr b z] at e
  cases e
 refine ⟨ea, C, H, rfl, ⟨eos, I.bare, ⟨fun b o e n hb hx' => ?_, fun b o e n hb hx' => ?_, un0.free, fun b o e hx' => ?_, un0.tups, un0.frzs, un0.tbls⟩, hok.stays fun b o u e e' => keep2 b o e' (outT b u e), fun b hb => sfr b (fc.mpr (.inr hb)), ?_⟩, q⟩
 ·exact keep2 b o (un0.keep b o e n hb hx') (out0 b o e hb)
 ·obtain ⟨l, z⟩ := un0.slot b o e n hb hx'
  obtain ⟨l', z'⟩ := slot2 b _ hb z
  exact ⟨l', z'⟩
 ·obtain ⟨o', z⟩ := un0.there b o e hx'
  by_cases hb : b ∈ frs outer
  ·obtain ⟨l, z'⟩ := slot2 b _ hb z
   exact ⟨_, z'⟩
  ·exact ⟨o', keep2 b o' z (out0 b o e hb)⟩
 ·refine ⟨_, t, fl, fun b o e hb hc => ?_⟩
  have old : ∀ o', s.heap.get? b = some o' -> b ∉ frs (envOfC qual scope s0.heap.objs.size f cd :: outer) -> (W.hideAll s.heap (frs (envOfC qual scope s0.heap.objs.size f cd :: outer))).get? b = some o := fun o' e' hb' => by
   have e2 := keep2 b o' e' hb'
   have e3 : some o = some o' := e.symm.trans e2
   rw [Option.some.inj e3]
   exact W.hideAll_get _ e' hb'
  rcases hc with ⟨o0, e0⟩ | z
  ·obtain ⟨o', z⟩ := un0.there b o0 e0 (by simp)
   exact old o' z (out0 b o0 e0 hb)
  ·cases e1 : H b with
   | none => exact absurd e1 z
   | some u =>
    obtain ⟨o', z'⟩ := (hok b u e1).obj
    exact old o' z' (outT b u e1)
theorem Ad : Passes (CXe P w) (cxE P w K mg base N qual scope f cd A outer s0 H0 E) E := by
 intro pins σ H s e s' I h
 obtain ⟨ea, C, H', rfl, F, q⟩ := h
 have F : Flew P w (envOfC qual scope s0.heap.objs.size f cd :: outer) H s H' ea C s' := F
 have hfr : (A.deeper (envOfC qual scope s0.heap.objs.size f cd)).frames = some (envOfC qual scope s0.heap.objs.size f cd :: outer) := I.ok.frames
 have un0 : Un (frs outer) [] H0 H s0.heap s.heap := I.base
 have eos : s.os = s0.os := I.os
 have fc : ∀ {b : Addr}, b ∈ frs (envOfC qual scope s0.heap.objs.size f cd :: outer) ↔ b = s0.heap.objs.size \/ b ∈ frs outer := fun {b} => lr rfl
 obtain ⟨B, t, fl, kB⟩ := F.fly
 show wpAny (model P w) (A.deeper (envOfC qual scope s0.heap.objs.size f cd)) (leaving (envOfC qual scope s0.heap.objs.size f cd) (.ref ea)) _ _ s'
 refine wpAny_leaves_onW hfr rfl fl fun h2 fl2 up => ?_
 obtain ⟨u2, ok2⟩ := F.step kB fl.2.2.1 fl2.1 up
 have out0 : ∀ b o, s0.heap.get? b = some o -> b ∉ frs outer -> b ∉ frs (envOfC qual scope s0.heap.objs.size f cd :: outer) := fun b o e hb z => by
  rcases fc.mp z with y | y
  ·exact absurd (Heap.lt_size e) (by rw [y]; exact Nat.lt_irrefl _)
  ·exact hb y
 have un1 : Un (frs (envOfC qual scope s0.heap.objs.size f cd :: outer)) [] H0 H s0.heap s.heap := un0.mono (fun b hb => fc.mpr (.inr hb)) fun b hb => hb
 have un2 := un1.trans u2
 refine ⟨ea, C, H', rfl, ⟨F.os.trans eos, F.bare, ⟨fun b o e n hb hx' => un2.keep b o e n (out0 b o e hb) hx', fun b o e n hb hx' => un2.slot b o e n (fc.mpr (.inr hb)) hx', un2.free, un2.there, un2.tups, un2.frzs, un2.tbls⟩, ok2, fun b hb => F.frf b (fc.mpr (.inr hb)), B, t, fl2, fun b o e hb hc => ?_⟩, q⟩
 have inB : ∀ o', s'.heap.get? b = some o' -> b ∉ frs (envOfC qual scope s0.heap.objs.size f cd :: outer) -> ((∃ o1, s.heap.get? b = some o1) \/ H' b ≠ none) -> B.get? b = some o := fun o' e' hb' hc' => by
  have e2 := kB b o' e' hb' hc'
  have e3 : some o = some o' := e.symm.trans (fl2.1 b o' e2)
  rw [Option.some.inj e3]
  exact e2
 rcases hc with ⟨o0, e0⟩ | z
 ·obtain ⟨o1, e1⟩ := un0.there b o0 e0 (by simp)
  obtain ⟨o2, e2⟩ := F.un.there b o1 e1 (by simp)
  exact inB o2 e2 (out0 b o0 e0 hb) (.inl ⟨_, e1⟩)
 ·cases e1 : H' b with
  | none => exact absurd e1 z
  | some u =>
   obtain ⟨o', z'⟩ := (F.hok b u e1).obj
   refine inB o' z' (fun y => ?_) (.inr z)
   rw [F.frf b y] at e1
   cases e1
end
section
variable {P : Program} {w : World} {K : W.Frag} {mg : A5} {base : Heap}
theorem Fun.okE {x qual : Str} {st : Stmt} {f : Addr} {fd : FuncData} {N ps : List Str} {k : Nat} {sp : Sp} (F : Fun K x qual st f fd) (S : Ae N ps (defScope st)) (len : ∀ vs H Q E, sp vs H Q E -> vs.length = ps.length)
  (hbody : ∀ (cdv : Value) (A : Around) (outer : List Env) (s : Shared) (H : Hp) (vs : List V) (Q : VK) (E : XK), Room k (A.deeper (envOfC qual (defScope st) s.heap.objs.size f cdv)) -> sp vs H Q E ->
   ∃ t, PSs (cxE P w K mg base N qual (defScope st) f cdv A outer s H E) (defBody st) t /\ t { nx := fun _ H' => Q .non H', rt := Q } (start N vs) H) : FnOk P w K mg base (CXe P w) (k + 1) f fd ps sp := by
 obtain ⟨oc, od, kV, doc, pm, an, cdv, ct, osl, rfl, lk, hcd⟩ := F.ex
 exact xf lk hcd S len fun A outer s H vs Q E hr hsp => hbody cdv A outer s H vs Q E hr hsp
end
theorem oK {K : W.Frag} {h : Heap} {C : Addr} {bmB : List Value} {newId : String} (X : K.In h) (q : PySem.W.excIn K C bmB newId = true) :
  ∃ bm N nm qn bs hdct sn sub ab col dd k0 k1 k2 k3 k5 mN, h.get? C = some (excClassObj nm qn C N bs bm hdct sn sub ab col dd k0 k1 k2 k3 k5 newId) /\ h.Ns N mN /\ mN "__init__" = none /\ OwnTail h bmB bm := by
 unfold PySem.W.excIn at q
 split at q
 next dd cd sl ho =>
  split at q
  next C' bm k0 k1 k2 k3 n k5 hm hs =>
   simp only [Bool.and_eq_true, beq_iff_eq, Bool.not_eq_true'] at q
   obtain ⟨⟨⟨⟨⟨e1, e2⟩, hdel⟩, ht⟩, hok⟩, hni⟩ := q
   subst e1 e2
   obtain ⟨nm, bs, mro, ns, qn, hd, sn, sub, ab, col, del⟩ := cd
   simp only at hm hdel hok hni
   subst hm hdel
   obtain ⟨l⟩ := sl
   simp only at hs
   subst hs
   exact ⟨bm, ns, nm, qn, bs, hd, sn, sub, ab, col, dd, k0, k1, k2, k3, k5, _, X _ _ ho, .of_isNs (W.isNs_of_in X hok), W.nsMap_none_of_in X hok hni, W.tail_of_in X ht⟩
  next => cases q
 next => cases q
section
variable {X : Cx} {x : Str} {C : Addr} {B newId initId : String} {bmB : List Value} {E : XK} {t : TA} {e : Expr} {es : List Expr} {np cpos pos : Pos}
noncomputable def Cs (C : Addr) (E : XK) (t : TA) : TS := fun _ σ H => t σ H fun vs H1 => vs.length <= sizeLine /\ E (.ref C) none H1
theorem qf (W : Wish X E) (hc : X.calm = true) (FB : ExcBaseFacts B newId initId bmB) (hg : Gl X x) (hm : X.mg x = some (.ref C)) (hx : PySem.W.excIn X.K C bmB newId = true) (ha : PA X (e :: es) t)
  (hd : (x == ("__debug__" : Str)) = false := by decide) (hst : starEach (e :: es) X.env = (false, eval e X.env) :: starEach es X.env := by rfl) (hpl : (backTo cpos (starEach es X.env)).any (·.1) = false := by rfl) :
  PS X (.Raise (some (.Call (.Name x np) (e :: es) [] cpos)) none pos) (Cs C E t) := by
 intro pins s σ H D I h
 obtain ⟨bm, N, nm, qn, bs, hdct, sn, sub, ab, col, dd, k0, k1, k2, k3, k5, mN, hC, hN, hni, T⟩ := oK I.mod.kin hx
 refine wpAny_Raise_call_subT (C := C) (nm := nm) (q := qn) (N := N) (bs := bs) (bm := bm) (hdct := hdct) (sn := sn) (sub := sub) (ab := ab) (col := col) (dd := dd) (k0 := k0) (k1 := k1) (k2 := k2) (k3 := k3) (k5 := k5)
  FB (mN := mN) (T.hasType FB.hasBase) (I.ok.hd hc) ?_ hni (dq I hg hm ⟨rfl, ?_⟩ hd)
 ·rw [hst]
  show (false || (backTo cpos (starEach es X.env)).any (·.1)) = false
  rw [hpl]
  rfl
 ·have sp := ha cpos pins s σ H _ I h
  rw [hst] at sp ⊢
  refine Calls.evalArgs_plain (wpAny_mono sp (fun us s2 ⟨vs, H2, I2, rv, hz, q⟩ => ?_) fun _ _ z => z)
  have kp := I2.bk
  exact ⟨rfl, by rw [<- rv.length]; exact hz, kp _ _ hC, hN.keeps kp, T.keeps kp, fun h' ea mk => W pins σ H2 s2 ea (.ref C) us h' I2 mk q⟩
end
noncomputable def AX (X : Cx) (ea : Addr) : Cx := { X with A := X.A.mark (some (.ref ea)), calm := false, xe := fun _ _ => False }
theorem Inv.hand {X : Cx} {pins : A6} {σ : St} {H : Hp} {s : Shared} (I : Inv X pins σ H s) (ea : Addr) : Inv (AX X ea) pins σ H s :=
 ⟨⟨I.ok.mod, I.ok.kind, I.ok.glob, I.ok.blt, I.ok.above, I.ok.inj, I.ok.has, I.ok.cab, (fun z => nomatch z), I.ok.frames, I.ok.stk, I.ok.exf, I.ok.bs, I.ok.bsz, I.ok.noex, I.ok.exfs, I.ok.funs, I.ok.frf⟩,
  I.os, I.bare, I.base, I.loc, I.cell, I.free, I.freeC, I.pin, I.hok, I.len⟩
theorem Inv.unhand {X : Cx} {pins : A6} {σ : St} {H : Hp} {s s0 : Shared} {σ0 : St} {H0 : Hp} {pins0 : A6} (J : Inv X pins0 σ0 H0 s0) {ea : Addr} (I : Inv (AX X ea) pins σ H s) : Inv X pins σ H s :=
 ⟨J.ok, I.os, I.bare, I.base, I.loc, I.cell, I.free, I.freeC, I.pin, I.hok, I.len⟩
noncomputable def excO (ea : Addr) (C : Value) : HO := .ext fun h => ∃ o, h.get? ea = some o /\ o.cls = C
theorem Inv.track {X : Cx} {pins : A6} {σ σ1 : St} {H H1 : Hp} {s s1 : Shared} {a : Addr} {o : HO} (I : Inv X pins σ H s) (I1 : Inv X pins σ1 H1 s1) (ha : s1.heap.get? a = none) (hn : H a = none)
  (new : Ao X.prog X.w (upd H a o) s.heap a o) : Inv X pins σ (upd H a o) s := by
 have ne : ∀ {b : Addr} {ob : Obj}, s1.heap.get? b = some ob -> b ≠ a := fun {b ob} e z => by
  subst z
  rw [ha] at e
  cases e
 refine ⟨I.ok, I.os, I.bare, ⟨I.base.keep, I.base.slot, fun b ob e n x => ?_, I.base.there, fun b xs e => ?_, fun b ob u e => ?_, fun b ps e => ?_⟩, I.loc, I.cell, ?_, fun x c e => ?_, fun p hp => ?_, I.hok.track hn new, I.len⟩
 ·obtain ⟨o1, e1⟩ := I1.base.there b ob e x
  rw [av (ne e1)]
  exact I.base.free b ob e n x
 ·have q := I.base.tups b xs e
  rw [av (aD q hn)]
  exact q
 ·have q := I.base.frzs b ob u e
  rw [av (aD q hn)]
  exact q
 ·obtain ⟨m, q⟩ := I.base.tbls b ps e
  exact ⟨m, by rw [av (aD q hn)]; exact q⟩
 ·obtain ⟨m, ⟨ob, _, _, e, _⟩, _⟩ := I1.loc
  rw [av (ne e)]
  exact I.free
 ·obtain ⟨v, ob, e1, _⟩ := I1.cell x c e
  rw [av (ne e1)]
  exact I.freeC x c e
 ·obtain ⟨e1, e2, e3, e4, e5⟩ := I.pin p hp
  exact ⟨e1, by rw [av (ne (I1.pin p hp).1)]; exact e2, e3, e4, e5⟩
noncomputable def BH (X : Cx) (body : List Stmt) (t : XK -> TS) : Prop :=
 ∀ (E : XK) (pins : A6) (s : Shared) (σ : St) (H : Hp) (D : Ends), Inv X pins σ H s -> t E D σ H ->
  wpAny (model X.prog X.w) X.A (execs body X.env) (SP X pins D) (fun e s' => ∃ H1 s1, Inv X pins σ H1 s1 /\ CXe X.prog X.w X.stack H1 s1 E e s') s
section
variable {X : Cx} {k : Nat} {f : Addr} {fd : FuncData} {ps : List Str} {sp : Sp} {dvs : List V} {ds : List Value} {x : Str} {p pos pos' : Pos} {e : Expr} {es : List Expr} {t : TA}
theorem rW {E : XK} {Q : VK} {pins : A6} {s : Shared} {σ : St} {H : Hp} (F : FnOk X.prog X.w X.K X.mg X.base (CXe X.prog X.w) k f fd ps sp) (hr : Room k X.A) (hg : Gl X x) (hm : X.mg x = some (.ref f)) (hk : W.keepIn X.K (.ref f) = true)
  (hb : Binds X.K fd ps ds) (hd : Vals dvs ds) (ha : PA X.nox (e :: es) t) (I : Inv X pins σ H s) (h : t σ H fun vs H1 => sp (vs ++ dvs) H1 Q E)
  (hdb : (x == ("__debug__" : Str)) = false := by decide) (he : starEach (e :: es) X.env = (false, eval e X.env) :: starEach es X.env := by rfl) (hpl : (backTo pos (starEach es X.env)).any (·.1) = false := by rfl) :
  wpAny (model X.prog X.w) X.A (eval (.Call (.Name x p) (e :: es) [] pos) X.env) (EP X pins σ Q) (fun e s' => ∃ H1 s1, Inv X pins σ H1 s1 /\ CXe X.prog X.w X.stack H1 s1 E e s') s := by
 refine wpAny_Call_Name_kw (dq I hg hm ?_ hdb)
 refine W.callWith_K (h₀ := X.base) I.ok.mod.kin hk (wpAny_mono (ha pos pins s σ H _ (I.wish _) h) (fun us s1 ⟨vs, H1, I1, r, q⟩ => ?_) fun _ _ z => z.elim) he hpl
 have I1 : Inv X pins σ H1 s1 := I1.unwish
 refine ⟨I1.kIn, ?_⟩
 have r2 : Vals (vs ++ dvs) (us ++ ds) := r.append hd
 have hl : (us ++ ds).length = ps.length := by rw [<- r2.length]; exact F.len _ _ _ _ q
 refine wpAny_call (codeAny_mono (F.run X.A X.stack s1 H1 ⟨us, []⟩ (us ++ ds) (vs ++ dvs) Q E hr I1.env0 (hb s1 us I1.kIn hl) r2 q) fun r s' hq => ?_)
 cases r with
 | error e => exact ⟨H1, s1, I1, hq⟩
 | ok fl =>
  cases fl with
  | ret u => exact I1.after hq
  | next => exact False.elim hq
  | brk => exact False.elim hq
  | cont => exact False.elim hq
theorem rX (F : FnOk X.prog X.w X.K X.mg X.base (CXe X.prog X.w) k f fd ps sp) (hr : Room k X.A) (hg : Gl X x) (hm : X.mg x = some (.ref f)) (hk : W.keepIn X.K (.ref f) = true)
  (hb : Binds X.K fd ps ds) (hd : Vals dvs ds) (ha : PA X.nox (e :: es) t) (hdb : (x == ("__debug__" : Str)) = false := by decide) (he : starEach (e :: es) X.env = (false, eval e X.env) :: starEach es X.env := by rfl)
  (hpl : (backTo pos (starEach es X.env)).any (·.1) = false := by rfl) (hs : swapsWith (.Call (.Name x p) (e :: es) [] pos) none pos'.line X.env = pure false := by rfl) :
  BH X [.Expr (.Call (.Name x p) (e :: es) [] pos) pos'] (fun E D σ H => t σ H fun vs H1 => sp (vs ++ dvs) H1 (fun _ H2 => D.nx σ H2) E) := by
 intro E pins s σ H D I h
 refine wpAny_execs_cons (wpAny_Expr_any (thn (rW F hr hg hm hk hb hd ha I h hdb he hpl) fun v s1 ⟨y, H1, I1, r1, q1⟩ => ?_) I.quiet hs)
 exact wpAny_execs_nil ⟨σ, H1, I1, q1⟩
end
section
variable {X : Cx} {body suite : List Stmt} {b0 : Stmt} {tb : XK -> TS} {th : TS} {c : Str} {Cc : Value} {cp hp pos : Pos}
theorem caught {pins : A6} {σ : St} {H1 H' : Hp} {s1 s' : Shared} {ea : Addr} {C : Value} (hst : X.stack = X.env :: X.outer) (hfrm : X.env.frame = some X.env.locals) (I1 : Inv X pins σ H1 s1) (F : Flew X.prog X.w X.stack H1 s1 H' ea C s')
  (hg : Gl X c) (hm : X.mg c = some Cc) (hx : W.exmOne X.K C Cc = some true) (hd : (c == ("__debug__" : Str)) = false) {name : Option Str} {rest : List ExceptHandler} {Q : Flow -> Shared -> Prop} {E : A8}
  (h : ∀ h2, Inv X pins σ H' { s' with heap := h2 } -> Flew X.prog X.w X.stack H1 s1 H' ea C { s' with heap := h2 } ->
   codeAny (model X.prog X.w) (X.A.mark (some (.ref ea))) (.handlers (.ref ea) [.ExceptHandler none name (b0 :: suite) hp] X.env) (fun r s2 => match r with
     | .ok f => (match name with
      | none => Q f s2
      | some n => wpAny (model X.prog X.w) X.A (do bindName X.env n .none; unbindBehindTheSuite X.env n hp) (fun _ s3 => Q f s3) E s2)
     | .error x => cameBackBy (model X.prog X.w) X.A X.env E x s2) { s' with heap := h2 }) :
  wpAny (model X.prog X.w) X.A (noteFrame (.ref ea) X.env) (fun _ s2 => wpAny (model X.prog X.w) X.A (setFlight (.ref ea) none) (fun _ s3 => wpAny (model X.prog X.w) X.A (handleBy (.ref ea) X.env (.ExceptHandler (some (.Name c cp)) name (b0 :: suite) hp :: rest)) Q E s3) E s2) E s' := by
 obtain ⟨B, t, fl, kB⟩ := F.fly
 rw [hst] at fl
 have hfr : X.A.frames = some (X.env :: X.outer) := by rw [<- hst]; exact I1.ok.frames
 refine wpAny_looks_onW hfr hfrm fl fun h1 hd1 up1 => ?_
 refine wpAny_landsW hd1 fun h2 fl2 up2 => ?_
 have up : s'.heap.UpToSlots h2 := up1.trans up2
 have kB' := kB
 rw [hst] at kB'
 have F' : Flew X.prog X.w (X.env :: X.outer) H1 s1 H' ea C s' := by rw [<- hst]; exact F
 obtain ⟨u2, ok2⟩ := F'.step kB' fl.2.2.1 fl2.1 up
 have I2 : Inv X pins σ H' { s' with heap := h2 } := I1.call' (s' := { s' with heap := h2 }) (ch := []) F.os (by rw [hst]; exact u2) ok2 F.bare fun b z => absurd z (by simp)
 have fl2' : Heap.FlyingW B X.stack ea C (.ref t) h2 := by rw [hst]; exact fl2
 have go := h h2 I2 ⟨F.os, F.bare, by rw [hst]; exact u2, ok2, F.frf, B, t, fl2', fun b o e hb hc => by
  have inB : ∀ o', s'.heap.get? b = some o' -> B.get? b = some o := fun o' e' => by
   have e2 := kB b o' e' hb hc
   have e3 : some o = some o' := e.symm.trans (fl2.1 b o' e2)
   rw [Option.some.inj e3]
   exact e2
  rcases hc with ⟨o0, e0⟩ | z
  ·obtain ⟨o1, e1⟩ := F.un.there b o0 e0 (by simp)
   exact inB o1 e1
  ·cases e1 : H' b with
   | none => exact absurd e1 z
   | some u =>
    obtain ⟨o', z'⟩ := (F.hok b u e1).obj
    exact inB o' z'⟩
 refine wpAny_handleBy_cons (codeAny_handlers_test (dq (X := AX X ea) (I2.hand ea) hg hm ?_ hd)) (by intro q; cases q)
 obtain ⟨ob, ho, hcl⟩ := fl2.there
 have LT : W.Looks (model X.prog X.w) h2 (typeOf (.ref ea)) C := by rw [<- hcl]; exact (W.Looks.ld ho).andThen .now
 have LE := W.exm_one (K := X.K) (M := model X.prog X.w) (show X.K.In h2 from I2.kIn) LT hx
 exact LE _ _ _ _ (fun _ _ z => z) go
theorem Inv.unname {pins : A6} {σ : St} {H : Hp} {s : Shared} {n : Str} {i : Nat} {Q : Unit -> Shared -> Prop} {M : Model} {A : Around} {E : A8} (I : Inv X pins σ H s) (hN : X.N.Nodup) (hi : X.N[i]? = some n) (hk : X.env.kindOf n = some .local)
  (h : ∀ s', Inv X pins (σ.set i none) H s' -> Q () s') : wpAny M A (do bindName X.env n .none; unbindBehindTheSuite X.env n hp) Q E s := by
 obtain ⟨m, hn, hl⟩ := id I.loc
 have hcls : (X.env.scope.kind == .class || (X.env.scope.kind == .module && X.env.locals != X.env.globals)) = false := by rw [I.ok.kind]; rfl
 refine wpAny_nameGoes_keeps hk hn hcls fun h' v hn' hs => ?_
 obtain ⟨oL, _, _, hoL, _⟩ := id hn
 have nb : ∀ {b : Addr} {o : Obj}, X.s₀.heap.get? b = some o -> b ≠ X.env.locals := fun {b o} e => Nat.ne_of_lt (Nat.lt_of_lt_of_le (Heap.lt_size e) I.ok.above)
 refine h _ ⟨I.ok, I.os, I.bare, ⟨fun b o e n' hb hx => (hs.2 b (nb e)).trans (I.base.keep b o e n' hb hx), fun b o e n' hb hx => ?_, I.base.free, fun b o e hx => ?_, I.base.tups, I.base.frzs, I.base.tbls⟩, ⟨_, hn', fun j y v' e1 e2 e3 => ?_⟩, fun y c e => ?_, I.free, I.freeC, fun p hp => ?_, I.hok.beyond I.free hs, by simpa using I.len⟩
 ·obtain ⟨sl, e1⟩ := I.base.slot b o e n' hb hx
  exact ⟨sl, (hs.2 b (nb e)).trans e1⟩
 ·obtain ⟨o', e1⟩ := I.base.there b o e hx
  exact ⟨o', (hs.2 b (nb e)).trans e1⟩
 ·have hj : j ≠ i := fun z => by
   subst z
   have hiσ : j < σ.length := by rw [I.len]; exact (List.getElem?_eq_some_iff.mp hi).1
   rw [List.getElem?_set_self hiσ] at e2
   cases e2
  rw [List.getElem?_set_ne (Ne.symm hj)] at e2
  obtain ⟨u', r', q⟩ := hl j y v' e1 e2 e3
  refine ⟨u', r', ?_⟩
  rcases q with ⟨k, e⟩ | ⟨k, c, e, z⟩
  ·refine .inl ⟨k, ?_⟩
   have : y ≠ n := fun e => hj (iN hN e1 (e ▸ hi))
   simp [this, e]
  ·exact .inr ⟨k, c, e, z.sameBut hs (I.cne y c e)⟩
 ·obtain ⟨w', z⟩ := I.cell y c e
  exact ⟨w', z.sameBut hs (I.cne y c e)⟩
 ·obtain ⟨e, n', ne, nf, d⟩ := I.pin p hp
  exact ⟨(hs.2 p.1 ne).trans e, n', ne, nf, d⟩
noncomputable def Ends.less (D : Ends) (i : Nat) : Ends := { nx := fun σ H => D.nx (σ.set i none) H, rt := D.rt, bk := fun σ H => D.bk (σ.set i none) H, ct := fun σ H => D.ct (σ.set i none) H }
theorem rY {n : Str} {i : Nat} (hst : X.stack = X.env :: X.outer) (hfrm : X.env.frame = some X.env.locals) (hN : X.N.Nodup) (hi : X.N[i]? = some n) (hl : X.env.kindOf n = some .local) (hb : BH X body tb) (hg : Gl X c) (hm : X.mg c = some Cc)
  (hh : ∀ ea, PSs (AX X ea) (b0 :: suite) th) (hd : (c == ("__debug__" : Str)) = false := by decide) :
  PS X (.Try body [.ExceptHandler (some (.Name c cp)) (some n) (b0 :: suite) hp] [] [] pos) (fun D σ H => tb (fun C _ H' => W.exmOne X.K C Cc = some true /\ ∀ ea, H' ea = none -> th (D.less i) (σ.set i (some (.ref ea))) (upd H' ea (excO ea C))) D σ H) := by
 intro pins s σ H D I h
 refine wpAny_Try_except (wpAny_mono (hb _ pins s σ H D I h) (fun fl s1 q => ?_) fun e s' hex' => ?_)
 ·cases fl with
  | next => exact wpAny_execs_nil q
  | ret v => exact q
  | brk => exact q
  | cont => exact q
 ·obtain ⟨H1, s1, I1, ea, C, H', rfl, F, hx, q⟩ := hex'
  refine caught hst hfrm I1 F hg hm hx hd fun h2 I2 F2 => ?_
  obtain ⟨B, t, fl, kB⟩ := F2.fly
  refine codeAny_handlers_suite_as (lands_againW fl fun h3 fl3 up3 => ?_)
  obtain ⟨u3, ok3⟩ := F2.step kB fl.2.2.1 fl3.1 up3
  have I3 : Inv X pins σ H' { s' with heap := h3 } := I1.call' (s' := { s' with heap := h3 }) (ch := []) F.os u3 ok3 F.bare fun b z => absurd z (by simp)
  obtain ⟨ob, ho, hcl⟩ := fl3.there
  have I3t : Inv X pins σ (upd H' ea (excO ea C)) { s' with heap := h3 } := I3.track I1 F.new.1 F.new.2 ⟨⟨ob, ho, hcl⟩, ⟨ob, ho⟩, fun g1 g2 ⟨o, e, z⟩ kk => ⟨o, kk o e, z⟩⟩
  refine gq I3t hN hi (.inl hl) (v := .ref ea) rfl (fun s4 I4 => ?_) (.inr hl)
  refine wpAny_mono (hh ea pins s4 _ _ (D.less i) (I4.hand ea) (q ea F.new.2)) (fun fl s5 q5 => ?_) fun _ _ z => z.elim
  cases fl with
  | next => obtain ⟨σ', H'', J, r⟩ := q5; exact (I1.unhand J).unname hN hi hl fun s6 J6 => ⟨_, H'', J6, r⟩
  | brk => obtain ⟨σ', H'', J, r⟩ := q5; exact (I1.unhand J).unname hN hi hl fun s6 J6 => ⟨_, H'', J6, r⟩
  | cont => obtain ⟨σ', H'', J, r⟩ := q5; exact (I1.unhand J).unname hN hi hl fun s6 J6 => ⟨_, H'', J6, r⟩
  | ret u => obtain ⟨v, σ', H'', J, rv, r⟩ := q5; exact (I1.unhand J).unname hN hi hl fun s6 J6 => ⟨v, _, H'', J6, rv, r⟩
end
noncomputable def AM (N : List Str) (x : Str) : Option Nat := N.findIdx? (fun y => y == x)
section
variable {X : Cx} {a b c : Expr} {ta tb tc : TE} {pos : Pos}
theorem dJ {N : List Str} {x : Str} {i : Nat} (h : AM N x = some i) : N[i]? = some x := by
 unfold AM at h
 obtain ⟨hi, hp, _⟩ := List.findIdx?_eq_some_iff_getElem.mp h
 have : N[i] = x := by simpa using hp
 rw [List.getElem?_eq_getElem hi, this]
noncomputable def CL : R2 := fun x y H Q => match x, y with
 | .int i, .int j => Q (.int (i + j)) H
 | .str i, .str j => i.length + j.length <= sizeLine /\ Q (.str (i ++ j)) H
 | .ref a, .ref b => ∃ xs zs, H a = some (.lst xs) /\ H b = some (.lst zs) /\ xs.length + zs.length <= sizeLine /\ ∀ p, H p = none -> Q (.ref p) (upd H p (.lst (xs ++ zs)))
 | _, _ => False
noncomputable def rEqM (K : W.Frag) (neg : Bool) : R2 := fun x y H Q => match x, y with
 | .int i, .int j => Q (.bl (if neg then !decide (i = j) else decide (i = j))) H
 | .bl i, .bl j => Q (.bl (if neg then !decide (i = j) else decide (i = j))) H
 | .str i, .str j => Q (.bl (if neg then !decide (i = j) else decide (i = j))) H
 | x, y => rEqD K neg x y H Q
theorem dI (i j : Int) : decide (V.int i = V.int j) = decide (i = j) := by by_cases h : i = j <;> simp [h]
theorem dB (i j : Bool) : decide (V.bl i = V.bl j) = decide (i = j) := by by_cases h : i = j <;> simp [h]
theorem dS (i j : Str) : decide (V.str i = V.str j) = decide (i = j) := by by_cases h : i = j <;> simp [h]
theorem qg (hu : X.A.units + 64 < cLine) : OpR X (compareOp .Eq) (rEqM X.K false) := by
 intro pins s σ H x y v u Q I rx ry h
 unfold rEqM at h
 split at h
 next i j => exact pN pins s σ H _ _ v u Q I rx ry ⟨rfl, by rw [dI]; exact h⟩
 next i j => exact pN pins s σ H _ _ v u Q I rx ry ⟨rfl, by rw [dB]; exact h⟩
 next i j => exact pN pins s σ H _ _ v u Q I rx ry ⟨rfl, by rw [dS]; exact h⟩
 next => exact uP hu pins s σ H _ _ v u Q I rx ry h
theorem qh (hu : X.A.units + 64 < cLine) : OpR X (compareOp .NotEq) (rEqM X.K true) := by
 intro pins s σ H x y v u Q I rx ry h
 unfold rEqM at h
 split at h
 next i j => exact pO pins s σ H _ _ v u Q I rx ry ⟨rfl, by rw [dI]; exact h⟩
 next i j => exact pO pins s σ H _ _ v u Q I rx ry ⟨rfl, by rw [dB]; exact h⟩
 next i j => exact pO pins s σ H _ _ v u Q I rx ry ⟨rfl, by rw [dS]; exact h⟩
 next => exact uQ hu pins s σ H _ _ v u Q I rx ry h
noncomputable def rIxM (K : W.Frag) : R2 := fun x y H Q => match x, y with
 | .ref p, .int i => ∃ xs v, (SqL K H p xs \/ SqT K H p xs) /\ atI xs i = some v /\ Q v H
 | _, _ => False
theorem zG : IxR X (rIxM X.K) := by
 intro value slice pins s σ H x y v u Q I rx ry h hs
 unfold rIxM at h
 split at h
 next p i =>
  obtain ⟨xs, w', h1, h2, h3⟩ := h
  rcases h1 with h1 | h1
  ·exact rM value slice pins s σ H _ _ v u Q I rx ry ⟨p, xs, i, w', rfl, rfl, h1, h2, h3⟩ hs
  ·exact uL value slice pins s σ H _ _ v u Q I rx ry ⟨p, xs, i, w', rfl, rfl, h1, h2, h3⟩ hs
 next => exact h.elim
end
end L2
namespace HT
open PySem PyProof.Rows
section
variable {prog : Program} {w : World} {A : Around} {E : A8} {s : Shared}
theorem gC {t sl : Addr} {items : Array Value} {vl vu : Value} {lo hi : Option Int} {Q : A8} (ht : IsTup s.heap t items) (hs : s.heap.IsSliceOf sl vl vu .none) (pl : IsPart vl lo) (pu : IsPart vu hi)
  (hw : sIx items.size 0 lo = 0 /\ sIx items.size items.size hi = items.size) (h : Q (.ref t) s) : wpAny (model prog w) A (getItem (.ref t) (.ref sl)) Q E s := by
 obtain ⟨o1, ho1, hc1, _⟩ := id hs
 have hT1 : s.TypeIs (.ref sl) "slice" := ⟨o1, ho1, hc1⟩
 unfold getItem
 try with_reducible refine wpAny_holding ?_
 first | refine wpAny_bind (wpAny_pure ?_) | skip
 refine wpAny_bind (wpAny_sequenceKey ht.typeIs (by decide) ?_)
 refine wpAny_bind (wpAny_callSpecial?_slot (name := Str.ofString "__getitem__") ht.typeIs slot_tuple_getitem (wpAny_call_entry slot_tuple_getitem ht.typeIs entry_tuple_getitem ?_ (args_tuple_getitem _ _)))
 show wpAny _ _ (Builtin.Tuple.tupleItemsOf (.ref t) >>= _) _ _ s
 refine wpAny_bind (tupleItemsOf_ ht (wpAny_bind (wpAny_typeOf hT1 ?_)))
 rw [if_pos (by decide)]
 refine wpAny_bind (eE hs pl pu ?_)
 rw [hw.1, hw.2]
 show wpAny _ _ (if ((((0 : Nat) : Int) == 0 && (1 : Int) == 1 && items.size - 0 == items.size) = true) then _ else _) _ _ s
 rw [if_pos (by simp)]
 refine wpAny_bind ?_
 unfold Builtin.Tuple.tupleIsExact
 refine wpAny_bind (wpAny_typeOf ht.typeIs (wpAny_pure ?_))
 rw [if_pos (by decide)]
 exact wpAny_bind (wpAny_rule (wpAny_pure ⟨_, rfl, wpAny_pure h⟩))
end
end HT
namespace L2
open PySem PySem.Spec PyProof.Rows
section
variable {X : Cx}
theorem b7 {H : Hp} {p : Addr} {o : HO} (h : H p = none) : Same H (upd H p o) := fun b u e => by rw [av (aD e h)]; exact e
end
structure Def (P : Program) (w : World) (K : W.Frag) (mg : A5) (base : Heap) (CX : CXT) (x : Str) (k : Nat) (f : Addr) (fd : FuncData) (ps : List Str) (sp : Sp) : Prop where
 ok : FnOk P w K mg base CX k f fd ps sp
 at_ : mg x = some (.ref f)
 kp : W.keepIn K (.ref f) = true
 bd : Binds K fd ps []
section
variable {X : Cx} {CX : CXT} {k j : Nat} {f : Addr} {fd : FuncData} {ps : List Str} {sp : Sp} {E : XK} {x : Str} {p pos pos' : Pos} {e : Expr} {es : List Expr} {t : TA} {te : TE}
theorem lu (D : Def X.prog X.w X.K X.mg X.base CX x k f fd ps sp) (hr : Room j X.A) (hx : Passes CX X E) (ha : PA X (e :: es) t) (hg : Gl X x := by rfl) (hk : k <= j := by decide) (hdb : (x == ("__debug__" : Str)) = false := by decide)
  (he : starEach (e :: es) X.env = (false, eval e X.env) :: starEach es X.env := by rfl) (hpl : (backTo pos (starEach es X.env)).any (·.1) = false := by rfl) : PE X (.Call (.Name x p) (e :: es) [] pos) (BF sp [] E t) :=
 rF D.ok (hr.mono hk) hg D.at_ D.kp D.bd .nil hx ha hdb he hpl
theorem lx (D : Def X.prog X.w X.K X.mg X.base (CXe X.prog X.w) x k f fd ps sp) (hr : Room j X.A) (ha : PA X.nox (e :: es) t) (hg : Gl X x := by rfl) (hk : k <= j := by decide) (hdb : (x == ("__debug__" : Str)) = false := by decide)
  (he : starEach (e :: es) X.env = (false, eval e X.env) :: starEach es X.env := by rfl) (hpl : (backTo pos (starEach es X.env)).any (·.1) = false := by rfl) (hs : swapsWith (.Call (.Name x p) (e :: es) [] pos) none pos'.line X.env = pure false := by rfl) :
  BH X [.Expr (.Call (.Name x p) (e :: es) [] pos) pos'] (fun E D σ H => t σ H fun vs H1 => sp (vs ++ []) H1 (fun _ H2 => D.nx σ H2) E) :=
 rX D.ok (hr.mono hk) hg D.at_ D.kp D.bd .nil ha hdb he hpl hs
theorem nM {i : Nat} (hi : AM X.N x = some i) (hN : X.N.Nodup) (he : PE X e te) (hx : Loc X.env.scope x := by first | exact Or.inl rfl | exact Or.inr rfl) (hs : swapsWith e (some (.Name x pos')) pos.line X.env = pure false := by rfl)
  (hf : X.fn x = true \/ X.env.scope.names.lookup x = some .local := by first | exact .inl rfl | exact .inr rfl | assumption) : PS X (.Assign [.Name x pos'] e pos) (tAsg te (AC i)) := pH hN (dJ hi) hx he hs hf
end
noncomputable def tyD : PyData -> String
 | .none => "NoneType"
 | .bool _ => "bool"
 | .int _ => "int"
 | .str _ => "str"
 | .list _ => "list"
 | .tuple _ => "tuple"
 | .dict _ => "dict"
noncomputable def isiD (T : String) : PyData -> Bool
 | .bool _ => T == "bool" || T == "int"
 | d => T == tyD d
noncomputable def kitT (T : String) : Bool := T == "int" || T == "bool" || T == "str" || T == "list" || T == "tuple"
theorem rZ {K : W.Frag} {T : String} {d : PyData} (hT : kitT T = true) (hd : ∀ kvs, d ≠ .dict kvs) : W.kitOne K (.type (tyD d)) (.type T) = some (isiD T d) := by
 unfold kitT at hT
 simp only [Bool.or_eq_true, beq_iff_eq] at hT
 rcases hT with (((h | h) | h) | h) | h <;> subst h <;> cases d <;> first | rfl | decide +kernel | exact absurd rfl (hd _)
section
variable {X : Cx}
theorem oM : AD X (.builtin "isinstance") (fun xs H Q => ∃ x d T, xs = [x, .ty T] /\ kitT T = true /\ Dt X.K H x d /\ (∀ kvs, d ≠ .dict kvs) /\ Q (.bl (isiD T d)) H) := by
 intro pins s σ H xs us Q I r h
 obtain ⟨x, d, T, rfl, hT, hd, hnd, q⟩ := h
 obtain ⟨u, w', rfl, r1, r2⟩ := vals2 r
 cases (show w' = Value.type T from r2)
 have e := rZ (K := X.K) hT hnd
 cases hd with
 | non => cases (show u = Value.none from r1); exact W.kia_one W.kitx_none I.kIn True.intro e (fun z => nomatch z) fun tk => ⟨.bl _, H, I.tok tk, rfl, q⟩
 | bl y => cases (show u = Value.bool y from r1); exact W.kia_one W.kitx_bool I.kIn True.intro e (fun z => nomatch z) fun tk => ⟨.bl _, H, I.tok tk, rfl, q⟩
 | int i => obtain ⟨t, z⟩ := (show ∃ t, u = Value.int i t from r1); cases z; exact W.kia_one W.kitx_int I.kIn True.intro e (fun z => nomatch z) fun tk => ⟨.bl _, H, I.tok tk, rfl, q⟩
 | str y => obtain ⟨t, z⟩ := (show ∃ t, u = Value.str y t from r1); cases z; exact W.kia_one W.kitx_str I.kIn True.intro e (fun z => nomatch z) fun tk => ⟨.bl _, H, I.tok tk, rfl, q⟩
 | @lst a xs ds hq _ =>
  cases (show u = Value.ref a from r1)
  obtain ⟨its, rv, ⟨o, n, h1, h2, _⟩, _⟩ := I.list (SqR.sq hq)
  exact W.kia_one W.kitx_list I.kIn ⟨o, h1, h2⟩ e (fun z => nomatch z) fun tk => ⟨.bl _, H, I.tok tk, rfl, q⟩
 | @tup a xs ds hq _ =>
  cases (show u = Value.ref a from r1)
  obtain ⟨its, rv, ⟨o, h1, h2, _⟩, _⟩ := I.tuple (.of hq)
  exact W.kia_one W.kitx_tuple I.kIn ⟨o, h1, h2⟩ e (fun z => nomatch z) fun tk => ⟨.bl _, H, I.tok tk, rfl, q⟩
 | dct _ _ => exact absurd rfl (hnd _)
theorem tU {x : Str} {T : String} {pos : Pos} (hm : X.mg x = none) (hv : bootBuiltins x = some (.type T)) (hg : Gl X x := by rfl) (hn : x ≠ "__name__" := by decide) (hd : (x == ("__debug__" : Str)) = false := by decide) : PE X (.Name x pos) (tC (.ty T)) := ro hg hm hv rfl hn hd
end
section
variable {P : Program} {w : World} {K : W.Frag} {mg : A5} {base : Heap} {CX : CXT} {N : List Str} {q : Str} {sc : Scope} {f : Addr} {cd : Value} {A : Around} {o : List Env} {s : Shared} {H : Hp} {E : XK} {X : Cx} {cl : List (Str × Addr)} {C : Addr} {ex : List Addr} {ea : Addr}
end
noncomputable def Ite (K : W.Frag) (a : Addr) : It :=
 ⟨fun i H => ∃ xs x, SqL K H a xs /\ xs[i]? = some x, fun i H x H' => ∃ p y, x = .ref p /\ H p = none /\ H' = upd H p (.tup [.int i, y]) /\ ∀ xs, SqL K H a xs -> xs[i]? = some y, fun i H => ∃ xs, SqL K H a xs /\ xs.length <= i⟩
theorem oO {P : Program} {w : World} {K : W.Frag} {ts : List Expr} {tk : Nat} {tp : Pos} (a e it : Addr) (hne : e ≠ it) : Turn P w K (.Tuple ts tk tp) (Ite K a) [e, it] e (fun i h => (∃ old, IsEnum h e it (i : Int) old) /\ h.IsListIter it a i) where
 mem := by simp
 obj := fun i h st b hb => by
  obtain ⟨⟨old, he⟩, o, ho, _, hd⟩ := st
  rcases List.mem_cons.mp hb with z | z
  ·subst z; exact ⟨_, he, fun v z => by cases z⟩
  ·have : b = it := by simpa using z
   subst this
   exact ⟨o, ho, fun v z => by rw [hd] at z; cases z⟩
 keep := fun i h h' st k => ⟨let ⟨old, he⟩ := st.1; ⟨old, k e (by simp) _ he⟩, st.2.at fun o q => k it (by simp) o q⟩
 item := by
  intro X hP hw hK hc i pins s σ H E I hf st hg
  subst hP hw hK
  obtain ⟨⟨old, he⟩, hit⟩ := st
  obtain ⟨xs, x, hq, hx⟩ := hg
  obtain ⟨its, rv, p, hz⟩ := I.list hq
  obtain ⟨u, hu, ru⟩ := rv.get hx
  refine wpAny_pyNext_enum_item he hit p.isList (x := u) (by simpa using hu) hne fun h' out hit' tup sz kp => ⟨_, rfl, ?_⟩
  refine wpAny_letOwnedTupleGo_enum out fun h2 he2 sb => ?_
  have fe := hf e (by simp)
  have fi := hf it (by simp)
  have ltE : e < s.heap.objs.size := Heap.lt_size he
  have ltI : it < s.heap.objs.size := let ⟨o, ho, _⟩ := hit; Heap.lt_size ho
  have k2 : ∀ b o, b ≠ e -> b ≠ it -> s.heap.get? b = some o -> h2.get? b = some o := fun b o h1 h2' q => (sb.2 b h1).trans (kp b o h1 h2' q)
  have tup2 : h2.get? s.heap.objs.size = some { cls := .type "tuple", data := .seq #[.int i s.toks, u] } := (sb.2 _ (Nat.ne_of_gt ltE)).trans tup
  have fr : H s.heap.objs.size = none := I.hok.fresh (Nat.le_refl _)
  have hok2 : HOk X.prog X.w H h2 := I.hok.stays fun b o v q q' => k2 b o (fun z => by subst z; rw [fe.1] at q; cases q) (fun z => by subst z; rw [fi.1] at q; cases q) q'
  have u1 : Un (frs X.stack) [e, it] H H s.heap h2 := ⟨fun b o q _ _ hx => k2 b o (fun z => hx (by rw [z]; simp)) (fun z => hx (by rw [z]; simp)) q, fun b o q _ _ hx => ⟨o.slots, k2 b o (fun z => hx (by rw [z]; simp)) (fun z => hx (by rw [z]; simp)) q⟩, fun _ _ _ n _ => n,
   fun b o q hx => ⟨o, k2 b o (fun z => hx (by rw [z]; simp)) (fun z => hx (by rw [z]; simp)) q⟩, fun _ _ q => q, fun _ _ _ q => q, fun _ ps q => ⟨#[], by rw [q]; simp⟩⟩
  have I2 : Inv X pins σ H { s with heap := h2, toks := s.toks + 1 } := I.call' (s' := { s with heap := h2, toks := s.toks + 1 }) (ch := [e, it]) rfl u1 hok2 I.bare fun b hb => by
   have fb := hf b hb
   exact ⟨fb.2.2.2.1, fb.2.1, fb.2.2.2.2.1, fb.2.2.2.2.2⟩
  have I3 : Inv X pins σ (upd H s.heap.objs.size (.tup [.int i, x])) { s with heap := h2, toks := s.toks + 1 } := I2.track I (Heap.get?_none_of_le (Nat.le_refl _)) fr ⟨by show 2 <= sizeLine; decide, [.int i s.toks, u], .cons ⟨_, rfl⟩ (.cons ru .nil), ⟨_, tup2, rfl, _, rfl⟩⟩
  refine ⟨.ref s.heap.objs.size, _, I3, rfl, ⟨_, x, rfl, fr, rfl, fun ys hy => by rw [I.list_inj hy hq]; exact hx⟩, ⟨⟨_, he2⟩, ?_⟩, fun b hb => ?_⟩
  ·exact hit'.at fun o q => (sb.2 it (Ne.symm hne)).trans q
  ·have : b < s.heap.objs.size := by
    rcases List.mem_cons.mp hb with z | z
    ·subst z; exact ltE
    ·have : b = it := by simpa using z
     subst this; exact ltI
   rw [av (Nat.ne_of_lt this)]
   exact (hf b hb).1
 done := by
  intro X hP hw hK hc i pins s σ H E I hf st hg
  subst hP hw hK
  obtain ⟨⟨old, he⟩, hit⟩ := st
  obtain ⟨xs, hq, hx⟩ := hg
  obtain ⟨its, rv, p, hz⟩ := I.list hq
  obtain ⟨f0, f1, f2, f3, f4, f5⟩ := hf it (by simp)
  have hl := rv.length
  exact wpAny_pyNext_enum_end (I.ok.hd hc) he hit p.isList (by simp; lia) fun h' eb => ⟨rfl, I.turned (t' := s.toks) (fun b o hb e => eb b o hb e) f0 f1 f3 f4 f5⟩
 self := fun _ _ _ _ _ st h => let ⟨⟨_, he⟩, _⟩ := st; wpAny_pyIter_enum he h
section
variable {X : Cx} {ts : List Expr} {tk : Nat} {tp : Pos}
noncomputable def CD (K : W.Frag) (ta : TA) : TI := fun σ H R => ta σ H fun vs H1 => ∃ a, vs = [.ref a] /\ (∃ xs, SqL K H1 a xs) /\ R (Ite K a) H1
theorem sf {l : Expr} {ta : TA} {p pos : Pos} (hm : X.mg "enumerate" = none) (ha : PA X [l] ta) (hg : Gl X "enumerate" := by rfl) (hs : starEach [l] X.env = [(false, eval l X.env)] := by rfl) : PI X (.Tuple ts tk tp) (.Call (.Name "enumerate" p) [l] [] pos) (CD X.K ta) := by
 intro pins s σ H R I h
 refine Call_ (iO I hg hm boot_enumerate (callWith_type1 (thn (ha pos pins s σ H _ I h) fun us s1 ⟨vs, H1, I1, r1, q1⟩ => ?_) hs rfl))
 obtain ⟨a, e, ⟨xs, hq⟩, q⟩ := q1
 subst e
 obtain ⟨u, rfl, r⟩ := vals1 r1
 cases r
 obtain ⟨its, rv, pl, hz⟩ := I1.list hq
 refine call_enumerate_list pl.isList fun h' he hit hsz kp => wpAny_pyIter_enum he ?_
 have I2 : Inv X pins σ H1 { s1 with heap := h' } := I1.kept (t' := s1.toks) kp
 refine ⟨s1.heap.objs.size + 1, [s1.heap.objs.size + 1, s1.heap.objs.size], _, _, H1, rfl, I2, oO a _ _ (Nat.succ_ne_self _), ⟨⟨_, he⟩, hit⟩, fun b hb => ?_, q⟩
 have hb' : s1.heap.objs.size <= b := by
  rcases List.mem_cons.mp hb with z | z
  ·rw [z]; exact Nat.le_succ _
  ·have : b = s1.heap.objs.size := by simpa using z
   rw [this]; exact Nat.le_refl _
 exact I1.fpOk hb' (I1.hok.fresh hb')
noncomputable def iSeq (K : W.Frag) (tl : TE) : TI := fun σ H R => tl σ H fun x H1 => ∃ a, x = .ref a /\ (((∃ xs, SqL K H1 a xs) /\ R (Itl K a) H1) \/ ((∃ xs, SqT K H1 a xs) /\ R (Itt K a) H1))
theorem qi {tg l : Expr} {tl : TE} (hl : PE X l tl) : PI X tg l (iSeq X.K tl) := by
 intro pins s σ H R I h
 refine thn (hl pins s σ H _ I h) fun v s1 ⟨x, H1, I1, r1, q1⟩ => ?_
 obtain ⟨a, e, q⟩ := q1
 subst e
 cases r1
 have fp : ∀ b ∈ [s1.heap.objs.size], FpOk X pins H1 b := fun b hb => by
  have e : b = s1.heap.objs.size := by simpa using hb
  subst e
  exact I1.fpOk (Nat.le_refl _) (I1.hok.fresh (Nat.le_refl _))
 rcases q with ⟨⟨xs, hq⟩, q⟩ | ⟨⟨xs, hq⟩, q⟩
 ·obtain ⟨its, rv, p, hz⟩ := I1.list hq
  exact wpAny_pyIter_list p.isList ⟨s1.heap.objs.size, [s1.heap.objs.size], _, _, H1, rfl, I1.kept (t' := s1.toks) (fun b o e => Heap.get?_push_of_some _ e), oA a _, ⟨_, Heap.get?_push_size _ rfl, rfl, rfl⟩, fp, q⟩
 ·obtain ⟨its, rv, p, hz⟩ := I1.tuple hq
  exact wpAny_pyIter_tuple (show s1.heap.IsTuple a its.toArray from p) ⟨s1.heap.objs.size, [s1.heap.objs.size], _, _, H1, rfl, I1.kept (t' := s1.toks) (fun b o e => Heap.get?_push_of_some _ e), mq a _, ⟨_, Heap.get?_push_size _ rfl, rfl, rfl⟩, fp, q⟩
end
section
variable {X : Cx}
noncomputable def rIxD : R2 := fun x y H Q => ∃ a v, x = .ref a /\ DGet H a y (some v) /\ Q v H
theorem si (hu : X.A.units + 1 < cLine) : IxR X rIxD := by
 intro value slice pins s σ H x y v u Q I rx ry h hs
 obtain ⟨a, w', rfl, g, q⟩ := h
 cases rx
 exact tail_any (ll I g) PySem.F.slot_dict_getitem.lookup (oE hu I g ry fun r s' I' rr => ⟨w', H, I', rr, q⟩) hs
noncomputable def rIxA (K : W.Frag) : R2 := fun x y H Q => rIxM K x y H Q \/ rIxD x y H Q
theorem zH (hu : X.A.units + 1 < cLine) : IxR X (rIxA X.K) := zG.or (si hu)
noncomputable def BI (K : W.Frag) : List V -> Hp -> VK -> Prop := fun xs H Q => ∃ a ys, xs = [.ref a] /\ (SqL K H a ys \/ SqT K H a ys) /\ ∀ p H', Same H H' -> SqT K H' p ys -> Q (.ref p) H'
theorem ly : AD X (.type "tuple") (BI X.K) := by
 intro pins s σ H xs us Q I r h
 obtain ⟨a, ys, rfl, h, q⟩ := h
 rcases h with h | h
 ·exact eh pins s σ H _ us Q I r ⟨a, ys, rfl, .inl ⟨h, fun p hp => q p _ (b7 hp) (.of aK)⟩⟩
 ·exact eh pins s σ H _ us Q I r ⟨a, ys, rfl, .inr ⟨h, q a H (Same.refl H) h⟩⟩
end
noncomputable def Al (scope : Scope) : List Str := (scope.names.filter fun y => y.2 == .free).map (·.1)
noncomputable def B0 (N : List Str) (scope : Scope) : List Nat := (Al scope).filterMap (AM N)
noncomputable def AY (N : List Str) (sc : Scope) (x : Str) (scope : Scope) : Bool :=
 scope.kind == .function && sc.kind == .function && (scope.names.all fun y => y.2 != .cell && (y.2 != .local || scope.names.lookup y.1 == some .local) && (y.2 != .free || (sc.names.lookup y.1 == some .cell || sc.names.lookup y.1 == some .free))) &&
 ((Al scope).all fun y => (AM N y).isSome && y != x && scope.names.lookup y == some .free) && decide (x :: Al scope).Nodup && scope.names.lookup x == some .local
theorem fS {α β : Type} {f : α -> Option β} : ∀ {l : List α} {i : Nat} {x : α}, (∀ a ∈ l, (f a).isSome = true) -> l[i]? = some x -> (l.filterMap f)[i]? = f x
 | [], _, _, _, e => by simp at e
 | a :: r, i, x, h, e => by
  have ha := h a (List.mem_cons_self ..)
  obtain ⟨b, hb⟩ := Option.isSome_iff_exists.mp ha
  rw [List.filterMap_cons, hb]
  cases i with
  | zero => simp at e; subst e; simp [hb]
  | succ i =>
   simp only [List.getElem?_cons_succ] at e ⊢
   exact fS (fun a ha => h a (List.mem_cons_of_mem _ ha)) e
theorem fT {α β : Type} {f : α -> Option β} : ∀ {l : List α}, (∀ a ∈ l, (f a).isSome = true) -> (l.filterMap f).length = l.length
 | [], _ => rfl
 | a :: r, h => by
  obtain ⟨b, hb⟩ := Option.isSome_iff_exists.mp (h a (List.mem_cons_self ..))
  rw [List.filterMap_cons, hb, List.length_cons, List.length_cons, fT fun a ha => h a (List.mem_cons_of_mem _ ha)]
theorem gE {env : Env} {x : Str} : ∀ {names : List (Str × NameKind)} {k : NameKind}, names.lookup x = some .free -> (names.map fun (n, k) => if (k == NameKind.free && env.scope.kind == .function && env.kindOf n == some .cell) then (n, NameKind.cell) else (n, k)).lookup x = some k -> k = .cell \/ k = .free
 | [], _, h, _ => by simp at h
 | (n, k') :: r, k, h, e => by
  rw [List.map_cons] at e
  rw [List.lookup_cons] at h
  cases q : x == n with
  | true =>
   rw [q] at h
   have hk : k' = .free := Option.some.inj h
   subst hk
   split at e
   next n2 k2 heq =>
    simp only [Prod.mk.injEq] at heq
    obtain ⟨rfl, rfl⟩ := heq
    rw [apply_ite (fun z : Str × NameKind => List.lookup x (z :: _))] at e
    split at e
    ·rw [List.lookup_cons, q] at e; exact .inl (Option.some.inj e).symm
    ·rw [List.lookup_cons, q] at e; exact .inr (Option.some.inj e).symm
  | false =>
   rw [q] at h
   refine gE (env := env) (names := r) h ?_
   split at e
   next n2 k2 heq =>
    simp only [Prod.mk.injEq] at heq
    obtain ⟨rfl, rfl⟩ := heq
    rw [apply_ite (fun z : Str × NameKind => List.lookup x (z :: _))] at e
    split at e
    ·rw [List.lookup_cons, q] at e; exact e
    ·rw [List.lookup_cons, q] at e; exact e
section
variable {X : Cx} {N0 : List Str} {sc0 scope : Scope} {x : Str}
theorem iV (hN : X.N = N0) (hsc : X.env.scope = sc0) (h : AY N0 sc0 x scope = true) : AG X [x] (B0 N0 scope) (x :: Al scope) scope /\ (x :: Al scope).Nodup := by
 unfold AY at h
 simp only [Bool.and_eq_true, beq_iff_eq, List.all_eq_true, bne_iff_ne, ne_eq, Bool.or_eq_true, decide_eq_true_eq] at h
 obtain ⟨⟨⟨⟨⟨h1, h2⟩, h3⟩, h4⟩, h5⟩, h6⟩ := h
 have all : ∀ y ∈ Al scope, (AM N0 y).isSome = true := fun y hy => (h4 y hy).1.1
 refine ⟨⟨h1, fun y hy => (h3 y hy).1.1, fun y hy e => ?_, by rw [hsc]; exact h2, fun y hy e => ?_, fun i y e => ?_, ?_⟩, h5⟩
 ·rcases (h3 y hy).1.2 with z | z
  ·exact absurd e z
  ·exact z
 ·rcases (h3 y hy).2 with z | z
  ·exact absurd e z
  ·show X.env.scope.names.lookup y.1 = _ \/ X.env.scope.names.lookup y.1 = _
   rw [hsc]; exact z
 ·cases i with
  | zero => exact .inl (by simp)
  | succ i =>
   simp only [List.getElem?_cons_succ] at e
   have hy := List.mem_of_getElem? e
   obtain ⟨j, hj⟩ := Option.isSome_iff_exists.mp (all y hy)
   have hfree := (h4 y hy).2
   refine .inr ⟨j, ?_, by rw [hN]; exact dJ hj, ?_, fun k hk => gE hfree hk⟩
   ·show (B0 N0 scope)[i + 1 - 1]? = some j
    rw [Nat.add_sub_cancel]
    unfold B0
    rw [fS all e, hj]
   ·have := (h3 (y, .free) (PySem.mem_of_lookup hfree)).2
    rcases this with z | z
    ·exact absurd rfl z
    ·show X.env.scope.names.lookup y = some .local \/ X.env.scope.names.lookup y = some .cell \/ X.env.scope.names.lookup y = some .free
     rw [hsc]
     rcases z with z | z
     ·exact .inr (.inl z)
     ·exact .inr (.inr z)
 ·show (x :: Al scope).length = 1 + (B0 N0 scope).length
  rw [List.length_cons, B0, fT all]
  lia
variable {elt iter : Expr} {wi : TI} {tc : TT} {te : TE} {pos px : Pos} {ifs : List Expr}
theorem jL {l : List Str} : AM (x :: l) x = some 0 := by simp [AM, List.findIdx?_cons]
theorem qj (hok : AY N0 sc0 x scope = true) (hi : PI X (.Name x px) iter wi) (ht : ∀ cl C ex s H, PTs (An X (x :: Al scope) scope cl C ex s H) ifs tc) (he : ∀ cl C ex s H, PE (An X (x :: Al scope) scope cl C ex s H) elt te) (hN : X.N = N0 := by rfl) (hsc : X.env.scope = sc0 := by rfl)
  (hcm : X.calm = true := by rfl) (hs : ∀ x, foldedSetIterable iter X.env x = pure x := by intro _; rfl) : PE X (.ListComp elt [⟨.Name x px, iter, ifs, 0⟩] scope pos) (Bz 1 (B0 N0 scope) wi (AC 0) tc te) := by
 obtain ⟨S, nd⟩ := iV hN hsc hok
 have hl : scope.names.lookup x = some .local := by
  unfold AY at hok
  simp only [Bool.and_eq_true, beq_iff_eq] at hok
  exact hok.2
 exact rT S hcm hi (fun cl C ex s H => gu nd (dJ jL) (.inl (lookup_relabel_local hl)) (.inr (lookup_relabel_local hl))) ht he (iT Nat.one_pos) hs
theorem qk {i : Nat} {y : Str} {py spos : Pos} (hok : AY N0 sc0 x scope = true) (hi : PI X (.Name x px) iter wi) (ht : ∀ cl C ex s H, PTs (An X (x :: Al scope) scope cl C ex s H) ifs tc) (he : ∀ cl C ex s H, PE (An X (x :: Al scope) scope cl C ex s H) elt te)
  (hy : AM X.N y = some i) (hNd : X.N.Nodup) (hN : X.N = N0 := by rfl) (hsc : X.env.scope = sc0 := by rfl) (hcm : X.calm = true := by rfl) (hl : X.env.scope.names.lookup y = some .local := by rfl)
  (hsw : swapsWith (.ListComp elt [⟨.Name x px, iter, ifs, 0⟩] scope pos) (some (.Name y py)) spos.line X.env = pure true := by rfl) (hs : ∀ x, foldedSetIterable iter X.env x = pure x := by intro _; rfl) :
  PS X (.Assign [.Name y py] (.ListComp elt [⟨.Name x px, iter, ifs, 0⟩] scope pos) spos) (tAsg (Bz 1 (B0 N0 scope) wi (AC 0) tc te) (AC i)) := by
 obtain ⟨S, nd⟩ := iV hN hsc hok
 have hl' : scope.names.lookup x = some .local := by
  unfold AY at hok
  simp only [Bool.and_eq_true, beq_iff_eq] at hok
  exact hok.2
 exact rV S hcm hi (fun cl C ex s H => gu nd (dJ jL) (.inl (lookup_relabel_local hl')) (.inr (lookup_relabel_local hl'))) ht he (iT Nat.one_pos) hNd (dJ hy) hl hsw hs
end
abbrev TJ := St -> Hp -> Str -> (Str -> Hp -> Prop) -> Prop
noncomputable def PJ (X : Cx) (es : List Expr) (t : TJ) : Prop := ∀ (pins : A6) (s : Shared) (σ : St) (H : Hp) (out : Str) (Q : Str -> Hp -> Prop), Inv X pins σ H s -> t σ H out Q ->
 wpAny (model X.prog X.w) X.A (joinParts out (evalEach es X.env)) (EP X pins σ fun v H' => ∃ y, v = .str y /\ Q y H') X.xe s
section
variable {X : Cx} {es : List Expr} {t : TJ} {pos : Pos}
theorem g6 : PJ X [] (fun _ H out Q => out.length <= sizeLine /\ Q out H) := fun pins s σ H out Q I h => by
 show wpAny _ _ (joinParts out []) _ _ _
 exact joinParts_nil ⟨.str out, H, I.tok _, ⟨_, rfl⟩, out, rfl, h.2⟩ h.1
theorem dj {x : Str} {j : Nat} (hr : PJ X es t) : PJ X (.Constant (.str x) j pos :: es) (fun σ H out Q => (out ++ x).length <= sizeLine /\ t σ H (out ++ x) Q) := fun pins s σ H out Q I h => by
 show wpAny _ _ (joinParts out (eval (.Constant (.str x) j pos) X.env :: evalEach es X.env)) _ _ _
 refine joinParts_cons (thn (fZ (X := X) pins s σ H (fun v H' => v = .str x /\ H' = H) I ⟨rfl, rfl⟩) fun v s1 ⟨y, H1, I1, r1, e1, e2⟩ => ?_)
 subst e1 e2
 obtain ⟨tk, rfl⟩ := r1
 exact ⟨h.1, hr pins s1 σ _ _ Q I1 h.2⟩
theorem hU {e : Expr} {te : TE} (he : PE X e te) (hr : PJ X es t) : PJ X (.FormattedValue e (-1) none pos :: es) (fun σ H out Q => te σ H fun v H1 => ∃ i : Int, v = .int i /\ i.natAbs.log2 < 1920 /\ ∀ y : Str, y.length <= 1921 -> (out ++ y).length <= sizeLine /\ t σ H1 (out ++ y) Q) := fun pins s σ H out Q I h => by
 show wpAny _ _ (joinParts out (eval (.FormattedValue e (-1) none pos) X.env :: evalEach es X.env)) _ _ _
 refine joinParts_cons (FormattedValue_plain (thn (he pins s σ H _ I h) fun v s1 ⟨y, H1, I1, r1, i, ey, hi, q⟩ => ?_))
 subst ey
 obtain ⟨tk, rfl⟩ := r1
 refine wpAny_formatField_int hi ?_
 obtain ⟨q1, q2⟩ := q (toString i) (int_text_len_1921 hi)
 exact ⟨q1, hr pins _ σ H1 _ Q (I1.tok _) q2⟩
theorem eQ {e1 e2 : Expr} (h : PJ X (e1 :: e2 :: es) t) : PE X (.JoinedStr (e1 :: e2 :: es) pos) (fun σ H Q => t σ H Str.empty fun y H' => Q (.str y) H') := fun pins s σ H Q I hw => by
 refine JoinedStr_many (thn (h pins s σ H Str.empty _ I hw) fun v s1 ⟨x, H1, I1, r1, y, e, q⟩ => ?_)
 subst e
 exact ⟨.str y, H1, I1, r1, q⟩
end
inductive SD where
 | sh (d : PyData)
 | ol (ds : A4)
 | od (es : List (PyData × PyData))
 | ex (x : Str)
noncomputable def SD.owned : SD -> Prop
 | .ol _ => True
 | .od _ => True
 | _ => False
noncomputable def SD.toSh : SD -> Option PyData
 | .sh d => some d
 | .ol ds => some (.list ds)
 | .od es => some (.dict es)
 | .ex _ => none
abbrev DEnv := List (Option SD)
inductive Out (α : Type) where
 | ok (a : α)
 | exc (x : Str)
 | bad
noncomputable def Out.bind {α β : Type} (x : Out α) (f : α -> Out β) : Out β := match x with
 | .ok a => f a
 | .exc x => .exc x
 | .bad => .bad
@[simp] theorem Out.bind_ok {α β : Type} (a : α) (f : α -> Out β) : (Out.ok a).bind f = f a := rfl
@[simp] theorem Out.bind_exc {α β : Type} (x : Str) (f : α -> Out β) : (Out.exc x).bind f = .exc x := rfl
@[simp] theorem Out.bind_bad {α β : Type} (f : α -> Out β) : (Out.bad : Out α).bind f = .bad := rfl
class Tabs where
 ts : List Addr
 qual : Str
variable [Tabs]
noncomputable def CF (c : Addr) (q : Str) : HO := .ext fun h => h.CodeRec (.ref c) q
noncomputable def Bh (H : Hp) : Prop := ∀ P ∈ Tabs.ts, ∃ ps, H P = some (.tbl ps) /\ TriplesOk ps.toList /\ ∀ pos c, codeAmong pos ps.toList = some c -> ∃ c', c = .ref c' /\ H c' = some (CF c' Tabs.qual)
structure Ax (H H' : Hp) : Prop where
 at_ : ∀ b o, H b = some o -> (∀ ps, o ≠ .tbl ps) -> H' b = some o
 nn : ∀ b, H b ≠ none -> H' b ≠ none
 ok : Bh H -> Bh H'
theorem Ax.of_same {H H' : Hp} (s : Same H H') : Ax H H' where
 at_ := fun b o e _ => s b o e
 nn := fun b h => by
  cases q : H b with
  | none => exact absurd q h
  | some o => rw [s b o q]; simp
 ok := fun t P hP => let ⟨ps, e, t1, t2⟩ := t P hP; ⟨ps, s _ _ e, t1, fun pos c hc => let ⟨c', e1, e2⟩ := t2 pos c hc; ⟨c', e1, s _ _ e2⟩⟩
theorem Ax.refl (H : Hp) : Ax H H := ⟨fun _ _ e _ => e, fun _ h => h, id⟩
theorem Ax.trans {H H1 H2 : Hp} (a : Ax H H1) (b : Ax H1 H2) : Ax H H2 := ⟨fun c o e n => b.at_ c o (a.at_ c o e n) n, fun c h => b.nn c (a.nn c h), fun t => b.ok (a.ok t)⟩
theorem Ax.free {H H' : Hp} (s : Ax H H') {l : Addr} (h : H' l = Option.none) : H l = Option.none := by
 cases q : H l with
 | none => rfl
 | some o => exact absurd h (s.nn l (by rw [q]; simp))
def NoT (G : Hp) : Prop := ∀ b ps, G b ≠ some (.tbl ps)
theorem Ax.same {G H H' : Hp} (s : Ax H H') (g : Same G H) (n : NoT G) : Same G H' := fun b o e => s.at_ b o (g b o e) fun ps z => n b ps (by rw [e, z])
theorem NoT.upd {G : Hp} {p : Addr} {o : HO} (n : NoT G) (ho : ∀ ps, o ≠ .tbl ps) : NoT (upd G p o) := fun b ps z => by
 by_cases hb : b = p
 ·subst hb; rw [aK] at z; exact ho ps (Option.some.inj z)
 ·rw [av hb] at z; exact n b ps z
structure Grow (G H G' H' : Hp) : Prop where
 hh : Ax H H'
 gg : Same G G'
 gh : Same G' H'
 nb : ∀ b, H b ≠ none -> G' b = G b
 nt : NoT G -> NoT G'
section
variable {G H G1 H1 G2 H2 G' H' : Hp} {p b : Addr} {o : HO}
theorem Grow.refl (h : Same G H) : Grow G H G H := ⟨.refl _, .refl _, h, fun _ _ => rfl, id⟩
theorem Grow.trans (a : Grow G H G1 H1) (c : Grow G1 H1 G2 H2) : Grow G H G2 H2 :=
 ⟨a.hh.trans c.hh, a.gg.trans c.gg, c.gh, fun b h => (c.nb b (a.hh.nn b h)).trans (a.nb b h), fun n => c.nt (a.nt n)⟩
theorem Grow.laid (h : Same G H) (hp : H p = none) (ho : ∀ ps, o ≠ .tbl ps := by intro _ z; cases z) : Grow G H (upd G p o) (upd H p o) where
 hh := .of_same (b7 hp)
 nt := fun n => n.upd ho
 gg := b7 (h.free hp)
 gh := fun b u e => by
  by_cases z : b = p
  ·subst z; rw [aK] at e ⊢; exact e
  ·rw [av z] at e ⊢; exact h b u e
 nb := fun b hb => av (fun z => hb (z ▸ hp))
theorem Grow.laidO (h : Same G H) (hp : H p = none) : Grow G H G (upd H p o) := ⟨.of_same (b7 hp), .refl _, h.trans (b7 hp), fun _ _ => rfl, id⟩
end
noncomputable def VR (K : W.Frag) (mg : A5) (G H : Hp) (v : V) : SD -> Prop
 | .sh d => Dt K G v d
 | .ol ds => ∃ a xs, v = .ref a /\ G a = none /\ H a = some (.lst xs) /\ Dts K G xs ds
 | .od es => ∃ a kvs, v = .ref a /\ G a = none /\ H a = some (.dK kvs) /\ Des K G kvs es
 | .ex x => ∃ a C, v = .ref a /\ mg x = some C /\ H a = some (excO a C)
structure Rel (K : W.Frag) (mg : A5) (G0 H0 G H : Hp) (σ : St) (δ : DEnv) : Prop where
 g : Grow G0 H0 G H
 len : δ.length = σ.length
 sl : ∀ (i : Nat) sd, δ[i]? = some (some sd) -> ∃ v, σ[i]? = some (some v) /\ VR K mg G H v sd
 fr : ∀ (i : Nat) sd a, δ[i]? = some (some sd) -> sd.owned -> σ[i]? = some (some (.ref a)) -> H0 a = none
 ap : ∀ (i j : Nat) sd te a, δ[i]? = some (some sd) -> δ[j]? = some (some te) -> sd.owned -> te.owned -> σ[i]? = some (some (.ref a)) -> σ[j]? = some (some (.ref a)) -> i = j
 tb : Bh H0
 n0 : NoT G0
noncomputable def VN (K : W.Frag) (mg : A5) (H G' H' : Hp) (v : V) (r : SD) : Prop := VR K mg G' H' v r /\ (r.owned -> ∀ a, v = .ref a -> H a = none)
noncomputable def RR (K : W.Frag) (mg : A5) (H0 G H : Hp) (σ : St) (δ : DEnv) (v : V) (r : SD) : Prop :=
 VR K mg G H v r /\ (r.owned -> ∀ a, v = .ref a -> H0 a = none /\ ∀ (i : Nat) sd, δ[i]? = some (some sd) -> sd.owned -> σ[i]? ≠ some (some (.ref a)))
section
variable {K : W.Frag} {mg : A5} {G0 H0 G H G' H' : Hp} {σ : St} {δ : DEnv} {v : V} {r sd : SD} {i : Nat} {p a : Addr} {o : HO}
theorem VR.grow (g : Grow G H G' H') (h : VR K mg G H v r) : VR K mg G' H' v r := by
 cases r with
 | sh d => exact Dt.mono g.gg h
 | ol ds =>
  obtain ⟨a, xs, rfl, h1, h2, h3⟩ := h
  exact ⟨a, xs, rfl, (g.nb a (by rw [h2]; simp)).trans h1, g.hh.at_ _ _ h2 (by intro _ z; cases z), h3.mono g.gg⟩
 | od es =>
  obtain ⟨a, xs, rfl, h1, h2, h3⟩ := h
  exact ⟨a, xs, rfl, (g.nb a (by rw [h2]; simp)).trans h1, g.hh.at_ _ _ h2 (by intro _ z; cases z), h3.mono g.gg⟩
 | ex x =>
  obtain ⟨a, C, rfl, h1, h2⟩ := h
  exact ⟨a, C, rfl, h1, g.hh.at_ _ _ h2 (by intro _ z; cases z)⟩
theorem VR.own (h : VR K mg G H v r) (ho : r.owned) : ∃ a, v = .ref a /\ G a = none /\ H a ≠ none := by
 cases r with
 | sh d => exact ho.elim
 | ol ds => obtain ⟨a, xs, rfl, h1, h2, h3⟩ := h; exact ⟨a, rfl, h1, by rw [h2]; simp⟩
 | od es => obtain ⟨a, xs, rfl, h1, h2, h3⟩ := h; exact ⟨a, rfl, h1, by rw [h2]; simp⟩
 | ex x => exact ho.elim
theorem Rel.grow (R : Rel K mg G0 H0 G H σ δ) (g : Grow G H G' H') : Rel K mg G0 H0 G' H' σ δ :=
 ⟨R.g.trans g, R.len, fun i sd e => let ⟨v, h1, h2⟩ := R.sl i sd e; ⟨v, h1, h2.grow g⟩, R.fr, R.ap, R.tb, R.n0⟩
theorem Rel.own_ne (R : Rel K mg G0 H0 G H σ δ) (e : δ[i]? = some (some sd)) (ho : sd.owned) (hs : σ[i]? = some (some (.ref a))) : G a = none /\ H a ≠ none := by
 obtain ⟨v, h1, h2⟩ := R.sl i sd e
 obtain ⟨b, rfl, h3, h4⟩ := h2.own ho
 rw [hs] at h1
 cases h1
 exact ⟨h3, h4⟩
theorem RR.of_new (R : Rel K mg G0 H0 G H σ δ) (n : VN K mg H G' H' v r) : RR K mg H0 G' H' σ δ v r :=
 ⟨n.1, fun ho a e => ⟨R.g.hh.free (n.2 ho a e), fun i sd h1 h2 h3 => (R.own_ne h1 h2 h3).2 (n.2 ho a e)⟩⟩
theorem RR.new (n : RR K mg H0 G H σ δ v r) : VN K mg H0 G H v r := ⟨n.1, fun ho a e => (n.2 ho a e).1⟩
theorem RR.sh {d : PyData} (h : Dt K G v d) : RR K mg H0 G H σ δ v (.sh d) := ⟨h, fun z => z.elim⟩
theorem Rel.pub (R : Rel K mg G0 H0 G H σ δ) (hG : G p = none) (hH : H p = some o) (h0 : H0 p = none) (hn : ∀ (i : Nat) sd, δ[i]? = some (some sd) -> sd.owned -> σ[i]? ≠ some (some (.ref p))) (ho : ∀ ps, o ≠ .tbl ps := by intro _ z; cases z) : Rel K mg G0 H0 (upd G p o) H σ δ where
 tb := R.tb
 n0 := R.n0
 g := ⟨R.g.hh, R.g.gg.trans (b7 hG), fun b u e => by
   by_cases z : b = p
   ·subst z; rw [aK] at e; rw [hH]; exact e
   ·rw [av z] at e; exact R.g.gh b u e, fun b hb => (av (fun z => hb (by rw [z]; exact h0))).trans (R.g.nb b hb), fun n => (R.g.nt n).upd ho⟩
 len := R.len
 sl := fun i sd e => by
  obtain ⟨v, h1, h2⟩ := R.sl i sd e
  refine ⟨v, h1, ?_⟩
  have s : Same G (upd G p o) := b7 hG
  cases sd with
  | sh d => exact Dt.mono s h2
  | ol ds =>
   obtain ⟨a, xs, rfl, q1, q2, q3⟩ := h2
   exact ⟨a, xs, rfl, (av fun z => hn i _ e trivial (by rw [<- z]; exact h1)).trans q1, q2, q3.mono s⟩
  | od ds =>
   obtain ⟨a, xs, rfl, q1, q2, q3⟩ := h2
   exact ⟨a, xs, rfl, (av fun z => hn i _ e trivial (by rw [<- z]; exact h1)).trans q1, q2, q3.mono s⟩
  | ex x => exact h2
 fr := R.fr
 ap := R.ap
theorem RR.share {d : PyData} (R : Rel K mg G0 H0 G H σ δ) (h : RR K mg H0 G H σ δ v r) (e : r.toSh = some d) : ∃ G', Rel K mg G0 H0 G' H σ δ /\ Same G G' /\ Dt K G' v d := by
 cases r with
 | sh d' => cases e; exact ⟨G, R, .refl _, h.1⟩
 | ol ds =>
  cases e
  obtain ⟨⟨a, xs, rfl, h1, h2, h3⟩, hf⟩ := h
  obtain ⟨f1, f2⟩ := hf trivial a rfl
  exact ⟨_, R.pub h1 h2 f1 f2, b7 h1, .lst (.of aK) (h3.mono (b7 h1))⟩
 | od es =>
  cases e
  obtain ⟨⟨a, xs, rfl, h1, h2, h3⟩, hf⟩ := h
  obtain ⟨f1, f2⟩ := hf trivial a rfl
  exact ⟨_, R.pub h1 h2 f1 f2, b7 h1, .dct aK (h3.mono (b7 h1))⟩
 | ex x => cases e
theorem aS {α : Type} {l : List α} {i j : Nat} {x y : α} (h : (l.set i x)[j]? = some y) : (j = i /\ y = x) \/ (j ≠ i /\ l[j]? = some y) := by
 by_cases z : j = i
 ·subst z
  by_cases hl : j < l.length
  ·rw [List.getElem?_set_self hl] at h
   exact .inl ⟨rfl, (Option.some.inj h).symm⟩
  ·rw [List.getElem?_eq_none (by rw [List.length_set]; lia)] at h
   cases h
 ·rw [List.getElem?_set_ne (Ne.symm z)] at h
  exact .inr ⟨z, h⟩
theorem Rel.store (R : Rel K mg G0 H0 G H σ δ) (hi : i < σ.length) (h : RR K mg H0 G H σ (δ.set i none) v r) : Rel K mg G0 H0 G H (σ.set i (some v)) (δ.set i (some r)) where
 tb := R.tb
 n0 := R.n0
 g := R.g
 len := by rw [List.length_set, List.length_set]; exact R.len
 sl := fun j sd e => by
  rcases aS e with ⟨rfl, z⟩ | ⟨hj, e'⟩
  ·cases z
   exact ⟨v, List.getElem?_set_self hi, h.1⟩
  ·obtain ⟨w, h1, h2⟩ := R.sl j sd e'
   exact ⟨w, by rw [List.getElem?_set_ne (Ne.symm hj)]; exact h1, h2⟩
 fr := fun j sd a e ho hs => by
  rcases aS e with ⟨rfl, z⟩ | ⟨hj, e'⟩
  ·cases z
   rw [List.getElem?_set_self hi] at hs
   cases hs
   exact (h.2 ho a rfl).1
  ·rw [List.getElem?_set_ne (Ne.symm hj)] at hs
   exact R.fr j sd a e' ho hs
 ap := fun j k sd te a e1 e2 h1 h2 s1 s2 => by
  have key : ∀ {m n : Nat} {sm sn : SD}, (δ.set i (some r))[m]? = some (some sm) -> δ[n]? = some (some sn) -> n ≠ i -> m = i -> sm.owned -> sn.owned -> (σ.set i (some v))[m]? = some (some (.ref a)) -> σ[n]? = some (some (.ref a)) -> False := fun {m n sm sn} f1 f2 hk hj g1 g2 t1 t2 => by
   subst hj
   rcases aS f1 with ⟨_, z⟩ | ⟨z, _⟩
   ·cases z
    rw [List.getElem?_set_self hi] at t1
    cases t1
    exact (h.2 g1 a rfl).2 n sn (by rw [List.getElem?_set_ne (Ne.symm hk)]; exact f2) g2 t2
   ·exact z rfl
  rcases aS e1 with ⟨z1, _⟩ | ⟨z1, q1⟩
  ·rcases aS e2 with ⟨z2, _⟩ | ⟨z2, q2⟩
   ·rw [z1, z2]
   ·rw [List.getElem?_set_ne (Ne.symm z2)] at s2
    exact (key e1 q2 z2 z1 h1 h2 s1 s2).elim
  ·rw [List.getElem?_set_ne (Ne.symm z1)] at s1
   rcases aS e2 with ⟨z2, _⟩ | ⟨z2, q2⟩
   ·exact (key e2 q1 z1 z2 h2 h1 s2 s1).elim
   ·rw [List.getElem?_set_ne (Ne.symm z2)] at s2
    exact R.ap j k sd te a q1 q2 h1 h2 s1 s2
theorem RR.less {k : Nat} (h : RR K mg H0 G H σ δ v r) : RR K mg H0 G H σ (δ.set k none) v r :=
 ⟨h.1, fun ho a e => ⟨(h.2 ho a e).1, fun i sd q h2 => by
  rcases aS q with ⟨_, z⟩ | ⟨_, z⟩
  ·cases z
  ·exact (h.2 ho a e).2 i sd z h2⟩⟩
theorem Rel.forget (R : Rel K mg G0 H0 G H σ δ) (i : Nat) : Rel K mg G0 H0 G H σ (δ.set i none) where
 tb := R.tb
 n0 := R.n0
 g := R.g
 len := by rw [List.length_set]; exact R.len
 sl := fun j sd e => by
  rcases aS e with ⟨_, z⟩ | ⟨_, z⟩
  ·cases z
  ·exact R.sl j sd z
 fr := fun j sd a e ho hs => by
  rcases aS e with ⟨_, z⟩ | ⟨_, z⟩
  ·cases z
  ·exact R.fr j sd a z ho hs
 ap := fun j k sd te a e1 e2 h1 h2 s1 s2 => by
  rcases aS e1 with ⟨_, z⟩ | ⟨_, z1⟩
  ·cases z
  ·rcases aS e2 with ⟨_, z⟩ | ⟨_, z2⟩
   ·cases z
   ·exact R.ap j k sd te a z1 z2 h1 h2 s1 s2
theorem iW {α : Type} {l : List α} {i : Nat} {x : α} (h : l[i]? = some x) : l.set i x = l := by
 apply List.ext_getElem?
 intro j
 by_cases z : i = j
 ·subst z
  rw [List.getElem?_set_self (List.getElem?_eq_some_iff.mp h).1, h]
 ·rw [List.getElem?_set_ne z]
theorem Rel.at_ (R : Rel K mg G0 H0 G H σ δ) (e : δ[i]? = some (some r)) : ∃ v, σ[i]? = some (some v) /\ RR K mg H0 G H σ (δ.set i none) v r := by
 obtain ⟨v, h1, h2⟩ := R.sl i r e
 refine ⟨v, h1, h2, fun ho a ea => ⟨R.fr i r a e ho (ea ▸ h1), fun j sd q hs z => ?_⟩⟩
 rcases aS q with ⟨_, y⟩ | ⟨hj, y⟩
 ·cases y
 ·exact hj (R.ap i j r sd a e y ho hs (ea ▸ h1) z).symm
theorem Rel.share {d : PyData} (R : Rel K mg G0 H0 G H σ δ) (e : δ[i]? = some (some r)) (ed : r.toSh = some d) : ∃ G' v, Rel K mg G0 H0 G' H σ (δ.set i (some (.sh d))) /\ Same G G' /\ σ[i]? = some (some v) /\ Dt K G' v d := by
 obtain ⟨v, h1, h2⟩ := R.at_ e
 obtain ⟨G', R', s, hd⟩ := h2.share (R.forget i) ed
 have hi : i < σ.length := (List.getElem?_eq_some_iff.mp h1).1
 have R2 := R'.store hi (r := .sh d) (v := v) (RR.sh hd)
 rw [iW h1, List.set_set] at R2
 exact ⟨G', v, R2, s, h1, hd⟩
theorem Rel.write (R : Rel K mg G0 H0 G H σ δ) (e : δ[i]? = some (some r)) (ho : r.owned) (hs : σ[i]? = some (some (.ref a))) {r' : SD} (hr : VR K mg G (upd H a o) (.ref a) r') (hm : Mut (H a)) (hx : ∀ C, H a ≠ some (excO a C)) : Rel K mg G0 H0 G (upd H a o) σ (δ.set i (some r')) where
 g := by
  have h0 := R.fr i r a e ho hs
  have hG := (R.own_ne e ho hs).1
  have kin : (∃ xs, H a = some (.lst xs)) \/ (∃ xs, H a = some (.dK xs)) := by
   obtain ⟨v, h1, h2⟩ := R.sl i r e
   rw [hs] at h1
   cases h1
   cases r with
   | sh d => exact ho.elim
   | ol ds => obtain ⟨b, xs, e1, _, e2, _⟩ := h2; cases e1; exact .inl ⟨_, e2⟩
   | od ds => obtain ⟨b, xs, e1, _, e2, _⟩ := h2; cases e1; exact .inr ⟨_, e2⟩
   | ex x => exact ho.elim
  have nT : ∀ {b : Addr} {u : HO}, H b = some u -> ((∃ ps, u = .tbl ps) \/ (∃ φ, u = .ext φ)) -> b ≠ a := fun {b u} q z w => by
   subst w
   rcases kin with ⟨xs, k⟩ | ⟨xs, k⟩
   ·rw [k] at q; cases q; rcases z with ⟨_, z⟩ | ⟨_, z⟩ <;> cases z
   ·rw [k] at q; cases q; rcases z with ⟨_, z⟩ | ⟨_, z⟩ <;> cases z
  refine ⟨⟨fun b u q n => ?_, fun b q => ?_, fun t P hP => ?_⟩, R.g.gg, fun b u q => ?_, R.g.nb, R.g.nt⟩
  ·rw [av (aD q h0)]; exact R.g.hh.at_ b u q n
  ·rw [av (fun z => q (by rw [z]; exact h0))]; exact R.g.hh.nn b q
  ·obtain ⟨ps, e1, t1, t2⟩ := R.g.hh.ok t P hP
   refine ⟨ps, (av (nT e1 (.inl ⟨_, rfl⟩))).trans e1, t1, fun pos c hc => ?_⟩
   obtain ⟨c', e2, e3⟩ := t2 pos c hc
   exact ⟨c', e2, (av (nT e3 (.inr ⟨_, rfl⟩))).trans e3⟩
  ·rw [av (aD q hG)]; exact R.g.gh b u q
 tb := R.tb
 n0 := R.n0
 len := by rw [List.length_set]; exact R.len
 sl := fun j sd q => by
  rcases aS q with ⟨rfl, z⟩ | ⟨hj, q⟩
  ·cases z
   exact ⟨_, hs, hr⟩
  ·obtain ⟨v, h1, h2⟩ := R.sl j sd q
   refine ⟨v, h1, ?_⟩
   have ne : ∀ b, sd.owned -> v = .ref b -> b ≠ a := fun b hb ev z => by
    subst ev z
    exact hj (R.ap i j r sd b e q ho hb hs h1).symm
   cases sd with
   | sh d => exact h2
   | ol ds =>
    obtain ⟨b, xs, rfl, q1, q2, q3⟩ := h2
    exact ⟨b, xs, rfl, q1, (av (ne b trivial rfl)).trans q2, q3⟩
   | od ds =>
    obtain ⟨b, xs, rfl, q1, q2, q3⟩ := h2
    exact ⟨b, xs, rfl, q1, (av (ne b trivial rfl)).trans q2, q3⟩
   | ex x =>
    obtain ⟨b, C, rfl, q1, q2⟩ := h2
    exact ⟨b, C, rfl, q1, (av fun z => hx C (by rw [<- z]; exact q2)).trans q2⟩
 fr := fun j sd b q hb hs' => by
  rcases aS q with ⟨rfl, _⟩ | ⟨_, q⟩
  ·rw [hs] at hs'
   cases hs'
   exact R.fr _ r _ e ho hs
  ·exact R.fr j sd b q hb hs'
 ap := fun j k sd te b q1 q2 h1 h2 s1 s2 => by
  rcases aS q1 with ⟨z1, _⟩ | ⟨z1, y1⟩
  ·rcases aS q2 with ⟨z2, _⟩ | ⟨z2, y2⟩
   ·rw [z1, z2]
   ·rw [z1] at s1
    rw [z1]
    exact R.ap i k r te b e y2 ho h2 s1 s2
  ·rcases aS q2 with ⟨z2, _⟩ | ⟨z2, y2⟩
   ·rw [z2] at s2
    rw [z2]
    exact R.ap j i sd r b y1 e h1 ho s1 s2
   ·exact R.ap j k sd te b y1 y2 h1 h2 s1 s2
theorem Rel.tabs (R : Rel K mg G0 H0 G H σ δ) : Bh H := R.g.hh.ok R.tb
theorem Rel.noT (R : Rel K mg G0 H0 G H σ δ) : NoT G := R.g.nt R.n0
end
section
variable (K : W.Frag) (mg : A5) (E : XK)
abbrev DE := DEnv -> Out (SD × DEnv)
abbrev DD := DEnv -> Out (PyData × DEnv)
abbrev DA := DEnv -> Out (A4 × DEnv)
abbrev DT := DEnv -> Out (Bool × DEnv)
noncomputable def PoX (H0 : Hp) (x : Str) : Prop := ∀ H' C, Ax H0 H' -> mg x = some C -> E C none H'
noncomputable def PoE (G0 H0 G : Hp) (σ : St) (Q : VK) : Out (SD × DEnv) -> Prop
 | .ok p => ∀ v H' G', Rel K mg G0 H0 G' H' σ p.2 -> Same G G' -> RR K mg H0 G' H' σ p.2 v p.1 -> Q v H'
 | .exc x => PoX mg E H0 x
 | .bad => False
noncomputable def tE (f : DE) : TE := fun σ H Q => ∃ G0 H0 G δ, Rel K mg G0 H0 G H σ δ /\ PoE K mg E G0 H0 G σ Q (f δ)
noncomputable def PoD (G0 H0 G : Hp) (σ : St) (Q : VK) : Out (PyData × DEnv) -> Prop
 | .ok p => ∀ v H' G', Rel K mg G0 H0 G' H' σ p.2 -> Same G G' -> Dt K G' v p.1 -> Q v H'
 | .exc x => PoX mg E H0 x
 | .bad => False
noncomputable def PoA (G0 H0 G : Hp) (σ : St) (Q : List V -> Hp -> Prop) : Out (A4 × DEnv) -> Prop
 | .ok p => ∀ vs H' G', Rel K mg G0 H0 G' H' σ p.2 -> Same G G' -> Dts K G' vs p.1 -> Q vs H'
 | .exc x => PoX mg E H0 x
 | .bad => False
noncomputable def tA (f : DA) : TA := fun σ H Q => ∃ G0 H0 G δ, Rel K mg G0 H0 G H σ δ /\ PoA K mg E G0 H0 G σ Q (f δ)
noncomputable def PoT (G0 H0 G : Hp) (σ : St) (Q : Bool -> Hp -> Prop) : Out (Bool × DEnv) -> Prop
 | .ok p => ∀ H' G', Rel K mg G0 H0 G' H' σ p.2 -> Same G G' -> Q p.1 H'
 | .exc x => PoX mg E H0 x
 | .bad => False
noncomputable def tT (f : DT) : TT := fun σ H Q => ∃ G0 H0 G δ, Rel K mg G0 H0 G H σ δ /\ PoT K mg E G0 H0 G σ Q (f δ)
end
noncomputable def vE (f : DE) : DD := fun δ => (f δ).bind fun p => match p.1.toSh with
 | some d => .ok (d, p.2)
 | none => .bad
section
variable {X : Cx}
theorem PE.weak {e : Expr} {t t' : TE} (h : PE X e t) (k : ∀ σ H Q, t' σ H Q -> t σ H Q) : PE X e t' := fun pins s σ H Q I q => h pins s σ H Q I (k σ H Q q)
theorem PT.weak {e : Expr} {t t' : TT} (h : PT X e t) (k : ∀ σ H Q, t' σ H Q -> t σ H Q) : PT X e t' := fun pins s σ H Q I q => h pins s σ H Q I (k σ H Q q)
theorem PW.weak {e : Expr} {t t' : TT} (h : PW X e t) (k : ∀ σ H Q, t' σ H Q -> t σ H Q) : PW X e t' := fun wh pins s σ H Q I q => h wh pins s σ H Q I (k σ H Q q)
theorem PS.weak {e : Stmt} {t t' : TS} (h : PS X e t) (k : ∀ D σ H, t' D σ H -> t D σ H) : PS X e t' := fun pins s σ H D I q => h pins s σ H D I (k D σ H q)
theorem PSs.weak {e : List Stmt} {t t' : TS} (h : PSs X e t) (k : ∀ D σ H, t' D σ H -> t D σ H) : PSs X e t' := fun pins s σ H D I q => h pins s σ H D I (k D σ H q)
theorem PI.weak {tg e : Expr} {t t' : TI} (h : PI X tg e t) (k : ∀ σ H Q, t' σ H Q -> t σ H Q) : PI X tg e t' := fun pins s σ H Q I q => h pins s σ H Q I (k σ H Q q)
end
section
variable {K : W.Frag} {mg : A5} {E : XK} {G0 H0 G H : Hp} {σ : St} {δ : DEnv}
theorem sj {f : DE} {Q : VK} (R : Rel K mg G0 H0 G H σ δ) (h : PoD K mg E G0 H0 G σ Q (vE f δ)) : tE K mg E f σ H Q := by
 refine ⟨G0, H0, G, δ, R, ?_⟩
 unfold vE at h
 cases e : f δ with
 | ok p =>
  rw [e, Out.bind_ok] at h
  intro v H' G' R' s rr
  cases e2 : p.1.toSh with
  | none => rw [e2] at h; exact h.elim
  | some d =>
   rw [e2] at h
   obtain ⟨G2, R2, s2, hd⟩ := rr.share R' e2
   exact h v H' G2 R2 (s.trans s2) hd
 | exc x => rw [e] at h; exact h
 | bad => rw [e] at h; exact h
end
abbrev SE (X : Cx) (E : XK) (e : Expr) (f : DE) : Prop := PE X e (tE X.K X.mg E f)
abbrev ST (X : Cx) (E : XK) (e : Expr) (f : DT) : Prop := PT X e (tT X.K X.mg E f)
mutual
noncomputable def Ac : PyData -> Bool
 | .list _ => false
 | .dict _ => false
 | .tuple ds => Aa ds
 | _ => true
noncomputable def Aa : A4 -> Bool
 | [] => true
 | d :: ds => Ac d && Aa ds
end
noncomputable def SD.pure : SD -> Bool
 | .sh d => Ac d
 | .ol ds => Aa ds
 | .od es => Aa (es.map (·.2))
 | .ex _ => false
noncomputable def hid (l : List Addr) (G : Hp) : Hp := fun b => if b ∈ l then none else G b
noncomputable def Muts (l : List Addr) (G : Hp) : Prop := ∀ b ∈ l, (∃ xs, G b = some (.lst xs)) \/ ∃ kvs, G b = some (.dK kvs)
theorem sk {l : List Addr} {G : Hp} {a : Addr} {xs : List V} (hl : Muts l G) (h : TuT G a xs) : TuT (hid l G) a xs := by
 unfold TuT hid
 rw [if_neg]
 ·exact h
 ·intro z
  rcases hl a z with ⟨xs, q⟩ | ⟨kvs, q⟩
  ·rw [h] at q; cases q
  ·rw [h] at q; cases q
section
variable {K : W.Frag} {l : List Addr} {G : Hp}
mutual
theorem Dt.hid (hl : Muts l G) : ∀ {v : V} {d : PyData}, Dt K G v d -> Ac d = true -> Dt K (hid l G) v d
 | _, _, .non, _ => .non
 | _, _, .bl b, _ => .bl b
 | _, _, .int i, _ => .int i
 | _, _, .str x, _ => .str x
 | _, _, .lst q r, h => by exact absurd h (by simp [Ac])
 | _, _, .tup q r, h => .tup (sk hl q) (Dts.hid hl r (by simpa [Ac] using h))
 | _, _, .dct q r, h => by exact absurd h (by simp [Ac])
theorem Dts.hid (hl : Muts l G) : ∀ {vs : List V} {ds : A4}, Dts K G vs ds -> Aa ds = true -> Dts K (hid l G) vs ds
 | _, _, .nil, _ => .nil
 | _, _, .cons x r, h => by
  have h' := Bool.and_eq_true_iff.mp (by simpa [Aa] using h)
  exact .cons (Dt.hid hl x h'.1) (Dts.hid hl r h'.2)
end
theorem Des.hid (hl : Muts l G) : ∀ {vs : List (Key × V)} {ds : List (PyData × PyData)}, Des K G vs ds -> Aa (ds.map (·.2)) = true -> Des K (hid l G) vs ds
 | _, _, .nil, _ => .nil
 | _, _, .cons x r, h => by
  have h' := Bool.and_eq_true_iff.mp (by simpa [Aa] using h)
  exact .cons (Dt.hid hl x h'.1) (Des.hid hl r (by simpa using h'.2))
end
inductive Opd where
 | nm (i : Nat)
 | ex (f : DE)
noncomputable def AH (i : Nat) (δ : DEnv) : DEnv := match δ[i]? with
 | some (some (.ol ds)) => δ.set i (some (.sh (.list ds)))
 | some (some (.od es)) => δ.set i (some (.sh (.dict es)))
 | _ => δ
noncomputable def Aj : List Nat -> DEnv -> DEnv
 | [], δ => δ
 | i :: r, δ => Aj r (AH i δ)
section
variable {K : W.Frag} {mg : A5} {G0 H0 G H : Hp} {σ : St} {δ : DEnv}
structure Lent (G G1 : Hp) (l : List Addr) : Prop where
 ext : Same G G1
 mu : Muts l G1
 new : ∀ b ∈ l, G b = none
 old : ∀ b, b ∉ l -> G1 b = G b
theorem Lent.refl : Lent G G [] := ⟨.refl _, fun b h => absurd h (by simp), fun b h => absurd h (by simp), fun _ _ => rfl⟩
theorem Lent.trans {G1 G2 : Hp} {l1 l2 : List Addr} (a : Lent G G1 l1) (b : Lent G1 G2 l2) : Lent G G2 (l1 ++ l2) where
 ext := a.ext.trans b.ext
 mu := fun c h => by
  rcases List.mem_append.mp h with z | z
  ·rcases a.mu c z with ⟨xs, q⟩ | ⟨xs, q⟩
   ·exact .inl ⟨xs, b.ext _ _ q⟩
   ·exact .inr ⟨xs, b.ext _ _ q⟩
  ·exact b.mu c z
 new := fun c h => by
  rcases List.mem_append.mp h with z | z
  ·exact a.new c z
  ·exact a.ext.free (b.new c z)
 old := fun c h => by
  have h1 : c ∉ l1 := fun z => h (List.mem_append_left _ z)
  have h2 : c ∉ l2 := fun z => h (List.mem_append_right _ z)
  rw [b.old c h2, a.old c h1]
theorem Rel.rel1 (R : Rel K mg G0 H0 G H σ δ) (i : Nat) : ∃ G1 l, Rel K mg G0 H0 G1 H σ (AH i δ) /\ Lent G G1 l := by
 unfold AH
 split
 next ds e =>
  obtain ⟨v, h1, ⟨a, xs, rfl, q1, q2, q3⟩, hf⟩ := R.at_ e
  obtain ⟨f1, f2⟩ := hf trivial a rfl
  have hi : i < σ.length := (List.getElem?_eq_some_iff.mp h1).1
  have R2 := ((R.forget i).pub q1 q2 f1 f2).store hi (r := .sh (.list ds)) (v := .ref a) (RR.sh (.lst (.of aK) (q3.mono (b7 q1))))
  rw [iW h1, List.set_set] at R2
  refine ⟨_, [a], R2, b7 q1, fun b hb => ?_, fun b hb => ?_, fun b hb => av fun z => hb (by simp [z])⟩
  ·have : b = a := by simpa using hb
   subst this
   exact .inl ⟨xs, aK⟩
  ·have : b = a := by simpa using hb
   subst this
   exact q1
 next ds e =>
  obtain ⟨v, h1, ⟨a, xs, rfl, q1, q2, q3⟩, hf⟩ := R.at_ e
  obtain ⟨f1, f2⟩ := hf trivial a rfl
  have hi : i < σ.length := (List.getElem?_eq_some_iff.mp h1).1
  have R2 := ((R.forget i).pub q1 q2 f1 f2).store hi (r := .sh (.dict ds)) (v := .ref a) (RR.sh (.dct aK (q3.mono (b7 q1))))
  rw [iW h1, List.set_set] at R2
  refine ⟨_, [a], R2, b7 q1, fun b hb => ?_, fun b hb => ?_, fun b hb => av fun z => hb (by simp [z])⟩
  ·have : b = a := by simpa using hb
   subst this
   exact .inr ⟨xs, aK⟩
  ·have : b = a := by simpa using hb
   subst this
   exact q1
 next => exact ⟨G, [], R, .refl⟩
theorem Rel.relA : ∀ (is : List Nat) {G : Hp} {δ : DEnv}, Rel K mg G0 H0 G H σ δ -> ∃ G1 l, Rel K mg G0 H0 G1 H σ (Aj is δ) /\ Lent G G1 l
 | [], G, δ, R => ⟨G, [], R, .refl⟩
 | i :: r, G, δ, R => by
  obtain ⟨G1, l1, R1, L1⟩ := R.rel1 i
  obtain ⟨G2, l2, R2, L2⟩ := Rel.relA r R1
  exact ⟨G2, _, R2, L1.trans L2⟩
theorem Lent.back {G1 G' H' : Hp} {l : List Addr} {v : V} {r : SD} (L : Lent G G1 l) (R : Rel K mg G0 H0 G H σ δ) (R1 : Same G1 H) (g : Grow G1 H G' H') (n : VN K mg H G' H' v r) (hp : r.pure = true) :
  ∃ G2, Grow G H G2 H' /\ VN K mg H G2 H' v r := by
 have mu : Muts l G' := fun b hb => by
  rcases L.mu b hb with ⟨xs, q⟩ | ⟨xs, q⟩
  ·exact .inl ⟨xs, g.gg _ _ q⟩
  ·exact .inr ⟨xs, g.gg _ _ q⟩
 have nl : ∀ b ∈ l, H b ≠ none := fun b hb => by
  rcases L.mu b hb with ⟨xs, q⟩ | ⟨xs, q⟩
  ·rw [R1 _ _ q]; simp
  ·rw [R1 _ _ q]; simp
 refine ⟨hid l G', ⟨g.hh, fun b o e => ?_, fun b o e => ?_, fun b hb => ?_, fun nt b ps z => ?_⟩, ?_, n.2⟩
 ·unfold hid
  rw [if_neg fun z => by rw [L.new b z] at e; cases e]
  exact g.gg _ _ (L.ext _ _ e)
 ·unfold hid at e
  split at e
  ·cases e
  ·exact g.gh _ _ e
 ·unfold hid
  split
  next z => exact (L.new b z).symm
  next z => rw [g.nb b hb, L.old b z]
 ·have n1 : NoT G1 := fun c qs y => by
   by_cases hc : c ∈ l
   ·rcases L.mu c hc with ⟨xs, q⟩ | ⟨xs, q⟩ <;> (rw [y] at q; cases q)
   ·rw [L.old c hc] at y; exact nt c qs y
  unfold hid at z
  split at z
  ·cases z
  ·exact g.nt n1 b ps z
 ·cases r with
  | sh d => exact Dt.hid mu n.1 hp
  | ol ds =>
   obtain ⟨a, xs, rfl, h1, h2, h3⟩ := n.1
   exact ⟨a, xs, rfl, by unfold hid; split <;> first | rfl | exact h1, h2, h3.hid mu hp⟩
  | od ds =>
   obtain ⟨a, xs, rfl, h1, h2, h3⟩ := n.1
   exact ⟨a, xs, rfl, by unfold hid; split <;> first | rfl | exact h1, h2, h3.hid mu hp⟩
  | ex x => cases hp
end
noncomputable def fin2 (o : Option SD) (δ1 δ2 : DEnv) : Out (SD × DEnv) := match o with
 | some r => .ok (r, if r.pure = true then δ1 else δ2)
 | none => .bad
noncomputable def evO : List Opd -> DEnv -> Out (List (Sum PyData Nat) × DEnv)
 | [], δ => .ok ([], δ)
 | .nm i :: r, δ => match δ[i]? with
  | some (some _) => (evO r δ).bind fun q => .ok (.inr i :: q.1, q.2)
  | _ => .bad
 | .ex f :: r, δ => (vE f δ).bind fun p => (evO r p.2).bind fun q => .ok (.inl p.1 :: q.1, q.2)
noncomputable def Ak : List (Sum PyData Nat) -> List Nat
 | [] => []
 | .inl _ :: r => Ak r
 | .inr i :: r => i :: Ak r
noncomputable def BJ (δ : DEnv) (i : Nat) : Option PyData := match δ[i]? with
 | some (some (.sh d)) => some d
 | _ => none
noncomputable def Ay (δ : DEnv) : List (Sum PyData Nat) -> Option A4
 | [] => some []
 | .inl d :: r => (Ay δ r).map (d :: ·)
 | .inr i :: r => (BJ δ i).bind fun d => (Ay δ r).map (d :: ·)
noncomputable def opds (ops : List Opd) (δ : DEnv) : Out (A4 × DEnv × DEnv) := (evO ops δ).bind fun p =>
 match Ay (Aj (Ak p.1) p.2) p.1 with
 | some ds => .ok (ds, p.2, Aj (Ak p.1) p.2)
 | none => .bad
noncomputable def eOp (o : A4 -> Option SD) (ops : List Opd) : DE := fun δ => (opds ops δ).bind fun p => fin2 (o p.1) p.2.1 p.2.2
section
variable (K : W.Frag) (mg : A5) (E : XK)
noncomputable def tO : Opd -> TE
 | .nm i => tVar i
 | .ex f => tE K mg E f
noncomputable def tOs : List Opd -> TA
 | [] => tNil
 | o :: r => AU (tO K mg E o) (tOs r)
inductive OV (G : Hp) (σ : St) : List V -> List (Sum PyData Nat) -> Prop
 | nil : OV G σ [] []
 | dat {v : V} {d : PyData} {vs : List V} {r : List (Sum PyData Nat)} : Dt K G v d -> OV G σ vs r -> OV G σ (v :: vs) (.inl d :: r)
 | nam {v : V} {i : Nat} {vs : List V} {r : List (Sum PyData Nat)} : σ[i]? = some (some v) -> OV G σ vs r -> OV G σ (v :: vs) (.inr i :: r)
end
section
variable {K : W.Frag} {mg : A5} {E : XK} {G0 H0 G H : Hp} {σ : St} {δ : DEnv}
theorem OV.mono {G' : Hp} (s : Same G G') : ∀ {vs : List V} {r : List (Sum PyData Nat)}, OV K G σ vs r -> OV K G' σ vs r
 | _, _, .nil => .nil
 | _, _, .dat h t => .dat (h.mono s) (OV.mono s t)
 | _, _, .nam h t => .nam h (OV.mono s t)
theorem OV.view (R : Rel K mg G0 H0 G H σ δ) : ∀ {vs : List V} {r : List (Sum PyData Nat)} {ds : A4}, OV K G σ vs r -> Ay δ r = some ds -> Dts K G vs ds
 | _, _, _, .nil, e => by cases e; exact .nil
 | _, _, _, .dat (r := r) h t, e => by
  simp only [Ay, Option.map_eq_some_iff] at e
  obtain ⟨ds', e1, rfl⟩ := e
  exact .cons h (OV.view R t e1)
 | _, _, _, .nam (i := i) (v := v) h t, e => by
  simp only [Ay, Option.bind_eq_some_iff, Option.map_eq_some_iff] at e
  obtain ⟨d, e1, ds', e2, rfl⟩ := e
  refine .cons ?_ (OV.view R t e2)
  unfold BJ at e1
  split at e1
  next d' q =>
   cases e1
   obtain ⟨w, h1, h2⟩ := R.sl i _ q
   rw [h] at h1
   cases h1
   exact h2
  next => cases e1
theorem fu {P : List V -> Hp -> Prop} : ∀ (ops : List Opd) {G H : Hp} {δ : DEnv}, Rel K mg G0 H0 G H σ δ ->
  (match evO ops δ with
   | .ok p => ∀ vs H' G', Rel K mg G0 H0 G' H' σ p.2 -> Same G G' -> OV K G' σ vs p.1 -> P vs H'
   | .exc x => PoX mg E H0 x
   | .bad => False) -> tOs K mg E ops σ H P
 | [], G, H, δ, R, h => h [] H G R (.refl _) .nil
 | .nm i :: r, G, H, δ, R, h => by
  unfold evO at h
  split at h
  next p e =>
   split at e
   next sd q =>
    obtain ⟨v, hv, _⟩ := R.sl i _ q
    refine ⟨v, hv, fu (P := fun xs H2 => P (v :: xs) H2) r R ?_⟩
    cases e1 : evO r δ with
    | ok q1 =>
     rw [e1, Out.bind_ok] at e
     cases e
     exact fun vs H' G' R' s o => h (v :: vs) H' G' R' s (.nam hv o)
    | exc x => rw [e1] at e; cases e
    | bad => rw [e1] at e; cases e
   next => cases e
  next x e =>
   split at e
   next sd q =>
    obtain ⟨v, hv, _⟩ := R.sl i _ q
    refine ⟨v, hv, fu (P := fun xs H2 => P (v :: xs) H2) r R ?_⟩
    cases e1 : evO r δ with
    | ok q1 => rw [e1] at e; cases e
    | exc y => rw [e1] at e; cases e; exact h
    | bad => rw [e1] at e; cases e
   next => cases e
  next => exact h.elim
 | .ex f :: r, G, H, δ, R, h => by
  show tE K mg E f σ H fun x H1 => tOs K mg E r σ H1 fun xs H2 => P (x :: xs) H2
  refine sj R ?_
  unfold evO at h
  cases e1 : vE f δ with
  | ok p =>
   rw [e1, Out.bind_ok] at h
   intro v H1 G1 R1 s1 hd
   refine fu (P := fun xs H2 => P (v :: xs) H2) r R1 ?_
   cases e2 : evO r p.2 with
   | ok q =>
    rw [e2, Out.bind_ok] at h
    exact fun vs H2 G2 R2 s2 o => h (v :: vs) H2 G2 R2 (s1.trans s2) (.dat (hd.mono s2) o)
   | exc x => rw [e2] at h; exact h
   | bad => rw [e2] at h; exact h
  | exc x => rw [e1] at h; exact h
  | bad => rw [e1] at h; exact h
end
noncomputable def Aq (K : W.Frag) (mg : A5) (o : A4 -> Option SD) (r : List V -> Hp -> VK -> Prop) : Prop :=
 ∀ (G H : Hp) (vs : List V) (ds : A4) (res : SD) (Q : VK), Same G H -> Dts K G vs ds -> o ds = some res -> (∀ v H' G', Grow G H G' H' -> VN K mg H G' H' v res -> Q v H') -> r vs H Q
section
variable {K : W.Frag} {mg : A5} {E : XK}
theorem hV {o : A4 -> Option SD} {r : List V -> Hp -> VK -> Prop} {ops : List Opd} {σ : St} {H : Hp} {Q : VK} (hs : Aq K mg o r) (h : tE K mg E (eOp o ops) σ H Q) : tOs K mg E ops σ H fun vs H1 => r vs H1 Q := by
 obtain ⟨G0, H0, G, δ, R, m⟩ := h
 refine fu ops R ?_
 unfold eOp opds at m
 cases e1 : evO ops δ with
 | ok p =>
  rw [e1, Out.bind_ok] at m
  intro vs H1 G1 R1 s1 ov
  cases e2 : Ay (Aj (Ak p.1) p.2) p.1 with
  | none => rw [e2] at m; exact m.elim
  | some ds =>
   rw [e2, Out.bind_ok] at m
   cases e3 : o ds with
   | none => rw [e3] at m; exact m.elim
   | some res =>
    rw [e3] at m
    obtain ⟨G2, l, R2, L⟩ := R1.relA (Ak p.1)
    refine hs G2 H1 vs ds res Q R2.g.gh ((ov.mono L.ext).view R2 e2) e3 fun v H2 G3 gr vn => ?_
    by_cases hp : res.pure = true
    ·obtain ⟨G4, gr4, vn4⟩ := L.back R1 R2.g.gh gr vn hp
     have m' : PoE K mg E G0 H0 G σ Q (.ok (res, p.2)) := by simpa [fin2, hp] using m
     exact m' v H2 G4 (R1.grow gr4) (s1.trans gr4.gg) (RR.of_new R1 vn4)
    ·have m' : PoE K mg E G0 H0 G σ Q (.ok (res, Aj (Ak p.1) p.2)) := by simpa [fin2, hp] using m
     exact m' v H2 G3 (R2.grow gr) ((s1.trans L.ext).trans gr.gg) (RR.of_new R2 vn)
 | exc x => rw [e1] at m; exact m
 | bad => rw [e1] at m; exact m
theorem ql {H G' H' : Hp} {v : V} {d : PyData} (h : Dt K G' v d) : VN K mg H G' H' v (.sh d) := ⟨h, fun z => z.elim⟩
theorem iq {G H : Hp} {p : Addr} {xs : List V} {ds : A4} (hg : Same G H) (hp : H p = none) (h : Dts K G xs ds) : VN K mg H G (upd H p (.lst xs)) (.ref p) (.ol ds) :=
 ⟨⟨p, xs, rfl, hg.free hp, aK, h⟩, fun _ a e => by cases e; exact hp⟩
theorem xl {G H : Hp} {p : Addr} {xs : List (Key × V)} {ds : List (PyData × PyData)} (hg : Same G H) (hp : H p = none) (h : Des K G xs ds) : VN K mg H G (upd H p (.dK xs)) (.ref p) (.od ds) :=
 ⟨⟨p, xs, rfl, hg.free hp, aK, h⟩, fun _ a e => by cases e; exact hp⟩
theorem kr {G H : Hp} {p : Addr} {xs : List V} {ds : A4} (hg : Same G H) (hp : H p = none) (h : Dts K G xs ds) : VN K mg H (upd G p (.tup xs)) (upd H p (.tup xs)) (.ref p) (.sh (.tuple ds)) :=
 ql (.tup aK (h.mono (b7 (hg.free hp))))
theorem ans {G H : Hp} {Q : VK} {v : V} {d : PyData} (k : ∀ v H' G', Grow G H G' H' -> VN K mg H G' H' v (.sh d) -> Q v H') (hg : Same G H) (h : Dt K G v d) : Q v H := k v H G (.refl hg) (ql h)
end
abbrev SO (X : Cx) (E : XK) (e : Expr) (o : Opd) : Prop := PE X e (tO X.K X.mg E o)
noncomputable def SOs (X : Cx) (E : XK) : List Expr -> List Opd -> Prop
 | [], [] => True
 | e :: es, o :: os => SO X E e o /\ SOs X E es os
 | _, _ => False
section
variable {X : Cx} {E : XK} {a b e : Expr} {es : List Expr} {oa ob : Opd} {ops : List Opd} {f : DE} {pos : Pos}
theorem ah (i : Nat) {x : Str} (hN : X.N[i]? = some x := by rfl) (hv : Vis X.env.scope x := by first | exact Or.inl rfl | exact Or.inr (Or.inl rfl) | exact Or.inr (Or.inr rfl)) (hd : (x == ("__debug__" : Str)) = false := by decide)
  (hcd : (x == ("__classdict__" : Str)) = false := by decide) : SO X E (.Name x pos) (.nm i) := ft hN hv hd hcd
theorem ae (h : SE X E e f) : SO X E e (.ex f) := h
theorem ag : PA X [] (tOs X.K X.mg E []) := bC
theorem aa (he : SO X E e oa) (hr : PA X es (tOs X.K X.mg E ops)) (hs : starEach (e :: es) X.env = (false, eval e X.env) :: starEach es X.env := by rfl) : PA X (e :: es) (tOs X.K X.mg E (oa :: ops)) := aV he hr hs
noncomputable def l2 (r : R2) : List V -> Hp -> VK -> Prop := fun vs H Q => match vs with
 | [x, y] => r x y H Q
 | _ => False
noncomputable def l1 (r : V -> Hp -> VK -> Prop) : List V -> Hp -> VK -> Prop := fun vs H Q => match vs with
 | [x] => r x H Q
 | _ => False
theorem hW {op : Operator} {r : R2} {o : A4 -> Option SD} (ho : OpR X (binaryOp op) r) (hs : Aq X.K X.mg o (l2 r)) (ha : SO X E a oa) (hb : SO X E b ob) : SE X E (.BinOp a op b pos) (eOp o [oa, ob]) :=
 (x8 ho ha hb).weak fun _ _ _ h => hV hs h
theorem xm {op : UnaryOp} {r : V -> Hp -> VK -> Prop} {o : A4 -> Option SD} (ho : UnR X (unaryOp op) r) (hs : Aq X.K X.mg o (l1 r)) (ha : SO X E a oa) : SE X E (.UnaryOp op a pos) (eOp o [oa]) :=
 (x9 ho ha).weak fun _ _ _ h => hV hs h
theorem iX {op : CmpOp} {r : R2} {o : A4 -> Option SD} (ho : OpR X (compareOp op) r) (hs : Aq X.K X.mg o (l2 r)) (ha : SO X E a oa) (hb : SO X E b ob) (hm : behindInMarks op b = false) : SE X E (.Compare a [op] [b] pos) (eOp o [oa, ob]) :=
 (rC ho ha hb hm).weak fun _ _ _ h => hV hs h
theorem xn {r : R2} {o : A4 -> Option SD} (hr : IxR X r) (hs : Aq X.K X.mg o (l2 r)) (ha : SO X E a oa) (hb : SO X E b ob) (hp : Bs b) : SE X E (.Subscript a b pos) (eOp o [oa, ob]) :=
 (xg hr ha hb hp).weak fun _ _ _ h => hV hs h
theorem gF {x : Str} {p : Pos} {id : String} {r : List V -> Hp -> VK -> Prop} {o : A4 -> Option SD} (hc : AD X (.builtin id) r) (hs : Aq X.K X.mg o r) (hm : X.mg x = none) (hv : bootBuiltins x = some (.builtin id)) (ha : PA X (e :: es) (tOs X.K X.mg E ops)) (hg : Gl X x := by rfl)
  (hn : x ≠ "__name__" := by decide) (hdb : (x == ("__debug__" : Str)) = false := by decide) (hst : starEach (e :: es) X.env = (false, eval e X.env) :: starEach es X.env := by rfl) (hpl : (backTo pos (starEach es X.env)).any (·.1) = false := by rfl) :
  SE X E (.Call (.Name x p) (e :: es) [] pos) (eOp o ops) := (iR hc hg hm hv ha hn hdb hst hpl).weak fun _ _ _ h => hV hs h
theorem lz {x : Str} {p : Pos} {T : String} {r : List V -> Hp -> VK -> Prop} {o : A4 -> Option SD} (hc : AD X (.type T) r) (hs : Aq X.K X.mg o r) (hm : X.mg x = none) (hv : bootBuiltins x = some (.type T)) (ha : PA X (e :: es) (tOs X.K X.mg E ops)) (hg : Gl X x := by rfl)
  (hn : x ≠ "__name__" := by decide) (hdb : (x == ("__debug__" : Str)) = false := by decide) (hst : starEach (e :: es) X.env = (false, eval e X.env) :: starEach es X.env := by rfl) (hpl : (backTo pos (starEach es X.env)).any (·.1) = false := by rfl) :
  SE X E (.Call (.Name x p) (e :: es) [] pos) (eOp o ops) := (jH hc hg hm hv ha hn hdb hst hpl).weak fun _ _ _ h => hV hs h
end
def eC (d : PyData) : DE := fun δ => .ok (.sh d, δ)
noncomputable def eV (i : Nat) : DE := fun δ => match δ[i]? with
 | some (some (.sh d)) => .ok (.sh d, δ)
 | some (some (.ol ds)) => .ok (.sh (.list ds), δ.set i (some (.sh (.list ds))))
 | some (some (.od ds)) => .ok (.sh (.dict ds), δ.set i (some (.sh (.dict ds))))
 | _ => .bad
noncomputable def dTup (ds : A4) : Option SD := if ds.length <= sizeLine then some (.sh (.tuple ds)) else none
noncomputable def dLst (ds : A4) : Option SD := if ds.length <= sizeLine then some (.ol ds) else none
def BC : DE := fun δ => .ok (.od [], δ)
section
variable {X : Cx} {E : XK} {pos : Pos} {es : List Expr} {ops : List Opd}
theorem af {i : Int} {j : Nat} : SE X E (.Constant (.int i) j pos) (eC (.int i)) := uk.weak fun σ H Q ⟨G0, H0, G, δ, R, m⟩ => m _ H G R (.refl _) (RR.sh (.int i))
theorem d9 {i : Bool} {j : Nat} : SE X E (.Constant (.bool i) j pos) (eC (.bool i)) := wW.weak fun σ H Q ⟨G0, H0, G, δ, R, m⟩ => m _ H G R (.refl _) (RR.sh (.bl i))
theorem aM {i : Str} {j : Nat} : SE X E (.Constant (.str i) j pos) (eC (.str i)) := fZ.weak fun σ H Q ⟨G0, H0, G, δ, R, m⟩ => m _ H G R (.refl _) (RR.sh (.str i))
theorem cD {j : Nat} : SE X E (.Constant .none j pos) (eC .none) := mn.weak fun σ H Q ⟨G0, H0, G, δ, R, m⟩ => m _ H G R (.refl _) (RR.sh .non)
theorem w_V {K : W.Frag} {mg : A5} {i : Nat} {σ : St} {H : Hp} {Q : VK} (h : tE K mg E (eV i) σ H Q) : tVar i σ H Q := by
 obtain ⟨G0, H0, G, δ, R, m⟩ := h
 unfold eV at m
 split at m
 next d e =>
  obtain ⟨v, h1, h2⟩ := R.sl i _ e
  exact ⟨v, h1, m v H G R (.refl _) (RR.sh h2)⟩
 next ds e =>
  obtain ⟨G', v, R', s, h1, hd⟩ := R.share e rfl
  exact ⟨v, h1, m v H G' R' s (RR.sh hd)⟩
 next ds e =>
  obtain ⟨G', v, R', s, h1, hd⟩ := R.share e rfl
  exact ⟨v, h1, m v H G' R' s (RR.sh hd)⟩
 next => exact m.elim
theorem qo (i : Nat) {x : Str} (hN : X.N[i]? = some x := by rfl) (hv : Vis X.env.scope x := by first | exact Or.inl rfl | exact Or.inr (Or.inl rfl) | exact Or.inr (Or.inr rfl)) (hd : (x == ("__debug__" : Str)) = false := by decide)
  (hcd : (x == ("__classdict__" : Str)) = false := by decide) : SE X E (.Name x pos) (eV i) := (ft hN hv hd hcd).weak fun _ _ _ h => w_V h
theorem nN {x : Str} {v : V} {u : Value} {d : PyData} (hm : X.mg x = some u) (r : RelV v u) (hd : ∀ G, Dt X.K G v d) (hg : Gl X x := by rfl) (hdb : (x == ("__debug__" : Str)) = false := by decide) : SE X E (.Name x pos) (eC d) :=
 (nu hg hm r hdb).weak fun σ H Q ⟨G0, H0, G, δ, R, m⟩ => m _ H G R (.refl _) (RR.sh (hd G))
theorem aN {k : Nat} (h : PA X es (tOs X.K X.mg E ops)) : SE X E (.Tuple es k pos) (eOp dTup ops) := (uI h).weak fun σ H Q q => by
 refine hV (r := fun xs H1 Q => xs.length <= sizeLine /\ ∀ p, H1 p = none -> Q (.ref p) (upd H1 p (.tup xs))) (fun G H vs ds res Q hg hd ho k => ?_) q
 unfold dTup at ho
 split at ho
 ·cases ho
  exact ⟨by rw [hd.len]; assumption, fun p hp => k _ _ _ (.laid hg hp) (kr hg hp hd)⟩
 ·cases ho
theorem aG (h : PA X es (tOs X.K X.mg E ops)) : SE X E (.List es pos) (eOp dLst ops) := (pT h).weak fun σ H Q q => by
 refine hV (r := fun xs H1 Q => xs.length <= sizeLine /\ ∀ p, H1 p = none -> Q (.ref p) (upd H1 p (.lst xs))) (fun G H vs ds res Q hg hd ho k => ?_) q
 unfold dLst at ho
 split at ho
 ·cases ho
  exact ⟨by rw [hd.len]; assumption, fun p hp => k _ _ _ (.laidO hg hp) (iq hg hp hd)⟩
 ·cases ho
theorem qp : SE X E (.Dict [] [] pos) BC := gB.weak fun σ H Q ⟨G0, H0, G, δ, R, m⟩ p hp =>
 m _ _ G (R.grow (.laidO R.g.gh hp)) (.refl _) (RR.of_new R (xl R.g.gh hp .nil))
end
end L2
namespace L2
open PySem PySem.Spec PyProof.Rows
variable [Tabs]
section
variable {K : W.Frag} {G : Hp}
theorem dts1 {vs : List V} {a : PyData} (h : Dts K G vs [a]) : ∃ x, vs = [x] /\ Dt K G x a := by
 cases h with
 | cons h1 t => cases t; exact ⟨_, rfl, h1⟩
theorem dts2 {vs : List V} {a b : PyData} (h : Dts K G vs [a, b]) : ∃ x y, vs = [x, y] /\ Dt K G x a /\ Dt K G y b := by
 cases h with
 | cons h1 t =>
  obtain ⟨y, rfl, h2⟩ := dts1 t
  exact ⟨_, y, rfl, h1, h2⟩
end
theorem Inv.lstR {X : Cx} {pins : A6} {σ : St} {H : Hp} {s : Shared} {l : Addr} {xs : List V} (I : Inv X pins σ H s) (h : SqR X.K H l xs) :
  xs.length <= sizeLine /\ ∃ (its : List Value) (n : Nat), Vals xs its /\ xs.length = its.length /\ s.heap.get? l = some { cls := .type "list", data := .seq its.toArray n } := by
 rcases h with h | ⟨its, n, h1, h2, h3⟩
 ·obtain ⟨z, its, n, r, e⟩ := h.ok I.hok
  exact ⟨z, its, n, r, r.length, e⟩
 ·exact ⟨by rw [h3.length, Array.length_toList]; exact h2, its.toList, n, h3, h3.length, by simpa using I.kIn _ _ h1⟩
section
variable {X : Cx}
noncomputable def Cd (K : W.Frag) : R2 := fun x y H Q => ∃ l b xs zs, x = .ref l /\ y = .ref b /\ SqR K H l xs /\ SqR K H b zs /\ xs.length + zs.length <= sizeLine /\ ∀ p, H p = none -> Q (.ref p) (upd H p (.lst (xs ++ zs)))
theorem sr : OpR X (binaryOp .Add) (Cd X.K) := by
 intro pins s σ H x y v u Q I rx ry h
 obtain ⟨l, b, xs, zs, rfl, rfl, hH, hB, hz, q⟩ := h
 cases rx
 cases ry
 obtain ⟨z, its, n, r, hl, e⟩ := I.lstR hH
 obtain ⟨z2, its2, n2, r2, hl2, e2⟩ := I.lstR hB
 refine PySem.P.add_list e e2 ?_ (by rw [List.size_toArray, List.size_toArray]; lia)
 rw [show its.toArray ++ its2.toArray = (its ++ its2).toArray by simp]
 exact ⟨.ref _, _, I.lnew (t' := s.toks) (r.append r2) (by rw [List.length_append]; lia), rfl, q _ I.fresh⟩
noncomputable def Ce (K : W.Frag) : R2 := fun x y H Q => ∃ a b xs ys, x = .ref a /\ y = .ref b /\ SqT K H a xs /\ SqT K H b ys /\ xs.length + ys.length <= sizeLine /\
 (xs = [] -> Q (.ref b) H) /\ (xs ≠ [] -> ys = [] -> Q (.ref a) H) /\ (xs ≠ [] -> ys ≠ [] -> ∀ p, H p = none -> Q (.ref p) (upd H p (.tup (xs ++ ys))))
theorem su : OpR X (binaryOp .Add) (Ce X.K) := by
 intro pins s σ H x y v u Q I rx ry h
 obtain ⟨a, b, xs, ys, rfl, rfl, ha, hb, hz, q1, q2, q3⟩ := h
 by_cases hx : xs = []
 ·subst hx
  cases rx
  cases ry
  obtain ⟨its, r1, ⟨⟨c1, d1, dt1, sl1⟩, ho1, hc1, n1, hd1⟩, _⟩ := I.tuple ha
  obtain ⟨its2, r2, ⟨⟨c2, d2, dt2, sl2⟩, ho2, hc2, n2, hd2⟩, _⟩ := I.tuple hb
  simp only at hc1 hd1 hc2 hd2
  subst hc1 hd1 hc2 hd2
  have e : its = [] := r1.zero
  subst e
  exact concat_meets ⟨_, ho1, rfl⟩ ⟨_, ho2, rfl⟩ noFill_tuple_add seq_tuple_add PySem.F.slot_tuple_add PySem.F.entry_tuple_add (PySem.F.args_tuple_add_2 _ _) (tuple_addW0 a b #[] its2.toArray n1 n2 d1 d2 sl1 sl2 rfl) ⟨ho1, ho2, ⟨.ref b, H, I, rfl, q1 rfl⟩⟩
 ·exact rK pins s σ H _ _ v u Q I rx ry ⟨a, b, xs, ys, rfl, rfl, ha, hb, hx, hz, q2 hx, q3 hx⟩
noncomputable def BW (K : W.Frag) : R2 := fun x y H Q => match x, y with
 | .int i, .int j => Q (.int (i + j)) H
 | .str i, .str j => i.length + j.length <= sizeLine /\ Q (.str (i ++ j)) H
 | x, y => Cd K x y H Q \/ Ce K x y H Q
theorem sv : OpR X (binaryOp .Add) (BW X.K) := by
 intro pins s σ H x y v u Q I rx ry h
 unfold BW at h
 split at h
 next i j => exact uB pins s σ H _ _ v u Q I rx ry ⟨i, j, rfl, rfl, h⟩
 next i j => exact mw pins s σ H _ _ v u Q I rx ry ⟨i, j, rfl, rfl, h.1, h.2⟩
 next =>
  rcases h with h | h
  ·exact sr pins s σ H _ _ v u Q I rx ry h
  ·exact su pins s σ H _ _ v u Q I rx ry h
end
noncomputable def dAdd : A4 -> Option SD
 | [.int i, .int j] => some (.sh (.int (i + j)))
 | [.str x, .str y] => if x.length + y.length <= sizeLine then some (.sh (.str (x ++ y))) else none
 | [.list xs, .list ys] => if xs.length + ys.length <= sizeLine then some (.ol (xs ++ ys)) else none
 | [.tuple xs, .tuple ys] => if xs.length + ys.length <= sizeLine then some (.sh (.tuple (xs ++ ys))) else none
 | _ => none
theorem Dts.nil_iff {K : W.Frag} {G : Hp} {vs : List V} {ds : A4} (h : Dts K G vs ds) : vs = [] ↔ ds = [] := by
 cases h <;> simp
section
variable {K : W.Frag} {mg : A5}
theorem xp : Aq K mg dAdd (l2 (BW K)) := by
 intro G H vs ds res Q hg hd ho k
 unfold dAdd at ho
 split at ho
 next i j =>
  cases ho
  obtain ⟨x, y, rfl, h1, h2⟩ := dts2 hd
  cases h1
  cases h2
  exact ans k hg (.int _)
 next x y =>
  split at ho
  next hz =>
   cases ho
   obtain ⟨x, y, rfl, h1, h2⟩ := dts2 hd
   cases h1
   cases h2
   exact ⟨hz, ans k hg (.str _)⟩
  next => cases ho
 next xs ys =>
  split at ho
  next hz =>
   cases ho
   obtain ⟨x, y, rfl, h1, h2⟩ := dts2 hd
   cases h1 with
   | lst q1 r1 =>
    cases h2 with
    | lst q2 r2 =>
     refine .inl ⟨_, _, _, _, rfl, rfl, hg.sqr q1, hg.sqr q2, by rw [r1.len, r2.len]; exact hz, fun p hp => ?_⟩
     exact k _ _ _ (.laidO hg hp) (iq hg hp (r1.append r2))
  next => cases ho
 next xs ys =>
  split at ho
  next hz =>
   cases ho
   obtain ⟨x, y, rfl, h1, h2⟩ := dts2 hd
   cases h1 with
   | tup q1 r1 =>
    cases h2 with
    | tup q2 r2 =>
     refine .inr ⟨_, _, _, _, rfl, rfl, hg.tup q1, hg.tup q2, by rw [r1.len, r2.len]; exact hz, fun e => ?_, fun e e2 => ?_, fun e e2 p hp => ?_⟩
     ·have e' := r1.nil_iff.mp e
      subst e'
      exact ans k hg (.tup q2 r2)
     ·have e' := r2.nil_iff.mp e2
      subst e'
      exact ans k hg (by rw [List.append_nil]; exact .tup q1 r1)
     ·exact k _ _ _ (.laid hg hp) (kr hg hp (r1.append r2))
  next => cases ho
 next => cases ho
end
section
variable {X : Cx} {E : XK} {a b e : Expr} {oa ob : Opd} {pos : Pos}
theorem aP (ha : SO X E a oa) (hb : SO X E b ob) : SE X E (.BinOp a .Add b pos) (eOp dAdd [oa, ob]) := hW sv xp ha hb
end
noncomputable def dI2 (C : Int -> Int -> Bool) (g : Int -> Int -> PyData) : A4 -> Option SD
 | [.int i, .int j] => if C i j = true then some (.sh (g i j)) else none
 | _ => none
theorem uR {K : W.Frag} {mg : A5} {C : Int -> Int -> Bool} {D : Int -> Int -> Prop} {g : Int -> Int -> PyData} {gv : Int -> Int -> V} (hC : ∀ i j, C i j = true -> D i j) (hv : ∀ i j G, Dt K G (gv i j) (g i j)) : Aq K mg (dI2 C g) (l2 (rI D gv)) := by
 intro G H vs ds res Q hg hd ho k
 unfold dI2 at ho
 split at ho
 next i j =>
  split at ho
  next hc =>
   cases ho
   obtain ⟨x, y, rfl, h1, h2⟩ := dts2 hd
   cases h1
   cases h2
   exact ⟨i, j, rfl, rfl, hC i j hc, ans k hg (hv i j G)⟩
  next => cases ho
 next => cases ho
noncomputable def dI0 (g : Int -> Int -> PyData) : A4 -> Option SD
 | [.int i, .int j] => some (.sh (g i j))
 | _ => none
theorem oP {K : W.Frag} {mg : A5} {g : Int -> Int -> PyData} {gv : Int -> Int -> V} (hv : ∀ i j G, Dt K G (gv i j) (g i j)) : Aq K mg (dI0 g) (l2 (rI0 gv)) := by
 intro G H vs ds res Q hg hd ho k
 unfold dI0 at ho
 split at ho
 next i j =>
  cases ho
  obtain ⟨x, y, rfl, h1, h2⟩ := dts2 hd
  cases h1
  cases h2
  exact ⟨i, j, rfl, rfl, ans k hg (hv i j G)⟩
 next => cases ho
def dSub := dI0 fun i j => .int (i - j)
noncomputable def B1 := dI2 (fun i j => decide (0 < j /\ j < 1073741824)) fun i j => .int (i / j)
noncomputable def dMod := dI2 (fun i j => decide (0 < j)) fun i j => .int (i % j)
noncomputable def dPow := dI2 (fun i j => decide (0 <= j /\ j <= 1000000 /\ i.natAbs < 2 ^ 64)) fun i j => .int (i ^ j.toNat)
def dLt := dI0 fun i j => .bool (decide (i < j))
def dLe := dI0 fun i j => .bool (decide (i <= j))
def dGt := dI0 fun i j => .bool (decide (j < i))
def dGe := dI0 fun i j => .bool (decide (j <= i))
noncomputable def dNeg : A4 -> Option SD
 | [.int i] => some (.sh (.int (-i)))
 | _ => none
theorem xq {K : W.Frag} {mg : A5} : Aq K mg dNeg (l1 (rU fun i => .int (-i))) := by
 intro G H vs ds res Q hg hd ho k
 unfold dNeg at ho
 split at ho
 next i =>
  cases ho
  obtain ⟨x, rfl, h1⟩ := dts1 hd
  cases h1
  exact ⟨i, rfl, ans k hg (.int _)⟩
 next => cases ho
section
variable {X : Cx} {E : XK} {a b e : Expr} {oa ob : Opd} {pos : Pos}
theorem uS (ha : SO X E a oa) (hb : SO X E b ob) : SE X E (.BinOp a .Sub b pos) (eOp dSub [oa, ob]) := hW uC (oP fun _ _ _ => .int _) ha hb
theorem ku (ha : SO X E a oa) (hb : SO X E b ob) : SE X E (.BinOp a .FloorDiv b pos) (eOp B1 [oa, ob]) := hW rB (uR (fun i j h => (of_decide_eq_true h : 0 < j /\ j < 1073741824)) fun _ _ _ => .int _) ha hb
theorem cP (ha : SO X E a oa) (hb : SO X E b ob) : SE X E (.BinOp a .Mod b pos) (eOp dMod [oa, ob]) := hW uE (uR (fun _ _ h => of_decide_eq_true h) fun _ _ _ => .int _) ha hb
theorem uT (ha : SO X E a oa) (hb : SO X E b ob) : SE X E (.BinOp a .Pow b pos) (eOp dPow [oa, ob]) := hW uF (uR (fun i j h => (of_decide_eq_true h : 0 <= j /\ j <= 1000000 /\ i.natAbs < 2 ^ 64)) fun _ _ _ => .int _) ha hb
theorem xr (ha : SO X E a oa) (hb : SO X E b ob) : SE X E (.Compare a [.LtE] [b] pos) (eOp dLe [oa, ob]) := iX tP (oP fun _ _ _ => .bl _) ha hb (nomark _)
theorem xt (ha : SO X E a oa) (hb : SO X E b ob) : SE X E (.Compare a [.GtE] [b] pos) (eOp dGe [oa, ob]) := iX xc (oP fun _ _ _ => .bl _) ha hb (nomark _)
theorem g7 (ha : SO X E a oa) : SE X E (.UnaryOp .USub a pos) (eOp dNeg [oa]) := xm uG xq ha
end
noncomputable def Cf (K : W.Frag) : R2 := fun x y H Q => ∃ l k xs, x = .ref l /\ y = .int k /\ SqR K H l xs /\ 0 <= k /\ k < 2 ^ 63 /\ xs.length * k.toNat <= sizeLine /\ ∀ p, H p = none -> Q (.ref p) (upd H p (.lst (List.replicate k.toNat xs).flatten))
section
variable {X : Cx}
theorem sx : OpR X (binaryOp .Mult) (Cf X.K) := by
 intro pins s σ H x y v u Q I rx ry h
 obtain ⟨l, k, xs, rfl, rfl, hH, h1, h2, hz, q⟩ := h
 cases rx
 obtain ⟨t, rfl⟩ := ry
 obtain ⟨z, its, n, r, hl, e⟩ := I.lstR hH
 have hlen : its.toArray.size * k.toNat <= sizeLine := by rw [List.size_toArray, <- hl]; exact hz
 have hcap : ¬ its.toArray.size * k.toNat > (2 ^ 63 - 1) / 8 := by
  have : (sizeLine : Nat) <= (2 ^ 63 - 1) / 8 := by decide
  lia
 have hfit : ¬ (!Builtin.List.listFitsIndex k) = true := by
  rw [fitsIndex_both (by lia) h2]
  exact Bool.false_ne_true
 have hlong : ¬ Builtin.List.listTooLong (its.toArray.size * k.toNat) = true := by
  rw [Bg hlen]
  exact Bool.false_ne_true
 have hnew : List.foldl (fun x1 x2 => x1 ++ x2) #[] (List.replicate (if its.toArray.isEmpty = true then 0 else k.toNat) its.toArray) = (List.replicate k.toNat its).flatten.toArray := by
  have f0 : ∀ m : Nat, List.foldl (fun x1 x2 => x1 ++ x2) #[] (List.replicate m its.toArray) = (List.replicate m its).flatten.toArray := fun m => by simpa using jI its m []
  rw [f0]
  cases its with
  | nil => simp
  | cons a r' => rw [if_neg (by simp)]
 refine wpAny_binaryOp_repeat_ref (T := "list") (U := "int") (by decide) ⟨_, e, rfl⟩ (fun s' => typeIs_int s' k t) noFill_list_mul PySem.F.fills_int_mul PySem.F.slot_int_rmul repeat_list PySem.F.slot_int_index.lookup
  (call_meets PySem.F.slot_int_rmul (typeIs_int s k t) PySem.F.entry_int_rmul (PySem.F.args_int_rmul_2 _ _) (int___rmul___int_list k t l its.toArray n)
   ⟨e, rfl, ⟨_, e, rfl⟩, call_meets PySem.F.slot_list_mul ⟨_, e, rfl⟩ PySem.F.entry_list_mul (PySem.F.args_list_mul_2 _ _) (AutoListH.list___mul___list_int_3 l its.toArray n k t hfit hcap hlong) ⟨e, ?_⟩⟩)
 rw [hnew]
 exact ⟨.ref _, _, I.lnew (t' := s.toks) (r.rep k.toNat) (by rw [rO, Nat.mul_comm]; exact hz), rfl, q _ I.fresh⟩
noncomputable def Cg : R2 := fun x y H Q => ∃ z k, x = .str z /\ y = .int k /\ ((k = 0 /\ Q (.str Str.empty) H) \/ (k = 1 /\ Q (.str z) H))
theorem sy : OpR X (binaryOp .Mult) Cg := by
 intro pins s σ H x y v u Q I rx ry h
 obtain ⟨z, k, rfl, rfl, h⟩ := h
 obtain ⟨t, rfl⟩ := rx
 obtain ⟨t', rfl⟩ := ry
 rcases h with ⟨rfl, q⟩ | ⟨rfl, q⟩
 ·exact PySem.P.mul_str_none (by decide) (by decide) ⟨.str _, H, I.tok _, ⟨_, rfl⟩, q⟩
 ·refine PySem.P.mul_str (by decide) (fun _ h => by simp at h) (fun _ h => by simp at h) ?_
  rw [if_neg (by decide), if_pos (by simp)]
  exact ⟨.str z, H, I, ⟨_, rfl⟩, q⟩
noncomputable def BX (K : W.Frag) : R2 := fun x y H Q => match x, y with
 | .int i, .int j => CMul i j /\ Q (.int (i * j)) H
 | x, y => Cf K x y H Q \/ Cg x y H Q
theorem sA : OpR X (binaryOp .Mult) (BX X.K) := by
 intro pins s σ H x y v u Q I rx ry h
 unfold BX at h
 split at h
 next i j => exact uD pins s σ H _ _ v u Q I rx ry ⟨i, j, rfl, rfl, h⟩
 next =>
  rcases h with h | h
  ·exact sx pins s σ H _ _ v u Q I rx ry h
  ·exact sy pins s σ H _ _ v u Q I rx ry h
end
noncomputable def cMul (i j : Int) : Bool := decide ((-(2 ^ 64) < i /\ i < 2 ^ 64) \/ (-(2 ^ 64) < j /\ j < 2 ^ 64))
noncomputable def dMul : A4 -> Option SD
 | [.int i, .int j] => if cMul i j = true then some (.sh (.int (i * j))) else none
 | [.list xs, .int k] => if 0 <= k /\ k < 2 ^ 63 /\ xs.length * k.toNat <= sizeLine then some (.ol (List.replicate k.toNat xs).flatten) else none
 | [.str z, .int k] => if k = 0 then some (.sh (.str Str.empty)) else if k = 1 then some (.sh (.str z)) else none
 | _ => none
theorem xu {K : W.Frag} {mg : A5} : Aq K mg dMul (l2 (BX K)) := by
 intro G H vs ds res Q hg hd ho k
 unfold dMul at ho
 split at ho
 next i j =>
  split at ho
  next hc =>
   cases ho
   obtain ⟨x, y, rfl, h1, h2⟩ := dts2 hd
   cases h1
   cases h2
   exact ⟨(of_decide_eq_true hc : (-(2 ^ 64) < i /\ i < 2 ^ 64) \/ (-(2 ^ 64) < j /\ j < 2 ^ 64)), ans k hg (.int _)⟩
  next => cases ho
 next xs n =>
  split at ho
  next hc =>
   cases ho
   obtain ⟨x, y, rfl, h1, h2⟩ := dts2 hd
   cases h2
   cases h1 with
   | lst q1 r1 =>
    refine .inl ⟨_, n, _, rfl, rfl, hg.sqr q1, hc.1, hc.2.1, by rw [r1.len]; exact hc.2.2, fun p hp => ?_⟩
    exact k _ _ _ (.laidO hg hp) (iq hg hp (r1.reps _))
  next => cases ho
 next z n =>
  obtain ⟨x, y, rfl, h1, h2⟩ := dts2 hd
  cases h1
  cases h2
  split at ho
  next e => cases ho; exact .inr ⟨z, n, rfl, rfl, .inl ⟨e, ans k hg (.str _)⟩⟩
  next =>
   split at ho
   next e => cases ho; exact .inr ⟨z, n, rfl, rfl, .inr ⟨e, ans k hg (.str _)⟩⟩
   next => cases ho
 next => cases ho
noncomputable def dEqB : PyData -> PyData -> Option Bool
 | .int i, .int j => some (decide (i = j))
 | .bool i, .bool j => some (decide (i = j))
 | .str i, .str j => some (decide (i = j))
 | x, y => if SeqAt.shaped x = true /\ SeqAt.shaped y = true then some (PyData.eqv x y) else none
noncomputable def dEq : A4 -> Option SD
 | [x, y] => (dEqB x y).map fun b => .sh (.bool b)
 | _ => none
noncomputable def dNe : A4 -> Option SD
 | [x, y] => (dEqB x y).map fun b => .sh (.bool !b)
 | _ => none
theorem nO {K : W.Frag} {neg : Bool} {G H : Hp} {x y : V} {dx dy : PyData} {b : Bool} {Q : VK} (hg : Same G H) (h1 : Dt K G x dx) (h2 : Dt K G y dy) (e : dEqB dx dy = some b) (q : Q (.bl (if neg then !b else b)) H) : rEqM K neg x y H Q := by
 unfold dEqB at e
 split at e
 next i j => cases e; cases h1; cases h2; exact q
 next i j => cases e; cases h1; cases h2; exact q
 next i j => cases e; cases h1; cases h2; exact q
 next n1 n2 n3 =>
  split at e
  next hs =>
   cases e
   have h1' := h1.mono hg
   have h2' := h2.mono hg
   unfold rEqM
   split
   next i j => cases h1; cases h2; exact (n1 _ _ rfl rfl).elim
   next i j => cases h1; cases h2; exact (n2 _ _ rfl rfl).elim
   next i j => cases h1; cases h2; exact (n3 _ _ rfl rfl).elim
   next => exact ⟨dx, dy, h1', h2', hs.1, hs.2, q⟩
  next => cases e
theorem xv {K : W.Frag} {mg : A5} : Aq K mg dEq (l2 (rEqM K false)) := by
 intro G H vs ds res Q hg hd ho k
 unfold dEq at ho
 split at ho
 next x y =>
  obtain ⟨b, e, rfl⟩ := Option.map_eq_some_iff.mp ho
  obtain ⟨v, u, rfl, h1, h2⟩ := dts2 hd
  exact nO hg h1 h2 e (ans k hg (.bl _))
 next => cases ho
theorem xw {K : W.Frag} {mg : A5} : Aq K mg dNe (l2 (rEqM K true)) := by
 intro G H vs ds res Q hg hd ho k
 unfold dNe at ho
 split at ho
 next x y =>
  obtain ⟨b, e, rfl⟩ := Option.map_eq_some_iff.mp ho
  obtain ⟨v, u, rfl, h1, h2⟩ := dts2 hd
  exact nO hg h1 h2 e (ans k hg (.bl _))
 next => cases ho
noncomputable def Ar : PyData -> Option Key
 | .int i => some (.inl i)
 | .str x => some (.inr x)
 | _ => none
theorem eR (k : Key) : Ar (keyD k) = some k := by cases k <;> rfl
noncomputable def Bo (es : List (PyData × PyData)) (k : Key) : Option PyData := (es.find? fun p => decide (Ar p.1 = some k)).map (·.2)
noncomputable def Bp : PyData -> PyData -> Option PyData
 | .list xs, .int i => atI xs i
 | .tuple xs, .int i => atI xs i
 | .dict es, k => (Ar k).bind (Bo es)
 | _, _ => none
noncomputable def dIdx : A4 -> Option SD
 | [x, y] => (Bp x y).map .sh
 | _ => none
theorem Dts.atI {K : W.Frag} {G : Hp} {vs : List V} {ds : A4} {i : Int} {d : PyData} (h : Dts K G vs ds) (e : L2.atI ds i = some d) : ∃ v, L2.atI vs i = some v /\ Dt K G v d := by
 unfold L2.atI at e ⊢
 rw [h.len]
 obtain ⟨j, e1, e2⟩ := Option.bind_eq_some_iff.mp e
 obtain ⟨v, h1, h2⟩ := h.get' e2
 exact ⟨v, by rw [e1]; exact h1, h2⟩
theorem Des.find {K : W.Frag} {G : Hp} {k : Key} : ∀ {kvs : List (Key × V)} {es : List (PyData × PyData)} {d : PyData}, Des K G kvs es -> Bo es k = some d -> ∃ v, valV kvs k = some v /\ Dt K G v d
 | _, _, _, .nil, e => by cases e
 | _, _, d, .cons (k := j) (v := v) (d := d') x r, e => by
  unfold Bo at e
  rw [List.find?_cons] at e
  by_cases hk : j = k
  ·subst hk
   simp only [eR, decide_true, if_true, Option.map_some, Option.some.injEq] at e
   subst e
   exact ⟨v, gz rfl, x⟩
  ·have : ¬ (Ar (keyD j) = some k) := by rw [eR]; simpa using hk
   simp only [this, decide_false] at e
   obtain ⟨u, h1, h2⟩ := Des.find r e
   exact ⟨u, by rw [gA hk]; exact h1, h2⟩
theorem mI {K : W.Frag} {G : Hp} {y : V} {dy : PyData} {k : Key} (h : Dt K G y dy) (e : Ar dy = some k) : y = kV k := by
 cases h <;> simp [Ar] at e <;> subst e <;> rfl
theorem xx {K : W.Frag} {mg : A5} : Aq K mg dIdx (l2 (rIxA K)) := by
 intro G H vs ds res Q hg hd ho k
 unfold dIdx at ho
 split at ho
 next x y =>
  obtain ⟨d, e, rfl⟩ := Option.map_eq_some_iff.mp ho
  obtain ⟨v, u, rfl, h1, h2⟩ := dts2 hd
  unfold Bp at e
  split at e
  next xs i =>
   cases h2
   cases h1 with
   | lst q1 r1 =>
    obtain ⟨w, e1, e2⟩ := r1.atI e
    exact .inl ⟨_, w, .inl (hg.sqr q1).sq, e1, ans k hg e2⟩
  next xs i =>
   cases h2
   cases h1 with
   | tup q1 r1 =>
    obtain ⟨w, e1, e2⟩ := r1.atI e
    exact .inl ⟨_, w, .inr (hg.tup q1), e1, ans k hg e2⟩
  next es y' =>
   obtain ⟨kk, e1, e2⟩ := Option.bind_eq_some_iff.mp e
   have := mI h2 e1
   subst this
   cases h1 with
   | dct q1 r1 =>
    obtain ⟨w, e3, e4⟩ := r1.find e2
    exact .inr ⟨_, w, rfl, .inl ⟨_, kk, Rd.of (hg _ _ q1), rfl, e3.symm⟩, ans k hg e4⟩
  next => cases e
 next => cases ho
noncomputable def cutD (xs : A4) (lo hi : Option Int) : A4 := (xs.drop (HT.sIx xs.length 0 lo)).take (HT.sIx xs.length xs.length hi - HT.sIx xs.length 0 lo)
theorem Dts.cut {K : W.Frag} {G : Hp} {vs : List V} {ds : A4} (h : Dts K G vs ds) (lo hi : Option Int) : Dts K G (cutV vs lo hi) (cutD ds lo hi) := by
 unfold cutV cutD
 rw [h.len]
 exact (h.drop _).take _
section
variable {X : Cx} {E : XK} {a b e : Expr} {es : List Expr} {oa ob : Opd} {ops : List Opd} {pos : Pos}
theorem dk (ha : SO X E a oa) (hb : SO X E b ob) : SE X E (.BinOp a .Mult b pos) (eOp dMul [oa, ob]) := hW sA xu ha hb
theorem xy (hu : X.A.units + 64 < cLine) (ha : SO X E a oa) (hb : SO X E b ob) : SE X E (.Compare a [.Eq] [b] pos) (eOp dEq [oa, ob]) := iX (qg hu) xv ha hb (nomark _)
theorem xA (hu : X.A.units + 64 < cLine) (ha : SO X E a oa) (hb : SO X E b ob) : SE X E (.Compare a [.NotEq] [b] pos) (eOp dNe [oa, ob]) := iX (qh hu) xw ha hb (nomark _)
theorem bT (hu : X.A.units + 64 < cLine) (ha : SO X E a oa) (hb : SO X E b ob) (hp : Bs b := by intro _ _; rfl) : SE X E (.Subscript a b pos) (eOp dIdx [oa, ob]) := xn (zH (by lia)) xx ha hb hp
end
section
variable {X : Cx}
noncomputable def rSlS (K : W.Frag) : V -> Option Int -> Option Int -> Hp -> VK -> Prop := fun x lo hi H Q => ∃ a xs, x = .ref a /\ SqT K H a xs /\ (cutV xs lo hi = xs -> Q (.ref a) H) /\ ∀ p, H p = none -> Q (.ref p) (upd H p (.tup (cutV xs lo hi)))
theorem sC : SlR X (rSlS X.K) := by
 intro pins s σ H x v vl vu lo hi sl Q I rx hs pl pu h
 obtain ⟨a, xs, rfl, hx, q1, q2⟩ := h
 by_cases hw : HT.sIx xs.length 0 lo = 0 /\ HT.sIx xs.length xs.length hi = xs.length
 ·cases rx
  obtain ⟨its, r, ht, hz⟩ := I.tuple hx
  have hlen : its.toArray.size = xs.length := by rw [List.size_toArray]; exact r.length.symm
  refine ⟨"tuple", _, slot_tuple_getitem.lookup, ht.typeIs, ?_⟩
  refine HT.gC ht hs pl pu (by rw [hlen]; exact hw) ⟨.ref a, H, I, rfl, q1 ?_⟩
  unfold cutV
  rw [hw.1, hw.2]
  simp
 ·exact uK pins s σ H _ v vl vu lo hi sl Q I rx hs pl pu ⟨a, xs, rfl, hx, hw, q2⟩
noncomputable def rSlD (K : W.Frag) : V -> Option Int -> Option Int -> Hp -> VK -> Prop := fun x lo hi H Q => rSlL K x lo hi H Q \/ rSlS K x lo hi H Q
theorem xB : SlR X (rSlD X.K) := rN.or sC
end
noncomputable def slD (x : PyData) (lo hi : Option Int) : Option SD := match x with
 | .list xs => some (.ol (cutD xs lo hi))
 | .tuple xs => some (.sh (.tuple (cutD xs lo hi)))
 | _ => none
theorem xC {K : W.Frag} {mg : A5} {G H : Hp} {x : V} {d : PyData} {lo hi : Option Int} {res : SD} {Q : VK} (hg : Same G H) (hd : Dt K G x d) (ho : slD d lo hi = some res)
  (k : ∀ v H' G', Grow G H G' H' -> VN K mg H G' H' v res -> Q v H') : rSlD K x lo hi H Q := by
 unfold slD at ho
 split at ho
 next xs =>
  cases ho
  cases hd with
  | lst q r => exact .inl ⟨_, _, rfl, (hg.sqr q).sq, fun p hp => k _ _ _ (.laidO hg hp) (iq hg hp (r.cut lo hi))⟩
 next xs =>
  cases ho
  cases hd with
  | tup q r =>
   refine .inr ⟨_, _, rfl, hg.tup q, fun e => ?_, fun p hp => k _ _ _ (.laid hg hp) (kr hg hp (r.cut lo hi))⟩
   have r' := r.cut lo hi
   rw [e] at r'
   exact ans k hg (.tup q r')
 next => cases ho
noncomputable def dSlL : A4 -> Option SD
 | [x, .int l] => slD x (some l) none
 | _ => none
noncomputable def dSlH : A4 -> Option SD
 | [x, .int h] => slD x none (some h)
 | _ => none
section
variable {X : Cx} {E : XK} {e l h : Expr} {oe ol oh : Opd} {pos p2 : Pos}
theorem eS (he : SO X E e oe) (hl : SO X E l ol) : SE X E (.Subscript e (.Slice (some l) none none p2) pos) (eOp dSlL [oe, ol]) :=
 (lb xB he (nF hl) nE).weak fun σ H Q q => by
  refine hV (r := fun vs H1 Q => match vs with | [x, y] => ∃ i, y = .int i /\ rSlD X.K x (some i) none H1 Q | _ => False) (fun G H vs ds res Q hg hd ho k => ?_) q
  unfold dSlL at ho
  split at ho
  next x l =>
   obtain ⟨v, u, rfl, h1, h2⟩ := dts2 hd
   cases h2
   exact ⟨l, rfl, xC hg h1 ho k⟩
  next => cases ho
theorem qr (he : SO X E e oe) (hl : SO X E h oh) : SE X E (.Subscript e (.Slice none (some h) none p2) pos) (eOp dSlH [oe, oh]) :=
 (lb xB he nE (nF hl)).weak fun σ H Q q => by
  refine hV (r := fun vs H1 Q => match vs with | [x, y] => ∃ i, y = .int i /\ rSlD X.K x none (some i) H1 Q | _ => False) (fun G H vs ds res Q hg hd ho k => ?_) q
  unfold dSlH at ho
  split at ho
  next x l =>
   obtain ⟨v, u, rfl, h1, h2⟩ := dts2 hd
   cases h2
   exact ⟨l, rfl, xC hg h1 ho k⟩
  next => cases ho
end
section
variable {X : Cx} {E : XK} {e k : Expr} {oe ok : Opd} {pos p2 : Pos}
end
noncomputable def dLen : A4 -> Option SD
 | [.list xs] => some (.sh (.int xs.length))
 | [.tuple xs] => some (.sh (.int xs.length))
 | [.dict es] => some (.sh (.int es.length))
 | _ => none
theorem Des.len {K : W.Frag} {G : Hp} : ∀ {kvs : List (Key × V)} {es : List (PyData × PyData)}, Des K G kvs es -> kvs.length = es.length
 | _, _, .nil => rfl
 | _, _, .cons _ r => by rw [List.length_cons, List.length_cons, Des.len r]
noncomputable def Ci (K : W.Frag) : List V -> Hp -> VK -> Prop := fun xs H Q => ∃ a n, xs = [.ref a] /\ ((∃ ys, SqL K H a ys /\ n = ys.length) \/ (∃ ys, SqT K H a ys /\ n = ys.length) \/ ∃ kvs, Rd H a (.dK kvs) /\ n = kvs.length) /\ Q (.int (n : Int)) H
theorem oQ {X : Cx} : AD X (.builtin "len") (Ci X.K) := by
 intro pins s σ H xs us Q I r h
 obtain ⟨a, n, rfl, h, q⟩ := h
 rcases h with ⟨ys, h, rfl⟩ | ⟨ys, h, rfl⟩ | ⟨kvs, h, rfl⟩
 ·exact gx pins s σ H _ us Q I r ⟨a, ys, rfl, .inl h, q⟩
 ·exact gx pins s σ H _ us Q I r ⟨a, ys, rfl, .inr h, q⟩
 ·obtain ⟨u, rfl, ru⟩ := vals1 r
  cases ru
  exact xk I h fun t s' I' => ⟨.int kvs.length, H, I', ⟨t, rfl⟩, q⟩
theorem xD {K : W.Frag} {mg : A5} : Aq K mg dLen (Ci K) := by
 intro G H vs ds res Q hg hd ho k
 unfold dLen at ho
 split at ho
 next xs =>
  cases ho
  obtain ⟨x, rfl, h1⟩ := dts1 hd
  cases h1 with
  | lst q r => exact ⟨_, _, rfl, .inl ⟨_, (hg.sqr q).sq, rfl⟩, by rw [r.len]; exact ans k hg (.int _)⟩
 next xs =>
  cases ho
  obtain ⟨x, rfl, h1⟩ := dts1 hd
  cases h1 with
  | tup q r => exact ⟨_, _, rfl, .inr (.inl ⟨_, hg.tup q, rfl⟩), by rw [r.len]; exact ans k hg (.int _)⟩
 next xs =>
  cases ho
  obtain ⟨x, rfl, h1⟩ := dts1 hd
  cases h1 with
  | dct q r => exact ⟨_, _, rfl, .inr (.inr ⟨_, Rd.of (hg _ _ q), rfl⟩), by rw [r.len]; exact ans k hg (.int _)⟩
 next => cases ho
noncomputable def dAbs : A4 -> Option SD
 | [.int i] => some (.sh (.int (if i < 0 then -i else i)))
 | _ => none
theorem xE {K : W.Frag} {mg : A5} : Aq K mg dAbs (fun xs H Q => ∃ i, xs = [.int i] /\ Q (.int (if i < 0 then -i else i)) H) := by
 intro G H vs ds res Q hg hd ho k
 unfold dAbs at ho
 split at ho
 next i =>
  cases ho
  obtain ⟨x, rfl, h1⟩ := dts1 hd
  cases h1
  exact ⟨i, rfl, ans k hg (.int _)⟩
 next => cases ho
noncomputable def Be : A4 -> Option SD
 | [.list xs] => some (.ol xs)
 | [.tuple xs] => some (.ol xs)
 | [.dict es] => some (.ol (es.map (·.1)))
 | _ => none
theorem Des.keys {K : W.Frag} {G : Hp} : ∀ {kvs : List (Key × V)} {es : List (PyData × PyData)}, Des K G kvs es -> Dts K G (kvs.map fun kv => kV kv.1) (es.map (·.1))
 | _, _, .nil => .nil
 | _, _, .cons (k := k) _ r => by
  rw [List.map_cons, List.map_cons]
  refine .cons ?_ (Des.keys r)
  cases k with
  | inl i => exact .int i
  | inr x => exact .str x
theorem lA {X : Cx} (hc : X.calm = true) : AD X (.type "list") (fun xs H Q => ∃ a kvs, xs = [.ref a] /\ Rd H a (.dK kvs) /\ ∀ p, H p = none -> Q (.ref p) (upd H p (.lst (kvs.map fun kv => kV kv.1)))) := by
 intro pins s σ H xs us Q I r h
 obtain ⟨a, kvs, rfl, ha, q⟩ := h
 obtain ⟨u, rfl, r1⟩ := vals1 r
 cases r1
 obtain ⟨hz, hsm, vs, kv, dd⟩ := (show Ao X.prog X.w H s.heap a (.dK kvs) from ha.ok I.hok)
 obtain ⟨od, es, ep, dr⟩ := dd
 have da : s.heap.DictAt (Ah X.prog X.w) a vs ep := ⟨od, es, dr⟩
 have hlen : kvs.length = vs.length := Paired.length kv
 refine W.kdl_call (W.kdl_dict hsm) (I.ok.hd hc) da (by lia) fun h' tk acc' c' hk ho hi => ?_
 refine ⟨.ref s.heap.objs.size, _, I.laid (t' := tk) hk (Nat.le_refl _) ?_, rfl, q _ (I.hok.fresh (Nat.le_refl _))⟩
 refine ⟨by rw [List.length_map]; exact hz, acc'.toList, c', ?_, by simpa using ho⟩
 refine ip (by rw [List.length_map, hlen, <- hi.1]; simp) fun j x u e1 e2 => ?_
 rw [List.getElem?_map] at e1
 cases e3 : kvs[j]? with
 | none => rw [e3] at e1; cases e1
 | some kv1 =>
  rw [e3] at e1
  simp only [Option.map_some, Option.some.injEq] at e1
  subst e1
  obtain ⟨k, x, e4, hk⟩ := hi.2 j u (by rw [<- Array.getElem?_toList]; exact e2)
  obtain ⟨q1, e5, ek, _⟩ := iU kv e3
  rw [e4] at e5
  cases e5
  rw [ek]
  rcases b9 hk with ⟨i, t, rfl, rfl⟩ | ⟨y, t, rfl, rfl⟩
  ·exact ⟨t, rfl⟩
  ·exact ⟨t, rfl⟩
noncomputable def BY (K : W.Frag) : List V -> Hp -> VK -> Prop := fun xs H Q => ∃ a ys, xs = [.ref a] /\ (SqL K H a ys \/ SqT K H a ys \/ ∃ kvs, Rd H a (.dK kvs) /\ ys = kvs.map fun kv => kV kv.1) /\ ∀ p, H p = none -> Q (.ref p) (upd H p (.lst ys))
theorem mJ {X : Cx} (hc : X.calm = true) : AD X (.type "list") (BY X.K) := by
 intro pins s σ H xs us Q I r h
 obtain ⟨a, ys, rfl, h, q⟩ := h
 rcases h with h | h | ⟨kvs, h, rfl⟩
 ·exact gy pins s σ H _ us Q I r ⟨a, ys, rfl, .inl h, q⟩
 ·exact gy pins s σ H _ us Q I r ⟨a, ys, rfl, .inr h, q⟩
 ·exact lA hc pins s σ H _ us Q I r ⟨a, kvs, rfl, h, q⟩
theorem uU {K : W.Frag} {mg : A5} : Aq K mg Be (BY K) := by
 intro G H vs ds res Q hg hd ho k
 unfold Be at ho
 split at ho
 next xs =>
  cases ho
  obtain ⟨x, rfl, h1⟩ := dts1 hd
  cases h1 with
  | lst q r => exact ⟨_, _, rfl, .inl ((hg.sqr q).sq), fun p hp => k _ _ _ (.laidO hg hp) (iq hg hp r)⟩
 next xs =>
  cases ho
  obtain ⟨x, rfl, h1⟩ := dts1 hd
  cases h1 with
  | tup q r => exact ⟨_, _, rfl, .inr (.inl (hg.tup q)), fun p hp => k _ _ _ (.laidO hg hp) (iq hg hp r)⟩
 next xs =>
  cases ho
  obtain ⟨x, rfl, h1⟩ := dts1 hd
  cases h1 with
  | dct q r => exact ⟨_, _, rfl, .inr (.inr ⟨_, Rd.of (hg _ _ q), rfl⟩), fun p hp => k _ _ _ (.laidO hg hp) (iq hg hp r.keys)⟩
 next => cases ho
noncomputable def AI : A4 -> Option SD
 | [.list xs] => some (.sh (.tuple xs))
 | [.tuple xs] => some (.sh (.tuple xs))
 | _ => none
theorem sD {K : W.Frag} {mg : A5} : Aq K mg AI (fun xs H Q => ∃ p ys, xs = [.ref p] /\ ((SqL K H p ys /\ ∀ l, H l = none -> Q (.ref l) (upd H l (.tup ys))) \/ (SqT K H p ys /\ Q (.ref p) H))) := by
 intro G H vs ds res Q hg hd ho k
 unfold AI at ho
 split at ho
 next xs =>
  cases ho
  obtain ⟨x, rfl, h1⟩ := dts1 hd
  cases h1 with
  | lst q r => exact ⟨_, _, rfl, .inl ⟨(hg.sqr q).sq, fun p hp => k _ _ _ (.laid hg hp) (kr hg hp r)⟩⟩
 next xs =>
  cases ho
  obtain ⟨x, rfl, h1⟩ := dts1 hd
  cases h1 with
  | tup q r => exact ⟨_, _, rfl, .inr ⟨hg.tup q, ans k hg (.tup q r)⟩⟩
 next => cases ho
noncomputable def B6 : A4 -> Option (List Int)
 | [] => some []
 | .int i :: r => (B6 r).map (i :: ·)
 | _ :: _ => none
theorem lB {K : W.Frag} {G : Hp} : ∀ {vs : List V} {ds : A4} {ns : List Int}, Dts K G vs ds -> B6 ds = some ns -> vs = ns.map V.int
 | _, _, _, .nil, e => by cases e; rfl
 | _, _, _, .cons (d := d) h r, e => by
  cases d with
  | int i =>
   simp only [B6, Option.map_eq_some_iff] at e
   obtain ⟨ns, e1, rfl⟩ := e
   cases h
   rw [lB r e1, List.map_cons]
  | _ => cases e
noncomputable def insI (x : Int) : List Int -> List Int
 | [] => [x]
 | y :: r => if x <= y then x :: y :: r else y :: insI x r
noncomputable def B2 : List Int -> List Int
 | [] => []
 | x :: r => insI x (B2 r)
theorem hX (x : Int) : ∀ l, (insI x l).Perm (x :: l)
 | [] => .refl _
 | y :: r => by
  unfold insI
  split
  ·exact .refl _
  ·exact ((hX x r).cons y).trans (.swap x y r)
theorem eT : ∀ l, (B2 l).Perm l
 | [] => .refl _
 | x :: r => (hX x _).trans ((eT r).cons x)
theorem jM (x : Int) : ∀ l, l.Pairwise (· <= ·) -> (insI x l).Pairwise (· <= ·)
 | [], _ => by simp [insI]
 | y :: r, h => by
  obtain ⟨h1, h2⟩ := List.pairwise_cons.mp h
  unfold insI
  split
  next hxy => exact List.pairwise_cons.mpr ⟨fun z hz => by
    rcases List.mem_cons.mp hz with e | e
    ·rw [e]; exact hxy
    ·exact Int.le_trans hxy (h1 z e), h⟩
  next hxy => exact List.pairwise_cons.mpr ⟨fun z hz => by
    rcases List.mem_cons.mp ((hX x r).mem_iff.mp hz) with e | e
    ·rw [e]; lia
    ·exact h1 z e, jM x r h2⟩
theorem iY : ∀ l, (B2 l).Pairwise (· <= ·)
 | [] => .nil
 | x :: r => jM x _ (iY r)
theorem qt {r l : List Int} (hp : r.Perm l) (hr : r.Pairwise (· <= ·)) : r = B2 l :=
 (hp.trans (eT l).symm).eq_of_pairwise (le := (· <= ·)) (fun a b _ _ h1 h2 => Int.le_antisymm h1 h2) hr (iY l)
noncomputable def Bi : A4 -> Option SD
 | [.list xs] => if xs.length < 64 then (B6 xs).map fun ns => .ol ((B2 ns).map PyData.int) else none
 | _ => none
noncomputable def Ct (K : W.Frag) : List V -> Hp -> VK -> Prop := fun xs H Q => ∃ a ns, xs = [.ref a] /\ SqL K H a (ns.map V.int) /\ ns.length < 64 /\ ∀ (ns' : List Int) p, ns'.Perm ns -> ns'.Pairwise (· <= ·) -> H p = none -> Q (.ref p) (upd H p (.lst (ns'.map V.int)))
theorem sE {K : W.Frag} {mg : A5} : Aq K mg Bi (Ct K) := by
 intro G H vs ds res Q hg hd ho k
 unfold Bi at ho
 split at ho
 next xs =>
  split at ho
  next hl =>
   obtain ⟨ns, e, rfl⟩ := Option.map_eq_some_iff.mp ho
   obtain ⟨x, rfl, h1⟩ := dts1 hd
   cases h1 with
   | lst q r =>
    have e2 := lB r e
    subst e2
    have hlen := r.len
    rw [List.length_map] at hlen
    refine ⟨_, ns, rfl, (hg.sqr q).sq, by lia, fun ns' p h1 h2 hp => ?_⟩
    rw [qt h1 h2]
    exact k _ _ _ (.laidO hg hp) (iq hg hp (Dts.ints _))
  next => cases ho
 next => cases ho
noncomputable def dIsi (T : String) : A4 -> Option SD
 | [.dict _] => none
 | [d] => some (.sh (.bool (isiD T d)))
 | _ => none
section
variable {X : Cx} {E : XK} {a e : Expr} {oa : Opd} {ops : List Opd} {pos p q : Pos}
theorem g8 (hm : X.mg "len" = none) (ha : SO X E a oa) (hg : Gl X "len" := by rfl) (hst : starEach [a] X.env = [(false, eval a X.env)] := by rfl) : SE X E (.Call (.Name "len" p) [a] [] pos) (eOp dLen [oa]) :=
 gF oQ xD hm PySem.boot_len (aa ha ag hst) hg (by decide) (by decide) hst rfl
theorem mK (hm : X.mg "abs" = none) (hb : bootBuiltins "abs" = some (.builtin "abs")) (ha : SO X E a oa) (hg : Gl X "abs" := by rfl) (hst : starEach [a] X.env = [(false, eval a X.env)] := by rfl) : SE X E (.Call (.Name "abs" p) [a] [] pos) (eOp dAbs [oa]) :=
 gF pQ xE hm hb (aa ha ag hst) hg (by decide) (by decide) hst rfl
theorem qu (hm : X.mg "sorted" = none) (hb : bootBuiltins "sorted" = some (.builtin "sorted")) (ha : SO X E a oa) (hg : Gl X "sorted" := by rfl) (hst : starEach [a] X.env = [(false, eval a X.env)] := by rfl) : SE X E (.Call (.Name "sorted" p) [a] [] pos) (eOp Bi [oa]) :=
 gF kq sE hm hb (aa ha ag hst) hg (by decide) (by decide) hst rfl
theorem nP (hc : X.calm = true) (hm : X.mg "list" = none) (hb : bootBuiltins "list" = some (.type "list")) (ha : SO X E a oa) (hg : Gl X "list" := by rfl) (hst : starEach [a] X.env = [(false, eval a X.env)] := by rfl) : SE X E (.Call (.Name "list" p) [a] [] pos) (eOp Be [oa]) :=
 lz (mJ hc) uU hm hb (aa ha ag hst) hg (by decide) (by decide) hst rfl
theorem gG (hm : X.mg "tuple" = none) (hb : bootBuiltins "tuple" = some (.type "tuple")) (ha : SO X E a oa) (hg : Gl X "tuple" := by rfl) (hst : starEach [a] X.env = [(false, eval a X.env)] := by rfl) : SE X E (.Call (.Name "tuple" p) [a] [] pos) (eOp AI [oa]) :=
 lz eh sD hm hb (aa ha ag hst) hg (by decide) (by decide) hst rfl
theorem eU {x : Str} (T : String) (hm : X.mg "isinstance" = none) (hm2 : X.mg x = none) (hv : bootBuiltins x = some (.type T)) (hT : kitT T = true) (hb : bootBuiltins "isinstance" = some (.builtin "isinstance")) (ha : SO X E a oa) (hg : Gl X "isinstance" := by rfl) (hg2 : Gl X x := by rfl)
  (hst : starEach [a, .Name x q] X.env = [(false, eval a X.env), (false, eval (.Name x q) X.env)] := by rfl) (hst2 : starEach [.Name x q] X.env = [(false, eval (.Name x q) X.env)] := by rfl) (hn : x ≠ "__name__" := by decide) (hd : (x == ("__debug__" : Str)) = false := by decide) :
  SE X E (.Call (.Name "isinstance" p) [a, .Name x q] [] pos) (eOp (dIsi T) [oa]) := by
 refine (iR oM hg hm hb (aV ha (aV (tU hm2 hv hg2 hn hd) bC hst2) (by rw [hst, hst2])) (by decide) (by decide) (by rw [hst, hst2]) (by rw [hst2]; rfl)).weak fun σ H Q h => ?_
 refine hV (r := fun vs H1 Q => ∃ x d T', vs ++ [V.ty T] = [x, .ty T'] /\ kitT T' = true /\ Dt X.K H1 x d /\ (∀ kvs, d ≠ .dict kvs) /\ Q (.bl (isiD T' d)) H1) (fun G H vs ds res Q hgg hdd ho k => ?_) h
 unfold dIsi at ho
 split at ho
 next => cases ho
 next d hne =>
  cases ho
  obtain ⟨v, rfl, h1⟩ := dts1 hdd
  exact ⟨v, d, T, rfl, hT, h1.mono hgg, fun kvs z => hne kvs z, ans k hgg (.bl _)⟩
 next => cases ho
end
noncomputable def AN : PyData -> Option Bool
 | .none => some false
 | .bool b => some b
 | .int i => some (i != 0)
 | .str y => if y.length <= sizeLine then some ((y.length : Int) != 0) else none
 | .list xs => some (!xs.isEmpty)
 | .tuple xs => some (!xs.isEmpty)
 | .dict es => some (!es.isEmpty)
noncomputable def tstO (o : Opd) : DT := fun δ => (opds [o] δ).bind fun p => match p.1 with
 | [d] => (match AN d with
  | some b => .ok (b, p.2.1)
  | none => .bad)
 | _ => .bad
noncomputable def tstV (f : DE) : DT := fun δ => (f δ).bind fun p => match p.1 with
 | .sh (.bool b) => .ok (b, p.2)
 | _ => .bad
noncomputable def Ap (f : DT) : DT := fun δ => (f δ).bind fun p => .ok (!p.1, p.2)
noncomputable def AQ (f g : DT) : DT := fun δ => (f δ).bind fun p => if p.1 = true then g p.2 else .ok (false, p.2)
noncomputable def B7 (f g : DT) : DT := fun δ => (f δ).bind fun p => if p.1 = true then .ok (true, p.2) else g p.2
abbrev SW (X : Cx) (E : XK) (e : Expr) (f : DT) : Prop := PW X e (tT X.K X.mg E f)
section
variable {K : W.Frag} {mg : A5} {E : XK} {G0 H0 G H : Hp} {σ : St} {δ : DEnv}
theorem oR {x : V} {d : PyData} {b : Bool} (hg : Same G H) (h : Dt K G x d) (e : AN d = some b) : TruV K x H b := by
 cases h with
 | non => cases e; rfl
 | bl k => cases e; rfl
 | int i => cases e; rfl
 | str y =>
  have e' : (if y.length <= sizeLine then some ((y.length : Int) != 0) else none) = some b := e
  split at e'
  next hy => cases e'; exact ⟨hy, rfl⟩
  next => cases e'
 | lst q r =>
  cases e
  refine .inl ⟨_, (hg.sqr q).sq, ?_⟩
  cases r <;> rfl
 | tup q r =>
  cases e
  refine .inr (.inl ⟨_, hg.tup q, ?_⟩)
  cases r <;> rfl
 | dct q r =>
  cases e
  refine .inr (.inr ⟨_, hg _ _ q, ?_⟩)
  cases r <;> rfl
theorem zI {f : DE} {Q : Bool -> Hp -> Prop} (h : tT K mg E (tstV f) σ H Q) : tE K mg E f σ H fun x H' => ∃ k, x = .bl k /\ Q k H' := by
 obtain ⟨G0, H0, G, δ, R, m⟩ := h
 refine ⟨G0, H0, G, δ, R, ?_⟩
 unfold tstV at m
 cases e : f δ with
 | ok p =>
  rw [e, Out.bind_ok] at m
  intro v H' G' R' s rr
  split at m
  next b q =>
   rw [q] at rr
   have := rr.1
   cases this
   exact ⟨b, rfl, m H' G' R' s⟩
  next => exact m.elim
 | exc x => rw [e] at m; exact m
 | bad => rw [e] at m; exact m
end
section
variable {X : Cx} {E : XK} {a b c e : Expr} {oa ob : Opd} {f g h : DE} {tf tg : DT} {pos : Pos} {rest : List Expr}
theorem fv (ha : SO X E a oa) (he : ∀ whole, isTrue a X.env whole = (do let v <- whole; standAt a.pos; holding [v] (truthy v)) := by intro _; rfl) : ST X E a (tstO oa) :=
 (pP ha he).weak fun σ H Q ⟨G0, H0, G, δ, R, m⟩ => by
  have key : tOs X.K X.mg E [oa] σ H fun vs H1 => ∃ x k, vs = [x] /\ TruV X.K x H1 k /\ Q k H1 := by
   refine fu [oa] R ?_
   unfold tstO opds at m
   cases e1 : evO [oa] δ with
   | ok p =>
    rw [e1, Out.bind_ok] at m
    intro vs H1 G1 R1 s1 ov
    cases e2 : Ay (Aj (Ak p.1) p.2) p.1 with
    | none => rw [e2] at m; exact m.elim
    | some ds =>
     rw [e2, Out.bind_ok] at m
     obtain ⟨G2, l, R2, L⟩ := R1.relA (Ak p.1)
     have hd := (ov.mono L.ext).view R2 e2
     dsimp only at m
     split at m
     next d =>
      obtain ⟨x, rfl, h1⟩ := dts1 hd
      cases e3 : AN d with
      | none => rw [e3] at m; exact m.elim
      | some k =>
       rw [e3] at m
       exact ⟨x, k, rfl, oR R2.g.gh h1 e3, m H1 G1 R1 s1⟩
     next => exact m.elim
   | exc x => rw [e1] at m; exact m
   | bad => rw [e1] at m; exact m
  have mono : ∀ {t : Opd} {P P' : V -> Hp -> Prop}, (∀ v H, P v H -> P' v H) -> tO X.K X.mg E t σ H P -> tO X.K X.mg E t σ H P' := fun {t P P'} hp q => by
   cases t with
   | nm i => obtain ⟨v, h1, h2⟩ := q; exact ⟨v, h1, hp _ _ h2⟩
   | ex f =>
    obtain ⟨G0, H0, G, δ, R, m⟩ := q
    refine ⟨G0, H0, G, δ, R, ?_⟩
    cases e : f δ with
    | ok p => rw [e] at m; exact fun v H' G' R' s rr => hp _ _ (m v H' G' R' s rr)
    | exc x => rw [e] at m; exact m
    | bad => rw [e] at m; exact m
  exact mono (fun v H1 ⟨x, k, ex, h1, h2⟩ => by cases ex; exact ⟨k, h1, h2⟩) key
theorem oS (h : SW X E e tf) : ST X E e tf := PW.pt h
theorem g9 {op : CmpOp} {r : R2} {o : A4 -> Option SD} (ho : OpR X (compareOp op) r) (hs : Aq X.K X.mg o (l2 r)) (ha : SO X E a oa) (hb : SO X E b ob) (hm : behindInMarks op b = false) : ST X E (.Compare a [op] [b] pos) (tstV (eOp o [oa, ob])) :=
 (rD ho ha hb hm).weak fun _ _ _ h => hV hs (zI h)
theorem qv (ha : SO X E a oa) (hb : SO X E b ob) : ST X E (.Compare a [.Lt] [b] pos) (tstV (eOp dLt [oa, ob])) := g9 xa (oP fun _ _ _ => .bl _) ha hb (nomark _)
theorem xF (ha : SO X E a oa) (hb : SO X E b ob) : ST X E (.Compare a [.LtE] [b] pos) (tstV (eOp dLe [oa, ob])) := g9 tP (oP fun _ _ _ => .bl _) ha hb (nomark _)
theorem qw (ha : SO X E a oa) (hb : SO X E b ob) : ST X E (.Compare a [.Gt] [b] pos) (tstV (eOp dGt [oa, ob])) := g9 xb (oP fun _ _ _ => .bl _) ha hb (nomark _)
theorem bj (hu : X.A.units + 64 < cLine) (ha : SO X E a oa) (hb : SO X E b ob) : ST X E (.Compare a [.Eq] [b] pos) (tstV (eOp dEq [oa, ob])) := g9 (qg hu) xv ha hb (nomark _)
theorem nQ (hu : X.A.units + 64 < cLine) (ha : SO X E a oa) (hb : SO X E b ob) : ST X E (.Compare a [.NotEq] [b] pos) (tstV (eOp dNe [oa, ob])) := g9 (qh hu) xw ha hb (nomark _)
theorem w_not {K : W.Frag} {mg : A5} {σ : St} {H : Hp} {Q : Bool -> Hp -> Prop} (q : tT K mg E (Ap tf) σ H Q) : tNot (tT K mg E tf) σ H Q := by
 obtain ⟨G0, H0, G, δ, R, m⟩ := q
 refine ⟨G0, H0, G, δ, R, ?_⟩
 unfold Ap at m
 cases e : tf δ with
 | ok p => rw [e, Out.bind_ok] at m; exact fun H' G' R' s => m H' G' R' s
 | exc x => rw [e] at m; exact m
 | bad => rw [e] at m; exact m
theorem cz (ha : ST X E a tf) : ST X E (.UnaryOp .Not a pos) (Ap tf) := (uq ha).weak fun _ _ _ q => w_not q
theorem xG {K : W.Frag} {mg : A5} {σ : St} {H : Hp} {Q : Bool -> Hp -> Prop} (q : tT K mg E (AQ tf tg) σ H Q) : tAnd (tT K mg E tf) (tT K mg E tg) σ H Q := by
 obtain ⟨G0, H0, G, δ, R, m⟩ := q
 refine ⟨G0, H0, G, δ, R, ?_⟩
 unfold AQ at m
 cases e : tf δ with
 | ok p =>
  rw [e, Out.bind_ok] at m
  intro H' G' R' s
  split
  next hb =>
   rw [if_pos hb] at m
   refine ⟨G0, H0, G', p.2, R', ?_⟩
   cases e2 : tg p.2 with
   | ok q => rw [e2] at m; exact fun H2 G2 R2 s2 => m H2 G2 R2 (s.trans s2)
   | exc x => rw [e2] at m; exact m
   | bad => rw [e2] at m; exact m
  next hb => rw [if_neg hb] at m; exact m H' G' R' s
 | exc x => rw [e] at m; exact m
 | bad => rw [e] at m; exact m
theorem zJ {K : W.Frag} {mg : A5} {σ : St} {H : Hp} {Q : Bool -> Hp -> Prop} (q : tT K mg E (B7 tf tg) σ H Q) : tOr (tT K mg E tf) (tT K mg E tg) σ H Q := by
 obtain ⟨G0, H0, G, δ, R, m⟩ := q
 refine ⟨G0, H0, G, δ, R, ?_⟩
 unfold B7 at m
 cases e : tf δ with
 | ok p =>
  rw [e, Out.bind_ok] at m
  intro H' G' R' s
  split
  next hb => rw [if_pos hb] at m; exact m H' G' R' s
  next hb =>
   rw [if_neg hb] at m
   refine ⟨G0, H0, G', p.2, R', ?_⟩
   cases e2 : tg p.2 with
   | ok q => rw [e2] at m; exact fun H2 G2 R2 s2 => m H2 G2 R2 (s.trans s2)
   | exc x => rw [e2] at m; exact m
   | bad => rw [e2] at m; exact m
 | exc x => rw [e] at m; exact m
 | bad => rw [e] at m; exact m
theorem nR (ha : ST X E a tf) : SW X E (.BoolOp .And [a] pos) tf := rq ha
theorem kx (ha : ST X E a tf) : SW X E (.BoolOp .Or [a] pos) tf := um ha
theorem qx (ha : ST X E a tf) (hb : SW X E (.BoolOp .And (b :: rest) pos) tg) : SW X E (.BoolOp .And (a :: b :: rest) pos) (AQ tf tg) := (uo ha hb).weak fun _ _ _ q => xG q
theorem lC (ha : ST X E a tf) (hb : SW X E (.BoolOp .Or (b :: rest) pos) tg) : SW X E (.BoolOp .Or (a :: b :: rest) pos) (B7 tf tg) := (wX ha hb).weak fun _ _ _ q => zJ q
end
noncomputable def eNot (f : DE) : DE := fun δ => (f δ).bind fun p => match p.1 with
 | .sh (.bool b) => .ok (.sh (.bool !b), p.2)
 | _ => .bad
noncomputable def eAnd (f g : DE) : DE := fun δ => (f δ).bind fun p => match p.1 with
 | .sh (.bool b) => if b = true then g p.2 else .ok (.sh (.bool false), p.2)
 | _ => .bad
noncomputable def eOr (f g : DE) : DE := fun δ => (f δ).bind fun p => match p.1 with
 | .sh (.bool b) => if b = true then .ok (.sh (.bool true), p.2) else g p.2
 | _ => .bad
section
variable {K : W.Frag} {mg : A5} {E : XK} {G0 H0 G G1 H : Hp} {σ : St} {δ : DEnv}
theorem PoE.mono {Q : VK} {x : Out (SD × DEnv)} (s : Same G G1) (h : PoE K mg E G0 H0 G σ Q x) : PoE K mg E G0 H0 G1 σ Q x := by
 cases x with
 | ok p => exact fun v H' G' R' s' rr => h v H' G' R' (s.trans s') rr
 | exc x => exact h
 | bad => exact h
end
section
variable {X : Cx} {E : XK} {a b c e : Expr} {f g : DE} {tf : DT} {pos : Pos} {rest : List Expr}
theorem uV (ha : SE X E a f) : SE X E (.UnaryOp .Not a pos) (eNot f) := (uw ha).weak fun σ H Q ⟨G0, H0, G, δ, R, m⟩ => by
 refine ⟨G0, H0, G, δ, R, ?_⟩
 unfold eNot at m
 cases e : f δ with
 | ok p =>
  rw [e, Out.bind_ok] at m
  intro v H' G' R' s rr
  split at m
  next b q =>
   rw [q] at rr
   have := rr.1
   cases this
   exact ⟨b, rfl, m _ H' G' R' s (RR.sh (.bl _))⟩
  next => exact m.elim
 | exc x => rw [e] at m; exact m
 | bad => rw [e] at m; exact m
theorem hZ {op : BoolOp} (ha : SE X E a f) : SE X E (.BoolOp op [a] pos) f := ur ha
theorem i0 (ha : SE X E a f) (hb : SE X E (.BoolOp .And (b :: rest) pos) g) : SE X E (.BoolOp .And (a :: b :: rest) pos) (eAnd f g) := (uu ha hb).weak fun σ H Q ⟨G0, H0, G, δ, R, m⟩ => by
 refine ⟨G0, H0, G, δ, R, ?_⟩
 unfold eAnd at m
 cases e : f δ with
 | ok p =>
  rw [e, Out.bind_ok] at m
  intro v H' G' R' s rr
  split at m
  next b q =>
   rw [q] at rr
   have := rr.1
   cases this
   refine ⟨b, rfl, ?_⟩
   split
   next hb => rw [if_pos hb] at m; exact ⟨G0, H0, G', p.2, R', m.mono s⟩
   next hb => rw [if_neg hb] at m; exact m _ H' G' R' s (RR.sh (.bl _))
  next => exact m.elim
 | exc x => rw [e] at m; exact m
 | bad => rw [e] at m; exact m
theorem xH (ha : SE X E a f) (hb : SE X E (.BoolOp .Or (b :: rest) pos) g) : SE X E (.BoolOp .Or (a :: b :: rest) pos) (eOr f g) := (wY ha hb).weak fun σ H Q ⟨G0, H0, G, δ, R, m⟩ => by
 refine ⟨G0, H0, G, δ, R, ?_⟩
 unfold eOr at m
 cases e : f δ with
 | ok p =>
  rw [e, Out.bind_ok] at m
  intro v H' G' R' s rr
  split at m
  next b q =>
   rw [q] at rr
   have := rr.1
   cases this
   refine ⟨b, rfl, ?_⟩
   split
   next hb => rw [if_pos hb] at m; exact m _ H' G' R' s (RR.sh (.bl _))
   next hb => rw [if_neg hb] at m; exact ⟨G0, H0, G', p.2, R', m.mono s⟩
  next => exact m.elim
 | exc x => rw [e] at m; exact m
 | bad => rw [e] at m; exact m
end
inductive SOut where
 | nx (δ : DEnv)
 | rt (r : SD)
 | bk (δ : DEnv)
 | ct (δ : DEnv)
 | exc (x : Str)
 | bad
abbrev DS := DEnv -> SOut
noncomputable def PoS (K : W.Frag) (mg : A5) (E : XK) (G0 H0 G : Hp) (D : Ends) : SOut -> Prop
 | .nx δ' => ∀ σ' H' G', Rel K mg G0 H0 G' H' σ' δ' -> Same G G' -> D.nx σ' H'
 | .bk δ' => ∀ σ' H' G', Rel K mg G0 H0 G' H' σ' δ' -> Same G G' -> D.bk σ' H'
 | .ct δ' => ∀ σ' H' G', Rel K mg G0 H0 G' H' σ' δ' -> Same G G' -> D.ct σ' H'
 | .rt r => ∀ v H' G', Grow G0 H0 G' H' -> VN K mg H0 G' H' v r -> D.rt v H'
 | .exc x => PoX mg E H0 x
 | .bad => False
noncomputable def tS (K : W.Frag) (mg : A5) (E : XK) (f : DS) : TS := fun D σ H => ∃ G0 H0 G δ, Rel K mg G0 H0 G H σ δ /\ PoS K mg E G0 H0 G D (f δ)
abbrev S1 (X : Cx) (E : XK) (st : Stmt) (f : DS) : Prop := PS X st (tS X.K X.mg E f)
abbrev SS (X : Cx) (E : XK) (st : List Stmt) (f : DS) : Prop := PSs X st (tS X.K X.mg E f)
theorem PoS.mono {K : W.Frag} {mg : A5} {E : XK} {G0 H0 G G1 : Hp} {D : Ends} {x : SOut} (s : Same G G1) (h : PoS K mg E G0 H0 G D x) : PoS K mg E G0 H0 G1 D x := by
 cases x with
 | nx δ => exact fun σ' H' G' R' s' => h σ' H' G' R' (s.trans s')
 | bk δ => exact fun σ' H' G' R' s' => h σ' H' G' R' (s.trans s')
 | ct δ => exact fun σ' H' G' R' s' => h σ' H' G' R' (s.trans s')
 | rt r => exact h
 | exc x => exact h
 | bad => exact h
def Af : DS := fun δ => .nx δ
noncomputable def sSeq (f g : DS) : DS := fun δ => match f δ with
 | .nx δ' => g δ'
 | r => r
noncomputable def sAsg (i : Nat) (f : DE) : DS := fun δ => match f δ with
 | .ok p => if i < p.2.length then .nx (p.2.set i (some p.1)) else .bad
 | .exc x => .exc x
 | .bad => .bad
noncomputable def Bq (f : DE) : DS := fun δ => match f δ with
 | .ok p => .nx p.2
 | .exc x => .exc x
 | .bad => .bad
noncomputable def sRet (f : DE) : DS := fun δ => match f δ with
 | .ok p => .rt p.1
 | .exc x => .exc x
 | .bad => .bad
noncomputable def BK (i : Nat) : DS := fun δ => match δ[i]? with
 | some (some r) => .rt r
 | _ => .bad
noncomputable def sIf (t : DT) (f g : DS) : DS := fun δ => match t δ with
 | .ok p => if p.1 = true then f p.2 else g p.2
 | .exc x => .exc x
 | .bad => .bad
section
variable {X : Cx} {E : XK} {st : Stmt} {rest body body2 : List Stmt} {f g : DS} {e c : Expr} {fe : DE} {tf : DT} {pos pos' : Pos} {x : Str} {i : Nat}
theorem az : SS X E [] Af := nv.weak fun D σ H ⟨G0, H0, G, δ, R, m⟩ => m σ H G R (.refl _)
theorem ai (h1 : S1 X E st f) (h2 : SS X E rest g) : SS X E (st :: rest) (sSeq f g) := (dH h1 h2).weak fun D σ H ⟨G0, H0, G, δ, R, m⟩ => by
 refine ⟨G0, H0, G, δ, R, ?_⟩
 unfold sSeq at m
 cases e : f δ with
 | nx δ' => rw [e] at m; exact fun σ' H' G' R' s => ⟨G0, H0, G', δ', R', m.mono s⟩
 | bk δ => rw [e] at m; exact m
 | ct δ => rw [e] at m; exact m
 | rt r => rw [e] at m; exact m
 | exc x => rw [e] at m; exact m
 | bad => rw [e] at m; exact m
theorem aq (h1 : S1 X E st f) : SS X E [st] f := rz h1
theorem tV {K : W.Frag} {mg : A5} {D : Ends} {σ : St} {H : Hp} (q : tS K mg E (sAsg i fe) D σ H) : tAsg (tE K mg E fe) (AC i) D σ H := by
 obtain ⟨G0, H0, G, δ, R, m⟩ := q
 refine ⟨G0, H0, G, δ, R, ?_⟩
 unfold sAsg at m
 cases e : fe δ with
 | ok p =>
  rw [e] at m
  dsimp only at m
  intro v H' G' R' s rr
  split at m
  next hi => exact m _ H' G' (R'.store (by rw [<- R'.len]; exact hi) rr.less) s
  next => exact m.elim
 | exc x => rw [e] at m; exact m
 | bad => rw [e] at m; exact m
theorem aA (i : Nat) (hN : X.N.Nodup) (he : SE X E e fe) (hi : X.N[i]? = some x := by rfl) (hx : Loc X.env.scope x := by first | exact Or.inl rfl | exact Or.inr rfl) (hs : swapsWith e (some (.Name x pos')) pos.line X.env = pure false := by rfl)
  (hf : X.fn x = true \/ X.env.scope.names.lookup x = some .local := by first | exact .inl rfl | exact .inr rfl | assumption) : S1 X E (.Assign [.Name x pos'] e pos) (sAsg i fe) := (pH hN hi hx he hs hf).weak fun _ _ _ q => tV q
theorem nS (he : SE X E e fe) (hs : swapsWith e none pos.line X.env = pure false := by rfl) : S1 X E (.Expr e pos) (Bq fe) := (ny he hs).weak fun D σ H ⟨G0, H0, G, δ, R, m⟩ => by
 refine ⟨G0, H0, G, δ, R, ?_⟩
 unfold Bq at m
 cases e : fe δ with
 | ok p => rw [e] at m; exact fun v H' G' R' s rr => m σ H' G' R' s
 | exc x => rw [e] at m; exact m
 | bad => rw [e] at m; exact m
theorem aw (he : SE X E e fe) : S1 X E (.Return (some e) pos) (sRet fe) := (pG he).weak fun D σ H ⟨G0, H0, G, δ, R, m⟩ => by
 refine ⟨G0, H0, G, δ, R, ?_⟩
 unfold sRet at m
 cases e : fe δ with
 | ok p => rw [e] at m; exact fun v H' G' R' s rr => m v H' G' R'.g rr.new
 | exc x => rw [e] at m; exact m
 | bad => rw [e] at m; exact m
theorem sF (i : Nat) (hN : X.N[i]? = some x := by rfl) (hv : Vis X.env.scope x := by first | exact Or.inl rfl | exact Or.inr (Or.inl rfl) | exact Or.inr (Or.inr rfl)) (hd : (x == ("__debug__" : Str)) = false := by decide)
  (hcd : (x == ("__classdict__" : Str)) = false := by decide) : S1 X E (.Return (some (.Name x pos')) pos) (BK i) := (pG (ft hN hv hd hcd)).weak fun D σ H ⟨G0, H0, G, δ, R, m⟩ => by
 unfold BK at m
 split at m
 next r e =>
  obtain ⟨v, h1, h2⟩ := R.at_ e
  exact ⟨v, h1, m v H G R.g h2.new⟩
 next => exact m.elim
theorem aJ (hc : ST X E c tf) (ha : SS X E body f) (hb : SS X E body2 g) : S1 X E (.If c body body2 pos) (sIf tf f g) := (wZ hc ha hb).weak fun D σ H ⟨G0, H0, G, δ, R, m⟩ => by
 refine ⟨G0, H0, G, δ, R, ?_⟩
 unfold sIf at m
 cases e : tf δ with
 | ok p =>
  rw [e] at m
  dsimp only at m
  intro H' G' R' s
  split
  next hb => rw [if_pos hb] at m; exact ⟨G0, H0, G', p.2, R', m.mono s⟩
  next hb => rw [if_neg hb] at m; exact ⟨G0, H0, G', p.2, R', m.mono s⟩
 | exc x => rw [e] at m; exact m
 | bad => rw [e] at m; exact m
end
noncomputable def Ba (K : W.Frag) (J : It) (G : Hp) (ds : A4) : Prop := ∀ (i : Nat) (G1 H1 : Hp), Same G G1 -> Same G1 H1 ->
 (∀ d, ds[i]? = some d -> J.go i H1 /\ ∀ x H2, J.yld i H1 x H2 -> ∃ G2, Grow G1 H1 G2 H2 /\ Dt K G2 x d) /\ (ds.length <= i -> J.stop i H1)
noncomputable def PoI (K : W.Frag) (mg : A5) (E : XK) (G0 H0 G : Hp) (σ : St) (Q : It -> Hp -> Prop) : Out (A4 × DEnv) -> Prop
 | .ok p => ∀ J H' G', Rel K mg G0 H0 G' H' σ p.2 -> Same G G' -> Ba K J G' p.1 -> Q J H'
 | .exc x => PoX mg E H0 x
 | .bad => False
noncomputable def tI (K : W.Frag) (mg : A5) (E : XK) (f : DA) : TI := fun σ H Q => ∃ G0 H0 G δ, Rel K mg G0 H0 G H σ δ /\ PoI K mg E G0 H0 G σ Q (f δ)
abbrev SI (X : Cx) (E : XK) (tg iter : Expr) (f : DA) : Prop := PI X tg iter (tI X.K X.mg E f)
noncomputable def BL (f : DE) : DA := fun δ => (vE f δ).bind fun p => match p.1 with
 | .list xs => .ok (xs, p.2)
 | .tuple xs => .ok (xs, p.2)
 | _ => .bad
noncomputable def rngI (lo : Int) (n : Nat) : A4 := (List.range n).map fun (k : Nat) => .int (lo + (k : Int))
noncomputable def rngB (i : Int) : Bool := decide (-(2 ^ 62) <= i /\ i < 2 ^ 62)
noncomputable def itR1 (ops : List Opd) : DA := fun δ => (opds ops δ).bind fun p => match p.1 with
 | [.int j] => if rngB j = true then .ok (rngI 0 j.toNat, p.2.1) else .bad
 | _ => .bad
noncomputable def AO : Nat -> A4 -> A4
 | _, [] => []
 | k, d :: r => .tuple [.int (k : Int), d] :: AO (k + 1) r
noncomputable def Bu (f : DE) : DA := fun δ => (vE f δ).bind fun p => match p.1 with
 | .list xs => .ok (AO 0 xs, p.2)
 | _ => .bad
theorem jN : ∀ (ds : A4) (k i : Nat), (AO k ds)[i]? = (ds[i]?).map fun d => .tuple [.int ((k + i : Nat) : Int), d]
 | [], _, _ => by simp [AO]
 | d :: r, k, 0 => by simp [AO]
 | d :: r, k, i + 1 => by
  simp only [AO, List.getElem?_cons_succ]
  rw [jN r (k + 1) i, show k + 1 + i = k + (i + 1) by lia]
theorem jO : ∀ (ds : A4) (k : Nat), (AO k ds).length = ds.length
 | [], _ => rfl
 | d :: r, k => by rw [AO, List.length_cons, List.length_cons, jO r]
section
variable {K : W.Frag} {G : Hp} {a : Addr} {xs : List V} {ds : A4}
theorem iZ (q : SqR K G a xs) (r : Dts K G xs ds) : Ba K (Itl K a) G ds := fun i G1 H1 s1 s2 => by
 have q' : SqL K H1 a xs := ((s1.trans s2).sqr q).sq
 refine ⟨fun d e => ?_, fun h => ⟨xs, q', by rw [r.len]; exact h⟩⟩
 obtain ⟨v, e1, e2⟩ := r.get' e
 refine ⟨⟨xs, v, q', e1⟩, fun x H2 ⟨eH, hx⟩ => ?_⟩
 subst eH
 have := hx xs q'
 rw [e1] at this
 cases this
 exact ⟨G1, .refl s2, e2.mono s1⟩
theorem jP (q : TuT G a xs) (r : Dts K G xs ds) : Ba K (Itt K a) G ds := fun i G1 H1 s1 s2 => by
 have q' : SqT K H1 a xs := (s1.trans s2).tup q
 refine ⟨fun d e => ?_, fun h => ⟨xs, q', by rw [r.len]; exact h⟩⟩
 obtain ⟨v, e1, e2⟩ := r.get' e
 refine ⟨⟨xs, v, q', e1⟩, fun x H2 ⟨eH, hx⟩ => ?_⟩
 subst eH
 have := hx xs q'
 rw [e1] at this
 cases this
 exact ⟨G1, .refl s2, e2.mono s1⟩
theorem dM (lo : Int) (n : Nat) : (rngI lo n).length = n := by simp [rngI]
theorem ir (lo : Int) (n : Nat) : Ba K (Itr lo n) G (rngI lo n) := fun i G1 H1 s1 s2 => by
 refine ⟨fun d e => ?_, fun h => by rw [dM] at h; exact h⟩
 have hi : i < n := by
  have := (List.getElem?_eq_some_iff.mp e).1
  rwa [dM] at this
 refine ⟨hi, fun x H2 ⟨eH, hx⟩ => ?_⟩
 subst eH hx
 unfold rngI at e
 rw [List.getElem?_map, List.getElem?_range hi] at e
 cases e
 exact ⟨G1, .refl s2, .int _⟩
theorem mL (q : SqR K G a xs) (r : Dts K G xs ds) : Ba K (Ite K a) G (AO 0 ds) := fun i G1 H1 s1 s2 => by
 have q' : SqL K H1 a xs := ((s1.trans s2).sqr q).sq
 refine ⟨fun d e => ?_, fun h => ⟨xs, q', by rw [r.len]; rw [jO] at h; exact h⟩⟩
 rw [jN] at e
 obtain ⟨d0, e0, rfl⟩ := Option.map_eq_some_iff.mp e
 obtain ⟨v, e1, e2⟩ := r.get' e0
 refine ⟨⟨xs, v, q', e1⟩, fun x H2 ⟨p, y, ex, hp, eH, hy⟩ => ?_⟩
 subst ex eH
 have := hy xs q'
 rw [e1] at this
 cases this
 refine ⟨_, .laid s2 hp, .tup aK (.cons ?_ (.cons (e2.mono (s1.trans (b7 (s2.free hp)))) .nil))⟩
 rw [Nat.zero_add]
 exact .int _
end
section
variable {X : Cx} {E : XK} {tg l a b : Expr} {f : DE} {oa ob : Opd} {ops : List Opd} {p pos : Pos}
theorem uW (hl : SE X E l f) : SI X E tg l (BL f) := (qi hl).weak fun σ H Q ⟨G0, H0, G, δ, R, m⟩ => by
 refine sj R ?_
 unfold BL at m
 cases e : vE f δ with
 | ok p =>
  rw [e, Out.bind_ok] at m
  intro v H' G' R' s hd
  split at m
  next xs q =>
   rw [q] at hd
   cases hd with
   | lst q r => exact ⟨_, rfl, .inl ⟨⟨_, (R'.g.gh.sqr q).sq⟩, m _ H' G' R' s (iZ q r)⟩⟩
  next xs q =>
   rw [q] at hd
   cases hd with
   | tup q r => exact ⟨_, rfl, .inr ⟨⟨_, R'.g.gh.tup q⟩, m _ H' G' R' s (jP q r)⟩⟩
  next => exact m.elim
 | exc x => rw [e] at m; exact m
 | bad => rw [e] at m; exact m
theorem qy {P : List V -> Hp -> Prop} {K : W.Frag} {mg : A5} {G0 H0 G H : Hp} {σ : St} {δ : DEnv} (R : Rel K mg G0 H0 G H σ δ)
  (h : match opds ops δ with
   | .ok p => ∀ vs H' G' G1, Rel K mg G0 H0 G' H' σ p.2.1 -> Same G G' -> Same G1 H' -> Dts K G1 vs p.1 -> P vs H'
   | .exc x => PoX mg E H0 x
   | .bad => False) : tOs K mg E ops σ H P := by
 refine fu ops R ?_
 unfold opds at h
 cases e1 : evO ops δ with
 | ok p =>
  rw [e1, Out.bind_ok] at h
  intro vs H1 G1 R1 s1 ov
  cases e2 : Ay (Aj (Ak p.1) p.2) p.1 with
  | none => rw [e2] at h; exact h.elim
  | some ds =>
   rw [e2] at h
   obtain ⟨G2, l, R2, L⟩ := R1.relA (Ak p.1)
   exact h vs H1 G1 G2 R1 s1 R2.g.gh ((ov.mono L.ext).view R2 e2)
 | exc x => rw [e1] at h; exact h
 | bad => rw [e1] at h; exact h
theorem i3 (hm : X.mg "range" = none) (ha : SO X E a oa) (hg : Gl X "range" := by rfl) (hs : starEach [a] X.env = [(false, eval a X.env)] := by rfl) : SI X E tg (.Call (.Name "range" p) [a] [] pos) (itR1 [oa]) :=
 (jB hg hm (aa ha ag hs) hs).weak fun σ H Q ⟨G0, H0, G, δ, R, m⟩ => by
  refine qy R ?_
  unfold itR1 at m
  cases e : opds [oa] δ with
  | ok q =>
   rw [e, Out.bind_ok] at m
   intro vs H' G' G1 R' s s1 hd
   split at m
   next j ej =>
    rw [ej] at hd
    obtain ⟨v, rfl, h1⟩ := dts1 hd
    cases h1
    split at m
    next hj =>
     have hj := of_decide_eq_true hj
     exact ⟨j, rfl, hj.1, hj.2, m _ H' G' R' s (ir 0 j.toNat)⟩
    next => exact m.elim
   next => exact m.elim
  | exc x => rw [e] at m; exact m
  | bad => rw [e] at m; exact m
theorem sG {ts : List Expr} {tk : Nat} {tp : Pos} (hm : X.mg "enumerate" = none) (hl : SE X E l f) (hg : Gl X "enumerate" := by rfl) (hs : starEach [l] X.env = [(false, eval l X.env)] := by rfl) : SI X E (.Tuple ts tk tp) (.Call (.Name "enumerate" p) [l] [] pos) (Bu f) :=
 (sf hm (aV hl bC hs) hg hs).weak fun σ H Q ⟨G0, H0, G, δ, R, m⟩ => by
  refine sj R ?_
  unfold Bu at m
  cases e : vE f δ with
  | ok p =>
   rw [e, Out.bind_ok] at m
   intro v H' G' R' s hd
   split at m
   next xs q =>
    rw [q] at hd
    cases hd with
    | lst q r => exact ⟨_, rfl, ⟨_, (R'.g.gh.sqr q).sq⟩, m _ H' G' R' s (mL q r)⟩
   next => exact m.elim
  | exc x => rw [e] at m; exact m
  | bad => rw [e] at m; exact m
end
abbrev DG := PyData -> DEnv -> Option DEnv
noncomputable def TgS (K : W.Frag) (mg : A5) (g : TG) (k : DG) : Prop := ∀ (G0 H0 G H : Hp) (σ : St) (δ δ' : DEnv) (v : V) (d : PyData) (Q : St -> Hp -> Prop),
 Rel K mg G0 H0 G H σ δ -> Dt K G v d -> k d δ = some δ' -> (∀ σ', Rel K mg G0 H0 G H σ' δ' -> Q σ' H) -> g v σ H Q
noncomputable def kN (i : Nat) : DG := fun d δ => if i < δ.length then some (δ.set i (some (.sh d))) else none
noncomputable def kNs : List Nat -> A4 -> DEnv -> Option DEnv
 | [], [], δ => some δ
 | i :: is, d :: ds, δ => (kN i d δ).bind (kNs is ds)
 | _, _, _ => none
noncomputable def kTup (is : List Nat) : DG := fun d δ => match d with
 | .tuple ds => kNs is ds δ
 | _ => none
noncomputable def Bv : List Nat -> TGs
 | [] => gNil
 | i :: is => C9 (AC i) (Bv is)
section
variable {K : W.Frag} {mg : A5}
theorem gH (i : Nat) : TgS K mg (AC i) (kN i) := fun G0 H0 G H σ δ δ' v d Q R hd e k => by
 unfold kN at e
 split at e
 next hi =>
  cases e
  exact k _ (R.store (by rw [<- R.len]; exact hi) (RR.sh hd))
 next => cases e
theorem lD : ∀ (is : List Nat) {G0 H0 G H : Hp} {σ : St} {δ δ' : DEnv} {vs : List V} {ds : A4} {Q : St -> Hp -> Prop},
  Rel K mg G0 H0 G H σ δ -> Dts K G vs ds -> kNs is ds δ = some δ' -> (∀ σ', Rel K mg G0 H0 G H σ' δ' -> Q σ' H) -> Bv is vs σ H Q
 | [], G0, H0, G, H, σ, δ, δ', vs, ds, Q, R, hd, e, k => by
  cases hd with
  | nil => cases e; exact ⟨rfl, k σ R⟩
  | cons _ _ => cases e
 | i :: is, G0, H0, G, H, σ, δ, δ', vs, ds, Q, R, hd, e, k => by
  cases hd with
  | nil => cases e
  | cons h1 t =>
   obtain ⟨δ1, e1, e2⟩ := Option.bind_eq_some_iff.mp e
   exact ⟨_, _, rfl, gH i G0 H0 G H σ δ δ1 _ _ _ R h1 e1 fun σ1 R1 => lD is R1 t e2 k⟩
theorem uX (is : List Nat) : TgS K mg (gTup K is.length (Bv is)) (kTup is) := fun G0 H0 G H σ δ δ' v d Q R hd e k => by
 unfold kTup at e
 split at e
 next ds =>
  cases hd with
  | tup q r =>
   have hl : ∀ (is : List Nat) (ds : A4) (δ δ' : DEnv), kNs is ds δ = some δ' -> ds.length = is.length := fun is => by
    induction is with
    | nil => intro ds δ δ' e; cases ds with | nil => rfl | cons _ _ => cases e
    | cons i is ih =>
     intro ds δ δ' e
     cases ds with
     | nil => cases e
     | cons d ds =>
      obtain ⟨δ1, _, e2⟩ := Option.bind_eq_some_iff.mp e
      rw [List.length_cons, List.length_cons, ih ds δ1 δ' e2]
   exact ⟨_, _, rfl, R.g.gh.tup q, by rw [r.len]; exact hl is ds δ δ' e, lD is R r e k⟩
 next => cases e
end
section
variable {X : Cx} {x y : Str} {px py pt : Pos} {kt : Nat}
theorem sI (i : Nat) (hN : X.N.Nodup) (hi : X.N[i]? = some x := by rfl) (hx : Loc X.env.scope x := by first | exact Or.inl rfl | exact Or.inr rfl) (hf : X.fn x = true \/ X.env.scope.names.lookup x = some .local := by first | exact .inl rfl | exact .inr rfl | assumption) : PG X (.Name x px) (AC i) := gu hN hi hx hf
theorem zK (i j : Nat) (hc : X.calm = true) (hN : X.N.Nodup) (hi : X.N[i]? = some x := by rfl) (hj : X.N[j]? = some y := by rfl) (hx : Loc X.env.scope x := by first | exact Or.inl rfl | exact Or.inr rfl) (hy : Loc X.env.scope y := by first | exact Or.inl rfl | exact Or.inr rfl)
  (hf : X.fn x = true \/ X.env.scope.names.lookup x = some .local := by first | exact .inl rfl | exact .inr rfl | assumption) (hf2 : X.fn y = true \/ X.env.scope.names.lookup y = some .local := by first | exact .inl rfl | exact .inr rfl | assumption) :
  PG X (.Tuple [.Name x px, .Name y py] kt pt) (gTup X.K [i, j].length (Bv [i, j])) := ux hc (kY (gu hN hi hx hf) (kY (gu hN hj hy hf2) rA))
end
noncomputable def forL (k : DG) (fb : DS) : A4 -> DEnv -> SOut
 | [], δ => .nx δ
 | d :: ds, δ => match k d δ with
  | none => .bad
  | some δ1 => match fb δ1 with
   | .nx δ2 => forL k fb ds δ2
   | .ct δ2 => forL k fb ds δ2
   | .bk δ2 => .nx δ2
   | .rt r => .rt r
   | .exc x => .exc x
   | .bad => .bad
noncomputable def sFor (fi : DA) (k : DG) (fb : DS) : DS := fun δ => match fi δ with
 | .ok p => forL k fb p.1 p.2
 | .exc x => .exc x
 | .bad => .bad
theorem xI {K : W.Frag} {mg : A5} {E : XK} {fi : DA} {k : DG} {g : TG} {fb : DS} {D : Ends} {σ : St} {H : Hp} (hk : TgS K mg g k) (q : tS K mg E (sFor fi k fb) D σ H) : tFor (tI K mg E fi) g (tS K mg E fb) D σ H := by
 obtain ⟨G0, H0, G, δ, R, m⟩ := q
 refine ⟨G0, H0, G, δ, R, ?_⟩
 unfold sFor at m
 cases e : fi δ with
 | exc x => rw [e] at m; exact m
 | bad => rw [e] at m; exact m
 | ok p =>
  rw [e] at m
  dsimp only at m
  intro J H1 G1 R1 s1 W
  refine ⟨fun i mm σ2 H2 => ∃ G2 δ2, Rel K mg G0 H0 G2 H2 σ2 δ2 /\ Same G1 G2 /\ i + mm = p.1.length /\ PoS K mg E G0 H0 G2 D (forL k fb (p.1.drop i) δ2), ⟨p.1.length, G1, p.2, R1, .refl _, Nat.zero_add _, m.mono s1⟩, ?_⟩
  rintro i mm σ2 H2 ⟨G2, δ2, R2, s2, him, m2⟩
  obtain ⟨w1, w2⟩ := W i G2 H2 s2 R2.g.gh
  cases hd : p.1[i]? with
  | none =>
   have hi : p.1.length <= i := List.getElem?_eq_none_iff.mp hd
   refine .inl ⟨w2 hi, ?_⟩
   rw [List.drop_eq_nil_of_le hi] at m2
   exact m2 σ2 H2 G2 R2 (.refl _)
  | some d =>
   have hi : i < p.1.length := (List.getElem?_eq_some_iff.mp hd).1
   obtain ⟨go, yl⟩ := w1 d hd
   have ed : p.1.drop i = d :: p.1.drop (i + 1) := by
    rw [List.drop_eq_getElem_cons hi]
    congr 1
    exact Option.some.inj ((List.getElem?_eq_getElem hi).symm.trans hd)
   rw [ed] at m2
   unfold forL at m2
   refine .inr ⟨go, fun σ3 H3 => ∃ G3 δ3, Rel K mg G0 H0 G3 H3 σ3 δ3 /\ Same G1 G3 /\ PoS K mg E G0 H0 G3 D (forL k fb (p.1.drop (i + 1)) δ3), fun σ3 H3 ⟨G3, δ3, R3, s3, m3⟩ => ⟨mm - 1, by lia, G3, δ3, R3, s3, by lia, m3⟩, fun x H3 hy => ?_⟩
   obtain ⟨G3, g3, dx⟩ := yl x H3 hy
   have R3 := R2.grow g3
   cases ek : k d δ2 with
   | none => rw [ek] at m2; exact m2.elim
   | some δ3 =>
    rw [ek] at m2
    dsimp only at m2
    refine hk G0 H0 G3 H3 σ2 δ2 δ3 x d _ R3 dx ek fun σ4 R4 => ⟨G0, H0, G3, δ3, R4, ?_⟩
    have s23 := g3.gg
    cases eb : fb δ3 with
    | nx δ4 => rw [eb] at m2; exact fun σ' H' G' R' s => ⟨G', δ4, R', (s2.trans s23).trans s, m2.mono (s23.trans s)⟩
    | ct δ4 => rw [eb] at m2; exact fun σ' H' G' R' s => ⟨G', δ4, R', (s2.trans s23).trans s, m2.mono (s23.trans s)⟩
    | bk δ4 => rw [eb] at m2; exact fun σ' H' G' R' s => m2 σ' H' G' R' (s23.trans s)
    | rt r => rw [eb] at m2; exact m2
    | exc x => rw [eb] at m2; exact m2
    | bad => rw [eb] at m2; exact m2
section
variable {X : Cx} {E : XK} {tg iter e c : Expr} {body : List Stmt} {fi : DA} {k : DG} {g : TG} {fb : DS} {fe : DE} {pos : Pos}
theorem j0 (hp : PassesOwn (model X.prog X.w) X.A X.env X.xe) (hc : X.calm = true) (hi : SI X E tg iter fi) (hg : PG X tg g) (hk : TgS X.K X.mg g k) (hb : SS X E body fb) (hs : ∀ x, foldedSetIterable iter X.env x = pure x := by intro _; rfl) : S1 X E (.For tg iter body [] pos) (sFor fi k fb) :=
 (uA hp hc hi hg hb hs).weak fun _ _ _ q => xI hk q
end
section
variable {X : Cx} {E : XK} {tg e : Expr} {k : DG} {g : TG} {fe : DE} {pos : Pos}
end
noncomputable def whN (c : DT) (fb : DS) : Nat -> DEnv -> SOut
 | 0, _ => .bad
 | n + 1, δ => match c δ with
  | .ok p => if p.1 = true then (match fb p.2 with
    | .nx δ2 => whN c fb n δ2
    | .ct δ2 => whN c fb n δ2
    | .bk δ2 => .nx δ2
    | .rt r => .rt r
    | .exc x => .exc x
    | .bad => .bad) else .nx p.2
  | .exc x => .exc x
  | .bad => .bad
open Classical in
noncomputable def Bb (c : DT) (fb : DS) : DS := fun δ => if h : ∃ n, whN c fb n δ ≠ .bad then whN c fb (Classical.choose h) δ else .bad
theorem gI {c : DT} {fb : DS} : ∀ (n m : Nat) (δ : DEnv), whN c fb n δ ≠ .bad -> n <= m -> whN c fb m δ = whN c fb n δ
 | 0, _, _, h, _ => absurd rfl h
 | n + 1, 0, _, _, h => by lia
 | n + 1, m + 1, δ, h, hm => by
  unfold whN at h ⊢
  cases e : c δ with
  | exc x => rfl
  | bad => rfl
  | ok p =>
   rw [e] at h
   dsimp only at h ⊢
   split
   next hb =>
    rw [if_pos hb] at h
    cases e2 : fb p.2 with
    | nx δ2 => rw [e2] at h; exact gI n m δ2 h (by lia)
    | ct δ2 => rw [e2] at h; exact gI n m δ2 h (by lia)
    | bk δ2 => rfl
    | rt r => rfl
    | exc x => rfl
    | bad => rfl
   next => rfl
theorem jQ {c : DT} {fb : DS} {n : Nat} {δ : DEnv} {r : SOut} (h : whN c fb n δ = r) (hr : r ≠ .bad) : Bb c fb δ = r := by
 have hx : ∃ n, whN c fb n δ ≠ .bad := ⟨n, by rw [h]; exact hr⟩
 unfold Bb
 rw [dif_pos hx]
 have h1 := Classical.choose_spec hx
 rcases Nat.le_total n (Classical.choose hx) with z | z
 ·rw [gI n _ δ (by rw [h]; exact hr) z, h]
 ·rw [<- h, gI _ n δ h1 z]
theorem sJ {K : W.Frag} {mg : A5} {E : XK} {c : DT} {fb : DS} {D : Ends} {σ : St} {H : Hp} (q : tS K mg E (Bb c fb) D σ H) : BQ (tT K mg E c) (tS K mg E fb) D σ H := by
 obtain ⟨G0, H0, G, δ, R, m⟩ := q
 unfold Bb at m
 split at m
 next hx =>
  refine ⟨fun n σ2 H2 => ∃ G2 δ2, Rel K mg G0 H0 G2 H2 σ2 δ2 /\ PoS K mg E G0 H0 G2 D (whN c fb n δ2), ⟨_, G, δ, R, m⟩, ?_⟩
  rintro n σ2 H2 ⟨G2, δ2, R2, m2⟩
  cases n with
  | zero => exact m2.elim
  | succ n =>
   refine ⟨G0, H0, G2, δ2, R2, ?_⟩
   unfold whN at m2
   cases e : c δ2 with
   | exc x => rw [e] at m2; exact m2
   | bad => rw [e] at m2; exact m2
   | ok p =>
    rw [e] at m2
    dsimp only at m2
    intro H3 G3 R3 s3
    split
    next hb =>
     rw [if_pos hb] at m2
     refine ⟨fun σ4 H4 => ∃ G4 δ4, Rel K mg G0 H0 G4 H4 σ4 δ4 /\ PoS K mg E G0 H0 G4 D (whN c fb n δ4), fun σ4 H4 h => ⟨n, Nat.lt_succ_self _, h⟩, G0, H0, G3, p.2, R3, ?_⟩
     cases eb : fb p.2 with
     | nx δ4 => rw [eb] at m2; exact fun σ' H' G' R' s => ⟨G', δ4, R', m2.mono (s3.trans s)⟩
     | ct δ4 => rw [eb] at m2; exact fun σ' H' G' R' s => ⟨G', δ4, R', m2.mono (s3.trans s)⟩
     | bk δ4 => rw [eb] at m2; exact fun σ' H' G' R' s => m2 σ' H' G' R' (s3.trans s)
     | rt r => rw [eb] at m2; exact m2
     | exc x => rw [eb] at m2; exact m2
     | bad => rw [eb] at m2; exact m2
    next hb => rw [if_neg hb] at m2; exact m2 σ2 H3 G3 R3 s3
 next => exact m.elim
theorem qz {X : Cx} {E : XK} {c : Expr} {body : List Stmt} {tc : DT} {fb : DS} {pos : Pos} (hp : PassesOwn (model X.prog X.w) X.A X.env X.xe) (hc : ST X E c tc) (hb : SS X E body fb) : S1 X E (.While c body [] pos) (Bb tc fb) := (pI hp hc hb).weak fun _ _ _ q => sJ q
noncomputable def isOl (δ : DEnv) (i : Nat) : Option A4 := match δ[i]? with
 | some (some (.ol ds)) => some ds
 | _ => none
noncomputable def isOd (δ : DEnv) (i : Nat) : Option (List (PyData × PyData)) := match δ[i]? with
 | some (some (.od ds)) => some ds
 | _ => none
theorem gJ {δ : DEnv} {i : Nat} {ds : A4} (h : isOl δ i = some ds) : δ[i]? = some (some (.ol ds)) := by
 unfold isOl at h
 split at h
 next q => cases h; exact q
 next => cases h
theorem ky {δ : DEnv} {i : Nat} {ds : List (PyData × PyData)} (h : isOd δ i = some ds) : δ[i]? = some (some (.od ds)) := by
 unfold isOd at h
 split at h
 next q => cases h; exact q
 next => cases h
noncomputable def sMut (up : A4 -> A4 -> Option A4) (i : Nat) (o : Opd) : DS := fun δ => match isOl δ i with
 | none => .bad
 | some _ => match opds [o] δ with
  | .ok p => (match isOl p.2.2 i with
   | none => .bad
   | some ds => match up ds p.1 with
    | some ds' => .nx (p.2.2.set i (some (.ol ds')))
    | none => .bad)
  | .exc x => .exc x
  | .bad => .bad
noncomputable def putD (es : List (PyData × PyData)) (k : Key) (d : PyData) : List (PyData × PyData) :=
 if (es.any fun p => decide (Ar p.1 = some k)) = true then es.map (fun p => if Ar p.1 = some k then (p.1, d) else p) else es ++ [(keyD k, d)]
theorem Des.any {K : W.Frag} {G : Hp} {k : Key} : ∀ {kvs : List (Key × V)} {es : List (PyData × PyData)}, Des K G kvs es -> (kvs.any fun kv => decide (kv.1 = k)) = es.any fun p => decide (Ar p.1 = some k)
 | _, _, .nil => rfl
 | _, _, .cons (k := j) _ r => by
  rw [List.any_cons, List.any_cons, Des.any r, eR]
  congr 1
  by_cases h : j = k <;> simp [h]
theorem Des.snoc {K : W.Frag} {G : Hp} {k : Key} {v : V} {d : PyData} (hd : Dt K G v d) : ∀ {kvs : List (Key × V)} {es : List (PyData × PyData)}, Des K G kvs es -> Des K G (kvs ++ [(k, v)]) (es ++ [(keyD k, d)])
 | _, _, .nil => .cons hd .nil
 | _, _, .cons x r => .cons x (Des.snoc hd r)
theorem Des.repl {K : W.Frag} {G : Hp} {k : Key} {v : V} {d : PyData} (hd : Dt K G v d) : ∀ {kvs : List (Key × V)} {es : List (PyData × PyData)}, Des K G kvs es -> Des K G (kvs.map fun kv => if kv.1 = k then (kv.1, v) else kv) (es.map fun p => if Ar p.1 = some k then (p.1, d) else p)
 | _, _, .nil => .nil
 | _, _, .cons (k := j) (v := u) (d := d') x r => by
  rw [List.map_cons, List.map_cons]
  dsimp only
  rw [eR]
  by_cases h : j = k
  ·subst h
   rw [if_pos rfl, if_pos rfl]
   exact .cons hd (Des.repl hd r)
  ·rw [if_neg h, if_neg (by simpa using h)]
   exact .cons x (Des.repl hd r)
theorem Des.put {K : W.Frag} {G : Hp} {k : Key} {v : V} {d : PyData} {kvs : List (Key × V)} {es : List (PyData × PyData)} (h : Des K G kvs es) (hd : Dt K G v d) : Des K G (putK kvs k v) (putD es k d) := by
 unfold putK putD
 rw [h.any]
 split
 ·exact h.repl hd
 ·exact h.snoc hd
noncomputable def sPut (i : Nat) (ov ok : Opd) : DS := fun δ => match isOd δ i with
 | none => .bad
 | some _ => match opds [ov, ok] δ with
  | .ok p => (match isOd p.2.2 i, p.1 with
   | some es, [d, k] => (match Ar k with
    | some k => if es.length < sizeLine then .nx (p.2.2.set i (some (.od (putD es k d)))) else .bad
    | none => .bad)
   | _, _ => .bad)
  | .exc x => .exc x
  | .bad => .bad
section
variable {K : W.Frag} {mg : A5} {E : XK} {G0 H0 G H : Hp} {σ : St} {δ : DEnv}
theorem j1 {ops : List Opd} {P : List V -> Hp -> Prop} (R : Rel K mg G0 H0 G H σ δ)
  (h : match opds ops δ with
   | .ok p => ∀ vs H' G', Rel K mg G0 H0 G' H' σ p.2.2 -> Same G G' -> Dts K G' vs p.1 -> P vs H'
   | .exc x => PoX mg E H0 x
   | .bad => False) : tOs K mg E ops σ H P := by
 refine fu ops R ?_
 unfold opds at h
 cases e1 : evO ops δ with
 | ok p =>
  rw [e1, Out.bind_ok] at h
  intro vs H1 G1 R1 s1 ov
  cases e2 : Ay (Aj (Ak p.1) p.2) p.1 with
  | none => rw [e2] at h; exact h.elim
  | some ds =>
   rw [e2] at h
   obtain ⟨G2, l, R2, L⟩ := R1.relA (Ak p.1)
   exact h vs H1 G2 R2 (s1.trans L.ext) ((ov.mono L.ext).view R2 e2)
 | exc x => rw [e1] at h; exact h
 | bad => rw [e1] at h; exact h
theorem iD {t : Opd} {P P' : V -> Hp -> Prop} (hp : ∀ v H, P v H -> P' v H) (q : tO K mg E t σ H P) : tO K mg E t σ H P' := by
 cases t with
 | nm i => obtain ⟨v, h1, h2⟩ := q; exact ⟨v, h1, hp _ _ h2⟩
 | ex f =>
  obtain ⟨G0, H0, G, δ, R, m⟩ := q
  refine ⟨G0, H0, G, δ, R, ?_⟩
  cases e : f δ with
  | ok p => rw [e] at m; exact fun v H' G' R' s rr => hp _ _ (m v H' G' R' s rr)
  | exc x => rw [e] at m; exact m
  | bad => rw [e] at m; exact m
end
noncomputable def MutS (K : W.Frag) (up : A4 -> A4 -> Option A4) (r : V -> List V -> Hp -> VK -> Prop) : Prop :=
 ∀ (G H : Hp) (a : Addr) (xs : List V) (ds ds' : A4) (vs : List V) (es : A4) (Q : VK), Same G H -> H a = some (.lst xs) -> Dts K G xs ds -> Dts K G vs es -> up ds es = some ds' -> (∀ v xs', Dts K G xs' ds' -> Q v (upd H a (.lst xs'))) -> r (.ref a) vs H Q
theorem xJ {K : W.Frag} {mg : A5} {E : XK} {up : A4 -> A4 -> Option A4} {r : V -> List V -> Hp -> VK -> Prop} {i : Nat} {o : Opd} {D : Ends} {σ : St} {H : Hp} (hm : MutS K up r) (q : tS K mg E (sMut up i o) D σ H) :
  C8 (tBM K "list" r (tVar i) (tOs K mg E [o])) D σ H := by
 obtain ⟨G0, H0, G, δ, R, m⟩ := q
 unfold sMut at m
 cases e0 : isOl δ i with
 | none => rw [e0] at m; exact m.elim
 | some ds0 =>
  rw [e0] at m
  dsimp only at m
  obtain ⟨v, h1, ⟨a, xs, rfl, q1, q2, q3⟩, _⟩ := R.at_ (gJ e0)
  refine ⟨.ref a, h1, .inl ⟨rfl, xs, .inl (.inl q2)⟩, ?_⟩
  refine j1 R ?_
  cases e1 : opds [o] δ with
  | ok p =>
   rw [e1] at m
   dsimp only at m
   intro vs H1 G1 R1 s1 hd
   cases e2 : isOl p.2.2 i with
   | none => rw [e2] at m; exact m.elim
   | some ds =>
    rw [e2] at m
    dsimp only at m
    obtain ⟨u, g1, ⟨b, ys, rfl, y1, y2, y3⟩, _⟩ := R1.at_ (gJ e2)
    rw [h1] at g1
    cases g1
    cases e3 : up ds p.1 with
    | none => rw [e3] at m; exact m.elim
    | some ds' =>
     rw [e3] at m
     refine hm G1 H1 a ys ds ds' vs p.1 _ R1.g.gh y2 y3 hd e3 fun v xs' hx => ?_
     exact m σ _ G1 (R1.write (gJ e2) trivial h1 ⟨a, xs', rfl, y1, aK, hx⟩ (by rw [y2]; trivial) (fun C z => by rw [y2] at z; cases z)) s1
  | exc x => rw [e1] at m; exact m
  | bad => rw [e1] at m; exact m
section
variable {X : Cx} {E : XK} {e k v : Expr} {o ov ok : Opd} {x : Str} {px apos cpos pos tpos : Pos}
theorem uY (i : Nat) (hu : X.A.units + 64 < cLine) (hval : SO X E v ov) (hk : SO X E k ok) (hN : X.N[i]? = some x := by rfl) (hv : Vis X.env.scope x := by first | exact Or.inl rfl | exact Or.inr (Or.inl rfl) | exact Or.inr (Or.inr rfl)) (hd : (x == ("__debug__" : Str)) = false := by decide)
  (hcd : (x == ("__classdict__" : Str)) = false := by decide) (hs : swapsWith v (some (.Subscript (.Name x px) k tpos)) pos.line X.env = pure false := by rfl) : S1 X E (.Assign [.Subscript (.Name x px) k tpos] v pos) (sPut i ov ok) :=
 (rP (by lia) (ft hN hv hd hcd) hk hval hs).weak fun D σ H ⟨G0, H0, G, δ, R, m⟩ => by
  unfold sPut at m
  cases e0 : isOd δ i with
  | none => rw [e0] at m; exact m.elim
  | some ds0 =>
   rw [e0] at m
   dsimp only at m
   obtain ⟨w, h1, ⟨a, xs, rfl, q1, q2, q3⟩, _⟩ := R.at_ (ky e0)
   have key : tOs X.K X.mg E [ov, ok] σ H fun vs H1 => ∃ y z, vs = [y, z] /\ ∃ a' H4, V.ref a = .ref a' /\ DPut H1 a' z y H4 /\ D.nx σ H4 := by
    refine j1 R ?_
    cases e1 : opds [ov, ok] δ with
    | ok p =>
     rw [e1] at m
     dsimp only at m
     intro vs H1 G1 R1 s1 hdd
     split at m
     next es d k' e2 e3 =>
      rw [e3] at hdd
      obtain ⟨y, z, rfl, hy, hz⟩ := dts2 hdd
      obtain ⟨u, g1, ⟨b, ys, rfl, y1, y2, y3⟩, _⟩ := R1.at_ (ky e2)
      rw [h1] at g1
      cases g1
      split at m
      next kk ek =>
       split at m
       next hl =>
        have := mI hz ek
        subst this
        refine ⟨y, _, rfl, a, _, rfl, DPut.k y2 (by rw [y3.len]; exact hl), ?_⟩
        exact m σ _ G1 (R1.write (ky e2) trivial h1 ⟨a, _, rfl, y1, aK, y3.put hy⟩ (by rw [y2]; trivial) (fun C z => by rw [y2] at z; cases z)) s1
       next => exact m.elim
      next => exact m.elim
     next => exact m.elim
    | exc x => rw [e1] at m; exact m
    | bad => rw [e1] at m; exact m
   refine iD (fun y H1 q => ?_) key
   refine ⟨.ref a, h1, ?_⟩
   exact iD (fun z H2 ⟨y', z', ee, a', H4, e4, hp, hn⟩ => by cases ee; exact ⟨a', H4, e4, hp, hn⟩) q
end
section
variable {K : W.Frag} {mg : A5} {E : XK} {G0 H0 G H : Hp} {σ : St} {δ : DEnv}
theorem fw {ops : List Opd} {P : List V -> Hp -> Prop} (R : Rel K mg G0 H0 G H σ δ)
  (h : match opds ops δ with
   | .ok p => ∀ vs H' G' G2 l, Rel K mg G0 H0 G' H' σ p.2.1 -> Same G G' -> Rel K mg G0 H0 G2 H' σ p.2.2 -> Lent G' G2 l -> Dts K G2 vs p.1 -> P vs H'
   | .exc x => PoX mg E H0 x
   | .bad => False) : tOs K mg E ops σ H P := by
 refine fu ops R ?_
 unfold opds at h
 cases e1 : evO ops δ with
 | ok p =>
  rw [e1, Out.bind_ok] at h
  intro vs H1 G1 R1 s1 ov
  cases e2 : Ay (Aj (Ak p.1) p.2) p.1 with
  | none => rw [e2] at h; exact h.elim
  | some ds =>
   rw [e2] at h
   obtain ⟨G2, l, R2, L⟩ := R1.relA (Ak p.1)
   exact h vs H1 G1 G2 l R1 s1 R2 L ((ov.mono L.ext).view R2 e2)
 | exc x => rw [e1] at h; exact h
 | bad => rw [e1] at h; exact h
end
noncomputable def PoF (K : W.Frag) (mg : A5) (G H : Hp) (Q : VK) (E : XK) : Out SD -> Prop
 | .ok r => ∀ v H' G', Grow G H G' H' -> VN K mg H G' H' v r -> Q v H'
 | .exc x => PoX mg E H x
 | .bad => False
noncomputable def spD (K : W.Frag) (mg : A5) (φ : A4 -> Out SD) : Sp := fun vs H Q E => ∃ G ds, (Same G H /\ NoT G /\ Bh H) /\ Dts K G vs ds /\ PoF K mg G H Q E (φ ds)
noncomputable def Ab (φ : A4 -> Out SD) (ops : List Opd) : DE := fun δ => (opds ops δ).bind fun p => (φ p.1).bind fun r => .ok (r, if r.pure = true then p.2.1 else p.2.2)
theorem uZ {K : W.Frag} {mg : A5} {E : XK} {φ : A4 -> Out SD} {ops : List Opd} {σ : St} {H : Hp} {Q : VK} (h : tE K mg E (Ab φ ops) σ H Q) : BF (spD K mg φ) [] E (tOs K mg E ops) σ H Q := by
 obtain ⟨G0, H0, G, δ, R, m⟩ := h
 refine fw R ?_
 unfold Ab at m
 cases e : opds ops δ with
 | ok p =>
  rw [e, Out.bind_ok] at m
  intro vs H1 G1 G2 l R1 s1 R2 L hd
  rw [List.append_nil]
  refine ⟨G2, p.1, ⟨R2.g.gh, R2.noT, R2.tabs⟩, hd, ?_⟩
  cases e2 : φ p.1 with
  | ok r =>
   rw [e2, Out.bind_ok] at m
   intro v H2 G3 gr vn
   by_cases hp : r.pure = true
   ·rw [if_pos hp] at m
    obtain ⟨G4, gr4, vn4⟩ := L.back R1 R2.g.gh gr vn hp
    exact m v H2 G4 (R1.grow gr4) (s1.trans gr4.gg) (RR.of_new R1 vn4)
   ·rw [if_neg hp] at m
    exact m v H2 G3 (R2.grow gr) ((s1.trans L.ext).trans gr.gg) (RR.of_new R2 vn)
  | exc x => rw [e2] at m; exact fun H' C s hC => m H' C (R1.g.hh.trans s) hC
  | bad => rw [e2] at m; exact m
 | exc x => rw [e] at m; exact m
 | bad => rw [e] at m; exact m
abbrev DefD (P : Program) (w : World) (K : W.Frag) (mg : A5) (base : Heap) (x : Str) (k : Nat) (φ : A4 -> Out SD) : Prop := ∃ (f : Addr) (fd : FuncData) (ps : List Str), Def P w K mg base (CXe P w) x k f fd ps (spD K mg φ)
section
variable {X : Cx} {E : XK} {x : Str} {k j : Nat} {φ : A4 -> Out SD} {e : Expr} {es : List Expr} {ops : List Opd} {p pos : Pos}
theorem ao (D : DefD X.prog X.w X.K X.mg X.base x k φ) (hr : Room j X.A) (hx : Passes (CXe X.prog X.w) X E) (ha : PA X (e :: es) (tOs X.K X.mg E ops)) (hk : k <= j := by decide) (hg : Gl X x := by rfl) (hdb : (x == ("__debug__" : Str)) = false := by decide)
  (he : starEach (e :: es) X.env = (false, eval e X.env) :: starEach es X.env := by rfl) (hpl : (backTo pos (starEach es X.env)).any (·.1) = false := by rfl) : SE X E (.Call (.Name x p) (e :: es) [] pos) (Ab φ ops) := by
 obtain ⟨f, fd, ps, D⟩ := D
 exact (lu D hr hx ha hg hk hdb he hpl).weak fun _ _ _ h => uZ h
end
theorem gb {X : Cx} {P : Program} {w : World} : Passes (CXe P w) X E0 := fun _ _ _ _ _ _ _ ⟨_, _, _, _, _, z⟩ => z.elim
noncomputable def start0 (n m : Nat) (ds : A4) : DEnv := ds.map (fun d => some (.sh d)) ++ List.replicate (n - m) none
noncomputable def runB (n m : Nat) (f : DS) (ds : A4) : Out SD := if ds.length = m then (match f (start0 n m ds) with
 | .nx _ => .ok (.sh .none)
 | .rt r => .ok r
 | .exc x => .exc x
 | _ => .bad) else .bad
theorem oU {K : W.Frag} {mg : A5} {G H : Hp} {vs : List V} {ds : A4} {N : List Str} {m : Nat} (hg : Same G H /\ NoT G /\ Bh H) (hd : Dts K G vs ds) (hm : ds.length = m) : Rel K mg G H G H (start N vs) (start0 N.length m ds) where
 g := .refl hg.1
 tb := hg.2.2
 n0 := hg.2.1
 len := by unfold start start0; simp only [List.length_append, List.length_map, List.length_replicate]; rw [hd.len, hm]
 sl := fun i sd e => by
  unfold start0 at e
  by_cases hi : i < ds.length
  ·rw [List.getElem?_append_left (by simpa using hi), List.getElem?_map] at e
   cases e2 : ds[i]? with
   | none => rw [e2] at e; cases e
   | some d =>
    rw [e2] at e
    cases e
    obtain ⟨v, h1, h2⟩ := hd.get' e2
    refine ⟨v, ?_, h2⟩
    unfold start
    rw [List.getElem?_append_left (by rw [List.length_map, hd.len]; exact hi), List.getElem?_map, h1]
    rfl
  ·rw [List.getElem?_append_right (by simpa using hi), List.getElem?_replicate] at e
   split at e <;> cases e
 fr := fun i sd a e ho => by
  unfold start0 at e
  by_cases hi : i < ds.length
  ·rw [List.getElem?_append_left (by simpa using hi), List.getElem?_map] at e
   cases e2 : ds[i]? with
   | none => rw [e2] at e; cases e
   | some d => rw [e2] at e; cases e; exact ho.elim
  ·rw [List.getElem?_append_right (by simpa using hi), List.getElem?_replicate] at e
   split at e <;> cases e
 ap := fun i j sd te a e _ ho => by
  unfold start0 at e
  by_cases hi : i < ds.length
  ·rw [List.getElem?_append_left (by simpa using hi), List.getElem?_map] at e
   cases e2 : ds[i]? with
   | none => rw [e2] at e; cases e
   | some d => rw [e2] at e; cases e; exact ho.elim
  ·rw [List.getElem?_append_right (by simpa using hi), List.getElem?_replicate] at e
   split at e <;> cases e
theorem lE {n m : Nat} {f : DS} {ds : A4} (h : runB n m f ds ≠ .bad) : ds.length = m := by
 unfold runB at h
 split at h
 next e => exact e
 next => exact absurd rfl h
theorem aH {P : Program} {w : World} {K : W.Frag} {mg : A5} {base : Heap} {x qual : Str} {st : Stmt} {f : Addr} {fd : FuncData} {N ps : List Str} {k : Nat} {fb : DS} (F : Fun K x qual st f fd) (S : Ae N ps (defScope st))
  (body : ∀ (cdv : Value) (A : Around) (outer : List Env) (s : Shared) (H : Hp) (E : XK), Room k (A.deeper (envOfC qual (defScope st) s.heap.objs.size f cdv)) -> SS (cxE P w K mg base N qual (defScope st) f cdv A outer s H E) E (defBody st) fb) :
  FnOk P w K mg base (CXe P w) (k + 1) f fd ps (spD K mg (runB N.length ps.length fb)) := by
 refine F.okE S (fun vs H Q E h => ?_) fun cdv A outer s H vs Q E hr h => ?_
 ·obtain ⟨G, ds, hg, hd, m⟩ := h
  rw [hd.len]
  exact lE fun z => by rw [z] at m; exact m
 ·obtain ⟨G, ds, hg, hd, m⟩ := h
  refine ⟨_, body cdv A outer s H E hr, G, H, G, start0 N.length ps.length ds, ?_, ?_⟩
  ·exact oU hg hd (lE fun z => by rw [z] at m; exact m)
  ·unfold runB at m
   split at m
   next hl =>
    cases e : fb (start0 N.length ps.length ds) with
    | nx δ => rw [e] at m; exact fun σ' H' G' R' s' => m .non H' G' R'.g (ql .non)
    | rt r => rw [e] at m; exact fun v H' G' g vn => m v H' G' g vn
    | exc x => rw [e] at m; exact m
    | bk δ => rw [e] at m; exact m.elim
    | ct δ => rw [e] at m; exact m.elim
    | bad => rw [e] at m; exact m.elim
   next => exact m.elim
noncomputable def PoC (K : W.Frag) (mg : A5) (E : XK) (G0 H0 G : Hp) (σ : St) (Q : It -> Hp -> Prop) : Out (A4 × DEnv × DEnv) -> Prop
 | .ok p => ∀ J H' G' G2 l, Rel K mg G0 H0 G' H' σ p.2.1 -> Same G G' -> Rel K mg G0 H0 G2 H' σ p.2.2 -> Lent G' G2 l -> Ba K J G2 p.1 -> Q J H'
 | .exc x => PoX mg E H0 x
 | .bad => False
abbrev DC := DEnv -> Out (A4 × DEnv × DEnv)
noncomputable def tIC (K : W.Frag) (mg : A5) (E : XK) (f : DC) : TI := fun σ H Q => ∃ G0 H0 G δ, Rel K mg G0 H0 G H σ δ /\ PoC K mg E G0 H0 G σ Q (f δ)
noncomputable def Br (o : Opd) : DC := fun δ => (opds [o] δ).bind fun p => match p.1 with
 | [.list xs] => .ok (xs, p.2.1, p.2.2)
 | [.tuple xs] => .ok (xs, p.2.1, p.2.2)
 | _ => .bad
noncomputable def icR1 (o : Opd) : DC := fun δ => (opds [o] δ).bind fun p => match p.1 with
 | [.int j] => if rngB j = true then .ok (rngI 0 j.toNat, p.2.1, p.2.2) else .bad
 | _ => .bad
abbrev SIC (X : Cx) (E : XK) (tg iter : Expr) (f : DC) : Prop := PI X tg iter (tIC X.K X.mg E f)
section
variable {X : Cx} {E : XK} {tg l a b : Expr} {o oa ob : Opd} {p pos : Pos}
theorem kA (hl : SO X E l o) : SIC X E tg l (Br o) := (qi hl).weak fun σ H Q ⟨G0, H0, G, δ, R, m⟩ => by
 have key : tOs X.K X.mg E [o] σ H fun vs H1 => ∃ x, vs = [x] /\ ∃ a, x = .ref a /\ (((∃ xs, SqL X.K H1 a xs) /\ Q (Itl X.K a) H1) \/ ((∃ xs, SqT X.K H1 a xs) /\ Q (Itt X.K a) H1)) := by
  refine fw R ?_
  unfold Br at m
  cases e : opds [o] δ with
  | ok p =>
   rw [e, Out.bind_ok] at m
   intro vs H1 G1 G2 l R1 s1 R2 L hd
   split at m
   next xs q =>
    rw [q] at hd
    obtain ⟨x, rfl, h1⟩ := dts1 hd
    cases h1 with
    | lst q r => exact ⟨_, rfl, _, rfl, .inl ⟨⟨_, (R2.g.gh.sqr q).sq⟩, m _ H1 G1 G2 l R1 s1 R2 L (iZ q r)⟩⟩
   next xs q =>
    rw [q] at hd
    obtain ⟨x, rfl, h1⟩ := dts1 hd
    cases h1 with
    | tup q r => exact ⟨_, rfl, _, rfl, .inr ⟨⟨_, R2.g.gh.tup q⟩, m _ H1 G1 G2 l R1 s1 R2 L (jP q r)⟩⟩
   next => exact m.elim
  | exc x => rw [e] at m; exact m
  | bad => rw [e] at m; exact m
 exact iD (fun v H1 ⟨x, ex, q⟩ => by cases ex; exact q) key
theorem j2 (hm : X.mg "range" = none) (ha : SO X E a oa) (hg : Gl X "range" := by rfl) (hs : starEach [a] X.env = [(false, eval a X.env)] := by rfl) : SIC X E tg (.Call (.Name "range" p) [a] [] pos) (icR1 oa) :=
 (jB hg hm (aa ha ag hs) hs).weak fun σ H Q ⟨G0, H0, G, δ, R, m⟩ => by
  refine fw R ?_
  unfold icR1 at m
  cases e : opds [oa] δ with
  | ok q =>
   rw [e, Out.bind_ok] at m
   intro vs H1 G1 G2 l R1 s1 R2 L hd
   split at m
   next j ej =>
    rw [ej] at hd
    obtain ⟨v, rfl, h1⟩ := dts1 hd
    cases h1
    split at m
    next hj =>
     have hj := of_decide_eq_true hj
     exact ⟨j, rfl, hj.1, hj.2, m _ H1 G1 G2 l R1 s1 R2 L (ir 0 j.toNat)⟩
    next => exact m.elim
   next => exact m.elim
  | exc x => rw [e] at m; exact m
  | bad => rw [e] at m; exact m
end
noncomputable def rhoD (F : List Nat) (δ : DEnv) : DEnv := none :: F.map fun j => (δ[j]?).join
noncomputable def AJ (ρ : DEnv) (tc : DT) (te : DE) : A4 -> Option A4
 | [] => some []
 | d :: ds => match tc (ρ.set 0 (some (.sh d))) with
  | .ok p => if p.1 = true then (match vE te p.2 with
    | .ok q => (AJ ρ tc te ds).map (q.1 :: ·)
    | _ => none) else AJ ρ tc te ds
  | _ => none
def Av : DT := fun δ => .ok (true, δ)
noncomputable def AV (F : List Nat) (fc : DC) (tc : DT) (te : DE) : DE := fun δ => (fc δ).bind fun p => if p.1.length <= sizeLine then (match AJ (rhoD F (Aj F p.2.2)) tc te p.1 with
 | some ys => .ok (.ol ys, if Aa ys = true then p.2.1 else Aj F p.2.2)
 | none => .bad) else .bad
theorem oV {i j : Nat} {δ : DEnv} {sd : SD} (h : (AH i δ)[j]? = some (some sd)) : (j = i /\ ¬ sd.owned) \/ (δ[j]? = some (some sd)) := by
 unfold AH at h
 split at h
 ·rcases aS h with ⟨z, e⟩ | ⟨_, e⟩
  ·cases e; exact .inl ⟨z, fun h => h⟩
  ·exact .inr e
 ·rcases aS h with ⟨z, e⟩ | ⟨_, e⟩
  ·cases e; exact .inl ⟨z, fun h => h⟩
  ·exact .inr e
 ·exact .inr h
theorem lF {i : Nat} {δ : DEnv} {sd : SD} (h : (AH i δ)[i]? = some (some sd)) : ¬ sd.owned := by
 unfold AH at h
 split at h
 ·rcases aS h with ⟨_, e⟩ | ⟨z, _⟩
  ·cases e; exact fun h => h
  ·exact absurd rfl z
 ·rcases aS h with ⟨_, e⟩ | ⟨z, _⟩
  ·cases e; exact fun h => h
  ·exact absurd rfl z
 next n1 n2 =>
  intro ho
  cases sd with
  | sh d => exact ho
  | ol ds => exact n1 ds h
  | od ds => exact n2 ds h
  | ex x => exact ho
theorem iu : ∀ (is : List Nat) {δ : DEnv} {j : Nat}, (∀ sd, δ[j]? = some (some sd) -> ¬ sd.owned) -> ∀ sd, (Aj is δ)[j]? = some (some sd) -> ¬ sd.owned
 | [], _, _, h, sd, e => h sd e
 | i :: r, δ, j, h, sd, e => iu r (δ := AH i δ) (fun sd' e' => by
   rcases oV e' with ⟨_, z⟩ | z
   ·exact z
   ·exact h sd' z) sd e
theorem j3 : ∀ (is : List Nat) {δ : DEnv} {j : Nat} {sd : SD}, j ∈ is -> (Aj is δ)[j]? = some (some sd) -> ¬ sd.owned
 | [], _, _, _, h, _ => absurd h (by simp)
 | i :: r, δ, j, sd, h, e => by
  rcases List.mem_cons.mp h with z | z
  ·subst z
   exact iu r (δ := AH j δ) (fun sd' e' => lF e') sd e
  ·exact j3 r z e
theorem jR {α : Type} {o : Option (Option α)} {a : α} (h : o.join = some a) : o = some (some a) := by
 cases o with
 | none => cases h
 | some b => cases b with
  | none => cases h
  | some c => cases h; rfl
theorem sL {K : W.Frag} {mg : A5} {G0 H0 G H G1 H1 : Hp} {σ : St} {δ : DEnv} {F : List Nat} (R : Rel K mg G0 H0 G H σ δ) (ho : ∀ j ∈ F, ∀ sd, δ[j]? = some (some sd) -> ¬ sd.owned) (g : Grow G H G1 H1) : Rel K mg G H G1 H1 (rho 1 F σ) (rhoD F δ) := by
 have get : ∀ (i : Nat) sd, (rhoD F δ)[i]? = some (some sd) -> ∃ k j, i = k + 1 /\ F[k]? = some j /\ δ[j]? = some (some sd) := fun i sd e => by
  unfold rhoD at e
  cases i with
  | zero => cases e
  | succ k =>
   rw [List.getElem?_cons_succ, List.getElem?_map] at e
   cases e2 : F[k]? with
   | none => rw [e2] at e; cases e
   | some j =>
    rw [e2] at e
    exact ⟨k, j, rfl, e2, jR (Option.some.inj e)⟩
 refine ⟨g, ?_, fun i sd e => ?_, fun i sd a e h => ?_, fun i j sd te a e _ h => ?_, R.tabs, R.noT⟩
 ·rw [ko]; simp [rhoD]; omega
 ·obtain ⟨k, j, rfl, e1, e2⟩ := get i sd e
  obtain ⟨v, h1, h2⟩ := R.sl j sd e2
  refine ⟨v, ?_, h2.grow g⟩
  unfold rho
  rw [List.getElem?_append_right (by simp), List.getElem?_map]
  simp only [List.length_replicate, Nat.add_sub_cancel, e1, Option.map_some, h1, Option.join_some]
 ·obtain ⟨k, j, rfl, e1, e2⟩ := get i sd e
  exact absurd h (ho j (List.mem_of_getElem? e1) sd e2)
 ·obtain ⟨k, j, rfl, e1, e2⟩ := get i sd e
  exact absurd h (ho j (List.mem_of_getElem? e1) sd e2)
theorem qA {K : W.Frag} {mg : A5} {E : XK} {F : List Nat} {fc : DC} {tc : DT} {te : DE} {σ : St} {H : Hp} {Q : VK} (h : tE K mg E (AV F fc tc te) σ H Q) : Bz 1 F (tIC K mg E fc) (AC 0) (tT K mg E0 tc) (tE K mg E0 te) σ H Q := by
 obtain ⟨G0, H0, G, δ, R, m⟩ := h
 refine ⟨G0, H0, G, δ, R, ?_⟩
 unfold AV at m
 cases e : fc δ with
 | exc x => rw [e] at m; exact m
 | bad => rw [e] at m; exact m
 | ok p =>
  rw [e, Out.bind_ok] at m
  intro J H1 G1 G2 l R1 s1 R2 L W
  split at m
  next hsz =>
   obtain ⟨G3, l3, R3, L3⟩ := R2.relA F
   have L13 := L.trans L3
   have ho : ∀ j ∈ F, ∀ sd, (Aj F p.2.2)[j]? = some (some sd) -> ¬ sd.owned := fun j hj sd e => j3 F hj e
   generalize hρ : rhoD F (Aj F p.2.2) = ρ at m
   cases ec : AJ ρ tc te p.1 with
   | none => rw [ec] at m; exact m.elim
   | some total =>
    rw [ec] at m
    dsimp only at m
    refine ⟨fun i mm ys H2 => ∃ G4 es rest, Grow G3 H1 G4 H2 /\ Dts K G4 ys es /\ i + mm = p.1.length /\ ys.length <= i /\ AJ ρ tc te (p.1.drop i) = some rest /\ es ++ rest = total, ⟨p.1.length, G3, [], total, .refl R3.g.gh, .nil, Nat.zero_add _, Nat.le_refl _, ec, rfl⟩, ?_⟩
    rintro i mm ys H2 ⟨G4, es, rest, g4, hys, him, hyl, hc, ht⟩
    obtain ⟨w1, w2⟩ := W i G4 H2 (L3.ext.trans g4.gg) g4.gh
    cases hd : p.1[i]? with
    | none =>
     have hi : p.1.length <= i := List.getElem?_eq_none_iff.mp hd
     refine .inl ⟨w2 hi, fun D hD => ?_⟩
     rw [List.drop_eq_nil_of_le hi] at hc
     cases hc
     rw [List.append_nil] at ht
     subst ht
     have gD : Grow G3 H1 G4 (upd H2 D (.lst ys)) := g4.trans (.laidO g4.gh hD)
     have vn : VN K mg H1 G4 (upd H2 D (.lst ys)) (.ref D) (.ol es) := ⟨⟨D, ys, rfl, g4.gh.free hD, aK, hys⟩, fun _ a ea => by cases ea; exact g4.hh.free hD⟩
     by_cases hp : Aa es = true
     ·rw [if_pos hp] at m
      obtain ⟨G5, gr5, vn5⟩ := L13.back R1 R3.g.gh gD vn hp
      exact m _ _ G5 (R1.grow gr5) (s1.trans gr5.gg) (RR.of_new R1 vn5)
     ·rw [if_neg hp] at m
      exact m _ _ G4 (R3.grow gD) ((s1.trans L13.ext).trans g4.gg) (RR.of_new R3 vn)
    | some d =>
     have hi : i < p.1.length := (List.getElem?_eq_some_iff.mp hd).1
     obtain ⟨go, yl⟩ := w1 d hd
     have ed : p.1.drop i = d :: p.1.drop (i + 1) := by
      rw [List.drop_eq_getElem_cons hi]
      congr 1
      exact Option.some.inj ((List.getElem?_eq_getElem hi).symm.trans hd)
     rw [ed] at hc
     unfold AJ at hc
     refine .inr ⟨go, fun x H3 hy => ?_⟩
     obtain ⟨G5, g5, dx⟩ := yl x H3 hy
     have g35 := g4.trans g5
     have Rr := sL (F := F) R3 ho g35
     rw [hρ] at Rr
     have hz : 0 < (rho 1 F σ).length := by rw [ko]; omega
     have Rs := Rr.store hz (r := .sh d) (v := x) (RR.sh dx)
     show tT K mg E0 tc ((rho 1 F σ).set 0 (some x)) H3 _
     refine ⟨G3, H1, G5, ρ.set 0 (some (.sh d)), Rs, ?_⟩
     cases e1 : tc (ρ.set 0 (some (.sh d))) with
     | exc y => rw [e1] at hc; cases hc
     | bad => rw [e1] at hc; cases hc
     | ok q =>
      rw [e1] at hc
      dsimp only at hc
      intro H6 G6 R6 s6
      split
      next hb =>
       rw [if_pos hb] at hc
       refine sj R6 ?_
       cases e2 : vE te q.2 with
       | exc y => rw [e2] at hc; cases hc
       | bad => rw [e2] at hc; cases hc
       | ok u =>
        rw [e2] at hc
        dsimp only at hc
        obtain ⟨rest', er, rfl⟩ := Option.map_eq_some_iff.mp hc
        intro v H7 G7 R7 s7 hv
        refine ⟨by omega, mm - 1, by omega, G7, es ++ [u.1], rest', R7.g, ?_, by omega, by rw [List.length_append, List.length_singleton]; omega, er, by rw [List.append_assoc]; exact ht⟩
        exact (hys.mono ((g5.gg.trans s6).trans s7)).append (.cons hv .nil)
      next hb =>
       rw [if_neg hb] at hc
       exact ⟨mm - 1, by omega, G6, es, rest, R6.g, hys.mono (g5.gg.trans s6), by omega, by omega, hc, ht⟩
  next => exact m.elim
section
variable {X : Cx} {E : XK} {N0 : List Str} {sc0 scope : Scope} {x y : Str} {elt iter : Expr} {ifs : List Expr} {fc : DC} {tc : DT} {te : DE} {pos px py spos : Pos} {F : List Nat}
theorem gK : PTs X [] (tT X.K X.mg E Av) := fun pins s σ H Q I ⟨G0, H0, G, δ, R, m⟩ => rS pins s σ H Q I (m H G R (.refl _))
theorem iE (hok : AY N0 sc0 x scope = true) (hF : B0 N0 scope = F) (hi : SIC X E (.Name x px) iter fc) (ht : ∀ cl C ex s H, PTs (An X (x :: Al scope) scope cl C ex s H) ifs (tT X.K X.mg E0 tc)) (he : ∀ cl C ex s H, PE (An X (x :: Al scope) scope cl C ex s H) elt (tE X.K X.mg E0 te)) (hN : X.N = N0 := by rfl)
  (hsc : X.env.scope = sc0 := by rfl) (hcm : X.calm = true := by rfl) (hs : ∀ x, foldedSetIterable iter X.env x = pure x := by intro _; rfl) : SE X E (.ListComp elt [⟨.Name x px, iter, ifs, 0⟩] scope pos) (AV F fc tc te) := by
 subst hF
 exact (qj hok hi ht he hN hsc hcm hs).weak fun _ _ _ h => qA h
theorem sM (i : Nat) (hNd : X.N.Nodup) (hok : AY N0 sc0 x scope = true) (hF : B0 N0 scope = F) (hi : SIC X E (.Name x px) iter fc) (ht : ∀ cl C ex s H, PTs (An X (x :: Al scope) scope cl C ex s H) ifs (tT X.K X.mg E0 tc)) (he : ∀ cl C ex s H, PE (An X (x :: Al scope) scope cl C ex s H) elt (tE X.K X.mg E0 te))
  (hy : AM X.N y = some i := by rfl) (hN : X.N = N0 := by rfl) (hsc : X.env.scope = sc0 := by rfl) (hcm : X.calm = true := by rfl) (hl : X.env.scope.names.lookup y = some .local := by rfl)
  (hsw : swapsWith (.ListComp elt [⟨.Name x px, iter, ifs, 0⟩] scope pos) (some (.Name y py)) spos.line X.env = pure true := by rfl) (hs : ∀ x, foldedSetIterable iter X.env x = pure x := by intro _; rfl) :
  S1 X E (.Assign [.Name y py] (.ListComp elt [⟨.Name x px, iter, ifs, 0⟩] scope pos) spos) (sAsg i (AV F fc tc te)) := by
 subst hF
 exact (qk hok hi ht he hy hNd hN hsc hcm hl hsw hs).weak fun D σ H q => by
  have q' : tE X.K X.mg E (AV (B0 N0 scope) fc tc te) σ H fun x H1 => AC i x σ H1 D.nx := tV q
  exact qA q'
end
noncomputable def RaS (K : W.Frag) (mg : A5) (ck : DEnv -> Bool) (t : TA) : Prop := ∀ (G0 H0 G H : Hp) (σ : St) (δ : DEnv) (P : List V -> Hp -> Prop), Rel K mg G0 H0 G H σ δ -> ck δ = true -> (∀ vs H', vs.length <= 1 -> Ax H0 H' -> P vs H') -> t σ H P
noncomputable def RaJ (K : W.Frag) (mg : A5) (ck : DEnv -> Bool) (m : Nat) (t : TJ) : Prop := ∀ (G0 H0 G H : Hp) (σ : St) (δ : DEnv) (out : Str) (Q : Str -> Hp -> Prop), Rel K mg G0 H0 G H σ δ -> ck δ = true -> out.length <= m -> (∀ y H', Ax H0 H' -> Q y H') -> t σ H out Q
noncomputable def RaE (K : W.Frag) (mg : A5) (ck : DEnv -> Bool) (t : TE) : Prop := ∀ (G0 H0 G H : Hp) (σ : St) (δ : DEnv) (Q : VK), Rel K mg G0 H0 G H σ δ -> ck δ = true -> (∀ i : Int, i.natAbs.log2 < 1920 -> Q (.int i) H) -> t σ H Q
def AW : DEnv -> Bool := fun _ => true
noncomputable def BA (i : Nat) : DEnv -> Bool := fun δ => match δ[i]? with
 | some (some (.sh (.int k))) => decide (k.natAbs.log2 < 1920)
 | _ => false
noncomputable def Aw (x : Str) (ck : DEnv -> Bool) : DS := fun δ => if ck δ = true then .exc x else .bad
section
variable {K : W.Frag} {mg : A5} {ck : DEnv -> Bool} {m : Nat}
theorem j4 {s : Str} : RaS K mg AW (AU (tC (.str s)) tNil) := fun G0 H0 G H σ δ P R _ k => k _ H (Nat.le_refl _) R.g.hh
theorem mM {t : TJ} (h : RaJ K mg ck 0 t) : RaS K mg ck (AU (fun σ H Q => t σ H Str.empty fun y H' => Q (.str y) H') tNil) := fun G0 H0 G H σ δ P R hc k => h G0 H0 G H σ δ Str.empty _ R hc (Nat.le_refl _) fun y H' s => k _ H' (Nat.le_refl _) s
theorem gc (hm : m <= sizeLine) : RaJ K mg ck m (fun _ H out Q => out.length <= sizeLine /\ Q out H) := fun G0 H0 G H σ δ out Q R _ ho k => ⟨Nat.le_trans ho hm, k _ H R.g.hh⟩
theorem cQ {x : Str} {t : TJ} (n : Nat) (hx : x.length = n) (h : RaJ K mg ck (m + n) t) (hm : m + n <= sizeLine) : RaJ K mg ck m (fun σ H out Q => (out ++ x).length <= sizeLine /\ t σ H (out ++ x) Q) := fun G0 H0 G H σ δ out Q R hc ho k => by
 have hl : (out ++ x).length <= m + n := by rw [Str.length_append]; lia
 exact ⟨Nat.le_trans hl hm, h G0 H0 G H σ δ _ Q R hc hl k⟩
theorem i4 {te : TE} {t : TJ} (he : RaE K mg ck te) (h : RaJ K mg ck (m + 1921) t) (hm : m + 1921 <= sizeLine) : RaJ K mg ck m (fun σ H out Q => te σ H fun v H1 => ∃ i : Int, v = .int i /\ i.natAbs.log2 < 1920 /\ ∀ y : Str, y.length <= 1921 -> (out ++ y).length <= sizeLine /\ t σ H1 (out ++ y) Q) :=
 fun G0 H0 G H σ δ out Q R hc ho k => he G0 H0 G H σ δ _ R hc fun i hi => ⟨i, rfl, hi, fun y hy => by
  have hl : (out ++ y).length <= m + 1921 := by rw [Str.length_append]; lia
  exact ⟨Nat.le_trans hl hm, h G0 H0 G H σ δ _ Q R hc hl k⟩⟩
theorem qB (i : Nat) : RaE K mg (BA i) (tVar i) := fun G0 H0 G H σ δ Q R hc k => by
 unfold BA at hc
 split at hc
 next j e =>
  obtain ⟨v, h1, h2⟩ := R.sl i _ e
  cases h2
  exact ⟨_, h1, k j (of_decide_eq_true hc)⟩
 next => cases hc
theorem gL {c : Int} (hc : c.natAbs.log2 < 1920) : RaE K mg ck (tC (.int c)) := fun G0 H0 G H σ δ Q R _ k => k c hc
end
section
variable {X : Cx} {E : XK} {x : Str} {C : Addr} {B newId initId : String} {bmB : List Value} {t : TA} {e : Expr} {es : List Expr} {np cpos pos : Pos} {ck : DEnv -> Bool}
theorem bL (W : Wish X E) (hc : X.calm = true) (FB : ExcBaseFacts B newId initId bmB) (hm : X.mg x = some (.ref C)) (hx : PySem.W.excIn X.K C bmB newId = true) (ha : PA X (e :: es) t) (hr : RaS X.K X.mg ck t) (hg : Gl X x := by rfl)
  (hd : (x == ("__debug__" : Str)) = false := by decide) (hst : starEach (e :: es) X.env = (false, eval e X.env) :: starEach es X.env := by rfl) (hpl : (backTo cpos (starEach es X.env)).any (·.1) = false := by rfl) :
  S1 X E (.Raise (some (.Call (.Name x np) (e :: es) [] cpos)) none pos) (Aw x ck) := (qf W hc FB hg hm hx ha hd hst hpl).weak fun D σ H ⟨G0, H0, G, δ, R, m⟩ => by
 unfold Aw at m
 split at m
 next hk => exact hr G0 H0 G H σ δ _ R hk fun vs H' hl s => ⟨Nat.le_trans hl (by decide), m H' _ s hm⟩
 next => exact m.elim
end
section
variable {K : W.Frag} {mg : A5} {G0 H0 G H H' : Hp} {σ : St} {δ : DEnv} {i : Nat} {v : V}
theorem Rel.onward (R : Rel K mg G0 H0 G H σ δ) (s : Ax H H') : Rel K mg G0 H0 G H' σ δ := R.grow ⟨s, .refl _, s.same R.g.gh R.noT, fun _ _ => rfl, id⟩
theorem Rel.unset (R : Rel K mg G0 H0 G H σ δ) (i : Nat) : Rel K mg G0 H0 G H (σ.set i none) (δ.set i none) where
 tb := R.tb
 n0 := R.n0
 g := R.g
 len := by rw [List.length_set, List.length_set]; exact R.len
 sl := fun j sd e => by
  rcases aS e with ⟨_, z⟩ | ⟨hj, e'⟩
  ·cases z
  ·obtain ⟨w, h1, h2⟩ := R.sl j sd e'
   exact ⟨w, by rw [List.getElem?_set_ne (Ne.symm hj)]; exact h1, h2⟩
 fr := fun j sd a e ho hs => by
  rcases aS e with ⟨_, z⟩ | ⟨hj, e'⟩
  ·cases z
  ·rw [List.getElem?_set_ne (Ne.symm hj)] at hs
   exact R.fr j sd a e' ho hs
 ap := fun j k sd te a e1 e2 h1 h2 s1 s2 => by
  rcases aS e1 with ⟨_, z⟩ | ⟨hj, q1⟩
  ·cases z
  ·rcases aS e2 with ⟨_, z⟩ | ⟨hk, q2⟩
   ·cases z
   ·rw [List.getElem?_set_ne (Ne.symm hj)] at s1
    rw [List.getElem?_set_ne (Ne.symm hk)] at s2
    exact R.ap j k sd te a q1 q2 h1 h2 s1 s2
end
noncomputable def CM (φ : A4 -> Out SD) (ops : List Opd) (cat : Str -> Bool) (h : DS) : DS := fun δ => match opds ops δ with
 | .ok p => (match φ p.1 with
  | .ok r => .nx (if r.pure = true then p.2.1 else p.2.2)
  | .exc y => if cat y = true then h p.2.1 else .bad
  | .bad => .bad)
 | _ => .bad
noncomputable def hAs (i : Nat) (y : Str) (h : DS) : DS := fun δ => if i < δ.length then (match h (δ.set i (some (.ex y))) with
 | .nx δ' => .nx (δ'.set i none)
 | .bk δ' => .bk (δ'.set i none)
 | .ct δ' => .ct (δ'.set i none)
 | r => r) else .bad
noncomputable def Bw (φ : A4 -> Out SD) (ops : List Opd) (cat : Str -> Bool) (i : Nat) (h : DS) : DS := fun δ => match opds ops δ with
 | .ok p => (match φ p.1 with
  | .ok r => .nx (if r.pure = true then p.2.1 else p.2.2)
  | .exc y => if cat y = true then hAs i y h p.2.1 else .bad
  | .bad => .bad)
 | _ => .bad
noncomputable def Cat (K : W.Frag) (mg : A5) (Cc : Value) (cat : Str -> Bool) : Prop := ∀ y C, cat y = true -> mg y = some C -> W.exmOne K C Cc = some true
section
variable {K : W.Frag} {mg : A5} {E : XK} {φ : A4 -> Out SD} {ops : List Opd} {cat : Str -> Bool} {h : DS} {Cc : Value} {D : Ends} {σ : St} {H : Hp} {i : Nat}
theorem v3 {G0 H0 G H' : Hp} {δ : DEnv} {y : Str} {C : Value} (R : Rel K mg G0 H0 G H' σ δ) (hC : mg y = some C) (m : PoS K mg E G0 H0 G D (hAs i y h δ)) : ∀ ea, H' ea = none -> tS K mg E h (D.less i) (σ.set i (some (.ref ea))) (upd H' ea (excO ea C)) := fun ea he => by
 unfold hAs at m
 split at m
 next hi =>
  have R2 := (R.grow (.laidO (o := excO ea C) R.g.gh he)).store (i := i) (v := .ref ea) (r := .ex y) (by rw [<- R.len]; exact hi) ⟨⟨ea, C, rfl, hC, aK⟩, fun z => z.elim⟩
  refine ⟨G0, H0, G, _, R2, ?_⟩
  cases e : h (δ.set i (some (.ex y))) with
  | nx δ' => rw [e] at m; exact fun σ' H' G' R' s => m _ H' G' (R'.unset i) s
  | bk δ' => rw [e] at m; exact fun σ' H' G' R' s => m _ H' G' (R'.unset i) s
  | ct δ' => rw [e] at m; exact fun σ' H' G' R' s => m _ H' G' (R'.unset i) s
  | rt r => rw [e] at m; exact m
  | exc x => rw [e] at m; exact m
  | bad => rw [e] at m; exact m
 next => exact m.elim
end
section
variable {X : Cx} {E : XK} {x c n : Str} {k j i : Nat} {φ : A4 -> Out SD} {e : Expr} {es : List Expr} {ops : List Opd} {p pos pos' cp hp tpos : Pos} {cat : Str -> Bool} {h : DS} {Cc : Value} {b0 : Stmt} {suite : List Stmt}
theorem qC (i : Nat) (D : DefD X.prog X.w X.K X.mg X.base x k φ) (hr : Room j X.A) (ha : PA X.nox (e :: es) (tOs X.K X.mg E0 ops)) (hst : X.stack = X.env :: X.outer) (hfrm : X.env.frame = some X.env.locals) (hN : X.N.Nodup) (hm : X.mg c = some Cc) (hcat : Cat X.K X.mg Cc cat)
  (hh : ∀ ea, SS (AX X ea) E (b0 :: suite) h) (hi : X.N[i]? = some n := by rfl) (hl : X.env.kindOf n = some .local := by rfl) (hk : k <= j := by decide) (hg : Gl X x := by rfl) (hgc : Gl X c := by rfl) (hdb : (x == ("__debug__" : Str)) = false := by decide) (hdc : (c == ("__debug__" : Str)) = false := by decide)
  (he : starEach (e :: es) X.env = (false, eval e X.env) :: starEach es X.env := by rfl) (hpl : (backTo pos (starEach es X.env)).any (·.1) = false := by rfl) (hs : swapsWith (.Call (.Name x p) (e :: es) [] pos) none pos'.line X.env = pure false := by rfl) :
  S1 X E (.Try [.Expr (.Call (.Name x p) (e :: es) [] pos) pos'] [.ExceptHandler (some (.Name c cp)) (some n) (b0 :: suite) hp] [] [] tpos) (Bw φ ops cat i h) := by
 obtain ⟨f, fd, ps, D⟩ := D
 refine (rY (th := tS X.K X.mg E h) hst hfrm hN hi hl (lx D hr ha hg hk hdb he hpl hs) hgc hm hh hdc).weak fun D' σ H ⟨G0, H0, G, δ, R, m⟩ => ?_
 refine fw R ?_
 unfold Bw at m
 cases e1 : opds ops δ with
 | exc y => rw [e1] at m; exact m.elim
 | bad => rw [e1] at m; exact m
 | ok q =>
  rw [e1] at m
  dsimp only at m
  intro vs H1 G1 G2 l R1 s1 R2 L hd
  rw [List.append_nil]
  refine ⟨G2, q.1, ⟨R2.g.gh, R2.noT, R2.tabs⟩, hd, ?_⟩
  cases e2 : φ q.1 with
  | ok r =>
   rw [e2] at m
   intro v H2 G3 gr vn
   dsimp only at m
   by_cases hp : r.pure = true
   ·rw [if_pos hp] at m
    obtain ⟨G4, gr4, vn4⟩ := L.back R1 R2.g.gh gr vn hp
    exact m σ H2 G4 (R1.grow gr4) (s1.trans gr4.gg)
   ·rw [if_neg hp] at m
    exact m σ H2 G3 (R2.grow gr) ((s1.trans L.ext).trans gr.gg)
  | exc y =>
   rw [e2] at m
   dsimp only at m
   intro H2 C s hC
   split at m
   next hy => exact ⟨hcat y C hy hC, v3 (R1.onward s) hC (m.mono s1)⟩
   next => exact m.elim
  | bad => rw [e2] at m; exact m
end
end L2
namespace PySem.W
open PySem PySem.Spec PySem.Calls PyProof.Rows
theorem sN {K : Frag} {x t c : Value} {H : Heap -> Prop} (ty : ∀ (M : Model) (h : Heap), H h -> Looks M h (typeOf x) t) (e : kitOne K t c = some true) : Answers (fun s => K.In s.heap /\ H s.heap) x c true := by
 intro dep tk prog w A R s hs
 obtain ⟨h0, g, d, tt, os⟩ := s
 obtain ⟨⟨X, p⟩, hq⟩ := hs
 have LT := ty (model prog w) h0 p
 unfold kitOne at e
 unfold Builtin.«isinstance.nested»
 refine wpAny_bind (LT.at ?_)
 by_cases q : (t == c) = true
 ·rw [if_pos q] at e
  rw [if_pos q]
  first
   | ((repeat lk); exact hq tt)
   | exact wpAny_bind (wpAny_rule (hq tt))
   | exact wpAny_bind (wpAny_rule (wpAny_pure (hq tt)))
 ·rw [if_neg q] at e
  rw [if_neg q]
  obtain ⟨hty, his, hsub⟩ := kit_cls (M := model prog w) X e
  have LI : Looks (model prog w) h0 (isInstance x c) true := LT.andThen hsub
  refine wpAny_bind (hty.at ?_)
  rw [if_pos (by decide)]
  k_delta "plainIsInstance"
  refine wpAny_bind (wpAny_bind (his.at ?_))
  simp only [Bool.not_true, Bool.false_eq_true, if_false]
  refine wpAny_bind (LI.at ?_)
  first
   | exact wpAny_pure (wpAny_pure (hq tt))
   | (simp only [if_true]; first | exact wpAny_pure (wpAny_pure (hq tt)) | exact wpAny_pure (hq tt) | exact wpAny_bind (wpAny_pure (wpAny_pure (hq tt))))
theorem gM {K : Frag} {a : Addr} {C c : Value} {prog : Program} {w : World} {A : Around} {E : A8} {s : Shared} {Q : A8} (X : K.In s.heap) (p : ∃ o, s.heap.get? a = some o /\ o.cls = C) (e : kitOne K C c = some true) (h : ∀ tk, Q (.bool true) { s with toks := tk }) :
  wpAny (model prog w) A (call (.builtin "isinstance") [.ref a, c]) Q E s :=
 call_isinstance (S := fun _ R s => (K.In s.heap /\ ∃ o, s.heap.get? a = some o /\ o.cls = C) /\ ∀ tk, R (.ok (.ret (.bool true))) { s with toks := tk })
  (fun prog w A R s hs => isinstance_outer (sN (K := K) (H := fun h => ∃ o, h.get? a = some o /\ o.cls = C) (fun M h ⟨o, ho, hc⟩ => by rw [<- hc]; exact (Looks.ld ho).andThen .now) e 0 _ prog w A R s hs) (by intro z; cases z)) ⟨⟨X, p⟩, h⟩
end PySem.W
namespace L2
open PySem PySem.Spec PyProof.Rows
variable [Tabs]
open PySem.W (gM) in
theorem qD {X : Cx} : AD X (.builtin "isinstance") (fun xs H Q => ∃ a C cv, xs = [.ref a, cv] /\ H a = some (excO a C) /\ (∀ c, RelV cv c -> W.kitOne X.K C c = some true) /\ Q (.bl true) H) := by
 intro pins s σ H xs us Q I r h
 obtain ⟨a, C, cv, rfl, ha, hk, q⟩ := h
 obtain ⟨u, w', rfl, r1, r2⟩ := vals2 r
 cases (show u = Value.ref a from r1)
 have ho : Ao X.prog X.w H s.heap a (excO a C) := I.hok a _ ha
 exact gM I.kIn ho.1 (hk w' r2) fun tk => ⟨.bl true, H, I.tok tk, rfl, q⟩
noncomputable def eIsX (i : Nat) (cat : Str -> Bool) : DE := fun δ => match δ[i]? with
 | some (some (.ex y)) => if cat y = true then .ok (.sh (.bool true), δ) else .bad
 | _ => .bad
noncomputable def CatI (K : W.Frag) (mg : A5) (c : Value) (cat : Str -> Bool) : Prop := ∀ y C, cat y = true -> mg y = some C -> W.kitOne K C c = some true
section
variable {X : Cx} {E : XK} {x n : Str} {cat : Str -> Bool} {p q r pos : Pos}
theorem xK {i : Nat} {cv : V} {σ : St} {H : Hp} {Q : VK} (hc : ∀ y C, cat y = true -> X.mg y = some C -> ∀ c, RelV cv c -> W.kitOne X.K C c = some true) (h : tE X.K X.mg E (eIsX i cat) σ H Q) :
  tCB (fun xs H Q => ∃ a C cv, xs = [.ref a, cv] /\ H a = some (excO a C) /\ (∀ c, RelV cv c -> W.kitOne X.K C c = some true) /\ Q (.bl true) H) (AU (tVar i) (AU (tC cv) tNil)) σ H Q := by
 obtain ⟨G0, H0, G, δ, R, m⟩ := h
 unfold eIsX at m
 split at m
 next y e =>
  split at m
  next hy =>
   obtain ⟨v, h1, ⟨a, C, rfl, h3, h4⟩⟩ := R.sl i _ e
   exact ⟨_, h1, a, C, cv, rfl, h4, hc y C hy h3, m _ H G R (.refl _) (RR.sh (.bl true))⟩
  next => exact m.elim
 next => exact m.elim
theorem sO (i : Nat) {T : String} (hm : X.mg "isinstance" = none) (hm2 : X.mg x = none) (hv : bootBuiltins x = some (.type T)) (hcat : CatI X.K X.mg (.type T) cat) (hN : X.N[i]? = some n := by rfl) (hvis : Vis X.env.scope n := by first | exact Or.inl rfl | exact Or.inr (Or.inl rfl) | exact Or.inr (Or.inr rfl))
  (hg : Gl X "isinstance" := by rfl) (hg2 : Gl X x := by rfl) (hn : x ≠ "__name__" := by decide) (hd : (x == ("__debug__" : Str)) = false := by decide) (hd2 : (n == ("__debug__" : Str)) = false := by decide) (hcd : (n == ("__classdict__" : Str)) = false := by decide) :
  SE X E (.Call (.Name "isinstance" p) [.Name n q, .Name x r] [] pos) (eIsX i cat) :=
 (iR qD hg hm boot_isinstance (aV (ft hN hvis hd2 hcd) (aV (tU hm2 hv hg2 hn hd) bC rfl) rfl) (by decide) (by decide) rfl rfl).weak fun _ _ _ h => xK (fun y C hy hC c hr => by cases (show c = Value.type T from hr); exact hcat y C hy hC) h
end
section
variable {X : Cx} {E : XK} {x : Str} {pos : Pos} {c : Int}
theorem iF (h : ∃ t, X.mg x = some (.int c t)) (hg : Gl X x := by rfl) (hdb : (x == ("__debug__" : Str)) = false := by decide) : PE X (.Name x pos) (tC (.int c)) := by
 obtain ⟨t, h⟩ := h
 exact nu hg h ⟨t, rfl⟩ hdb
theorem iG (h : ∃ t, X.mg x = some (.int c t)) (hg : Gl X x := by rfl) (hdb : (x == ("__debug__" : Str)) = false := by decide) : SE X E (.Name x pos) (eC (.int c)) := by
 obtain ⟨t, h⟩ := h
 exact nN h (v := .int c) ⟨t, rfl⟩ (fun _ => .int c) hg hdb
end
section
variable {P : Program} {w : World} {K : W.Frag} {mg : A5} {base h : Heap} {x : Str} {st : Stmt} {f : Addr} {fd : FuncData}
structure Cj (K : W.Frag) (mg : A5) (x : Str) (st : Stmt) (f : Addr) (fd : FuncData) : Prop where
 fn : Fun K x x st f fd
 at_ : mg x = some (.ref f)
theorem ax {oc : Value} {od an : Option Addr} {osl : Array (Option Value)} {kV doc pm cdv ct : Value} (X : K.In h) (G : h.Ns mainGlobals mg) (a : W.nsIn K mainGlobals x = some (some (.ref f)))
  (l : K.lookup f = some ⟨oc, od, .func (W.fnOf x x (defArgs st) (defBody st) (defScope st) .none kV doc pm an cdv ct), osl⟩) (c : W.codeIn K cdv x = true) (k : W.keepIn K (.ref f) = true) : Cj K mg x st f (W.fnOf x x (defArgs st) (defBody st) (defScope st) .none kV doc pm an cdv ct) :=
 ⟨mF l c k, W.mg_of X G a⟩
theorem aF {ps : List Str} {k : Nat} {φ : A4 -> Out SD} (A : Cj K mg x st f fd) (ok : FnOk P w K mg base (CXe P w) k f fd ps (spD K mg φ))
  (b : ∀ (kV doc pm : Value) (an : Option Addr) (cdv ct : Value) (us : List Value), us.length = ps.length -> bindArgs (W.fnOf x x (defArgs st) (defBody st) (defScope st) .none kV doc pm an cdv ct) ⟨us, []⟩ = pure (ps.zip us)) : DefD P w K mg base x k φ :=
 ⟨f, fd, ps, ok, A.at_, A.fn.kp, A.fn.binds b⟩
end
noncomputable def BM (K : W.Frag) : Sp := fun vs H Q _ => ∃ (a : Addr) (ns : List Int), vs = [.ref a] /\ SqR K H a (ns.map V.int) /\ ns.length <= 63 /\ Bh H /\ ∀ H', Q (.bl true) H'
theorem sP {K : W.Frag} {H : Hp} {a : Addr} {ns : List Int} (hs : SqR K H a (ns.map V.int)) : ∃ G, Same G H /\ NoT G /\ SqR K G a (ns.map V.int) := by
 refine ⟨fun b => match H b with | some (.tbl _) => none | o => o, fun b o e => ?_, fun b ps z => ?_, ?_⟩
 ·dsimp only at e
  split at e
  ·cases e
  ·exact e
 ·dsimp only at z
  split at z
  ·cases z
  ·rename_i h; exact h ps z
 ·rcases hs with (h | ⟨o, h⟩) | h
  ·exact .inl (.inl (by dsimp only; rw [h]))
  ·exact .inl (.inr ⟨o, by dsimp only; rw [h]⟩)
  ·exact .inr h
theorem oW {K : W.Frag} {mg : A5} {φ : A4 -> Out SD} (hφ : ∀ ns : List Int, ns.length <= 63 -> φ [.list (ns.map PyData.int)] = .ok (.sh (.bool true))) (vs : List V) (H : Hp) (Q : VK) (E : XK) (h : BM K vs H Q E) : spD K mg φ vs H Q E := by
 obtain ⟨a, ns, rfl, hs, hl, tb, q⟩ := h
 obtain ⟨G, g1, g2, g3⟩ := sP hs
 refine ⟨G, [.list (ns.map .int)], ⟨g1, g2, tb⟩, .cons (.lst g3 (Dts.ints ns)) .nil, ?_⟩
 rw [hφ ns hl]
 intro v H' G' _ vn
 have := vn.1
 cases this
 exact q H'
theorem oX {P : Program} {w : World} (outer : List Env) (H : Hp) (s : Shared) (e : Value) (s' : Shared) (h : CXe P w outer H s (fun _ _ _ => False) e s') : False := by
 obtain ⟨_, _, _, _, _, z⟩ := h
 exact z
@[simp ↓] theorem xM {α : Type} {c : Prop} [Decidable c] (a : α) : (if c then a else a) = a := by split <;> rfl
noncomputable def shOf : SD × DEnv -> Out (PyData × DEnv)
 | (.sh d, δ) => .ok (d, δ)
 | (.ol ds, δ) => .ok (.list ds, δ)
 | (.od es, δ) => .ok (.dict es, δ)
 | (.ex _, _) => .bad
@[simp] theorem yL (d : PyData) (δ : DEnv) : shOf (.sh d, δ) = .ok (d, δ) := rfl
@[simp] theorem yM (d : A4) (δ : DEnv) : shOf (.ol d, δ) = .ok (.list d, δ) := rfl
@[simp] theorem yN (d : List (PyData × PyData)) (δ : DEnv) : shOf (.od d, δ) = .ok (.dict d, δ) := rfl
@[simp] theorem A0 (f : DE) (δ : DEnv) : vE f δ = (f δ).bind shOf := by
 unfold vE
 cases f δ with
 | ok p => obtain ⟨r, δ'⟩ := p; cases r <;> rfl
 | exc x => rfl
 | bad => rfl
@[simp] theorem yO (δ : DEnv) : evO [] δ = .ok ([], δ) := rfl
@[simp] theorem zL (i : Nat) (r : List Opd) (δ : DEnv) : evO (.nm i :: r) δ = match δ[i]? with
  | some (some _) => (evO r δ).bind fun q => .ok (.inr i :: q.1, q.2)
  | _ => .bad := by rw [evO] <;> rfl
@[simp] theorem zM (f : DE) (r : List Opd) (δ : DEnv) : evO (.ex f :: r) δ = (vE f δ).bind fun p => (evO r p.2).bind fun q => .ok (.inl p.1 :: q.1, q.2) := by rw [evO]
@[simp] theorem v5 : Ak [] = [] := rfl
@[simp] theorem xN (d : PyData) (r : List (Sum PyData Nat)) : Ak (.inl d :: r) = Ak r := rfl
@[simp] theorem xO (i : Nat) (r : List (Sum PyData Nat)) : Ak (.inr i :: r) = i :: Ak r := rfl
@[simp] theorem v7 (δ : DEnv) : Aj [] δ = δ := rfl
@[simp] theorem tW (i : Nat) (r : List Nat) (δ : DEnv) : Aj (i :: r) δ = Aj r (AH i δ) := rfl
@[simp] theorem wa (i : Nat) (δ : DEnv) : AH i δ = match δ[i]? with
 | some (some (.ol ds)) => δ.set i (some (.sh (.list ds)))
 | some (some (.od es)) => δ.set i (some (.sh (.dict es)))
 | _ => δ := rfl
@[simp] theorem xP (δ : DEnv) (i : Nat) : BJ δ i = match δ[i]? with
 | some (some (.sh d)) => some d
 | _ => none := rfl
@[simp] theorem wb (δ : DEnv) : Ay δ [] = some [] := rfl
@[simp] theorem yP (δ : DEnv) (d : PyData) (r : List (Sum PyData Nat)) : Ay δ (.inl d :: r) = (Ay δ r).map (d :: ·) := rfl
@[simp] theorem yQ (δ : DEnv) (i : Nat) (r : List (Sum PyData Nat)) : Ay δ (.inr i :: r) = (BJ δ i).bind fun d => (Ay δ r).map (d :: ·) := rfl
noncomputable def Ck (p : List (Sum PyData Nat) × DEnv) : Out (A4 × DEnv × DEnv) := match Ay (Aj (Ak p.1) p.2) p.1 with
 | some ds => .ok (ds, p.2, Aj (Ak p.1) p.2)
 | none => .bad
@[simp] theorem xQ (l : List (Sum PyData Nat)) (δ : DEnv) : Ck (l, δ) = match Ay (Aj (Ak l) δ) l with
 | some ds => .ok (ds, δ, Aj (Ak l) δ)
 | none => .bad := rfl
@[simp] theorem yR (ops : List Opd) (δ : DEnv) : opds ops δ = (evO ops δ).bind Ck := rfl
@[simp] theorem zN (o : A4 -> Option SD) (ops : List Opd) (δ : DEnv) : eOp o ops δ = (opds ops δ).bind fun p => fin2 (o p.1) p.2.1 p.2.2 := rfl
@[simp] theorem wc (r : SD) (δ1 δ2 : DEnv) : fin2 (some r) δ1 δ2 = .ok (r, if r.pure = true then δ1 else δ2) := rfl
@[simp] theorem wd (δ1 δ2 : DEnv) : fin2 none δ1 δ2 = .bad := rfl
@[simp] theorem yS (d : PyData) : (SD.sh d).pure = Ac d := rfl
@[simp] theorem yT (d : A4) : (SD.ol d).pure = Aa d := rfl
@[simp] theorem yU (d : List (PyData × PyData)) : (SD.od d).pure = Aa (d.map (·.2)) := rfl
@[simp] theorem we (i : Int) : Ac (.int i) = true := by simp [Ac]
@[simp] theorem v8 (i : Bool) : Ac (.bool i) = true := by simp [Ac]
@[simp] theorem wg (i : Str) : Ac (.str i) = true := by simp [Ac]
@[simp] theorem v9 : Ac .none = true := by simp [Ac]
@[simp] theorem va (l : A4) : Ac (.list l) = false := by simp [Ac]
@[simp] theorem vb (l : List (PyData × PyData)) : Ac (.dict l) = false := by simp [Ac]
@[simp] theorem lG (l : A4) : Ac (.tuple l) = Aa l := by simp [Ac]
@[simp] theorem mO : Aa [] = true := by simp [Aa]
@[simp] theorem iw (d : PyData) (l : A4) : Aa (d :: l) = (Ac d && Aa l) := by simp [Aa]
@[simp] theorem df (l : List Int) : Aa (l.map PyData.int) = true := by induction l <;> simp_all
@[simp] theorem rm (l r : A4) : Aa (l ++ r) = (Aa l && Aa r) := by induction l <;> simp_all [Bool.and_assoc]
@[simp] theorem A1 (d : PyData) (δ : DEnv) : eC d δ = .ok (.sh d, δ) := rfl
@[simp] theorem A2 (i : Nat) (δ : DEnv) : eV i δ = match δ[i]? with
 | some (some (.sh d)) => .ok (.sh d, δ)
 | some (some (.ol ds)) => .ok (.sh (.list ds), δ.set i (some (.sh (.list ds))))
 | some (some (.od ds)) => .ok (.sh (.dict ds), δ.set i (some (.sh (.dict ds))))
 | _ => .bad := rfl
@[simp] theorem wj (δ : DEnv) : BC δ = .ok (.od [], δ) := rfl
@[simp] theorem xR (i j : Int) : dAdd [.int i, .int j] = some (.sh (.int (i + j))) := rfl
@[simp] theorem wk (x y : A4) : dAdd [.list x, .list y] = if x.length + y.length <= sizeLine then some (.ol (x ++ y)) else none := rfl
@[simp] theorem vc (x y : A4) : dAdd [.tuple x, .tuple y] = if x.length + y.length <= sizeLine then some (.sh (.tuple (x ++ y))) else none := rfl
@[simp] theorem xS (x y : Str) : dAdd [.str x, .str y] = if x.length + y.length <= sizeLine then some (.sh (.str (x ++ y))) else none := rfl
@[simp] theorem xT (i j : Int) : dSub [.int i, .int j] = some (.sh (.int (i - j))) := rfl
@[simp] theorem wm (i j : Int) : B1 [.int i, .int j] = if 0 < j /\ j < 1073741824 then some (.sh (.int (i / j))) else none := by simp [B1, dI2]
@[simp] theorem xU (i j : Int) : dMod [.int i, .int j] = if 0 < j then some (.sh (.int (i % j))) else none := by simp [dMod, dI2]
@[simp] theorem xV (i j : Int) : dPow [.int i, .int j] = if 0 <= j /\ j <= 1000000 /\ i.natAbs < 2 ^ 64 then some (.sh (.int (i ^ j.toNat))) else none := by simp [dPow, dI2]
@[simp] theorem yV (i j : Int) : dLt [.int i, .int j] = some (.sh (.bool (decide (i < j)))) := rfl
@[simp] theorem yW (i j : Int) : dLe [.int i, .int j] = some (.sh (.bool (decide (i <= j)))) := rfl
@[simp] theorem yX (i j : Int) : dGt [.int i, .int j] = some (.sh (.bool (decide (j < i)))) := rfl
@[simp] theorem yY (i j : Int) : dGe [.int i, .int j] = some (.sh (.bool (decide (j <= i)))) := rfl
@[simp] theorem xW (i : Int) : dNeg [.int i] = some (.sh (.int (-i))) := rfl
@[simp] theorem xX (i j : Int) : dMul [.int i, .int j] = if cMul i j = true then some (.sh (.int (i * j))) else none := rfl
@[simp] theorem bD (xs : A4) (k : Int) : dMul [.list xs, .int k] = if 0 <= k /\ k < 2 ^ 63 /\ xs.length * k.toNat <= sizeLine then some (.ol (List.replicate k.toNat xs).flatten) else none := rfl
@[simp] theorem zO (x y : PyData) : dEq [x, y] = (dEqB x y).map fun b => .sh (.bool b) := rfl
@[simp] theorem zP (x y : PyData) : dNe [x, y] = (dEqB x y).map fun b => .sh (.bool !b) := rfl
@[simp] theorem xY (i j : Int) : dEqB (.int i) (.int j) = some (decide (i = j)) := rfl
@[simp] theorem wo (i j : Bool) : dEqB (.bool i) (.bool j) = some (decide (i = j)) := rfl
@[simp] theorem xZ (i j : Str) : dEqB (.str i) (.str j) = some (decide (i = j)) := rfl
@[simp] theorem wq (x y : A4) : dEqB (.list x) (.list y) = if SeqAt.shaped (.list x) = true /\ SeqAt.shaped (.list y) = true then some (PyData.eqv (.list x) (.list y)) else none := rfl
@[simp] theorem vd (x y : A4) : dEqB (.tuple x) (.tuple y) = if SeqAt.shaped (.tuple x) = true /\ SeqAt.shaped (.tuple y) = true then some (PyData.eqv (.tuple x) (.tuple y)) else none := rfl
@[simp] theorem yZ (x y : PyData) : dIdx [x, y] = (Bp x y).map .sh := rfl
@[simp] theorem ve (xs : A4) (i : Int) : Bp (.list xs) (.int i) = atI xs i := rfl
@[simp] theorem tX (xs : A4) (i : Int) : Bp (.tuple xs) (.int i) = atI xs i := rfl
@[simp] theorem tY (es : List (PyData × PyData)) (i : Int) : Bp (.dict es) (.int i) = Bo es (.inl i) := rfl
@[simp] theorem z0 (x : PyData) (i : Int) : dSlL [x, .int i] = slD x (some i) none := rfl
@[simp] theorem z6 (x : PyData) (i : Int) : dSlH [x, .int i] = slD x none (some i) := rfl
@[simp] theorem y0 (xs : A4) (lo hi : Option Int) : slD (.list xs) lo hi = some (.ol (cutD xs lo hi)) := rfl
@[simp] theorem wt (xs : A4) (lo hi : Option Int) : slD (.tuple xs) lo hi = some (.sh (.tuple (cutD xs lo hi))) := rfl
@[simp] theorem wu (xs : A4) : dLen [.list xs] = some (.sh (.int xs.length)) := rfl
@[simp] theorem vf (xs : A4) : dLen [.tuple xs] = some (.sh (.int xs.length)) := rfl
@[simp] theorem wx (xs : List (PyData × PyData)) : dLen [.dict xs] = some (.sh (.int xs.length)) := rfl
@[simp] theorem y4 (i : Int) : dAbs [.int i] = some (.sh (.int (if i < 0 then -i else i))) := rfl
@[simp] theorem vg (xs : A4) : Be [.list xs] = some (.ol xs) := rfl
@[simp] theorem tZ (xs : A4) : Be [.tuple xs] = some (.ol xs) := rfl
@[simp] theorem vh (xs : List (PyData × PyData)) : Be [.dict xs] = some (.ol (xs.map (·.1))) := rfl
@[simp] theorem u0 (xs : A4) : AI [.list xs] = some (.sh (.tuple xs)) := rfl
@[simp] theorem sQ (xs : A4) : AI [.tuple xs] = some (.sh (.tuple xs)) := rfl
@[simp] theorem z8 (xs : A4) : dTup xs = if xs.length <= sizeLine then some (.sh (.tuple xs)) else none := rfl
@[simp] theorem z9 (xs : A4) : dLst xs = if xs.length <= sizeLine then some (.ol xs) else none := rfl
@[simp] theorem wy (xs : A4) : Bi [.list xs] = if xs.length < 64 then (B6 xs).map fun ns => .ol ((B2 ns).map PyData.int) else none := rfl
@[simp] theorem lH : ∀ ns : List Int, B6 (ns.map PyData.int) = some ns
 | [] => rfl
 | n :: r => by simp [B6, lH r]
@[simp] theorem wz (T : String) : dIsi T [.none] = some (.sh (.bool (isiD T .none))) := rfl
@[simp] theorem wA (T : String) (b : Bool) : dIsi T [.bool b] = some (.sh (.bool (isiD T (.bool b)))) := rfl
@[simp] theorem y8 (T : String) (i : Int) : dIsi T [.int i] = some (.sh (.bool (isiD T (.int i)))) := rfl
@[simp] theorem y9 (T : String) (i : Str) : dIsi T [.str i] = some (.sh (.bool (isiD T (.str i)))) := rfl
@[simp] theorem wB (T : String) (i : A4) : dIsi T [.list i] = some (.sh (.bool (isiD T (.list i)))) := rfl
@[simp] theorem vi (T : String) (i : A4) : dIsi T [.tuple i] = some (.sh (.bool (isiD T (.tuple i)))) := rfl
@[simp] theorem j5 {n : Nat} (h : n <= 1000000) : n <= sizeLine := Nat.le_trans h (by decide)
@[simp] theorem u4 (b : Bool) : AN (.bool b) = some b := rfl
@[simp] theorem vj (b : Int) : AN (.int b) = some (b != 0) := rfl
@[simp] theorem u5 (b : A4) : AN (.list b) = some (!b.isEmpty) := rfl
@[simp] theorem sR (b : A4) : AN (.tuple b) = some (!b.isEmpty) := rfl
@[simp] theorem u7 : AN .none = some false := rfl
noncomputable def truO (p : A4 × DEnv × DEnv) : Out (Bool × DEnv) := match p.1 with
 | [d] => (match AN d with
  | some b => .ok (b, p.2.1)
  | none => .bad)
 | _ => .bad
@[simp] theorem za (d : PyData) (δ1 δ2 : DEnv) : truO ([d], δ1, δ2) = match AN d with
  | some b => .ok (b, δ1)
  | none => .bad := rfl
@[simp] theorem zb (o : Opd) (δ : DEnv) : tstO o δ = (opds [o] δ).bind truO := rfl
noncomputable def truV (p : SD × DEnv) : Out (Bool × DEnv) := match p.1 with
 | .sh (.bool b) => .ok (b, p.2)
 | _ => .bad
@[simp] theorem zQ (b : Bool) (δ : DEnv) : truV (.sh (.bool b), δ) = .ok (b, δ) := rfl
@[simp] theorem zc (f : DE) (δ : DEnv) : tstV f δ = (f δ).bind truV := rfl
@[simp] theorem wC (f : DT) (δ : DEnv) : Ap f δ = (f δ).bind fun p => .ok (!p.1, p.2) := rfl
@[simp] theorem wD (f g : DT) (δ : DEnv) : AQ f g δ = (f δ).bind fun p => if p.1 = true then g p.2 else .ok (false, p.2) := rfl
@[simp] theorem ya (f g : DT) (δ : DEnv) : B7 f g δ = (f δ).bind fun p => if p.1 = true then .ok (true, p.2) else g p.2 := rfl
@[simp] theorem wF (δ : DEnv) : Av δ = .ok (true, δ) := rfl
@[simp] theorem zd (f : DE) (δ : DEnv) : eNot f δ = (f δ).bind fun p => (truV p).bind fun q => .ok (.sh (.bool !q.1), q.2) := by
 unfold eNot
 congr 1
 funext p
 obtain ⟨r, δ'⟩ := p
 cases r with
 | sh d => cases d <;> rfl
 | _ => rfl
@[simp] theorem ze (f g : DE) (δ : DEnv) : eAnd f g δ = (f δ).bind fun p => (truV p).bind fun q => if q.1 = true then g q.2 else .ok (.sh (.bool false), q.2) := by
 unfold eAnd
 congr 1
 funext p
 obtain ⟨r, δ'⟩ := p
 cases r with
 | sh d => cases d <;> rfl
 | _ => rfl
@[simp] theorem zR (f g : DE) (δ : DEnv) : eOr f g δ = (f δ).bind fun p => (truV p).bind fun q => if q.1 = true then .ok (.sh (.bool true), q.2) else g q.2 := by
 unfold eOr
 congr 1
 funext p
 obtain ⟨r, δ'⟩ := p
 cases r with
 | sh d => cases d <;> rfl
 | _ => rfl
@[simp] theorem yb (φ : A4 -> Out SD) (ops : List Opd) (δ : DEnv) : Ab φ ops δ = (opds ops δ).bind fun p => (φ p.1).bind fun r => .ok (r, if r.pure = true then p.2.1 else p.2.2) := rfl
noncomputable def SOut.andThen (x : SOut) (g : DS) : SOut := match x with
 | .nx δ => g δ
 | r => r
@[simp] theorem vk (δ : DEnv) (g : DS) : (SOut.nx δ).andThen g = g δ := rfl
@[simp] theorem vm (r : SD) (g : DS) : (SOut.rt r).andThen g = .rt r := rfl
@[simp] theorem vo (δ : DEnv) (g : DS) : (SOut.bk δ).andThen g = .bk δ := rfl
@[simp] theorem vp (δ : DEnv) (g : DS) : (SOut.ct δ).andThen g = .ct δ := rfl
@[simp] theorem u9 (x : Str) (g : DS) : (SOut.exc x).andThen g = .exc x := rfl
@[simp] theorem ua (g : DS) : SOut.bad.andThen g = .bad := rfl
@[simp] theorem zf (f g : DS) (δ : DEnv) : sSeq f g δ = (f δ).andThen g := rfl
noncomputable def Out.elimS {α : Type} (x : Out α) (f : α -> SOut) : SOut := match x with
 | .ok a => f a
 | .exc x => .exc x
 | .bad => .bad
@[simp] theorem yc {α : Type} (a : α) (f : α -> SOut) : (Out.ok a).elimS f = f a := rfl
@[simp] theorem wG {α : Type} (x : Str) (f : α -> SOut) : (Out.exc x : Out α).elimS f = .exc x := rfl
@[simp] theorem wH {α : Type} (f : α -> SOut) : (Out.bad : Out α).elimS f = .bad := rfl
@[simp] theorem yd (δ : DEnv) : Af δ = .nx δ := rfl
@[simp] theorem zg (i : Nat) (f : DE) (δ : DEnv) : sAsg i f δ = (f δ).elimS fun p => if i < p.2.length then .nx (p.2.set i (some p.1)) else .bad := by unfold sAsg; cases f δ <;> rfl
@[simp] theorem ye (f : DE) (δ : DEnv) : Bq f δ = (f δ).elimS fun p => .nx p.2 := by unfold Bq; cases f δ <;> rfl
@[simp] theorem zh (f : DE) (δ : DEnv) : sRet f δ = (f δ).elimS fun p => .rt p.1 := by unfold sRet; cases f δ <;> rfl
@[simp] theorem yf (i : Nat) (δ : DEnv) : BK i δ = match δ[i]? with
 | some (some r) => .rt r
 | _ => .bad := rfl
@[simp] theorem zS (t : DT) (f g : DS) (δ : DEnv) : sIf t f g δ = (t δ).elimS fun p => if p.1 = true then f p.2 else g p.2 := by unfold sIf; cases t δ <;> rfl
@[simp] theorem zi (fi : DA) (k : DG) (fb : DS) (δ : DEnv) : sFor fi k fb δ = (fi δ).elimS fun p => forL k fb p.1 p.2 := by unfold sFor; cases fi δ <;> rfl
@[simp] theorem yg (k : DG) (fb : DS) (δ : DEnv) : forL k fb [] δ = .nx δ := rfl
noncomputable def SOut.turn (x : SOut) (g : DS) : SOut := match x with
 | .nx δ => g δ
 | .ct δ => g δ
 | .bk δ => .nx δ
 | .rt r => .rt r
 | .exc x => .exc x
 | .bad => .bad
@[simp] theorem sS (δ : DEnv) (g : DS) : (SOut.nx δ).turn g = g δ := rfl
@[simp] theorem zj (r : SD) (g : DS) : (SOut.rt r).turn g = .rt r := rfl
@[simp] theorem zk (δ : DEnv) (g : DS) : (SOut.bk δ).turn g = .nx δ := rfl
@[simp] theorem zl (δ : DEnv) (g : DS) : (SOut.ct δ).turn g = g δ := rfl
@[simp] theorem yh (x : Str) (g : DS) : (SOut.exc x).turn g = .exc x := rfl
@[simp] theorem yi (g : DS) : SOut.bad.turn g = .bad := rfl
theorem eF (k : DG) (fb : DS) (d : PyData) (ds : A4) (δ : DEnv) : forL k fb (d :: ds) δ = match k d δ with
  | none => .bad
  | some δ1 => (fb δ1).turn (forL k fb ds) := by
 rw [forL]
 cases k d δ with
 | none => rfl
 | some δ1 => simp only; cases fb δ1 <;> rfl
@[simp] theorem A3 (i : Nat) (d : PyData) (δ : DEnv) : kN i d δ = if i < δ.length then some (δ.set i (some (.sh d))) else none := rfl
@[simp] theorem zm (is : List Nat) (ds : A4) (δ : DEnv) : kTup is (.tuple ds) δ = kNs is ds δ := rfl
@[simp] theorem zo (δ : DEnv) : kNs [] [] δ = some δ := rfl
@[simp] theorem yj (i : Nat) (is : List Nat) (d : PyData) (ds : A4) (δ : DEnv) : kNs (i :: is) (d :: ds) δ = (kN i d δ).bind (kNs is ds) := rfl
noncomputable def seqI (p : PyData × DEnv) : Out (A4 × DEnv) := match p.1 with
 | .list xs => .ok (xs, p.2)
 | .tuple xs => .ok (xs, p.2)
 | _ => .bad
@[simp] theorem wI (xs : A4) (δ : DEnv) : seqI (.list xs, δ) = .ok (xs, δ) := rfl
@[simp] theorem vq (xs : A4) (δ : DEnv) : seqI (.tuple xs, δ) = .ok (xs, δ) := rfl
@[simp] theorem yk (f : DE) (δ : DEnv) : BL f δ = (vE f δ).bind seqI := rfl
noncomputable def Cm (p : PyData × DEnv) : Out (A4 × DEnv) := match p.1 with
 | .list xs => .ok (AO 0 xs, p.2)
 | _ => .bad
@[simp] theorem vt (xs : A4) (δ : DEnv) : Cm (.list xs, δ) = .ok (AO 0 xs, δ) := rfl
@[simp] theorem wJ (f : DE) (δ : DEnv) : Bu f δ = (vE f δ).bind Cm := rfl
noncomputable def r1I (p : A4 × DEnv × DEnv) : Out (A4 × DEnv) := match p.1 with
 | [.int j] => if rngB j = true then .ok (rngI 0 j.toNat, p.2.1) else .bad
 | _ => .bad
@[simp] theorem zT (j : Int) (δ1 δ2 : DEnv) : r1I ([.int j], δ1, δ2) = if rngB j = true then .ok (rngI 0 j.toNat, δ1) else .bad := rfl
@[simp] theorem zp (ops : List Opd) (δ : DEnv) : itR1 ops δ = (opds ops δ).bind r1I := rfl
noncomputable def seqC (p : A4 × DEnv × DEnv) : Out (A4 × DEnv × DEnv) := match p.1 with
 | [.list xs] => .ok (xs, p.2.1, p.2.2)
 | [.tuple xs] => .ok (xs, p.2.1, p.2.2)
 | _ => .bad
@[simp] theorem wK (xs : A4) (δ1 δ2 : DEnv) : seqC ([.list xs], δ1, δ2) = .ok (xs, δ1, δ2) := rfl
@[simp] theorem vv (xs : A4) (δ1 δ2 : DEnv) : seqC ([.tuple xs], δ1, δ2) = .ok (xs, δ1, δ2) := rfl
@[simp] theorem ym (o : Opd) (δ : DEnv) : Br o δ = (opds [o] δ).bind seqC := rfl
noncomputable def r1C (p : A4 × DEnv × DEnv) : Out (A4 × DEnv × DEnv) := match p.1 with
 | [.int j] => if rngB j = true then .ok (rngI 0 j.toNat, p.2.1, p.2.2) else .bad
 | _ => .bad
@[simp] theorem zU (j : Int) (δ1 δ2 : DEnv) : r1C ([.int j], δ1, δ2) = if rngB j = true then .ok (rngI 0 j.toNat, δ1, δ2) else .bad := rfl
@[simp] theorem zq (o : Opd) (δ : DEnv) : icR1 o δ = (opds [o] δ).bind r1C := rfl
@[simp] theorem zr (δ : DEnv) (i : Nat) : isOl δ i = match δ[i]? with
 | some (some (.ol ds)) => some ds
 | _ => none := rfl
@[simp] theorem zt (δ : DEnv) (i : Nat) : isOd δ i = match δ[i]? with
 | some (some (.od ds)) => some ds
 | _ => none := rfl
@[simp] theorem zu (up : A4 -> A4 -> Option A4) (i : Nat) (o : Opd) (δ : DEnv) : sMut up i o δ = match isOl δ i with
 | none => .bad
 | some _ => (opds [o] δ).elimS fun p => match isOl p.2.2 i with
   | none => .bad
   | some ds => match up ds p.1 with
    | some ds' => .nx (p.2.2.set i (some (.ol ds')))
    | none => .bad := by unfold sMut; cases isOl δ i <;> first | rfl | (simp only; cases opds [o] δ <;> rfl)
noncomputable def putP (i : Nat) (p : A4 × DEnv × DEnv) : SOut := match isOd p.2.2 i, p.1 with
   | some es, [d, k] => (match Ar k with
    | some k => if es.length < sizeLine then .nx (p.2.2.set i (some (.od (putD es k d)))) else .bad
    | none => .bad)
   | _, _ => .bad
@[simp] theorem yn (i : Nat) (d : PyData) (k : Int) (δ1 δ2 : DEnv) : putP i ([d, .int k], δ1, δ2) = match isOd δ2 i with
  | some es => if es.length < sizeLine then .nx (δ2.set i (some (.od (putD es (.inl k) d)))) else .bad
  | none => .bad := by
 unfold putP
 cases isOd δ2 i <;> rfl
@[simp] theorem zw (i : Nat) (ov ok : Opd) (δ : DEnv) : sPut i ov ok δ = match isOd δ i with
 | none => .bad
 | some _ => (opds [ov, ok] δ).elimS (putP i) := by unfold sPut; cases isOd δ i <;> first | rfl | (simp only; cases opds [ov, ok] δ <;> rfl)
@[simp] theorem wL (x : Str) (ck : DEnv -> Bool) (δ : DEnv) : Aw x ck δ = if ck δ = true then .exc x else .bad := rfl
@[simp] theorem yo (δ : DEnv) : AW δ = true := rfl
@[simp] theorem yp (i : Nat) (δ : DEnv) : BA i δ = match δ[i]? with
 | some (some (.sh (.int k))) => decide (k.natAbs.log2 < 1920)
 | _ => false := rfl
@[simp] theorem zx (i : Nat) (cat : Str -> Bool) (δ : DEnv) : eIsX i cat δ = match δ[i]? with
 | some (some (.ex y)) => if cat y = true then .ok (.sh (.bool true), δ) else .bad
 | _ => .bad := rfl
noncomputable def SOut.fin (x : SOut) : Out SD := match x with
 | .nx _ => .ok (.sh .none)
 | .rt r => .ok r
 | .exc x => .exc x
 | _ => .bad
@[simp] theorem zV (δ : DEnv) : (SOut.nx δ).fin = .ok (.sh .none) := rfl
@[simp] theorem zW (r : SD) : (SOut.rt r).fin = .ok r := rfl
@[simp] theorem zy (x : Str) : (SOut.exc x).fin = .exc x := rfl
@[simp] theorem zA (n m : Nat) (f : DS) (ds : A4) : runB n m f ds = if ds.length = m then (f (start0 n m ds)).fin else .bad := rfl
@[simp] theorem wM (n m : Nat) (ds : A4) : start0 n m ds = ds.map (fun d => some (.sh d)) ++ List.replicate (n - m) none := rfl
@[simp] theorem yq (F : List Nat) (fc : DC) (tc : DT) (te : DE) (δ : DEnv) : AV F fc tc te δ = (fc δ).bind fun p => if p.1.length <= sizeLine then (match AJ (rhoD F (Aj F p.2.2)) tc te p.1 with
 | some ys => .ok (.ol ys, if Aa ys = true then p.2.1 else Aj F p.2.2)
 | none => .bad) else .bad := rfl
@[simp] theorem zB (F : List Nat) (δ : DEnv) : rhoD F δ = none :: F.map fun j => (δ[j]?).join := rfl
theorem jS {ρ : DEnv} {tc : DT} {te : DE} {b : PyData -> Bool} {y : PyData -> PyData} : ∀ {ds : A4}, (∀ d ∈ ds, ∃ ρ', tc (ρ.set 0 (some (.sh d))) = .ok (b d, ρ') /\ (b d = true -> ∃ ρ'', vE te ρ' = .ok (y d, ρ''))) -> AJ ρ tc te ds = some ((ds.filter b).map y)
 | [], _ => rfl
 | d :: ds, h => by
  obtain ⟨ρ', h1, h2⟩ := h d (List.mem_cons_self ..)
  have ih := jS (ds := ds) fun d' hd => h d' (List.mem_cons_of_mem _ hd)
  rw [AJ, h1]
  dsimp only
  cases hb : b d with
  | true =>
   obtain ⟨ρ'', h3⟩ := h2 hb
   rw [if_pos rfl, h3, ih, List.filter_cons, if_pos hb]
   rfl
  | false => rw [if_neg Bool.false_ne_true, ih, List.filter_cons, if_neg (by rw [hb]; exact Bool.false_ne_true)]
theorem eG {ρ : DEnv} {te : DE} {y : PyData -> PyData} {ds : A4} (h : ∀ d ∈ ds, ∃ ρ'', vE te (ρ.set 0 (some (.sh d))) = .ok (y d, ρ'')) : AJ ρ Av te ds = some (ds.map y) := by
 have := jS (ρ := ρ) (tc := Av) (te := te) (b := fun _ => true) (y := y) (ds := ds) fun d hd => ⟨_, rfl, fun _ => h d hd⟩
 rw [this]
 congr 2
 exact List.filter_eq_self.mpr fun _ _ => rfl
noncomputable def Ai (n : Nat) (d : PyData) : Prop := d.canLay0 = true /\ d.depth <= n
theorem Ai.mono {n m : Nat} {d : PyData} (h : Ai n d) (e : n <= m) : Ai m d := ⟨h.1, Nat.le_trans h.2 e⟩
theorem cR (n : Nat) (i : Int) : Ai n (.int i) := ⟨by simp [PyData.canLay0], by simp [PyData.depth]⟩
theorem oY (n : Nat) (i : Bool) : Ai n (.bool i) := ⟨by simp [PyData.canLay0], by simp [PyData.depth]⟩
theorem jT (n : Nat) : Ai n .none := ⟨by simp [PyData.canLay0], by simp [PyData.depth]⟩
theorem dg (n : Nat) (s : Str) (h : PyData.strOk s = true) : Ai n (.str s) := ⟨by simpa [PyData.canLay0] using h, by simp [PyData.depth]⟩
theorem j6 {n : Nat} : ∀ {xs : A4}, (∀ x ∈ xs, Ai n x) -> PyData.canLayAll0 xs = true /\ PyData.depthAll xs <= n
 | [], _ => ⟨by simp [PyData.canLayAll0], by simp [PyData.depthAll]⟩
 | x :: r, h => by
  obtain ⟨h1, h2⟩ := j6 (n := n) (xs := r) fun y hy => h y (List.mem_cons_of_mem _ hy)
  obtain ⟨g1, g2⟩ := h x (List.mem_cons_self ..)
  exact ⟨by simp [PyData.canLayAll0, g1, h1], by simp only [PyData.depthAll]; lia⟩
theorem cU {n : Nat} {xs : A4} (h : ∀ x ∈ xs, Ai n x) : Ai (n + 1) (.list xs) := by
 obtain ⟨h1, h2⟩ := j6 h
 exact ⟨by simpa [PyData.canLay0] using h1, by simp only [PyData.depth]; lia⟩
theorem dN {n : Nat} {xs : A4} (h : ∀ x ∈ xs, Ai n x) : Ai (n + 1) (.tuple xs) := by
 obtain ⟨h1, h2⟩ := j6 h
 exact ⟨by simpa [PyData.canLay0] using h1, by simp only [PyData.depth]; lia⟩
theorem lI {n : Nat} {xs : A4} (h : Ai n (.tuple xs)) : ∀ x ∈ xs, Ai n x := by
 obtain ⟨h1, h2⟩ := h
 have h1' : PyData.canLayAll0 xs = true := by simpa [PyData.canLay0] using h1
 simp only [PyData.depth] at h2
 intro x hx
 have : ∀ {ys : A4}, PyData.canLayAll0 ys = true -> x ∈ ys -> x.canLay0 = true /\ x.depth <= PyData.depthAll ys := fun {ys} c m => by
  induction ys with
  | nil => cases m
  | cons y r ih =>
   simp only [PyData.canLayAll0, Bool.and_eq_true] at c
   simp only [PyData.depthAll]
   rcases List.mem_cons.mp m with z | z
   ·subst z; exact ⟨c.1, by lia⟩
   ·obtain ⟨a, b⟩ := ih c.2 z; exact ⟨a, by lia⟩
 obtain ⟨a, b⟩ := this h1' hx
 exact ⟨a, by lia⟩
theorem Ai.shaped {n : Nat} {d : PyData} (h : Ai n d) (hn : n <= 64) : SeqAt.shaped d = true := by
 unfold SeqAt.shaped
 rw [h.1, Bool.true_and]
 exact decide_eq_true (Nat.le_trans h.2 hn)
theorem Ai.nd {n : Nat} {d : PyData} (h : Ai n d) : ∀ es, d ≠ .dict es := fun es e => by
 subst e
 have := h.1
 simp [PyData.canLay0] at this
theorem dv (n : Nat) (ns : List Int) : ∀ x ∈ ns.map PyData.int, Ai n x := fun x hx => by
 obtain ⟨i, _, rfl⟩ := List.mem_map.mp hx
 exact cR n i
mutual
theorem qE : ∀ d : PyData, d.canLay0 = true -> PyData.eqv d d = true
 | .none, _ => by simp [PyData.eqv]
 | .bool b, _ => by simp [PyData.eqv]
 | .int i, _ => by simp [PyData.eqv]
 | .str x, _ => by simp [PyData.eqv]
 | .list xs, h => by simp only [PyData.eqv]; exact fx xs (by simpa [PyData.canLay0] using h)
 | .tuple xs, h => by simp only [PyData.eqv]; exact fx xs (by simpa [PyData.canLay0] using h)
 | .dict _, h => by simp [PyData.canLay0] at h
theorem fx : ∀ ds : A4, PyData.canLayAll0 ds = true -> PyData.eqvAll ds ds = true
 | [], _ => by simp [PyData.eqvAll]
 | d :: r, h => by
  have h' := Bool.and_eq_true_iff.mp (by simpa [PyData.canLayAll0] using h)
  simp only [PyData.eqvAll, Bool.and_eq_true]
  exact ⟨qE d h'.1, fx r h'.2⟩
end
theorem nU (xs : A4) : PyData.eqv (.list xs) (.list []) = xs.isEmpty := by
 simp only [PyData.eqv]
 cases xs <;> simp [PyData.eqvAll]
theorem bh {n : Nat} (h : n <= 1000) : n <= sizeLine := Nat.le_trans h (by decide)
theorem sT {n : Nat} (h : n <= 1000) : n < sizeLine := Nat.lt_of_le_of_lt h (by decide)
theorem vw {α : Type} {xs : List α} {i : Int} (h0 : 0 <= i) (h1 : i < xs.length) : atI xs i = some (xs[i.toNat]'(by lia)) := by
 unfold atI ixN
 rw [if_pos h0, if_pos h1]
 exact List.getElem?_eq_getElem (by lia)
theorem kC {i : Int} (h0 : -1000000 <= i) (h1 : i <= 1000000) : rngB i = true := by
 unfold rngB
 exact decide_eq_true ⟨by lia, by lia⟩
def isWh : PyData -> Bool
 | .int _ => true
 | _ => false
theorem yr {d : PyData} (h : ∀ es, d ≠ .dict es) : (isiD "int" d && !isiD "bool" d) = isWh d := by
 cases d <;> first | rfl | exact absurd rfl (h _)
theorem eW {d : PyData} (T : String) (h : ∀ es, d ≠ .dict es) : dIsi T [d] = some (.sh (.bool (isiD T d))) := by
 cases d <;> first | rfl | exact absurd rfl (h _)
def absI (p : Int) : Int := if p < 0 then -p else p
noncomputable def AK (many : Int) : Int -> A4 -> Option Int
 | last, [] => some last
 | last, .int p :: r => if absI p <= last \/ many < absI p then none else AK many (absI p) r
 | _, _ :: _ => none
noncomputable def As (many : Int) : PyData -> Bool
 | .tuple ds => (AK many 0 ds).isSome
 | _ => false
noncomputable def BN (ns : List Int) (k : Int) : Int := if k < ns.length then ns.getD k.toNat 0 else if ns = [] then 0 else ns.getD (k % ns.length).toNat 0 * 31 + k
noncomputable def AZ (ns : List Int) (k : Int) : Int := (BN ns k + 7919 * k + 1) * 48271 % 2147483647
noncomputable def mixZ (ns : List Int) (k m : Int) : Int := (AZ ns k * AZ ns k + 7 * AZ ns k + k) % 2147483629 % m
theorem oZ (ns : List Int) (k : Int) : 0 <= AZ ns k := Int.emod_nonneg _ (by decide)
theorem p0 (ns : List Int) (k : Int) : AZ ns k < 2147483647 := Int.emod_lt_of_pos _ (by decide)
theorem cS (ns : List Int) (k : Int) {m : Int} (h : 0 < m) : 0 <= mixZ ns k m := Int.emod_nonneg _ (by lia)
theorem d7 (ns : List Int) (k : Int) {m : Int} (h : 0 < m) : mixZ ns k m < m := Int.emod_lt_of_pos _ h
theorem kD {i j : Int} (h0 : -1000000000000 <= j) (h1 : j <= 1000000000000) : cMul i j = true := by
 unfold cMul
 exact decide_eq_true (.inr ⟨by lia, by lia⟩)
theorem kE {i j : Int} (h0 : -1000000000000 <= i) (h1 : i <= 1000000000000) : cMul i j = true := by
 unfold cMul
 exact decide_eq_true (.inl ⟨by lia, by lia⟩)
abbrev scr (ns : List Int) : PyData := .list (ns.map PyData.int)
theorem j7 {ns : List Int} {i : Int} (h0 : 0 <= i) (h1 : i < ns.length) : atI (ns.map PyData.int) i = some (.int (ns.getD i.toNat 0)) := by
 rw [vw h0 (by simpa using h1)]
 simp only [List.getElem_map]
 rw [List.getD_eq_getElem?_getD, List.getElem?_eq_getElem (by lia)]
 rfl
theorem lJ {k : DG} {fb : DS} (inv : Nat -> DEnv -> Prop) : ∀ (ds : A4) (j : Nat) (δ : DEnv), inv j δ -> (∀ i d δ, ds[i]? = some d -> inv (j + i) δ -> ∃ δ1, k d δ = some δ1 /\ ∃ δ2, fb δ1 = .nx δ2 /\ inv (j + i + 1) δ2) -> ∃ δ', forL k fb ds δ = .nx δ' /\ inv (j + ds.length) δ'
 | [], j, δ, h0, _ => ⟨δ, rfl, h0⟩
 | d :: r, j, δ, h0, hs => by
  obtain ⟨δ1, e1, δ2, e2, h2⟩ := hs 0 d δ rfl h0
  obtain ⟨δ', e3, h3⟩ := lJ inv r (j + 1) δ2 h2 fun i d' δ3 e h => by
   have := hs (i + 1) d' δ3 (by simpa using e) (by rw [show j + (i + 1) = j + 1 + i by lia]; exact h)
   rwa [show j + (i + 1) + 1 = j + 1 + i + 1 by lia] at this
  refine ⟨δ', ?_, by rw [List.length_cons, show j + (r.length + 1) = j + 1 + r.length by lia]; exact h3⟩
  rw [eF, e1]
  simp only [e2, sS]
  exact e3
theorem mP {k : DG} {fb : DS} {lo : Int} {n : Nat} {δ : DEnv} (inv : Nat -> DEnv -> Prop) (h0 : inv 0 δ) (hs : ∀ i δ, i < n -> inv i δ -> ∃ δ1, k (.int (lo + i)) δ = some δ1 /\ ∃ δ2, fb δ1 = .nx δ2 /\ inv (i + 1) δ2) : ∃ δ', forL k fb (rngI lo n) δ = .nx δ' /\ inv n δ' := by
 obtain ⟨δ', e, h⟩ := lJ (k := k) (fb := fb) inv (rngI lo n) 0 δ h0 fun i d δ e h => by
  have hi : i < n := by have := (List.getElem?_eq_some_iff.mp e).1; rwa [dM] at this
  unfold rngI at e
  rw [List.getElem?_map, List.getElem?_range hi] at e
  cases e
  rw [Nat.zero_add] at h ⊢
  exact hs i δ hi h
 exact ⟨δ', e, by rw [dM, Nat.zero_add] at h; exact h⟩
noncomputable def encP (ps : List (Int × Int)) : List (PyData × PyData) := ps.map fun p => (.int p.1, .int p.2)
noncomputable def putZ (ps : List (Int × Int)) (t v : Int) : List (Int × Int) := if (ps.any fun p => decide (p.1 = t)) = true then ps.map (fun p => if p.1 = t then (p.1, v) else p) else ps ++ [(t, v)]
noncomputable def valZ (ps : List (Int × Int)) (t : Int) : Option Int := (ps.find? fun p => decide (p.1 = t)).map (·.2)
def B8 (ps : List (Int × Int)) : List Int := ps.map (·.1)
@[simp] theorem wN (ps : List (Int × Int)) : (encP ps).map (·.1) = (B8 ps).map PyData.int := by
 unfold encP B8; rw [List.map_map, List.map_map]; rfl
@[simp] theorem yt (ps : List (Int × Int)) : (encP ps).length = ps.length := by unfold encP; rw [List.length_map]
@[simp] theorem wO (ps : List (Int × Int)) : (B8 ps).length = ps.length := by unfold B8; rw [List.length_map]
@[simp] theorem yu : encP [] = [] := rfl
theorem lK (t : Int) : ∀ ps : List (Int × Int), ((encP ps).any fun p => decide (Ar p.1 = some (.inl t))) = ps.any fun p => decide (p.1 = t)
 | [] => rfl
 | p :: r => by
  have ih := lK t r
  unfold encP at ih ⊢
  rw [List.map_cons, List.any_cons, List.any_cons, ih]
  congr 1
  simp [Ar]
theorem qF (ps : List (Int × Int)) (t v : Int) : putD (encP ps) (.inl t) (.int v) = encP (putZ ps t v) := by
 unfold putD putZ
 rw [lK]
 split
 ·unfold encP
  rw [List.map_map, List.map_map]
  apply List.map_congr_left
  intro p _
  simp only [Function.comp]
  by_cases h : p.1 = t
  ·simp [Ar, h]
  ·simp [Ar, h]
 ·simp [encP, keyD]
theorem jU (t : Int) : ∀ ps : List (Int × Int), Bo (encP ps) (.inl t) = (valZ ps t).map PyData.int
 | [] => rfl
 | p :: r => by
  have ih := jU t r
  unfold Bo valZ encP at ih ⊢
  rw [List.map_cons, List.find?_cons, List.find?_cons]
  by_cases h : p.1 = t
  ·simp [Ar, h]
  ·simp only [Ar, h, Option.some.injEq, Sum.inl.injEq, decide_false]
   exact ih
theorem p5 (ps : List (Int × Int)) (t v : Int) : ((putZ ps t v).map (·.1)) = if t ∈ ps.map (·.1) then ps.map (·.1) else ps.map (·.1) ++ [t] := by
 have e : (ps.any fun p => decide (p.1 = t)) = true ↔ t ∈ ps.map (·.1) := by
  rw [List.any_eq_true, List.mem_map]
  constructor
  ·rintro ⟨p, h1, h2⟩; exact ⟨p, h1, of_decide_eq_true h2⟩
  ·rintro ⟨p, h1, h2⟩; exact ⟨p, h1, decide_eq_true h2⟩
 unfold putZ
 by_cases h : t ∈ ps.map (·.1)
 ·rw [if_pos (e.mpr h), if_pos h, List.map_map]
  apply List.map_congr_left
  intro p _
  simp only [Function.comp]
  split <;> rfl
 ·rw [if_neg (fun z => h (e.mp z)), if_neg h]
  simp
theorem p6 {ps : List (Int × Int)} {t v : Int} {Q : Int -> Prop} (h : ∀ p ∈ ps, Q p.2) (hv : Q v) : ∀ p ∈ putZ ps t v, Q p.2 := by
 unfold putZ
 split
 ·intro p hp
  obtain ⟨q, hq, rfl⟩ := List.mem_map.mp hp
  split
  ·exact hv
  ·exact h q hq
 ·intro p hp
  rcases List.mem_append.mp hp with z | z
  ·exact h p z
  ·simp at z; rw [z]; exact hv
theorem sU {ps : List (Int × Int)} {t : Int} (h : t ∈ ps.map (·.1)) : ∃ v, valZ ps t = some v /\ ∃ p ∈ ps, p.2 = v := by
 obtain ⟨p, hp, rfl⟩ := List.mem_map.mp h
 unfold valZ
 cases e : ps.find? fun q => decide (q.1 = p.1) with
 | none =>
  have := List.find?_eq_none.mp e p hp
  simp at this
 | some q => exact ⟨q.2, rfl, q, List.mem_of_find?_eq_some e, rfl⟩
structure CG (many : Int) (s : List Int) : Prop where
 rise : (s.map absI).Pairwise (· < ·)
 low : ∀ p ∈ s, 1 <= absI p /\ absI p <= many
noncomputable def encS (s : List Int) : PyData := .tuple (s.map PyData.int)
def B3 (ss : List (List Int)) : A4 := ss.map encS
@[simp] theorem mQ (s : List Int) : Ac (encS s) = true := by unfold encS; rw [lG]; exact df s
@[simp] theorem kF (ss : List (List Int)) : Aa (B3 ss) = true := by
 unfold B3
 induction ss with
 | nil => exact mO
 | cons s r ih => rw [List.map_cons, iw, mQ, ih]; rfl
@[simp] theorem p7 (ss : List (List Int)) : (B3 ss).length = ss.length := by unfold B3; rw [List.length_map]
noncomputable def Am (ns : List Int) (at_ many : Int) : Nat -> List (Int × Int)
 | 0 => []
 | n + 1 => putZ (Am ns at_ many n) (1 + mixZ ns (at_ + 1 + n) many) (1 - 2 * (mixZ ns (at_ + 1 + n) (2 * many) / many))
noncomputable def AE (ns : List Int) (at_ : Int) : Int := [1, 2, 2, 3, 3, 3, 0].getD (mixZ ns at_ 7).toNat 0
noncomputable def sayZ (ns : List Int) (at_ many : Int) : List Int := (B2 (B8 (Am ns at_ many (AE ns at_).toNat))).map fun t => t * (valZ (Am ns at_ many (AE ns at_).toNat) t).getD 0
theorem qG (ns : List Int) (at_ : Int) : 0 <= AE ns at_ /\ AE ns at_ <= 3 := by
 have h1 := cS ns at_ (m := 7) (by decide)
 have h2 := d7 ns at_ (m := 7) (by decide)
 unfold AE
 generalize mixZ ns at_ 7 = x at h1 h2
 have : x = 0 \/ x = 1 \/ x = 2 \/ x = 3 \/ x = 4 \/ x = 5 \/ x = 6 := by lia
 rcases this with h | h | h | h | h | h | h <;> subst h <;> decide
theorem i5 {ns : List Int} {at_ many : Int} (hm : 0 < many) : ∀ n, (((Am ns at_ many n).map (·.1)).Nodup /\ (∀ t ∈ (Am ns at_ many n).map (·.1), 1 <= t /\ t <= many) /\ (∀ p ∈ Am ns at_ many n, p.2 = 1 \/ p.2 = -1) /\ (Am ns at_ many n).length <= n)
 | 0 => by simp [Am]
 | n + 1 => by
  obtain ⟨h1, h2, h3, h4⟩ := i5 hm n
  have a1 := cS ns (at_ + 1 + n) hm
  have a2 := d7 ns (at_ + 1 + n) hm
  have b1 := cS ns (at_ + 1 + n) (m := 2 * many) (by lia)
  have b2 := d7 ns (at_ + 1 + n) (m := 2 * many) (by lia)
  have hv : (1 - 2 * (mixZ ns (at_ + 1 + n) (2 * many) / many)) = 1 \/ (1 - 2 * (mixZ ns (at_ + 1 + n) (2 * many) / many)) = -1 := by
   have c1 : 0 <= mixZ ns (at_ + 1 + n) (2 * many) / many := Int.ediv_nonneg b1 (by lia)
   have c2 : mixZ ns (at_ + 1 + n) (2 * many) / many < 2 := Int.ediv_lt_of_lt_mul hm (by lia)
   lia
  have hk := p5 (Am ns at_ many n) (1 + mixZ ns (at_ + 1 + n) many) (1 - 2 * (mixZ ns (at_ + 1 + n) (2 * many) / many))
  have hl : ∀ (ps : List (Int × Int)) t v, (putZ ps t v).length <= ps.length + 1 := fun ps t v => by
   unfold putZ; split <;> simp
  refine ⟨?_, ?_, p6 (Q := fun z => z = 1 \/ z = -1) h3 hv, ?_⟩
  ·rw [Am, hk]
   split
   ·exact h1
   next hn => exact nJ h1 hn
  ·rw [Am, hk]
   split
   ·exact h2
   ·intro t ht
    rcases List.mem_append.mp ht with z | z
    ·exact h2 t z
    ·simp at z; lia
  ·rw [Am]
   have := hl (Am ns at_ many n) (1 + mixZ ns (at_ + 1 + n) many) (1 - 2 * (mixZ ns (at_ + 1 + n) (2 * many) / many))
   lia
noncomputable def B9 (ns : List Int) (at_ many most : Int) : List (List Int) := (List.range (mixZ ns at_ (most + 1)).toNat).map fun (k : Nat) => sayZ ns (at_ + 1 + 4 * (k : Int)) many
theorem p8 {ns : List Int} {at_ many most : Int} (h : 0 <= most) : (B9 ns at_ many most).length <= most.toNat := by
 have := d7 ns at_ (m := most + 1) (by lia)
 have := cS ns at_ (m := most + 1) (by lia)
 unfold B9
 rw [List.length_map, List.length_range]
 lia
open PySem.W
structure CH (X : Cx) (a : Str) (F : List Nat) (N : List Str) (scope : Scope) : Prop where
 kind : scope.kind = .function
 co : scope.isCoroutine = false
 gen : scope.isGenerator = false
 nocell : ∀ y ∈ scope.names, y.2 ≠ .cell
 arg : scope.names.lookup a = some .local
 free : ∀ y ∈ scope.names, y.2 = .free -> X.env.kindOf y.1 = some .cell \/ X.env.kindOf y.1 = some .free
 n0 : N[0]? = some a
 names : ∀ (i : Nat) x, N[i + 1]? = some x -> ∃ j, F[i]? = some j /\ X.N[j]? = some x /\ Vis X.env.scope x /\ scope.names.lookup x = some .free
 len : N.length = 1 + F.length
section
variable {X : Cx} {pins : A6} {σ : St} {H : Hp} {s : Shared} {N : List Str} {F : List Nat} {scope : Scope} {cl : List (Str × Addr)} {A : Around} {a qual : Str} {f c' : Addr} {v : V} {u : Value}
end
end L2
namespace L2
open PySem PySem.W PyProof.Rows
section
variable {lt : Nat -> Nat -> Bool} {n : Nat} (tr : ∀ i j k, lt j i = false -> lt k j = false -> lt k i = false) (as : ∀ i j, lt i j = true -> lt j i = false)
structure Tab (n : Nat) (p : Array Nat) : Prop where
 size : p.size = n
 perm : p.Perm (List.range n).toArray
include tr
include as
end
open PySem.Spec
open HT (BR)
section
open PySem.SeqAt
open PySem.AutoSeq1 (wpAny_loadPart')
open PySem.MeetsSeq PySem.MeetsSeq2 PySem.MeetsSeq3
end
section
variable {prog : Program} {w : World} {A : Around} {E : A8} {s : Shared}
end
end L2
namespace Sy
def absI (p : Int) : Int := if p < 0 then -p else p
noncomputable def Cn (c : List Int) (p : Int) : Bool := decide (c.getD (absI p - 1).toNat 0 = if 0 < p then 1 else 0)
def Co (c : List Int) (s : List Int) : Bool := s.any (Cn c)
noncomputable def CI (ss : List (List Int)) (c : List Int) : Bool := ss.all (Co c)
structure CG (many : Int) (s : List Int) : Prop where
 rise : (s.map absI).Pairwise (· < ·)
 low : ∀ p ∈ s, 1 <= absI p /\ absI p <= many
structure Bj (n : Nat) (c : List Int) : Prop where
 len : c.length = n
 bit : ∀ x ∈ c, x = 0 \/ x = 1
noncomputable def allC : Nat -> List (List Int)
 | 0 => [[]]
 | n + 1 => (allC n).flatMap fun c => [c ++ [0], c ++ [1]]
noncomputable def BZ : Nat -> List (List Int)
 | 0 => [[]]
 | n + 1 => (BZ n).map (· ++ [0]) ++ (BZ n).map (· ++ [1])
noncomputable def ripe (ss : List (List Int)) (k : Int) : List (List Int) := ss.filter fun s => decide (absI (s.getLastD 0) = k)
end Sy
namespace L2
open PySem PySem.Spec PyProof.Rows
variable [Tabs]
noncomputable def Au : A4 -> Option (List Bool)
 | [] => some []
 | .bool i :: r => (Au r).map (i :: ·)
 | _ :: _ => none
theorem jV {K : W.Frag} {G : Hp} : ∀ {vs : List V} {ds : A4} {bs : List Bool}, Dts K G vs ds -> Au ds = some bs -> vs = bs.map V.bl
 | _, _, _, .nil, e => by cases e; rfl
 | _, _, _, .cons (d := d) h r, e => by
  cases d with
  | bool i =>
   simp only [Au, Option.map_eq_some_iff] at e
   obtain ⟨ns, e1, rfl⟩ := e
   cases h
   rw [jV r e1, List.map_cons]
  | _ => cases e
theorem ix : ∀ {bs : List Bool} {us : List Value}, Vals (bs.map V.bl) us -> LSm.BoolsAre us bs
 | [], _, r => by cases r; exact .nil
 | b :: bs, _, r => by
  rw [List.map_cons] at r
  cases r with
  | cons h t =>
   cases (show _ = Value.bool b from h)
   exact .cons b (ix t)
section
variable {X : Cx}
noncomputable def C1 (K : W.Frag) (f : List Bool -> Bool) : List V -> Hp -> VK -> Prop := fun xs H Q => ∃ a bs, xs = [.ref a] /\ SqL K H a (bs.map V.bl) /\ Q (.bl (f bs)) H
theorem p9 (hc : X.calm = true) : AD X (.builtin "all") (C1 X.K fun bs => bs.all id) := by
 intro pins s σ H xs us Q I r h
 obtain ⟨l, bs, rfl, hq, q⟩ := h
 obtain ⟨u, rfl, r1⟩ := vals1 r
 cases r1
 obtain ⟨vs, rv, pl, hz⟩ := I.list hq
 have hb := ix rv
 have hl := pl.isList
 have hlt : l < s.heap.objs.size := by obtain ⟨_, e, _⟩ := id hl; exact Heap.lt_size e
 refine call_all_walk (wpAny_pyIter_list hl ?_)
 refine ⟨s.heap.objs.size, [s.heap.objs.size, l], [s.heap.objs.size], vs.toArray.size, _, _, fun i => (bs[i]?).getD true, rfl, Walks.list (A := X.A.in1) (I.ok.hd hc) _ l (Nat.ne_of_lt hlt) vs.toArray,
  ⟨⟨_, Heap.get?_push_size _ rfl, rfl, rfl⟩, hl.push _⟩, fun i v s' Q' E' hP hQ => ?_, fun h' tk hk => ?_⟩
 ·obtain ⟨b, e, rfl⟩ := hb.get i v (by simpa using hP)
  simp only [e, Option.getD_some] at hQ
  exact wpAny_truthy_bool hQ
 ·have e : ((List.range vs.toArray.size).all fun i => (bs[i]?).getD true) = bs.all id := by
   rw [List.size_toArray, hb.length]; exact LSm.range_all bs
  rw [e]
  exact ⟨.bl _, H, I.kept (t' := tk) (LSm.kept_iter hk), rfl, q⟩
end
noncomputable def dAll : A4 -> Option SD
 | [.list xs] => (Au xs).map fun bs => .sh (.bool (bs.all id))
 | _ => none
section
variable {K : W.Frag} {mg : A5}
theorem yv : Aq K mg dAll (C1 K fun bs => bs.all id) := by
 intro G H vs ds res Q hg hd ho k
 unfold dAll at ho
 split at ho
 next xs =>
  obtain ⟨bs, e, rfl⟩ := Option.map_eq_some_iff.mp ho
  obtain ⟨x, rfl, h1⟩ := dts1 hd
  cases h1 with
  | lst q r =>
   have e2 := jV r e
   subst e2
   exact ⟨_, bs, rfl, (hg.sqr q).sq, ans k hg (.bl _)⟩
 next => cases ho
end
section
variable {X : Cx}
noncomputable def rInD (K : W.Frag) (neg : Bool) : R2 := fun x y H Q => ∃ d xs, (Dt K H y (.list xs) \/ Dt K H y (.tuple xs)) /\ Dt K H x d /\ SeqAt.shaped d = true /\ SeqAt.shaped (.list xs) = true /\ Q (.bl (if neg then !(xs.any fun y => PyData.eqv y d) else xs.any fun y => PyData.eqv y d)) H
theorem vx (hu : X.A.units + 64 < cLine) : OpR X (compareOp .In) (rInD X.K false) := by
 intro pins s σ H x y v u Q I rx ry h
 obtain ⟨d, xs, hy, hx, sd, sl, q⟩ := h
 have cl := SeqAt.canLay_of_shaped sl
 have hdp := SeqAt.depth_of_shaped sl
 have hr : X.A.units + 1 + min (PyData.depthAll xs) d.depth < cLine := by
  have h2 : min (PyData.depthAll xs) d.depth <= PyData.depthAll xs := Nat.min_le_left _ _
  simp only [PyData.depth] at hdp
  lia
 obtain ⟨as, ra⟩ := hx.reads I (SeqAt.canLay_of_shaped sd) rx
 rcases hy with hy | hy
 ·obtain ⟨bs, rb⟩ := hy.reads I cl ry
  exact SeqAt.in_list_reads rb ra cl (SeqAt.canLay_of_shaped sd) hr ⟨.bl _, H, I, rfl, q⟩
 ·obtain ⟨bs, rb⟩ := hy.reads I cl ry
  exact SeqAt.in_tuple_reads rb ra cl (SeqAt.canLay_of_shaped sd) hr ⟨.bl _, H, I, rfl, q⟩
end
noncomputable def inB (d : PyData) : PyData -> Option Bool
 | .list xs => if SeqAt.shaped d = true /\ SeqAt.shaped (.list xs) = true then some (xs.any fun y => PyData.eqv y d) else none
 | .tuple xs => if SeqAt.shaped d = true /\ SeqAt.shaped (.list xs) = true then some (xs.any fun y => PyData.eqv y d) else none
 | _ => none
noncomputable def dIn : A4 -> Option SD
 | [x, y] => (inB x y).map fun b => .sh (.bool b)
 | _ => none
section
variable {K : W.Frag} {mg : A5}
theorem vy {neg : Bool} {G H : Hp} {x y : V} {dx dy : PyData} {b : Bool} {Q : VK} (hg : Same G H) (h1 : Dt K G x dx) (h2 : Dt K G y dy) (e : inB dx dy = some b) (q : Q (.bl (if neg then !b else b)) H) : rInD K neg x y H Q := by
 have h1' := h1.mono hg
 have h2' := h2.mono hg
 unfold inB at e
 split at e
 next xs =>
  split at e
  next hs => cases e; exact ⟨dx, xs, .inl h2', h1', hs.1, hs.2, q⟩
  next => cases e
 next xs =>
  split at e
  next hs => cases e; exact ⟨dx, xs, .inr h2', h1', hs.1, hs.2, q⟩
  next => cases e
 next => cases e
end
section
variable {X : Cx}
noncomputable def flat4 : V -> Bool
 | .non => true | .bl _ => true | .int _ => true | .str _ => true | .ref _ => true | _ => false
noncomputable def rIs (neg : Bool) : R2 := fun x y H Q => flat4 x = true /\ (y = .non \/ ∃ c, y = .bl c) /\ Q (.bl (if neg then !decide (x = y) else decide (x = y))) H
theorem vz {x y : V} {v u : Value} (rx : RelV x v) (ry : RelV y u) (f : flat4 x = true) (hy : y = .non \/ ∃ c, y = .bl c) : plainIs v u = true /\ (v == u) = decide (x = y) := by
 rcases hy with rfl | ⟨c, rfl⟩
 ·cases ry
  cases x <;> first | (cases f; done) | skip
  ·cases rx; exact ⟨rfl, by simp⟩
  ·cases rx; exact ⟨rfl, by simp⟩
  ·obtain ⟨t, rfl⟩ := rx; exact ⟨rfl, by simp⟩
  ·obtain ⟨t, rfl⟩ := rx; exact ⟨rfl, by simp⟩
  ·cases rx; exact ⟨rfl, by simp⟩
 ·cases ry
  cases x <;> first | (cases f; done) | skip
  ·cases rx; exact ⟨rfl, by simp⟩
  ·cases rx; exact ⟨rfl, by simp [Bool.beq_eq_decide_eq]⟩
  ·obtain ⟨t, rfl⟩ := rx; exact ⟨rfl, by simp⟩
  ·obtain ⟨t, rfl⟩ := rx; exact ⟨rfl, by simp⟩
  ·cases rx; exact ⟨rfl, by simp⟩
theorem qH : OpR X (compareOp .IsNot) (rIs true) := by
 intro pins s σ H x y v u Q I rx ry h
 obtain ⟨f, hy, q⟩ := h
 obtain ⟨h1, h2⟩ := vz rx ry f hy
 exact wpAny_isNot_plain h1 (by rw [h2]; exact ⟨.bl _, H, I, rfl, q⟩)
end
noncomputable def isB : PyData -> PyData -> Option Bool
 | .none, .none => some true
 | _, .none => some false
 | .bool b, .bool c => some (decide (b = c))
 | _, .bool _ => some false
 | _, _ => none
noncomputable def Bc : A4 -> Option SD
 | [x, y] => (isB x y).map fun b => .sh (.bool !b)
 | _ => none
section
variable {K : W.Frag} {mg : A5}
theorem vA {neg : Bool} {G H : Hp} {x y : V} {dx dy : PyData} {b : Bool} {Q : VK} (h1 : Dt K G x dx) (h2 : Dt K G y dy) (e : isB dx dy = some b) (q : Q (.bl (if neg then !b else b)) H) : rIs neg x y H Q := by
 unfold isB at e
 split at e
 next => cases e; cases h1; cases h2; exact ⟨rfl, .inl rfl, q⟩
 next hn =>
  cases e
  cases h2
  refine ⟨by cases h1 <;> rfl, .inl rfl, ?_⟩
  have : decide (x = V.non) = false := by
   cases h1 <;> first | rfl | exact (hn rfl).elim
  rw [this]; exact q
 next b c =>
  cases e; cases h1; cases h2
  refine ⟨rfl, .inr ⟨_, rfl⟩, ?_⟩
  rw [dB]; exact q
 next c hn =>
  cases e
  cases h2
  refine ⟨by cases h1 <;> rfl, .inr ⟨_, rfl⟩, ?_⟩
  have : decide (x = V.bl c) = false := by
   cases h1 <;> first | rfl | exact (hn _ rfl).elim
  rw [this]; exact q
 next => cases e
theorem sV : Aq K mg Bc (l2 (rIs true)) := by
 intro G H vs ds res Q hg hd ho k
 unfold Bc at ho
 split at ho
 next x y =>
  obtain ⟨b, e, rfl⟩ := Option.map_eq_some_iff.mp ho
  obtain ⟨v, u, rfl, h1, h2⟩ := dts2 hd
  exact vA h1 h2 e (ans k hg (.bl _))
 next => cases ho
end
section
variable {X : Cx} {E : XK} {a b e : Expr} {oa ob : Opd} {pos p : Pos}
theorem qI (ha : SO X E a oa) (hb : SO X E b ob) : ST X E (.Compare a [.IsNot] [b] pos) (tstV (eOp Bc [oa, ob])) := g9 qH sV ha hb (nomark _)
theorem qJ (hm : X.mg "all" = none) (hb : bootBuiltins "all" = some (.builtin "all")) (ha : SO X E a oa) (hc : X.calm = true := by rfl) (hg : Gl X "all" := by rfl) (hst : starEach [a] X.env = [(false, eval a X.env)] := by rfl) : SE X E (.Call (.Name "all" p) [a] [] pos) (eOp dAll [oa]) :=
 gF (p9 hc) yv hm hb (aa ha ag hst) hg (by decide) (by decide) hst rfl
end
section
variable {X : Cx}
end
noncomputable def encL (ns : List Int) : PyData := .list (ns.map PyData.int)
section
variable {X : Cx} {E : XK} {a b e : Expr} {oa ob : Opd} {pos p : Pos}
end
@[simp] theorem ub : Au [] = some [] := rfl
@[simp] theorem sW (b : Bool) (r : A4) : Au (.bool b :: r) = (Au r).map (b :: ·) := rfl
@[simp] theorem iH (xs : A4) : dAll [.list xs] = (Au xs).map fun bs => .sh (.bool (bs.all id)) := rfl
@[simp] theorem zX (x y : PyData) : dIn [x, y] = (inB x y).map fun b => .sh (.bool b) := rfl
@[simp] theorem yw (x : PyData) (xs : A4) : inB x (.list xs) = if SeqAt.shaped x = true /\ SeqAt.shaped (.list xs) = true then some (xs.any fun y => PyData.eqv y x) else none := rfl
@[simp] theorem wQ (x : PyData) (xs : A4) : inB x (.tuple xs) = if SeqAt.shaped x = true /\ SeqAt.shaped (.list xs) = true then some (xs.any fun y => PyData.eqv y x) else none := rfl
@[simp] theorem wR (x y : PyData) : Bc [x, y] = (isB x y).map fun b => .sh (.bool !b) := rfl
@[simp] theorem yx (b c : Bool) : isB (.bool b) (.bool c) = some (decide (b = c)) := rfl
@[simp] theorem yy : isB .none .none = some true := rfl
open PySem.W
section
variable {X : Cx} {pins : A6} {σ : St} {N : List Str} {F : List Nat} {scope : Scope} {cl : List (Str × Addr)} {a : Str} {f c' l : Addr} {params : Arguments} {body : Expr} {pm ctv : Value} {of : Obj} {te : TE} {vs : List V} {Q : VK} {W : Nat -> Option (V × Int) -> Hp -> Prop}
end
structure LamK (K : W.Frag) (cdv : Value) (c P : Addr) : Prop where
 cd : cdv = .ref c
 hd : codeHdIn K c P = true
 mem : P ∈ Tabs.ts
section
variable {X : Cx} {E : XK} {N : List Str} {F : List Nat} {scope : Scope} {a : Str} {params : Arguments} {body e : Expr} {te : DE} {o : Opd} {c P : Addr} {p pos lp cp k1 k2 : Pos} {j k : Nat}
end
end L2
namespace L2
open PySem PySem.Spec PyProof.Rows
variable [Tabs]
section
variable {X : Cx} {N0 : List Str} {sc0 scope : Scope} {x y : Str}
variable {elt iter : Expr} {fc : DC} {tc : DT} {te : DE} {pos px py pt spos : Pos} {ifs : List Expr} {E : XK} {F : List Nat} {kt : Nat}
end
section
variable {X : Cx} {E : XK} {l : Expr} {o : Opd} {p pos : Pos} {ts : List Expr} {tk : Nat} {tp : Pos}
end
open PySem.W
end L2
namespace L2
open PySem PySem.Spec PyProof.Rows
variable [Tabs]
section
variable {X : Cx} {pins : A6} {σ : St} {H : Hp} {s : Shared} {a : Addr} {o : Obj} {u : HO}
end
section
variable {K : W.Frag} {mg : A5} {G0 H0 G H : Hp} {σ : St} {δ : DEnv} {a : Addr} {o2 : HO}
end
section
variable {X : Cx} {E : XK} {N0 : List Str} {sc0 scope : Scope} {x d : Str} {elt : Expr} {ifs : List Expr} {tc : DT} {te : DE} {pos px pd : Pos} {F : List Nat}
end
end L2
namespace L2
open PySem PySem.Spec PyProof.Rows
section
variable {prog : Program} {w : World} {A : Around} {E : A8} {s : Shared} {a kS : Addr} {vs : List Value} {ns kz : List Int} {keys : Array Value} {e e1 : Nat} {P : PySem.Fin -> Shared -> Prop}
end
open PySem.W
open HT (BR)
section
variable {prog : Program} {w : World} {A : Around} {E : A8} {s : Shared}
end
end L2
namespace L2
open PySem PySem.Spec PyProof.Rows
variable [Tabs]
section
variable {X : Cx}
end
section
variable {X : Cx} {E : XK} {a b e : Expr} {oa ob : Opd} {pos p : Pos}
end
section
variable {X : Cx}
end
section
variable {X : Cx} {E : XK} {a b e : Expr} {oa ob : Opd} {pos p : Pos}
end
section
variable {prog : Program} {w : World} {A : Around} {E : A8} {s : Shared}
end
section
variable {X : Cx}
end
section
variable {X : Cx} {E : XK} {a b e : Expr} {oa ob : Opd} {pos p : Pos}
end
noncomputable def inB2 (d : PyData) : PyData -> Option Bool
 | .dict es => (Ar d).map fun k => es.any fun p => decide (Ar p.1 = some k)
 | y => inB d y
noncomputable def dIn2 : A4 -> Option SD
 | [x, y] => (inB2 x y).map fun b => .sh (.bool b)
 | _ => none
noncomputable def C3 (K : W.Frag) (neg : Bool) : R2 := fun x y H Q => rInD K neg x y H Q \/ ∃ a o, y = .ref a /\ DGet H a x o /\ Q (.bl (if neg then !o.isSome else o.isSome)) H
section
variable {X : Cx}
theorem nV (hu : X.A.units + 64 < cLine) : OpR X (compareOp .In) (C3 X.K false) := by
 intro pins s σ H x y v u Q I rx ry h
 rcases h with h | ⟨a, o, rfl, g, q⟩
 ·exact vx hu pins s σ H x y v u Q I rx ry h
 ·cases ry
  exact zF (by lia) I g rx fun s' I' => ⟨.bl _, H, I', rfl, q⟩
end
section
variable {K : W.Frag} {mg : A5}
theorem sX {neg : Bool} {G H : Hp} {x y : V} {dx dy : PyData} {b : Bool} {Q : VK} (hg : Same G H) (h1 : Dt K G x dx) (h2 : Dt K G y dy) (e : inB2 dx dy = some b) (q : Q (.bl (if neg then !b else b)) H) : C3 K neg x y H Q := by
 unfold inB2 at e
 split at e
 next es =>
  obtain ⟨k, ek, rfl⟩ := Option.map_eq_some_iff.mp e
  cases h2 with
  | dct hd hdes =>
   rename_i a kvs
   have ex : x = kV k := by
    cases h1 with
    | int i => cases ek; rfl
    | str z => cases ek; rfl
    | non => cases ek
    | bl z => cases ek
    | lst _ _ => cases ek
    | tup _ _ => cases ek
    | dct _ _ => cases ek
   subst ex
   refine .inr ⟨a, valV kvs k, rfl, DGet.k (hg _ _ hd), ?_⟩
   have e2 : (valV kvs k).isSome = es.any fun p => decide (Ar p.1 = some k) := by
    rw [<- hdes.any]
    unfold valV
    rw [Option.isSome_map, Bool.eq_iff_iff, List.find?_isSome, List.any_eq_true]
   rw [e2]
   exact q
 next => exact .inl (vy hg h1 h2 e q)
theorem uc : Aq K mg dIn2 (l2 (C3 K false)) := by
 intro G H vs ds res Q hg hd ho k
 unfold dIn2 at ho
 split at ho
 next x y =>
  obtain ⟨b, e, rfl⟩ := Option.map_eq_some_iff.mp ho
  obtain ⟨v, u, rfl, h1, h2⟩ := dts2 hd
  exact sX hg h1 h2 e (ans k hg (.bl _))
 next => cases ho
end
section
variable {X : Cx} {E : XK} {a b : Expr} {oa ob : Opd} {pos : Pos}
theorem qK (hu : X.A.units + 64 < cLine) (ha : SO X E a oa) (hb : SO X E b ob) (hm : behindInMarks .In b = false := by rfl) : SE X E (.Compare a [.In] [b] pos) (eOp dIn2 [oa, ob]) := iX (nV hu) uc ha hb hm
theorem vB (hu : X.A.units + 64 < cLine) (ha : SO X E a oa) (hb : SO X E b ob) (hm : behindInMarks .In b = false := by rfl) : ST X E (.Compare a [.In] [b] pos) (tstV (eOp dIn2 [oa, ob])) := g9 (nV hu) uc ha hb hm
end
section
variable {X : Cx} {E : XK} {e : Expr} {o : Opd} {p pos pk kp : Pos}
end
section
variable {X : Cx} {E : XK} {a b : Expr} {oa ob : Opd} {p p2 pos pos2 : Pos}
end
theorem sY {P : Program} {w : World} {K : W.Frag} {mg : A5} {base : Heap} {k : Nat} {f : Addr} {fd : FuncData} (ps : List Str) : FnOk P w K mg base (CXe P w) k f fd ps (spD K mg fun _ => .bad) :=
 ⟨fun vs H Q E h => let ⟨_, _, _, _, m⟩ := h; m.elim, fun A outer s H args us vs Q E _ _ _ _ h => let ⟨_, _, _, _, m⟩ := h; m.elim⟩
structure LamQ (K : W.Frag) (qn : Str) (cdv : Value) (c P : Addr) : Prop where
 k : LamK K cdv c P
 q : qn ++ ".<locals>." ++ "<lambda>" = Tabs.qual
section
variable {X : Cx} {E : XK} {F : List Nat} {scope sc0 : Scope} {N0 : List Str} {a qn : Str} {params : Arguments} {body e : Expr} {te : DE} {o : Opd} {c P : Addr} {p pos lp cp k1 k2 : Pos} {j k : Nat}
end
end L2
namespace L2
open PySem PySem.Spec PyProof.Rows
structure CN (X : Cx) (x : Str) (F : List Nat) (N : List Str) (scope : Scope) : Prop where
 kind : scope.kind = .function
 c1 : ∀ n cl, cellsFrom n scope.names cl = (x, n) :: cl
 c2 : ∀ h, pushCells h scope.names = h.push { cls := .type "cell", data := .cell none }
 only : ∀ y ∈ scope.names, y.2 = .cell -> y.1 = x
 loc : ∀ y ∈ scope.names, y.2 = .local -> scope.names.lookup y.1 = some .local
 fkind : X.env.scope.kind = .function
 free : ∀ y ∈ scope.names, y.2 = .free -> X.env.kindOf y.1 = some .cell \/ X.env.kindOf y.1 = some .free
 names : ∀ (i : Nat) y, N[i]? = some y -> (i < 1 \/ (y ≠ x /\ ∃ j, F[i - 1]? = some j /\ X.N[j]? = some y /\ Vis X.env.scope y /\ ∀ k, (relabel scope X.env).names.lookup y = some k -> k = .cell \/ k = .free))
 len : N.length = 1 + F.length
section
variable {X : Cx} {pins : A6} {σ : St} {H : Hp} {s : Shared} {N : List Str} {F : List Nat} {scope : Scope} {cl : List (Str × Addr)} {fp : List Addr} {x : Str}
end
section
variable {X : Cx} {x xo : Str} {N : List Str} {F : List Nat} {scope : Scope} {tg elt iter : Expr} {wi : TI} {g : TG} {tc : TT} {te : TE} {pos : Pos} {ifs : List Expr}
end
variable [Tabs]
section
variable {X : Cx} {E : XK} {N0 : List Str} {sc0 scope : Scope} {x : Str} {elt iter : Expr} {ifs : List Expr} {fc : DC} {tc : DT} {te : DE} {pos px : Pos} {F : List Nat}
end
structure CO (s p : Addr) (G H G' H' : Hp) : Prop where
 at_ : ∀ b o, b ≠ s -> b ≠ p -> H b = some o -> H' b = some o
 gg : Same G G'
 gh : Same G' H'
 nb : ∀ b, H b ≠ none -> G' b = G b
 nt : NoT G -> NoT G'
theorem Dts.dropLast' {K : W.Frag} {H : Hp} {vs : List V} {ds : A4} (h : Dts K H vs ds) : Dts K H vs.dropLast ds.dropLast := by
 rw [List.dropLast_eq_take, List.dropLast_eq_take, h.len]
 exact h.take _
noncomputable def setP (i : Nat) (p : A4 × DEnv × DEnv) : SOut := match isOl p.2.2 i, p.1 with
 | some ds, [d, .int k] => (match ixN ds.length k with
  | some j => .nx (p.2.2.set i (some (.ol (ds.set j d))))
  | none => .bad)
 | _, _ => .bad
noncomputable def CP (i : Nat) (ov ok : Opd) : DS := fun δ => match isOl δ i with
 | none => .bad
 | some _ => match opds [ov, ok] δ with
  | .ok p => setP i p
  | .exc x => .exc x
  | .bad => .bad
noncomputable def ePop (i : Nat) : DE := fun δ => match isOl δ i with
 | none => .bad
 | some ds => match ds.getLast? with
  | some d => .ok (.sh d, δ.set i (some (.ol ds.dropLast)))
  | none => .bad
@[simp] theorem zC (i : Nat) (δ : DEnv) : ePop i δ = match isOl δ i with
 | none => .bad
 | some ds => match ds.getLast? with
  | some d => .ok (.sh d, δ.set i (some (.ol ds.dropLast)))
  | none => .bad := rfl
section
variable {X : Cx} {E : XK} {e k v : Expr} {o ov ok : Opd} {x : Str} {px apos cpos pos tpos : Pos}
theorem vC (i : Nat) (hN : X.N[i]? = some x := by rfl) (hv : Vis X.env.scope x := by first | exact Or.inl rfl | exact Or.inr (Or.inl rfl) | exact Or.inr (Or.inr rfl)) (hd : (x == ("__debug__" : Str)) = false := by decide)
  (hcd : (x == ("__classdict__" : Str)) = false := by decide) (hbase : attributeBase (.Name x px) "pop" X.env (eval (.Name x px) X.env) = eval (.Name x px) X.env := by rfl) (hline : (apos.endLine == cpos.line) = true := by rfl) :
  SE X E (.Call (.Attribute (.Name x px) "pop" apos) [] [] cpos) (ePop i) :=
 (uM PySem.F.plainAttrs_list PySem.F.slot_list_pop PySem.F.type_list_pop uN (ft hN hv hd hcd) hbase hline).weak fun σ H Q ⟨G0, H0, G, δ, R, m⟩ => by
  unfold ePop at m
  cases e0 : isOl δ i with
  | none => rw [e0] at m; exact m.elim
  | some ds =>
   rw [e0] at m
   dsimp only at m
   obtain ⟨w, h1, ⟨a, xs, rfl, q1, q2, q3⟩, _⟩ := R.at_ (gJ e0)
   cases e1 : ds.getLast? with
   | none => rw [e1] at m; exact m.elim
   | some d =>
    rw [e1] at m
    dsimp only at m
    rw [List.getLast?_eq_getElem?] at e1
    obtain ⟨y, hy, hyd⟩ := q3.get' e1
    refine ⟨.ref a, h1, .inl ⟨rfl, xs, .inl (.inl q2)⟩, a, xs, y, rfl, rfl, q2, by rw [q3.len]; exact hy, ?_⟩
    exact m y _ G (R.write (gJ e0) trivial h1 ⟨a, _, rfl, q1, aK, q3.dropLast'⟩ (by rw [q2]; trivial) (fun C z => by rw [q2] at z; cases z)) (.refl _) (RR.sh hyd)
end
def sBad : DS := fun _ => .bad
@[simp] theorem zD (δ : DEnv) : sBad δ = .bad := rfl
section
variable {X : Cx} {E : XK} {e : Expr} {st : Stmt} {sts : List Stmt}
theorem zY : S1 X E st sBad := fun _ _ _ _ _ _ ⟨_, _, _, _, _, m⟩ => m.elim
theorem cV : SS X E sts sBad := fun _ _ _ _ _ _ ⟨_, _, _, _, _, m⟩ => m.elim
end
theorem kG (l : Addr) (items : Array Value) (n : Nat) (b : Addr) (items2 : Array Value) (hs0 : ¬(!items.isEmpty && Builtin.List.listTooLong (items.size + items2.size)) = true) (hs1 : items.size <= sizeLine) (hs2 : items.size + items2.size <= sizeLine + 1) :
  Meets (Builtin.«list.extend» ⟨[.ref l, .ref b], []⟩) (fun _ R s => s.heap.get? l = some { cls := .type "list", dict := none, data := .seq items n, slots := #[] } /\ IsTup s.heap b items2 /\ R (.ok (.ret Value.none)) { s with heap := s.heap.update l (Obj.mapSeq fun x => x ++ items2), toks := s.toks }) :=
 .of_wp fun prog w A R s h => by
  obtain ⟨hp, g, d, tk, os⟩ := s
  obtain ⟨hl, ⟨⟨oc, od, odt, osl⟩, hb, hc, n2, hd⟩, h⟩ := h
  have hc' : oc = .type "tuple" := hc
  have hd' : odt = .seq items2 n2 := hd
  subst hc' hd'
  have f1 := PySem.AutoSeq1.idx_int
  have f2 := PySem.AutoSeq1.sub_tuple_tuple
  have f3 := PySem.AutoSeq1.sub_list_list
  have f4 := PySem.AutoSeq1.sub_tuple_list
  have f5 := PySem.AutoSeq1.sub_list_tuple
  have hz' : (items ++ items2).size <= sizeLine + 1 := by rw [Array.size_append]; exact hs2
  wp_walk using (wpAny_updateSeq hl rfl (hz := hs1) (_hz' := hz')), PySem.AutoSeq1.wpAny_loadPart' hl, PySem.AutoSeq1.wpAny_loadPart' hb
  exact ⟨_, rfl, h⟩
noncomputable def AR (ds : A4) : A4 -> Option A4
 | [.list fs] => if ds.length + fs.length <= sizeLine then some (ds ++ fs) else none
 | [.tuple fs] => if ds.length + fs.length <= sizeLine then some (ds ++ fs) else none
 | _ => none
@[simp] theorem yz (ds es : A4) : AR ds [.list es] = if ds.length + es.length <= sizeLine then some (ds ++ es) else none := rfl
@[simp] theorem yA (ds es : A4) : AR ds [.tuple es] = if ds.length + es.length <= sizeLine then some (ds ++ es) else none := rfl
noncomputable def Cp (K : W.Frag) : V -> List V -> Hp -> VK -> Prop := fun x vs H Q => ∃ l b xs zs, x = .ref l /\ vs = [.ref b] /\ H l = some (.lst xs) /\ (SqR K H b zs \/ SqT K H b zs) /\ xs.length + zs.length <= sizeLine /\ Q .non (upd H l (.lst (xs ++ zs)))
section
variable {X : Cx} {E : XK} {e k v : Expr} {o ov ok : Opd} {x : Str} {px apos cpos pos tpos : Pos}
theorem sZ : MtM X "list.extend" (Cp X.K) := by
 intro pins s σ H x vs v us Q I rx rv h
 obtain ⟨l, b, xs, zs, rfl, rfl, hH, hB, hz, q⟩ := h
 cases rx
 obtain ⟨u, rfl, ru⟩ := rv.one
 cases ru
 obtain ⟨z, its, n, r, hl, e⟩ := I.lstM hH
 rcases hB with hB | hB
 ·obtain ⟨z2, its2, n2, r2, hl2, e2⟩ := I.lstR hB
  have hsz : its.toArray.size + its2.toArray.size <= sizeLine := by rw [List.size_toArray, List.size_toArray]; lia
  have hlong : ¬ (!its.toArray.isEmpty && Builtin.List.listTooLong (its.toArray.size + its2.toArray.size)) = true := by
   rw [Bg hsz, Bool.and_false]
   exact Bool.false_ne_true
  refine call_meets PySem.F.slot_list_extend ⟨_, e, rfl⟩ PySem.F.entry_list_extend (PySem.F.args_list_extend_2 _ _)
   (AutoSeq1.list_extend_list_list_0 l its.toArray n b its2.toArray n2 hlong (by rw [List.size_toArray]; lia) (by lia)) ⟨e, e2, ?_⟩
  refine ⟨.non, _, I.lset (its' := its ++ its2) hH e (by simp) (r.append r2) ?_, rfl, q⟩
  rw [List.length_append]
  lia
 ·obtain ⟨its2, r2, ht, hz2⟩ := I.tuple hB
  have hl2 := r2.length
  have hsz : its.toArray.size + its2.toArray.size <= sizeLine := by rw [List.size_toArray, List.size_toArray]; lia
  have hlong : ¬ (!its.toArray.isEmpty && Builtin.List.listTooLong (its.toArray.size + its2.toArray.size)) = true := by
   rw [Bg hsz, Bool.and_false]
   exact Bool.false_ne_true
  refine call_meets PySem.F.slot_list_extend ⟨_, e, rfl⟩ PySem.F.entry_list_extend (PySem.F.args_list_extend_2 _ _)
   (kG l its.toArray n b its2.toArray hlong (by rw [List.size_toArray]; lia) (by lia)) ⟨e, ht, ?_⟩
  refine ⟨.non, _, I.lset (its' := its ++ its2) hH e (by simp) (r.append r2) ?_, rfl, q⟩
  rw [List.length_append]
  lia
theorem vD {K : W.Frag} : MutS K AR (Cp K) := fun G H a xs ds ds' vs es Q hg ha hx hv e k => by
 unfold AR at e
 split at e
 next fs =>
  split at e
  next hl =>
   cases e
   obtain ⟨y, rfl, hy⟩ := dts1 hv
   cases hy with
   | lst q r => exact ⟨a, _, xs, _, rfl, rfl, ha, .inl (hg.sqr q), by rw [hx.len, r.len]; exact hl, k _ _ (hx.append r)⟩
  next => cases e
 next fs =>
  split at e
  next hl =>
   cases e
   obtain ⟨y, rfl, hy⟩ := dts1 hv
   cases hy with
   | tup q r => exact ⟨a, _, xs, _, rfl, rfl, ha, .inr (hg.tup q), by rw [hx.len, r.len]; exact hl, k _ _ (hx.append r)⟩
  next => cases e
 next => cases e
theorem iI (i : Nat) (he : SO X E e o) (hN : X.N[i]? = some x := by rfl) (hv : Vis X.env.scope x := by first | exact Or.inl rfl | exact Or.inr (Or.inl rfl) | exact Or.inr (Or.inr rfl)) (hd : (x == ("__debug__" : Str)) = false := by decide) (hcd : (x == ("__classdict__" : Str)) = false := by decide)
  (hs : swapsWith (.Call (.Attribute (.Name x px) "extend" apos) [e] [] cpos) none pos.line X.env = pure false := by rfl) (hst : starEach [e] X.env = [(false, eval e X.env)] := by rfl)
  (hbase : attributeBase (.Name x px) "extend" X.env (eval (.Name x px) X.env) = eval (.Name x px) X.env := by rfl)
  (hfew : ((backTo cpos (starEach [e] X.env)).all (fun x => !x.1) && (backToKw cpos (keywordEach [] X.env)).all (fun x => x.1.isSome) && decide (([e] : List Expr).length + ([] : List Keyword).length + (if ([] : List Keyword).isEmpty then 0 else 1) < 30)) = true := by rfl)
  (hline : (apos.endLine == cpos.line) = true := by rfl) : S1 X E (.Expr (.Call (.Attribute (.Name x px) "extend" apos) [e] [] cpos) pos) (sMut AR i o) :=
 (ny (xh PySem.F.plainAttrs_list PySem.F.slot_list_extend PySem.F.type_list_extend sZ (ft hN hv hd hcd) (aa he ag hst) hbase hfew hline hst rfl) hs).weak fun _ _ _ q => xJ vD q
noncomputable def incP (i : Nat) (a : Int) (p : A4 × DEnv × DEnv) : SOut := match p.1 with
 | [.int b] => if i < p.2.2.length then .nx (p.2.2.set i (some (.sh (.int (a + b))))) else .bad
 | _ => .bad
noncomputable def sInc (i : Nat) (o : Opd) : DS := fun δ => match δ[i]? with
 | some (some (.sh (.int a))) => (match opds [o] δ with
  | .ok p => incP i a p
  | .exc x => .exc x
  | .bad => .bad)
 | _ => .bad
@[simp] theorem yB (i : Nat) (a b : Int) (δ1 δ2 : DEnv) : incP i a ([.int b], δ1, δ2) = if i < δ2.length then .nx (δ2.set i (some (.sh (.int (a + b))))) else .bad := rfl
@[simp] theorem zE (i : Nat) (o : Opd) (δ : DEnv) : sInc i o δ = match δ[i]? with
 | some (some (.sh (.int a))) => (opds [o] δ).elimS (incP i a)
 | _ => .bad := by
 unfold sInc
 split
 ·cases opds [o] δ <;> rfl
 ·rfl
theorem vF (i : Nat) (hN : X.N.Nodup) (he : SO X E e o) (hi : X.N[i]? = some x := by rfl) (hx : Loc X.env.scope x := by first | exact Or.inl rfl | exact Or.inr rfl)
  (hf : X.fn x = true \/ X.env.scope.names.lookup x = some .local := by first | exact .inl rfl | exact .inr rfl | assumption) : S1 X E (.AugAssign (.Name x px) .Add e pos) (sInc i o) :=
 (uy hN hi hx he uz hf).weak fun D σ H ⟨G0, H0, G, δ, R, m⟩ => by
  unfold sInc at m
  split at m
  next a ea =>
   obtain ⟨w, h1, rr⟩ := R.at_ ea
   have hw : w = .int a := by
    cases rr.1 with
    | int => rfl
   subst hw
   refine ⟨_, h1, ?_⟩
   have key : tOs X.K X.mg E [o] σ H fun vs H1 => ∃ y, vs = [y] /\ ipI (fun i j => i + j) (.int a) y H1 fun z H2 => D.nx (σ.set i (some z)) H2 := by
    refine j1 R ?_
    cases e1 : opds [o] δ with
    | ok p =>
     rw [e1] at m
     dsimp only [incP] at m
     intro vs H1 G1 R1 s1 hdd
     split at m
     next b eb =>
      rw [eb] at hdd
      obtain ⟨y, rfl, hy⟩ := dts1 hdd
      cases hy
      split at m
      next hl =>
       refine ⟨_, rfl, a, b, rfl, rfl, ?_⟩
       exact m _ H1 G1 (R1.store (by rw [<- R1.len]; exact hl) (RR.sh (.int _))) s1
      next => exact m.elim
     next => exact m.elim
    | exc x => rw [e1] at m; exact m
    | bad => rw [e1] at m; exact m
   exact iD (fun y H1 ⟨y', ey, q⟩ => by cases ey; exact q) key
  next => exact m.elim
end
noncomputable def Bf (w : World) : List DictEntry -> List (Key × Int) -> Prop
 | [], [] => True
 | e :: es, p :: r => Bd p.1 e.key = true /\ e.hash = keyH w p.1 /\ (∃ t, e.val = .int p.2 t) /\ Bf w es r
 | _, _ => False
theorem pe {w : World} : Bf w [] [] := trivial
theorem eY {w : World} {k : Key} {v : Int} {hash : Int} {key val : Value} {t : Tok} {es : List DictEntry} {kd : List (Key × Int)} (h1 : Bd k key = true) (h2 : hash = keyH w k) (h3 : val = .int v t) (r : Bf w es kd) : Bf w (⟨hash, key, val⟩ :: es) ((k, v) :: kd) := ⟨h1, h2, ⟨t, h3⟩, r⟩
structure DctK (w : World) (K : W.Frag) (a : Addr) (kd : List (Key × Int)) : Prop where
 nsys : (a == sysModules) = false
 nd : (kd.map (·.1)).Nodup
 obj : ∃ es n, K.lookup a = some { cls := .type "dict", data := .dict es n } /\ Bf w es.toList kd
theorem t4 {w : World} {K : W.Frag} {a : Addr} {kd : List (Key × Int)} {es : Array DictEntry} {n : Nat} (h1 : (a == sysModules) = false) (h2 : (kd.map (·.1)).Nodup) (h3 : K.lookup a = some { cls := .type "dict", data := .dict es n }) (h4 : Bf w es.toList kd) : DctK w K a kd := ⟨h1, h2, es, n, h3, h4⟩
noncomputable def kdV (kd : List (Key × Int)) : List (Key × V) := kd.map fun p => (p.1, .int p.2)
theorem jW {P : Program} {w : World} : ∀ {es : List DictEntry} {kd : List (Key × Int)}, Bf w es kd -> ∃ vs : List (Key × Value), KV (kdV kd) vs /\ Pairs (Ah P w) es vs /\ vs.map (·.1) = kd.map (·.1)
 | [], [], _ => ⟨[], .nil, .nil, rfl⟩
 | e :: es, p :: r, ⟨h1, h2, ⟨t, h3⟩, h4⟩ => by
  obtain ⟨vs, k1, k2, k3⟩ := jW (P := P) h4
  exact ⟨(p.1, .int p.2 t) :: vs, .cons ⟨rfl, t, rfl⟩ k1, .cons h1 h3 k2, by rw [List.map_cons, List.map_cons, k3]⟩
theorem lL {P : Program} {w : World} : ∀ {es : List DictEntry} {kd : List (Key × Int)}, Bf w es kd -> ∀ e ∈ es, ∃ k, (Ah P w).is k e.key = true /\ e.hash = (Ah P w).hash k
 | e :: es, p :: r, ⟨h1, h2, _, h4⟩, e', he => by
  rcases List.mem_cons.mp he with z | z
  ·subst z; exact ⟨p.1, h1, h2⟩
  ·exact lL h4 e' z
section
variable {X : Cx} {E : XK} {e k v : Expr} {o ov ok : Opd} {x : Str} {px apos cpos pos tpos : Pos}
theorem DctK.at_ {pins : A6} {σ : St} {H : Hp} {s : Shared} {a : Addr} {kd : List (Key × Int)} (d : DctK X.w X.K a kd) (I : Inv X pins σ H s) : ∃ vs, KV (kdV kd) vs /\ s.heap.DictOf (Ah X.prog X.w) a vs := by
 obtain ⟨es, n, h1, h2⟩ := d.obj
 obtain ⟨vs, k1, k2, k3⟩ := jW (P := X.prog) h2
 refine ⟨vs, k1, _, es, n, I.kIn _ _ h1, ⟨rfl, rfl, rfl⟩, rfl, fun e he => lL h2 e (by simpa using he), k2, by rw [k3]; exact d.nd⟩
noncomputable def B4 (kd : List (Key × Int)) (k : Key) : PyData := match kd.find? (fun p => decide (p.1 = k)) with
 | some p => .int p.2
 | none => .none
noncomputable def Bk (kd : List (Key × Int)) (k : Key) : V := match kd.find? (fun p => decide (p.1 = k)) with
 | some p => .int p.2
 | none => .non
theorem t5 (kd : List (Key × Int)) (k : Key) : (valV (kdV kd) k).getD .non = Bk kd k := by
 unfold valV kdV Bk
 rw [List.find?_map]
 show ((Option.map _ (kd.find? fun p => decide (p.1 = k))).map _).getD _ = _
 cases kd.find? (fun p => decide (p.1 = k)) <;> rfl
noncomputable def BB (kd : List (Key × Int)) : A4 -> Option SD
 | [d] => (Ar d).map fun k => .sh (B4 kd k)
 | _ => none
@[simp] theorem wU (kd : List (Key × Int)) (x : Str) : BB kd [.str x] = some (.sh (B4 kd (.inr x))) := rfl
noncomputable def CJ (kd : List (Key × Int)) (ty : TA) : TE := fun σ H Q => ty σ H fun vs H2 => ∃ y k, vs = [y] /\ y = kV k /\ Q (Bk kd k) H2
theorem t6 {a : Addr} {kd : List (Key × Int)} {ty : TA} (hm : X.mg x = some (.ref a)) (d : DctK X.w X.K a kd) (he : PA X [e] ty) (hg : Gl X x := by rfl) (hdb : (x == ("__debug__" : Str)) = false := by decide)
  (hbase : attributeBase (.Name x px) "get" X.env (eval (.Name x px) X.env) = eval (.Name x px) X.env := by rfl)
  (hfew : ((backTo cpos (starEach [e] X.env)).all (fun x => !x.1) && (backToKw cpos (keywordEach [] X.env)).all (fun x => x.1.isSome) && decide (([e] : List Expr).length + ([] : List Keyword).length + (if ([] : List Keyword).isEmpty then 0 else 1) < 30)) = true := by rfl)
  (hline : (apos.endLine == cpos.line) = true := by rfl) (hst : starEach [e] X.env = [(false, eval e X.env)] := by rfl) :
  PE X (.Call (.Attribute (.Name x px) "get" apos) [e] [] cpos) (CJ kd ty) := by
 intro pins s σ H Q I h
 refine wpAny_Call_method hbase hfew hline PySem.F.plainAttrs_dict PySem.F.slot_dict_get PySem.F.type_dict_get (dq I hg hm ?_ hdb)
 obtain ⟨vs0, _, dd0⟩ := d.at_ I
 refine ⟨dd0.typeIs, fun b q => ?_, ?_⟩
 ·cases q
  obtain ⟨ob, _, _, h1, h2, _⟩ := dd0
  exact ⟨ob, h1, h2.2.1⟩
 have hA := he cpos pins s σ H _ I h
 rw [hst] at hA ⊢
 refine Calls.callWith_builtin rfl (Calls.evalArgs_plain ?_)
 refine thn hA fun us s1 ⟨vs, H1, I1, rv, y, k, ev, ek, q⟩ => ?_
 subst ev ek
 obtain ⟨u, rfl, ru⟩ := rv.one
 obtain ⟨vs, rel, dd⟩ := d.at_ I1
 refine call_meetsIn PySem.F.slot_dict_get dd.typeIs PySem.F.entry_dict_get (PySem.F.args_dict_get_2 _ _) (meets_dict_get (Ah X.prog X.w) a (lh ru) d.nsys) ⟨_, dd.mapOf, ⟨Bk kd k, H1, I1.tok _, ?_, q⟩⟩
 rw [<- t5]
 exact (rel.val k).getD rfl
theorem vG {K : W.Frag} {mg : A5} (kd : List (Key × Int)) : Aq K mg (BB kd) (fun vs H Q => ∃ y k, vs = [y] /\ y = kV k /\ Q (Bk kd k) H) := by
 intro G H vs ds res Q hg hd ho k
 unfold BB at ho
 split at ho
 next d =>
  obtain ⟨y, rfl, hy⟩ := dts1 hd
  cases ek : Ar d with
  | none => rw [ek] at ho; cases ho
  | some kk =>
   rw [ek] at ho
   cases ho
   have := mI hy ek
   subst this
   refine ⟨_, kk, rfl, rfl, ?_⟩
   have hd' : Dt K G (Bk kd kk) (B4 kd kk) := by
    unfold Bk B4
    cases kd.find? (fun p => decide (p.1 = kk)) with
    | none => exact .non
    | some p => exact .int _
   exact ans k hg hd'
 next => cases ho
theorem t7 {kd : List (Key × Int)} (h : ∃ a, X.mg x = some (.ref a) /\ DctK X.w X.K a kd) (he : SO X E e o) (hg : Gl X x := by rfl) (hdb : (x == ("__debug__" : Str)) = false := by decide)
  (hbase : attributeBase (.Name x px) "get" X.env (eval (.Name x px) X.env) = eval (.Name x px) X.env := by rfl)
  (hfew : ((backTo cpos (starEach [e] X.env)).all (fun x => !x.1) && (backToKw cpos (keywordEach [] X.env)).all (fun x => x.1.isSome) && decide (([e] : List Expr).length + ([] : List Keyword).length + (if ([] : List Keyword).isEmpty then 0 else 1) < 30)) = true := by rfl)
  (hline : (apos.endLine == cpos.line) = true := by rfl) (hst : starEach [e] X.env = [(false, eval e X.env)] := by rfl) :
  SE X E (.Call (.Attribute (.Name x px) "get" apos) [e] [] cpos) (eOp (BB kd) [o]) := by
 obtain ⟨a, hm, d⟩ := h
 exact (t6 hm d (aa he ag hst) hg hdb hbase hfew hline hst).weak fun σ H Q q => hV (vG kd) q
theorem nW {c : Str} (h : ∃ t, X.mg x = some (.str c t)) (hg : Gl X x := by rfl) (hdb : (x == ("__debug__" : Str)) = false := by decide) : SE X E (.Name x pos) (eC (.str c)) := by
 obtain ⟨t, h⟩ := h
 exact nN h (v := .str c) ⟨t, rfl⟩ (fun _ => .str c) hg hdb
end
section
variable {X : Cx} {E : XK} {e a k v : Expr} {o oa ov ok : Opd} {x : Str} {p px apos cpos pos tpos : Pos}
end
@[simp] theorem yC (i : Nat) (d : PyData) (k : Str) (δ1 δ2 : DEnv) : putP i ([d, .str k], δ1, δ2) = match isOd δ2 i with
  | some es => if es.length < sizeLine then .nx (δ2.set i (some (.od (putD es (.inr k) d)))) else .bad
  | none => .bad := by
 unfold putP
 cases isOd δ2 i <;> rfl
end L2
namespace L2
open PySem PySem.Spec PyProof.Rows
abbrev Rise (l : List Nat) : Prop := l.Pairwise (· < ·)
structure LowB (xs : Array Nat) (j r : Nat) : Prop where
 le : r <= xs.size
 lo : ∀ i x, i < r -> xs[i]? = some x -> x < j
 hi : ∀ i x, r <= i -> xs[i]? = some x -> j <= x
structure TabS (led : Bool) (t : SetTable) : Prop where
 rise : Rise t.place.toList
 dum : t.dummies = #[]
 led : t.led = led
section
variable {prog : Program} {w : World} {A : Around} {E : A8} {s : Shared}
end
section
variable {prog : Program} {w : World} {A : Around} {R : Result -> Shared -> Prop} {I : Addr} {fp wr : List Addr} {G : Array GenState -> Array GenState -> Prop} {n : Nat} {P : Nat -> Value -> Prop} {St : Nat -> Shared -> Prop}
end
section
variable {prog : Program} {w : World} {A : Around} {E : A8} {s : Shared}
end
section
variable {prog : Program} {w : World} {A : Around} {E : A8} {s : Shared}
end
section
variable {prog : Program} {w : World} {A : Around} {E : A8} {s : Shared}
end
section
variable {prog : Program} {w : World} {A : Around} {E : A8} {s : Shared}
end
section
variable {prog : Program} {w : World} {A : Around} {E : A8} {s : Shared}
end
section
variable {prog : Program} {w : World} {A : Around} {E : A8} {s : Shared}
end
variable [Tabs]
section
variable {X : Cx} {pins : A6} {σ : List (Option V)} {H : Hp} {s : Shared}
end
section
variable {X : Cx} {E : XK} {a : Expr} {oa : Opd} {p1 p2 pos1 pos2 : Pos}
end
section
variable {X : Cx} {E : XK} {a : Expr} {oa : Opd} {pos p : Pos}
end
theorem yD {α : Type} (x : α) (xs : List α) : atI (x :: xs) 0 = some x := by
 unfold atI ixN
 simp
section
variable {X : Cx} {E : XK}
end
end L2
namespace L2
open PySem PySem.Spec PyProof.Rows
open Sem (wp)
open AutoSeq1 (wpAny_loadPart')
section
variable {prog : Program} {w : World} {A : Around} {E : A8} {s : Shared}
end
end L2
namespace L2
open PySem PySem.Spec PyProof.Rows
section
variable {prog : Program} {w : World} {A : Around} {E : A8} {s : Shared}
end
section
variable {X : Cx} {ts : List Expr} {tk : Nat} {tp : Pos}
end
variable [Tabs]
section
variable {X : Cx} {E : XK} {l b : Expr} {f g : DE} {p pos kp : Pos}
end
end L2
namespace L2
open PySem PySem.Spec PyProof.Rows
noncomputable def Bx (K : W.Frag) (C : Value) : List (Value × TS) -> TS
 | [] => fun _ _ _ => False
 | x :: r => fun D σ H => (W.exmOne K C x.1 = some true /\ x.2 D σ H) \/ (W.exmOne K C x.1 = some false /\ Bx K C r D σ H)
inductive HS (X : Cx) : List ExceptHandler -> List (Value × TS) -> Prop
 | nil : HS X [] []
 | cons {c : Str} {cp hp : Pos} {b0 : Stmt} {suite : List Stmt} {Cc : Value} {th : TS} {hs : List ExceptHandler} {ts : List (Value × TS)} (hg : Gl X c) (hm : X.mg c = some Cc) (hh : ∀ ea, PSs (AX X ea) (b0 :: suite) th) (hd : (c == ("__debug__" : Str)) = false) (r : HS X hs ts) :
  HS X (.ExceptHandler (some (.Name c cp)) none (b0 :: suite) hp :: hs) ((Cc, th) :: ts)
section
variable {X : Cx} {body : List Stmt} {tb : XK -> TS} {pos : Pos}
theorem flown {pins : A6} {σ : St} {H1 H' : Hp} {s1 s' : Shared} {ea : Addr} {C : Value} (hst : X.stack = X.env :: X.outer) (hfrm : X.env.frame = some X.env.locals) (I1 : Inv X pins σ H1 s1) (F : Flew X.prog X.w X.stack H1 s1 H' ea C s') {hs : List ExceptHandler} {Q : Flow -> Shared -> Prop} {E : A8}
  (h : ∀ h2, Inv X pins σ H' { s' with heap := h2 } -> Flew X.prog X.w X.stack H1 s1 H' ea C { s' with heap := h2 } -> wpAny (model X.prog X.w) X.A (handleBy (.ref ea) X.env hs) Q E { s' with heap := h2 }) :
  wpAny (model X.prog X.w) X.A (noteFrame (.ref ea) X.env) (fun _ s2 => wpAny (model X.prog X.w) X.A (setFlight (.ref ea) none) (fun _ s3 => wpAny (model X.prog X.w) X.A (handleBy (.ref ea) X.env hs) Q E s3) E s2) E s' := by
 obtain ⟨B, t, fl, kB⟩ := F.fly
 rw [hst] at fl
 have hfr : X.A.frames = some (X.env :: X.outer) := by rw [<- hst]; exact I1.ok.frames
 refine wpAny_looks_onW hfr hfrm fl fun h1 hd1 up1 => ?_
 refine wpAny_landsW hd1 fun h2 fl2 up2 => ?_
 have up : s'.heap.UpToSlots h2 := up1.trans up2
 have kB' := kB
 rw [hst] at kB'
 have F' : Flew X.prog X.w (X.env :: X.outer) H1 s1 H' ea C s' := by rw [<- hst]; exact F
 obtain ⟨u2, ok2⟩ := F'.step kB' fl.2.2.1 fl2.1 up
 have I2 : Inv X pins σ H' { s' with heap := h2 } := I1.call' (s' := { s' with heap := h2 }) (ch := []) F.os (by rw [hst]; exact u2) ok2 F.bare fun b z => absurd z (by simp)
 have fl2' : Heap.FlyingW B X.stack ea C (.ref t) h2 := by rw [hst]; exact fl2
 exact h h2 I2 ⟨F.os, F.bare, by rw [hst]; exact u2, ok2, F.frf, B, t, fl2', fun b o e hb hc => by
  have inB : ∀ o', s'.heap.get? b = some o' -> B.get? b = some o := fun o' e' => by
   have e2 := kB b o' e' hb hc
   have e3 : some o = some o' := e.symm.trans (fl2.1 b o' e2)
   rw [Option.some.inj e3]
   exact e2
  rcases hc with ⟨o0, e0⟩ | z
  ·obtain ⟨o1, e1⟩ := F.un.there b o0 e0 (by simp)
   exact inB o1 e1
  ·cases e1 : H' b with
   | none => exact absurd e1 z
   | some u =>
    obtain ⟨o', z'⟩ := (F.hok b u e1).obj
    exact inB o' z'⟩
theorem lM {pins : A6} {σ : St} {H1 H' : Hp} {s1 s' : Shared} {ea : Addr} {C : Value} {D : Ends} (I1 : Inv X pins σ H1 s1) (I2 : Inv X pins σ H' s') (F2 : Flew X.prog X.w X.stack H1 s1 H' ea C s') :
  ∀ {hs : List ExceptHandler} {ts : List (Value × TS)}, HS X hs ts -> Bx X.K C ts D σ H' -> wpAny (model X.prog X.w) X.A (handleBy (.ref ea) X.env hs) (SP X pins D) X.xe s'
 | _, _, .nil, q => q.elim
 | _, _, .cons hg hm hh hd r, q => by
  obtain ⟨B, t, fl, kB⟩ := F2.fly
  refine wpAny_handleBy_cons (codeAny_handlers_test (dq (X := AX X ea) (I2.hand ea) hg hm ?_ hd)) (by intro q; cases q)
  obtain ⟨ob, ho, hcl⟩ := fl.there
  have LT : W.Looks (model X.prog X.w) s'.heap (typeOf (.ref ea)) C := by rw [<- hcl]; exact (W.Looks.ld ho).andThen .now
  rcases q with ⟨hx, q⟩ | ⟨hx, q⟩
  ·have LE := W.exm_one (K := X.K) (M := model X.prog X.w) (show X.K.In s'.heap from I2.kIn) LT hx
   refine LE _ _ _ _ (fun _ _ z => z) ?_
   refine codeAny_handlers_suite (lands_againW fl fun h3 fl3 up3 => ?_)
   obtain ⟨u3, ok3⟩ := F2.step kB fl.2.2.1 fl3.1 up3
   have I3 : Inv X pins σ H' { s' with heap := h3 } := I1.call' (s' := { s' with heap := h3 }) (ch := []) F2.os u3 ok3 F2.bare fun b z => absurd z (by simp)
   refine wpAny_mono (hh ea pins _ σ H' D (I3.hand ea) q) (fun fl s4 q4 => ?_) fun _ _ z => z.elim
   cases fl with
   | next => obtain ⟨σ', H'', J, r⟩ := q4; exact ⟨σ', H'', I1.unhand J, r⟩
   | brk => obtain ⟨σ', H'', J, r⟩ := q4; exact ⟨σ', H'', I1.unhand J, r⟩
   | cont => obtain ⟨σ', H'', J, r⟩ := q4; exact ⟨σ', H'', I1.unhand J, r⟩
   | ret u => obtain ⟨v, σ', H'', J, rv, r⟩ := q4; exact ⟨v, σ', H'', I1.unhand J, rv, r⟩
  ·have LE := W.exm_one (K := X.K) (M := model X.prog X.w) (show X.K.In s'.heap from I2.kIn) LT hx
   exact LE _ _ _ _ (fun _ _ z => z) (lM I1 I2 F2 r q)
theorem t8 {h0 : ExceptHandler} {hs : List ExceptHandler} {ts : List (Value × TS)} (hst : X.stack = X.env :: X.outer) (hfrm : X.env.frame = some X.env.locals) (hb : BH X body tb) (hh : HS X (h0 :: hs) ts) :
  PS X (.Try body (h0 :: hs) [] [] pos) (fun D σ H => tb (fun C _ H' => Bx X.K C ts D σ H') D σ H) := by
 intro pins s σ H D I h
 refine wpAny_Try_except (wpAny_mono (hb _ pins s σ H D I h) (fun fl s1 q => ?_) fun e s' hex => ?_)
 ·cases fl with
  | next => exact wpAny_execs_nil q
  | ret v => exact q
  | brk => exact q
  | cont => exact q
 ·obtain ⟨H1, s1, I1, ea, C, H', rfl, F, q⟩ := hex
  exact flown hst hfrm I1 F fun h2 I2 F2 => lM I1 I2 F2 hh q
end
variable [Tabs]
noncomputable def Bl (y : Str) : List ((Str -> Bool) × DS) -> DS
 | [] => fun _ => .bad
 | x :: r => fun δ => if x.1 y = true then x.2 δ else Bl y r δ
noncomputable def BO (φ : A4 -> Out SD) (ops : List Opd) (cs : List Str) (ds : List ((Str -> Bool) × DS)) : DS := fun δ => match opds ops δ with
 | .ok p => (match φ p.1 with
  | .ok r => .nx (if r.pure = true then p.2.1 else p.2.2)
  | .exc y => if y ∈ cs then Bl y ds p.2.1 else .bad
  | .bad => .bad)
 | _ => .bad
noncomputable def HD (X : Cx) (E : XK) (cs : List Str) (hs : List ExceptHandler) (ds : List ((Str -> Bool) × DS)) : Prop := ∃ ts, HS X hs ts /\ ∀ y ∈ cs, ∀ C, X.mg y = some C -> ∀ (G0 H0 G : Hp) (δ : DEnv) (D : Ends) (σ : St) (H : Hp), Rel X.K X.mg G0 H0 G H σ δ -> PoS X.K X.mg E G0 H0 G D (Bl y ds δ) -> Bx X.K C ts D σ H
section
variable {X : Cx} {E : XK} {x c : Str} {k j : Nat} {φ : A4 -> Out SD} {e : Expr} {es : List Expr} {ops : List Opd} {p pos pos' cp hp tpos : Pos} {cat : Str -> Bool} {h : DS} {Cc : Value} {b0 : Stmt} {suite : List Stmt} {cs : List Str} {h0 : ExceptHandler} {hs : List ExceptHandler} {ds : List ((Str -> Bool) × DS)}
theorem vH : HD X E cs [] [] := ⟨[], .nil, fun y _ C _ G0 H0 G δ D σ H R m => m⟩
theorem fH (hm : X.mg c = some Cc) (hcat : ∀ y ∈ cs, ∀ C, X.mg y = some C -> W.exmOne X.K C Cc = some (cat y)) (hh : ∀ ea, SS (AX X ea) E (b0 :: suite) h) (r : HD X E cs hs ds) (hg : Gl X c := by rfl) (hd : (c == ("__debug__" : Str)) = false := by decide) :
  HD X E cs (.ExceptHandler (some (.Name c cp)) none (b0 :: suite) hp :: hs) ((cat, h) :: ds) := by
 obtain ⟨ts, h1, h2⟩ := r
 refine ⟨(Cc, tS X.K X.mg E h) :: ts, .cons hg hm hh hd h1, fun y hy C hC G0 H0 G δ D σ H R m => ?_⟩
 have ex := hcat y hy C hC
 unfold Bl at m
 dsimp only at m
 split at m
 next z => exact .inl ⟨by rw [ex, z], G0, H0, G, δ, R, m⟩
 next z => exact .inr ⟨by rw [ex]; simpa using z, h2 y hy C hC G0 H0 G δ D σ H R m⟩
theorem t9 (D : DefD X.prog X.w X.K X.mg X.base x k φ) (hr : Room j X.A) (ha : PA X.nox (e :: es) (tOs X.K X.mg E0 ops)) (hst : X.stack = X.env :: X.outer) (hfrm : X.env.frame = some X.env.locals) (hh : HD X E cs (h0 :: hs) ds)
  (hk : k <= j := by decide) (hg : Gl X x := by rfl) (hdb : (x == ("__debug__" : Str)) = false := by decide)
  (he : starEach (e :: es) X.env = (false, eval e X.env) :: starEach es X.env := by rfl) (hpl : (backTo pos (starEach es X.env)).any (·.1) = false := by rfl) (hsw : swapsWith (.Call (.Name x p) (e :: es) [] pos) none pos'.line X.env = pure false := by rfl) :
  S1 X E (.Try [.Expr (.Call (.Name x p) (e :: es) [] pos) pos'] (h0 :: hs) [] [] tpos) (BO φ ops cs ds) := by
 obtain ⟨f, fd, ps, D⟩ := D
 obtain ⟨ts, h1, h2⟩ := hh
 refine (t8 hst hfrm (lx D hr ha hg hk hdb he hpl hsw) h1).weak fun D' σ H ⟨G0, H0, G, δ, R, m⟩ => ?_
 refine fw R ?_
 unfold BO at m
 cases e1 : opds ops δ with
 | exc y => rw [e1] at m; exact m.elim
 | bad => rw [e1] at m; exact m
 | ok q =>
  rw [e1] at m
  dsimp only at m
  intro vs H1 G1 G2 l R1 s1 R2 L hd
  rw [List.append_nil]
  refine ⟨G2, q.1, ⟨R2.g.gh, R2.noT, R2.tabs⟩, hd, ?_⟩
  cases e2 : φ q.1 with
  | ok r =>
   rw [e2] at m
   intro v H2 G3 gr vn
   dsimp only at m
   by_cases hp : r.pure = true
   ·rw [if_pos hp] at m
    obtain ⟨G4, gr4, vn4⟩ := L.back R1 R2.g.gh gr vn hp
    exact m σ H2 G4 (R1.grow gr4) (s1.trans gr4.gg)
   ·rw [if_neg hp] at m
    exact m σ H2 G3 (R2.grow gr) ((s1.trans L.ext).trans gr.gg)
  | exc y =>
   rw [e2] at m
   dsimp only at m
   intro H2 C s hC
   split at m
   next hy => exact h2 y hy C hC G0 H0 G1 q.2.1 D' σ H2 (R1.onward s) (m.mono s1)
   next => exact m.elim
  | bad => rw [e2] at m; exact m
end
end L2
namespace L2
open PySem PySem.Spec PyProof.Rows
section
variable {X : Cx} {es : List Expr} {t : TJ} {pos : Pos}
theorem qL {e : Expr} {x : Str} (he : PE X e (tC (.str x))) (hx : x.length <= sizeLine) (hr : PJ X es t) : PJ X (.FormattedValue e (-1) none pos :: es) (fun σ H out Q => (out ++ x).length <= sizeLine /\ t σ H (out ++ x) Q) := fun pins s σ H out Q I h => by
 show wpAny _ _ (joinParts out (eval (.FormattedValue e (-1) none pos) X.env :: evalEach es X.env)) _ _ _
 refine joinParts_cons (FormattedValue_plain (thn (he pins s σ H (fun v H' => v = .str x /\ H' = H) I ⟨rfl, rfl⟩) fun v s1 ⟨y, H1, I1, r1, e1, e2⟩ => ?_))
 subst e1 e2
 obtain ⟨tk, rfl⟩ := r1
 exact formatField_str (fun t' k => ⟨h.1, hr pins _ σ _ _ Q (I1.tok _) h.2⟩) hx
end
variable [Tabs]
theorem nX {X : Cx} {x c : Str} {pos : Pos} (h : ∃ t, X.mg x = some (.str c t)) (hg : Gl X x := by rfl) (hdb : (x == ("__debug__" : Str)) = false := by decide) : PE X (.Name x pos) (tC (.str c)) := by
 obtain ⟨t, h⟩ := h
 intro pins s σ H Q I q
 exact dq I hg h ⟨.str c, H, I, ⟨_, rfl⟩, q⟩ hdb
end L2
namespace L2
open PySem PySem.Spec PyProof.Rows
variable [Tabs]
noncomputable def By (C : Addr) (m : Str) : Sp := fun vs H Q _ => ∃ x dx, vs = [.ref x] /\ H x = some (.ins C dx []) /\ ∀ H' fs, (∀ b o, b ≠ x -> H b = some o -> H' b = some o) -> H' x = some (.ins C dx fs) -> fs.lookup m = none -> Q .non H'
theorem mR {C : Addr} {m : Str} (vs : List V) (H : Hp) (Q : VK) (E : XK) (h : By C m vs H Q E) : vs.length = 1 := by
 obtain ⟨_, _, rfl, _⟩ := h
 rfl
noncomputable def Cq (K : W.Frag) (a b c d : Str) : TS :=
 tSeq (sFld K (tVar 0) (tLst (AU (tC .non) (AU (tC .non) tNil))) a) (tSeq (sFld K (tVar 0) Bt b) (tSeq (sFld K (tVar 0) Bt c) (tSeq (sFld K (tVar 0) Bt d) C7)))
theorem gN {K : W.Frag} {C x dx : Addr} {H : Hp} {fs : List (Str × V)} {f : Str} {o : HO} {D : Ends} {σ : St} {p : Addr} (hp : H p = none) (hx : H x = some (.ins C dx fs)) (hσ : σ[0]? = some (some (.ref x))) (c : Cls K C) (n : NoAttr K C f) (l : fs.length < 1000)
  (h : ∀ H', (∀ b u, b ≠ x -> H b = some u -> H' b = some u) -> H' x = some (.ins C dx (putF f (.ref p) fs)) -> D.nx σ H') :
  tVar 0 σ (upd H p o) fun y H2 => ∃ a C' dx' fs', y = .ref a /\ H2 a = some (.ins C' dx' fs') /\ Cls K C' /\ NoAttr K C' f /\ fs'.length < 1000 /\ D.nx σ (upd H2 a (.ins C' dx' (putF f (.ref p) fs'))) := by
 have nxp : x ≠ p := aD hx hp
 refine ⟨.ref x, hσ, x, C, dx, fs, rfl, by rw [av nxp]; exact hx, c, n, l, h _ (fun b u hb e => ?_) aK⟩
 rw [av hb, av (aD e hp)]
 exact e
theorem mS {K : W.Frag} {C : Addr} {m a b c d : Str} {E : XK} {Q : VK} {H : Hp} {vs : List V} {N : List Str} (hN : N.length = 1) (cl : Cls K C) (na : NoAttr K C a) (nb : NoAttr K C b) (nc : NoAttr K C c) (nd : NoAttr K C d)
  (hm : ∀ p q r s : V, (putF d s (putF c r (putF b q (putF a p [])))).lookup m = none) (hl : ∀ p q r : V, (putF a p []).length < 1000 /\ (putF b q (putF a p [])).length < 1000 /\ (putF c r (putF b q (putF a p []))).length < 1000)
  (h : By C m vs H Q E) : Cq K a b c d { nx := fun _ H' => Q .non H', rt := Q } (start N vs) H := by
 obtain ⟨x, dx, rfl, hx, q⟩ := h
 have eσ : start N [.ref x] = [some (.ref x)] := by
  unfold start; rw [hN]; rfl
 rw [eσ]
 refine ⟨by show 2 <= sizeLine; decide, fun p hp => ?_⟩
 refine gN hp hx rfl cl na (by show 0 < 1000; decide) fun H1 k1 x1 => ?_
 intro p2 hp2
 refine gN hp2 x1 rfl cl nb (hl _ (.non) (.non)).1 fun H2 k2 x2 => ?_
 intro p3 hp3
 refine gN hp3 x2 rfl cl nc (hl _ _ (.non)).2.1 fun H3 k3 x3 => ?_
 intro p4 hp4
 refine gN hp4 x3 rfl cl nd (hl _ _ _).2.2 fun H4 k4 x4 => ?_
 exact q H4 _ (fun b o hb e => k4 b o hb (k3 b o hb (k2 b o hb (k1 b o hb e)))) x4 (hm _ _ _ _)
noncomputable def refD (φ : A4 -> Out SD) : A4 -> Out SD := fun ds => if ds.length = 2 then (match φ ds with
 | .exc y => .exc y
 | _ => .bad) else .bad
def Cr : TS := fun _ _ _ => False
theorem qM {X : Cx} {sts : List Stmt} : PSs X sts Cr := fun _ _ _ _ _ _ h => h.elim
def BP : Sp := fun _ _ _ _ => False
noncomputable def C4 (K : W.Frag) (mg : A5) (φ : A4 -> Out SD) (C : Addr) (m : Str) (E : XK) : TS :=
 tSeq (tAsg (Cb C (By C m) [] E tNil) (AC 2)) (tSeq (tAsg (Ca C m BP [] E (tVar 2) (AU (tCB (BI K) (AU (BF (spD K mg φ) [] E (AU (tVar 0) (AU (tVar 1) tNil))) tNil)) tNil)) (AC 3)) Cr)
theorem lN {K : W.Frag} {mg : A5} {φ : A4 -> Out SD} {C : Addr} {m : Str} {E : XK} {Q : VK} {H : Hp} {vs : List V} {N : List Str} {D : Ends} (hN : N.length = 4) (h : spD K mg (refD φ) vs H Q E) : C4 K mg φ C m E D (start N vs) H := by
 obtain ⟨G, ds, ⟨hg, hnt, htb⟩, hd, q⟩ := h
 unfold refD at q
 split at q
 next hl =>
  obtain ⟨v0, v1, rfl⟩ : ∃ v0 v1, vs = [v0, v1] := by
   have := hd.len
   rw [hl] at this
   match vs, this with
   | [a, b], _ => exact ⟨a, b, rfl⟩
  have eσ : start N [v0, v1] = [some v0, some v1, none, none] := by
   unfold start; rw [hN]; rfl
  rw [eσ]
  split at q
  next y ey =>
   intro x dx hx hdx hne
   refine ⟨x, dx, rfl, aK, fun H' fs kp hx' hlk => ⟨rfl, ?_⟩⟩
   have sH : Same H H' := fun b o e => kp b o (aD e hx) (by rw [av (aD e hx), av (aD e hdx)]; exact e)
   refine ⟨.ref x, rfl, x, dx, fs, rfl, hx', hlk, v0, rfl, v1, rfl, ?_⟩
   refine ⟨G, ds, ⟨hg.trans sH, hnt, (Ax.of_same sH).ok htb⟩, hd, ?_⟩
   rw [ey]
   exact fun H2 C2 s2 hC => q H2 C2 ((Ax.of_same sH).trans s2) hC
  next => exact q.elim
 next => exact q.elim
theorem tj {K : W.Frag} {mg : A5} {φ : A4 -> Out SD} (vs : List V) (H : Hp) (Q : VK) (E : XK) (h : spD K mg (refD φ) vs H Q E) : vs.length = 2 := by
 obtain ⟨G, ds, _, hd, m⟩ := h
 rw [hd.len]
 unfold refD at m
 split at m
 next h => exact h
 next => exact m.elim
noncomputable section
noncomputable def aL : List (Key × Int) := [(.inr "thing", 2), (.inr "not", 2), (.inr "and", 3), (.inr "or", 3)]
noncomputable def Ag : List Str := ["NoCase", "NoKinds", "NoSaying", "NoSayings", "NoSentence", "NoThing"]
noncomputable def cH : Str -> Bool := fun y => [("NoCase" : Str)].contains y
noncomputable def cj : Str -> Bool := fun y => [("NoKinds" : Str)].contains y
noncomputable def bM : Str -> Bool := fun y => [("NoSaying" : Str)].contains y
noncomputable def bE : Str -> Bool := fun y => [("NoSayings" : Str)].contains y
noncomputable def bo : Str -> Bool := fun y => [("NoSentence" : Str)].contains y
noncomputable def cm : Str -> Bool := fun y => [("NoThing" : Str)].contains y
noncomputable def cA : Str -> Bool := fun y => [("NoCase" : Str), ("NoKinds" : Str), ("NoSaying" : Str), ("NoSayings" : Str), ("NoSentence" : Str), ("NoThing" : Str)].contains y
noncomputable def bV : Str -> Bool := fun y => [("NoCase" : Str), ("NoKinds" : Str), ("NoSaying" : Str), ("NoSayings" : Str), ("NoSentence" : Str), ("NoThing" : Str)].contains y
noncomputable def gd : DS := sRet (eAnd (eOp (dIsi "int") [.nm 0]) (eNot (eOp (dIsi "bool") [.nm 0])))
def bx : A4 -> Out SD := runB 1 1 gd
noncomputable def cW : DS := sRet (eAnd (Ab bx [.nm 0]) (eAnd (eOp dGe [.nm 0, .ex (eC (.int 1))]) (eOp dLe [.nm 0, .nm 1])))
def aC : A4 -> Out SD := runB 2 2 cW
noncomputable def bN : DS := sSeq (sIf (Ap (tstO (.ex (Ab bx [.nm 3])))) (sRet (eC (.bool false))) (Af)) (sSeq (sIf (B7 (tstV (eOp dLe [.ex (eOp dAbs [.nm 3]), .nm 2])) (tstV (eOp dGt [.ex (eOp dAbs [.nm 3]), .nm 1]))) (sRet (eC (.bool false))) (Af)) (sAsg 2 (eOp dAbs [.nm 3])))
noncomputable def fy : DS := sSeq (sIf (Ap (tstO (.ex (eOp (dIsi "tuple") [.nm 0])))) (sRet (eC (.bool false))) (Af)) (sSeq (sAsg 2 (eC (.int 0))) (sSeq (sFor (BL (eV 0)) (kN 3) (bN)) (sRet (eC (.bool true)))))
def bt : A4 -> Out SD := runB 4 2 fy
noncomputable def bW : DE := eAnd (Ab bx [.nm 0]) (eOp dIn2 [.nm 0, .ex (eOp dTup [.ex (eC (.int 0)), .ex (eC (.int 1))])])
noncomputable def fI : DS := sSeq (sIf (B7 (Ap (tstO (.ex (eOp (dIsi "list") [.nm 0])))) (tstV (eOp dNe [.ex (eOp dLen [.nm 0]), .nm 1]))) (sRet (eC (.bool false))) (Af)) (sRet (eOp dAll [.ex (AV [] (Br (.nm 0)) (Av) (bW))]))
def aX : A4 -> Out SD := runB 2 2 fI
noncomputable def dU : DS := sIf (Ap (tstO (.ex (Ab bt [.nm 3, .nm 1])))) (Aw "NoSayings" (BA 2)) (Af)
noncomputable def i6 : DS := sSeq (sIf (Ap (tstO (.ex (Ab aC [.nm 1, .ex (eC (.int 16))])))) (Aw "NoSayings" AW) (Af)) (sSeq (sIf (Ap (tstO (.ex (eOp (dIsi "list") [.nm 0])))) (Aw "NoSayings" AW) (Af)) (sSeq (sIf (tstV (eOp dGt [.ex (eOp dLen [.nm 0]), .ex (eC (.int 24))])) (Aw "NoSayings" AW) (Af)) (sSeq (sFor (Bu (eV 0)) (kTup [2, 3]) (dU)) (sRet (eOp Be [.nm 0])))))
def ar : A4 -> Out SD := runB 4 2 i6
noncomputable def kH : DS := sSeq (sAsg 3 (Ab ar [.nm 0, .nm 1])) (sSeq (sIf (Ap (tstO (.ex (Ab aX [.nm 2, .nm 1])))) (Aw "NoCase" AW) (Af)) (sBad))
def ei : A4 -> Out SD := runB 4 3 kH
noncomputable def bz : DE := eAnd (eOp (dIsi "str") [.nm 0]) (eOp dIn2 [.nm 0, .ex (eOp dTup [.ex (eC (.str "some")), .ex (eC (.str "all"))])])
noncomputable def dX : DS := sSeq (sIf (B7 (Ap (tstO (.ex (eOp (dIsi "list") [.nm 0])))) (tstV (eOp dNe [.ex (eOp dLen [.nm 0]), .nm 1]))) (sRet (eC (.bool false))) (Af)) (sRet (eOp dAll [.ex (AV [] (Br (.nm 0)) (Av) (bz))]))
def bu : A4 -> Out SD := runB 2 2 dX
noncomputable def gO : DS := sSeq (sAsg 3 (Ab ar [.nm 0, .nm 1])) (sSeq (sIf (Ap (tstO (.ex (Ab bu [.nm 2, .nm 1])))) (Aw "NoKinds" AW) (Af)) (sBad))
def bX : A4 -> Out SD := runB 4 3 gO
def kI : DS := sSeq (sAsg 2 (Ab ar [.nm 0, .nm 1])) (sBad)
def dY : A4 -> Out SD := runB 6 2 kI
def i8 : DS := sSeq (sAsg 2 (Ab dY [.nm 0, .nm 1])) (sBad)
def dw : A4 -> Out SD := runB 6 2 i8
def gf : A4 -> Out SD := fun _ => .bad
noncomputable def dm : DS := sSeq (sAsg 2 (Ab gf [.ex (Ab ar [.nm 0, .nm 1]), .ex (eOp dMul [.ex (eOp dLst [.ex (eC .none)]), .nm 1])])) (sBad)
def bp : A4 -> Out SD := runB 3 2 dm
noncomputable def fJ : DS := sSeq (sAsg 3 (Ab ar [.nm 0, .nm 1])) (sSeq (sIf (Ap (tstO (.ex (Ab bt [.nm 2, .nm 1])))) (Aw "NoSaying" AW) (Af)) (sBad))
def bq : A4 -> Out SD := runB 7 3 fJ
def dO : A4 -> Out SD := refD ar
noncomputable def iJ : DS := sSeq (sAsg 3 (Ab ar [.nm 0, .nm 2])) (sSeq (sAsg 4 (Ab ar [.nm 1, .nm 2])) (sBad))
def dt : A4 -> Out SD := runB 6 3 iJ
def et : DS := sSeq (sAsg 2 (Ab ar [.nm 0, .nm 1])) (sBad)
def bO : A4 -> Out SD := runB 6 2 et
noncomputable def fK : DS := sSeq (sAsg 3 (Ab ar [.nm 0, .nm 2])) (sSeq (sAsg 4 (Ab ar [.nm 1, .nm 2])) (sBad))
def cn : A4 -> Out SD := runB 7 3 fK
noncomputable def dZ : DS := sSeq (sAsg 3 (Ab ar [.nm 0, .nm 1])) (sSeq (sIf (Ap (tstO (.ex (Ab aC [.nm 2, .nm 1])))) (Aw "NoThing" (BA 1)) (Af)) (sBad))
def aY : A4 -> Out SD := runB 8 3 dZ
def eZ : DS := sSeq (sAsg 2 (Ab ar [.nm 0, .nm 1])) (sBad)
def cq : A4 -> Out SD := runB 5 2 eZ
noncomputable def aZ : DS := sSeq (sIf (B7 (Ap (tstO (.ex (eOp (dIsi "tuple") [.nm 0])))) (B7 (tstV (eOp dEq [.ex (eOp dLen [.nm 0]), .ex (eC (.int 0))])) (Ap (tstO (.ex (eOp (dIsi "str") [.ex (eOp dIdx [.nm 0, .ex (eC (.int 0))])])))))) (sRet (eC (.bool false))) (Af)) (sSeq (sIf (tstV (eOp dNe [.ex (eOp dLen [.nm 0]), .ex (eOp (BB aL) [.ex (eOp dIdx [.nm 0, .ex (eC (.int 0))])])])) (sRet (eC (.bool false))) (Af)) (sRet (eOr (eOp dNe [.ex (eOp dIdx [.nm 0, .ex (eC (.int 0))]), .ex (eC (.str "thing"))]) (Ab aC [.ex (eOp dIdx [.nm 0, .ex (eC (.int 1))]), .nm 1]))))
def ay : A4 -> Out SD := runB 2 2 aZ
def aE : DT := tstO (.nm 3)
noncomputable def au : DS := sSeq (sAsg 4 (ePop 3)) (sSeq (sIf (Ap (tstO (.ex (Ab ay [.nm 4, .nm 1])))) (Aw "NoSentence" AW) (Af)) (sSeq (sInc 2 (.ex (eC (.int 1)))) (sSeq (sIf (tstV (eOp dGt [.nm 2, .ex (eC (.int 12))])) (Aw "NoSentence" AW) (Af)) (sIf (tstV (eOp dNe [.ex (eOp dIdx [.nm 4, .ex (eC (.int 0))]), .ex (eC (.str "thing"))])) (sMut AR 3 (.ex (eOp dSlL [.nm 4, .ex (eC (.int 1))]))) (Af)))))
noncomputable def bF : DS := sSeq (sIf (Ap (tstO (.ex (Ab aC [.nm 1, .ex (eC (.int 5))])))) (Aw "NoSentence" AW) (Af)) (sSeq (sAsg 2 (eC (.int 0))) (sSeq (sAsg 3 (eOp dLst [.nm 0])) (Bb (aE) (au))))
def aj : A4 -> Out SD := runB 5 2 bF
noncomputable def fL : DS := sSeq (Bq (Ab aj [.nm 0, .nm 1])) (sSeq (sIf (Ap (tstO (.ex (Ab aX [.nm 2, .nm 1])))) (Aw "NoCase" AW) (Af)) (sBad))
def bP : A4 -> Out SD := runB 3 3 fL
def ff : DS := sSeq (Bq (Ab aj [.nm 0, .nm 1])) (sBad)
def bI : A4 -> Out SD := runB 7 2 ff
noncomputable def cB : DS := sSeq (sIf (tstV (eOp dLt [.nm 1, .ex (eOp dLen [.nm 0])])) (sRet (eOp dIdx [.nm 0, .nm 1])) (Af)) (sSeq (sIf (tstV (eOp dEq [.nm 0, .ex (eOp dLst [])])) (sRet (eC (.int 0))) (Af)) (sRet (eOp dAdd [.ex (eOp dMul [.ex (eOp dIdx [.nm 0, .ex (eOp dMod [.nm 1, .ex (eOp dLen [.nm 0])])]), .ex (eC (.int 31))]), .nm 1])))
def ba : A4 -> Out SD := runB 2 2 cB
noncomputable def fz : DS := sSeq (sAsg 3 (eOp dMod [.ex (eOp dMul [.ex (eOp dAdd [.ex (eOp dAdd [.ex (Ab ba [.nm 0, .nm 1]), .ex (eOp dMul [.ex (eC (.int 7919)), .nm 1])]), .ex (eC (.int 1))]), .ex (eC (.int 48271))]), .ex (eC (.int 2147483647))])) (sRet (eOp dMod [.ex (eOp dMod [.ex (eOp dAdd [.ex (eOp dAdd [.ex (eOp dMul [.nm 3, .nm 3]), .ex (eOp dMul [.ex (eC (.int 7)), .nm 3])]), .nm 1]), .ex (eC (.int 2147483629))]), .nm 2]))
def aB : A4 -> Out SD := runB 4 3 fz
noncomputable def dP : DS := sSeq (sAsg 5 (eOp dAdd [.ex (eC (.int 1)), .ex (Ab aB [.nm 0, .ex (eOp dAdd [.ex (eOp dAdd [.nm 1, .ex (eC (.int 1))]), .nm 4]), .nm 2])])) (sPut 3 (.ex (eOp dSub [.ex (eC (.int 1)), .ex (eOp dMul [.ex (eC (.int 2)), .ex (eOp B1 [.ex (Ab aB [.nm 0, .ex (eOp dAdd [.ex (eOp dAdd [.nm 1, .ex (eC (.int 1))]), .nm 4]), .ex (eOp dMul [.ex (eC (.int 2)), .nm 2])]), .nm 2])])])) (.nm 5))
noncomputable def cT : DE := eOp dMul [.nm 0, .ex (eOp dIdx [.nm 1, .nm 0])]
noncomputable def fg : DS := sSeq (sAsg 3 (BC)) (sSeq (sFor (itR1 [.ex (eOp dIdx [.ex (eOp dLst [.ex (eC (.int 1)), .ex (eC (.int 2)), .ex (eC (.int 2)), .ex (eC (.int 3)), .ex (eC (.int 3)), .ex (eC (.int 3)), .ex (eC (.int 0))]), .ex (Ab aB [.nm 0, .nm 1, .ex (eC (.int 7))])])]) (kN 4) (dP)) (sRet (eOp AI [.ex (AV [3] (Br (.ex (eOp Bi [.ex (eOp Be [.nm 3])]))) (Av) (cT))])))
def cu : A4 -> Out SD := runB 6 3 fg
noncomputable def cC : DE := Ab cu [.nm 3, .ex (eOp dAdd [.ex (eOp dAdd [.nm 1, .ex (eC (.int 1))]), .ex (eOp dMul [.ex (eC (.int 4)), .nm 0])]), .nm 2]
noncomputable def eu : DS := sRet (AV [1, 2, 0] (icR1 (.ex (Ab aB [.nm 0, .nm 1, .ex (eOp dAdd [.nm 3, .ex (eC (.int 1))])]))) (Av) (cC))
def bb : A4 -> Out SD := runB 4 4 eu
noncomputable def cE : DS := sSeq (sIf (tstV (eOp dEq [.nm 0, .ex (eC (.int 0))])) (sRet (Ab dY [.nm 1, .nm 2])) (Af)) (sSeq (sIf (tstV (eOp dEq [.nm 0, .ex (eC (.int 1))])) (sRet (Ab dw [.nm 1, .nm 2])) (Af)) (sSeq (sIf (tstV (eOp dEq [.nm 0, .ex (eC (.int 2))])) (sRet (Ab bp [.nm 1, .nm 2])) (Af)) (sSeq (sIf (tstV (eOp dEq [.nm 0, .ex (eC (.int 3))])) (sRet (Ab bq [.nm 1, .nm 2, .ex (eC .none)])) (Af)) (sSeq (sIf (tstV (eOp dEq [.nm 0, .ex (eC (.int 4))])) (sRet (Ab dO [.nm 1, .nm 2])) (Af)) (sSeq (sIf (tstV (eOp dEq [.nm 0, .ex (eC (.int 5))])) (sRet (Ab dt [.nm 1, .ex (eOp dLst []), .nm 2])) (Af)) (sSeq (sIf (tstV (eOp dEq [.nm 0, .ex (eC (.int 6))])) (sRet (Ab dt [.ex (eOp dLst []), .nm 1, .nm 2])) (Af)) (sSeq (sIf (tstV (eOp dEq [.nm 0, .ex (eC (.int 7))])) (sRet (Ab bO [.nm 1, .nm 2])) (Af)) (sSeq (sIf (tstV (eOp dEq [.nm 0, .ex (eC (.int 8))])) (sRet (Ab cn [.nm 1, .ex (eOp dLst []), .nm 2])) (Af)) (sSeq (sIf (tstV (eOp dEq [.nm 0, .ex (eC (.int 9))])) (sRet (Ab cn [.ex (eOp dLst []), .nm 1, .nm 2])) (Af)) (sSeq (sIf (tstV (eOp dEq [.nm 0, .ex (eC (.int 10))])) (sRet (Ab aY [.nm 1, .nm 2, .ex (eC (.int 0))])) (Af)) (sSeq (sIf (tstV (eOp dEq [.nm 0, .ex (eC (.int 11))])) (sRet (Ab cq [.nm 1, .nm 2])) (Af)) (sSeq (sIf (tstV (eOp dEq [.nm 0, .ex (eC (.int 12))])) (sRet (Ab bX [.nm 1, .nm 2, .ex (eC .none)])) (Af)) (sRet (Ab ei [.nm 1, .nm 2, .ex (eC .none)]))))))))))))))
def aT : A4 -> Out SD := runB 3 3 cE
noncomputable def cX : DS := sSeq (sIf (tstV (eOp dEq [.nm 0, .ex (eC (.int 1))])) (sRet (Ab ei [.ex (eOp dLst []), .nm 2, .nm 1])) (Af)) (sSeq (sIf (tstV (eOp dEq [.nm 0, .ex (eC (.int 2))])) (sRet (Ab bP [.ex (eOp dTup [.ex (eC (.str "thing")), .ex (eC (.int 1))]), .nm 2, .nm 1])) (Af)) (sSeq (sIf (tstV (eOp dEq [.nm 0, .ex (eC (.int 3))])) (sRet (Ab bq [.ex (eOp dLst []), .nm 2, .nm 1])) (Af)) (sSeq (sIf (tstV (eOp dEq [.nm 0, .ex (eC (.int 4))])) (sRet (Ab aY [.ex (eOp dLst []), .nm 2, .nm 1])) (Af)) (sSeq (sIf (tstV (eOp dEq [.nm 0, .ex (eC (.int 5))])) (sRet (Ab bX [.ex (eOp dLst []), .nm 2, .nm 1])) (Af)) (sSeq (sIf (tstV (eOp dEq [.nm 0, .ex (eC (.int 6))])) (sRet (Ab bP [.nm 1, .nm 2, .ex (eC .none)])) (Af)) (sSeq (sIf (tstV (eOp dEq [.nm 0, .ex (eC (.int 7))])) (sRet (Ab bI [.nm 1, .nm 2])) (Af)) (sSeq (sIf (tstV (eOp dEq [.nm 0, .ex (eC (.int 8))])) (sRet (Ab bI [.ex (eOp dTup [.ex (eC (.str "thing")), .ex (eC (.int 1))]), .nm 1])) (Af)) (sRet (Ab bP [.ex (eOp dTup [.ex (eC (.str "thing")), .ex (eC (.int 1))]), .nm 1, .nm 3])))))))))
def b3 : A4 -> Out SD := runB 4 4 cX
noncomputable def ef : DS := sSeq (sIf (tstV (eOp dEq [.nm 0, .ex (eC (.int 0))])) (sRet (Ab aT [.nm 1, .nm 2, .nm 3])) (Af)) (sRet (Ab b3 [.nm 0, .nm 2, .nm 3, .nm 4]))
def aU : A4 -> Out SD := runB 5 5 ef
noncomputable def gi : DS := sSeq (sAsg 5 (eOp dNeg [.ex (eC (.int 1))])) (sSeq (BO aU [.nm 0, .nm 1, .nm 2, .nm 3, .nm 4] Ag [(bE, sAsg 5 (eC (.int 0))), (cH, sAsg 5 (eC (.int 1))), (bM, sAsg 5 (eC (.int 2))), (cm, sAsg 5 (eC (.int 3))), (cj, sAsg 5 (eC (.int 4))), (bo, sAsg 5 (eC (.int 5)))]) (BK 5))
def cF : A4 -> Out SD := runB 6 5 gi
noncomputable def ez : DS := sSeq (Bw aU [.nm 0, .nm 1, .nm 2, .nm 3, .nm 4] cA 5 (sRet (eIsX 5 bV))) (sRet (eC (.bool false)))
def bA : A4 -> Out SD := runB 6 5 ez
noncomputable def bY : DS := sAsg 4 (eOp dTup [.ex (eC (.str "not")), .nm 4])
noncomputable def bZ : DS := sAsg 6 (eOp dTup [.ex (eC (.str "and")), .nm 6, .nm 2])
noncomputable def cG : DS := sSeq (sAsg 2 (eOp dTup [.ex (eC (.str "thing")), .ex (eC (.int 1))])) (sSeq (sAsg 3 (eOp dLst [.ex (eC .none), .ex (eC (.str "thing")), .ex (eOp dTup [.ex (eC (.str "thing")), .ex (eC (.int 0))]), .ex (eOp dTup [.ex (eC (.str "thing")), .ex (eOp dAdd [.nm 0, .ex (eC (.int 1))])]), .ex (eOp dTup [.ex (eC (.str "thing")), .ex (eC (.bool true))]), .ex (eOp dTup [.ex (eC (.str "thing")), .ex (eC (.str "1"))]), .ex (eOp dTup [.ex (eC (.str "thing"))])])) (sSeq (sMut AR 3 (.ex (eOp dLst [.ex (eOp dTup [.ex (eC (.str "thing")), .ex (eC (.int 1)), .ex (eC (.int 1))]), .ex (eOp dTup [.ex (eC (.str "not")), .nm 2, .nm 2]), .ex (eOp dTup [.ex (eC (.str "not"))]), .ex (eOp dTup [.ex (eC (.str "and")), .nm 2]), .ex (eOp dTup [.ex (eC (.str "or")), .nm 2, .nm 2, .nm 2]), .ex (eOp dTup [.ex (eC (.str "also")), .nm 2, .nm 2])]))) (sSeq (sMut AR 3 (.ex (eOp dLst [.ex (eOp dLst [.ex (eC (.str "thing")), .ex (eC (.int 1))]), .ex (eOp dTup [.ex (eC (.str "and")), .nm 2, .ex (eC .none)]), .ex (eOp dTup [.ex (eC (.str "or")), .ex (eOp dTup [.ex (eC (.str "thing")), .ex (eC (.int 0))]), .nm 2]), .ex (eOp dTup [.ex (eC (.int 1)), .nm 2]), .ex (eOp dTup [])]))) (sSeq (sAsg 4 (eV 2)) (sSeq (sFor (itR1 [.ex (eC (.int 12))]) (kN 5) (bY)) (sSeq (sAsg 6 (eV 2)) (sSeq (sFor (itR1 [.ex (eC (.int 6))]) (kN 5) (bZ)) (sSeq (sMut AR 3 (.ex (eOp dLst [.nm 4, .nm 6]))) (sRet (eOp dIdx [.nm 3, .ex (eOp dMod [.nm 1, .ex (eC (.int 20))])]))))))))))
def aO : A4 -> Out SD := runB 7 2 cG
noncomputable def cI : DS := sSeq (sIf (tstV (eOp dLt [.nm 0, .ex (eC (.int 3))])) (sSeq (sAsg 4 (eOp dLst [.ex (eOp AI [.nm 2]), .ex (eOp dAdd [.nm 2, .ex (eOp dLst [.ex (eC (.int 0))])]), .ex (eOp dSlL [.nm 2, .ex (eC (.int 1))]), .ex (eOp dAdd [.ex (eOp dSlH [.nm 2, .ex (eOp dNeg [.ex (eC (.int 1))])]), .ex (eOp dLst [.ex (eC (.int 2))])]), .ex (eOp dAdd [.ex (eOp dLst [.ex (eC (.bool true))]), .ex (eOp dSlL [.nm 2, .ex (eC (.int 1))])]), .ex (eOp dAdd [.ex (eOp dLst [.ex (eC (.str "0"))]), .ex (eOp dSlL [.nm 2, .ex (eC (.int 1))])]), .ex (eC .none)])) (sRet (eOp dIdx [.ex (eOp dAdd [.nm 4, .ex (eOp dLst [.ex (eOp dAdd [.ex (eOp dSlH [.nm 2, .ex (eOp dNeg [.ex (eC (.int 1))])]), .ex (eOp dLst [.ex (eOp dNeg [.ex (eC (.int 1))])])])])]), .ex (eOp dMod [.nm 3, .ex (eC (.int 8))])]))) (Af)) (sSeq (sIf (tstV (eOp dEq [.nm 0, .ex (eC (.int 3))])) (sRet (eOp dIdx [.ex (eOp dLst [.ex (eOp dLst [.ex (eC (.int 1))]), .ex (eOp dTup [.ex (eC (.int 0))]), .ex (eOp dTup [.ex (eOp dAdd [.nm 1, .ex (eC (.int 1))])]), .ex (eOp dTup [.ex (eC (.int 1)), .ex (eC (.int 1))]), .ex (eOp dTup [.ex (eC (.int 1)), .ex (eOp dNeg [.ex (eC (.int 1))])]), .ex (eOp dTup [.ex (eC (.bool true))]), .ex (eOp dTup [.ex (eC (.str "1"))]), .ex (eC .none), .ex (eOp dTup [.ex (eC (.int 2)), .ex (eC (.int 1))]), .ex (eC (.int 1))]), .ex (eOp dMod [.nm 3, .ex (eC (.int 10))])])) (Af)) (sSeq (sIf (tstV (eOp dEq [.nm 0, .ex (eC (.int 4))])) (sRet (eOp dIdx [.ex (eOp dLst [.ex (eC (.int 0)), .ex (eOp dAdd [.nm 1, .ex (eC (.int 1))]), .ex (eOp dNeg [.ex (eC (.int 1))]), .ex (eC (.bool true)), .ex (eC (.str "1")), .ex (eC .none)]), .ex (eOp dMod [.nm 3, .ex (eC (.int 6))])])) (Af)) (sSeq (sIf (tstV (eOp dEq [.nm 0, .ex (eC (.int 5))])) (sSeq (sAsg 5 (eOp dMul [.ex (eOp dLst [.ex (eC (.str "some"))]), .nm 1])) (sSeq (sAsg 4 (eOp dLst [.ex (eOp AI [.nm 5]), .ex (eOp dAdd [.nm 5, .ex (eOp dLst [.ex (eC (.str "all"))])]), .ex (eOp dSlL [.nm 5, .ex (eC (.int 1))]), .ex (eOp dAdd [.ex (eOp dLst [.ex (eC (.str "none"))]), .ex (eOp dSlL [.nm 5, .ex (eC (.int 1))])]), .ex (eOp dAdd [.ex (eOp dLst [.ex (eC .none)]), .ex (eOp dSlL [.nm 5, .ex (eC (.int 1))])]), .ex (eC .none), .ex (eC (.str "some"))])) (sRet (eOp dIdx [.ex (eOp dAdd [.nm 4, .ex (eOp dLst [.ex (eOp dAdd [.ex (eOp dSlL [.nm 5, .ex (eC (.int 1))]), .ex (eOp dLst [.ex (eC (.int 0))])]), .ex (eOp dAdd [.ex (eOp dSlL [.nm 5, .ex (eC (.int 1))]), .ex (eOp dLst [.ex (eC (.str "so"))])])])]), .ex (eOp dMod [.nm 3, .ex (eC (.int 9))])])))) (Af)) (sSeq (sIf (tstV (eOp dLt [.nm 0, .ex (eC (.int 8))])) (sRet (Ab aO [.nm 1, .nm 3])) (Af)) (sRet (eOp dIdx [.ex (eOp dLst [.ex (eC (.int 0)), .ex (eC (.int 6)), .ex (eC (.bool true)), .ex (eC .none), .ex (eC (.str "1")), .ex (eOp dNeg [.ex (eC (.int 1))])]), .ex (eOp dMod [.nm 3, .ex (eC (.int 6))])]))))))
def aQ : A4 -> Out SD := runB 6 4 cI
noncomputable def gP : DE := Ab aB [.nm 1, .ex (eOp dAdd [.ex (eC (.int 1)), .nm 0]), .ex (eC (.int 2))]
noncomputable def qN : DS := sSeq (sAsg 1 (eOp dAdd [.ex (eC (.int 1)), .ex (Ab aB [.nm 0, .ex (eC (.int 0)), .ex (eC (.int 5))])])) (sSeq (sAsg 2 (AV [0] (icR1 (.nm 1)) (Av) (gP))) (sSeq (sAsg 3 (Ab aB [.nm 0, .ex (eC (.int 6)), .ex (eC (.int 10))])) (sSeq (sAsg 4 (Ab aB [.nm 0, .ex (eC (.int 7)), .ex (eOp dPow [.ex (eC (.int 10)), .ex (eC (.int 6))])])) (sSeq (sAsg 5 (Ab aB [.nm 0, .ex (eC (.int 8)), .ex (eC (.int 14))])) (sSeq (sIf (tstV (eOp dEq [.nm 3, .ex (eC (.int 0))])) (sSeq (sAsg 6 (Ab bb [.nm 0, .ex (eC (.int 10)), .nm 1, .ex (eC (.int 6))])) (sSeq (sAsg 7 (eOp dIdx [.ex (eOp dLst [.ex (eOp AI [.nm 6]), .ex (eOp dAdd [.nm 6, .ex (eOp dMul [.ex (eOp dLst [.ex (eOp dTup [])]), .ex (eC (.int 25))])]), .ex (eC .none), .ex (eOp dAdd [.nm 6, .ex (eOp dLst [.ex (eOp dTup [.ex (eC (.int 0))])])]), .ex (eOp dAdd [.ex (eOp dLst [.ex (eOp dTup [.ex (eOp dAdd [.nm 1, .ex (eC (.int 1))])])]), .nm 6])]), .ex (eOp dMod [.nm 4, .ex (eC (.int 5))])])) (sIf (AQ (tstV (eOp dEq [.ex (eOp dMod [.nm 4, .ex (eC (.int 5))]), .ex (eC (.int 4))])) (tstV (eOp dEq [.ex (eOp dMod [.ex (eOp B1 [.nm 4, .ex (eC (.int 5))]), .ex (eC (.int 2))]), .ex (eC (.int 1))]))) (sSeq (sAsg 7 (eV 6)) (sAsg 1 (eOp dIdx [.ex (eOp dLst [.ex (eC (.int 0)), .ex (eC (.int 17)), .ex (eC (.bool true)), .ex (eC (.str "1")), .ex (eC .none)]), .ex (eOp dMod [.ex (eOp B1 [.nm 4, .ex (eC (.int 10))]), .ex (eC (.int 5))])]))) (Af)))) (sAsg 7 (Ab aQ [.nm 3, .nm 1, .nm 2, .nm 4]))) (sSeq (sIf (AQ (tstV (eOp dIn2 [.nm 3, .ex (eOp dTup [.ex (eC (.int 1)), .ex (eC (.int 2))])])) (tstV (eOp Bc [.ex (Ab aX [.nm 7, .nm 1]), .ex (eC (.bool false))]))) (sRet (eC (.bool false))) (Af)) (sSeq (sAsg 8 (eOp dIdx [.ex (eOp dLst [.ex (eC (.int 0)), .ex (eC (.int 1)), .ex (eC (.int 1)), .ex (eC (.int 2)), .ex (eC (.int 3)), .ex (eC (.int 4)), .ex (eC (.int 5)), .ex (eC (.int 5)), .ex (eC (.int 5)), .ex (eC (.int 5))]), .nm 3])) (sRet (eAnd (eOp dEq [.ex (Ab cF [.nm 3, .nm 5, .nm 7, .nm 1, .nm 2]), .nm 8]) (Ab bA [.nm 3, .nm 5, .nm 7, .nm 1, .nm 2]))))))))))
def nY : A4 -> Out SD := runB 9 1 qN
end
theorem bnd1 {p : List Value -> Prop} (h : ∀ a, p [a]) (us : List Value) (e : us.length = 1) : p us := match us, e with | [a], _ => h a
theorem bnd2 {p : List Value -> Prop} (h : ∀ a b, p [a, b]) (us : List Value) (e : us.length = 2) : p us := match us, e with | [a, b], _ => h a b
theorem bnd3 {p : List Value -> Prop} (h : ∀ a b c, p [a, b, c]) (us : List Value) (e : us.length = 3) : p us := match us, e with | [a, b, c], _ => h a b c
theorem bnd4 {p : List Value -> Prop} (h : ∀ a b c d, p [a, b, c, d]) (us : List Value) (e : us.length = 4) : p us := match us, e with | [a, b, c, d], _ => h a b c d
theorem bnd5 {p : List Value -> Prop} (h : ∀ a b c d e, p [a, b, c, d, e]) (us : List Value) (e : us.length = 5) : p us := match us, e with | [a, b, c, d, e], _ => h a b c d e
noncomputable def top (i : Nat) : Stmt := PySem.Challenge.pw_sayhall_k15_refusals.main.body.getD i (.Pass ⟨0, 0, 0, 0⟩)
abbrev cY : Stmt := top 19
abbrev j8 : List Str := ["value"]
theorem lO : Ae j8 ["value"] (defScope cY) := ⟨rfl, rfl, rfl, by decide +kernel, rfl, by decide +kernel, by decide +kernel⟩
abbrev bc : Stmt := top 20
abbrev eI : List Str := ["value", "most"]
theorem gQ : Ae eI ["value", "most"] (defScope bc) := ⟨rfl, rfl, rfl, by decide +kernel, rfl, by decide +kernel, by decide +kernel⟩
abbrev cJ : Stmt := top 21
abbrev iy : List Str := ["thing", "many", "last", "part"]
theorem du : Ae iy ["thing", "many"] (defScope cJ) := ⟨rfl, rfl, rfl, by decide +kernel, rfl, by decide +kernel, by decide +kernel⟩
abbrev cZ : Stmt := top 22
abbrev i9 : List Str := ["thing", "many"]
theorem mT : Ae i9 ["thing", "many"] (defScope cZ) := ⟨rfl, rfl, rfl, by decide +kernel, rfl, by decide +kernel, by decide +kernel⟩
abbrev dz : Stmt := top 23
abbrev jX : List Str := ["sayings", "many", "place", "saying"]
theorem j9 : Ae jX ["sayings", "many"] (defScope dz) := ⟨rfl, rfl, rfl, by decide +kernel, rfl, by decide +kernel, by decide +kernel⟩
abbrev ia : Stmt := top 27
abbrev qO : List Str := ["sayings", "many", "case", "good"]
theorem nZ : Ae qO ["sayings", "many", "case"] (defScope ia) := ⟨rfl, rfl, rfl, by decide +kernel, rfl, by decide +kernel, by decide +kernel⟩
abbrev cg : Stmt := top 33
abbrev fA : List Str := ["thing", "many"]
theorem kJ : Ae fA ["thing", "many"] (defScope cg) := ⟨rfl, rfl, rfl, by decide +kernel, rfl, by decide +kernel, by decide +kernel⟩
abbrev eJ : Stmt := top 32
abbrev lP : List Str := ["sayings", "many", "kinds", "good"]
theorem jY : Ae lP ["sayings", "many", "kinds"] (defScope eJ) := ⟨rfl, rfl, rfl, by decide +kernel, rfl, by decide +kernel, by decide +kernel⟩
abbrev fM : Stmt := top 38
abbrev og : List Str := ["sayings", "many", "good", "begun", "thing", "ripe"]
theorem lQ : Ae og ["sayings", "many"] (defScope fM) := ⟨rfl, rfl, rfl, by decide +kernel, rfl, by decide +kernel, by decide +kernel⟩
abbrev dA : Stmt := top 40
abbrev jZ : List Str := ["sayings", "many", "fitting", "found", "thing", "times_so"]
theorem ja : Ae jZ ["sayings", "many"] (defScope dA) := ⟨rfl, rfl, rfl, by decide +kernel, rfl, by decide +kernel, by decide +kernel⟩
abbrev fh : Stmt := top 45
abbrev br : Stmt := top 42
abbrev fq : List Str := ["sayings", "many", "told"]
theorem eL : Ae fq ["sayings", "many"] (defScope br) := ⟨rfl, rfl, rfl, by decide +kernel, rfl, by decide +kernel, by decide +kernel⟩
abbrev dD : Stmt := top 43
abbrev ka : List Str := ["sayings", "many", "saying", "good", "chosen", "part", "told"]
theorem jb : Ae ka ["sayings", "many", "saying"] (defScope dD) := ⟨rfl, rfl, rfl, by decide +kernel, rfl, by decide +kernel, by decide +kernel⟩
abbrev d4 : Stmt := top 52
abbrev jc : List Str := ["sayings", "many", "forks", "place"]
theorem fB : Ae jc ["sayings", "many"] (defScope d4) := ⟨rfl, rfl, rfl, by decide +kernel, rfl, by decide +kernel, by decide +kernel⟩
abbrev fN : Stmt := top 55
abbrev oi : List Str := ["one", "other", "many", "first", "second", "case"]
theorem jd : Ae oi ["one", "other", "many"] (defScope fN) := ⟨rfl, rfl, rfl, by decide +kernel, rfl, by decide +kernel, by decide +kernel⟩
abbrev bQ : Stmt := top 58
abbrev fU : List Str := ["sayings", "many", "good", "left", "place", "fewer"]
theorem fE : Ae fU ["sayings", "many"] (defScope bQ) := ⟨rfl, rfl, rfl, by decide +kernel, rfl, by decide +kernel, by decide +kernel⟩
abbrev dE : Stmt := top 59
abbrev kb : List Str := ["one", "other", "many", "first", "second", "case", "common"]
theorem gj : Ae kb ["one", "other", "many"] (defScope dE) := ⟨rfl, rfl, rfl, by decide +kernel, rfl, by decide +kernel, by decide +kernel⟩
abbrev cK : Stmt := top 63
abbrev iz : List Str := ["sayings", "many", "thing", "good", "found", "one", "other", "both"]
theorem gR : Ae iz ["sayings", "many", "thing"] (defScope cK) := ⟨rfl, rfl, rfl, by decide +kernel, rfl, by decide +kernel, by decide +kernel⟩
abbrev cw : Stmt := top 65
abbrev gS : List Str := ["sayings", "many", "good", "place", "saying"]
theorem fV : Ae gS ["sayings", "many"] (defScope cw) := ⟨rfl, rfl, rfl, by decide +kernel, rfl, by decide +kernel, by decide +kernel⟩
abbrev d5 : Stmt := top 75
abbrev je : List Str := ["one", "many"]
theorem lR : Ae je ["one", "many"] (defScope d5) := ⟨rfl, rfl, rfl, by decide +kernel, rfl, by decide +kernel, by decide +kernel⟩
abbrev bf : Stmt := top 74
abbrev eM : List Str := ["sentence", "many", "found", "waiting", "one"]
theorem bw : Ae eM ["sentence", "many"] (defScope bf) := ⟨rfl, rfl, rfl, by decide +kernel, rfl, by decide +kernel, by decide +kernel⟩
abbrev dF : Stmt := top 73
abbrev kc : List Str := ["sentence", "many", "case"]
theorem mU : Ae kc ["sentence", "many", "case"] (defScope dF) := ⟨rfl, rfl, rfl, by decide +kernel, rfl, by decide +kernel, by decide +kernel⟩
abbrev cx : Stmt := top 77
abbrev gT : List Str := ["sentence", "many", "rows", "whole", "sayings", "number", "row"]
theorem jw : Ae gT ["sentence", "many"] (defScope cx) := ⟨rfl, rfl, rfl, by decide +kernel, rfl, by decide +kernel, by decide +kernel⟩
abbrev bR : Stmt := top 82
abbrev fW : List Str := ["_law_script", "_law_k"]
theorem jf : Ae fW ["_law_script", "_law_k"] (defScope bR) := ⟨rfl, rfl, rfl, by decide +kernel, rfl, by decide +kernel, by decide +kernel⟩
abbrev cL : Stmt := top 83
abbrev iA : List Str := ["_law_script", "_law_k", "_law_many", "_law_drawn"]
theorem gU : Ae iA ["_law_script", "_law_k", "_law_many"] (defScope cL) := ⟨rfl, rfl, rfl, by decide +kernel, rfl, by decide +kernel, by decide +kernel⟩
abbrev bJ : Stmt := top 84
abbrev fj : List Str := ["_law_script", "_law_at", "_law_many", "_law_parts", "_law_k", "_law_thing"]
theorem d8 : Ae fj ["_law_script", "_law_at", "_law_many"] (defScope bJ) := ⟨rfl, rfl, rfl, by decide +kernel, rfl, by decide +kernel, by decide +kernel⟩
abbrev bB : Stmt := top 85
abbrev eB : List Str := ["_law_script", "_law_at", "_law_many", "_law_most"]
theorem jg : Ae eB ["_law_script", "_law_at", "_law_many", "_law_most"] (defScope bB) := ⟨rfl, rfl, rfl, by decide +kernel, rfl, by decide +kernel, by decide +kernel⟩
abbrev b4 : Stmt := top 86
abbrev dQ : List Str := ["_law_what", "_law_bad_here", "_law_many"]
theorem fP : Ae dQ ["_law_what", "_law_bad_here", "_law_many"] (defScope b4) := ⟨rfl, rfl, rfl, by decide +kernel, rfl, by decide +kernel, by decide +kernel⟩
abbrev bg : Stmt := top 87
abbrev eN : List Str := ["_law_way", "_law_bad_here", "_law_many", "_law_case"]
theorem gW : Ae eN ["_law_way", "_law_bad_here", "_law_many", "_law_case"] (defScope bg) := ⟨rfl, rfl, rfl, by decide +kernel, rfl, by decide +kernel, by decide +kernel⟩
abbrev cM : Stmt := top 88
abbrev iB : List Str := ["_law_way", "_law_what", "_law_bad_here", "_law_many", "_law_case"]
theorem kK : Ae iB ["_law_way", "_law_what", "_law_bad_here", "_law_many", "_law_case"] (defScope cM) := ⟨rfl, rfl, rfl, by decide +kernel, rfl, by decide +kernel, by decide +kernel⟩
abbrev d6 : Stmt := top 89
abbrev jh : List Str := ["_law_way", "_law_what", "_law_bad_here", "_law_many", "_law_case", "_law_found"]
theorem bH : Ae jh ["_law_way", "_law_what", "_law_bad_here", "_law_many", "_law_case"] (defScope d6) := ⟨rfl, rfl, rfl, by decide +kernel, rfl, by decide +kernel, by decide +kernel⟩
abbrev bS : Stmt := top 90
abbrev fX : List Str := ["_law_way", "_law_what", "_law_bad_here", "_law_many", "_law_case", "e"]
theorem fF : Ae fX ["_law_way", "_law_what", "_law_bad_here", "_law_many", "_law_case"] (defScope bS) := ⟨rfl, rfl, rfl, by decide +kernel, rfl, by decide +kernel, by decide +kernel⟩
abbrev b5 : Stmt := top 91
abbrev dR : List Str := ["_law_many", "_law_cell", "_law_one", "_law_some", "_law_long", "_law_k", "_law_wide"]
theorem aI : Ae dR ["_law_many", "_law_cell"] (defScope b5) := ⟨rfl, rfl, rfl, by decide +kernel, rfl, by decide +kernel, by decide +kernel⟩
abbrev dG : Stmt := top 92
abbrev ke : List Str := ["_law_way", "_law_many", "_law_case", "_law_cell", "_law_some", "_law_kinds"]
theorem fk : Ae ke ["_law_way", "_law_many", "_law_case", "_law_cell"] (defScope dG) := ⟨rfl, rfl, rfl, by decide +kernel, rfl, by decide +kernel, by decide +kernel⟩
abbrev fY : Stmt := top 93
abbrev qP : List Str := ["_law_script", "_law_many", "_law_case", "_law_way", "_law_cell", "_law_what", "_law_sayings_here", "_law_bad_here", "_law_due"]
theorem dn : Ae qP ["_law_script"] (defScope fY) := ⟨rfl, rfl, rfl, by decide +kernel, rfl, by decide +kernel, by decide +kernel⟩
structure Txt (w : World) (K : W.Frag) (mg : A5) (C_NoCase : Addr) (C_NoKinds : Addr) (C_NoSaying : Addr) (C_NoSayings : Addr) (C_NoSentence : Addr) (C_NoThing : Addr) (C_SayError : Addr) : Prop where
 n_ValueError : mg "ValueError" = none
 n_abs : mg "abs" = none
 n_all : mg "all" = none
 n_bool : mg "bool" = none
 n_enumerate : mg "enumerate" = none
 n_int : mg "int" = none
 n_isinstance : mg "isinstance" = none
 n_len : mg "len" = none
 n_list : mg "list" = none
 n_range : mg "range" = none
 n_sorted : mg "sorted" = none
 n_str : mg "str" = none
 n_tuple : mg "tuple" = none
 c_ALL : ∃ t, mg "ALL" = some (.str "all" t)
 c_MOST_SAYINGS : ∃ t, mg "MOST_SAYINGS" = some (.int 24 t)
 c_MOST_SENTENCE_THINGS : ∃ t, mg "MOST_SENTENCE_THINGS" = some (.int 5 t)
 c_MOST_THINGS : ∃ t, mg "MOST_THINGS" = some (.int 16 t)
 c_MOST_TUPLES : ∃ t, mg "MOST_TUPLES" = some (.int 12 t)
 c_SOME : ∃ t, mg "SOME" = some (.str "some" t)
 d_LENGTH_BY_WORD : ∃ a, mg "LENGTH_BY_WORD" = some (.ref a) /\ DctK w K a aL
 k_NoCase : mg "NoCase" = some (.ref C_NoCase)
 k_NoKinds : mg "NoKinds" = some (.ref C_NoKinds)
 k_NoSaying : mg "NoSaying" = some (.ref C_NoSaying)
 k_NoSayings : mg "NoSayings" = some (.ref C_NoSayings)
 k_NoSentence : mg "NoSentence" = some (.ref C_NoSentence)
 k_NoThing : mg "NoThing" = some (.ref C_NoThing)
 k_SayError : mg "SayError" = some (.ref C_SayError)
 x_NoCase : PySem.W.excIn K C_NoCase [.type "ValueError", .type "Exception", .type "BaseException", .type "object"] "ValueError.__new__" = true
 x_NoKinds : PySem.W.excIn K C_NoKinds [.type "ValueError", .type "Exception", .type "BaseException", .type "object"] "ValueError.__new__" = true
 x_NoSaying : PySem.W.excIn K C_NoSaying [.type "ValueError", .type "Exception", .type "BaseException", .type "object"] "ValueError.__new__" = true
 x_NoSayings : PySem.W.excIn K C_NoSayings [.type "ValueError", .type "Exception", .type "BaseException", .type "object"] "ValueError.__new__" = true
 x_NoSentence : PySem.W.excIn K C_NoSentence [.type "ValueError", .type "Exception", .type "BaseException", .type "object"] "ValueError.__new__" = true
 x_NoThing : PySem.W.excIn K C_NoThing [.type "ValueError", .type "Exception", .type "BaseException", .type "object"] "ValueError.__new__" = true
 m_NoCase : ∀ y ∈ Ag, ∀ C, mg y = some C -> W.exmOne K C (.ref C_NoCase) = some (cH y)
 m_NoKinds : ∀ y ∈ Ag, ∀ C, mg y = some C -> W.exmOne K C (.ref C_NoKinds) = some (cj y)
 m_NoSaying : ∀ y ∈ Ag, ∀ C, mg y = some C -> W.exmOne K C (.ref C_NoSaying) = some (bM y)
 m_NoSayings : ∀ y ∈ Ag, ∀ C, mg y = some C -> W.exmOne K C (.ref C_NoSayings) = some (bE y)
 m_NoSentence : ∀ y ∈ Ag, ∀ C, mg y = some C -> W.exmOne K C (.ref C_NoSentence) = some (bo y)
 m_NoThing : ∀ y ∈ Ag, ∀ C, mg y = some C -> W.exmOne K C (.ref C_NoThing) = some (cm y)
 t_NoCase : Cat K mg (.ref C_NoCase) cH
 t_NoKinds : Cat K mg (.ref C_NoKinds) cj
 t_NoSaying : Cat K mg (.ref C_NoSaying) bM
 t_NoSayings : Cat K mg (.ref C_NoSayings) bE
 t_NoSentence : Cat K mg (.ref C_NoSentence) bo
 t_NoThing : Cat K mg (.ref C_NoThing) cm
 t_SayError : Cat K mg (.ref C_SayError) cA
 i_ValueError : CatI K mg (.type "ValueError") bV
section
variable {P : Program} {w : World} {K : W.Frag} {mg : A5} {base : Heap} {C_NoCase C_NoKinds C_NoSaying C_NoSayings C_NoSentence C_NoThing C_SayError : Addr}
theorem lS {f : Addr} {fd : FuncData} (F : Fun K "is_whole" "is_whole" cY f fd) (T : Txt w K mg C_NoCase C_NoKinds C_NoSaying C_NoSayings C_NoSentence C_NoThing C_SayError) : FnOk P w K mg base (CXe P w) 1 f fd ["value"] (spD K mg bx) := by
 refine aH (N := j8) (fb := gd) F lO fun cdv A outer s H E hr => ?_
 have hu := hr.units
 exact aq (aw (i0 (eU "int" T.n_isinstance T.n_int boot_int rfl boot_isinstance (ah 0)) (hZ (uV (eU "bool" T.n_isinstance T.n_bool boot_bool rfl boot_isinstance (ah 0))))))
theorem gX {f : Addr} {fd : FuncData} (F : Fun K "is_from_one_to" "is_from_one_to" bc f fd) (T : Txt w K mg C_NoCase C_NoKinds C_NoSaying C_NoSayings C_NoSentence C_NoThing C_SayError) (D_is_whole : DefD P w K mg base "is_whole" 1 bx) : FnOk P w K mg base (CXe P w) 2 f fd ["value", "most"] (spD K mg aC) := by
 refine aH (N := eI) (fb := cW) F gQ fun cdv A outer s H E hr => ?_
 have hu := hr.units
 exact aq (aw (i0 (ao D_is_whole hr Ad (aa (ah 0) (ag))) (i0 (xt (ah 0) (ae (af))) (hZ (xr (ah 0) (ah 1))))))
theorem kL {f : Addr} {fd : FuncData} (F : Fun K "is_saying" "is_saying" cJ f fd) (T : Txt w K mg C_NoCase C_NoKinds C_NoSaying C_NoSayings C_NoSentence C_NoThing C_SayError) (D_is_whole : DefD P w K mg base "is_whole" 1 bx) : FnOk P w K mg base (CXe P w) 2 f fd ["thing", "many"] (spD K mg bt) := by
 refine aH (N := iy) (fb := fy) F du fun cdv A outer s H E hr => ?_
 have hu := hr.units
 exact ai (aJ (cz (fv (ae (eU "tuple" T.n_isinstance T.n_tuple boot_tuple rfl boot_isinstance (ah 0))))) (aq (aw (d9))) (az)) (ai (aA 2 du.nd (af)) (ai (j0 PassesOwn.leaving rfl (uW (qo 0)) (sI 3 du.nd) (gH 3) (ai (aJ (cz (fv (ae (ao D_is_whole hr Ad (aa (ah 3) (ag)))))) (aq (aw (d9))) (az)) (ai (aJ (oS (lC (xF (ae (mK T.n_abs boot_abs (ah 3))) (ah 2)) (kx (qw (ae (mK T.n_abs boot_abs (ah 3))) (ah 1))))) (aq (aw (d9))) (az)) (aq (aA 2 du.nd (mK T.n_abs boot_abs (ah 3))))))) (aq (aw (d9)))))
theorem mV {f : Addr} {fd : FuncData} (F : Fun K "is_case" "is_case" cZ f fd) (T : Txt w K mg C_NoCase C_NoKinds C_NoSaying C_NoSayings C_NoSentence C_NoThing C_SayError) (D_is_whole : DefD P w K mg base "is_whole" 1 bx) : FnOk P w K mg base (CXe P w) 2 f fd ["thing", "many"] (spD K mg aX) := by
 refine aH (N := i9) (fb := fI) F mT fun cdv A outer s H E hr => ?_
 have hu := hr.units
 exact ai (aJ (oS (lC (cz (fv (ae (eU "list" T.n_isinstance T.n_list boot_list rfl boot_isinstance (ah 0))))) (kx (nQ hu (ae (g8 T.n_len (ah 0))) (ah 1))))) (aq (aw (d9))) (az)) (aq (aw (qJ T.n_all boot_all (ae (iE (N0 := i9) (sc0 := (defScope cZ)) (F := []) (by decide +kernel) (by decide +kernel) (kA (ah 0)) (fun _ _ _ _ _ => gK) (fun _ _ _ _ _ => i0 (ao D_is_whole hr gb (aa (ah 0) (ag))) (hZ (qK hu (ah 0) (ae (aN (aa (ae (af)) (aa (ae (af)) (ag)))))))))))))
theorem mW {f : Addr} {fd : FuncData} (F : Fun K "checked" "checked" dz f fd) (T : Txt w K mg C_NoCase C_NoKinds C_NoSaying C_NoSayings C_NoSentence C_NoThing C_SayError) (D_is_from_one_to : DefD P w K mg base "is_from_one_to" 2 aC) (D_is_saying : DefD P w K mg base "is_saying" 2 bt) : FnOk P w K mg base (CXe P w) 3 f fd ["sayings", "many"] (spD K mg ar) := by
 refine aH (N := jX) (fb := i6) F j9 fun cdv A outer s H E hr => ?_
 have hu := hr.units
 exact ai (aJ (cz (fv (ae (ao D_is_from_one_to hr Ad (aa (ah 1) (aa (ae (iG T.c_MOST_THINGS)) (ag))))))) (aq (bL bK rfl PySem.F.excBase_ValueError T.k_NoSayings T.x_NoSayings (aV (eQ (dj (hU (iF T.c_MOST_THINGS) (g6)))) bC) (mM (cQ 46 (by decide) (i4 (gL (by decide)) (gc (by decide)) (by decide)) (by decide))))) (az)) (ai (aJ (cz (fv (ae (eU "list" T.n_isinstance T.n_list boot_list rfl boot_isinstance (ah 0))))) (aq (bL bK rfl PySem.F.excBase_ValueError T.k_NoSayings T.x_NoSayings (aV fZ bC) j4)) (az)) (ai (aJ (qw (ae (g8 T.n_len (ah 0))) (ae (iG T.c_MOST_SAYINGS))) (aq (bL bK rfl PySem.F.excBase_ValueError T.k_NoSayings T.x_NoSayings (aV (eQ (dj (hU (iF T.c_MOST_SAYINGS) (dj (g6))))) bC) (mM (cQ 20 (by decide) (i4 (gL (by decide)) (cQ 8 (by decide) (gc (by decide)) (by decide)) (by decide)) (by decide))))) (az)) (ai (j0 PassesOwn.leaving rfl (sG T.n_enumerate (qo 0)) (zK 2 3 rfl j9.nd) (uX [2, 3]) (aq (aJ (cz (fv (ae (ao D_is_saying hr Ad (aa (ah 3) (aa (ah 1) (ag))))))) (aq (bL bK rfl PySem.F.excBase_ValueError T.k_NoSayings T.x_NoSayings (aV (eQ (dj (hU (pv 2) (dj (g6))))) bC) (mM (cQ 21 (by decide) (i4 (qB 2) (cQ 13 (by decide) (gc (by decide)) (by decide)) (by decide)) (by decide))))) (az)))) (aq (aw (nP rfl T.n_list boot_list (ah 0)))))))
theorem tm {f : Addr} {fd : FuncData} (F : Fun K "fits" "fits" ia f fd) (T : Txt w K mg C_NoCase C_NoKinds C_NoSaying C_NoSayings C_NoSentence C_NoThing C_SayError) (D_checked : DefD P w K mg base "checked" 3 ar) (D_is_case : DefD P w K mg base "is_case" 2 aX) : FnOk P w K mg base (CXe P w) 4 f fd ["sayings", "many", "case"] (spD K mg ei) := by
 refine aH (N := qO) (fb := kH) F nZ fun cdv A outer s H E hr => ?_
 have hu := hr.units
 exact ai (aA 3 nZ.nd (ao D_checked hr Ad (aa (ah 0) (aa (ah 1) (ag))))) (ai (aJ (cz (fv (ae (ao D_is_case hr Ad (aa (ah 2) (aa (ah 1) (ag))))))) (aq (bL bK rfl PySem.F.excBase_ValueError T.k_NoCase T.x_NoCase (aV fZ bC) j4)) (az)) (cV))
theorem kM {f : Addr} {fd : FuncData} (F : Fun K "are_kinds" "are_kinds" cg f fd) (T : Txt w K mg C_NoCase C_NoKinds C_NoSaying C_NoSayings C_NoSentence C_NoThing C_SayError) : FnOk P w K mg base (CXe P w) 1 f fd ["thing", "many"] (spD K mg bu) := by
 refine aH (N := fA) (fb := dX) F kJ fun cdv A outer s H E hr => ?_
 have hu := hr.units
 exact ai (aJ (oS (lC (cz (fv (ae (eU "list" T.n_isinstance T.n_list boot_list rfl boot_isinstance (ah 0))))) (kx (nQ hu (ae (g8 T.n_len (ah 0))) (ah 1))))) (aq (aw (d9))) (az)) (aq (aw (qJ T.n_all boot_all (ae (iE (N0 := fA) (sc0 := (defScope cg)) (F := []) (by decide +kernel) (by decide +kernel) (kA (ah 0)) (fun _ _ _ _ _ => gK) (fun _ _ _ _ _ => i0 (eU "str" T.n_isinstance T.n_str boot_str rfl boot_isinstance (ah 0)) (hZ (qK hu (ah 0) (ae (aN (aa (ae (nW T.c_SOME)) (aa (ae (nW T.c_ALL)) (ag)))))))))))))
theorem pf {f : Addr} {fd : FuncData} (F : Fun K "played" "played" eJ f fd) (T : Txt w K mg C_NoCase C_NoKinds C_NoSaying C_NoSayings C_NoSentence C_NoThing C_SayError) (D_checked : DefD P w K mg base "checked" 3 ar) (D_are_kinds : DefD P w K mg base "are_kinds" 1 bu) : FnOk P w K mg base (CXe P w) 4 f fd ["sayings", "many", "kinds"] (spD K mg bX) := by
 refine aH (N := lP) (fb := gO) F jY fun cdv A outer s H E hr => ?_
 have hu := hr.units
 exact ai (aA 3 jY.nd (ao D_checked hr Ad (aa (ah 0) (aa (ah 1) (ag))))) (ai (aJ (cz (fv (ae (ao D_are_kinds hr Ad (aa (ah 2) (aa (ah 1) (ag))))))) (aq (bL bK rfl PySem.F.excBase_ValueError T.k_NoKinds T.x_NoKinds (aV (eQ (dj (qL (nX T.c_SOME) (by decide) (dj (qL (nX T.c_ALL) (by decide) (dj (g6))))))) bC) (mM (cQ 25 (by decide) (cQ 4 (by decide) (cQ 7 (by decide) (cQ 3 (by decide) (cQ 21 (by decide) (gc (by decide)) (by decide)) (by decide)) (by decide)) (by decide)) (by decide))))) (az)) (cV))
theorem qQ {f : Addr} {fd : FuncData} (F : Fun K "cases" "cases" fM f fd) (T : Txt w K mg C_NoCase C_NoKinds C_NoSaying C_NoSayings C_NoSentence C_NoThing C_SayError) (D_checked : DefD P w K mg base "checked" 3 ar) : FnOk P w K mg base (CXe P w) 4 f fd ["sayings", "many"] (spD K mg dY) := by
 refine aH (N := og) (fb := kI) F lQ fun cdv A outer s H E hr => ?_
 have hu := hr.units
 exact ai (aA 2 lQ.nd (ao D_checked hr Ad (aa (ah 0) (aa (ah 1) (ag))))) (cV)
theorem mX {f : Addr} {fd : FuncData} (F : Fun K "settled" "settled" dA f fd) (T : Txt w K mg C_NoCase C_NoKinds C_NoSaying C_NoSayings C_NoSentence C_NoThing C_SayError) (D_cases : DefD P w K mg base "cases" 4 dY) : FnOk P w K mg base (CXe P w) 5 f fd ["sayings", "many"] (spD K mg dw) := by
 refine aH (N := jZ) (fb := i8) F ja fun cdv A outer s H E hr => ?_
 have hu := hr.units
 exact ai (aA 2 ja.nd (ao D_cases hr Ad (aa (ah 0) (aa (ah 1) (ag))))) (cV)
theorem ib {f : Addr} {fd : FuncData} (F : Fun K "case_or_clash" "case_or_clash" br f fd) (T : Txt w K mg C_NoCase C_NoKinds C_NoSaying C_NoSayings C_NoSentence C_NoThing C_SayError) (D_searched : DefD P w K mg base "searched" 1 gf) (D_checked : DefD P w K mg base "checked" 3 ar) : FnOk P w K mg base (CXe P w) 4 f fd ["sayings", "many"] (spD K mg bp) := by
 refine aH (N := fq) (fb := dm) F eL fun cdv A outer s H E hr => ?_
 have hu := hr.units
 exact ai (aA 2 eL.nd (ao D_searched hr Ad (aa (ae (ao D_checked hr Ad (aa (ah 0) (aa (ah 1) (ag))))) (aa (ae (dk (ae (aG (aa (ae (cD)) (ag)))) (ah 1))) (ag))))) (cV)
theorem mY {f : Addr} {fd : FuncData} (F : Fun K "follows" "follows" dD f fd) (T : Txt w K mg C_NoCase C_NoKinds C_NoSaying C_NoSayings C_NoSentence C_NoThing C_SayError) (D_checked : DefD P w K mg base "checked" 3 ar) (D_is_saying : DefD P w K mg base "is_saying" 2 bt) : FnOk P w K mg base (CXe P w) 4 f fd ["sayings", "many", "saying"] (spD K mg bq) := by
 refine aH (N := ka) (fb := fJ) F jb fun cdv A outer s H E hr => ?_
 have hu := hr.units
 exact ai (aA 3 jb.nd (ao D_checked hr Ad (aa (ah 0) (aa (ah 1) (ag))))) (ai (aJ (cz (fv (ae (ao D_is_saying hr Ad (aa (ah 2) (aa (ah 1) (ag))))))) (aq (bL bK rfl PySem.F.excBase_ValueError T.k_NoSaying T.x_NoSaying (aV fZ bC) j4)) (az)) (cV))
abbrev yE : Stmt := inClass (top 14) 0
abbrev zZ : Stmt := inClass (top 14) 2
theorem yF : Ae ["self"] ["self"] (defScope yE) := ⟨rfl, rfl, rfl, by decide +kernel, rfl, by decide +kernel, by decide +kernel⟩
structure BE (K : W.Frag) (mg : A5) (C fi fa : Addr) (di da : FuncData) : Prop where
 at_ : mg "Forks" = some (.ref C)
 cls : Cls K C
 mak : Mk K C fi
 ini : Fun K "__init__" "Forks.__init__" yE fi di
 all : Fun K "all_of" "Forks.all_of" zZ fa da
 meth : Meth K C "all_of" fa
 n1 : NoAttr K C "rows"
 n2 : NoAttr K C "place_by_row"
 n3 : NoAttr K C "place_by_sayings"
 n4 : NoAttr K C "place_by_pair"
theorem yG {C fi fa : Addr} {di da : FuncData} (FK : BE K mg C fi fa di da) : FnOk P w K mg base (CXe P w) 1 fi di ["self"] (By C "all_of") := by
 refine FK.ini.okE (N := ["self"]) yF mR fun cdv A outer s H vs Q E hr h => ⟨Cq K "rows" "place_by_row" "place_by_sayings" "place_by_pair", ?_, mS rfl FK.cls FK.n1 FK.n2 FK.n3 FK.n4 (fun _ _ _ _ => rfl) (fun _ _ _ => ⟨by show 1 < 1000; decide, by show 2 < 1000; decide, by show 3 < 1000; decide⟩) h⟩
 exact dH (kl (pv 0) (pT (aV mn (aV mn bC))) rfl) (dH (kl (pv 0) gB rfl) (dH (kl (pv 0) gB rfl) (dH (kl (pv 0) gB rfl) nv)))
theorem vI {k : Nat} {f : Addr} {fd : FuncData} {ps : List Str} : FnOk P w K mg base (CXe P w) k f fd ps BP := ⟨fun vs H Q E h => h.elim, fun A outer s H args us vs Q E _ _ _ _ h => h.elim⟩
theorem lT {f : Addr} {fd : FuncData} {C fi fa : Addr} {di da : FuncData} (F : Fun K "sharpest" "sharpest" d4 f fd) (T : Txt w K mg C_NoCase C_NoKinds C_NoSaying C_NoSayings C_NoSentence C_NoThing C_SayError) (D_checked : DefD P w K mg base "checked" 3 ar) (FK : BE K mg C fi fa di da) : FnOk P w K mg base (CXe P w) 5 f fd ["sayings", "many"] (spD K mg (refD ar)) := by
 obtain ⟨f', fd', ps', D⟩ := D_checked
 refine F.okE (N := jc) fB tj fun cdv A outer s H vs Q E hr h => ⟨C4 K mg ar C "all_of" E, ?_, lN rfl h⟩
 exact dH (nM rfl fB.nd (pW FK.mak (yG FK) (hr.mono (by decide)) rfl FK.at_ (FK.ini.binds fun _ _ _ _ _ _ => bnd1 fun _ => rfl) .nil Ad)) (dH (nM rfl fB.nd (rG (pv 2) FK.cls FK.meth (vI (k := 1) (ps := ["self", "sayings"])) (hr.mono (by decide)) (FK.all.binds fun _ _ _ _ _ _ => bnd2 fun _ _ => rfl) .nil Ad (aV (jH ly rfl T.n_tuple boot_tuple (aV (lu D hr Ad (aV (pv 0) (aV (pv 1) bC)) rfl (by omega)) bC)) bC))) qM)
theorem qR {f : Addr} {fd : FuncData} (F : Fun K "alike" "alike" fN f fd) (T : Txt w K mg C_NoCase C_NoKinds C_NoSaying C_NoSayings C_NoSentence C_NoThing C_SayError) (D_checked : DefD P w K mg base "checked" 3 ar) : FnOk P w K mg base (CXe P w) 4 f fd ["one", "other", "many"] (spD K mg dt) := by
 refine aH (N := oi) (fb := iJ) F jd fun cdv A outer s H E hr => ?_
 have hu := hr.units
 exact ai (aA 3 jd.nd (ao D_checked hr Ad (aa (ah 0) (aa (ah 2) (ag))))) (ai (aA 4 jd.nd (ao D_checked hr Ad (aa (ah 1) (aa (ah 2) (ag))))) (cV))
theorem ji {f : Addr} {fd : FuncData} (F : Fun K "least_clash" "least_clash" bQ f fd) (T : Txt w K mg C_NoCase C_NoKinds C_NoSaying C_NoSayings C_NoSentence C_NoThing C_SayError) (D_checked : DefD P w K mg base "checked" 3 ar) : FnOk P w K mg base (CXe P w) 4 f fd ["sayings", "many"] (spD K mg bO) := by
 refine aH (N := fU) (fb := et) F fE fun cdv A outer s H E hr => ?_
 have hu := hr.units
 exact ai (aA 2 fE.nd (ao D_checked hr Ad (aa (ah 0) (aa (ah 1) (ag))))) (cV)
theorem mZ {f : Addr} {fd : FuncData} (F : Fun K "between" "between" dE f fd) (T : Txt w K mg C_NoCase C_NoKinds C_NoSaying C_NoSayings C_NoSentence C_NoThing C_SayError) (D_checked : DefD P w K mg base "checked" 3 ar) : FnOk P w K mg base (CXe P w) 4 f fd ["one", "other", "many"] (spD K mg cn) := by
 refine aH (N := kb) (fb := fK) F gj fun cdv A outer s H E hr => ?_
 have hu := hr.units
 exact ai (aA 3 gj.nd (ao D_checked hr Ad (aa (ah 0) (aa (ah 2) (ag))))) (ai (aA 4 gj.nd (ao D_checked hr Ad (aa (ah 1) (aa (ah 2) (ag))))) (cV))
theorem kO {f : Addr} {fd : FuncData} (F : Fun K "forgotten" "forgotten" cK f fd) (T : Txt w K mg C_NoCase C_NoKinds C_NoSaying C_NoSayings C_NoSentence C_NoThing C_SayError) (D_checked : DefD P w K mg base "checked" 3 ar) (D_is_from_one_to : DefD P w K mg base "is_from_one_to" 2 aC) : FnOk P w K mg base (CXe P w) 4 f fd ["sayings", "many", "thing"] (spD K mg aY) := by
 refine aH (N := iz) (fb := dZ) F gR fun cdv A outer s H E hr => ?_
 have hu := hr.units
 exact ai (aA 3 gR.nd (ao D_checked hr Ad (aa (ah 0) (aa (ah 1) (ag))))) (ai (aJ (cz (fv (ae (ao D_is_from_one_to hr Ad (aa (ah 2) (aa (ah 1) (ag))))))) (aq (bL bK rfl PySem.F.excBase_ValueError T.k_NoThing T.x_NoThing (aV (eQ (dj (hU (pv 1) (g6)))) bC) (mM (cQ 36 (by decide) (i4 (qB 1) (gc (by decide)) (by decide)) (by decide))))) (az)) (cV))
theorem jx {f : Addr} {fd : FuncData} (F : Fun K "least_case" "least_case" cw f fd) (T : Txt w K mg C_NoCase C_NoKinds C_NoSaying C_NoSayings C_NoSentence C_NoThing C_SayError) (D_checked : DefD P w K mg base "checked" 3 ar) : FnOk P w K mg base (CXe P w) 4 f fd ["sayings", "many"] (spD K mg cq) := by
 refine aH (N := gS) (fb := eZ) F fV fun cdv A outer s H E hr => ?_
 have hu := hr.units
 exact ai (aA 2 fV.nd (ao D_checked hr Ad (aa (ah 0) (aa (ah 1) (ag))))) (cV)
theorem lU {f : Addr} {fd : FuncData} (F : Fun K "has_form" "has_form" d5 f fd) (T : Txt w K mg C_NoCase C_NoKinds C_NoSaying C_NoSayings C_NoSentence C_NoThing C_SayError) (D_is_from_one_to : DefD P w K mg base "is_from_one_to" 2 aC) : FnOk P w K mg base (CXe P w) 3 f fd ["one", "many"] (spD K mg ay) := by
 refine aH (N := je) (fb := aZ) F lR fun cdv A outer s H E hr => ?_
 have hu := hr.units
 exact ai (aJ (oS (lC (cz (fv (ae (eU "tuple" T.n_isinstance T.n_tuple boot_tuple rfl boot_isinstance (ah 0))))) (lC (bj hu (ae (g8 T.n_len (ah 0))) (ae (af))) (kx (cz (fv (ae (eU "str" T.n_isinstance T.n_str boot_str rfl boot_isinstance (ae (bT hu (ah 0) (ae (af)))))))))))) (aq (aw (d9))) (az)) (ai (aJ (nQ hu (ae (g8 T.n_len (ah 0))) (ae (t7 T.d_LENGTH_BY_WORD (ae (bT hu (ah 0) (ae (af))))))) (aq (aw (d9))) (az)) (aq (aw (xH (xA hu (ae (bT hu (ah 0) (ae (af)))) (ae (aM))) (hZ (ao D_is_from_one_to hr Ad (aa (ae (bT hu (ah 0) (ae (af)))) (aa (ah 1) (ag)))))))))
theorem gY {f : Addr} {fd : FuncData} (F : Fun K "check_sentence" "check_sentence" bf f fd) (T : Txt w K mg C_NoCase C_NoKinds C_NoSaying C_NoSayings C_NoSentence C_NoThing C_SayError) (D_is_from_one_to : DefD P w K mg base "is_from_one_to" 2 aC) (D_has_form : DefD P w K mg base "has_form" 3 ay) : FnOk P w K mg base (CXe P w) 4 f fd ["sentence", "many"] (spD K mg aj) := by
 refine aH (N := eM) (fb := bF) F bw fun cdv A outer s H E hr => ?_
 have hu := hr.units
 exact ai (aJ (cz (fv (ae (ao D_is_from_one_to hr Ad (aa (ah 1) (aa (ae (iG T.c_MOST_SENTENCE_THINGS)) (ag))))))) (aq (bL bK rfl PySem.F.excBase_ValueError T.k_NoSentence T.x_NoSentence (aV (eQ (dj (hU (iF T.c_MOST_SENTENCE_THINGS) (g6)))) bC) (mM (cQ 46 (by decide) (i4 (gL (by decide)) (gc (by decide)) (by decide)) (by decide))))) (az)) (ai (aA 2 bw.nd (af)) (ai (aA 3 bw.nd (aG (aa (ah 0) (ag)))) (aq (qz PassesOwn.leaving (fv (ah 3)) (ai (aA 4 bw.nd (vC 3)) (ai (aJ (cz (fv (ae (ao D_has_form hr Ad (aa (ah 4) (aa (ah 1) (ag))))))) (aq (bL bK rfl PySem.F.excBase_ValueError T.k_NoSentence T.x_NoSentence (aV fZ bC) j4)) (az)) (ai (vF 2 bw.nd (ae (af))) (ai (aJ (qw (ah 2) (ae (iG T.c_MOST_TUPLES))) (aq (bL bK rfl PySem.F.excBase_ValueError T.k_NoSentence T.x_NoSentence (aV (eQ (dj (hU (iF T.c_MOST_TUPLES) (dj (g6))))) bC) (mM (cQ 28 (by decide) (i4 (gL (by decide)) (cQ 7 (by decide) (gc (by decide)) (by decide)) (by decide)) (by decide))))) (az)) (aq (aJ (nQ hu (ae (bT hu (ah 4) (ae (af)))) (ae (aM))) (aq (iI 3 (ae (eS (ah 4) (ae (af)))))) (az)))))))))))
theorem n5 {f : Addr} {fd : FuncData} (F : Fun K "is_true" "is_true" dF f fd) (T : Txt w K mg C_NoCase C_NoKinds C_NoSaying C_NoSayings C_NoSentence C_NoThing C_SayError) (D_check_sentence : DefD P w K mg base "check_sentence" 4 aj) (D_is_case : DefD P w K mg base "is_case" 2 aX) : FnOk P w K mg base (CXe P w) 5 f fd ["sentence", "many", "case"] (spD K mg bP) := by
 refine aH (N := kc) (fb := fL) F mU fun cdv A outer s H E hr => ?_
 have hu := hr.units
 exact ai (nS (ao D_check_sentence hr Ad (aa (ah 0) (aa (ah 1) (ag))))) (ai (aJ (cz (fv (ae (ao D_is_case hr Ad (aa (ah 2) (aa (ah 1) (ag))))))) (aq (bL bK rfl PySem.F.excBase_ValueError T.k_NoCase T.x_NoCase (aV fZ bC) j4)) (az)) (cV))
theorem jy {f : Addr} {fd : FuncData} (F : Fun K "sayings_of" "sayings_of" cx f fd) (T : Txt w K mg C_NoCase C_NoKinds C_NoSaying C_NoSayings C_NoSentence C_NoThing C_SayError) (D_check_sentence : DefD P w K mg base "check_sentence" 4 aj) : FnOk P w K mg base (CXe P w) 5 f fd ["sentence", "many"] (spD K mg bI) := by
 refine aH (N := gT) (fb := ff) F jw fun cdv A outer s H E hr => ?_
 have hu := hr.units
 exact ai (nS (ao D_check_sentence hr Ad (aa (ah 0) (aa (ah 1) (ag))))) (cV)
theorem jj {f : Addr} {fd : FuncData} (F : Fun K "_law_cell_at" "_law_cell_at" bR f fd) (T : Txt w K mg C_NoCase C_NoKinds C_NoSaying C_NoSayings C_NoSentence C_NoThing C_SayError) : FnOk P w K mg base (CXe P w) 1 f fd ["_law_script", "_law_k"] (spD K mg ba) := by
 refine aH (N := fW) (fb := cB) F jf fun cdv A outer s H E hr => ?_
 have hu := hr.units
 exact ai (aJ (qv (ah 1) (ae (g8 T.n_len (ah 0)))) (aq (aw (bT hu (ah 0) (ah 1)))) (az)) (ai (aJ (bj hu (ah 0) (ae (aG (ag)))) (aq (aw (af))) (az)) (aq (aw (aP (ae (dk (ae (bT hu (ah 0) (ae (cP (ah 1) (ae (g8 T.n_len (ah 0))))))) (ae (af)))) (ah 1)))))
theorem kP {f : Addr} {fd : FuncData} (F : Fun K "_law_mixed" "_law_mixed" cL f fd) (T : Txt w K mg C_NoCase C_NoKinds C_NoSaying C_NoSayings C_NoSentence C_NoThing C_SayError) (D_law_cell_at : DefD P w K mg base "_law_cell_at" 1 ba) : FnOk P w K mg base (CXe P w) 2 f fd ["_law_script", "_law_k", "_law_many"] (spD K mg aB) := by
 refine aH (N := iA) (fb := fz) F gU fun cdv A outer s H E hr => ?_
 have hu := hr.units
 exact ai (aA 3 gU.nd (cP (ae (dk (ae (aP (ae (aP (ae (ao D_law_cell_at hr Ad (aa (ah 0) (aa (ah 1) (ag))))) (ae (dk (ae (af)) (ah 1))))) (ae (af)))) (ae (af)))) (ae (af)))) (aq (aw (cP (ae (cP (ae (aP (ae (aP (ae (dk (ah 3) (ah 3))) (ae (dk (ae (af)) (ah 3))))) (ah 1))) (ae (af)))) (ah 2))))
theorem jz {f : Addr} {fd : FuncData} (F : Fun K "_law_saying" "_law_saying" bJ f fd) (T : Txt w K mg C_NoCase C_NoKinds C_NoSaying C_NoSayings C_NoSentence C_NoThing C_SayError) (D_law_mixed : DefD P w K mg base "_law_mixed" 2 aB) : FnOk P w K mg base (CXe P w) 3 f fd ["_law_script", "_law_at", "_law_many"] (spD K mg cu) := by
 refine aH (N := fj) (fb := fg) F d8 fun cdv A outer s H E hr => ?_
 have hu := hr.units
 exact ai (aA 3 d8.nd (qp)) (ai (j0 PassesOwn.leaving rfl (i3 T.n_range (ae (bT hu (ae (aG (aa (ae (af)) (aa (ae (af)) (aa (ae (af)) (aa (ae (af)) (aa (ae (af)) (aa (ae (af)) (aa (ae (af)) (ag)))))))))) (ae (ao D_law_mixed hr Ad (aa (ah 0) (aa (ah 1) (aa (ae (af)) (ag))))))))) (sI 4 d8.nd) (gH 4) (ai (aA 5 d8.nd (aP (ae (af)) (ae (ao D_law_mixed hr Ad (aa (ah 0) (aa (ae (aP (ae (aP (ah 1) (ae (af)))) (ah 4))) (aa (ah 2) (ag)))))))) (aq (uY 3 hu (ae (uS (ae (af)) (ae (dk (ae (af)) (ae (ku (ae (ao D_law_mixed hr Ad (aa (ah 0) (aa (ae (aP (ae (aP (ah 1) (ae (af)))) (ah 4))) (aa (ae (dk (ae (af)) (ah 2))) (ag)))))) (ah 2))))))) (ah 5))))) (aq (aw (gG T.n_tuple boot_tuple (ae (iE (N0 := fj) (sc0 := (defScope bJ)) (F := [3]) (by decide +kernel) (by decide +kernel) (kA (ae (qu T.n_sorted boot_sorted (ae (nP rfl T.n_list boot_list (ah 3)))))) (fun _ _ _ _ _ => gK) (fun _ _ _ _ _ => dk (ah 0) (ae (bT hu (ah 1) (ah 0))))))))))
theorem jk {f : Addr} {fd : FuncData} (F : Fun K "_law_sayings" "_law_sayings" bB f fd) (T : Txt w K mg C_NoCase C_NoKinds C_NoSaying C_NoSayings C_NoSentence C_NoThing C_SayError) (D_law_saying : DefD P w K mg base "_law_saying" 3 cu) (D_law_mixed : DefD P w K mg base "_law_mixed" 2 aB) : FnOk P w K mg base (CXe P w) 4 f fd ["_law_script", "_law_at", "_law_many", "_law_most"] (spD K mg bb) := by
 refine aH (N := eB) (fb := eu) F jg fun cdv A outer s H E hr => ?_
 have hu := hr.units
 exact aq (aw (iE (N0 := eB) (sc0 := (defScope bB)) (F := [1, 2, 0]) (by decide +kernel) (by decide +kernel) (j2 T.n_range (ae (ao D_law_mixed hr Ad (aa (ah 0) (aa (ah 1) (aa (ae (aP (ah 3) (ae (af)))) (ag))))))) (fun _ _ _ _ _ => gK) (fun _ _ _ _ _ => ao D_law_saying hr gb (aa (ah 3) (aa (ae (aP (ae (aP (ah 1) (ae (af)))) (ae (dk (ae (af)) (ah 0))))) (aa (ah 2) (ag)))))))
theorem fQ {f : Addr} {fd : FuncData} (F : Fun K "_law_with_sayings" "_law_with_sayings" b4 f fd) (T : Txt w K mg C_NoCase C_NoKinds C_NoSaying C_NoSayings C_NoSentence C_NoThing C_SayError) (D_cases : DefD P w K mg base "cases" 4 dY) (D_settled : DefD P w K mg base "settled" 5 dw) (D_case_or_clash : DefD P w K mg base "case_or_clash" 4 bp) (D_follows : DefD P w K mg base "follows" 4 bq) (D_sharpest : DefD P w K mg base "sharpest" 5 dO) (D_alike : DefD P w K mg base "alike" 4 dt) (D_least_clash : DefD P w K mg base "least_clash" 4 bO) (D_between : DefD P w K mg base "between" 4 cn) (D_forgotten : DefD P w K mg base "forgotten" 4 aY) (D_least_case : DefD P w K mg base "least_case" 4 cq) (D_played : DefD P w K mg base "played" 4 bX) (D_fits : DefD P w K mg base "fits" 4 ei) : FnOk P w K mg base (CXe P w) 6 f fd ["_law_what", "_law_bad_here", "_law_many"] (spD K mg aT) := by
 refine aH (N := dQ) (fb := cE) F fP fun cdv A outer s H E hr => ?_
 have hu := hr.units
 exact ai (aJ (bj hu (ah 0) (ae (af))) (aq (aw (ao D_cases hr Ad (aa (ah 1) (aa (ah 2) (ag)))))) (az)) (ai (aJ (bj hu (ah 0) (ae (af))) (aq (aw (ao D_settled hr Ad (aa (ah 1) (aa (ah 2) (ag)))))) (az)) (ai (aJ (bj hu (ah 0) (ae (af))) (aq (aw (ao D_case_or_clash hr Ad (aa (ah 1) (aa (ah 2) (ag)))))) (az)) (ai (aJ (bj hu (ah 0) (ae (af))) (aq (aw (ao D_follows hr Ad (aa (ah 1) (aa (ah 2) (aa (ae (cD)) (ag))))))) (az)) (ai (aJ (bj hu (ah 0) (ae (af))) (aq (aw (ao D_sharpest hr Ad (aa (ah 1) (aa (ah 2) (ag)))))) (az)) (ai (aJ (bj hu (ah 0) (ae (af))) (aq (aw (ao D_alike hr Ad (aa (ah 1) (aa (ae (aG (ag))) (aa (ah 2) (ag))))))) (az)) (ai (aJ (bj hu (ah 0) (ae (af))) (aq (aw (ao D_alike hr Ad (aa (ae (aG (ag))) (aa (ah 1) (aa (ah 2) (ag))))))) (az)) (ai (aJ (bj hu (ah 0) (ae (af))) (aq (aw (ao D_least_clash hr Ad (aa (ah 1) (aa (ah 2) (ag)))))) (az)) (ai (aJ (bj hu (ah 0) (ae (af))) (aq (aw (ao D_between hr Ad (aa (ah 1) (aa (ae (aG (ag))) (aa (ah 2) (ag))))))) (az)) (ai (aJ (bj hu (ah 0) (ae (af))) (aq (aw (ao D_between hr Ad (aa (ae (aG (ag))) (aa (ah 1) (aa (ah 2) (ag))))))) (az)) (ai (aJ (bj hu (ah 0) (ae (af))) (aq (aw (ao D_forgotten hr Ad (aa (ah 1) (aa (ah 2) (aa (ae (af)) (ag))))))) (az)) (ai (aJ (bj hu (ah 0) (ae (af))) (aq (aw (ao D_least_case hr Ad (aa (ah 1) (aa (ah 2) (ag)))))) (az)) (ai (aJ (bj hu (ah 0) (ae (af))) (aq (aw (ao D_played hr Ad (aa (ah 1) (aa (ah 2) (aa (ae (cD)) (ag))))))) (az)) (aq (aw (ao D_fits hr Ad (aa (ah 1) (aa (ah 2) (aa (ae (cD)) (ag)))))))))))))))))))
theorem gZ {f : Addr} {fd : FuncData} (F : Fun K "_law_with_other" "_law_with_other" bg f fd) (T : Txt w K mg C_NoCase C_NoKinds C_NoSaying C_NoSayings C_NoSentence C_NoThing C_SayError) (D_fits : DefD P w K mg base "fits" 4 ei) (D_is_true : DefD P w K mg base "is_true" 5 bP) (D_follows : DefD P w K mg base "follows" 4 bq) (D_forgotten : DefD P w K mg base "forgotten" 4 aY) (D_played : DefD P w K mg base "played" 4 bX) (D_sayings_of : DefD P w K mg base "sayings_of" 5 bI) : FnOk P w K mg base (CXe P w) 6 f fd ["_law_way", "_law_bad_here", "_law_many", "_law_case"] (spD K mg b3) := by
 refine aH (N := eN) (fb := cX) F gW fun cdv A outer s H E hr => ?_
 have hu := hr.units
 exact ai (aJ (bj hu (ah 0) (ae (af))) (aq (aw (ao D_fits hr Ad (aa (ae (aG (ag))) (aa (ah 2) (aa (ah 1) (ag))))))) (az)) (ai (aJ (bj hu (ah 0) (ae (af))) (aq (aw (ao D_is_true hr Ad (aa (ae (aN (aa (ae (aM)) (aa (ae (af)) (ag))))) (aa (ah 2) (aa (ah 1) (ag))))))) (az)) (ai (aJ (bj hu (ah 0) (ae (af))) (aq (aw (ao D_follows hr Ad (aa (ae (aG (ag))) (aa (ah 2) (aa (ah 1) (ag))))))) (az)) (ai (aJ (bj hu (ah 0) (ae (af))) (aq (aw (ao D_forgotten hr Ad (aa (ae (aG (ag))) (aa (ah 2) (aa (ah 1) (ag))))))) (az)) (ai (aJ (bj hu (ah 0) (ae (af))) (aq (aw (ao D_played hr Ad (aa (ae (aG (ag))) (aa (ah 2) (aa (ah 1) (ag))))))) (az)) (ai (aJ (bj hu (ah 0) (ae (af))) (aq (aw (ao D_is_true hr Ad (aa (ah 1) (aa (ah 2) (aa (ae (cD)) (ag))))))) (az)) (ai (aJ (bj hu (ah 0) (ae (af))) (aq (aw (ao D_sayings_of hr Ad (aa (ah 1) (aa (ah 2) (ag)))))) (az)) (ai (aJ (bj hu (ah 0) (ae (af))) (aq (aw (ao D_sayings_of hr Ad (aa (ae (aN (aa (ae (aM)) (aa (ae (af)) (ag))))) (aa (ah 1) (ag)))))) (az)) (aq (aw (ao D_is_true hr Ad (aa (ae (aN (aa (ae (aM)) (aa (ae (af)) (ag))))) (aa (ah 1) (aa (ah 3) (ag))))))))))))))
theorem kQ {f : Addr} {fd : FuncData} (F : Fun K "_law_asked" "_law_asked" cM f fd) (T : Txt w K mg C_NoCase C_NoKinds C_NoSaying C_NoSayings C_NoSentence C_NoThing C_SayError) (D_law_with_sayings : DefD P w K mg base "_law_with_sayings" 6 aT) (D_law_with_other : DefD P w K mg base "_law_with_other" 6 b3) : FnOk P w K mg base (CXe P w) 7 f fd ["_law_way", "_law_what", "_law_bad_here", "_law_many", "_law_case"] (spD K mg aU) := by
 refine aH (N := iB) (fb := ef) F kK fun cdv A outer s H E hr => ?_
 have hu := hr.units
 exact ai (aJ (bj hu (ah 0) (ae (af))) (aq (aw (ao D_law_with_sayings hr Ad (aa (ah 1) (aa (ah 2) (aa (ah 3) (ag))))))) (az)) (aq (aw (ao D_law_with_other hr Ad (aa (ah 0) (aa (ah 2) (aa (ah 3) (aa (ah 4) (ag))))))))
theorem lV {f : Addr} {fd : FuncData} (F : Fun K "_law_kind" "_law_kind" d6 f fd) (T : Txt w K mg C_NoCase C_NoKinds C_NoSaying C_NoSayings C_NoSentence C_NoThing C_SayError) (D_law_asked : DefD P w K mg base "_law_asked" 7 aU) : FnOk P w K mg base (CXe P w) 8 f fd ["_law_way", "_law_what", "_law_bad_here", "_law_many", "_law_case"] (spD K mg cF) := by
 refine aH (N := jh) (fb := gi) F bH fun cdv A outer s H E hr => ?_
 have hu := hr.units
 exact ai (aA 5 bH.nd (g7 (ae (af)))) (ai (t9 D_law_asked hr (aa (ah 0) (aa (ah 1) (aa (ah 2) (aa (ah 3) (aa (ah 4) (ag)))))) rfl rfl (fH T.k_NoSayings T.m_NoSayings (fun _ => aq (aA 5 bH.nd (af))) (fH T.k_NoCase T.m_NoCase (fun _ => aq (aA 5 bH.nd (af))) (fH T.k_NoSaying T.m_NoSaying (fun _ => aq (aA 5 bH.nd (af))) (fH T.k_NoThing T.m_NoThing (fun _ => aq (aA 5 bH.nd (af))) (fH T.k_NoKinds T.m_NoKinds (fun _ => aq (aA 5 bH.nd (af))) (fH T.k_NoSentence T.m_NoSentence (fun _ => aq (aA 5 bH.nd (af))) (vH)))))))) (aq (sF 5)))
theorem jl {f : Addr} {fd : FuncData} (F : Fun K "_law_by_base" "_law_by_base" bS f fd) (T : Txt w K mg C_NoCase C_NoKinds C_NoSaying C_NoSayings C_NoSentence C_NoThing C_SayError) (D_law_asked : DefD P w K mg base "_law_asked" 7 aU) : FnOk P w K mg base (CXe P w) 8 f fd ["_law_way", "_law_what", "_law_bad_here", "_law_many", "_law_case"] (spD K mg bA) := by
 refine aH (N := fX) (fb := ez) F fF fun cdv A outer s H E hr => ?_
 have hu := hr.units
 exact ai (qC 5 D_law_asked hr (aa (ah 0) (aa (ah 1) (aa (ah 2) (aa (ah 3) (aa (ah 4) (ag)))))) rfl rfl fF.nd T.k_SayError T.t_SayError (fun _ => aq (aw (sO 5 T.n_isinstance T.n_ValueError (by decide +kernel) T.i_ValueError)))) (aq (aw (d9)))
theorem fR {f : Addr} {fd : FuncData} (F : Fun K "_law_bad_sentence" "_law_bad_sentence" b5 f fd) (T : Txt w K mg C_NoCase C_NoKinds C_NoSaying C_NoSayings C_NoSentence C_NoThing C_SayError) : FnOk P w K mg base (CXe P w) 1 f fd ["_law_many", "_law_cell"] (spD K mg aO) := by
 refine aH (N := dR) (fb := cG) F aI fun cdv A outer s H E hr => ?_
 have hu := hr.units
 exact ai (aA 2 aI.nd (aN (aa (ae (aM)) (aa (ae (af)) (ag))))) (ai (aA 3 aI.nd (aG (aa (ae (cD)) (aa (ae (aM)) (aa (ae (aN (aa (ae (aM)) (aa (ae (af)) (ag))))) (aa (ae (aN (aa (ae (aM)) (aa (ae (aP (ah 0) (ae (af)))) (ag))))) (aa (ae (aN (aa (ae (aM)) (aa (ae (d9)) (ag))))) (aa (ae (aN (aa (ae (aM)) (aa (ae (aM)) (ag))))) (aa (ae (aN (aa (ae (aM)) (ag)))) (ag)))))))))) (ai (iI 3 (ae (aG (aa (ae (aN (aa (ae (aM)) (aa (ae (af)) (aa (ae (af)) (ag)))))) (aa (ae (aN (aa (ae (aM)) (aa (ah 2) (aa (ah 2) (ag)))))) (aa (ae (aN (aa (ae (aM)) (ag)))) (aa (ae (aN (aa (ae (aM)) (aa (ah 2) (ag))))) (aa (ae (aN (aa (ae (aM)) (aa (ah 2) (aa (ah 2) (aa (ah 2) (ag))))))) (aa (ae (aN (aa (ae (aM)) (aa (ah 2) (aa (ah 2) (ag)))))) (ag)))))))))) (ai (iI 3 (ae (aG (aa (ae (aG (aa (ae (aM)) (aa (ae (af)) (ag))))) (aa (ae (aN (aa (ae (aM)) (aa (ah 2) (aa (ae (cD)) (ag)))))) (aa (ae (aN (aa (ae (aM)) (aa (ae (aN (aa (ae (aM)) (aa (ae (af)) (ag))))) (aa (ah 2) (ag)))))) (aa (ae (aN (aa (ae (af)) (aa (ah 2) (ag))))) (aa (ae (aN (ag))) (ag))))))))) (ai (aA 4 aI.nd (qo 2)) (ai (j0 PassesOwn.leaving rfl (i3 T.n_range (ae (af))) (sI 5 aI.nd) (gH 5) (aq (aA 4 aI.nd (aN (aa (ae (aM)) (aa (ah 4) (ag))))))) (ai (aA 6 aI.nd (qo 2)) (ai (j0 PassesOwn.leaving rfl (i3 T.n_range (ae (af))) (sI 5 aI.nd) (gH 5) (aq (aA 6 aI.nd (aN (aa (ae (aM)) (aa (ah 6) (aa (ah 2) (ag)))))))) (ai (iI 3 (ae (aG (aa (ah 4) (aa (ah 6) (ag)))))) (aq (aw (bT hu (ah 3) (ae (cP (ah 1) (ae (af)))))))))))))))
theorem n6 {f : Addr} {fd : FuncData} (F : Fun K "_law_bad" "_law_bad" dG f fd) (T : Txt w K mg C_NoCase C_NoKinds C_NoSaying C_NoSayings C_NoSentence C_NoThing C_SayError) (D_law_bad_sentence : DefD P w K mg base "_law_bad_sentence" 1 aO) : FnOk P w K mg base (CXe P w) 2 f fd ["_law_way", "_law_many", "_law_case", "_law_cell"] (spD K mg aQ) := by
 refine aH (N := ke) (fb := cI) F fk fun cdv A outer s H E hr => ?_
 have hu := hr.units
 exact ai (aJ (qv (ah 0) (ae (af))) (ai (aA 4 fk.nd (aG (aa (ae (gG T.n_tuple boot_tuple (ah 2))) (aa (ae (aP (ah 2) (ae (aG (aa (ae (af)) (ag)))))) (aa (ae (eS (ah 2) (ae (af)))) (aa (ae (aP (ae (qr (ah 2) (ae (g7 (ae (af)))))) (ae (aG (aa (ae (af)) (ag)))))) (aa (ae (aP (ae (aG (aa (ae (d9)) (ag)))) (ae (eS (ah 2) (ae (af)))))) (aa (ae (aP (ae (aG (aa (ae (aM)) (ag)))) (ae (eS (ah 2) (ae (af)))))) (aa (ae (cD)) (ag)))))))))) (aq (aw (bT hu (ae (aP (ah 4) (ae (aG (aa (ae (aP (ae (qr (ah 2) (ae (g7 (ae (af)))))) (ae (aG (aa (ae (g7 (ae (af)))) (ag)))))) (ag)))))) (ae (cP (ah 3) (ae (af)))))))) (az)) (ai (aJ (bj hu (ah 0) (ae (af))) (aq (aw (bT hu (ae (aG (aa (ae (aG (aa (ae (af)) (ag)))) (aa (ae (aN (aa (ae (af)) (ag)))) (aa (ae (aN (aa (ae (aP (ah 1) (ae (af)))) (ag)))) (aa (ae (aN (aa (ae (af)) (aa (ae (af)) (ag))))) (aa (ae (aN (aa (ae (af)) (aa (ae (g7 (ae (af)))) (ag))))) (aa (ae (aN (aa (ae (d9)) (ag)))) (aa (ae (aN (aa (ae (aM)) (ag)))) (aa (ae (cD)) (aa (ae (aN (aa (ae (af)) (aa (ae (af)) (ag))))) (aa (ae (af)) (ag))))))))))))) (ae (cP (ah 3) (ae (af))))))) (az)) (ai (aJ (bj hu (ah 0) (ae (af))) (aq (aw (bT hu (ae (aG (aa (ae (af)) (aa (ae (aP (ah 1) (ae (af)))) (aa (ae (g7 (ae (af)))) (aa (ae (d9)) (aa (ae (aM)) (aa (ae (cD)) (ag))))))))) (ae (cP (ah 3) (ae (af))))))) (az)) (ai (aJ (bj hu (ah 0) (ae (af))) (ai (aA 5 fk.nd (dk (ae (aG (aa (ae (aM)) (ag)))) (ah 1))) (ai (aA 4 fk.nd (aG (aa (ae (gG T.n_tuple boot_tuple (ah 5))) (aa (ae (aP (ah 5) (ae (aG (aa (ae (aM)) (ag)))))) (aa (ae (eS (ah 5) (ae (af)))) (aa (ae (aP (ae (aG (aa (ae (aM)) (ag)))) (ae (eS (ah 5) (ae (af)))))) (aa (ae (aP (ae (aG (aa (ae (cD)) (ag)))) (ae (eS (ah 5) (ae (af)))))) (aa (ae (cD)) (aa (ae (aM)) (ag)))))))))) (aq (aw (bT hu (ae (aP (ah 4) (ae (aG (aa (ae (aP (ae (eS (ah 5) (ae (af)))) (ae (aG (aa (ae (af)) (ag)))))) (aa (ae (aP (ae (eS (ah 5) (ae (af)))) (ae (aG (aa (ae (aM)) (ag)))))) (ag))))))) (ae (cP (ah 3) (ae (af))))))))) (az)) (ai (aJ (qv (ah 0) (ae (af))) (aq (aw (ao D_law_bad_sentence hr Ad (aa (ah 1) (aa (ah 3) (ag)))))) (az)) (aq (aw (bT hu (ae (aG (aa (ae (af)) (aa (ae (af)) (aa (ae (d9)) (aa (ae (cD)) (aa (ae (aM)) (aa (ae (g7 (ae (af)))) (ag))))))))) (ae (cP (ah 3) (ae (af)))))))))))
theorem vJ {f : Addr} {fd : FuncData} (F : Fun K "law" "law" fY f fd) (T : Txt w K mg C_NoCase C_NoKinds C_NoSaying C_NoSayings C_NoSentence C_NoThing C_SayError) (D_law_mixed : DefD P w K mg base "_law_mixed" 2 aB) (D_law_sayings : DefD P w K mg base "_law_sayings" 4 bb) (D_law_bad : DefD P w K mg base "_law_bad" 2 aQ) (D_is_case : DefD P w K mg base "is_case" 2 aX) (D_law_by_base : DefD P w K mg base "_law_by_base" 8 bA) (D_law_kind : DefD P w K mg base "_law_kind" 8 cF) : FnOk P w K mg base (CXe P w) 9 f fd ["_law_script"] (spD K mg nY) := by
 refine aH (N := qP) (fb := qN) F dn fun cdv A outer s H E hr => ?_
 have hu := hr.units
 exact ai (aA 1 dn.nd (aP (ae (af)) (ae (ao D_law_mixed hr Ad (aa (ah 0) (aa (ae (af)) (aa (ae (af)) (ag)))))))) (ai (sM 2 dn.nd (N0 := qP) (sc0 := (defScope fY)) (F := [0]) (by decide +kernel) (by decide +kernel) (j2 T.n_range (ah 1)) (fun _ _ _ _ _ => gK) (fun _ _ _ _ _ => ao D_law_mixed hr gb (aa (ah 1) (aa (ae (aP (ae (af)) (ah 0))) (aa (ae (af)) (ag)))))) (ai (aA 3 dn.nd (ao D_law_mixed hr Ad (aa (ah 0) (aa (ae (af)) (aa (ae (af)) (ag)))))) (ai (aA 4 dn.nd (ao D_law_mixed hr Ad (aa (ah 0) (aa (ae (af)) (aa (ae (uT (ae (af)) (ae (af)))) (ag)))))) (ai (aA 5 dn.nd (ao D_law_mixed hr Ad (aa (ah 0) (aa (ae (af)) (aa (ae (af)) (ag)))))) (ai (aJ (bj hu (ah 3) (ae (af))) (ai (aA 6 dn.nd (ao D_law_sayings hr Ad (aa (ah 0) (aa (ae (af)) (aa (ah 1) (aa (ae (af)) (ag))))))) (ai (aA 7 dn.nd (bT hu (ae (aG (aa (ae (gG T.n_tuple boot_tuple (ah 6))) (aa (ae (aP (ah 6) (ae (dk (ae (aG (aa (ae (aN (ag))) (ag)))) (ae (af)))))) (aa (ae (cD)) (aa (ae (aP (ah 6) (ae (aG (aa (ae (aN (aa (ae (af)) (ag)))) (ag)))))) (aa (ae (aP (ae (aG (aa (ae (aN (aa (ae (aP (ah 1) (ae (af)))) (ag)))) (ag)))) (ah 6))) (ag)))))))) (ae (cP (ah 4) (ae (af)))))) (aq (aJ (oS (qx (bj hu (ae (cP (ah 4) (ae (af)))) (ae (af))) (nR (bj hu (ae (cP (ae (ku (ah 4) (ae (af)))) (ae (af)))) (ae (af)))))) (ai (aA 7 dn.nd (qo 6)) (aq (aA 1 dn.nd (bT hu (ae (aG (aa (ae (af)) (aa (ae (af)) (aa (ae (d9)) (aa (ae (aM)) (aa (ae (cD)) (ag)))))))) (ae (cP (ae (ku (ah 4) (ae (af)))) (ae (af)))))))) (az))))) (aq (aA 7 dn.nd (ao D_law_bad hr Ad (aa (ah 3) (aa (ah 1) (aa (ah 2) (aa (ah 4) (ag))))))))) (ai (aJ (oS (qx (vB hu (ah 3) (ae (aN (aa (ae (af)) (aa (ae (af)) (ag)))))) (nR (qI (ae (ao D_is_case hr Ad (aa (ah 7) (aa (ah 1) (ag))))) (ae (d9)))))) (aq (aw (d9))) (az)) (ai (aA 8 dn.nd (bT hu (ae (aG (aa (ae (af)) (aa (ae (af)) (aa (ae (af)) (aa (ae (af)) (aa (ae (af)) (aa (ae (af)) (aa (ae (af)) (aa (ae (af)) (aa (ae (af)) (aa (ae (af)) (ag))))))))))))) (ah 3))) (aq (aw (i0 (xy hu (ae (ao D_law_kind hr Ad (aa (ah 3) (aa (ah 5) (aa (ah 7) (aa (ah 1) (aa (ah 2) (ag)))))))) (ah 8)) (hZ (ao D_law_by_base hr Ad (aa (ah 3) (aa (ah 5) (aa (ah 7) (aa (ah 1) (aa (ah 2) (ag))))))))))))))))))
end
theorem vK (ns : List Int) (k : Int) (hk : 0 <= k) : ba [scr ns, .int k] = .ok (.sh (.int (BN ns k))) := by
 have hs : ∀ l : List Int, SeqAt.shaped (.list (l.map PyData.int)) = true := fun l => (cU (dv 0 l)).shaped (by decide)
 have hs0 : SeqAt.shaped (.list []) = true := hs []
 unfold BN
 by_cases h1 : k < ns.length
 ·simp [ba, cB, h1, j7 hk h1]
 ·by_cases h2 : ns = []
  ·subst h2
   have h1' : ¬ k < 0 := by lia
   simp [ba, cB, h1', nU, hs0]
  ·have hl : 0 < (ns.length : Int) := by
    have := List.length_pos_iff.mpr h2
    lia
   have hl' : 0 < ns.length := by lia
   have h3 := Int.emod_nonneg k (b := (ns.length : Int)) (by lia)
   have h4 := Int.emod_lt_of_pos k hl
   simp [ba, cB, h1, h2, nU, hs0, hs ns, hl', j7 h3 h4, kD]
theorem h8 (ns : List Int) (k m : Int) (hk : 0 <= k) (hm : 0 < m) : aB [scr ns, .int k, .int m] = .ok (.sh (.int (mixZ ns k m))) := by
 have h1 := oZ ns k
 have h2 := p0 ns k
 have e : (BN ns k + 7919 * k + 1) * 48271 % 2147483647 = AZ ns k := rfl
 have c1 : cMul (AZ ns k) (AZ ns k) = true := kE (by lia) (by lia)
 simp [aB, fz, vK ns k hk, kE, kD, e, c1, hm]
 rfl
theorem yH (ns : List Int) (at_ many : Int) (ha : 0 <= at_) (hm : 0 < many) (hm2 : many <= 1000) : cu [scr ns, .int at_, .int many] = .ok (.sh (encS (sayZ ns at_ many))) := by
 have m0 := cS ns at_ (m := 7) (by decide)
 have m1 := d7 ns at_ (m := 7) (by decide)
 have hs := qG ns at_
 obtain ⟨p1, p2, p3, p4⟩ := i5 (ns := ns) (at_ := at_) hm (AE ns at_).toNat
 have hl : ∀ n, (Am ns at_ many n).length <= n := fun n => (i5 (ns := ns) (at_ := at_) hm n).2.2.2
 obtain ⟨δ', e1, x4, x5, rfl⟩ := mP (k := kN 4) (fb := dP) (lo := 0) (n := (AE ns at_).toNat) (δ := [some (.sh (scr ns)), some (.sh (.int at_)), some (.sh (.int many)), some (.od []), none, none])
  (fun j δ => ∃ x4 x5, δ = [some (.sh (scr ns)), some (.sh (.int at_)), some (.sh (.int many)), some (.od (encP (Am ns at_ many j))), x4, x5]) ⟨none, none, rfl⟩ (by
   rintro i δ hi ⟨x4, x5, rfl⟩
   refine ⟨_, rfl, ?_⟩
   have hf1 := h8 ns (at_ + 1 + i) many (by lia) hm
   have hf2 := h8 ns (at_ + 1 + i) (2 * many) (by lia) (by lia)
   have hli := hl i
   have hll : (Am ns at_ many i).length < sizeLine := sT (by lia)
   have hb : many < 1073741824 := by lia
   simp [dP, hf1, hf2, kE, kD, hm, hb, hll, qF]
   rfl)
 have h7 : atI [PyData.int 1, .int 2, .int 2, .int 3, .int 3, .int 3, .int 0] (mixZ ns at_ 7) = some (.int (AE ns at_)) := by
  have := j7 (ns := [1, 2, 2, 3, 3, 3, 0]) m0 m1
  exact this
 have hr : rngB (AE ns at_) = true := kC (by lia) (by lia)
 have hlen : (Am ns at_ many (AE ns at_).toNat).length < 64 := by lia
 have hsl : (B2 (B8 (Am ns at_ many (AE ns at_).toNat))).length <= sizeLine := bh (by rw [(eT _).length_eq]; unfold B8; rw [List.length_map]; lia)
 have hc : AJ ([none, some (.sh (.dict (encP (Am ns at_ many (AE ns at_).toNat))))]) Av cT ((B2 (B8 (Am ns at_ many (AE ns at_).toNat))).map PyData.int) = some ((sayZ ns at_ many).map PyData.int) := by
  have := eG (ρ := [none, some (.sh (.dict (encP (Am ns at_ many (AE ns at_).toNat))))]) (te := cT)
   (y := fun d => match d with | .int t => .int (t * (valZ (Am ns at_ many (AE ns at_).toNat) t).getD 0) | d => d) (ds := (B2 (B8 (Am ns at_ many (AE ns at_).toNat))).map PyData.int) fun d hd => by
    obtain ⟨t, ht, rfl⟩ := List.mem_map.mp hd
    have ht' := (eT _).mem_iff.mp ht
    obtain ⟨v, ev, p, hp, hv⟩ := sU ht'
    have hv' : v = 1 \/ v = -1 := by rw [<- hv]; exact p3 p hp
    have hcm : cMul t v = true := kD (by lia) (by lia)
    simp [cT, jU, ev, hcm]
  rw [this]
  unfold sayZ
  rw [List.map_map, List.map_map]
  rfl
 simp only [cu, fg]
 simp [h8 ns at_ 7 ha (by decide), h7, hr, e1, hlen, hsl, hc]
 rfl
theorem vL (ns : List Int) (at_ many most : Int) (ha : 0 <= at_) (hm : 0 < many) (hm2 : many <= 1000) (h0 : 0 <= most) (h1 : most <= 1000) : bb [scr ns, .int at_, .int many, .int most] = .ok (.ol (B3 (B9 ns at_ many most))) := by
 have m0 := cS ns at_ (m := most + 1) (by lia)
 have m1 := d7 ns at_ (m := most + 1) (by lia)
 have hr : rngB (mixZ ns at_ (most + 1)) = true := kC (by lia) (by lia)
 have hl : (rngI 0 (mixZ ns at_ (most + 1)).toNat).length <= sizeLine := bh (by rw [dM]; lia)
 have hc : AJ [none, some (.sh (.int at_)), some (.sh (.int many)), some (.sh (scr ns))] Av cC (rngI 0 (mixZ ns at_ (most + 1)).toNat) = some (B3 (B9 ns at_ many most)) := by
  have := eG (ρ := [none, some (.sh (.int at_)), some (.sh (.int many)), some (.sh (scr ns))]) (te := cC) (y := fun d => match d with | .int k => encS (sayZ ns (at_ + 1 + 4 * k) many) | d => d) (ds := rngI 0 (mixZ ns at_ (most + 1)).toNat) fun d hd => by
   obtain ⟨k, hk, rfl⟩ := List.mem_map.mp hd
   have hf := yH ns (at_ + 1 + 4 * (0 + (k : Int))) many (by lia) hm hm2
   rw [Int.zero_add] at hf ⊢
   simp [cC, hf, kE]
  rw [this]
  unfold B3 B9 rngI
  rw [List.map_map, List.map_map]
  congr 1
  apply List.map_congr_left
  intro k _
  simp only [Function.comp, Int.zero_add]
 simp only [bb, eu]
 simp [h8 ns at_ (most + 1) ha (by lia), hr, hl, hc]
theorem eg (d : PyData) (h : ∀ es, d ≠ .dict es) : bx [d] = .ok (.sh (.bool (isWh d))) := by
 rw [<- yr h]
 simp only [bx, gd]
 cases h1 : isiD "int" d <;> simp [eW, h, h1]
theorem qS {d : PyData} (h : ∀ i, d ≠ .int i) : isWh d = false := by
 cases d <;> first | rfl | exact absurd rfl (h _)
theorem lW (t : PyData) (many : Int) : ∀ (ds : A4) (last : Int) (pv : Option SD), (∀ d ∈ ds, ∀ es, d ≠ .dict es) -> ∃ pv', forL (kN 3) bN ds [some (.sh t), some (.sh (.int many)), some (.sh (.int last)), pv] = match AK many last ds with
  | some l => .nx [some (.sh t), some (.sh (.int many)), some (.sh (.int l)), pv']
  | none => .rt (.sh (.bool false))
 | [], last, pv, _ => ⟨pv, rfl⟩
 | d :: r, last, pv, h => by
  have hd := h d (List.mem_cons_self ..)
  rw [eF]
  by_cases hi : ∃ p, d = .int p
  ·obtain ⟨p, rfl⟩ := hi
   obtain ⟨pv', ih⟩ := lW t many r (absI p) (some (.sh (.int p))) fun d' hd' => h d' (List.mem_cons_of_mem _ hd')
   refine ⟨pv', ?_⟩
   rw [AK]
   unfold absI at ih ⊢
   by_cases h1 : (if p < 0 then -p else p) <= last
   ·simp [bN, eg _ hd, isWh, h1]
   ·by_cases h2 : many < (if p < 0 then -p else p)
    ·simp [bN, eg _ hd, isWh, h1, h2]
    ·simp [bN, eg _ hd, isWh, h1, h2]
     exact ih
  ·have hw := qS (d := d) fun i e => hi ⟨i, e⟩
   have hs : AK many last (d :: r) = none := by
    cases d <;> first | rfl | exact absurd ⟨_, rfl⟩ hi
   refine ⟨none, ?_⟩
   rw [hs]
   simp [bN, eg _ hd, hw]
theorem ud (t : PyData) (many : Int) (h : ∀ es, t ≠ .dict es) (h2 : ∀ ds, t = .tuple ds -> ∀ d ∈ ds, ∀ es, d ≠ .dict es) : bt [t, .int many] = .ok (.sh (.bool (As many t))) := by
 simp only [bt, fy]
 by_cases ht : ∃ ds, t = .tuple ds
 ·obtain ⟨ds, rfl⟩ := ht
  obtain ⟨pv', e⟩ := lW (.tuple ds) many ds 0 none (h2 ds rfl)
  have hi : isiD "tuple" (.tuple ds) = true := rfl
  cases hs : AK many 0 ds with
  | none => rw [hs] at e; simp [hi, e, As, hs]
  | some l => rw [hs] at e; simp [hi, e, As, hs]
 ·have hi : isiD "tuple" t = false := by cases t <;> first | rfl | exact absurd ⟨_, rfl⟩ ht | exact absurd rfl (h _)
  have hs : As many t = false := by cases t <;> first | rfl | exact absurd ⟨_, rfl⟩ ht
  simp [eW "tuple" h, hi, hs]
theorem n8 {n : Nat} {t : PyData} (h : Ai n t) : ∀ ds, t = .tuple ds -> ∀ d ∈ ds, ∀ es, d ≠ .dict es := fun ds e d hd => by
 subst e
 exact (lI h d hd).nd
theorem ue {n : Nat} {t : PyData} (many : Int) (h : Ai n t) : bt [t, .int many] = .ok (.sh (.bool (As many t))) := ud t many h.nd (n8 h)
noncomputable def Az (many : Int) : A4 -> Bool
 | [] => true
 | x :: r => As many x && Az many r
theorem jm {many : Int} : ∀ {xs : A4}, Az many xs = true ↔ ∀ x ∈ xs, As many x = true
 | [] => by simp [Az]
 | x :: r => by simp [Az, jm (xs := r)]
theorem kf {k : Nat} (h : k <= 1000) : ((k : Int)).natAbs.log2 < 1920 := by
 have := Nat.log2_le_self k
 show k.log2 < 1920
 lia
theorem lX (t : PyData) (many : Int) : ∀ (xs : A4) (k : Nat) (p s : Option SD), (∀ x ∈ xs, Ai 50 x) -> k + xs.length <= 1000 -> ∃ p' s', forL (kTup [2, 3]) dU (AO k xs) [some (.sh t), some (.sh (.int many)), p, s] = if Az many xs = true then .nx [some (.sh t), some (.sh (.int many)), p', s'] else .exc "NoSayings"
 | [], k, p, s, _, _ => ⟨p, s, rfl⟩
 | x :: r, k, p, s, h, hk => by
  have hx := h x (List.mem_cons_self ..)
  rw [List.length_cons] at hk
  obtain ⟨p', s', ih⟩ := lX t many r (k + 1) (some (.sh (.int k))) (some (.sh x)) (fun y hy => h y (List.mem_cons_of_mem _ hy)) (by lia)
  refine ⟨p', s', ?_⟩
  rw [AO, eF]
  have hlog : k.log2 < 1920 := kf (k := k) (by lia)
  cases hs : As many x with
  | true =>
   simp [dU, ue many hx, hs, Az]
   exact ih
  | false => simp [dU, ue many hx, hs, hlog, Az]
noncomputable def areB (things m : PyData) : Bool := match m, things with
 | .int many, .list xs => decide (1 <= many) && decide (many <= 16) && decide (xs.length <= 24) && Az many xs
 | _, _ => false
noncomputable def isFr (most : Int) : PyData -> Bool
 | .int k => decide (1 <= k) && decide (k <= most)
 | _ => false
theorem cy (d : PyData) (most : Int) (h : ∀ es, d ≠ .dict es) : aC [d, .int most] = .ok (.sh (.bool (isFr most d))) := by
 simp only [aC, cW]
 by_cases h1 : ∃ k, d = .int k
 ·obtain ⟨k, rfl⟩ := h1
  by_cases h2 : 1 <= k
  ·simp [eg _ h, isWh, isFr, h2]
  ·have h2' : k < 1 := by lia
   simp [eg _ h, isWh, isFr, h2, h2']
 ·have hw := qS (d := d) fun i e => h1 ⟨i, e⟩
  have hf : isFr most d = false := by cases d <;> first | rfl | exact absurd ⟨_, rfl⟩ h1
  simp [eg _ h, hw, hf]
theorem oj {things m : PyData} (ht : Ai 51 things) (hi : ∀ xs, things = .list xs -> ∀ x ∈ xs, Ai 50 x) (hm : Ai 50 m) : ar [things, m] = if areB things m = true then (match things with | .list xs => .ok (.ol xs) | _ => .bad) else .exc "NoSayings" := by
 simp only [ar, i6]
 by_cases h1 : ∃ many, m = .int many
 ·obtain ⟨many, rfl⟩ := h1
  by_cases h2 : many < 1
  ·have hF : isFr 16 (.int many) = false := by simp [isFr]; lia
   have e : areB things (.int many) = false := by unfold areB; split <;> simp_all <;> lia
   simp [cy _ 16 hm.nd, hF, e]
  ·by_cases h3 : 16 < many
   ·have hF : isFr 16 (.int many) = false := by simp [isFr]; lia
    have e : areB things (.int many) = false := by unfold areB; split <;> simp_all <;> lia
    simp [cy _ 16 hm.nd, hF, e]
   ·have hF : isFr 16 (.int many) = true := by simp [isFr]; lia
    by_cases h4 : ∃ xs, things = .list xs
    ·obtain ⟨xs, rfl⟩ := h4
     have hl : isiD "list" (.list xs) = true := rfl
     by_cases h5 : 24 < xs.length
     ·have e : areB (.list xs) (.int many) = false := by simp [areB]; lia
      have h5' : (24 : Int) < xs.length := by lia
      simp [cy _ 16 hm.nd, hF, hl, h5', e]
     ·have h5' : ¬ (24 : Int) < xs.length := by lia
      obtain ⟨p', s', el⟩ := lX (.list xs) many xs 0 none none (hi xs rfl) (by lia)
      have e : areB (.list xs) (.int many) = Az many xs := by
       simp only [areB]
       rw [decide_eq_true (show 1 <= many by lia), decide_eq_true (show many <= 16 by lia), decide_eq_true (show xs.length <= 24 by lia)]
       rfl
      rw [e]
      cases ha : Az many xs with
      | true =>
       rw [ha] at el
       simp only [if_true] at el
       simp [cy _ 16 hm.nd, hF, hl, h5', el]
      | false =>
       rw [ha] at el
       simp only [Bool.false_eq_true, if_false] at el
       simp [cy _ 16 hm.nd, hF, hl, h5', el]
    ·have hl : isiD "list" things = false := by cases things <;> first | rfl | exact absurd ⟨_, rfl⟩ h4 | exact absurd rfl (ht.nd _)
     have e : areB things (.int many) = false := by unfold areB; split <;> simp_all
     simp [cy _ 16 hm.nd, hF, eW "list" ht.nd, hl, e]
 ·have hF : isFr 16 m = false := by cases m <;> first | rfl | exact absurd ⟨_, rfl⟩ h1
  have e : areB things m = false := by unfold areB; split <;> simp_all
  simp [cy _ 16 hm.nd, hF, e]
section
variable {d m : PyData} (h : ar [d, m] = .exc "NoSayings")
include h
theorem om : dY [d, m] = .exc "NoSayings" := by simp [dY, kI, h]
theorem ph : dw [d, m] = .exc "NoSayings" := by simp [dw, i8, om h]
theorem yI : bp [d, m] = .exc "NoSayings" := by simp [bp, dm, h]
theorem pj : bq [d, m, .none] = .exc "NoSayings" := by simp [bq, fJ, h]
theorem ng : dO [d, m] = .exc "NoSayings" := by simp [dO, refD, h]
theorem qT (e : PyData) : dt [d, e, m] = .exc "NoSayings" := by simp [dt, iJ, h]
theorem nh (e : PyData) : cn [d, e, m] = .exc "NoSayings" := by simp [cn, fK, h]
theorem tq : bO [d, m] = .exc "NoSayings" := by simp [bO, et, h]
theorem lY : aY [d, m, .int 0] = .exc "NoSayings" := by simp [aY, dZ, h]
theorem vM : cq [d, m] = .exc "NoSayings" := by simp [cq, eZ, h]
theorem qU : bX [d, m, .none] = .exc "NoSayings" := by simp [bX, gO, h]
theorem vN : ei [d, m, .none] = .exc "NoSayings" := by simp [ei, kH, h]
theorem qV (h0 : ar [.list [], m] = .ok (.ol []) \/ ar [.list [], m] = .exc "NoSayings") : dt [.list [], d, m] = .exc "NoSayings" := by
 rcases h0 with h0 | h0 <;> simp [dt, iJ, h0, h]
theorem ni (h0 : ar [.list [], m] = .ok (.ol []) \/ ar [.list [], m] = .exc "NoSayings") : cn [.list [], d, m] = .exc "NoSayings" := by
 rcases h0 with h0 | h0 <;> simp [cn, fK, h0, h]
theorem vO (h0 : ar [.list [], m] = .ok (.ol []) \/ ar [.list [], m] = .exc "NoSayings") (k : Int) (h1 : 0 <= k) (h2 : k < 14) : aT [.int k, d, m] = .exc "NoSayings" := by
 have e1 := om h
 have e2 := ph h
 have e3 := yI h
 have e4 := pj h
 have e5 := ng h
 have e6 := qT h (.list [])
 have e7 := qV h h0
 have e8 := tq h
 have e9 := nh h (.list [])
 have e10 := ni h h0
 have e11 := lY h
 have e12 := vM h
 have e13 := qU h
 have e14 := vN h
 simp only [aT, cE]
 obtain ⟨n, rfl⟩ := Int.eq_ofNat_of_zero_le h1
 have hn : n < 14 := by lia
 match n, hn with
 | 0, _ => simp [e1]
 | 1, _ => simp [e2]
 | 2, _ => simp [e3]
 | 3, _ => simp [e4]
 | 4, _ => simp [e5]
 | 5, _ => simp [e6]
 | 6, _ => simp [e7]
 | 7, _ => simp [e8]
 | 8, _ => simp [e9]
 | 9, _ => simp [e10]
 | 10, _ => simp [e11]
 | 11, _ => simp [e12]
 | 12, _ => simp [e13]
 | 13, _ => simp [e14]
end
noncomputable def bitD : PyData -> Bool
 | .int i => decide (i = 0) || decide (i = 1)
 | _ => false
noncomputable def simD : PyData -> Bool
 | .int _ => true
 | .bool _ => true
 | .str _ => true
 | _ => false
theorem in01 (q : Int) : dIn2 [.int q, .tuple [.int 0, .int 1]] = some (.sh (.bool (decide (q = 0) || decide (q = 1)))) := by
 have h1 : SeqAt.shaped (.int q) = true := (cR 0 q).shaped (by decide)
 have h2 : SeqAt.shaped (.list [.int 0, .int 1]) = true := (cU (dv 0 [0, 1])).shaped (by decide)
 show (inB (.int q) (.tuple [.int 0, .int 1])).map (fun b => SD.sh (.bool b)) = _
 unfold inB
 dsimp only
 rw [if_pos ⟨h1, h2⟩]
 simp only [List.any_cons, List.any_nil, PyData.eqv, Bool.or_false, Option.map_some]
 congr 3
 by_cases a : q = 0
 ·subst a; rfl
 ·by_cases b : q = 1
  ·subst b; rfl
  ·have a' : ¬ 0 = q := fun z => a z.symm
   have b' : ¬ 1 = q := fun z => b z.symm
   simp [a, b, a', b']
theorem vP {x : PyData} (h : simD x = true) : bW [some (.sh x)] = .ok (.sh (.bool (bitD x)), [some (.sh x)]) := by
 have hw := eg x (fun es e => by subst e; cases h)
 cases x with
 | int i =>
  have h1 := in01 i
  have hi : isWh (.int i) = true := rfl
  rw [hi] at hw
  simp [bW, hw, h1, bitD]
 | bool b =>
  have hi : isWh (.bool b) = false := rfl
  rw [hi] at hw
  simp [bW, hw, bitD]
 | str s =>
  have hi : isWh (.str s) = false := rfl
  rw [hi] at hw
  simp [bW, hw, bitD]
 | _ => cases h
theorem cN {xs : A4} (h : ∀ x ∈ xs, simD x = true) (hl : xs.length <= 100) (n : Int) : aX [.list xs, .int n] = .ok (.sh (.bool (decide ((xs.length : Int) = n) && xs.all bitD))) := by
 have hc : AJ [none] Av bW xs = some (xs.map fun x => .bool (bitD x)) := eG (ρ := [none]) (te := bW) (y := fun x => .bool (bitD x)) fun x hx => ⟨[some (.sh x)], by
  have e := vP (h x hx)
  simp [e]⟩
 have hi : isiD "list" (.list xs) = true := rfl
 have hz : xs.length <= sizeLine := bh (by lia)
 have ha : dAll [.list (xs.map fun x => .bool (bitD x))] = some (.sh (.bool (xs.all bitD))) := by
  rw [iH]
  have : Au (xs.map fun x => .bool (bitD x)) = some (xs.map bitD) := by
   clear hc hi hz h hl
   induction xs with
   | nil => rfl
   | cons a r ih => simp [Au, ih]
  rw [this, Option.map_some, List.all_map]
  rfl
 simp only [aX, fI]
 by_cases e : (xs.length : Int) = n
 ·have pb : Aa (xs.map fun x => PyData.bool (bitD x)) = true := by
   clear hc ha hi hz h hl e
   induction xs with
   | nil => rfl
   | cons a r ih => simp [Ac, ih]
  generalize (xs.map fun x => PyData.bool (bitD x)) = BS at hc ha pb
  simp [-iH, hi, e, hc, ha, hz, pb]
 ·simp [hi, e]
open Sy (Bj)
theorem jn {d : PyData} (h1 : isiD "list" d = false) (h2 : ∀ es, d ≠ .dict es) (n : Int) : aX [d, .int n] = .ok (.sh (.bool false)) := by
 simp [aX, fI, eW "list" h2, h1]
theorem jo (l : List Int) : ∀ x ∈ l.map PyData.int, simD x = true := fun x hx => by
 obtain ⟨i, _, rfl⟩ := List.mem_map.mp hx
 rfl
theorem qW {xs : A4} (h : 1 <= xs.length) : cutD xs none (some (-1)) = xs.dropLast := by
 unfold cutD
 rw [HT.la]
 have e : HT.sIx xs.length xs.length (some (-1)) = xs.length - 1 := by
  unfold HT.sIx
  simp
  lia
 rw [e, List.drop_zero, Nat.sub_zero, List.dropLast_eq_take]
theorem kg {xs : A4} (h : 1 <= xs.length) : cutD xs (some 1) none = xs.drop 1 := by
 unfold cutD
 rw [HT.la, show (some (1 : Int)) = some ((1 : Nat) : Int) from rfl, HT.rJ, Nat.min_eq_left h]
 exact List.take_of_length_le (by rw [List.length_drop]; exact Nat.le_refl _)
theorem lZ {n : Nat} {c : List Int} (hc : Bj n c) (h1 : 1 <= n) (h5 : n <= 5) {way cell : Int} (w0 : 1 <= way) (w3 : way < 3) (c0 : 0 <= cell) :
  ∃ d, aQ [.int way, .int n, encL c, .int cell] = .ok (.sh d) /\ aX [d, .int n] = .ok (.sh (.bool false)) := by
 have hlen := hc.len
 have r0 := Int.emod_nonneg cell (b := 8) (by decide)
 have r1 := Int.emod_lt_of_pos cell (b := 8) (by decide)
 have s1 : slD (.list (c.map PyData.int)) (some 1) none = some (.ol ((c.drop 1).map PyData.int)) := by
  unfold slD
  dsimp only
  rw [kg (by rw [List.length_map]; lia), List.map_drop]
 have s2 : slD (.list (c.map PyData.int)) none (some (-1)) = some (.ol (c.dropLast.map PyData.int)) := by
  unfold slD
  dsimp only
  rw [qW (by rw [List.length_map]; lia), List.map_dropLast]
 have k1 : ((c.drop 1).map PyData.int).length + 1 = n := by rw [List.length_map, List.length_drop]; lia
 have k2 : (c.dropLast.map PyData.int).length + 1 = n := by rw [List.length_map, List.length_dropLast]; lia
 have k3 : (c.map PyData.int).length = n := by rw [List.length_map]; exact hlen
 have q1 := jo (c.drop 1)
 have q2 := jo c.dropLast
 have q3 := jo c
 have p1 := df (c.drop 1)
 have p2 := df c.dropLast
 have p3 := df c
 unfold encL
 generalize (c.drop 1).map PyData.int = A at *
 generalize c.dropLast.map PyData.int = B at *
 generalize c.map PyData.int = C at *
 have z1 : A.length + 1 <= sizeLine := bh (by lia)
 have z1' : 1 + A.length <= sizeLine := bh (by lia)
 have z2 : B.length + 1 <= sizeLine := bh (by lia)
 have z3 : C.length + 1 <= sizeLine := bh (by lia)
 have z4 : C.length <= sizeLine := bh (by lia)
 have zz : (8 : Nat) <= sizeLine := by decide
 have z7 : (7 : Nat) <= sizeLine := by decide
 have nd : ∀ xs : A4, (∀ x ∈ xs, simD x = true) -> ∀ y, simD y = true -> ∀ x ∈ xs ++ [y], simD x = true := fun xs h y hy x hx => by
  rcases List.mem_append.mp hx with z | z
  ·exact h x z
  ·rw [List.mem_singleton] at z
   subst z
   exact hy
 have nc : ∀ xs : A4, (∀ x ∈ xs, simD x = true) -> ∀ y, simD y = true -> ∀ x ∈ y :: xs, simD x = true := fun xs h y hy x hx => by
  rcases List.mem_cons.mp hx with z | z
  ·subst z
   exact hy
  ·exact h x z
 generalize hr : cell % 8 = r at r0 r1
 obtain ⟨k, rfl⟩ := Int.eq_ofNat_of_zero_le r0
 have hk : k < 8 := by lia
 simp only [aQ, cI]
 match k, hk with
 | 0, _ => exact ⟨.tuple C, by simp [w3, s1, s2, z1, z1', z2, z3, z4, hr, p1, p2, p3, Ac, Aa]; rfl, jn rfl (fun es e => by cases e) n⟩
 | 1, _ => exact ⟨.list (C ++ [.int 0]), by simp [w3, s1, s2, z1, z1', z2, z3, z4, hr, p1, p2, p3, Ac, Aa]; rfl, by rw [cN (nd C q3 _ rfl) (by simp; lia)]; simp; lia⟩
 | 2, _ => exact ⟨.list A, by simp [w3, s1, s2, z1, z1', z2, z3, z4, hr, p1, p2, p3, Ac, Aa]; rfl, by rw [cN q1 (by lia)]; simp; lia⟩
 | 3, _ => exact ⟨.list (B ++ [.int 2]), by simp [w3, s1, s2, z1, z1', z2, z3, z4, hr, p1, p2, p3, Ac, Aa]; rfl, by rw [cN (nd B q2 _ rfl) (by simp; lia)]; simp [bitD]⟩
 | 4, _ => exact ⟨.list (.bool true :: A), by simp [w3, s1, s2, z1, z1', z2, z3, z4, hr, p1, p2, p3, Ac, Aa]; rfl, by rw [cN (nc A q1 _ rfl) (by simp; lia)]; simp [bitD]⟩
 | 5, _ => exact ⟨.list (.str "0" :: A), by simp [w3, s1, s2, z1, z1', z2, z3, z4, hr, p1, p2, p3, Ac, Aa]; rfl, by rw [cN (nc A q1 _ rfl) (by simp; lia)]; simp [bitD]⟩
 | 6, _ => exact ⟨.none, by simp [w3, s1, s2, z1, z1', z2, z3, z4, hr, p1, p2, p3, Ac, Aa]; rfl, jn rfl (fun es e => by cases e) n⟩
 | 7, _ => exact ⟨.list (B ++ [.int (-1)]), by simp [w3, s1, s2, z1, z1', z2, z3, z4, hr, p1, p2, p3, Ac, Aa]; rfl, by rw [cN (nd B q2 _ rfl) (by simp; lia)]; simp [bitD]⟩
theorem chk0 {n : Nat} (h1 : 1 <= n) (h5 : n <= 5) : ar [.list [], .int n] = .ok (.ol []) := by
 have hb : areB (.list []) (.int n) = true := by
  simp [areB, Az]
  lia
 rw [oj ((cU (n := 50) (xs := []) fun x hx => absurd hx (by simp))) (fun xs e x hx => by cases e; simp at hx) (cR 50 n), if_pos hb]
theorem nj {n : Nat} (h1 : 1 <= n) (h5 : n <= 5) {d : PyData} (hd : ∀ es, d ≠ .dict es) (hd2 : ∀ ds, d = .tuple ds -> ∀ x ∈ ds, ∀ es, x ≠ .dict es) (hs : As n d = false) : bq [.list [], .int n, d] = .exc "NoSaying" := by
 have e1 := chk0 h1 h5
 have e2 := ud d n hd hd2
 rw [hs] at e2
 simp [bq, fJ, e1, e2]
theorem tu {n : Nat} (h1 : 1 <= n) (h5 : n <= 5) {d : PyData} (hd : ∀ es, d ≠ .dict es) (hs : isFr n d = false) : aY [.list [], .int n, d] = .exc "NoThing" := by
 have e1 := chk0 h1 h5
 have e2 := cy d n hd
 rw [hs] at e2
 have hlog : n.log2 < 1920 := kf (k := n) (by lia)
 simp [aY, dZ, e1, e2, hlog]
theorem qX {s d : PyData} (hd : ∀ es, d ≠ .dict es) (hs : isFr 5 d = false) : aj [s, d] = .exc "NoSentence" := by
 have e2 := cy d 5 hd
 rw [hs] at e2
 simp [aj, bF, e2]
theorem uf {s d : PyData} (h : aj [s, d] = .exc "NoSentence") : bI [s, d] = .exc "NoSentence" := by
 simp [bI, ff, h]
theorem oo {s d e : PyData} (h : aj [s, d] = .exc "NoSentence") : bP [s, d, e] = .exc "NoSentence" := by
 simp [bP, fL, h]
theorem tw {n : Nat} (h1 : 1 <= n) (h5 : n <= 5) {C : PyData} {cell : Int} (c0 : 0 <= cell) :
  ∃ d, aQ [.int 3, .int n, C, .int cell] = .ok (.sh d) /\ bq [.list [], .int n, d] = .exc "NoSaying" := by
 have r0 := Int.emod_nonneg cell (b := 10) (by decide)
 have r1 := Int.emod_lt_of_pos cell (b := 10) (by decide)
 generalize hr : cell % 10 = r at r0 r1
 obtain ⟨k, rfl⟩ := Int.eq_ofNat_of_zero_le r0
 have hk : k < 10 := by lia
 have eA : absI ((n : Int) + 1) = (n : Int) + 1 := by unfold absI; rw [if_neg (by lia)]
 have key : ∀ d, (∀ es, d ≠ .dict es) -> (∀ ds, d = .tuple ds -> ∀ x ∈ ds, ∀ es, x ≠ .dict es) -> As n d = false -> bq [.list [], .int n, d] = .exc "NoSaying" := fun d a b c => nj h1 h5 a b c
 simp only [aQ, cI]
 match k, hk with
 | 0, _ => exact ⟨.list [.int 1], by simp [hr]; rfl, key _ (fun es e => by cases e) (fun ds e => by cases e) rfl⟩
 | 1, _ => exact ⟨.tuple [.int 0], by simp [hr]; rfl, key _ (fun es e => by cases e) (fun ds e x hx es z => by cases e; simp at hx; subst hx; cases z) (by simp [As, AK, absI])⟩
 | 2, _ => exact ⟨.tuple [.int ((n : Int) + 1)], by simp [hr]; rfl, key _ (fun es e => by cases e) (fun ds e x hx es z => by cases e; simp at hx; subst hx; cases z) (by simp [As, AK, eA]; lia)⟩
 | 3, _ => exact ⟨.tuple [.int 1, .int 1], by simp [hr]; rfl, key _ (fun es e => by cases e) (fun ds e x hx es z => by cases e; simp at hx; subst hx; cases z) (by simp [As, AK, absI])⟩
 | 4, _ => exact ⟨.tuple [.int 1, .int (-1)], by simp [hr]; rfl, key _ (fun es e => by cases e) (fun ds e x hx es z => by cases e; simp at hx; rcases hx with rfl | rfl <;> cases z) (by simp [As, AK, absI])⟩
 | 5, _ => exact ⟨.tuple [.bool true], by simp [hr]; rfl, key _ (fun es e => by cases e) (fun ds e x hx es z => by cases e; simp at hx; subst hx; cases z) (by simp [As, AK, absI])⟩
 | 6, _ => exact ⟨.tuple [.str "1"], by simp [hr]; rfl, key _ (fun es e => by cases e) (fun ds e x hx es z => by cases e; simp at hx; subst hx; cases z) (by simp [As, AK, absI])⟩
 | 7, _ => exact ⟨.none, by simp [hr]; rfl, key _ (fun es e => by cases e) (fun ds e => by cases e) rfl⟩
 | 8, _ => exact ⟨.tuple [.int 2, .int 1], by simp [hr]; rfl, key _ (fun es e => by cases e) (fun ds e x hx es z => by cases e; simp at hx; rcases hx with rfl | rfl <;> cases z) (by simp [As, AK, absI])⟩
 | 9, _ => exact ⟨.int 1, by simp [hr]; rfl, key _ (fun es e => by cases e) (fun ds e => by cases e) rfl⟩
theorem pq {n : Nat} (h1 : 1 <= n) (h5 : n <= 5) {C : PyData} {cell : Int} (c0 : 0 <= cell) :
  ∃ d, aQ [.int 4, .int n, C, .int cell] = .ok (.sh d) /\ aY [.list [], .int n, d] = .exc "NoThing" := by
 have r0 := Int.emod_nonneg cell (b := 6) (by decide)
 have r1 := Int.emod_lt_of_pos cell (b := 6) (by decide)
 generalize hr : cell % 6 = r at r0 r1
 obtain ⟨k, rfl⟩ := Int.eq_ofNat_of_zero_le r0
 have hk : k < 6 := by lia
 have key : ∀ d, (∀ es, d ≠ .dict es) -> isFr n d = false -> aY [.list [], .int n, d] = .exc "NoThing" := fun d a b => tu h1 h5 a b
 simp only [aQ, cI]
 match k, hk with
 | 0, _ => exact ⟨.int 0, by simp [hr]; rfl, key _ (fun es e => by cases e) (by simp [isFr])⟩
 | 1, _ => exact ⟨.int ((n : Int) + 1), by simp [hr]; rfl, key _ (fun es e => by cases e) (by simp [isFr]; lia)⟩
 | 2, _ => exact ⟨.int (-1), by simp [hr]; rfl, key _ (fun es e => by cases e) (by simp [isFr])⟩
 | 3, _ => exact ⟨.bool true, by simp [hr]; rfl, key _ (fun es e => by cases e) rfl⟩
 | 4, _ => exact ⟨.str "1", by simp [hr]; rfl, key _ (fun es e => by cases e) rfl⟩
 | 5, _ => exact ⟨.none, by simp [hr]; rfl, key _ (fun es e => by cases e) rfl⟩
theorem m4 {n : Nat} {C : PyData} {way cell : Int} (w0 : 8 <= way) (c0 : 0 <= cell) :
  ∃ d, aQ [.int way, .int n, C, .int cell] = .ok (.sh d) /\ ∀ s, aj [s, d] = .exc "NoSentence" := by
 have r0 := Int.emod_nonneg cell (b := 6) (by decide)
 have r1 := Int.emod_lt_of_pos cell (b := 6) (by decide)
 generalize hr : cell % 6 = r at r0 r1
 obtain ⟨k, rfl⟩ := Int.eq_ofNat_of_zero_le r0
 have hk : k < 6 := by lia
 have w1 : ¬ way < 3 := by lia
 have w2 : ¬ way = 3 := by lia
 have w3 : ¬ way = 4 := by lia
 have w4 : ¬ way = 5 := by lia
 have w5 : ¬ way < 8 := by lia
 have key : ∀ d, (∀ es, d ≠ .dict es) -> isFr 5 d = false -> ∀ s, aj [s, d] = .exc "NoSentence" := fun d a b s => qX a b
 simp only [aQ, cI]
 match k, hk with
 | 0, _ => exact ⟨.int 0, by simp [hr, w1, w2, w3, w4, w5]; rfl, key _ (fun es e => by cases e) (by simp [isFr])⟩
 | 1, _ => exact ⟨.int 6, by simp [hr, w1, w2, w3, w4, w5]; rfl, key _ (fun es e => by cases e) (by simp [isFr])⟩
 | 2, _ => exact ⟨.bool true, by simp [hr, w1, w2, w3, w4, w5]; rfl, key _ (fun es e => by cases e) rfl⟩
 | 3, _ => exact ⟨.none, by simp [hr, w1, w2, w3, w4, w5]; rfl, key _ (fun es e => by cases e) rfl⟩
 | 4, _ => exact ⟨.str "1", by simp [hr, w1, w2, w3, w4, w5]; rfl, key _ (fun es e => by cases e) rfl⟩
 | 5, _ => exact ⟨.int (-1), by simp [hr, w1, w2, w3, w4, w5]; rfl, key _ (fun es e => by cases e) (by simp [isFr])⟩
noncomputable def AB : PyData -> Bool
 | .str s => decide (s = "some") || decide (s = "all")
 | _ => false
noncomputable def simK : PyData -> Bool
 | .str s => PyData.strOk s
 | .int _ => true
 | .none => true
 | _ => false
theorem oq : PyData.strOk "some" = true := by decide +kernel
theorem qY : PyData.strOk "all" = true := by decide +kernel
theorem tD {s : Str} (h : PyData.strOk s = true) : dIn2 [.str s, .tuple [.str "some", .str "all"]] = some (.sh (.bool (decide (s = "some") || decide (s = "all")))) := by
 have h1 : SeqAt.shaped (.str s) = true := (dg 0 _ h).shaped (by decide)
 have h2 : SeqAt.shaped (.list [.str "some", .str "all"]) = true := (cU (n := 0) (xs := [.str "some", .str "all"]) fun x hx => by
  simp at hx
  rcases hx with rfl | rfl
  ·exact dg _ _ oq
  ·exact dg _ _ qY).shaped (by decide)
 show (inB (.str s) (.tuple [.str "some", .str "all"])).map (fun b => SD.sh (.bool b)) = _
 unfold inB
 dsimp only
 rw [if_pos ⟨h1, h2⟩]
 simp only [List.any_cons, List.any_nil, PyData.eqv, Bool.or_false, Option.map_some]
 congr 3
 by_cases a : s = "some"
 ·subst a; rfl
 ·by_cases b : s = "all"
  ·subst b; rfl
  ·have a' : ¬ Str.ofString "some" = s := fun z => a z.symm
   have b' : ¬ Str.ofString "all" = s := fun z => b z.symm
   simp [a, b, a', b']
theorem vQ {x : PyData} (h : simK x = true) : bz [some (.sh x)] = .ok (.sh (.bool (AB x)), [some (.sh x)]) := by
 have hi : dIsi "str" [x] = some (.sh (.bool (isiD "str" x))) := eW "str" (fun es e => by subst e; cases h)
 cases x with
 | str s =>
  have h1 := tD (s := s) h
  have h2 : isiD "str" (.str s) = true := rfl
  simp [bz, hi, h1, h2, AB]
 | int i =>
  have h2 : isiD "str" (.int i) = false := rfl
  simp [bz, hi, h2, AB]
 | none =>
  have h2 : isiD "str" .none = false := rfl
  simp [bz, hi, h2, AB]
 | _ => cases h
theorem cO {xs : A4} (h : ∀ x ∈ xs, simK x = true) (hl : xs.length <= 100) (n : Int) : bu [.list xs, .int n] = .ok (.sh (.bool (decide ((xs.length : Int) = n) && xs.all AB))) := by
 have hc : AJ [none] Av bz xs = some (xs.map fun x => .bool (AB x)) := eG (ρ := [none]) (te := bz) (y := fun x => .bool (AB x)) fun x hx => ⟨[some (.sh x)], by
  have e := vQ (h x hx)
  simp [e]⟩
 have hi : isiD "list" (.list xs) = true := rfl
 have hz : xs.length <= sizeLine := bh (by lia)
 have ha : dAll [.list (xs.map fun x => .bool (AB x))] = some (.sh (.bool (xs.all AB))) := by
  rw [iH]
  have : Au (xs.map fun x => .bool (AB x)) = some (xs.map AB) := by
   clear hc hi hz h hl
   induction xs with
   | nil => rfl
   | cons a r ih => simp [Au, ih]
  rw [this, Option.map_some, List.all_map]
  rfl
 simp only [bu, dX]
 by_cases e : (xs.length : Int) = n
 ·have pb : Aa (xs.map fun x => PyData.bool (AB x)) = true := by
   clear hc ha hi hz h hl e
   induction xs with
   | nil => rfl
   | cons a r ih => simp [Ac, ih]
  generalize (xs.map fun x => PyData.bool (AB x)) = BS at hc ha pb
  simp [-iH, hi, e, hc, ha, hz, pb]
 ·simp [hi, e]
theorem gk {d : PyData} (h1 : isiD "list" d = false) (h2 : ∀ es, d ≠ .dict es) (n : Int) : bu [d, .int n] = .ok (.sh (.bool false)) := by
 simp [bu, dX, eW "list" h2, h1]
theorem pz {n : Nat} (h1 : 1 <= n) (h5 : n <= 5) {C : PyData} {cell : Int} (c0 : 0 <= cell) :
  ∃ d, aQ [.int 5, .int n, C, .int cell] = .ok (.sh d) /\ bX [.list [], .int n, d] = .exc "NoKinds" := by
 have r0 := Int.emod_nonneg cell (b := 9) (by decide)
 have r1 := Int.emod_lt_of_pos cell (b := 9) (by decide)
 generalize hr : cell % 9 = r at r0 r1
 obtain ⟨k, rfl⟩ := Int.eq_ofNat_of_zero_le r0
 have hk : k < 9 := by lia
 have em : dMul [.list [.str "some"], .int (n : Int)] = some (.ol (List.replicate n (PyData.str "some"))) := by
  rw [bD, if_pos ⟨by lia, by lia, by rw [Int.toNat_natCast]; exact bh (by simp; lia)⟩, Int.toNat_natCast]
  congr 2
  clear hr r0 r1 hk
  induction n with
  | zero => rfl
  | succ n ih => simp [List.replicate_succ, List.flatten]
 have s1 : slD (.list (List.replicate n (PyData.str "some"))) (some 1) none = some (.ol (List.replicate (n - 1) (PyData.str "some"))) := by
  unfold slD
  dsimp only
  rw [kg (by simp; lia), List.drop_replicate]
 have q1 : ∀ m, ∀ x ∈ List.replicate m (PyData.str "some"), simK x = true := fun m x hx => by
  rw [List.eq_of_mem_replicate hx]
  exact oq
 have k1 : (List.replicate (n - 1) (PyData.str "some")).length + 1 = n := by simp; lia
 have k3 : (List.replicate n (PyData.str "some")).length = n := by simp
 have pr : ∀ m, Aa (List.replicate m (PyData.str "some")) = true := fun m => by
  induction m with
  | zero => rfl
  | succ m ih => simp [List.replicate_succ, Ac, ih]
 have p1 := pr (n - 1)
 have p3 := pr n
 have q2 := q1 (n - 1)
 have q3 := q1 n
 generalize List.replicate (n - 1) (PyData.str "some") = A at *
 generalize List.replicate n (PyData.str "some") = C0 at *
 have z1 : A.length + 1 <= sizeLine := bh (by lia)
 have z1' : 1 + A.length <= sizeLine := bh (by lia)
 have z3 : C0.length + 1 <= sizeLine := bh (by lia)
 have z4 : C0.length <= sizeLine := bh (by lia)
 have e1 := chk0 h1 h5
 have key : ∀ d, bu [d, .int n] = .ok (.sh (.bool false)) -> bX [.list [], .int n, d] = .exc "NoKinds" := fun d h => by
  simp [bX, gO, e1, h]
 have nd : ∀ xs : A4, (∀ x ∈ xs, simK x = true) -> ∀ y, simK y = true -> ∀ x ∈ xs ++ [y], simK x = true := fun xs h y hy x hx => by
  rcases List.mem_append.mp hx with z | z
  ·exact h x z
  ·rw [List.mem_singleton] at z
   subst z
   exact hy
 have nc : ∀ xs : A4, (∀ x ∈ xs, simK x = true) -> ∀ y, simK y = true -> ∀ x ∈ y :: xs, simK x = true := fun xs h y hy x hx => by
  rcases List.mem_cons.mp hx with z | z
  ·subst z
   exact hy
  ·exact h x z
 have g1 : ¬ Str.ofString "none" = Str.ofString "some" := by decide
 have g2 : ¬ Str.ofString "none" = Str.ofString "all" := by decide
 have g3 : ¬ Str.ofString "so" = Str.ofString "some" := by decide
 have g4 : ¬ Str.ofString "so" = Str.ofString "all" := by decide
 have o1 : simK (.str "none") = true := (by decide +kernel : PyData.strOk "none" = true)
 have o2 : simK (.str "so") = true := (by decide +kernel : PyData.strOk "so" = true)
 have o3 : simK (.str "all") = true := qY
 simp only [aQ, cI]
 match k, hk with
 | 0, _ => exact ⟨.tuple C0, by simp -implicitDefEqProofs [-bD, em, s1, z1, z1', z3, z4, hr, p1, p3, Ac, Aa]; rfl, key _ (gk rfl (fun es e => by cases e) n)⟩
 | 1, _ => exact ⟨.list (C0 ++ [.str "all"]), by simp -implicitDefEqProofs [-bD, em, s1, z1, z1', z3, z4, hr, p1, p3, Ac, Aa]; rfl, key _ (by rw [cO (nd C0 q3 _ o3) (by simp; lia)]; simp; lia)⟩
 | 2, _ => exact ⟨.list A, by simp -implicitDefEqProofs [-bD, em, s1, z1, z1', z3, z4, hr, p1, p3, Ac, Aa]; rfl, key _ (by rw [cO q2 (by lia)]; simp; lia)⟩
 | 3, _ => exact ⟨.list (.str "none" :: A), by simp -implicitDefEqProofs [-bD, em, s1, z1, z1', z3, z4, hr, p1, p3, Ac, Aa]; rfl, key _ (by rw [cO (nc A q2 _ o1) (by simp; lia)]; simp [AB, g1, g2, g3, g4])⟩
 | 4, _ => exact ⟨.list (.none :: A), by simp -implicitDefEqProofs [-bD, em, s1, z1, z1', z3, z4, hr, p1, p3, Ac, Aa]; rfl, key _ (by rw [cO (nc A q2 _ rfl) (by simp; lia)]; simp [AB, g1, g2, g3, g4])⟩
 | 5, _ => exact ⟨.none, by simp -implicitDefEqProofs [-bD, em, s1, z1, z1', z3, z4, hr, p1, p3, Ac, Aa]; rfl, key _ (gk rfl (fun es e => by cases e) n)⟩
 | 6, _ => exact ⟨.str "some", by simp -implicitDefEqProofs [-bD, em, s1, z1, z1', z3, z4, hr, p1, p3, Ac, Aa]; rfl, key _ (gk rfl (fun es e => by cases e) n)⟩
 | 7, _ => exact ⟨.list (A ++ [.int 0]), by simp -implicitDefEqProofs [-bD, em, s1, z1, z1', z3, z4, hr, p1, p3, Ac, Aa]; rfl, key _ (by rw [cO (nd A q2 _ rfl) (by simp; lia)]; simp [AB, g1, g2, g3, g4])⟩
 | 8, _ => exact ⟨.list (A ++ [.str "so"]), by simp -implicitDefEqProofs [-bD, em, s1, z1, z1', z3, z4, hr, p1, p3, Ac, Aa]; rfl, key _ (by rw [cO (nd A q2 _ o2) (by simp; lia)]; simp [AB, g1, g2, g3, g4])⟩
open Sy (allC CI Cn BZ Co)
inductive Sen where
 | thing (t : Int)
 | nt (a : Sen)
 | an (a b : Sen)
 | or (a b : Sen)
noncomputable def A9 : Sen -> PyData
 | .thing t => .tuple [.str "thing", .int t]
 | .nt a => .tuple [.str "not", A9 a]
 | .an a b => .tuple [.str "and", A9 a, A9 b]
 | .or a b => .tuple [.str "or", A9 a, A9 b]
noncomputable def Sen.size : Sen -> Nat
 | .thing _ => 1
 | .nt a => a.size + 1
 | .an a b => a.size + b.size + 1
 | .or a b => a.size + b.size + 1
noncomputable def Sen.Ok (n : Nat) : Sen -> Prop
 | .thing t => 1 <= t /\ t <= n
 | .nt a => a.Ok n
 | .an a b => a.Ok n /\ b.Ok n
 | .or a b => a.Ok n /\ b.Ok n
theorem qZ : ∀ s : Sen, 1 <= s.size
 | .thing _ => Nat.le_refl _
 | .nt a => by simp only [Sen.size]; lia
 | .an a b => by simp only [Sen.size]; lia
 | .or a b => by simp only [Sen.size]; lia
theorem aR : ∀ s : Sen, Ac (A9 s) = true
 | .thing t => by simp [A9, Ac, Aa]
 | .nt a => by simp [A9, Ac, Aa, aR a]
 | .an a b => by simp [A9, Ac, Aa, aR a, aR b]
 | .or a b => by simp [A9, Ac, Aa, aR a, aR b]
theorem ie : ∀ l : List Sen, Aa (l.map A9) = true
 | [] => rfl
 | s :: r => by simp [Aa, aR s, ie r]
theorem r6 : PyData.strOk "thing" = true := by decide +kernel
theorem vR : PyData.strOk "not" = true := by decide +kernel
theorem vS : PyData.strOk "and" = true := by decide +kernel
theorem yJ : PyData.strOk "or" = true := by decide +kernel
theorem bG : SeqAt.shaped (.str "thing") = true := (dg 0 _ r6).shaped (by decide)
theorem r8 : SeqAt.shaped (.str "not") = true := (dg 0 _ vR).shaped (by decide)
theorem kR : SeqAt.shaped (.str "and") = true := (dg 0 _ vS).shaped (by decide)
theorem ot : SeqAt.shaped (.str "or") = true := (dg 0 _ yJ).shaped (by decide)
theorem w1 : ¬ Str.ofString "not" = Str.ofString "thing" := by decide
theorem w2 : ¬ Str.ofString "and" = Str.ofString "thing" := by decide
theorem w3 : ¬ Str.ofString "or" = Str.ofString "thing" := by decide
theorem w4 : ¬ Str.ofString "and" = Str.ofString "not" := by decide
theorem w5 : ¬ Str.ofString "or" = Str.ofString "not" := by decide
theorem w6 : ¬ Str.ofString "or" = Str.ofString "and" := by decide
theorem w7 : ¬ Str.ofString "and" = Str.ofString "or" := by decide
theorem h9 : B4 aL (.inr "thing") = .int 2 := rfl
theorem nk : B4 aL (.inr "not") = .int 2 := rfl
theorem nq : B4 aL (.inr "and") = .int 3 := rfl
theorem r9 : B4 aL (.inr "or") = .int 3 := rfl
theorem rf {n : Nat} {s : Sen} (h : s.Ok n) : ay [A9 s, .int n] = .ok (.sh (.bool true)) := by
 have is : ∀ w : Str, isiD "str" (.str w) = true := fun _ => rfl
 have it : ∀ l, isiD "tuple" (.tuple l) = true := fun _ => rfl
 cases s with
 | thing t =>
  have hf := cy (.int t) n (fun _ e => nomatch e)
  have ht : isFr n (.int t) = true := by
   simp only [isFr, Bool.and_eq_true, decide_eq_true_eq]
   exact h
  rw [ht] at hf
  have a0 : atI [PyData.str "thing", .int t] 0 = some (.str "thing") := rfl
  have a1 : atI [PyData.str "thing", .int t] 1 = some (.int t) := rfl
  simp only [ay, aZ, A9]
  simp -implicitDefEqProofs [it, is, a0, a1, h9, bG, hf, Ac, Aa]
 | nt a =>
  have a0 : atI [PyData.str "not", A9 a] 0 = some (.str "not") := rfl
  have pa := aR a
  simp only [ay, aZ, A9]
  generalize A9 a = A at a0 pa
  simp -implicitDefEqProofs [it, is, a0, nk, bG, r8, w1, pa, Ac, Aa]
 | an a b =>
  have a0 : atI [PyData.str "and", A9 a, A9 b] 0 = some (.str "and") := rfl
  have pa := aR a
  have pb := aR b
  simp only [ay, aZ, A9]
  generalize A9 a = A at a0 pa
  generalize A9 b = B at a0 pb
  simp -implicitDefEqProofs [it, is, a0, nq, bG, kR, w2, pa, pb, Ac, Aa]
 | or a b =>
  have a0 : atI [PyData.str "or", A9 a, A9 b] 0 = some (.str "or") := rfl
  have pa := aR a
  have pb := aR b
  simp only [ay, aZ, A9]
  generalize A9 a = A at a0 pa
  generalize A9 b = B at a0 pb
  simp -implicitDefEqProofs [it, is, a0, r9, bG, ot, w3, pa, pb, Ac, Aa]
noncomputable def kids : Sen -> List Sen
 | .thing _ => []
 | .nt a => [a]
 | .an a b => [a, b]
 | .or a b => [a, b]
noncomputable def sumS : List Sen -> Nat
 | [] => 0
 | s :: r => s.size + sumS r
theorem dh : ∀ a b : List Sen, sumS (a ++ b) = sumS a + sumS b
 | [], b => by simp [sumS]
 | s :: r, b => by simp only [List.cons_append, sumS, dh r b]; lia
theorem hE : ∀ a : List Sen, a.length <= sumS a
 | [] => Nat.le_refl _
 | s :: r => by
  have := hE r
  have := qZ s
  simp only [List.length_cons, sumS]
  lia
theorem kh (s : Sen) : s.size = sumS (kids s) + 1 := by cases s <;> simp [Sen.size, kids, sumS] <;> lia
theorem ou {n : Nat} {s : Sen} (h : s.Ok n) : ∀ x ∈ kids s, x.Ok n := by
 cases s with
 | thing t => simp [kids]
 | nt a => simpa [kids, Sen.Ok] using h
 | an a b => simpa [kids, Sen.Ok] using h
 | or a b => simpa [kids, Sen.Ok] using h
noncomputable def dC (sd : SD) (n : Nat) (f : Int) (l : List Sen) (x : Option SD) : DEnv := [some sd, some (.sh (.int n)), some (.sh (.int f)), some (.ol (l.map A9)), x]
theorem tF {sd : SD} {n : Nat} {f : Int} {x : Option SD} : aE (dC sd n f [] x) = .ok (false, dC sd n f [] x) := by
 simp [aE, dC]
theorem nr {sd : SD} {n : Nat} {f : Int} {l : List Sen} {s : Sen} {x : Option SD} : aE (dC sd n f (l ++ [s]) x) = .ok (true, dC sd n f (l ++ [s]) x) := by
 have hp := ie (l ++ [s])
 have hne : (l ++ [s]).map A9 ≠ [] := by simp
 unfold dC
 generalize (l ++ [s]).map A9 = L at hp hne
 simp [aE, hne]
theorem jq {sd : SD} {n : Nat} {f : Int} {l : List Sen} {s : Sen} {x : Option SD} (h : s.Ok n) (hf : f < 12) (hl : l.length <= 500) : au (dC sd n f (l ++ [s]) x) = .nx (dC sd n (f + 1) (l ++ kids s) (some (.sh (A9 s)))) := by
 have hF := rf h
 have e1 : ((l ++ [s]).map A9).getLast? = some (A9 s) := by simp
 have e2 : ((l ++ [s]).map A9).dropLast = l.map A9 := by simp
 have f12 : ¬ 12 < f + 1 := by lia
 have hz1 : (l.map A9).length + 1 <= sizeLine := bh (by rw [List.length_map]; lia)
 have hz2 : (l.map A9).length + 2 <= sizeLine := bh (by rw [List.length_map]; lia)
 have pl := ie l
 unfold dC
 simp only [List.map_append]
 simp only [List.map_append] at e1 e2
 cases s with
 | thing t =>
  have a0 : atI [PyData.str "thing", .int t] 0 = some (.str "thing") := rfl
  simp only [kids, List.append_nil, List.map_nil]
  simp only [A9, List.map_cons, List.map_nil] at hF e1 e2 ⊢
  generalize l.map A9 = L at e1 e2 pl ⊢
  simp -implicitDefEqProofs [au, e1, e2, hF, f12, a0, bG, Ac, Aa]
 | nt a =>
  have a0 : atI [PyData.str "not", A9 a] 0 = some (.str "not") := rfl
  have pa := aR a
  simp only [kids]
  simp only [A9, List.map_cons, List.map_nil] at hF e1 e2 ⊢
  generalize l.map A9 = L at e1 e2 pl hz1 ⊢
  generalize A9 a = A at a0 pa hF e1 e2 ⊢
  have c1 : cutD [PyData.str "not", A] (some 1) none = [A] := rfl
  simp -implicitDefEqProofs [au, e1, e2, hF, f12, a0, c1, bG, r8, w1, pa, hz1, Ac, Aa]
 | an a b =>
  have a0 : atI [PyData.str "and", A9 a, A9 b] 0 = some (.str "and") := rfl
  have pa := aR a
  have pb := aR b
  simp only [kids]
  simp only [A9, List.map_cons, List.map_nil] at hF e1 e2 ⊢
  generalize l.map A9 = L at e1 e2 pl hz2 ⊢
  generalize A9 a = A at a0 pa hF e1 e2 ⊢
  generalize A9 b = B at a0 pb hF e1 e2 ⊢
  have c1 : ∀ w : Str, cutD [PyData.str w, A, B] (some 1) none = [A, B] := fun _ => rfl
  simp -implicitDefEqProofs [au, e1, e2, hF, f12, a0, c1, bG, kR, w2, pa, pb, hz2, Ac, Aa]
 | or a b =>
  have a0 : atI [PyData.str "or", A9 a, A9 b] 0 = some (.str "or") := rfl
  have pa := aR a
  have pb := aR b
  simp only [kids]
  simp only [A9, List.map_cons, List.map_nil] at hF e1 e2 ⊢
  generalize l.map A9 = L at e1 e2 pl hz2 ⊢
  generalize A9 a = A at a0 pa hF e1 e2 ⊢
  generalize A9 b = B at a0 pb hF e1 e2 ⊢
  have c1 : ∀ w : Str, cutD [PyData.str w, A, B] (some 1) none = [A, B] := fun _ => rfl
  simp -implicitDefEqProofs [au, e1, e2, hF, f12, a0, c1, bG, ot, w3, pa, pb, hz2, Ac, Aa]
theorem m5 {sd : SD} {n : Nat} : ∀ (k : Nat) (f : Int) (l : List Sen) (x : Option SD), (∀ s ∈ l, s.Ok n) -> 0 <= f -> f + sumS l <= 12 -> sumS l < k -> ∃ f' x', whN aE au k (dC sd n f l x) = .nx (dC sd n f' [] x')
 | 0, _, _, _, _, _, _, h => absurd h (by lia)
 | k + 1, f, l, x, hok, h0, h12, hk => by
  rcases List.eq_nil_or_concat l with rfl | ⟨l', s, rfl⟩
  ·refine ⟨f, x, ?_⟩
   unfold whN
   rw [tF]
   rfl
  ·rw [List.concat_eq_append] at hok h12 hk ⊢
   rw [dh] at h12 hk
   simp only [sumS, Nat.add_zero] at h12 hk
   have hsz := kh s
   have hln := hE l'
   have hs : s.Ok n := hok s (by simp)
   obtain ⟨f', x', ih⟩ := m5 (sd := sd) (n := n) k (f + 1) (l' ++ kids s) (some (.sh (A9 s))) (fun y hy => by
    rcases List.mem_append.mp hy with z | z
    ·exact hok y (by simp [z])
    ·exact ou hs y z) (by lia) (by rw [dh]; lia) (by rw [dh]; lia)
   refine ⟨f', x', ?_⟩
   unfold whN
   rw [nr]
   dsimp only
   rw [if_pos rfl, jq hs (by lia) (by lia)]
   exact ih
theorem tG {n : Nat} {s : Sen} (h : s.Ok n) (h12 : s.size <= 12) (h1 : 1 <= n) (h5 : n <= 5) : aj [A9 s, .int n] = .ok (.sh .none) := by
 obtain ⟨f', x', e⟩ := m5 (sd := .sh (A9 s)) (n := n) 13 0 [s] none (by simpa using h) (by decide) (by simp [sumS]; lia) (by simp [sumS]; lia)
 have hw := jQ e (by simp)
 have hf := cy (.int n) 5 (fun _ e => nomatch e)
 have ht : isFr 5 (.int n) = true := by
  simp only [isFr, Bool.and_eq_true, decide_eq_true_eq]
  lia
 rw [ht] at hf
 have pa := aR s
 unfold dC at hw
 simp only [List.map_cons, List.map_nil] at hw
 simp only [aj, bF]
 generalize A9 s = S at hw pa
 simp -implicitDefEqProofs [hf, hw, pa]
noncomputable def dW (sd : SD) (n : Nat) (f : Int) (L : A4) (x : Option SD) : DEnv := [some sd, some (.sh (.int n)), some (.sh (.int f)), some (.ol L), x]
theorem fO {sd : SD} {n : Nat} {f : Int} {L : A4} {d : PyData} {x : Option SD} : aE (dW sd n f (L ++ [d]) x) = .ok (true, dW sd n f (L ++ [d]) x) := by
 have hne : L ++ [d] ≠ [] := by simp
 unfold dW
 generalize L ++ [d] = A at hne
 simp [aE, hne]
theorem jr {sd : SD} {n : Nat} {f : Int} {L : A4} {d : PyData} {x : Option SD} (h : ay [d, .int n] = .ok (.sh (.bool false))) : au (dW sd n f (L ++ [d]) x) = .exc "NoSentence" := by
 have e1 : (L ++ [d]).getLast? = some d := by simp
 have e2 : (L ++ [d]).dropLast = L := by simp
 unfold dW
 generalize L ++ [d] = A at e1 e2
 simp [au, e1, e2, h]
theorem pA {sd : SD} {n : Nat} {l : List Sen} {s : Sen} {x : Option SD} (h : s.Ok n) : au (dC sd n 12 (l ++ [s]) x) = .exc "NoSentence" := by
 have hF := rf h
 have e1 : ((l ++ [s]).map A9).getLast? = some (A9 s) := by simp
 have e2 : ((l ++ [s]).map A9).dropLast = l.map A9 := by simp
 have ps := aR s
 unfold dC
 generalize (l ++ [s]).map A9 = A at e1 e2
 generalize A9 s = S at hF e1 ps
 simp [au, e1, e2, hF, ps]
theorem iK {n : Nat} (h1 : 1 <= n) (h5 : n <= 5) {d : PyData} {k : Nat} (hw : whN aE au k (dW (.sh d) n 0 [d] none) = .exc "NoSentence") : aj [d, .int n] = .exc "NoSentence" := by
 have hw := jQ hw (by simp)
 have hf := cy (.int n) 5 (fun es e => by cases e)
 have hf2 : isFr 5 (.int n) = true := by simp [isFr]; lia
 rw [hf2] at hf
 unfold dW at hw
 simp only [aj, bF]
 cases Ac d <;> simp [hf, hw]
theorem iL {c : DT} {fb : DS} {k : Nat} {δ : DEnv} {y : Str} (h1 : c δ = .ok (true, δ)) (h2 : fb δ = .exc y) : whN c fb (k + 1) δ = .exc y := by
 unfold whN
 rw [h1]
 dsimp only
 rw [if_pos rfl, h2]
theorem kT {c : DT} {fb : DS} {k : Nat} {δ δ' : DEnv} {r : SOut} (h1 : c δ = .ok (true, δ)) (h2 : fb δ = .nx δ') (h3 : whN c fb k δ' = r) : whN c fb (k + 1) δ = r := by
 unfold whN
 rw [h1]
 dsimp only
 rw [if_pos rfl, h2]
 exact h3
theorem rg {n : Nat} (h1 : 1 <= n) (h5 : n <= 5) {d : PyData} (h : ay [d, .int n] = .ok (.sh (.bool false))) : aj [d, .int n] = .exc "NoSentence" :=
 iK h1 h5 (k := 1) (iL (fO (L := [])) (jr (L := []) h))
theorem m9 {sd : SD} {n : Nat} : ∀ (k : Nat) (f : Int) (l : List Sen) (x : Option SD), (∀ s ∈ l, s.Ok n) -> 0 <= f -> f <= 12 -> 13 <= f + sumS l -> sumS l <= k -> l.length <= 400 -> k <= 30 -> whN aE au k (dC sd n f l x) = .exc "NoSentence"
 | 0, f, l, x, _, _, h12, h13, hk, _, _ => by lia
 | k + 1, f, l, x, hok, h0, h12, h13, hk, hl, hk30 => by
  rcases List.eq_nil_or_concat l with rfl | ⟨l', s, rfl⟩
  ·simp [sumS] at h13
   lia
  ·rw [List.concat_eq_append] at hok h13 hk hl ⊢
   have hs : s.Ok n := hok s (by simp)
   by_cases e : f = 12
   ·subst e
    exact iL nr (pA hs)
   ·rw [dh] at h13 hk
    simp only [sumS, Nat.add_zero] at h13 hk
    have hsz := kh s
    have hln := hE l'
    have hlk := hE (l' ++ kids s)
    rw [dh] at hlk
    exact kT nr (jq hs (by lia) (by lia)) (m9 k (f + 1) (l' ++ kids s) _ (fun y hy => by
     rcases List.mem_append.mp hy with z | z
     ·exact hok y (by simp [z])
     ·exact ou hs y z) (by lia) (by lia) (by rw [dh]; lia) (by rw [dh]; lia) (by lia) (by lia))
theorem ma {n : Nat} (h1 : 1 <= n) (h5 : n <= 5) {s : Sen} (hs : s.Ok n) (h : 13 <= s.size) (h2 : s.size <= 30) : aj [A9 s, .int n] = .exc "NoSentence" := by
 refine iK h1 h5 (k := s.size) ?_
 exact m9 (sd := .sh (A9 s)) s.size 0 [s] none (by simpa using hs) (by decide) (by decide) (by simp [sumS]; lia) (by simp [sumS]) (by simp) h2
def oneD : PyData := .tuple [.str "thing", .int 1]
theorem tH : B4 aL (.inr "also") = .none := rfl
section
variable {n : Nat}
theorem kU {d : PyData} (h1 : isiD "tuple" d = false) (h2 : ∀ es, d ≠ .dict es) : ay [d, .int n] = .ok (.sh (.bool false)) := by
 simp [ay, aZ, eW "tuple" h2, h1]
theorem vT : ay [.tuple [], .int n] = .ok (.sh (.bool false)) := by
 have it : ∀ l, isiD "tuple" (.tuple l) = true := fun _ => rfl
 simp [ay, aZ, it]
theorem vU : ay [.tuple [.int 1, oneD], .int n] = .ok (.sh (.bool false)) := by
 have it : ∀ l, isiD "tuple" (.tuple l) = true := fun _ => rfl
 have is : isiD "str" (.int 1) = false := rfl
 have a0 : ∀ a b : PyData, atI [a, b] 0 = some a := fun _ _ => rfl
 simp [ay, aZ, it, is, a0, oneD]
theorem gm {w : Str} {ds : A4} {v : PyData} (h0 : B4 aL (.inr w) = v) (hv : dEqB (.int ((ds.length : Int) + 1)) v = some false) (hp : Aa ds = true) : ay [.tuple (.str w :: ds), .int n] = .ok (.sh (.bool false)) := by
 have it : ∀ l, isiD "tuple" (.tuple l) = true := fun _ => rfl
 have is : ∀ w : Str, isiD "str" (.str w) = true := fun _ => rfl
 have a0 : atI (PyData.str w :: ds) 0 = some (.str w) := yD _ _
 have ln : ¬ ((ds.length : Int) + 1 = 0) := by lia
 simp only [ay, aZ]
 simp -implicitDefEqProofs [it, is, a0, ln, h0, hv, hp, Ac, Aa]
theorem fG {d : PyData} (hd : ∀ es, d ≠ .dict es) (hs : isFr n d = false) (hp : Ac d = true) : ay [.tuple [.str "thing", d], .int n] = .ok (.sh (.bool false)) := by
 have it : ∀ l, isiD "tuple" (.tuple l) = true := fun _ => rfl
 have is : ∀ w : Str, isiD "str" (.str w) = true := fun _ => rfl
 have a0 : ∀ a b : PyData, atI [a, b] 0 = some a := fun _ _ => rfl
 have a1 : ∀ a b : PyData, atI [a, b] 1 = some b := fun _ _ => rfl
 have hf := cy d n hd
 rw [hs] at hf
 simp only [ay, aZ]
 simp -implicitDefEqProofs [it, is, a0, a1, h9, bG, hf, hp, Ac, Aa]
end
theorem md {sd : SD} {n : Nat} {f : Int} {L : A4} {a b : PyData} {x : Option SD} (w : Bool) (hf : f < 12) (hl : L.length <= 100) (pa : Ac a = true) (pb : Ac b = true) (pL : Aa L = true) :
  au (dW sd n f (L ++ [.tuple [.str (if w then "or" else "and"), a, b]]) x) = .nx (dW sd n (f + 1) (L ++ [a, b]) (some (.sh (.tuple [.str (if w then "or" else "and"), a, b])))) := by
 have is : ∀ w : Str, isiD "str" (.str w) = true := fun _ => rfl
 have it : ∀ l, isiD "tuple" (.tuple l) = true := fun _ => rfl
 have f12 : ¬ 12 < f + 1 := by lia
 have hz : L.length + 2 <= sizeLine := bh (by lia)
 have ec : ∀ y : PyData, cutD [y, a, b] (some 1) none = [a, b] := fun _ => rfl
 have a0 : ∀ y : PyData, atI [y, a, b] 0 = some y := fun _ => rfl
 cases w with
 | false =>
  have hF : ay [.tuple [.str "and", a, b], .int n] = .ok (.sh (.bool true)) := by
   simp only [ay, aZ]
   simp -implicitDefEqProofs [it, is, a0, nq, bG, kR, w2, pa, pb, Ac, Aa]
  have e1 : (L ++ [PyData.tuple [.str "and", a, b]]).getLast? = some (.tuple [.str "and", a, b]) := by simp
  have e2 : (L ++ [PyData.tuple [.str "and", a, b]]).dropLast = L := by simp
  simp only [Bool.false_eq_true, if_false]
  unfold dW
  generalize L ++ [PyData.tuple [.str "and", a, b]] = A at e1 e2
  simp -implicitDefEqProofs [au, e1, e2, hF, f12, a0, ec, bG, kR, w2, hz, pa, pb, pL, Ac, Aa]
 | true =>
  have hF : ay [.tuple [.str "or", a, b], .int n] = .ok (.sh (.bool true)) := by
   simp only [ay, aZ]
   simp -implicitDefEqProofs [it, is, a0, r9, bG, ot, w3, pa, pb, Ac, Aa]
  have e1 : (L ++ [PyData.tuple [.str "or", a, b]]).getLast? = some (.tuple [.str "or", a, b]) := by simp
  have e2 : (L ++ [PyData.tuple [.str "or", a, b]]).dropLast = L := by simp
  simp only [if_true]
  unfold dW
  generalize L ++ [PyData.tuple [.str "or", a, b]] = A at e1 e2
  simp -implicitDefEqProofs [au, e1, e2, hF, f12, a0, ec, bG, ot, w3, hz, pa, pb, pL, Ac, Aa]
theorem tJ {n : Nat} (h1 : 1 <= n) (h5 : n <= 5) : aj [.tuple [.str "and", oneD, .none], .int n] = .exc "NoSentence" := by
 refine iK h1 h5 (k := 2) (kT (fO (L := [])) (md (L := []) false (by decide) (by simp) (by simp [oneD, Ac, Aa]) (by simp [Ac]) rfl) ?_)
 exact iL (fO (L := [oneD])) (jr (L := [oneD]) (kU rfl (fun es e => by cases e)))
theorem vV {n : Nat} (h1 : 1 <= n) (h5 : n <= 5) : aj [.tuple [.str "or", .tuple [.str "thing", .int 0], oneD], .int n] = .exc "NoSentence" := by
 refine iK h1 h5 (k := 3) (kT (fO (L := [])) (md (L := []) true (by decide) (by simp) (by simp [Ac, Aa]) (by simp [oneD, Ac, Aa]) rfl) ?_)
 have hs : (Sen.thing 1).Ok n := ⟨by lia, by lia⟩
 have st := jq (sd := .sh (.tuple [.str "or", .tuple [.str "thing", .int 0], oneD])) (n := n) (f := 0 + 1) (l := [.thing 0]) (s := .thing 1) (x := some (.sh (.tuple [.str "or", .tuple [.str "thing", .int 0], oneD]))) hs (by decide) (by simp)
 refine kT (fO (L := [.tuple [.str "thing", .int 0]])) st ?_
 exact iL (fO (L := [])) (jr (L := []) (fG (fun es e => by cases e) (by simp [isFr]) rfl))
def AF : Nat -> Sen
 | 0 => .thing 1
 | k + 1 => .nt (AF k)
noncomputable def AL : Nat -> Sen
 | 0 => .thing 1
 | k + 1 => .an (AL k) (.thing 1)
theorem gn : ∀ k, (AF k).size = k + 1
 | 0 => rfl
 | k + 1 => by simp only [AF, Sen.size, gn k]
theorem gp : ∀ k, (AL k).size = 2 * k + 1
 | 0 => rfl
 | k + 1 => by simp only [AL, Sen.size, gp k]; lia
theorem me {n : Nat} (h : 1 <= n) : ∀ k, (AF k).Ok n
 | 0 => ⟨by lia, by lia⟩
 | k + 1 => me h k
theorem mf {n : Nat} (h : 1 <= n) : ∀ k, (AL k).Ok n
 | 0 => ⟨by lia, by lia⟩
 | k + 1 => ⟨mf h k, ⟨by lia, by lia⟩⟩
theorem ki {x0 x1 x2 x3 x6 : Option SD} : ∀ (xs : A4) (k : Nat) (x5 : Option SD), ∃ y5, forL (kN 5) bY xs [x0, x1, x2, x3, some (.sh (A9 (AF k))), x5, x6] = .nx [x0, x1, x2, x3, some (.sh (A9 (AF (k + xs.length)))), y5, x6]
 | [], k, x5 => ⟨x5, rfl⟩
 | d :: r, k, x5 => by
  obtain ⟨y5, ih⟩ := ki r (k + 1) (some (.sh d))
  refine ⟨y5, ?_⟩
  rw [List.length_cons, show k + (r.length + 1) = k + 1 + r.length by lia, eF]
  have e : A9 (AF (k + 1)) = .tuple [.str "not", A9 (AF k)] := rfl
  rw [e] at ih
  have ps := aR (AF k)
  generalize A9 (AF k) = S at ih ps
  simp [bY, ps, Ac, Aa]
  exact ih
theorem kj {x0 x1 x3 x4 : Option SD} : ∀ (xs : A4) (k : Nat) (x5 : Option SD), ∃ y5, forL (kN 5) bZ xs [x0, x1, some (.sh oneD), x3, x4, x5, some (.sh (A9 (AL k)))] = .nx [x0, x1, some (.sh oneD), x3, x4, y5, some (.sh (A9 (AL (k + xs.length))))]
 | [], k, x5 => ⟨x5, rfl⟩
 | d :: r, k, x5 => by
  obtain ⟨y5, ih⟩ := kj r (k + 1) (some (.sh d))
  refine ⟨y5, ?_⟩
  rw [List.length_cons, show k + (r.length + 1) = k + 1 + r.length by lia, eF]
  have e : A9 (AL (k + 1)) = .tuple [.str "and", A9 (AL k), oneD] := rfl
  rw [e] at ih
  have ps := aR (AL k)
  have po : Ac oneD = true := by simp [oneD, Ac, Aa]
  generalize A9 (AL k) = S at ih ps
  generalize oneD = O at ih po
  simp [bZ, ps, po, Ac, Aa]
  exact ih
noncomputable def badL (n : Int) : A4 := [.none, .str "thing", .tuple [.str "thing", .int 0], .tuple [.str "thing", .int (n + 1)], .tuple [.str "thing", .bool true], .tuple [.str "thing", .str "1"], .tuple [.str "thing"], .tuple [.str "thing", .int 1, .int 1], .tuple [.str "not", oneD, oneD], .tuple [.str "not"], .tuple [.str "and", oneD], .tuple [.str "or", oneD, oneD, oneD], .tuple [.str "also", oneD, oneD], .list [.str "thing", .int 1], .tuple [.str "and", oneD, .none], .tuple [.str "or", .tuple [.str "thing", .int 0], oneD], .tuple [.int 1, oneD], .tuple [], A9 (AF 12), A9 (AL 6)]
theorem rh {n : Nat} {cell : Int} {d : PyData} (h : atI (badL n) (cell % 20) = some d) : aO [.int n, .int cell] = .ok (.sh d) := by
 obtain ⟨y5, e1⟩ := ki (x0 := some (.sh (.int n))) (x1 := some (.sh (.int cell))) (x2 := some (.sh oneD)) (x3 := some (.ol ((badL n).take 18))) (x6 := none) (rngI 0 12) 0 none
 obtain ⟨z5, e2⟩ := kj (x0 := some (.sh (.int n))) (x1 := some (.sh (.int cell))) (x3 := some (.ol ((badL n).take 18))) (x4 := some (.sh (A9 (AF 12)))) (rngI 0 6) 0 y5
 rw [dM] at e1 e2
 have r1 : rngB 12 = true := by decide
 have r2 : rngB 6 = true := by decide
 have o1 : A9 (AF 0) = oneD := rfl
 have o2 : A9 (AL 0) = oneD := rfl
 rw [o1] at e1
 rw [o2] at e2
 have pl := aR (AF 12)
 have pw := aR (AL 6)
 have po : Ac oneD = true := by simp [oneD, Ac, Aa]
 have t2 : (12 : Int).toNat = 12 := rfl
 have t3 : (6 : Int).toNat = 6 := rfl
 have z13 : (13 : Nat) <= sizeLine := by decide
 have z18 : (18 : Nat) <= sizeLine := by decide
 have z20 : (20 : Nat) <= sizeLine := by decide
 simp only [Nat.zero_add] at e1 e2
 unfold badL at h e1 e2
 simp only [List.take_succ_cons, List.take_zero] at e1 e2
 have eo : PyData.tuple [.str "thing", .int 1] = oneD := rfl
 simp only [aO, cG]
 generalize A9 (AF 12) = LG at h e1 e2 pl
 generalize A9 (AL 6) = WD at h e2 pw
 generalize oneD = O at h e1 e2 po eo
 simp -implicitDefEqProofs [eo, r1, r2, t2, t3, e1, e2, h, po, pl, pw, Ac, Aa]
theorem tK {n : Nat} (h1 : 1 <= n) (h5 : n <= 5) {cell : Int} (c0 : 0 <= cell) : ∃ d, aO [.int n, .int cell] = .ok (.sh d) /\ aj [d, .int n] = .exc "NoSentence" := by
 have r0 := Int.emod_nonneg cell (b := 20) (by decide)
 have r1 := Int.emod_lt_of_pos cell (b := 20) (by decide)
 have key : ∀ d, atI (badL n) (cell % 20) = some d -> aj [d, .int n] = .exc "NoSentence" -> ∃ d, aO [.int n, .int cell] = .ok (.sh d) /\ aj [d, .int n] = .exc "NoSentence" := fun d a b => ⟨d, rh a, b⟩
 have po : Ac oneD = true := by simp [oneD, Ac, Aa]
 have cf : ∀ {d}, ay [d, .int n] = .ok (.sh (.bool false)) -> aj [d, .int n] = .exc "NoSentence" := fun h => rg h1 h5 h
 generalize hr : cell % 20 = r at r0 r1 key
 obtain ⟨k, rfl⟩ := Int.eq_ofNat_of_zero_le r0
 have hk : k < 20 := by lia
 match k, hk with
 | 0, _ => exact key .none rfl (cf (kU rfl (fun es e => by cases e)))
 | 1, _ => exact key (.str "thing") rfl (cf (kU rfl (fun es e => by cases e)))
 | 2, _ => exact key (.tuple [.str "thing", .int 0]) rfl (cf (fG (fun es e => by cases e) (by simp [isFr]) rfl))
 | 3, _ => exact key (.tuple [.str "thing", .int ((n : Int) + 1)]) rfl (cf (fG (fun es e => by cases e) (by simp [isFr]; lia) rfl))
 | 4, _ => exact key (.tuple [.str "thing", .bool true]) rfl (cf (fG (fun es e => by cases e) rfl rfl))
 | 5, _ => exact key (.tuple [.str "thing", .str "1"]) rfl (cf (fG (fun es e => by cases e) rfl rfl))
 | 6, _ => exact key (.tuple [.str "thing"]) rfl (cf (gm h9 (by simp) (by simp)))
 | 7, _ => exact key (.tuple [.str "thing", .int 1, .int 1]) rfl (cf (gm h9 (by simp) (by simp [Ac])))
 | 8, _ => exact key (.tuple [.str "not", oneD, oneD]) rfl (cf (gm nk (by simp) (by simp [po])))
 | 9, _ => exact key (.tuple [.str "not"]) rfl (cf (gm nk (by simp) (by simp)))
 | 10, _ => exact key (.tuple [.str "and", oneD]) rfl (cf (gm nq (by simp) (by simp [po])))
 | 11, _ => exact key (.tuple [.str "or", oneD, oneD, oneD]) rfl (cf (gm r9 (by simp) (by simp [po])))
 | 12, _ => exact key (.tuple [.str "also", oneD, oneD]) rfl (cf (gm tH (by simp; rfl) (by simp [po])))
 | 13, _ => exact key (.list [.str "thing", .int 1]) rfl (cf (kU rfl (fun es e => by cases e)))
 | 14, _ => exact key (.tuple [.str "and", oneD, .none]) rfl (tJ h1 h5)
 | 15, _ => exact key (.tuple [.str "or", .tuple [.str "thing", .int 0], oneD]) rfl (vV h1 h5)
 | 16, _ => exact key (.tuple [.int 1, oneD]) rfl (cf vU)
 | 17, _ => exact key (.tuple []) rfl (cf vT)
 | 18, _ => exact key (A9 (AF 12)) rfl (ma h1 h5 (me h1 12) (by rw [gn]; decide) (by rw [gn]; decide))
 | 19, _ => exact key (A9 (AL 6)) rfl (ma h1 h5 (mf h1 6) (by rw [gp]; decide) (by rw [gp]; decide))
theorem mh {n : Nat} (h1 : 1 <= n) (h5 : n <= 5) {C : PyData} {way cell : Int} (w6 : 6 <= way) (w8 : way < 8) (c0 : 0 <= cell) :
  ∃ d, aQ [.int way, .int n, C, .int cell] = .ok (.sh d) /\ aj [d, .int n] = .exc "NoSentence" := by
 obtain ⟨d, a, b⟩ := tK h1 h5 c0
 have w1 : ¬ way < 3 := by lia
 have w2 : ¬ way = 3 := by lia
 have w3 : ¬ way = 4 := by lia
 have w4 : ¬ way = 5 := by lia
 refine ⟨d, ?_, b⟩
 simp only [aQ, cI]
 simp [w1, w2, w3, w4, w8, a]
noncomputable def dueW : Nat -> Str
 | 1 => "NoCase"
 | 2 => "NoCase"
 | 3 => "NoSaying"
 | 4 => "NoThing"
 | 5 => "NoKinds"
 | _ => "NoSentence"
theorem other {n : Nat} {c : List Int} (hc : Bj n c) (h1 : 1 <= n) (h5 : n <= 5) {way : Nat} {cell : Int} (w0 : 1 <= way) (w9 : way < 10) (c0 : 0 <= cell) :
  ∃ d, aQ [.int way, .int n, encL c, .int cell] = .ok (.sh d) /\ b3 [.int way, d, .int n, encL c] = .exc (dueW way) /\ (way < 3 -> aX [d, .int n] = .ok (.sh (.bool false))) := by
 have e0 := chk0 h1 h5
 have hsen := tG (n := n) (s := .thing 1) ⟨by lia, by lia⟩ (by decide) h1 h5
 have eone : A9 (.thing 1) = .tuple [.str "thing", .int 1] := rfl
 rw [eone] at hsen
 simp only [b3, cX]
 match way, w0, w9 with
 | 1, _, _ =>
  obtain ⟨d, a, b⟩ := lZ hc h1 h5 (way := 1) (by decide) (by decide) c0
  have f1 : ei [.list [], .int n, d] = .exc "NoCase" := by simp [ei, kH, e0, b]
  exact ⟨d, a, by simp [f1, dueW], fun _ => b⟩
 | 2, _, _ =>
  obtain ⟨d, a, b⟩ := lZ hc h1 h5 (way := 2) (by decide) (by decide) c0
  have f1 : bP [.tuple [.str "thing", .int 1], .int n, d] = .exc "NoCase" := by simp [bP, fL, hsen, b]
  exact ⟨d, a, by simp [f1, dueW], fun _ => b⟩
 | 3, _, _ =>
  obtain ⟨d, a, b⟩ := tw h1 h5 (C := encL c) c0
  exact ⟨d, a, by simp [b, dueW], fun z => absurd z (by decide)⟩
 | 4, _, _ =>
  obtain ⟨d, a, b⟩ := pq h1 h5 (C := encL c) c0
  exact ⟨d, a, by simp [b, dueW], fun z => absurd z (by decide)⟩
 | 5, _, _ =>
  obtain ⟨d, a, b⟩ := pz h1 h5 (C := encL c) c0
  exact ⟨d, a, by simp [b, dueW], fun z => absurd z (by decide)⟩
 | 6, _, _ =>
  obtain ⟨d, a, b⟩ := mh h1 h5 (C := encL c) (way := 6) (by decide) (by decide) c0
  exact ⟨d, a, by simp [oo b, dueW], fun z => absurd z (by decide)⟩
 | 7, _, _ =>
  obtain ⟨d, a, b⟩ := mh h1 h5 (C := encL c) (way := 7) (by decide) (by decide) c0
  exact ⟨d, a, by simp [uf b, dueW], fun z => absurd z (by decide)⟩
 | 8, _, _ =>
  obtain ⟨d, a, b⟩ := m4 (n := n) (C := encL c) (way := 8) (by decide) c0
  exact ⟨d, a, by simp [uf (b _), dueW], fun z => absurd z (by decide)⟩
 | 9, _, _ =>
  obtain ⟨d, a, b⟩ := m4 (n := n) (C := encL c) (way := 9) (by decide) c0
  exact ⟨d, a, by simp [oo (b _), dueW], fun z => absurd z (by decide)⟩
@[simp] theorem yK (φ : A4 -> Out SD) (ops : List Opd) (cs : List Str) (ds : List ((Str -> Bool) × DS)) (δ : DEnv) : BO φ ops cs ds δ = match opds ops δ with
 | .ok p => (match φ p.1 with
  | .ok r => .nx (if r.pure = true then p.2.1 else p.2.2)
  | .exc y => if y ∈ cs then Bl y ds p.2.1 else .bad
  | .bad => .bad)
 | _ => .bad := rfl
@[simp] theorem vW (y : Str) (c : Str -> Bool) (h : DS) (r : List ((Str -> Bool) × DS)) (δ : DEnv) : Bl y ((c, h) :: r) δ = if c y = true then h δ else Bl y r δ := rfl
noncomputable def numW (y : Str) : Int := if y = "NoSayings" then 0 else if y = "NoCase" then 1 else if y = "NoSaying" then 2 else if y = "NoThing" then 3 else if y = "NoKinds" then 4 else 5
theorem tL {a b c d e : PyData} {y : Str} (h : aU [a, b, c, d, e] = .exc y) (hy : y ∈ Ag) : cF [a, b, c, d, e] = .ok (.sh (.int (numW y))) := by
 simp only [cF, gi]
 simp [Ag] at hy
 rcases hy with rfl | rfl | rfl | rfl | rfl | rfl
 all_goals
  simp [h]
  first
   | decide
   | rfl
   | skip
theorem iM {a b c d e : PyData} {y : Str} (h : aU [a, b, c, d, e] = .exc y) (hy : y ∈ Ag) : bA [a, b, c, d, e] = .ok (.sh (.bool true)) := by
 have h1 : cA y = true := by
  simp [Ag] at hy
  rcases hy with rfl | rfl | rfl | rfl | rfl | rfl <;> decide
 have h2 : bV y = true := by
  simp [Ag] at hy
  rcases hy with rfl | rfl | rfl | rfl | rfl | rfl <;> decide
 simp only [bA, ez]
 simp [Bw, hAs, h, h1, h2]
noncomputable def js : DS := sSeq (sIf (AQ (tstV (eOp dIn2 [.nm 3, .ex (eOp dTup [.ex (eC (.int 1)), .ex (eC (.int 2))])])) (tstV (eOp Bc [.ex (Ab aX [.nm 7, .nm 1]), .ex (eC (.bool false))]))) (sRet (eC (.bool false))) (Af)) (sSeq (sAsg 8 (eOp dIdx [.ex (eOp dLst [.ex (eC (.int 0)), .ex (eC (.int 1)), .ex (eC (.int 1)), .ex (eC (.int 2)), .ex (eC (.int 3)), .ex (eC (.int 4)), .ex (eC (.int 5)), .ex (eC (.int 5)), .ex (eC (.int 5)), .ex (eC (.int 5))]), .nm 3])) (sRet (eAnd (eOp dEq [.ex (Ab cF [.nm 3, .nm 5, .nm 7, .nm 1, .nm 2]), .nm 8]) (Ab bA [.nm 3, .nm 5, .nm 7, .nm 1, .nm 2]))))
theorem in12 (q : Int) : dIn2 [.int q, .tuple [.int 1, .int 2]] = some (.sh (.bool (decide (q = 1) || decide (q = 2)))) := by
 have h1 : SeqAt.shaped (.int q) = true := (cR 0 q).shaped (by decide)
 have h2 : SeqAt.shaped (.list [.int 1, .int 2]) = true := (cU (dv 0 [1, 2])).shaped (by decide)
 show (inB (.int q) (.tuple [.int 1, .int 2])).map (fun b => SD.sh (.bool b)) = _
 unfold inB
 dsimp only
 rw [if_pos ⟨h1, h2⟩]
 simp only [List.any_cons, List.any_nil, PyData.eqv, Bool.or_false, Option.map_some]
 congr 3
 by_cases a : q = 1
 ·subst a; rfl
 ·by_cases b : q = 2
  ·subst b; rfl
  ·have a' : ¬ 1 = q := fun z => a z.symm
   have b' : ¬ 2 = q := fun z => b z.symm
   simp [a, b, a', b']
noncomputable def dueL : A4 := [.int 0, .int 1, .int 1, .int 2, .int 3, .int 4, .int 5, .int 5, .int 5, .int 5]
theorem tail {sc m C d : PyData} {x7 x2 : SD} {x6 : Option SD} {way what cell due : Int} {y : Str} (h : aU [.int way, .int what, d, m, C] = .exc y) (hy : y ∈ Ag) (hd : atI dueL way = some (.int due)) (hn : numW y = due) (hc : way = 1 \/ way = 2 -> aX [d, m] = .ok (.sh (.bool false)))
  (h7 : x7 = .sh d \/ ∃ l, x7 = .ol l /\ d = .list l) (h2 : x2 = .sh C \/ ∃ l, x2 = .ol l /\ C = .list l) : js [some (.sh sc), some (.sh m), some x2, some (.sh (.int way)), some (.sh (.int cell)), some (.sh (.int what)), x6, some x7, none] = .rt (.sh (.bool true)) := by
 have k := tL h hy
 have b := iM h hy
 have i := in12 way
 rw [hn] at k
 unfold dueL at hd
 have sb : ∀ i : Int, SeqAt.shaped (.int i) = true := fun i => (cR 0 i).shaped (by decide)
 by_cases w : way = 1 \/ way = 2
 ·have c := hc w
  have i2 : (decide (way = 1) || decide (way = 2)) = true := by simpa using w
  rw [i2] at i
  rcases h7 with rfl | ⟨l, rfl, rfl⟩ <;> rcases h2 with rfl | ⟨l2, rfl, rfl⟩ <;> simp -implicitDefEqProofs [js, i, c, hd, k, b, isB]
 ·have i2 : (decide (way = 1) || decide (way = 2)) = false := by simpa using w
  rw [i2] at i
  rcases h7 with rfl | ⟨l, rfl, rfl⟩ <;> rcases h2 with rfl | ⟨l2, rfl, rfl⟩ <;> simp -implicitDefEqProofs [js, i, hd, k, b]
theorem mi {a : Nat} {what : Int} {d m C : PyData} {y : Str} (ha : 1 <= a) (h : b3 [.int a, d, m, C] = .exc y) : aU [.int a, .int what, d, m, C] = .exc y := by
 have h0 : ¬ (a : Int) = 0 := by lia
 have h0' : ¬ a = 0 := by lia
 simp [aU, ef, h0, h0', h]
theorem pB {what : Int} {d m C : PyData} {y : Str} (h : aT [.int what, d, m] = .exc y) : aU [.int 0, .int what, d, m, C] = .exc y := by
 simp [aU, ef, h]
theorem vX : ∀ way : Nat, 1 <= way -> way < 10 -> ∃ due, atI dueL (way : Int) = some (.int due) /\ numW (dueW way) = due /\ dueW way ∈ Ag := by
 intro way h1 h2
 match way, h1, h2 with
 | 1, _, _ => exact ⟨1, rfl, by decide, by decide⟩
 | 2, _, _ => exact ⟨1, rfl, by decide, by decide⟩
 | 3, _, _ => exact ⟨2, rfl, by decide, by decide⟩
 | 4, _, _ => exact ⟨3, rfl, by decide, by decide⟩
 | 5, _, _ => exact ⟨4, rfl, by decide, by decide⟩
 | 6, _, _ => exact ⟨5, rfl, by decide, by decide⟩
 | 7, _, _ => exact ⟨5, rfl, by decide, by decide⟩
 | 8, _, _ => exact ⟨5, rfl, by decide, by decide⟩
 | 9, _, _ => exact ⟨5, rfl, by decide, by decide⟩
noncomputable def Bn (ns : List Int) (n : Nat) : List Int := (List.range n).map fun (k : Nat) => mixZ ns (1 + (k : Int)) 2
theorem ri (ns : List Int) (n : Nat) : Bj n (Bn ns n) := ⟨by simp [Bn], fun x hx => by
 obtain ⟨k, _, rfl⟩ := List.mem_map.mp hx
 have h1 := cS ns (1 + (k : Int)) (m := 2) (by decide)
 have h2 := d7 ns (1 + (k : Int)) (m := 2) (by decide)
 lia⟩
theorem pC (ns : List Int) (n : Nat) : AJ [none, some (.sh (scr ns))] Av gP (rngI 0 n) = some ((Bn ns n).map PyData.int) := by
 have := eG (ρ := [none, some (.sh (scr ns))]) (te := gP) (y := fun d => match d with | .int k => .int (mixZ ns (1 + k) 2) | d => d) (ds := rngI 0 n) fun d hd => by
  obtain ⟨k, hk, rfl⟩ := List.mem_map.mp hd
  have hf := h8 ns (1 + (0 + (k : Int))) 2 (by lia) (by decide)
  generalize 0 + (k : Int) = k' at hf ⊢
  generalize scr ns = sc at hf ⊢
  exact ⟨[some (.sh (.int k')), some (.sh sc)], by simp -implicitDefEqProofs [gP, hf]⟩
 rw [this]
 unfold rngI Bn
 rw [List.map_map, List.map_map]
 congr 1
 refine List.map_congr_left fun k _ => ?_
 simp
noncomputable def jt : DS := sSeq (sIf (tstV (eOp dEq [.nm 3, .ex (eC (.int 0))])) (sSeq (sAsg 6 (Ab bb [.nm 0, .ex (eC (.int 10)), .nm 1, .ex (eC (.int 6))])) (sSeq (sAsg 7 (eOp dIdx [.ex (eOp dLst [.ex (eOp AI [.nm 6]), .ex (eOp dAdd [.nm 6, .ex (eOp dMul [.ex (eOp dLst [.ex (eOp dTup [])]), .ex (eC (.int 25))])]), .ex (eC .none), .ex (eOp dAdd [.nm 6, .ex (eOp dLst [.ex (eOp dTup [.ex (eC (.int 0))])])]), .ex (eOp dAdd [.ex (eOp dLst [.ex (eOp dTup [.ex (eOp dAdd [.nm 1, .ex (eC (.int 1))])])]), .nm 6])]), .ex (eOp dMod [.nm 4, .ex (eC (.int 5))])])) (sIf (AQ (tstV (eOp dEq [.ex (eOp dMod [.nm 4, .ex (eC (.int 5))]), .ex (eC (.int 4))])) (tstV (eOp dEq [.ex (eOp dMod [.ex (eOp B1 [.nm 4, .ex (eC (.int 5))]), .ex (eC (.int 2))]), .ex (eC (.int 1))]))) (sSeq (sAsg 7 (eV 6)) (sAsg 1 (eOp dIdx [.ex (eOp dLst [.ex (eC (.int 0)), .ex (eC (.int 17)), .ex (eC (.bool true)), .ex (eC (.str "1")), .ex (eC .none)]), .ex (eOp dMod [.ex (eOp B1 [.nm 4, .ex (eC (.int 10))]), .ex (eC (.int 5))])]))) (Af)))) (sAsg 7 (Ab aQ [.nm 3, .nm 1, .nm 2, .nm 4]))) js
theorem rj : qN = sSeq (sAsg 1 (eOp dAdd [.ex (eC (.int 1)), .ex (Ab aB [.nm 0, .ex (eC (.int 0)), .ex (eC (.int 5))])])) (sSeq (sAsg 2 (AV [0] (icR1 (.nm 1)) (Av) (gP))) (sSeq (sAsg 3 (Ab aB [.nm 0, .ex (eC (.int 6)), .ex (eC (.int 10))])) (sSeq (sAsg 4 (Ab aB [.nm 0, .ex (eC (.int 7)), .ex (eOp dPow [.ex (eC (.int 10)), .ex (eC (.int 6))])])) (sSeq (sAsg 5 (Ab aB [.nm 0, .ex (eC (.int 8)), .ex (eC (.int 14))])) jt)))) := rfl
theorem pE {sc : PyData} {n : Nat} {c : List Int} {way : Nat} {cell what : Int} (hc : Bj n c) (h1 : 1 <= n) (h5 : n <= 5) (w0 : 1 <= way) (w9 : way < 10) (c0 : 0 <= cell) : jt [some (.sh sc), some (.sh (.int n)), some (.ol (c.map PyData.int)), some (.sh (.int way)), some (.sh (.int cell)), some (.sh (.int what)), none, none, none] = .rt (.sh (.bool true)) := by
 obtain ⟨d, a, b, e⟩ := other hc h1 h5 w0 w9 c0
 obtain ⟨due, d1, d2, d3⟩ := vX way w0 w9
 have ak := mi (what := what) w0 b
 have hw : ¬ (way : Int) = 0 := by lia
 have hw' : ¬ way = 0 := by lia
 have t := fun x2 h2 => tail (sc := sc) (x7 := .sh d) (x2 := x2) (x6 := none) (cell := cell) ak d3 d1 d2 (fun z => e (by lia)) (.inl rfl) h2
 unfold jt
 unfold encL at a t
 generalize js = TL at t ⊢
 cases hp : Ac d with
 | true =>
  have t1 := t (.ol (c.map PyData.int)) (.inr ⟨_, rfl, rfl⟩)
  generalize c.map PyData.int = C at a t1
  simp [hw, hw', a, hp, t1]
 | false =>
  have t1 := t (.sh (.list (c.map PyData.int))) (.inl rfl)
  generalize c.map PyData.int = C at a t1
  simp [hw, hw', a, hp, t1]
theorem tM (ss : List (List Int)) : ∀ x ∈ B3 ss, Ai 1 x := fun x hx => by
 obtain ⟨s, _, rfl⟩ := List.mem_map.mp hx
 exact dN (dv 0 s)
theorem ju {n : Nat} {xs : A4} (hg : ∀ x ∈ xs, Ai 50 x) (h : 24 < xs.length \/ ∃ x ∈ xs, As n x = false) : ar [.list xs, .int n] = .exc "NoSayings" := by
 have hb : areB (.list xs) (.int n) = false := by
  rcases h with h | ⟨x, hx, hs⟩
  ·simp [areB]
   intro _ _ z
   lia
  ·have : Az n xs = false := by
    cases e : Az n xs with
    | false => rfl
    | true =>
     have := jm.mp e x hx
     rw [hs] at this
     cases this
   simp [areB, this]
 rw [oj (cU hg) (fun ys e x hx => by cases e; exact hg x hx) (cR 50 n), hb]
 rfl
theorem ow {n : Nat} {d : PyData} (hg : Ai 51 d) (h : ∀ xs, d ≠ .list xs) : ar [d, .int n] = .exc "NoSayings" := by
 have hb : areB d (.int n) = false := by
  unfold areB
  cases d <;> first | rfl | exact absurd rfl (h _)
 rw [oj hg (fun ys e => absurd e (h ys)) (cR 50 n), hb]
 rfl
theorem mj {xs : A4} {m : PyData} (hg : ∀ x ∈ xs, Ai 50 x) (hm : Ai 50 m) (h : ∀ k, m = .int k -> k < 1 \/ 16 < k) : ar [.list xs, m] = .exc "NoSayings" := by
 have hb : areB (.list xs) m = false := by
  cases m with
  | int k =>
   have := h k rfl
   simp [areB]
   intro a b
   lia
  | _ => rfl
 rw [oj (cU hg) (fun ys e x hx => by cases e; exact hg x hx) hm, hb]
 rfl
theorem ml : ∀ m, Aa (List.replicate m (PyData.tuple [])) = true
 | 0 => rfl
 | m + 1 => by rw [List.replicate_succ, iw, ml m]; simp
noncomputable def A7 : DS := sAsg 7 (eOp dIdx [.ex (eOp dLst [.ex (eOp AI [.nm 6]), .ex (eOp dAdd [.nm 6, .ex (eOp dMul [.ex (eOp dLst [.ex (eOp dTup [])]), .ex (eC (.int 25))])]), .ex (eC .none), .ex (eOp dAdd [.nm 6, .ex (eOp dLst [.ex (eOp dTup [.ex (eC (.int 0))])])]), .ex (eOp dAdd [.ex (eOp dLst [.ex (eOp dTup [.ex (eOp dAdd [.nm 1, .ex (eC (.int 1))])])]), .nm 6])]), .ex (eOp dMod [.nm 4, .ex (eC (.int 5))])])
noncomputable def I7 : DS := sIf (AQ (tstV (eOp dEq [.ex (eOp dMod [.nm 4, .ex (eC (.int 5))]), .ex (eC (.int 4))])) (tstV (eOp dEq [.ex (eOp dMod [.ex (eOp B1 [.nm 4, .ex (eC (.int 5))]), .ex (eC (.int 2))]), .ex (eC (.int 1))]))) (sSeq (sAsg 7 (eV 6)) (sAsg 1 (eOp dIdx [.ex (eOp dLst [.ex (eC (.int 0)), .ex (eC (.int 17)), .ex (eC (.bool true)), .ex (eC (.str "1")), .ex (eC .none)]), .ex (eOp dMod [.ex (eOp B1 [.nm 4, .ex (eC (.int 10))]), .ex (eC (.int 5))])]))) (Af)
theorem rk : jt = sSeq (sIf (tstV (eOp dEq [.nm 3, .ex (eC (.int 0))])) (sSeq (sAsg 6 (Ab bb [.nm 0, .ex (eC (.int 10)), .nm 1, .ex (eC (.int 6))])) (sSeq A7 I7)) (sAsg 7 (Ab aQ [.nm 3, .nm 1, .nm 2, .nm 4]))) js := rfl
noncomputable def spoilt (S R : A4) (n : Int) : A4 := [.tuple S, .list (S ++ R), .none, .list (S ++ [.tuple [.int 0]]), .list (.tuple [.int (n + 1)] :: S)]
theorem a7 {S : A4} {sc w wh d : PyData} {y2 : SD} {n cell : Int} (hp : Aa S = true) (hl : S.length <= 1000) (hd : atI (spoilt S (List.replicate 25 (.tuple [])) n) (cell % 5) = some d) :
  A7 [some (.sh sc), some (.sh (.int n)), some y2, some (.sh w), some (.sh (.int cell)), some (.sh wh), some (.ol S), none, none] = .nx [some (.sh sc), some (.sh (.int n)), some y2, some (.sh w), some (.sh (.int cell)), some (.sh wh), some (.ol S), some (.sh d), none] := by
 have e1 : S.length + 25 <= sizeLine := j5 (by lia)
 have e2 : S.length + 1 <= sizeLine := j5 (by lia)
 have e3 : 1 + S.length <= sizeLine := j5 (by lia)
 have rp := ml 25
 have hm : dMul [.list [.tuple []], .int 25] = some (.ol (List.replicate 25 (PyData.tuple []))) := rfl
 have rl : (List.replicate 25 (PyData.tuple [])).length = 25 := rfl
 unfold spoilt at hd
 generalize List.replicate 25 (PyData.tuple []) = R at hd rp hm rl
 unfold A7
 generalize hr : cell % 5 = r at hd
 have e4 : S.length + R.length <= sizeLine := by rw [rl]; exact e1
 simp -implicitDefEqProofs [hp, rp, hm, hr, hd, e2, e3, e4, -bD]
theorem i7 {S : A4} {sc w wh d : PyData} {y2 : SD} {n cell : Int} (c0 : 0 <= cell) : ∃ (m e : PyData) (y6 : SD), I7 [some (.sh sc), some (.sh (.int n)), some y2, some (.sh w), some (.sh (.int cell)), some (.sh wh), some (.ol S), some (.sh d), none] = .nx [some (.sh sc), some (.sh m), some y2, some (.sh w), some (.sh (.int cell)), some (.sh wh), some y6, some (.sh e), none] /\ ((m = .int n /\ e = d) \/ (e = .list S /\ Ai 50 m /\ ∀ k, m = .int k -> k < 1 \/ 16 < k)) := by
 unfold I7
 by_cases h1 : cell % 5 = 4
 ·by_cases h2 : cell / 5 % 2 = 1
  ·have h3 : ∃ m, atI [.int 0, .int 17, .bool true, .str "1", .none] (cell / 10 % 5) = some m /\ Ai 50 m /\ ∀ k, m = .int k -> k < 1 \/ 16 < k := by
    have b1 : 0 <= cell / 10 % 5 := by lia
    have b2 : cell / 10 % 5 < 5 := by lia
    generalize cell / 10 % 5 = r at b1 b2
    have : r = 0 \/ r = 1 \/ r = 2 \/ r = 3 \/ r = 4 := by lia
    rcases this with rfl | rfl | rfl | rfl | rfl
    ·exact ⟨_, rfl, cR 50 0, fun k e => by cases e; lia⟩
    ·exact ⟨_, rfl, cR 50 17, fun k e => by cases e; lia⟩
    ·exact ⟨_, rfl, oY 50 true, fun k e => by cases e⟩
    ·exact ⟨_, rfl, dg 50 "1" (by decide +kernel), fun k e => by cases e⟩
    ·exact ⟨_, rfl, jT 50, fun k e => by cases e⟩
   obtain ⟨m, hm, hg, hk⟩ := h3
   generalize hr : cell / 10 % 5 = r at hm
   exact ⟨m, .list S, .sh (.list S), by simp -implicitDefEqProofs [h1, h2, hr, hm], .inr ⟨rfl, hg, hk⟩⟩
  ·exact ⟨.int n, d, .ol S, by simp -implicitDefEqProofs [h1, h2], .inl ⟨rfl, rfl⟩⟩
 ·exact ⟨.int n, d, .ol S, by simp -implicitDefEqProofs [h1], .inl ⟨rfl, rfl⟩⟩
theorem say0 {n : Nat} : As n (.tuple [.int 0]) = false := by simp [As, AK, isWh, absI]
theorem say1 {n : Nat} : As n (.tuple [.int ((n : Int) + 1)]) = false := by
 simp [As, AK, isWh, absI]
 lia
theorem vY {n : Nat} {S : A4} {cell : Int} (hg : ∀ x ∈ S, Ai 1 x) (c0 : 0 <= cell) : ∃ d, atI (spoilt S (List.replicate 25 (.tuple [])) n) (cell % 5) = some d /\ ar [d, .int n] = .exc "NoSayings" := by
 have g50 : ∀ x ∈ S, Ai 50 x := fun x hx => (hg x hx).mono (by decide)
 have b1 : 0 <= cell % 5 := by lia
 have b2 : cell % 5 < 5 := by lia
 generalize cell % 5 = r at b1 b2
 have : r = 0 \/ r = 1 \/ r = 2 \/ r = 3 \/ r = 4 := by lia
 rcases this with rfl | rfl | rfl | rfl | rfl
 ·exact ⟨_, rfl, ow (dN g50) fun xs e => by cases e⟩
 ·refine ⟨_, rfl, ju (fun x hx => ?_) (.inl ?_)⟩
  ·rcases List.mem_append.mp hx with h | h
   ·exact g50 x h
   ·obtain rfl := List.eq_of_mem_replicate h
    exact dN (n := 49) fun x hx => nomatch hx
  ·rw [List.length_append, List.length_replicate]; lia
 ·exact ⟨_, rfl, ow (jT 51) fun xs e => by cases e⟩
 ·refine ⟨_, rfl, ju (fun x hx => ?_) (.inr ⟨.tuple [.int 0], List.mem_append_right _ (List.mem_singleton.mpr rfl), say0⟩)⟩
  rcases List.mem_append.mp hx with h | h
  ·exact g50 x h
  ·obtain rfl := List.mem_singleton.mp h
   exact dN (n := 49) (dv 49 [0])
 ·refine ⟨_, rfl, ju (fun x hx => ?_) (.inr ⟨.tuple [.int ((n : Int) + 1)], List.mem_cons_self, say1⟩)⟩
  rcases List.mem_cons.mp hx with rfl | h
  ·exact dN (n := 49) (dv 49 [(n : Int) + 1])
  ·exact g50 x h
theorem tN {ns : List Int} {n : Nat} {C : A4} {cell what : Int} (h1 : 1 <= n) (h5 : n <= 5) (c0 : 0 <= cell) (w0 : 0 <= what) (w14 : what < 14) : jt [some (.sh (scr ns)), some (.sh (.int n)), some (.ol C), some (.sh (.int 0)), some (.sh (.int cell)), some (.sh (.int what)), none, none, none] = .rt (.sh (.bool true)) := by
 have fs := vL ns 10 n 6 (by decide) (by lia) (by lia) (by decide) (by decide)
 have hp := kF (B9 ns 10 n 6)
 have hg := tM (B9 ns 10 n 6)
 have hl : (B3 (B9 ns 10 n 6)).length <= 1000 := by
  have := p8 (ns := ns) (at_ := 10) (many := n) (most := 6) (by decide)
  rw [p7]
  have e : (6 : Int).toNat = 6 := rfl
  lia
 generalize B3 (B9 ns 10 n 6) = S at fs hp hg hl
 obtain ⟨d, hd, hr⟩ := vY (n := n) (S := S) hg c0
 generalize scr ns = sc at fs
 have ha := a7 (sc := sc) (w := .int 0) (wh := .int what) (y2 := .ol C) hp hl hd
 obtain ⟨m, e, y6, hI, hc⟩ := i7 (S := S) (sc := sc) (w := .int 0) (wh := .int what) (y2 := .ol C) (d := d) (n := n) c0
 have hk : ar [e, m] = .exc "NoSayings" /\ (ar [.list [], m] = .ok (.ol []) \/ ar [.list [], m] = .exc "NoSayings") := by
  rcases hc with ⟨rfl, rfl⟩ | ⟨rfl, a, b⟩
  ·exact ⟨hr, .inl (chk0 h1 h5)⟩
  ·exact ⟨mj (fun x hx => (hg x hx).mono (by decide)) a b, .inr (mj (fun x hx => nomatch hx) a b)⟩
 have t := tail (sc := sc) (x7 := .sh e) (x2 := .ol C) (x6 := some y6) (cell := cell) (due := 0) (pB (C := .list C) (vO hk.1 hk.2 what w0 w14)) (by decide) rfl (by decide) (fun z => by lia) (.inl rfl) (.inr ⟨C, rfl, rfl⟩)
 rw [rk]
 generalize js = TL at t ⊢
 generalize A7 = AA at ha ⊢
 generalize I7 = II at hI ⊢
 simp -implicitDefEqProofs [fs, hp, ha, hI, t]
theorem law_holds (ns : List Int) : nY [scr ns] = .ok (.sh (.bool true)) := by
 have m0 := h8 ns 0 5 (by decide) (by decide)
 have m6 := h8 ns 6 10 (by decide) (by decide)
 have m7 := h8 ns 7 1000000 (by decide) (by decide)
 have m8 := h8 ns 8 14 (by decide) (by decide)
 have a0 := cS ns 0 (m := 5) (by decide)
 have b0 := d7 ns 0 (m := 5) (by decide)
 have a6 := cS ns 6 (m := 10) (by decide)
 have b6 := d7 ns 6 (m := 10) (by decide)
 have a7 := cS ns 7 (m := 1000000) (by decide)
 have a8 := cS ns 8 (m := 14) (by decide)
 have b8 := d7 ns 8 (m := 14) (by decide)
 generalize mixZ ns 0 5 = q0 at *
 generalize mixZ ns 6 10 = q6 at *
 generalize mixZ ns 7 1000000 = q7 at *
 generalize mixZ ns 8 14 = q8 at *
 obtain ⟨n, hn⟩ : ∃ n : Nat, 1 + q0 = n := ⟨(1 + q0).toNat, by lia⟩
 obtain ⟨way, rfl⟩ : ∃ way : Nat, q6 = way := ⟨q6.toNat, by lia⟩
 have cc := pC ns n
 have hc := ri ns n
 have M : jt [some (.sh (scr ns)), some (.sh (.int n)), some (.ol ((Bn ns n).map PyData.int)), some (.sh (.int way)), some (.sh (.int q7)), some (.sh (.int q8)), none, none, none] = .rt (.sh (.bool true)) := by
  by_cases hw : way = 0
  ·subst hw
   exact tN (by lia) (by lia) a7 a8 b8
  ·exact pE hc (by lia) (by lia) (by lia) (by lia) a7
 have hp : Aa ((Bn ns n).map PyData.int) = true := df _
 have hb : rngB (n : Int) = true := kC (by lia) (by lia)
 have hl : (rngI 0 n).length <= sizeLine := bh (by rw [dM]; lia)
 generalize (Bn ns n).map PyData.int = C at cc M hp
 generalize scr ns = sc at m0 m6 m7 m8 cc M
 unfold nY
 rw [rj]
 generalize jt = ML at M ⊢
 simp -implicitDefEqProofs [m0, m6, m7, m8, hn, hb, hl, cc, hp, M]
end L2
namespace L2
open PySem PySem.Spec PyProof.Rows
instance : Tabs := ⟨[], ""⟩
theorem vZ {l : W.OpenLaw} {w : World} {K : W.Frag} {h : Heap} {mg : A5} {fa : Addr} {C_Fk fi_Fk fa_Fk D_LENGTH_BY_WORD f0 f1 f2 f3 f4 f5 f6 f7 f8 f9 f10 f11 f12 f13 f14 f15 f16 f17 f18 f19 f20 f21 f22 f23 f24 f25 f26 f27 f28 f29 f30 f31 f32 f33 f34 C_NoCase C_NoKinds C_NoSaying C_NoSayings C_NoSentence C_NoThing C_SayError : Addr} {od0 an0 od1 an1 od2 an2 od3 an3 od4 an4 od5 an5 od6 an6 od7 an7 od8 an8 od9 an9 od10 an10 od11 an11 od12 an12 od13 an13 od14 an14 od15 an15 od16 an16 od17 an17 od18 an18 od19 an19 od20 an20 od21 an21 od22 an22 od23 an23 od24 an24 od25 an25 od26 an26 od27 an27 od28 an28 od29 an29 od30 an30 od31 an31 od32 an32 od33 an33 od34 an34 : Option Addr} {sl0 sl1 sl2 sl3 sl4 sl5 sl6 sl7 sl8 sl9 sl10 sl11 sl12 sl13 sl14 sl15 sl16 sl17 sl18 sl19 sl20 sl21 sl22 sl23 sl24 sl25 sl26 sl27 sl28 sl29 sl30 sl31 sl32 sl33 sl34 : Array (Option Value)} {oc0 kV0 dc0 pm0 cd0 ct0 oc1 kV1 dc1 pm1 cd1 ct1 oc2 kV2 dc2 pm2 cd2 ct2 oc3 kV3 dc3 pm3 cd3 ct3 oc4 kV4 dc4 pm4 cd4 ct4 oc5 kV5 dc5 pm5 cd5 ct5 oc6 kV6 dc6 pm6 cd6 ct6 oc7 kV7 dc7 pm7 cd7 ct7 oc8 kV8 dc8 pm8 cd8 ct8 oc9 kV9 dc9 pm9 cd9 ct9 oc10 kV10 dc10 pm10 cd10 ct10 oc11 kV11 dc11 pm11 cd11 ct11 oc12 kV12 dc12 pm12 cd12 ct12 oc13 kV13 dc13 pm13 cd13 ct13 oc14 kV14 dc14 pm14 cd14 ct14 oc15 kV15 dc15 pm15 cd15 ct15 oc16 kV16 dc16 pm16 cd16 ct16 oc17 kV17 dc17 pm17 cd17 ct17 oc18 kV18 dc18 pm18 cd18 ct18 oc19 kV19 dc19 pm19 cd19 ct19 oc20 kV20 dc20 pm20 cd20 ct20 oc21 kV21 dc21 pm21 cd21 ct21 oc22 kV22 dc22 pm22 cd22 ct22 oc23 kV23 dc23 pm23 cd23 ct23 oc24 kV24 dc24 pm24 cd24 ct24 oc25 kV25 dc25 pm25 cd25 ct25 oc26 kV26 dc26 pm26 cd26 ct26 oc27 kV27 dc27 pm27 cd27 ct27 oc28 kV28 dc28 pm28 cd28 ct28 oc29 kV29 dc29 pm29 cd29 ct29 oc30 kV30 dc30 pm30 cd30 ct30 oc31 kV31 dc31 pm31 cd31 ct31 oc32 kV32 dc32 pm32 cd32 ct32 oc33 kV33 dc33 pm33 cd33 ct33 oc34 kV34 dc34 pm34 cd34 ct34 : Value} {t_ALL t_MOST_SAYINGS t_MOST_SENTENCE_THINGS t_MOST_THINGS t_MOST_TUPLES t_SOME : Tok} {di_Fk da_Fk : FuncData} (X : K.In h) (G : h.Ns mainGlobals mg) (hfa : mg "law" = some (.ref fa))
  (a0 : W.nsIn K mainGlobals "is_whole" = some (some (.ref f0)))
  (l0 : K.lookup f0 = some ⟨oc0, od0, .func (W.fnOf "is_whole" "is_whole" (defArgs cY) (defBody cY) (defScope cY) .none kV0 dc0 pm0 an0 cd0 ct0), sl0⟩)
  (c0 : W.codeIn K cd0 "is_whole" = true)
  (k0 : W.keepIn K (.ref f0) = true)
  (a1 : W.nsIn K mainGlobals "is_from_one_to" = some (some (.ref f1)))
  (l1 : K.lookup f1 = some ⟨oc1, od1, .func (W.fnOf "is_from_one_to" "is_from_one_to" (defArgs bc) (defBody bc) (defScope bc) .none kV1 dc1 pm1 an1 cd1 ct1), sl1⟩)
  (c1 : W.codeIn K cd1 "is_from_one_to" = true)
  (k1 : W.keepIn K (.ref f1) = true)
  (a2 : W.nsIn K mainGlobals "is_saying" = some (some (.ref f2)))
  (l2 : K.lookup f2 = some ⟨oc2, od2, .func (W.fnOf "is_saying" "is_saying" (defArgs cJ) (defBody cJ) (defScope cJ) .none kV2 dc2 pm2 an2 cd2 ct2), sl2⟩)
  (c2 : W.codeIn K cd2 "is_saying" = true)
  (k2 : W.keepIn K (.ref f2) = true)
  (a3 : W.nsIn K mainGlobals "is_case" = some (some (.ref f3)))
  (l3 : K.lookup f3 = some ⟨oc3, od3, .func (W.fnOf "is_case" "is_case" (defArgs cZ) (defBody cZ) (defScope cZ) .none kV3 dc3 pm3 an3 cd3 ct3), sl3⟩)
  (c3 : W.codeIn K cd3 "is_case" = true)
  (k3 : W.keepIn K (.ref f3) = true)
  (a4 : W.nsIn K mainGlobals "checked" = some (some (.ref f4)))
  (l4 : K.lookup f4 = some ⟨oc4, od4, .func (W.fnOf "checked" "checked" (defArgs dz) (defBody dz) (defScope dz) .none kV4 dc4 pm4 an4 cd4 ct4), sl4⟩)
  (c4 : W.codeIn K cd4 "checked" = true)
  (k4 : W.keepIn K (.ref f4) = true)
  (a5 : W.nsIn K mainGlobals "fits" = some (some (.ref f5)))
  (l5 : K.lookup f5 = some ⟨oc5, od5, .func (W.fnOf "fits" "fits" (defArgs ia) (defBody ia) (defScope ia) .none kV5 dc5 pm5 an5 cd5 ct5), sl5⟩)
  (c5 : W.codeIn K cd5 "fits" = true)
  (k5 : W.keepIn K (.ref f5) = true)
  (a6 : W.nsIn K mainGlobals "are_kinds" = some (some (.ref f6)))
  (l6 : K.lookup f6 = some ⟨oc6, od6, .func (W.fnOf "are_kinds" "are_kinds" (defArgs cg) (defBody cg) (defScope cg) .none kV6 dc6 pm6 an6 cd6 ct6), sl6⟩)
  (c6 : W.codeIn K cd6 "are_kinds" = true)
  (k6 : W.keepIn K (.ref f6) = true)
  (a7 : W.nsIn K mainGlobals "played" = some (some (.ref f7)))
  (l7 : K.lookup f7 = some ⟨oc7, od7, .func (W.fnOf "played" "played" (defArgs eJ) (defBody eJ) (defScope eJ) .none kV7 dc7 pm7 an7 cd7 ct7), sl7⟩)
  (c7 : W.codeIn K cd7 "played" = true)
  (k7 : W.keepIn K (.ref f7) = true)
  (a8 : W.nsIn K mainGlobals "cases" = some (some (.ref f8)))
  (l8 : K.lookup f8 = some ⟨oc8, od8, .func (W.fnOf "cases" "cases" (defArgs fM) (defBody fM) (defScope fM) .none kV8 dc8 pm8 an8 cd8 ct8), sl8⟩)
  (c8 : W.codeIn K cd8 "cases" = true)
  (k8 : W.keepIn K (.ref f8) = true)
  (a9 : W.nsIn K mainGlobals "settled" = some (some (.ref f9)))
  (l9 : K.lookup f9 = some ⟨oc9, od9, .func (W.fnOf "settled" "settled" (defArgs dA) (defBody dA) (defScope dA) .none kV9 dc9 pm9 an9 cd9 ct9), sl9⟩)
  (c9 : W.codeIn K cd9 "settled" = true)
  (k9 : W.keepIn K (.ref f9) = true)
  (a10 : W.nsIn K mainGlobals "searched" = some (some (.ref f10)))
  (l10 : K.lookup f10 = some ⟨oc10, od10, .func (W.fnOf "searched" "searched" (defArgs fh) (defBody fh) (defScope fh) .none kV10 dc10 pm10 an10 cd10 ct10), sl10⟩)
  (c10 : W.codeIn K cd10 "searched" = true)
  (k10 : W.keepIn K (.ref f10) = true)
  (a11 : W.nsIn K mainGlobals "case_or_clash" = some (some (.ref f11)))
  (l11 : K.lookup f11 = some ⟨oc11, od11, .func (W.fnOf "case_or_clash" "case_or_clash" (defArgs br) (defBody br) (defScope br) .none kV11 dc11 pm11 an11 cd11 ct11), sl11⟩)
  (c11 : W.codeIn K cd11 "case_or_clash" = true)
  (k11 : W.keepIn K (.ref f11) = true)
  (a12 : W.nsIn K mainGlobals "follows" = some (some (.ref f12)))
  (l12 : K.lookup f12 = some ⟨oc12, od12, .func (W.fnOf "follows" "follows" (defArgs dD) (defBody dD) (defScope dD) .none kV12 dc12 pm12 an12 cd12 ct12), sl12⟩)
  (c12 : W.codeIn K cd12 "follows" = true)
  (k12 : W.keepIn K (.ref f12) = true)
  (a13 : W.nsIn K mainGlobals "sharpest" = some (some (.ref f13)))
  (l13 : K.lookup f13 = some ⟨oc13, od13, .func (W.fnOf "sharpest" "sharpest" (defArgs d4) (defBody d4) (defScope d4) .none kV13 dc13 pm13 an13 cd13 ct13), sl13⟩)
  (c13 : W.codeIn K cd13 "sharpest" = true)
  (k13 : W.keepIn K (.ref f13) = true)
  (a14 : W.nsIn K mainGlobals "alike" = some (some (.ref f14)))
  (l14 : K.lookup f14 = some ⟨oc14, od14, .func (W.fnOf "alike" "alike" (defArgs fN) (defBody fN) (defScope fN) .none kV14 dc14 pm14 an14 cd14 ct14), sl14⟩)
  (c14 : W.codeIn K cd14 "alike" = true)
  (k14 : W.keepIn K (.ref f14) = true)
  (a15 : W.nsIn K mainGlobals "least_clash" = some (some (.ref f15)))
  (l15 : K.lookup f15 = some ⟨oc15, od15, .func (W.fnOf "least_clash" "least_clash" (defArgs bQ) (defBody bQ) (defScope bQ) .none kV15 dc15 pm15 an15 cd15 ct15), sl15⟩)
  (c15 : W.codeIn K cd15 "least_clash" = true)
  (k15 : W.keepIn K (.ref f15) = true)
  (a16 : W.nsIn K mainGlobals "between" = some (some (.ref f16)))
  (l16 : K.lookup f16 = some ⟨oc16, od16, .func (W.fnOf "between" "between" (defArgs dE) (defBody dE) (defScope dE) .none kV16 dc16 pm16 an16 cd16 ct16), sl16⟩)
  (c16 : W.codeIn K cd16 "between" = true)
  (k16 : W.keepIn K (.ref f16) = true)
  (a17 : W.nsIn K mainGlobals "forgotten" = some (some (.ref f17)))
  (l17 : K.lookup f17 = some ⟨oc17, od17, .func (W.fnOf "forgotten" "forgotten" (defArgs cK) (defBody cK) (defScope cK) .none kV17 dc17 pm17 an17 cd17 ct17), sl17⟩)
  (c17 : W.codeIn K cd17 "forgotten" = true)
  (k17 : W.keepIn K (.ref f17) = true)
  (a18 : W.nsIn K mainGlobals "least_case" = some (some (.ref f18)))
  (l18 : K.lookup f18 = some ⟨oc18, od18, .func (W.fnOf "least_case" "least_case" (defArgs cw) (defBody cw) (defScope cw) .none kV18 dc18 pm18 an18 cd18 ct18), sl18⟩)
  (c18 : W.codeIn K cd18 "least_case" = true)
  (k18 : W.keepIn K (.ref f18) = true)
  (a19 : W.nsIn K mainGlobals "has_form" = some (some (.ref f19)))
  (l19 : K.lookup f19 = some ⟨oc19, od19, .func (W.fnOf "has_form" "has_form" (defArgs d5) (defBody d5) (defScope d5) .none kV19 dc19 pm19 an19 cd19 ct19), sl19⟩)
  (c19 : W.codeIn K cd19 "has_form" = true)
  (k19 : W.keepIn K (.ref f19) = true)
  (a20 : W.nsIn K mainGlobals "check_sentence" = some (some (.ref f20)))
  (l20 : K.lookup f20 = some ⟨oc20, od20, .func (W.fnOf "check_sentence" "check_sentence" (defArgs bf) (defBody bf) (defScope bf) .none kV20 dc20 pm20 an20 cd20 ct20), sl20⟩)
  (c20 : W.codeIn K cd20 "check_sentence" = true)
  (k20 : W.keepIn K (.ref f20) = true)
  (a21 : W.nsIn K mainGlobals "is_true" = some (some (.ref f21)))
  (l21 : K.lookup f21 = some ⟨oc21, od21, .func (W.fnOf "is_true" "is_true" (defArgs dF) (defBody dF) (defScope dF) .none kV21 dc21 pm21 an21 cd21 ct21), sl21⟩)
  (c21 : W.codeIn K cd21 "is_true" = true)
  (k21 : W.keepIn K (.ref f21) = true)
  (a22 : W.nsIn K mainGlobals "sayings_of" = some (some (.ref f22)))
  (l22 : K.lookup f22 = some ⟨oc22, od22, .func (W.fnOf "sayings_of" "sayings_of" (defArgs cx) (defBody cx) (defScope cx) .none kV22 dc22 pm22 an22 cd22 ct22), sl22⟩)
  (c22 : W.codeIn K cd22 "sayings_of" = true)
  (k22 : W.keepIn K (.ref f22) = true)
  (a23 : W.nsIn K mainGlobals "_law_cell_at" = some (some (.ref f23)))
  (l23 : K.lookup f23 = some ⟨oc23, od23, .func (W.fnOf "_law_cell_at" "_law_cell_at" (defArgs bR) (defBody bR) (defScope bR) .none kV23 dc23 pm23 an23 cd23 ct23), sl23⟩)
  (c23 : W.codeIn K cd23 "_law_cell_at" = true)
  (k23 : W.keepIn K (.ref f23) = true)
  (a24 : W.nsIn K mainGlobals "_law_mixed" = some (some (.ref f24)))
  (l24 : K.lookup f24 = some ⟨oc24, od24, .func (W.fnOf "_law_mixed" "_law_mixed" (defArgs cL) (defBody cL) (defScope cL) .none kV24 dc24 pm24 an24 cd24 ct24), sl24⟩)
  (c24 : W.codeIn K cd24 "_law_mixed" = true)
  (k24 : W.keepIn K (.ref f24) = true)
  (a25 : W.nsIn K mainGlobals "_law_saying" = some (some (.ref f25)))
  (l25 : K.lookup f25 = some ⟨oc25, od25, .func (W.fnOf "_law_saying" "_law_saying" (defArgs bJ) (defBody bJ) (defScope bJ) .none kV25 dc25 pm25 an25 cd25 ct25), sl25⟩)
  (c25 : W.codeIn K cd25 "_law_saying" = true)
  (k25 : W.keepIn K (.ref f25) = true)
  (a26 : W.nsIn K mainGlobals "_law_sayings" = some (some (.ref f26)))
  (l26 : K.lookup f26 = some ⟨oc26, od26, .func (W.fnOf "_law_sayings" "_law_sayings" (defArgs bB) (defBody bB) (defScope bB) .none kV26 dc26 pm26 an26 cd26 ct26), sl26⟩)
  (c26 : W.codeIn K cd26 "_law_sayings" = true)
  (k26 : W.keepIn K (.ref f26) = true)
  (a27 : W.nsIn K mainGlobals "_law_with_sayings" = some (some (.ref f27)))
  (l27 : K.lookup f27 = some ⟨oc27, od27, .func (W.fnOf "_law_with_sayings" "_law_with_sayings" (defArgs b4) (defBody b4) (defScope b4) .none kV27 dc27 pm27 an27 cd27 ct27), sl27⟩)
  (c27 : W.codeIn K cd27 "_law_with_sayings" = true)
  (k27 : W.keepIn K (.ref f27) = true)
  (a28 : W.nsIn K mainGlobals "_law_with_other" = some (some (.ref f28)))
  (l28 : K.lookup f28 = some ⟨oc28, od28, .func (W.fnOf "_law_with_other" "_law_with_other" (defArgs bg) (defBody bg) (defScope bg) .none kV28 dc28 pm28 an28 cd28 ct28), sl28⟩)
  (c28 : W.codeIn K cd28 "_law_with_other" = true)
  (k28 : W.keepIn K (.ref f28) = true)
  (a29 : W.nsIn K mainGlobals "_law_asked" = some (some (.ref f29)))
  (l29 : K.lookup f29 = some ⟨oc29, od29, .func (W.fnOf "_law_asked" "_law_asked" (defArgs cM) (defBody cM) (defScope cM) .none kV29 dc29 pm29 an29 cd29 ct29), sl29⟩)
  (c29 : W.codeIn K cd29 "_law_asked" = true)
  (k29 : W.keepIn K (.ref f29) = true)
  (a30 : W.nsIn K mainGlobals "_law_kind" = some (some (.ref f30)))
  (l30 : K.lookup f30 = some ⟨oc30, od30, .func (W.fnOf "_law_kind" "_law_kind" (defArgs d6) (defBody d6) (defScope d6) .none kV30 dc30 pm30 an30 cd30 ct30), sl30⟩)
  (c30 : W.codeIn K cd30 "_law_kind" = true)
  (k30 : W.keepIn K (.ref f30) = true)
  (a31 : W.nsIn K mainGlobals "_law_by_base" = some (some (.ref f31)))
  (l31 : K.lookup f31 = some ⟨oc31, od31, .func (W.fnOf "_law_by_base" "_law_by_base" (defArgs bS) (defBody bS) (defScope bS) .none kV31 dc31 pm31 an31 cd31 ct31), sl31⟩)
  (c31 : W.codeIn K cd31 "_law_by_base" = true)
  (k31 : W.keepIn K (.ref f31) = true)
  (a32 : W.nsIn K mainGlobals "_law_bad_sentence" = some (some (.ref f32)))
  (l32 : K.lookup f32 = some ⟨oc32, od32, .func (W.fnOf "_law_bad_sentence" "_law_bad_sentence" (defArgs b5) (defBody b5) (defScope b5) .none kV32 dc32 pm32 an32 cd32 ct32), sl32⟩)
  (c32 : W.codeIn K cd32 "_law_bad_sentence" = true)
  (k32 : W.keepIn K (.ref f32) = true)
  (a33 : W.nsIn K mainGlobals "_law_bad" = some (some (.ref f33)))
  (l33 : K.lookup f33 = some ⟨oc33, od33, .func (W.fnOf "_law_bad" "_law_bad" (defArgs dG) (defBody dG) (defScope dG) .none kV33 dc33 pm33 an33 cd33 ct33), sl33⟩)
  (c33 : W.codeIn K cd33 "_law_bad" = true)
  (k33 : W.keepIn K (.ref f33) = true)
  (a34 : W.nsIn K mainGlobals "law" = some (some (.ref f34)))
  (l34 : K.lookup f34 = some ⟨oc34, od34, .func (W.fnOf "law" "law" (defArgs fY) (defBody fY) (defScope fY) .none kV34 dc34 pm34 an34 cd34 ct34), sl34⟩)
  (c34 : W.codeIn K cd34 "law" = true)
  (k34 : W.keepIn K (.ref f34) = true)
  (z_ValueError : W.nsIn K mainGlobals "ValueError" = some none)
  (z_abs : W.nsIn K mainGlobals "abs" = some none)
  (z_all : W.nsIn K mainGlobals "all" = some none)
  (z_bool : W.nsIn K mainGlobals "bool" = some none)
  (z_enumerate : W.nsIn K mainGlobals "enumerate" = some none)
  (z_int : W.nsIn K mainGlobals "int" = some none)
  (z_isinstance : W.nsIn K mainGlobals "isinstance" = some none)
  (z_len : W.nsIn K mainGlobals "len" = some none)
  (z_list : W.nsIn K mainGlobals "list" = some none)
  (z_range : W.nsIn K mainGlobals "range" = some none)
  (z_sorted : W.nsIn K mainGlobals "sorted" = some none)
  (z_str : W.nsIn K mainGlobals "str" = some none)
  (z_tuple : W.nsIn K mainGlobals "tuple" = some none)
  (v_ALL : W.nsIn K mainGlobals "ALL" = some (some (.str "all" t_ALL)))
  (v_MOST_SAYINGS : W.nsIn K mainGlobals "MOST_SAYINGS" = some (some (.int 24 t_MOST_SAYINGS)))
  (v_MOST_SENTENCE_THINGS : W.nsIn K mainGlobals "MOST_SENTENCE_THINGS" = some (some (.int 5 t_MOST_SENTENCE_THINGS)))
  (v_MOST_THINGS : W.nsIn K mainGlobals "MOST_THINGS" = some (some (.int 16 t_MOST_THINGS)))
  (v_MOST_TUPLES : W.nsIn K mainGlobals "MOST_TUPLES" = some (some (.int 12 t_MOST_TUPLES)))
  (v_SOME : W.nsIn K mainGlobals "SOME" = some (some (.str "some" t_SOME)))
  (v_LENGTH_BY_WORD : W.nsIn K mainGlobals "LENGTH_BY_WORD" = some (some (.ref D_LENGTH_BY_WORD)))
  (q_LENGTH_BY_WORD : DctK w K D_LENGTH_BY_WORD aL)
  (g_NoCase : W.nsIn K mainGlobals "NoCase" = some (some (.ref C_NoCase)))
  (g_NoKinds : W.nsIn K mainGlobals "NoKinds" = some (some (.ref C_NoKinds)))
  (g_NoSaying : W.nsIn K mainGlobals "NoSaying" = some (some (.ref C_NoSaying)))
  (g_NoSayings : W.nsIn K mainGlobals "NoSayings" = some (some (.ref C_NoSayings)))
  (g_NoSentence : W.nsIn K mainGlobals "NoSentence" = some (some (.ref C_NoSentence)))
  (g_NoThing : W.nsIn K mainGlobals "NoThing" = some (some (.ref C_NoThing)))
  (g_SayError : W.nsIn K mainGlobals "SayError" = some (some (.ref C_SayError)))
  (x_NoCase : PySem.W.excIn K C_NoCase [.type "ValueError", .type "Exception", .type "BaseException", .type "object"] "ValueError.__new__" = true)
  (x_NoKinds : PySem.W.excIn K C_NoKinds [.type "ValueError", .type "Exception", .type "BaseException", .type "object"] "ValueError.__new__" = true)
  (x_NoSaying : PySem.W.excIn K C_NoSaying [.type "ValueError", .type "Exception", .type "BaseException", .type "object"] "ValueError.__new__" = true)
  (x_NoSayings : PySem.W.excIn K C_NoSayings [.type "ValueError", .type "Exception", .type "BaseException", .type "object"] "ValueError.__new__" = true)
  (x_NoSentence : PySem.W.excIn K C_NoSentence [.type "ValueError", .type "Exception", .type "BaseException", .type "object"] "ValueError.__new__" = true)
  (x_NoThing : PySem.W.excIn K C_NoThing [.type "ValueError", .type "Exception", .type "BaseException", .type "object"] "ValueError.__new__" = true)
  (e_NoCase_NoCase : W.exmOne K (.ref C_NoCase) (.ref C_NoCase) = some true)
  (e_NoKinds_NoCase : W.exmOne K (.ref C_NoKinds) (.ref C_NoCase) = some false)
  (e_NoSaying_NoCase : W.exmOne K (.ref C_NoSaying) (.ref C_NoCase) = some false)
  (e_NoSayings_NoCase : W.exmOne K (.ref C_NoSayings) (.ref C_NoCase) = some false)
  (e_NoSentence_NoCase : W.exmOne K (.ref C_NoSentence) (.ref C_NoCase) = some false)
  (e_NoThing_NoCase : W.exmOne K (.ref C_NoThing) (.ref C_NoCase) = some false)
  (e_NoCase_NoKinds : W.exmOne K (.ref C_NoCase) (.ref C_NoKinds) = some false)
  (e_NoKinds_NoKinds : W.exmOne K (.ref C_NoKinds) (.ref C_NoKinds) = some true)
  (e_NoSaying_NoKinds : W.exmOne K (.ref C_NoSaying) (.ref C_NoKinds) = some false)
  (e_NoSayings_NoKinds : W.exmOne K (.ref C_NoSayings) (.ref C_NoKinds) = some false)
  (e_NoSentence_NoKinds : W.exmOne K (.ref C_NoSentence) (.ref C_NoKinds) = some false)
  (e_NoThing_NoKinds : W.exmOne K (.ref C_NoThing) (.ref C_NoKinds) = some false)
  (e_NoCase_NoSaying : W.exmOne K (.ref C_NoCase) (.ref C_NoSaying) = some false)
  (e_NoKinds_NoSaying : W.exmOne K (.ref C_NoKinds) (.ref C_NoSaying) = some false)
  (e_NoSaying_NoSaying : W.exmOne K (.ref C_NoSaying) (.ref C_NoSaying) = some true)
  (e_NoSayings_NoSaying : W.exmOne K (.ref C_NoSayings) (.ref C_NoSaying) = some false)
  (e_NoSentence_NoSaying : W.exmOne K (.ref C_NoSentence) (.ref C_NoSaying) = some false)
  (e_NoThing_NoSaying : W.exmOne K (.ref C_NoThing) (.ref C_NoSaying) = some false)
  (e_NoCase_NoSayings : W.exmOne K (.ref C_NoCase) (.ref C_NoSayings) = some false)
  (e_NoKinds_NoSayings : W.exmOne K (.ref C_NoKinds) (.ref C_NoSayings) = some false)
  (e_NoSaying_NoSayings : W.exmOne K (.ref C_NoSaying) (.ref C_NoSayings) = some false)
  (e_NoSayings_NoSayings : W.exmOne K (.ref C_NoSayings) (.ref C_NoSayings) = some true)
  (e_NoSentence_NoSayings : W.exmOne K (.ref C_NoSentence) (.ref C_NoSayings) = some false)
  (e_NoThing_NoSayings : W.exmOne K (.ref C_NoThing) (.ref C_NoSayings) = some false)
  (e_NoCase_NoSentence : W.exmOne K (.ref C_NoCase) (.ref C_NoSentence) = some false)
  (e_NoKinds_NoSentence : W.exmOne K (.ref C_NoKinds) (.ref C_NoSentence) = some false)
  (e_NoSaying_NoSentence : W.exmOne K (.ref C_NoSaying) (.ref C_NoSentence) = some false)
  (e_NoSayings_NoSentence : W.exmOne K (.ref C_NoSayings) (.ref C_NoSentence) = some false)
  (e_NoSentence_NoSentence : W.exmOne K (.ref C_NoSentence) (.ref C_NoSentence) = some true)
  (e_NoThing_NoSentence : W.exmOne K (.ref C_NoThing) (.ref C_NoSentence) = some false)
  (e_NoCase_NoThing : W.exmOne K (.ref C_NoCase) (.ref C_NoThing) = some false)
  (e_NoKinds_NoThing : W.exmOne K (.ref C_NoKinds) (.ref C_NoThing) = some false)
  (e_NoSaying_NoThing : W.exmOne K (.ref C_NoSaying) (.ref C_NoThing) = some false)
  (e_NoSayings_NoThing : W.exmOne K (.ref C_NoSayings) (.ref C_NoThing) = some false)
  (e_NoSentence_NoThing : W.exmOne K (.ref C_NoSentence) (.ref C_NoThing) = some false)
  (e_NoThing_NoThing : W.exmOne K (.ref C_NoThing) (.ref C_NoThing) = some true)
  (e_NoCase_SayError : W.exmOne K (.ref C_NoCase) (.ref C_SayError) = some true)
  (e_NoKinds_SayError : W.exmOne K (.ref C_NoKinds) (.ref C_SayError) = some true)
  (e_NoSaying_SayError : W.exmOne K (.ref C_NoSaying) (.ref C_SayError) = some true)
  (e_NoSayings_SayError : W.exmOne K (.ref C_NoSayings) (.ref C_SayError) = some true)
  (e_NoSentence_SayError : W.exmOne K (.ref C_NoSentence) (.ref C_SayError) = some true)
  (e_NoThing_SayError : W.exmOne K (.ref C_NoThing) (.ref C_SayError) = some true)
  (i_NoCase_ValueError : W.kitOne K (.ref C_NoCase) (.type "ValueError") = some true)
  (i_NoKinds_ValueError : W.kitOne K (.ref C_NoKinds) (.type "ValueError") = some true)
  (i_NoSaying_ValueError : W.kitOne K (.ref C_NoSaying) (.type "ValueError") = some true)
  (i_NoSayings_ValueError : W.kitOne K (.ref C_NoSayings) (.type "ValueError") = some true)
  (i_NoSentence_ValueError : W.kitOne K (.ref C_NoSentence) (.type "ValueError") = some true)
  (i_NoThing_ValueError : W.kitOne K (.ref C_NoThing) (.type "ValueError") = some true)
  (FK : BE K mg C_Fk fi_Fk fa_Fk di_Fk da_Fk)
  (hlaw : ∀ ns : List Int, ns.length <= 63 -> nY [.list (ns.map PyData.int)] = .ok (.sh (.bool true))) :
  ∃ fd : FuncData, (∀ (s : Shared) (v : Value), BindsTo s fd ⟨[v], []⟩ [("_law_script", v)]) /\ ∀ base : Heap, K.In base -> base.Ns mainGlobals mg -> FnOk l.prog w K mg base (CXe l.prog w) 9 fa fd ["_law_script"] (BM K) := by
 have e := hfa.symm.trans (W.mg_of X G a34)
 cases e
 have m_NoCase : mg "NoCase" = some (.ref C_NoCase) := W.mg_of X G g_NoCase
 have m_NoKinds : mg "NoKinds" = some (.ref C_NoKinds) := W.mg_of X G g_NoKinds
 have m_NoSaying : mg "NoSaying" = some (.ref C_NoSaying) := W.mg_of X G g_NoSaying
 have m_NoSayings : mg "NoSayings" = some (.ref C_NoSayings) := W.mg_of X G g_NoSayings
 have m_NoSentence : mg "NoSentence" = some (.ref C_NoSentence) := W.mg_of X G g_NoSentence
 have m_NoThing : mg "NoThing" = some (.ref C_NoThing) := W.mg_of X G g_NoThing
 have m_SayError : mg "SayError" = some (.ref C_SayError) := W.mg_of X G g_SayError
 have m2_NoCase : ∀ y ∈ Ag, ∀ C, mg y = some C -> W.exmOne K C (.ref C_NoCase) = some (cH y) := fun y hy C hC => by
  have hy' : y = "NoCase" \/ y = "NoKinds" \/ y = "NoSaying" \/ y = "NoSayings" \/ y = "NoSentence" \/ y = "NoThing" := by simpa [Ag] using hy
  rcases hy' with rfl | rfl | rfl | rfl | rfl | rfl
  ·rw [m_NoCase] at hC; cases hC; rw [e_NoCase_NoCase]; rfl
  ·rw [m_NoKinds] at hC; cases hC; rw [e_NoKinds_NoCase]; rfl
  ·rw [m_NoSaying] at hC; cases hC; rw [e_NoSaying_NoCase]; rfl
  ·rw [m_NoSayings] at hC; cases hC; rw [e_NoSayings_NoCase]; rfl
  ·rw [m_NoSentence] at hC; cases hC; rw [e_NoSentence_NoCase]; rfl
  ·rw [m_NoThing] at hC; cases hC; rw [e_NoThing_NoCase]; rfl
 have m2_NoKinds : ∀ y ∈ Ag, ∀ C, mg y = some C -> W.exmOne K C (.ref C_NoKinds) = some (cj y) := fun y hy C hC => by
  have hy' : y = "NoCase" \/ y = "NoKinds" \/ y = "NoSaying" \/ y = "NoSayings" \/ y = "NoSentence" \/ y = "NoThing" := by simpa [Ag] using hy
  rcases hy' with rfl | rfl | rfl | rfl | rfl | rfl
  ·rw [m_NoCase] at hC; cases hC; rw [e_NoCase_NoKinds]; rfl
  ·rw [m_NoKinds] at hC; cases hC; rw [e_NoKinds_NoKinds]; rfl
  ·rw [m_NoSaying] at hC; cases hC; rw [e_NoSaying_NoKinds]; rfl
  ·rw [m_NoSayings] at hC; cases hC; rw [e_NoSayings_NoKinds]; rfl
  ·rw [m_NoSentence] at hC; cases hC; rw [e_NoSentence_NoKinds]; rfl
  ·rw [m_NoThing] at hC; cases hC; rw [e_NoThing_NoKinds]; rfl
 have m2_NoSaying : ∀ y ∈ Ag, ∀ C, mg y = some C -> W.exmOne K C (.ref C_NoSaying) = some (bM y) := fun y hy C hC => by
  have hy' : y = "NoCase" \/ y = "NoKinds" \/ y = "NoSaying" \/ y = "NoSayings" \/ y = "NoSentence" \/ y = "NoThing" := by simpa [Ag] using hy
  rcases hy' with rfl | rfl | rfl | rfl | rfl | rfl
  ·rw [m_NoCase] at hC; cases hC; rw [e_NoCase_NoSaying]; rfl
  ·rw [m_NoKinds] at hC; cases hC; rw [e_NoKinds_NoSaying]; rfl
  ·rw [m_NoSaying] at hC; cases hC; rw [e_NoSaying_NoSaying]; rfl
  ·rw [m_NoSayings] at hC; cases hC; rw [e_NoSayings_NoSaying]; rfl
  ·rw [m_NoSentence] at hC; cases hC; rw [e_NoSentence_NoSaying]; rfl
  ·rw [m_NoThing] at hC; cases hC; rw [e_NoThing_NoSaying]; rfl
 have m2_NoSayings : ∀ y ∈ Ag, ∀ C, mg y = some C -> W.exmOne K C (.ref C_NoSayings) = some (bE y) := fun y hy C hC => by
  have hy' : y = "NoCase" \/ y = "NoKinds" \/ y = "NoSaying" \/ y = "NoSayings" \/ y = "NoSentence" \/ y = "NoThing" := by simpa [Ag] using hy
  rcases hy' with rfl | rfl | rfl | rfl | rfl | rfl
  ·rw [m_NoCase] at hC; cases hC; rw [e_NoCase_NoSayings]; rfl
  ·rw [m_NoKinds] at hC; cases hC; rw [e_NoKinds_NoSayings]; rfl
  ·rw [m_NoSaying] at hC; cases hC; rw [e_NoSaying_NoSayings]; rfl
  ·rw [m_NoSayings] at hC; cases hC; rw [e_NoSayings_NoSayings]; rfl
  ·rw [m_NoSentence] at hC; cases hC; rw [e_NoSentence_NoSayings]; rfl
  ·rw [m_NoThing] at hC; cases hC; rw [e_NoThing_NoSayings]; rfl
 have m2_NoSentence : ∀ y ∈ Ag, ∀ C, mg y = some C -> W.exmOne K C (.ref C_NoSentence) = some (bo y) := fun y hy C hC => by
  have hy' : y = "NoCase" \/ y = "NoKinds" \/ y = "NoSaying" \/ y = "NoSayings" \/ y = "NoSentence" \/ y = "NoThing" := by simpa [Ag] using hy
  rcases hy' with rfl | rfl | rfl | rfl | rfl | rfl
  ·rw [m_NoCase] at hC; cases hC; rw [e_NoCase_NoSentence]; rfl
  ·rw [m_NoKinds] at hC; cases hC; rw [e_NoKinds_NoSentence]; rfl
  ·rw [m_NoSaying] at hC; cases hC; rw [e_NoSaying_NoSentence]; rfl
  ·rw [m_NoSayings] at hC; cases hC; rw [e_NoSayings_NoSentence]; rfl
  ·rw [m_NoSentence] at hC; cases hC; rw [e_NoSentence_NoSentence]; rfl
  ·rw [m_NoThing] at hC; cases hC; rw [e_NoThing_NoSentence]; rfl
 have m2_NoThing : ∀ y ∈ Ag, ∀ C, mg y = some C -> W.exmOne K C (.ref C_NoThing) = some (cm y) := fun y hy C hC => by
  have hy' : y = "NoCase" \/ y = "NoKinds" \/ y = "NoSaying" \/ y = "NoSayings" \/ y = "NoSentence" \/ y = "NoThing" := by simpa [Ag] using hy
  rcases hy' with rfl | rfl | rfl | rfl | rfl | rfl
  ·rw [m_NoCase] at hC; cases hC; rw [e_NoCase_NoThing]; rfl
  ·rw [m_NoKinds] at hC; cases hC; rw [e_NoKinds_NoThing]; rfl
  ·rw [m_NoSaying] at hC; cases hC; rw [e_NoSaying_NoThing]; rfl
  ·rw [m_NoSayings] at hC; cases hC; rw [e_NoSayings_NoThing]; rfl
  ·rw [m_NoSentence] at hC; cases hC; rw [e_NoSentence_NoThing]; rfl
  ·rw [m_NoThing] at hC; cases hC; rw [e_NoThing_NoThing]; rfl
 have t_NoCase : Cat K mg (.ref C_NoCase) cH := fun y C hy hC => by
  have hy' : y = "NoCase" := by simpa [cH] using hy
  rcases hy' with rfl
  ·rw [m_NoCase] at hC; cases hC; exact e_NoCase_NoCase
 have t_NoKinds : Cat K mg (.ref C_NoKinds) cj := fun y C hy hC => by
  have hy' : y = "NoKinds" := by simpa [cj] using hy
  rcases hy' with rfl
  ·rw [m_NoKinds] at hC; cases hC; exact e_NoKinds_NoKinds
 have t_NoSaying : Cat K mg (.ref C_NoSaying) bM := fun y C hy hC => by
  have hy' : y = "NoSaying" := by simpa [bM] using hy
  rcases hy' with rfl
  ·rw [m_NoSaying] at hC; cases hC; exact e_NoSaying_NoSaying
 have t_NoSayings : Cat K mg (.ref C_NoSayings) bE := fun y C hy hC => by
  have hy' : y = "NoSayings" := by simpa [bE] using hy
  rcases hy' with rfl
  ·rw [m_NoSayings] at hC; cases hC; exact e_NoSayings_NoSayings
 have t_NoSentence : Cat K mg (.ref C_NoSentence) bo := fun y C hy hC => by
  have hy' : y = "NoSentence" := by simpa [bo] using hy
  rcases hy' with rfl
  ·rw [m_NoSentence] at hC; cases hC; exact e_NoSentence_NoSentence
 have t_NoThing : Cat K mg (.ref C_NoThing) cm := fun y C hy hC => by
  have hy' : y = "NoThing" := by simpa [cm] using hy
  rcases hy' with rfl
  ·rw [m_NoThing] at hC; cases hC; exact e_NoThing_NoThing
 have t_SayError : Cat K mg (.ref C_SayError) cA := fun y C hy hC => by
  have hy' : y = "NoCase" \/ y = "NoKinds" \/ y = "NoSaying" \/ y = "NoSayings" \/ y = "NoSentence" \/ y = "NoThing" := by simpa [cA] using hy
  rcases hy' with rfl | rfl | rfl | rfl | rfl | rfl
  ·rw [m_NoCase] at hC; cases hC; exact e_NoCase_SayError
  ·rw [m_NoKinds] at hC; cases hC; exact e_NoKinds_SayError
  ·rw [m_NoSaying] at hC; cases hC; exact e_NoSaying_SayError
  ·rw [m_NoSayings] at hC; cases hC; exact e_NoSayings_SayError
  ·rw [m_NoSentence] at hC; cases hC; exact e_NoSentence_SayError
  ·rw [m_NoThing] at hC; cases hC; exact e_NoThing_SayError
 have i_ValueError : CatI K mg (.type "ValueError") bV := fun y C hy hC => by
  have hy' : y = "NoCase" \/ y = "NoKinds" \/ y = "NoSaying" \/ y = "NoSayings" \/ y = "NoSentence" \/ y = "NoThing" := by simpa [bV] using hy
  rcases hy' with rfl | rfl | rfl | rfl | rfl | rfl
  ·rw [m_NoCase] at hC; cases hC; exact i_NoCase_ValueError
  ·rw [m_NoKinds] at hC; cases hC; exact i_NoKinds_ValueError
  ·rw [m_NoSaying] at hC; cases hC; exact i_NoSaying_ValueError
  ·rw [m_NoSayings] at hC; cases hC; exact i_NoSayings_ValueError
  ·rw [m_NoSentence] at hC; cases hC; exact i_NoSentence_ValueError
  ·rw [m_NoThing] at hC; cases hC; exact i_NoThing_ValueError
 have T : Txt w K mg C_NoCase C_NoKinds C_NoSaying C_NoSayings C_NoSentence C_NoThing C_SayError := ⟨W.mg_none_of X G z_ValueError, W.mg_none_of X G z_abs, W.mg_none_of X G z_all, W.mg_none_of X G z_bool, W.mg_none_of X G z_enumerate, W.mg_none_of X G z_int, W.mg_none_of X G z_isinstance, W.mg_none_of X G z_len, W.mg_none_of X G z_list, W.mg_none_of X G z_range, W.mg_none_of X G z_sorted, W.mg_none_of X G z_str, W.mg_none_of X G z_tuple, ⟨_, W.mg_of X G v_ALL⟩, ⟨_, W.mg_of X G v_MOST_SAYINGS⟩, ⟨_, W.mg_of X G v_MOST_SENTENCE_THINGS⟩, ⟨_, W.mg_of X G v_MOST_THINGS⟩, ⟨_, W.mg_of X G v_MOST_TUPLES⟩, ⟨_, W.mg_of X G v_SOME⟩, ⟨_, W.mg_of X G v_LENGTH_BY_WORD, q_LENGTH_BY_WORD⟩, m_NoCase, m_NoKinds, m_NoSaying, m_NoSayings, m_NoSentence, m_NoThing, m_SayError, x_NoCase, x_NoKinds, x_NoSaying, x_NoSayings, x_NoSentence, x_NoThing, m2_NoCase, m2_NoKinds, m2_NoSaying, m2_NoSayings, m2_NoSentence, m2_NoThing, t_NoCase, t_NoKinds, t_NoSaying, t_NoSayings, t_NoSentence, t_NoThing, t_SayError, i_ValueError⟩
 have A_is_whole := ax (st := cY) X G a0 l0 c0 k0
 have A_is_from_one_to := ax (st := bc) X G a1 l1 c1 k1
 have A_is_saying := ax (st := cJ) X G a2 l2 c2 k2
 have A_is_case := ax (st := cZ) X G a3 l3 c3 k3
 have A_checked := ax (st := dz) X G a4 l4 c4 k4
 have A_fits := ax (st := ia) X G a5 l5 c5 k5
 have A_are_kinds := ax (st := cg) X G a6 l6 c6 k6
 have A_played := ax (st := eJ) X G a7 l7 c7 k7
 have A_cases := ax (st := fM) X G a8 l8 c8 k8
 have A_settled := ax (st := dA) X G a9 l9 c9 k9
 have A_searched := ax (st := fh) X G a10 l10 c10 k10
 have A_case_or_clash := ax (st := br) X G a11 l11 c11 k11
 have A_follows := ax (st := dD) X G a12 l12 c12 k12
 have A_sharpest := ax (st := d4) X G a13 l13 c13 k13
 have A_alike := ax (st := fN) X G a14 l14 c14 k14
 have A_least_clash := ax (st := bQ) X G a15 l15 c15 k15
 have A_between := ax (st := dE) X G a16 l16 c16 k16
 have A_forgotten := ax (st := cK) X G a17 l17 c17 k17
 have A_least_case := ax (st := cw) X G a18 l18 c18 k18
 have A_has_form := ax (st := d5) X G a19 l19 c19 k19
 have A_check_sentence := ax (st := bf) X G a20 l20 c20 k20
 have A_is_true := ax (st := dF) X G a21 l21 c21 k21
 have A_sayings_of := ax (st := cx) X G a22 l22 c22 k22
 have A_law_cell_at := ax (st := bR) X G a23 l23 c23 k23
 have A_law_mixed := ax (st := cL) X G a24 l24 c24 k24
 have A_law_saying := ax (st := bJ) X G a25 l25 c25 k25
 have A_law_sayings := ax (st := bB) X G a26 l26 c26 k26
 have A_law_with_sayings := ax (st := b4) X G a27 l27 c27 k27
 have A_law_with_other := ax (st := bg) X G a28 l28 c28 k28
 have A_law_asked := ax (st := cM) X G a29 l29 c29 k29
 have A_law_kind := ax (st := d6) X G a30 l30 c30 k30
 have A_law_by_base := ax (st := bS) X G a31 l31 c31 k31
 have A_law_bad_sentence := ax (st := b5) X G a32 l32 c32 k32
 have A_law_bad := ax (st := dG) X G a33 l33 c33 k33
 have A_law := ax (st := fY) X G a34 l34 c34 k34
 refine ⟨W.fnOf "law" "law" (defArgs fY) (defBody fY) (defScope fY) .none kV34 dc34 pm34 an34 cd34 ct34, fun s v => .of_eq rfl, fun base _ _ => ?_⟩
 have D_is_whole : DefD l.prog w K mg base "is_whole" 1 bx := aF A_is_whole (lS A_is_whole.fn T) fun _ _ _ _ _ _ => bnd1 fun _ => rfl
 have D_is_from_one_to : DefD l.prog w K mg base "is_from_one_to" 2 aC := aF A_is_from_one_to (gX A_is_from_one_to.fn T D_is_whole) fun _ _ _ _ _ _ => bnd2 fun _ _ => rfl
 have D_is_saying : DefD l.prog w K mg base "is_saying" 2 bt := aF A_is_saying (kL A_is_saying.fn T D_is_whole) fun _ _ _ _ _ _ => bnd2 fun _ _ => rfl
 have D_is_case : DefD l.prog w K mg base "is_case" 2 aX := aF A_is_case (mV A_is_case.fn T D_is_whole) fun _ _ _ _ _ _ => bnd2 fun _ _ => rfl
 have D_checked : DefD l.prog w K mg base "checked" 3 ar := aF A_checked (mW A_checked.fn T D_is_from_one_to D_is_saying) fun _ _ _ _ _ _ => bnd2 fun _ _ => rfl
 have D_fits : DefD l.prog w K mg base "fits" 4 ei := aF A_fits (tm A_fits.fn T D_checked D_is_case) fun _ _ _ _ _ _ => bnd3 fun _ _ _ => rfl
 have D_are_kinds : DefD l.prog w K mg base "are_kinds" 1 bu := aF A_are_kinds (kM A_are_kinds.fn T) fun _ _ _ _ _ _ => bnd2 fun _ _ => rfl
 have D_played : DefD l.prog w K mg base "played" 4 bX := aF A_played (pf A_played.fn T D_checked D_are_kinds) fun _ _ _ _ _ _ => bnd3 fun _ _ _ => rfl
 have D_cases : DefD l.prog w K mg base "cases" 4 dY := aF A_cases (qQ A_cases.fn T D_checked) fun _ _ _ _ _ _ => bnd2 fun _ _ => rfl
 have D_settled : DefD l.prog w K mg base "settled" 5 dw := aF A_settled (mX A_settled.fn T D_cases) fun _ _ _ _ _ _ => bnd2 fun _ _ => rfl
 have D_searched : DefD l.prog w K mg base "searched" 1 gf := aF (ps := ["sayings", "chosen"]) A_searched (sY ["sayings", "chosen"]) fun _ _ _ _ _ _ => bnd2 fun _ _ => rfl
 have D_case_or_clash : DefD l.prog w K mg base "case_or_clash" 4 bp := aF A_case_or_clash (ib A_case_or_clash.fn T D_searched D_checked) fun _ _ _ _ _ _ => bnd2 fun _ _ => rfl
 have D_follows : DefD l.prog w K mg base "follows" 4 bq := aF A_follows (mY A_follows.fn T D_checked D_is_saying) fun _ _ _ _ _ _ => bnd3 fun _ _ _ => rfl
 have D_sharpest : DefD l.prog w K mg base "sharpest" 5 dO := aF A_sharpest (lT A_sharpest.fn T D_checked FK) fun _ _ _ _ _ _ => bnd2 fun _ _ => rfl
 have D_alike : DefD l.prog w K mg base "alike" 4 dt := aF A_alike (qR A_alike.fn T D_checked) fun _ _ _ _ _ _ => bnd3 fun _ _ _ => rfl
 have D_least_clash : DefD l.prog w K mg base "least_clash" 4 bO := aF A_least_clash (ji A_least_clash.fn T D_checked) fun _ _ _ _ _ _ => bnd2 fun _ _ => rfl
 have D_between : DefD l.prog w K mg base "between" 4 cn := aF A_between (mZ A_between.fn T D_checked) fun _ _ _ _ _ _ => bnd3 fun _ _ _ => rfl
 have D_forgotten : DefD l.prog w K mg base "forgotten" 4 aY := aF A_forgotten (kO A_forgotten.fn T D_checked D_is_from_one_to) fun _ _ _ _ _ _ => bnd3 fun _ _ _ => rfl
 have D_least_case : DefD l.prog w K mg base "least_case" 4 cq := aF A_least_case (jx A_least_case.fn T D_checked) fun _ _ _ _ _ _ => bnd2 fun _ _ => rfl
 have D_has_form : DefD l.prog w K mg base "has_form" 3 ay := aF A_has_form (lU A_has_form.fn T D_is_from_one_to) fun _ _ _ _ _ _ => bnd2 fun _ _ => rfl
 have D_check_sentence : DefD l.prog w K mg base "check_sentence" 4 aj := aF A_check_sentence (gY A_check_sentence.fn T D_is_from_one_to D_has_form) fun _ _ _ _ _ _ => bnd2 fun _ _ => rfl
 have D_is_true : DefD l.prog w K mg base "is_true" 5 bP := aF A_is_true (n5 A_is_true.fn T D_check_sentence D_is_case) fun _ _ _ _ _ _ => bnd3 fun _ _ _ => rfl
 have D_sayings_of : DefD l.prog w K mg base "sayings_of" 5 bI := aF A_sayings_of (jy A_sayings_of.fn T D_check_sentence) fun _ _ _ _ _ _ => bnd2 fun _ _ => rfl
 have D_law_cell_at : DefD l.prog w K mg base "_law_cell_at" 1 ba := aF A_law_cell_at (jj A_law_cell_at.fn T) fun _ _ _ _ _ _ => bnd2 fun _ _ => rfl
 have D_law_mixed : DefD l.prog w K mg base "_law_mixed" 2 aB := aF A_law_mixed (kP A_law_mixed.fn T D_law_cell_at) fun _ _ _ _ _ _ => bnd3 fun _ _ _ => rfl
 have D_law_saying : DefD l.prog w K mg base "_law_saying" 3 cu := aF A_law_saying (jz A_law_saying.fn T D_law_mixed) fun _ _ _ _ _ _ => bnd3 fun _ _ _ => rfl
 have D_law_sayings : DefD l.prog w K mg base "_law_sayings" 4 bb := aF A_law_sayings (jk A_law_sayings.fn T D_law_saying D_law_mixed) fun _ _ _ _ _ _ => bnd4 fun _ _ _ _ => rfl
 have D_law_with_sayings : DefD l.prog w K mg base "_law_with_sayings" 6 aT := aF A_law_with_sayings (fQ A_law_with_sayings.fn T D_cases D_settled D_case_or_clash D_follows D_sharpest D_alike D_least_clash D_between D_forgotten D_least_case D_played D_fits) fun _ _ _ _ _ _ => bnd3 fun _ _ _ => rfl
 have D_law_with_other : DefD l.prog w K mg base "_law_with_other" 6 b3 := aF A_law_with_other (gZ A_law_with_other.fn T D_fits D_is_true D_follows D_forgotten D_played D_sayings_of) fun _ _ _ _ _ _ => bnd4 fun _ _ _ _ => rfl
 have D_law_asked : DefD l.prog w K mg base "_law_asked" 7 aU := aF A_law_asked (kQ A_law_asked.fn T D_law_with_sayings D_law_with_other) fun _ _ _ _ _ _ => bnd5 fun _ _ _ _ _ => rfl
 have D_law_kind : DefD l.prog w K mg base "_law_kind" 8 cF := aF A_law_kind (lV A_law_kind.fn T D_law_asked) fun _ _ _ _ _ _ => bnd5 fun _ _ _ _ _ => rfl
 have D_law_by_base : DefD l.prog w K mg base "_law_by_base" 8 bA := aF A_law_by_base (jl A_law_by_base.fn T D_law_asked) fun _ _ _ _ _ _ => bnd5 fun _ _ _ _ _ => rfl
 have D_law_bad_sentence : DefD l.prog w K mg base "_law_bad_sentence" 1 aO := aF A_law_bad_sentence (fR A_law_bad_sentence.fn T) fun _ _ _ _ _ _ => bnd2 fun _ _ => rfl
 have D_law_bad : DefD l.prog w K mg base "_law_bad" 2 aQ := aF A_law_bad (n6 A_law_bad.fn T D_law_bad_sentence) fun _ _ _ _ _ _ => bnd4 fun _ _ _ _ => rfl
 exact (vJ A_law.fn T D_law_mixed D_law_sayings D_law_bad D_is_case D_law_by_base D_law_kind).imp fun vs H Q E h => oW hlaw vs H Q E h
theorem walk {l : W.OpenLaw} {q : Program} {loose : List Str} {XP : (Str -> Option Value) -> Heap -> Prop} {YP : World -> Heap -> Prop} {d : DefRec} {K : Params -> W.Frag} (hn : l.most = some 63) (hdf : d.params.defaults = [])
  (hY : ∀ (w : World) (h : Heap), YP w h -> (K w.params).In h)
  (F : ∀ (w : World) (mg : A5) (fa : Addr) (h : Heap), (K w.params).In h -> h.Ns mainGlobals mg -> mg d.name = some (.ref fa) ->
   ∃ fd : FuncData, (∀ (s : Shared) (u : Value), BindsTo s fd ⟨[u], []⟩ [("_law_script", u)]) /\ ∀ base : Heap, (K w.params).In base -> base.Ns mainGlobals mg -> FnOk l.prog w (K w.params) mg base (CXe l.prog w) 9 fa fd ["_law_script"] (BM (K w.params))) :
  W.WalkO q loose XP YP l.row.toRowW d [] (fun f vs => PySem.call f vs) :=
 L2.rQ (n := 63) (k := 9) (x := "_law_script") (CX := fun w => CXe l.prog w) (sp := fun w => BM (K w.params)) hn (by decide) hdf ⟨rfl, by decide, by decide⟩ hY F (fun _ _ a ns hl _ hS => ⟨a, ns, rfl, hS, hl, fun _ h => absurd (show _ ∈ ([] : List Addr) from h) (by simp), fun _ => rfl⟩) fun _ _ _ _ _ z => oX _ _ _ _ _ z
end L2
open PySem PySem.W PyProof.Rows
set_option maxRecDepth 100000 in
set_option maxHeartbeats 0 in
theorem PySem.Challenge.cw_sayhall_k15_refusals_holds : PySem.Challenge.rw_sayhall_k15_refusals.Holds := by
 w_on; o_law
 refine holds_open (q := L2H.VW) (loose := ["LENGTH_BY_WORD"]) (Xt := L2H.XT) (XP := XL L2H.VW []) (Yf := Hook.obs L2H.HH) (Ya := Hook.val L2H.HH) (YP := Hook.says L2H.HH) (N := 9318) L2H.hl (Hook.of L2H.HH) (Hook.keeps L2H.HH) (fun s e => xl_of s (Bool.and_eq_true_iff.mp e).1) XL.keeps (by rfl) (by rfl) (by rfl) (fun s e => recFacts_of (Bool.and_eq_true_iff.mp e).2) (by rfl) (by first | assumption | decide +kernel) (by decide +kernel) ⟨rfl, rfl, rfl, rfl, rfl, by decide +kernel⟩ ?hw ?hc
 case hw => w_witness2
 unfold L2H.HH
 k_fill
 refine L2.walk (l := PySem.Challenge.rw_sayhall_k15_refusals) rfl rfl (fun w h Y => W.kIn_of Y) ?F
 case F =>
  intro w mg fa h KX G hmg
  refine' L2.vZ KX G hmg ?a0 ?l0 ?c0 ?k0 ?a1 ?l1 ?c1 ?k1 ?a2 ?l2 ?c2 ?k2 ?a3 ?l3 ?c3 ?k3 ?a4 ?l4 ?c4 ?k4 ?a5 ?l5 ?c5 ?k5 ?a6 ?l6 ?c6 ?k6 ?a7 ?l7 ?c7 ?k7 ?a8 ?l8 ?c8 ?k8 ?a9 ?l9 ?c9 ?k9 ?a10 ?l10 ?c10 ?k10 ?a11 ?l11 ?c11 ?k11 ?a12 ?l12 ?c12 ?k12 ?a13 ?l13 ?c13 ?k13 ?a14 ?l14 ?c14 ?k14 ?a15 ?l15 ?c15 ?k15 ?a16 ?l16 ?c16 ?k16 ?a17 ?l17 ?c17 ?k17 ?a18 ?l18 ?c18 ?k18 ?a19 ?l19 ?c19 ?k19 ?a20 ?l20 ?c20 ?k20 ?a21 ?l21 ?c21 ?k21 ?a22 ?l22 ?c22 ?k22 ?a23 ?l23 ?c23 ?k23 ?a24 ?l24 ?c24 ?k24 ?a25 ?l25 ?c25 ?k25 ?a26 ?l26 ?c26 ?k26 ?a27 ?l27 ?c27 ?k27 ?a28 ?l28 ?c28 ?k28 ?a29 ?l29 ?c29 ?k29 ?a30 ?l30 ?c30 ?k30 ?a31 ?l31 ?c31 ?k31 ?a32 ?l32 ?c32 ?k32 ?a33 ?l33 ?c33 ?k33 ?a34 ?l34 ?c34 ?k34 ?z_ValueError ?z_abs ?z_all ?z_bool ?z_enumerate ?z_int ?z_isinstance ?z_len ?z_list ?z_range ?z_sorted ?z_str ?z_tuple ?v_ALL ?v_MOST_SAYINGS ?v_MOST_SENTENCE_THINGS ?v_MOST_THINGS ?v_MOST_TUPLES ?v_SOME ?v_LENGTH_BY_WORD ?q_LENGTH_BY_WORD ?g_NoCase ?g_NoKinds ?g_NoSaying ?g_NoSayings ?g_NoSentence ?g_NoThing ?g_SayError ?x_NoCase ?x_NoKinds ?x_NoSaying ?x_NoSayings ?x_NoSentence ?x_NoThing ?e_NoCase_NoCase ?e_NoKinds_NoCase ?e_NoSaying_NoCase ?e_NoSayings_NoCase ?e_NoSentence_NoCase ?e_NoThing_NoCase ?e_NoCase_NoKinds ?e_NoKinds_NoKinds ?e_NoSaying_NoKinds ?e_NoSayings_NoKinds ?e_NoSentence_NoKinds ?e_NoThing_NoKinds ?e_NoCase_NoSaying ?e_NoKinds_NoSaying ?e_NoSaying_NoSaying ?e_NoSayings_NoSaying ?e_NoSentence_NoSaying ?e_NoThing_NoSaying ?e_NoCase_NoSayings ?e_NoKinds_NoSayings ?e_NoSaying_NoSayings ?e_NoSayings_NoSayings ?e_NoSentence_NoSayings ?e_NoThing_NoSayings ?e_NoCase_NoSentence ?e_NoKinds_NoSentence ?e_NoSaying_NoSentence ?e_NoSayings_NoSentence ?e_NoSentence_NoSentence ?e_NoThing_NoSentence ?e_NoCase_NoThing ?e_NoKinds_NoThing ?e_NoSaying_NoThing ?e_NoSayings_NoThing ?e_NoSentence_NoThing ?e_NoThing_NoThing ?e_NoCase_SayError ?e_NoKinds_SayError ?e_NoSaying_SayError ?e_NoSayings_SayError ?e_NoSentence_SayError ?e_NoThing_SayError ?i_NoCase_ValueError ?i_NoKinds_ValueError ?i_NoSaying_ValueError ?i_NoSayings_ValueError ?i_NoSentence_ValueError ?i_NoThing_ValueError ⟨W.mg_of KX G ?fk0, ⟨?fk1, ?fk2, ?fk3, ?fk4⟩, ⟨?fk5, ?fk6, ?fk7, ?fk8⟩, L2.mF ?fk9 ?fk10 ?fk11, L2.mF ?fk12 ?fk13 ?fk14, ⟨?fk15, ?fk16, ?fk17⟩, ?fk18, ?fk19, ?fk20, ?fk21⟩ (fun ns _ => L2.law_holds ns)
  (case a0 => k_is)
  (case l0 => k_is)
  (case c0 => k_is)
  (case k0 => k_is)
  (case a1 => k_is)
  (case l1 => k_is)
  (case c1 => k_is)
  (case k1 => k_is)
  (case a2 => k_is)
  (case l2 => k_is)
  (case c2 => k_is)
  (case k2 => k_is)
  (case a3 => k_is)
  (case l3 => k_is)
  (case c3 => k_is)
  (case k3 => k_is)
  (case a4 => k_is)
  (case l4 => k_is)
  (case c4 => k_is)
  (case k4 => k_is)
  (case a5 => k_is)
  (case l5 => k_is)
  (case c5 => k_is)
  (case k5 => k_is)
  (case a6 => k_is)
  (case l6 => k_is)
  (case c6 => k_is)
  (case k6 => k_is)
  (case a7 => k_is)
  (case l7 => k_is)
  (case c7 => k_is)
  (case k7 => k_is)
  (case a8 => k_is)
  (case l8 => k_is)
  (case c8 => k_is)
  (case k8 => k_is)
  (case a9 => k_is)
  (case l9 => k_is)
  (case c9 => k_is)
  (case k9 => k_is)
  (case a10 => k_is)
  (case l10 => k_is)
  (case c10 => k_is)
  (case k10 => k_is)
  (case a11 => k_is)
  (case l11 => k_is)
  (case c11 => k_is)
  (case k11 => k_is)
  (case a12 => k_is)
  (case l12 => k_is)
  (case c12 => k_is)
  (case k12 => k_is)
  (case a13 => k_is)
  (case l13 => k_is)
  (case c13 => k_is)
  (case k13 => k_is)
  (case a14 => k_is)
  (case l14 => k_is)
  (case c14 => k_is)
  (case k14 => k_is)
  (case a15 => k_is)
  (case l15 => k_is)
  (case c15 => k_is)
  (case k15 => k_is)
  (case a16 => k_is)
  (case l16 => k_is)
  (case c16 => k_is)
  (case k16 => k_is)
  (case a17 => k_is)
  (case l17 => k_is)
  (case c17 => k_is)
  (case k17 => k_is)
  (case a18 => k_is)
  (case l18 => k_is)
  (case c18 => k_is)
  (case k18 => k_is)
  (case a19 => k_is)
  (case l19 => k_is)
  (case c19 => k_is)
  (case k19 => k_is)
  (case a20 => k_is)
  (case l20 => k_is)
  (case c20 => k_is)
  (case k20 => k_is)
  (case a21 => k_is)
  (case l21 => k_is)
  (case c21 => k_is)
  (case k21 => k_is)
  (case a22 => k_is)
  (case l22 => k_is)
  (case c22 => k_is)
  (case k22 => k_is)
  (case a23 => k_is)
  (case l23 => k_is)
  (case c23 => k_is)
  (case k23 => k_is)
  (case a24 => k_is)
  (case l24 => k_is)
  (case c24 => k_is)
  (case k24 => k_is)
  (case a25 => k_is)
  (case l25 => k_is)
  (case c25 => k_is)
  (case k25 => k_is)
  (case a26 => k_is)
  (case l26 => k_is)
  (case c26 => k_is)
  (case k26 => k_is)
  (case a27 => k_is)
  (case l27 => k_is)
  (case c27 => k_is)
  (case k27 => k_is)
  (case a28 => k_is)
  (case l28 => k_is)
  (case c28 => k_is)
  (case k28 => k_is)
  (case a29 => k_is)
  (case l29 => k_is)
  (case c29 => k_is)
  (case k29 => k_is)
  (case a30 => k_is)
  (case l30 => k_is)
  (case c30 => k_is)
  (case k30 => k_is)
  (case a31 => k_is)
  (case l31 => k_is)
  (case c31 => k_is)
  (case k31 => k_is)
  (case a32 => k_is)
  (case l32 => k_is)
  (case c32 => k_is)
  (case k32 => k_is)
  (case a33 => k_is)
  (case l33 => k_is)
  (case c33 => k_is)
  (case k33 => k_is)
  (case a34 => k_is)
  (case l34 => k_is)
  (case c34 => k_is)
  (case k34 => k_is)
  (case z_ValueError => k_is)
  (case z_abs => k_is)
  (case z_all => k_is)
  (case z_bool => k_is)
  (case z_enumerate => k_is)
  (case z_int => k_is)
  (case z_isinstance => k_is)
  (case z_len => k_is)
  (case z_list => k_is)
  (case z_range => k_is)
  (case z_sorted => k_is)
  (case z_str => k_is)
  (case z_tuple => k_is)
  (case v_ALL => k_is)
  (case v_MOST_SAYINGS => k_is)
  (case v_MOST_SENTENCE_THINGS => k_is)
  (case v_MOST_THINGS => k_is)
  (case v_MOST_TUPLES => k_is)
  (case v_SOME => k_is)
  (case v_LENGTH_BY_WORD => k_is)
  (case q_LENGTH_BY_WORD => refine' L2.t4 (by decide) (by decide) ?qa ?qb; (case qa => k_is); (case qb => exact L2.eY rfl rfl rfl (L2.eY rfl rfl rfl (L2.eY rfl rfl rfl (L2.eY rfl rfl rfl (L2.pe))))))
  (case g_NoCase => k_is)
  (case g_NoKinds => k_is)
  (case g_NoSaying => k_is)
  (case g_NoSayings => k_is)
  (case g_NoSentence => k_is)
  (case g_NoThing => k_is)
  (case g_SayError => k_is)
  (case x_NoCase => k_exc)
  (case x_NoKinds => k_exc)
  (case x_NoSaying => k_exc)
  (case x_NoSayings => k_exc)
  (case x_NoSentence => k_exc)
  (case x_NoThing => k_exc)
  (case e_NoCase_NoCase => kts_exm)
  (case e_NoKinds_NoCase => kts_exm)
  (case e_NoSaying_NoCase => kts_exm)
  (case e_NoSayings_NoCase => kts_exm)
  (case e_NoSentence_NoCase => kts_exm)
  (case e_NoThing_NoCase => kts_exm)
  (case e_NoCase_NoKinds => kts_exm)
  (case e_NoKinds_NoKinds => kts_exm)
  (case e_NoSaying_NoKinds => kts_exm)
  (case e_NoSayings_NoKinds => kts_exm)
  (case e_NoSentence_NoKinds => kts_exm)
  (case e_NoThing_NoKinds => kts_exm)
  (case e_NoCase_NoSaying => kts_exm)
  (case e_NoKinds_NoSaying => kts_exm)
  (case e_NoSaying_NoSaying => kts_exm)
  (case e_NoSayings_NoSaying => kts_exm)
  (case e_NoSentence_NoSaying => kts_exm)
  (case e_NoThing_NoSaying => kts_exm)
  (case e_NoCase_NoSayings => kts_exm)
  (case e_NoKinds_NoSayings => kts_exm)
  (case e_NoSaying_NoSayings => kts_exm)
  (case e_NoSayings_NoSayings => kts_exm)
  (case e_NoSentence_NoSayings => kts_exm)
  (case e_NoThing_NoSayings => kts_exm)
  (case e_NoCase_NoSentence => kts_exm)
  (case e_NoKinds_NoSentence => kts_exm)
  (case e_NoSaying_NoSentence => kts_exm)
  (case e_NoSayings_NoSentence => kts_exm)
  (case e_NoSentence_NoSentence => kts_exm)
  (case e_NoThing_NoSentence => kts_exm)
  (case e_NoCase_NoThing => kts_exm)
  (case e_NoKinds_NoThing => kts_exm)
  (case e_NoSaying_NoThing => kts_exm)
  (case e_NoSayings_NoThing => kts_exm)
  (case e_NoSentence_NoThing => kts_exm)
  (case e_NoThing_NoThing => kts_exm)
  (case e_NoCase_SayError => kts_exm)
  (case e_NoKinds_SayError => kts_exm)
  (case e_NoSaying_SayError => kts_exm)
  (case e_NoSayings_SayError => kts_exm)
  (case e_NoSentence_SayError => kts_exm)
  (case e_NoThing_SayError => kts_exm)
  (case i_NoCase_ValueError => kit_is)
  (case i_NoKinds_ValueError => kit_is)
  (case i_NoSaying_ValueError => kit_is)
  (case i_NoSayings_ValueError => kit_is)
  (case i_NoSentence_ValueError => kit_is)
  (case i_NoThing_ValueError => kit_is)
  (case fk0 => k_is)
  (case fk1 => k_is)
  (case fk2 => k_is)
  (case fk3 => k_is)
  (case fk4 => k_is)
  (case fk5 => k_is)
  (case fk6 => k_is)
  (case fk7 => k_is)
  (case fk8 => k_is)
  (case fk15 => k_is)
  (case fk16 => k_is)
  (case fk17 => k_is)
  (case fk9 => k_is)
  (case fk10 => k_is)
  (case fk11 => k_is)
  (case fk12 => k_is)
  (case fk13 => k_is)
  (case fk14 => k_is)
  (case fk18 => unfold L2.NoAttr; k_is)
  (case fk19 => unfold L2.NoAttr; k_is)
  (case fk20 => unfold L2.NoAttr; k_is)
  (case fk21 => unfold L2.NoAttr; k_is)
