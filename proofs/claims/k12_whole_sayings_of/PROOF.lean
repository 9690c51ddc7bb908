import PyProof.Rows.All
import Wide.All
import OpenK.AllK
import Wide.FinOn
import Lean
import PyProof.EqAt
import PyProof.EqKinds
import PyProof.TupleCall
import PySem.Challenge.RW_sayhall_k12_whole_sayings_of
set_option bootstrap.genMatcherCode false
noncomputable section
set_option Elab.async false
set_option linter.all false
set_option maxRecDepth 100000
abbrev zt := List PySem.PyData
abbrev zu := PySem.Str -> Option PySem.Value
abbrev zw := List (PySem.Addr × PySem.Obj)
abbrev zx := PySem.Value -> PySem.Shared -> Prop
namespace L2
open PySem PySem.Spec PyProof.Rows
abbrev Key := Sum Int Str
noncomputable def AR : Key -> Value -> Bool
 | .inl k, v => Value.isInt k v
 | .inr x, v => Value.isStrOf x v
noncomputable def keyH (w : World) : Key -> Int
 | .inl k => hashInt k
 | .inr x => hashStr w x
theorem aU : ∀ {k : Key} {v : Value}, AR k v = true -> (∃ i t, k = Sum.inl i /\ v = Value.int i t) \/ (∃ x t, k = Sum.inr x /\ v = Value.str x t)
 | .inl i, v, h => by
  obtain ⟨t, e⟩ := Value.isInt_shape (k := i) (v := v) h
  exact .inl ⟨i, t, rfl, e⟩
 | .inr x, v, h => by
  obtain ⟨t, e⟩ := Value.isStrOf_shape (x := x) (v := v) h
  exact .inr ⟨x, t, rfl, e⟩
theorem oj (i : Int) (t : Tok) : AR (.inl i) (.int i t) = true := by simp [AR, Value.isInt]
theorem om (x : Str) (t : Tok) : AR (.inr x) (.str x t) = true := by simp [AR, Value.isStrOf]
theorem ud (a b : Int) : decide ((Sum.inl a : Key) = Sum.inl b) = (a == b) := by
 by_cases e : a = b
 ·subst e; simp
 ·have h : ¬ (Sum.inl a : Key) = Sum.inl b := fun q => e (Sum.inl.inj q)
  rw [decide_eq_false h]
  exact (beq_eq_false_iff_ne.mpr e).symm
theorem ue (a b : Str) : decide ((Sum.inr a : Key) = Sum.inr b) = decide (a = b) := by
 by_cases e : a = b
 ·subst e; simp
 ·have h : ¬ (Sum.inr a : Key) = Sum.inr b := fun q => e (Sum.inr.inj q)
  rw [decide_eq_false h, decide_eq_false e]
theorem uf (a : Int) (b : Str) : decide ((Sum.inl a : Key) = Sum.inr b) = false := decide_eq_false (fun q => nomatch q)
theorem ug (a : Str) (b : Int) : decide ((Sum.inr a : Key) = Sum.inl b) = false := decide_eq_false (fun q => nomatch q)
noncomputable def zO (prog : Program) (w : World) : PySem.KeyKind prog w Key where
 is := AR
 hash := keyH w
 inj := fun v a b ha hb => by
  rcases aU ha with ⟨i, t, rfl, rfl⟩ | ⟨x, t, rfl, rfl⟩
  ·rcases aU hb with ⟨j, u, rfl, e⟩ | ⟨y, u, rfl, e⟩
   ·injection e with e1 _; rw [e1]
   ·exact nomatch e
  ·rcases aU hb with ⟨j, u, rfl, e⟩ | ⟨y, u, rfl, e⟩
   ·exact nomatch e
   ·injection e with e1 _; rw [e1]
 byValue := fun k v h => by
  rcases aU h with ⟨i, t, rfl, rfl⟩ | ⟨x, t, rfl, rfl⟩ <;> rfl
 pyHash := fun hv h => by
  rcases aU hv with ⟨i, t, rfl, rfl⟩ | ⟨x, t, rfl, rfl⟩
  ·exact wpAny_pyHash_int h
  ·exact wpAny_pyHash_str h
 eqBool := fun hu hv h => by
  rcases aU hu with ⟨i, t, rfl, rfl⟩ | ⟨x, t, rfl, rfl⟩
  ·rcases aU hv with ⟨j, u, rfl, rfl⟩ | ⟨y, u, rfl, rfl⟩
   ·rw [ud] at h; exact wpAny_eqBool_int h
   ·rw [uf] at h; exact SeqAt.EqAt.int_str i t y u _ _ _ _ h
  ·rcases aU hv with ⟨j, u, rfl, rfl⟩ | ⟨y, u, rfl, rfl⟩
   ·rw [ug] at h; exact SeqAt.EqAt.str_int x t j u _ _ _ _ h
   ·rw [ue] at h; exact wpAny_eqBool_str h
 «strs» := fun k x t v h => by
  rcases aU h with ⟨i, u, rfl, e⟩ | ⟨y, u, rfl, e⟩
  ·exact nomatch e
  ·injection e with e1 _
   subst e1
   cases v <;> rfl
theorem kL (prog : Program) (w : World) (i : Int) (t : Tok) : (zO prog w).is (.inl i) (.int i t) = true := oj i t
theorem kM (prog : Program) (w : World) (x : Str) (t : Tok) : (zO prog w).is (.inr x) (.str x t) = true := om x t
inductive V where
 | non | bl (b : Bool) | int (i : Int) | str (x : Str) | byt (b : Array UInt8) | flt (b : UInt64) | ref (a : Addr) | ty (n : String)
 deriving DecidableEq
noncomputable def RelV : V -> Value -> Prop
 | .non, u => u = Value.none
 | .bl b, u => u = Value.bool b
 | .int i, u => ∃ t, u = Value.int i t
 | .str x, u => ∃ t, u = Value.str x t
 | .byt b, u => ∃ t, u = Value.bytes b t
 | .flt b, u => ∃ t, u = Value.float b t
 | .ref a, u => u = Value.ref a
 | .ty n, u => u = Value.type n
abbrev Vals : List V -> List Value -> Prop := Paired RelV
theorem Vals.length {xs : List V} {us : List Value} (r : Vals xs us) : xs.length = us.length := Paired.length r
theorem Vals.get : ∀ {xs : List V} {us : List Value} {i : Nat} {x : V}, Vals xs us -> xs[i]? = some x -> ∃ u, us[i]? = some u /\ RelV x u
 | _, _, _, _, .nil, e => by simp at e
 | _, _, 0, _, .cons r _, e => by simp at e; subst e; exact ⟨_, rfl, r⟩
 | _, _, i + 1, x, .cons _ t, e => by
  obtain ⟨u, h1, h2⟩ := Vals.get (i := i) (x := x) t (by simpa using e)
  exact ⟨u, by simpa using h1, h2⟩
theorem Vals.append : ∀ {xs ys : List V} {us ws : List Value}, Vals xs us -> Vals ys ws -> Vals (xs ++ ys) (us ++ ws)
 | _, _, _, _, .nil, s => s
 | _, _, _, _, .cons r t, s => .cons r (Vals.append t s)
theorem Vals.take : ∀ {xs : List V} {us : List Value} (n : Nat), Vals xs us -> Vals (xs.take n) (us.take n)
 | _, _, 0, _ => .nil
 | _, _, _ + 1, .nil => .nil
 | _, _, n + 1, .cons r t => .cons r (Vals.take n t)
theorem Vals.drop : ∀ {xs : List V} {us : List Value} (n : Nat), Vals xs us -> Vals (xs.drop n) (us.drop n)
 | _, _, 0, r => r
 | _, _, _ + 1, .nil => .nil
 | _, _, n + 1, .cons _ t => Vals.drop n t
noncomputable def RelO : Option V -> Option Value -> Prop
 | some v, some u => RelV v u
 | none, none => True
 | _, _ => False
noncomputable def KV {κ : Type} : List (κ × V) -> List (κ × Value) -> Prop := Paired fun (p : κ × V) (q : κ × Value) => p.1 = q.1 /\ RelV p.2 q.2
def kV : Key -> V
 | .inl i => .int i
 | .inr x => .str x
inductive HO where
 | lst (xs : List V)
 | tup (xs : List V)
 | dK (kvs : List (Key × V)) | dT (kvs : List (List Key × V))
 | set (S : Int -> Bool) (n : Nat)
 | ins (C dx : Addr) (fs : List (Str × V))
 | own (x : Addr)
 | xd (fs : List (Str × V))
 | met (f x : Addr)
 | rng (lo hi : Int)
 | frz (o : Obj) (u : HO)
 | tbl (ps : Array Value)
 | ext (φ : Heap -> Prop)
abbrev Hp := Addr -> Option HO
noncomputable def upd (H : Hp) (a : Addr) (o : HO) : Hp := fun b => if b = a then some o else H b
theorem aq {H : Hp} {a : Addr} {o : HO} : upd H a o a = some o := by unfold upd; rw [if_pos rfl]
theorem ah {H : Hp} {a b : Addr} {o : HO} (h : b ≠ a) : upd H a o b = H b := by unfold upd; rw [if_neg h]
theorem tK {H : Hp} {a b : Addr} {o u : HO} (h : H a = some o) (h' : H b = some u) (d : o ≠ u) : a ≠ b := by
 intro e; subst e; rw [h] at h'; exact d (Option.some.inj h')
theorem ao {H : Hp} {a b : Addr} {o : HO} (h : H a = some o) (h' : H b = none) : a ≠ b := by
 intro e; subst e; rw [h] at h'; cases h'
section
variable (P : Program) (w : World)
noncomputable def zY (H : Hp) (h : Heap) (a : Addr) : HO -> Prop
 | .lst xs => xs.length <= sizeLine /\ ∃ (its : List Value) (n : Nat), Vals xs its /\ h.get? a = some { cls := .type "list", data := .seq its.toArray n }
 | .tup xs => xs.length <= sizeLine /\ ∃ its : List Value, Vals xs its /\ IsTup h a its.toArray
 | .dK kvs => kvs.length <= sizeLine /\ (a == sysModules) = false /\ ∃ vs, KV kvs vs /\ h.DictOf (zO P w) a vs
 | .dT kvs => kvs.length <= sizeLine /\ (a == sysModules) = false /\ ∃ xs : List (List Key × Addr × Value),
   Paired (fun (p : List Key × V) (q : List Key × Addr × Value) => p.1 = q.1 /\ H q.2.1 = some (.tup (p.1.map kV)) /\ RelV p.2 q.2.2) kvs xs /\
   ∃ o es ep, h.get? a = some o /\ o.ExactDict /\ o.data = .dict es ep /\ es.toList = xs.map (entryOfKey (tupleKind (zO P w))) /\ (xs.map (·.1)).Nodup
 | .set S n => h.SetOf (intKind P w) a S n
 | .ins C dx fs => H dx = some (.own a) /\ fs.length <= 1000 /\ dx ≠ a /\ h.get? a = some (W.instObj C dx) /\
   ∃ mA, h.Ns1 dx mA /\ (∀ f, RelO (fs.lookup f) (mA f)) /\ PySem.Within mA (fs.map (·.1))
 | .own _ => ∃ o, h.get? a = some o
 | .xd fs => ∃ mA, h.Ns1 a mA /\ ∀ f, RelO (fs.lookup f) (mA f)
 | .rng lo hi => ∃ t u v, h.get? a = some { cls := .type "range", data := .fields #[.int lo t, .int hi u, .int 1 v] }
 | .frz o u => h.get? a = some o /\ zY H h a u
 | .tbl ps => h.get? a = some { cls := .none, data := .fields ps }
 | .met f x => h.get? a = some (W.methodObj (.ref f) (.ref x))
 | .ext φ => φ h /\ (∃ o, h.get? a = some o) /\ ∀ h1 h2 : Heap, φ h1 -> (∀ o, h1.get? a = some o -> h2.get? a = some o) -> φ h2
noncomputable def HOk (H : Hp) (h : Heap) : Prop := ∀ a o, H a = some o -> zY P w H h a o
end
section
variable {P : Program} {w : World} {H H' : Hp} {h h' : Heap} {a : Addr} {o : HO}
theorem zY.lt (x : zY P w H h a o) : a < h.objs.size := by
 cases o with
 | lst xs => obtain ⟨_, _, _, _, e⟩ := x; exact Heap.lt_size e
 | tup xs => obtain ⟨_, _, _, p⟩ := x; exact p.lt
 | dK kvs => obtain ⟨_, _, _, _, o, _, _, e, _⟩ := x; exact Heap.lt_size e
 | dT kvs => obtain ⟨_, _, _, _, o, _, _, e, _⟩ := x; exact Heap.lt_size e
 | set S n => obtain ⟨o, _, _, _, e, _⟩ := x; exact Heap.lt_size e
 | ins C dx fs => obtain ⟨_, _, _, e, _⟩ := x; exact Heap.lt_size e
 | own y => obtain ⟨_, e⟩ := x; exact Heap.lt_size e
 | xd fs => obtain ⟨_, ⟨_, _, _, e, _⟩, _⟩ := x; exact Heap.lt_size e
 | rng lo hi => obtain ⟨_, _, _, e⟩ := x; exact Heap.lt_size e
 | frz ob u => obtain ⟨e, _⟩ := x; exact Heap.lt_size e
 | tbl ps => exact Heap.lt_size (show h.get? a = some _ from x)
 | met f y => exact Heap.lt_size (show h.get? a = some _ from x)
 | ext φ => obtain ⟨_, ⟨_, e⟩, _⟩ := x; exact Heap.lt_size e
theorem Paired.mapP {α β : Type} {F G : α -> β -> Prop} : ∀ {l₁ : List α} {l₂ : List β}, Paired F l₁ l₂ -> (∀ a b, F a b -> G a b) -> Paired G l₁ l₂
 | _, _, .nil, _ => .nil
 | _, _, .cons r t, f => .cons (f _ _ r) (Paired.mapP t f)
theorem zY.stay (x : zY P w H h a o) (k : ∀ b u, (b = a \/ H b = some (.own a)) -> h.get? b = some u -> h'.get? b = some u)
  (ho : ∀ b, H b = some (.own a) -> H' b = some (.own a)) (ht : ∀ b xs, H b = some (.tup xs) -> H' b = some (.tup xs)) : zY P w H' h' a o := by
 induction o with
 | lst xs => obtain ⟨z, its, n, r, e⟩ := x; exact ⟨z, its, n, r, k _ _ (.inl rfl) e⟩
 | tup xs => obtain ⟨z, its, r, ob, e, c⟩ := x; exact ⟨z, its, r, ob, k _ _ (.inl rfl) e, c⟩
 | dK kvs => obtain ⟨z, y, vs, r, ob, es, ep, e, c⟩ := x; exact ⟨z, y, vs, r, ob, es, ep, k _ _ (.inl rfl) e, c⟩
 | dT kvs =>
  obtain ⟨z, y, xs, r, ob, es, ep, e, c⟩ := x
  exact ⟨z, y, xs, Paired.mapP r fun p q z => ⟨z.1, ht _ _ z.2.1, z.2.2⟩, ob, es, ep, k _ _ (.inl rfl) e, c⟩
 | set S n => obtain ⟨ob, es, ep, t, e, c⟩ := x; exact ⟨ob, es, ep, t, k _ _ (.inl rfl) e, c⟩
 | ins C dx fs =>
  obtain ⟨d, z, ne, e, mA, ⟨od, es, ep, e2, c⟩, r⟩ := x
  exact ⟨ho _ d, z, ne, k _ _ (.inl rfl) e, mA, ⟨od, es, ep, k _ _ (.inr d) e2, c⟩, r⟩
 | own y => obtain ⟨ob, e⟩ := x; exact ⟨ob, k _ _ (.inl rfl) e⟩
 | xd fs => obtain ⟨mA, ⟨od, es, ep, e, c⟩, r⟩ := x; exact ⟨mA, ⟨od, es, ep, k _ _ (.inl rfl) e, c⟩, r⟩
 | rng lo hi => obtain ⟨t, u, v, e⟩ := x; exact ⟨t, u, v, k _ _ (.inl rfl) e⟩
 | frz ob u ih => obtain ⟨e, q⟩ := x; exact ⟨k _ _ (.inl rfl) e, ih q⟩
 | tbl ps =>
  have e : h.get? a = some { cls := .none, data := .fields ps } := x
  show h'.get? a = some { cls := .none, data := .fields ps }
  exact k a _ (.inl rfl) e
 | met f y =>
  have e : h.get? a = some (W.methodObj (.ref f) (.ref y)) := x
  show h'.get? a = some (W.methodObj (.ref f) (.ref y))
  exact k a _ (.inl rfl) e
 | ext φ => obtain ⟨p, ⟨o, e⟩, st⟩ := x; exact ⟨st _ _ p fun o q => k _ _ (.inl rfl) q, ⟨o, k _ _ (.inl rfl) e⟩, st⟩
theorem HOk.lt (x : HOk P w H h) (e : H a = some o) : a < h.objs.size := (x a o e).lt
theorem HOk.fresh (x : HOk P w H h) (e : h.objs.size <= a) : H a = none := by
 cases q : H a with
 | none => rfl
 | some u => exact absurd (Nat.lt_of_lt_of_le (x.lt q) e) (Nat.lt_irrefl _)
theorem HOk.kept (x : HOk P w H h) (k : ∀ b u, h.get? b = some u -> h'.get? b = some u) : HOk P w H h' := fun a o e =>
 (x a o e).stay (fun b u _ q => k b u q) (fun _ q => q) fun _ _ q => q
theorem HOk.laid (x : HOk P w H h) (k : ∀ b u, h.get? b = some u -> h'.get? b = some u) (hp : h.objs.size <= a) (new : zY P w (upd H a o) h' a o) : HOk P w (upd H a o) h' := fun b u e => by
 have hn := x.fresh hp
 by_cases hb : b = a
 ·subst hb; rw [aq] at e; cases e; exact new
 ·rw [ah hb] at e
  exact (x b u e).stay (fun c v _ q => k c v q) (fun c q => by rw [ah (ao q hn)]; exact q) fun c xs q => by rw [ah (ao q hn)]; exact q
end
noncomputable def Rd (H : Hp) (a : Addr) (u : HO) : Prop := H a = some u \/ ∃ o, H a = some (.frz o u)
theorem Rd.of {H : Hp} {a : Addr} {u : HO} (h : H a = some u) : Rd H a u := .inl h
theorem Rd.ok {P : Program} {w : World} {H : Hp} {h : Heap} {a : Addr} {u : HO} (r : Rd H a u) (x : HOk P w H h) : zY P w H h a u := by
 rcases r with r | ⟨o, r⟩
 ·exact x a u r
 ·obtain ⟨_, q⟩ := x a _ r
  exact q
noncomputable def Mut : Option HO -> Prop
 | some (.lst _) => True
 | some (.dK _) => True
 | some (.dT _) => True
 | some (.set _ _) => True
 | some (.ins _ _ _) => True
 | some (.ext _) => True
 | _ => False
section
variable {P : Program} {w : World} {H : Hp} {h h' : Heap} {x e : Addr} {o' : HO}
theorem HOk.write (ok : HOk P w H h) (mu : Mut (H x)) (he : e = x \/ H e = some (.own x)) (k : ∀ b u, b ≠ e -> h.get? b = some u -> h'.get? b = some u) (heo : ∃ u, h'.get? e = some u)
  (new : zY P w (upd H x o') h' x o') : HOk P w (upd H x o') h' := fun b u q => by
 have nown : ∀ c y, H c = some (.own y) -> c ≠ x := fun c y r z => by subst z; rw [r] at mu; exact mu
 have ntup : ∀ c xs, H c = some (.tup xs) -> c ≠ x := fun c xs r z => by subst z; rw [r] at mu; exact mu
 by_cases hb : b = x
 ·subst hb; rw [aq] at q; cases q; exact new
 ·rw [ah hb] at q
  by_cases hbe : b = e
  ·have q' : H b = some (.own x) := by
    rcases he with z | z
    ·exact absurd (hbe.trans z) hb
    ·rw [hbe]; exact z
   rw [q] at q'; cases q'
   obtain ⟨v, hv⟩ := heo
   exact ⟨v, by rw [hbe]; exact hv⟩
  ·refine (ok b u q).stay (fun c v hc r => k c v ?_ r) (fun c r => by rw [ah (nown c b r)]; exact r) fun c xs r => by rw [ah (ntup c xs r)]; exact r
   rcases hc with rfl | hc
   ·exact hbe
   ·rintro rfl
    rcases he with z | z
    ·exact nown c b hc z
    ·rw [hc] at z; cases z; exact hb rfl
end
structure Un (fs ex : List Addr) (H H' : Hp) (h h' : Heap) : Prop where
 keep : ∀ b o, h.get? b = some o -> H b = none -> b ∉ fs -> b ∉ ex -> h'.get? b = some o
 slot : ∀ b o, h.get? b = some o -> H b = none -> b ∈ fs -> b ∉ ex -> ∃ sl, h'.get? b = some { o with slots := sl }
 free : ∀ b o, h.get? b = some o -> H b = none -> b ∉ ex -> H' b = none
 there : ∀ b o, h.get? b = some o -> b ∉ ex -> ∃ o', h'.get? b = some o'
 tups : ∀ b xs, H b = some (.tup xs) -> H' b = some (.tup xs)
 frzs : ∀ b o u, H b = some (.frz o u) -> H' b = some (.frz o u)
 tbls : ∀ b ps, H b = some (.tbl ps) -> ∃ more, H' b = some (.tbl (ps ++ more))
section
variable {fs fs' ex ex' : List Addr} {H H1 H2 : Hp} {h h1 h2 h' : Heap} {a x e : Addr} {o : HO}
theorem Un.any (u : Un fs ex H H1 h h1) {b : Addr} {ob : Obj} (q : h.get? b = some ob) (n : H b = none) (hx : b ∉ ex) : ∃ sl, h1.get? b = some { ob with slots := sl } := by
 by_cases hb : b ∈ fs
 ·exact u.slot b ob q n hb hx
 ·exact ⟨ob.slots, u.keep b ob q n hb hx⟩
theorem Un.trans (a : Un fs ex H H1 h h1) (b : Un fs ex H1 H2 h1 h2) : Un fs ex H H2 h h2 where
 keep := fun c ob q n hc hx => b.keep c ob (a.keep c ob q n hc hx) (a.free c ob q n hx) hc hx
 slot := fun c ob q n hc hx => by
  obtain ⟨sl, e1⟩ := a.slot c ob q n hc hx
  obtain ⟨sl', e2⟩ := b.slot c _ e1 (a.free c ob q n hx) hc hx
  exact ⟨sl', e2⟩
 free := fun c ob q n hx => by
  obtain ⟨o', e1⟩ := a.there c ob q hx
  exact b.free c o' e1 (a.free c ob q n hx) hx
 there := fun c ob q hx => by
  obtain ⟨o', e1⟩ := a.there c ob q hx
  exact b.there c o' e1 hx
 tups := fun c xs q => b.tups c xs (a.tups c xs q)
 frzs := fun c ob xs q => b.frzs c ob xs (a.frzs c ob xs q)
 tbls := fun c ps q => by
  obtain ⟨m1, e1⟩ := a.tbls c ps q
  obtain ⟨m2, e2⟩ := b.tbls c _ e1
  exact ⟨m1 ++ m2, by rw [e2, Array.append_assoc]⟩
theorem Un.kept (k : ∀ b u, h.get? b = some u -> h'.get? b = some u) : Un fs ex H H h h' :=
 ⟨fun b ob q _ _ _ => k b ob q, fun b ob q _ _ _ => ⟨ob.slots, k b ob q⟩, fun _ _ _ n _ => n, fun b ob q _ => ⟨ob, k b ob q⟩, fun _ _ q => q, fun _ _ _ q => q, fun _ ps q => ⟨#[], by rw [q]; simp⟩⟩
theorem Un.refl : Un fs ex H H h h := Un.kept fun _ _ q => q
theorem Un.laid (k : ∀ b u, h.get? b = some u -> h'.get? b = some u) (hp : h.objs.size <= a) (hn : H a = none) : Un fs ex H (upd H a o) h h' where
 keep := fun b u q _ _ _ => k b u q
 slot := fun b u q _ _ _ => ⟨u.slots, k b u q⟩
 free := fun b u q n _ => by rw [ah (Nat.ne_of_lt (Nat.lt_of_lt_of_le (Heap.lt_size q) hp))]; exact n
 there := fun b u q _ => ⟨u, k b u q⟩
 tups := fun b xs q => by rw [ah (ao q hn)]; exact q
 frzs := fun b u xs q => by rw [ah (ao q hn)]; exact q
 tbls := fun b ps q => ⟨#[], by rw [ah (ao q hn), q]; simp⟩
theorem Un.write (mu : Mut (H x)) (he : e = x \/ H e = some (.own x)) (k : ∀ b u, b ≠ e -> h.get? b = some u -> h'.get? b = some u) (heo : ∃ u, h'.get? e = some u) : Un fs ex H (upd H x o) h h' := by
 have hx : ∀ b, H b = none -> b ≠ x := fun b n z => by subst z; rw [n] at mu; exact mu
 have hb : ∀ b, H b = none -> b ≠ e := fun b n z => by
  subst z
  rcases he with r | r
  ·exact hx b n r
  ·rw [n] at r; cases r
 have hm : ∀ b u, H b = some u -> ¬ Mut (some u) -> b ≠ x := fun b u q nm z => by subst z; rw [q] at mu; exact nm mu
 refine ⟨fun b u q n _ _ => k b u (hb b n) q, fun b u q n _ _ => ⟨u.slots, k b u (hb b n) q⟩, fun b u q n _ => by rw [ah (hx b n)]; exact n, fun b u q _ => ?_,
  fun b xs q => by rw [ah (hm b _ q fun z => z)]; exact q, fun b u xs q => by rw [ah (hm b _ q fun z => z)]; exact q, fun b ps q => ⟨#[], by rw [ah (hm b _ q fun z => z), q]; simp⟩⟩
 by_cases hbe : b = e
 ·subst hbe; exact heo
 ·exact ⟨u, k b u hbe q⟩
theorem Un.mono (u : Un fs ex H H1 h h1) (hs : ∀ b ∈ fs, b ∈ fs') (hx : ∀ b ∈ ex, b ∈ ex') : Un fs' ex' H H1 h h1 :=
 ⟨fun b ob q n hb he => u.keep b ob q n (fun z => hb (hs b z)) fun z => he (hx b z), fun _ _ q n _ he => u.any q n fun z => he (hx _ z), fun b ob q n he => u.free b ob q n fun z => he (hx b z), fun b ob q he => u.there b ob q fun z => he (hx b z), u.tups, u.frzs, u.tbls⟩
end
noncomputable def trk (h : Heap) (H : Hp) : List Addr := (List.range h.objs.size).filter fun a => (H a).isSome
noncomputable def hidT (h : Heap) (H : Hp) : Heap := W.hideAll h (trk h H)
theorem oo (h : Heap) (H : Hp) : (hidT h H).objs.size = h.objs.size := W.hideAll_size _ _
theorem pB {h : Heap} {H : Hp} {b : Addr} {o : Obj} (e : h.get? b = some o) (n : H b = none) : (hidT h H).get? b = some o :=
 W.hideAll_get _ e fun hm => by
  have q : (H b).isSome = true := (List.mem_filter.mp hm).2
  rw [n] at q; simp at q
theorem rF {h : Heap} {H : Hp} {b : Addr} {o : Obj} (e : (hidT h H).get? b = some o) : h.get? b = some o /\ H b = none := by
 have e' : h.get? b = some o := W.of_hideAll (trk h H) e
 refine ⟨e', ?_⟩
 cases q : H b with
 | none => rfl
 | some x =>
  have hm : b ∈ trk h H := List.mem_filter.mpr ⟨List.mem_range.mpr (Heap.lt_size e'), by simp [q]⟩
  have z : (hidT h H).get? b = none := W.hideAll_none (trk h H) hm
  rw [z] at e; cases e
noncomputable def BA (g h : Heap) (L : Addr) : zw := (List.range h.objs.size).filterMap fun a => if a = L \/ (g.get? a).isSome = true then none else (h.get? a).map fun o => (a, o)
noncomputable def rest (g h : Heap) (L d : Addr) : zw := (BA g h L).filter fun p => decide (p.1 ≠ d)
structure Mod (K : W.Frag) (mg : zu) (base : Heap) : Prop where
 kin : K.In base
 glob : base.Ns mainGlobals mg
 blt : ∃ mb, base.Ns builtinsNs mb /\ ∀ x : Str, x ≠ "__name__" -> mb x = bootBuiltins x
 nolimit : base.NoLimit
structure Cx where
 prog : Program
 w : World
 K : W.Frag
 mg : Str -> Option Value
 base : Heap
 A : Around
 N : List Str
 s₀ : Shared
 H₀ : Hp
 env : Env
 outer : List Env
 stack : List Env
 ex : List Addr
 fn : Str -> Bool
 calm : Bool
 pn : zw
 xe : Value -> Shared -> Prop
def frs (l : List Env) : List Addr := l.filterMap (·.frame)
abbrev Cx.fs (X : Cx) : List Addr := frs X.outer
noncomputable def Vis (sc : Scope) (x : Str) : Prop := sc.names.lookup x = some .local \/ sc.names.lookup x = some .cell \/ sc.names.lookup x = some .free
noncomputable def Loc (sc : Scope) (x : Str) : Prop := sc.names.lookup x = some .local \/ sc.names.lookup x = some .cell
noncomputable def Look (env : Env) (h : Heap) (m : zu) (x : Str) (u : Value) : Prop :=
 (env.kindOf x = some .local /\ m x = some u) \/ ((env.kindOf x = some .cell \/ env.kindOf x = some .free) /\ ∃ c, env.cells.lookup x = some c /\ h.IsCell c (some u))
structure Cx.Ok (X : Cx) : Prop where
 mod : Mod X.K X.mg X.base
 kind : X.env.scope.kind = .function
 glob : X.env.globals = mainGlobals
 blt : X.env.builtins = builtinsNs
 above : X.s₀.heap.objs.size <= X.env.locals
 inj : ∀ x y c, X.env.cells.lookup x = some c -> X.env.cells.lookup y = some c -> x = y
 has : ∀ x, (X.env.kindOf x = some .cell \/ X.env.kindOf x = some .free) -> ∃ c, X.env.cells.lookup x = some c
 cab : ∀ x c, X.fn x = true -> X.env.cells.lookup x = some c -> X.s₀.heap.objs.size <= c
 hd : X.calm = true -> X.A.handled = none
 frames : X.A.frames = some X.stack
 stk : X.stack = X.outer \/ (X.stack = X.env :: X.outer /\ X.env.frame = some X.env.locals)
 exf : ∀ b ∈ X.ex, b ≠ X.env.locals /\ ∀ x c, X.env.cells.lookup x = some c -> c ≠ b
 bs : ∀ b o, X.base.get? b = some o -> X.s₀.heap.get? b = some o /\ X.H₀ b = none
 bsz : X.base.objs.size <= X.s₀.heap.objs.size
 noex : ∀ b o, X.base.get? b = some o -> b ∉ X.ex
 exfs : ∀ b ∈ X.ex, b ∉ X.fs
 funs : X.s₀.heap.FunFrames X.base X.outer
 frf : ∀ b ∈ X.fs, X.H₀ b = none
structure Inv (X : Cx) (pins : zw) (σ : List (Option V)) (H : Hp) (s : Shared) : Prop where
 ok : X.Ok
 os : s.os = X.s₀.os
 bare : AllBare s.gens
 base : Un X.fs X.ex X.H₀ H X.s₀.heap s.heap
 loc : ∃ m, s.heap.Ns X.env.locals m /\ ∀ (i : Nat) (x : Str) (v : V), X.N[i]? = some x -> σ[i]? = some (some v) -> Vis X.env.scope x -> ∃ u, RelV v u /\ Look X.env s.heap m x u
 cell : ∀ x c, X.env.cells.lookup x = some c -> ∃ v, s.heap.IsCell c v
 free : H X.env.locals = none
 freeC : ∀ x c, X.env.cells.lookup x = some c -> H c = none
 pin : ∀ p ∈ X.pn ++ pins, s.heap.get? p.1 = some p.2 /\ H p.1 = none /\ p.1 ≠ X.env.locals /\ p.1 ∉ X.fs /\ ∀ v, p.2.data ≠ .cell v
 hok : HOk X.prog X.w H s.heap
 len : σ.length = X.N.length
section
variable {X : Cx} {pins : zw} {σ : List (Option V)} {H H' : Hp} {s : Shared} {h' : Heap}
theorem Cx.Ok.nofr (ok : X.Ok) {b : Addr} {o : Obj} (e : X.base.get? b = some o) : b ∉ X.fs := fun hb => by
 have := (ok.funs.mem hb).1
 rw [e] at this; cases this
theorem Inv.bs (I : Inv X pins σ H s) : ∀ b o, X.base.get? b = some o -> s.heap.get? b = some o /\ H b = none := fun b o e =>
 ⟨I.base.keep b o (I.ok.bs b o e).1 (I.ok.bs b o e).2 (I.ok.nofr e) (I.ok.noex b o e), I.base.free b o (I.ok.bs b o e).1 (I.ok.bs b o e).2 (I.ok.noex b o e)⟩
theorem Inv.bk (I : Inv X pins σ H s) : ∀ b o, X.base.get? b = some o -> s.heap.get? b = some o := fun b o e => (I.bs b o e).1
theorem Inv.mod (I : Inv X pins σ H s) : Mod X.K X.mg X.base := I.ok.mod
theorem Inv.kIn (I : Inv X pins σ H s) : X.K.In s.heap := I.ok.mod.kin.keeps I.bk
theorem Inv.fr (I : Inv X pins σ H s) : ∃ m, Fr X.base X.env.locals s.heap m :=
 let ⟨m, hn, _⟩ := I.loc
 ⟨m, hn, I.bk, Nat.le_trans I.ok.bsz I.ok.above⟩
theorem Inv.lt (I : Inv X pins σ H s) : X.env.locals < s.heap.objs.size := let ⟨_, hn, _⟩ := I.loc; hn.lt
theorem Inv.sz (I : Inv X pins σ H s) : X.s₀.heap.objs.size <= s.heap.objs.size := Nat.le_trans I.ok.above (Nat.le_of_lt I.lt)
theorem Inv.nofs (I : Inv X pins σ H s) {a : Addr} (h : s.heap.objs.size <= a) : a ∉ X.fs := fun hb => by
 obtain ⟨_, o, ho, _⟩ := I.ok.funs.mem hb
 exact absurd (Nat.lt_of_lt_of_le (Heap.lt_size ho) (Nat.le_trans I.sz h)) (Nat.lt_irrefl _)
theorem Inv.cne (I : Inv X pins σ H s) : ∀ x c, X.env.cells.lookup x = some c -> c ≠ X.env.locals := fun x c e z => by
 obtain ⟨v, o, ho, hd⟩ := I.cell x c e
 obtain ⟨m, ⟨o', es, ep, ho', hd', _⟩, _⟩ := I.loc
 rw [z, ho'] at ho; cases ho; rw [hd'] at hd; cases hd
theorem Inv.funs (I : Inv X pins σ H s) : s.heap.FunFrames X.base X.outer := by
 have all : ∀ (l : List Env), (∀ b ∈ frs l, b ∈ X.fs) -> X.s₀.heap.FunFrames X.base l -> s.heap.FunFrames X.base l := by
  intro l
  induction l with
  | nil => intro _ _; trivial
  | cons env r ih =>
   intro hs hl
   obtain ⟨hk, ⟨L, o, hf, hn, ho, hd⟩, hr⟩ := hl
   have hL : L ∈ X.fs := hs L (by unfold frs; rw [List.filterMap_cons, hf]; exact List.mem_cons_self)
   obtain ⟨sl, e⟩ := I.base.slot L o ho (I.ok.frf L hL) hL fun z => I.ok.exfs L z hL
   exact ⟨hk, ⟨L, _, hf, hn, e, hd⟩, ih (fun b hb => hs b (by unfold frs; rw [List.filterMap_cons, hf]; exact List.mem_cons_of_mem _ hb)) hr⟩
 exact all X.outer (fun _ hb => hb) I.ok.funs
theorem Inv.stack (I : Inv X pins σ H s) : s.heap.FunFrames X.base X.stack := by
 rcases I.ok.stk with e | ⟨e, hf⟩
 ·rw [e]; exact I.funs
 ·rw [e]
  obtain ⟨m, hn, _⟩ := I.loc
  refine .cons (by rw [I.ok.kind]; decide) hf hn ?_ I.funs
  exact Heap.get?_none_of_le (Nat.le_trans I.ok.bsz I.ok.above)
theorem Inv.stkSub (I : Inv X pins σ H s) : ∀ b ∈ frs X.stack, b ∈ X.env.locals :: X.fs := fun b hb => by
 rcases I.ok.stk with e | ⟨e, hf⟩
 ·rw [e] at hb; exact List.mem_cons_of_mem _ hb
 ·rw [e] at hb
  unfold frs at hb
  rw [List.filterMap_cons, hf] at hb
  exact hb
theorem Inv.stkFree (I : Inv X pins σ H s) : ∀ b ∈ frs X.stack, H b = none := fun b hb => by
 rcases List.mem_cons.mp (I.stkSub b hb) with e | hb
 ·rw [e]; exact I.free
 ·obtain ⟨_, o, ho, _⟩ := I.ok.funs.mem hb
  exact I.base.free b o ho (I.ok.frf b hb) fun z => I.ok.exfs b z hb
theorem Inv.step {g' : Array GenState} {t' : Nat} {d' : Drawn} {ch : List Addr} (I : Inv X pins σ H s)
  (hch : ∀ b ∈ ch, (b ∈ X.ex \/ X.s₀.heap.objs.size <= b) /\ b ≠ X.env.locals /\ (∀ x c, X.env.cells.lookup x = some c -> c ≠ b) /\ ∀ p ∈ X.pn ++ pins, p.1 ≠ b)
  (keep : ∀ b o, b ≠ X.env.locals -> b ∉ X.fs -> b ∉ ch -> s.heap.get? b = some o -> H b = none -> h'.get? b = some o)
  (slot : ∀ b o, b ≠ X.env.locals -> b ∈ X.fs -> b ∉ ch -> s.heap.get? b = some o -> H b = none -> ∃ sl, h'.get? b = some { o with slots := sl }) (free : ∀ b o, b ∉ ch -> s.heap.get? b = some o -> H b = none -> H' b = none)
  (there : ∀ b o, b ∉ ch -> s.heap.get? b = some o -> ∃ o', h'.get? b = some o')
  (tups : ∀ b xs, H b = some (.tup xs) -> H' b = some (.tup xs)) (frzs : ∀ b o u, H b = some (.frz o u) -> H' b = some (.frz o u)) (tbls : ∀ b ps, H b = some (.tbl ps) -> ∃ more, H' b = some (.tbl (ps ++ more)))
  (ns : ∀ m, s.heap.Ns X.env.locals m -> h'.Ns X.env.locals m) (hok : HOk X.prog X.w H' h') (hg : AllBare g') :
  Inv X pins σ H' { s with heap := h', gens := g', drawn := d', toks := t' } := by
 have neL : ∀ b o, X.s₀.heap.get? b = some o -> b ≠ X.env.locals := fun b o e => Nat.ne_of_lt (Nat.lt_of_lt_of_le (Heap.lt_size e) I.ok.above)
 have neC : ∀ b o, X.s₀.heap.get? b = some o -> b ∉ X.ex -> b ∉ ch := fun b o e hx hb => by
  rcases (hch b hb).1 with z | z
  ·exact hx z
  ·exact absurd (Nat.lt_of_lt_of_le (Heap.lt_size e) z) (Nat.lt_irrefl _)
 have cellK : ∀ x c, X.env.cells.lookup x = some c -> ∀ v, s.heap.IsCell c v -> h'.IsCell c v := fun x c e v ⟨o, ho, hd⟩ => by
  have nch : c ∉ ch := fun z => (hch c z).2.2.1 x c e rfl
  by_cases hc : c ∈ X.fs
  ·obtain ⟨sl, q⟩ := slot c o (I.cne x c e) hc nch ho (I.freeC x c e)
   exact ⟨_, q, hd⟩
  ·exact ⟨o, keep c o (I.cne x c e) hc nch ho (I.freeC x c e), hd⟩
 refine ⟨I.ok, I.os, hg, ⟨fun b o e n hb hx => ?_, fun b o e n hb hx => ?_, fun b o e n hx => ?_, fun b o e hx => ?_, fun b xs e => tups b xs (I.base.tups b xs e), fun b o xs e => frzs b o xs (I.base.frzs b o xs e), fun b ps e => ?_⟩, ?_, fun x c e => ?_, ?_, fun x c e => ?_, fun p hp => ?_, hok, I.len⟩
 ·exact keep b o (neL b o e) hb (neC b o e hx) (I.base.keep b o e n hb hx) (I.base.free b o e n hx)
 ·obtain ⟨sl, e1⟩ := I.base.slot b o e n hb hx
  obtain ⟨sl', e2⟩ := slot b _ (neL b o e) hb (neC b o e hx) e1 (I.base.free b o e n hx)
  exact ⟨sl', e2⟩
 ·obtain ⟨o', e1⟩ := I.base.there b o e hx
  exact free b o' (neC b o e hx) e1 (I.base.free b o e n hx)
 ·obtain ⟨o', e1⟩ := I.base.there b o e hx
  exact there b o' (neC b o e hx) e1
 ·obtain ⟨m1, e1⟩ := I.base.tbls b ps e
  obtain ⟨m2, e2⟩ := tbls b _ e1
  exact ⟨m1 ++ m2, by rw [e2, Array.append_assoc]⟩
 ·obtain ⟨m, hn, hl⟩ := I.loc
  refine ⟨m, ns m hn, fun i x v e1 e2 e3 => ?_⟩
  obtain ⟨u, r, l⟩ := hl i x v e1 e2 e3
  refine ⟨u, r, ?_⟩
  rcases l with l | ⟨k, c, e, z⟩
  ·exact .inl l
  ·exact .inr ⟨k, c, e, cellK x c e _ z⟩
 ·obtain ⟨v, z⟩ := I.cell x c e
  exact ⟨v, cellK x c e v z⟩
 ·obtain ⟨m, ⟨o, _, _, ho, _⟩, _⟩ := I.loc
  exact free _ o (fun z => (hch _ z).2.1 rfl) ho I.free
 ·obtain ⟨v, o, ho, hd⟩ := I.cell x c e
  exact free c o (fun z => (hch c z).2.2.1 x c e rfl) ho (I.freeC x c e)
 ·obtain ⟨e, n, ne, nf, d⟩ := I.pin p hp
  have nch : p.1 ∉ ch := fun z => (hch p.1 z).2.2.2 p hp rfl
  exact ⟨keep p.1 p.2 ne nf nch e n, free p.1 p.2 nch e n, ne, nf, d⟩
theorem Inv.un {t' : Nat} (I : Inv X pins σ H s) (u : Un X.fs [] H H' s.heap h') (hok : HOk X.prog X.w H' h') : Inv X pins σ H' { s with heap := h', toks := t' } := by
 obtain ⟨m, ⟨o, es, ep, ho, r⟩, _⟩ := id I.loc
 obtain ⟨sl, hL⟩ := u.any ho I.free (by simp)
 exact I.step (g' := s.gens) (d' := s.drawn) (ch := []) (fun _ z => nomatch z) (fun b o _ hb _ e n => u.keep b o e n hb (by simp)) (fun b o _ hb _ e n => u.slot b o e n hb (by simp)) (fun b o _ e n => u.free b o e n (by simp)) (fun b o _ e => u.there b o e (by simp)) u.tups u.frzs u.tbls (fun m' hm => by
  obtain ⟨o', es', ep', ho', r'⟩ := hm
  rw [ho] at ho'; cases ho'
  exact ⟨_, es', ep', hL, r'⟩) hok I.bare
theorem Inv.call {g' : Array GenState} {t' : Nat} {d' : Drawn} {ch : List Addr} (I : Inv X pins σ H s) (u : Un (frs X.stack) ch H H' s.heap h') (hok : HOk X.prog X.w H' h') (hg : AllBare g')
  (hch : ∀ b ∈ ch, (b ∈ X.ex \/ X.s₀.heap.objs.size <= b) /\ b ≠ X.env.locals /\ (∀ x c, X.env.cells.lookup x = some c -> c ≠ b) /\ ∀ p ∈ X.pn ++ pins, p.1 ≠ b) :
  Inv X pins σ H' { s with heap := h', gens := g', drawn := d', toks := t' } := by
 obtain ⟨m, ⟨o, es, ep, ho, r⟩, _⟩ := id I.loc
 obtain ⟨sl, hL⟩ := u.any ho I.free fun z => (hch _ z).2.1 rfl
 exact I.step (ch := ch) hch (fun b o hL hb hc e n => u.keep b o e n (fun z => (List.mem_cons.mp (I.stkSub b z)).elim hL hb) hc) (fun b o _ _ hc e n => u.any e n hc) (fun b o hc e n => u.free b o e n hc) (fun b o hc e => u.there b o e hc) u.tups u.frzs u.tbls (fun m' hm => by
  obtain ⟨o', es', ep', ho', r'⟩ := hm
  rw [ho] at ho'; cases ho'
  exact ⟨_, es', ep', hL, r'⟩) hok hg
theorem Inv.turned {t' : Nat} {it : Addr} (I : Inv X pins σ H s) (k : ∀ b o, b ≠ it -> s.heap.get? b = some o -> h'.get? b = some o) (hn : H it = none) (hL : it ≠ X.env.locals)
  (h1 : it ∈ X.ex \/ X.s₀.heap.objs.size <= it) (h2 : ∀ x c, X.env.cells.lookup x = some c -> c ≠ it) (h3 : ∀ p ∈ X.pn ++ pins, p.1 ≠ it) : Inv X pins σ H { s with heap := h', toks := t' } := by
 have nit : ∀ b u, H b = some u -> b ≠ it := fun b u e z => by rw [z, hn] at e; cases e
 refine I.step (g' := s.gens) (d' := s.drawn) (ch := [it]) (fun b hb => ?_) (fun b o _ _ hc e _ => k b o (fun z => hc (by simp [z])) e) (fun b o _ _ hc e _ => ⟨o.slots, k b o (fun z => hc (by simp [z])) e⟩) (fun _ _ _ _ n => n)
  (fun b o hc e => ⟨o, k b o (fun z => hc (by simp [z])) e⟩) (fun _ _ e => e) (fun _ _ _ e => e) (fun b ps e => ⟨#[], by rw [e]; simp⟩) (fun m hm => ?_) (fun b u e => ?_) I.bare
 ·have e : b = it := by simpa using hb
  subst e
  exact ⟨h1, hL, h2, h3⟩
 ·obtain ⟨o, es, ep, ho, r⟩ := hm
  exact ⟨o, es, ep, k _ o (Ne.symm hL) ho, r⟩
 ·refine (I.hok b u e).stay (fun c v hc q => k c v ?_ q) (fun _ q => q) fun _ _ q => q
  rcases hc with z | z
  ·rw [z]; exact nit b u e
  ·exact nit c _ z
theorem Inv.tok (I : Inv X pins σ H s) (t : Nat) : Inv X pins σ H { s with toks := t } := I.un (h' := s.heap) (t' := t) Un.refl I.hok
theorem Inv.kept {t' : Nat} (I : Inv X pins σ H s) (k : ∀ b u, s.heap.get? b = some u -> h'.get? b = some u) : Inv X pins σ H { s with heap := h', toks := t' } := I.un (Un.kept k) (I.hok.kept k)
theorem Inv.laid {a : Addr} {o : HO} {t' : Nat} (I : Inv X pins σ H s) (k : ∀ b u, s.heap.get? b = some u -> h'.get? b = some u) (hp : s.heap.objs.size <= a) (new : zY X.prog X.w (upd H a o) h' a o) :
  Inv X pins σ (upd H a o) { s with heap := h', toks := t' } := I.un (Un.laid k hp (I.hok.fresh hp)) (I.hok.laid k hp new)
theorem Inv.write {x e : Addr} {o : HO} {t' : Nat} (I : Inv X pins σ H s) (mu : Mut (H x)) (he : e = x \/ H e = some (.own x)) (k : ∀ b u, b ≠ e -> s.heap.get? b = some u -> h'.get? b = some u) (heo : ∃ u, h'.get? e = some u)
  (new : zY X.prog X.w (upd H x o) h' x o) : Inv X pins σ (upd H x o) { s with heap := h', toks := t' } := I.un (Un.write mu he k heo) (I.hok.write mu he k heo new)
theorem Inv.weak {σ' : List (Option V)} (I : Inv X pins σ H s) (hl : σ'.length = σ.length) (w : ∀ (i : Nat) v, σ'[i]? = some (some v) -> σ[i]? = some (some v)) : Inv X pins σ' H s :=
 ⟨I.ok, I.os, I.bare, I.base, let ⟨m, hn, hl'⟩ := I.loc; ⟨m, hn, fun i x v e1 e2 e3 => hl' i x v e1 (w i v e2) e3⟩, I.cell, I.free, I.freeC, I.pin, I.hok, hl.trans I.len⟩
theorem Inv.pins_of {pins' : zw} (I : Inv X pins σ H s) (h : ∀ p ∈ pins', s.heap.get? p.1 = some p.2 /\ H p.1 = none /\ p.1 ≠ X.env.locals /\ p.1 ∉ X.fs /\ ∀ v, p.2.data ≠ .cell v) : Inv X pins' σ H s :=
 ⟨I.ok, I.os, I.bare, I.base, I.loc, I.cell, I.free, I.freeC, fun p hp => (List.mem_append.mp hp).elim (fun z => I.pin p (List.mem_append_left _ z)) (h p), I.hok, I.len⟩
theorem kO {N : List Str} (hN : N.Nodup) {i j : Nat} {x : Str} (a : N[i]? = some x) (b : N[j]? = some x) : i = j := by
 obtain ⟨h1, e1⟩ := List.getElem?_eq_some_iff.mp a
 obtain ⟨h2, e2⟩ := List.getElem?_eq_some_iff.mp b
 exact (List.getElem_inj hN).mp (e1.trans e2.symm)
theorem jh {M : Model} {A : Around} {E : zx} {i : Nat} {x : Str} {v : V} {u : Value} {Q : Unit -> Shared -> Prop} (I : Inv X pins σ H s) (hN : X.N.Nodup) (hi : X.N[i]? = some x) (hx : Loc X.env.scope x) (r : RelV v u)
  (h : ∀ s', Inv X pins (σ.set i (some v)) H s' -> (∃ a, Heap.SameBut a s.heap s'.heap /\ (a = X.env.locals \/ X.env.cells.lookup x = some a)) -> Q () s') (hf : X.fn x = true \/ X.env.scope.names.lookup x = some .local := by first | exact .inl rfl | exact .inr rfl | assumption) : wpAny M A (storeName X.env x u) Q E s := by
 obtain ⟨m, hn, hl⟩ := id I.loc
 have hcls : (X.env.scope.kind == .class || (X.env.scope.kind == .module && X.env.locals != X.env.globals)) = false := by rw [I.ok.kind]; rfl
 have hiσ : i < σ.length := by rw [I.len]; exact (List.getElem?_eq_some_iff.mp hi).1
 have cne := I.cne
 have tracked : ∀ {a : Addr} {h' : Heap}, (∃ o, s.heap.get? a = some o /\ H a = none) -> Heap.SameBut a s.heap h' -> HOk X.prog X.w H h' := fun {a h'} ha hs b ob e => by
  obtain ⟨_, _, hfree⟩ := ha
  refine (I.hok b ob e).stay (fun c w' hc q => (hs.2 c ?_).trans q) (fun _ q => q) fun _ _ q => q
  rintro rfl
  rcases hc with rfl | hc
  ·rw [hfree] at e; cases e
  ·rw [hfree] at hc; cases hc
 rcases hx with hk | hk
 ·refine wpAny_storeName_local hk hn (fun h' hn' hs => ?_) hcls
  obtain ⟨oL, _, _, hoL, _⟩ := id hn
  refine h _ ⟨I.ok, I.os, I.bare, ⟨fun b o e n hb hx => ?_, fun b o e n hb hx => ?_, I.base.free, fun b o e hx => ?_, I.base.tups, I.base.frzs, I.base.tbls⟩, ⟨_, hn', fun j y v' e1 e2 e3 => ?_⟩, fun y c e => ?_, I.free, I.freeC, fun p hp => ?_, tracked ⟨oL, hoL, I.free⟩ hs, by simpa using I.len⟩ ⟨_, hs, .inl rfl⟩
  ·exact (hs.2 b (Nat.ne_of_lt (Nat.lt_of_lt_of_le (Heap.lt_size e) I.ok.above))).trans (I.base.keep b o e n hb hx)
  ·obtain ⟨sl, e1⟩ := I.base.slot b o e n hb hx
   exact ⟨sl, (hs.2 b (Nat.ne_of_lt (Nat.lt_of_lt_of_le (Heap.lt_size e) I.ok.above))).trans e1⟩
  ·obtain ⟨o', e1⟩ := I.base.there b o e hx
   exact ⟨o', (hs.2 b (Nat.ne_of_lt (Nat.lt_of_lt_of_le (Heap.lt_size e) I.ok.above))).trans e1⟩
  ·by_cases hj : j = i
   ·subst hj
    rw [hi] at e1; cases e1
    rw [List.getElem?_set_self hiσ] at e2
    cases e2
    exact ⟨u, r, .inl ⟨hk, by simp⟩⟩
   ·rw [List.getElem?_set_ne (Ne.symm hj)] at e2
    obtain ⟨u', r', q⟩ := hl j y v' e1 e2 e3
    refine ⟨u', r', ?_⟩
    rcases q with ⟨k, e⟩ | ⟨k, c, e, z⟩
    ·refine .inl ⟨k, ?_⟩
     have : y ≠ x := fun e => hj (kO hN e1 (e ▸ hi))
     simp [this, e]
    ·exact .inr ⟨k, c, e, z.sameBut hs (cne y c e)⟩
  ·obtain ⟨w', z⟩ := I.cell y c e
   exact ⟨w', z.sameBut hs (cne y c e)⟩
  ·obtain ⟨e, n, ne, nf, d⟩ := I.pin p hp
   exact ⟨(hs.2 p.1 ne).trans e, n, ne, nf, d⟩
 ·have hfn : X.fn x = true := by
   rcases hf with z | z
   ·exact z
   ·rw [z] at hk; cases hk
  obtain ⟨c, hc⟩ := I.ok.has x (.inl hk)
  obtain ⟨w', z⟩ := I.cell x c hc
  refine wpAny_storeName_cell I.ok.kind hk hc z (fun h' hc' hs => ?_)
  obtain ⟨oc, hoc, hocd⟩ := id z
  refine h { s with heap := h' } ⟨I.ok, I.os, I.bare, ⟨fun b o e n hb hx => ?_, fun b o e n hb hx => ?_, I.base.free, fun b o e hx => ?_, I.base.tups, I.base.frzs, I.base.tbls⟩, ⟨m, hn.sameBut hs (Ne.symm (cne x c hc)), fun j y v' e1 e2 e3 => ?_⟩, fun y c' e => ?_, I.free, I.freeC, fun p hp => ?_, tracked ⟨oc, hoc, I.freeC x c hc⟩ hs, by simpa using I.len⟩ ⟨c, hs, .inr hc⟩
  ·exact (hs.2 b (Nat.ne_of_lt (Nat.lt_of_lt_of_le (Heap.lt_size e) (I.ok.cab x c hfn hc)))).trans (I.base.keep b o e n hb hx)
  ·obtain ⟨sl, e1⟩ := I.base.slot b o e n hb hx
   exact ⟨sl, (hs.2 b (Nat.ne_of_lt (Nat.lt_of_lt_of_le (Heap.lt_size e) (I.ok.cab x c hfn hc)))).trans e1⟩
  ·obtain ⟨o', e1⟩ := I.base.there b o e hx
   exact ⟨o', (hs.2 b (Nat.ne_of_lt (Nat.lt_of_lt_of_le (Heap.lt_size e) (I.ok.cab x c hfn hc)))).trans e1⟩
  ·by_cases hj : j = i
   ·subst hj
    rw [hi] at e1; cases e1
    rw [List.getElem?_set_self hiσ] at e2
    cases e2
    exact ⟨u, r, .inr ⟨.inl hk, c, hc, hc'⟩⟩
   ·rw [List.getElem?_set_ne (Ne.symm hj)] at e2
    obtain ⟨u', r', q⟩ := hl j y v' e1 e2 e3
    refine ⟨u', r', ?_⟩
    rcases q with q | ⟨k, c', e, z'⟩
    ·exact .inl q
    ·refine .inr ⟨k, c', e, z'.sameBut hs ?_⟩
     rintro rfl
     exact hj (kO hN e1 (I.ok.inj _ _ _ e hc ▸ hi))
  ·by_cases hcc : c' = c
   ·subst hcc; exact ⟨_, hc'⟩
   ·obtain ⟨w2, z2⟩ := I.cell y c' e
    exact ⟨w2, z2.sameBut hs hcc⟩
  ·obtain ⟨e, n, ne, nf, d⟩ := I.pin p hp
   refine ⟨(hs.2 p.1 ?_).trans e, n, ne, nf, d⟩
   intro q
   rw [q, hoc] at e
   have q' : oc = p.2 := Option.some.inj e
   exact d w' (by rw [<- q']; exact hocd)
theorem gX {M : Model} {A : Around} {E : zx} {i : Nat} {x : Str} {v : V} {u : Value} {Q : Unit -> Shared -> Prop} (I : Inv X pins σ H s) (hN : X.N.Nodup) (hi : X.N[i]? = some x) (hx : Loc X.env.scope x) (r : RelV v u)
  (h : ∀ s', Inv X pins (σ.set i (some v)) H s' -> Q () s') (hf : X.fn x = true \/ X.env.scope.names.lookup x = some .local := by first | exact .inl rfl | exact .inr rfl | assumption) : wpAny M A (storeName X.env x u) Q E s :=
 jh I hN hi hx r (fun s' I' _ => h s' I') hf
theorem Inv.call' {s' : Shared} {ch : List Addr} (I : Inv X pins σ H s) (ho : s'.os = s.os) (u : Un (frs X.stack) ch H H' s.heap s'.heap) (hok : HOk X.prog X.w H' s'.heap) (hg : AllBare s'.gens)
  (hch : ∀ b ∈ ch, (b ∈ X.ex \/ X.s₀.heap.objs.size <= b) /\ b ≠ X.env.locals /\ (∀ x c, X.env.cells.lookup x = some c -> c ≠ b) /\ ∀ p ∈ X.pn ++ pins, p.1 ≠ b) : Inv X pins σ H' s' := by
 obtain ⟨h', g', d', t', o'⟩ := s'
 have e : o' = s.os := ho
 subst e
 exact I.call (g' := g') (t' := t') (d' := d') u hok hg hch
end
abbrev XK := Value -> Option Addr -> Hp -> Prop
abbrev St := List (Option V)
abbrev VK := V -> Hp -> Prop
abbrev TE := St -> Hp -> VK -> Prop
abbrev TT := St -> Hp -> (Bool -> Hp -> Prop) -> Prop
abbrev TA := St -> Hp -> (List V -> Hp -> Prop) -> Prop
structure Ends where
 nx : St -> Hp -> Prop
 rt : VK
 bk : St -> Hp -> Prop := fun _ _ => False
 ct : St -> Hp -> Prop := fun _ _ => False
abbrev TS := Ends -> St -> Hp -> Prop
noncomputable def EP (X : Cx) (pins : zw) (σ : St) (Q : VK) (u : Value) (s' : Shared) : Prop := ∃ v H', Inv X pins σ H' s' /\ RelV v u /\ Q v H'
noncomputable def TP (X : Cx) (pins : zw) (σ : St) (Q : Bool -> Hp -> Prop) (b : Bool) (s' : Shared) : Prop := ∃ H', Inv X pins σ H' s' /\ Q b H'
noncomputable def AP (X : Cx) (pins : zw) (σ : St) (Q : List V -> Hp -> Prop) (us : List Value) (s' : Shared) : Prop := ∃ vs H', Inv X pins σ H' s' /\ Vals vs us /\ Q vs H'
noncomputable def SP (X : Cx) (pins : zw) (D : Ends) (f : Flow) (s' : Shared) : Prop :=
 match f with
 | .next => ∃ σ' H', Inv X pins σ' H' s' /\ D.nx σ' H'
 | .brk => ∃ σ' H', Inv X pins σ' H' s' /\ D.bk σ' H'
 | .cont => ∃ σ' H', Inv X pins σ' H' s' /\ D.ct σ' H'
 | .ret u => ∃ v σ' H', Inv X pins σ' H' s' /\ RelV v u /\ D.rt v H'
noncomputable def PE (X : Cx) (e : Expr) (t : TE) : Prop :=
 ∀ (pins : zw) (s : Shared) (σ : St) (H : Hp) (Q : VK), Inv X pins σ H s -> t σ H Q -> wpAny (model X.prog X.w) X.A (eval e X.env) (EP X pins σ Q) X.xe s
noncomputable def PT (X : Cx) (e : Expr) (t : TT) : Prop :=
 ∀ (pins : zw) (s : Shared) (σ : St) (H : Hp) (Q : Bool -> Hp -> Prop), Inv X pins σ H s -> t σ H Q -> wpAny (model X.prog X.w) X.A (isTrue e X.env (eval e X.env)) (TP X pins σ Q) X.xe s
noncomputable def PW (X : Cx) (e : Expr) (t : TT) : Prop :=
 ∀ (whole : Sem Value) (pins : zw) (s : Shared) (σ : St) (H : Hp) (Q : Bool -> Hp -> Prop), Inv X pins σ H s -> t σ H Q -> wpAny (model X.prog X.w) X.A (isTrue e X.env whole) (TP X pins σ Q) X.xe s
theorem PW.pt {X : Cx} {e : Expr} {t : TT} (h : PW X e t) : PT X e t := h _
noncomputable def PA (X : Cx) (es : List Expr) (t : TA) : Prop :=
 ∀ (pos : Pos) (pins : zw) (s : Shared) (σ : St) (H : Hp) (Q : List V -> Hp -> Prop), Inv X pins σ H s -> t σ H Q -> wpAny (model X.prog X.w) X.A (spliced (backTo pos (starEach es X.env))) (AP X pins σ Q) X.xe s
noncomputable def PS (X : Cx) (st : Stmt) (t : TS) : Prop :=
 ∀ (pins : zw) (s : Shared) (σ : St) (H : Hp) (D : Ends), Inv X pins σ H s -> t D σ H -> wpAny (model X.prog X.w) X.A (exec st X.env) (SP X pins D) X.xe s
noncomputable def PSs (X : Cx) (st : List Stmt) (t : TS) : Prop :=
 ∀ (pins : zw) (s : Shared) (σ : St) (H : Hp) (D : Ends), Inv X pins σ H s -> t D σ H -> wpAny (model X.prog X.w) X.A (execs st X.env) (SP X pins D) X.xe s
theorem thn {α : Type} {t : Sem α} {Q Q' : α -> Shared -> Prop} {M : Model} {A : Around} {E : zx} {s : Shared} (h : wpAny M A t Q E s) (hQ : ∀ a s, Q a s -> Q' a s) : wpAny M A t Q' E s := wpAny_mono h hQ fun _ _ x => x
section
variable {X : Cx}
theorem bin {a b : Expr} {ta tb : TE} (ha : PE X a ta) (hb : PE X b tb) {pins : zw} {s : Shared} {σ : St} {H : Hp} {R : V -> V -> Hp -> Prop} (I : Inv X pins σ H s) (h : ta σ H fun x H1 => tb σ H1 fun y H2 => R x y H2)
  {α : Type} {Q : α -> Shared -> Prop} {f : Value -> Value -> Sem α}
  (hf : ∀ v u s2 x y H2, Inv X pins σ H2 s2 -> RelV x v -> RelV y u -> R x y H2 -> wpAny (model X.prog X.w) X.A (f v u) Q X.xe s2) :
  wpAny (model X.prog X.w) X.A (eval a X.env) (fun v s₁ => wpAny (model X.prog X.w) X.A (eval b X.env) (fun u s₂ => wpAny (model X.prog X.w) X.A (f v u) Q X.xe s₂) X.xe s₁) X.xe s := by
 refine thn (ha pins s σ H _ I h) fun v s1 ⟨x, H1, I1, r1, q1⟩ => ?_
 refine thn (hb pins s1 σ H1 _ I1 q1) fun u s2 ⟨y, H2, I2, r2, q2⟩ => ?_
 exact hf v u s2 x y H2 I2 r1 r2 q2
noncomputable def tVar (i : Nat) : TE := fun σ H Q => ∃ v, σ[i]? = some (some v) /\ Q v H
def tC (v : V) : TE := fun _ H Q => Q v H
theorem fV {i : Nat} {x : Str} {pos : Pos} (hN : X.N[i]? = some x) (hv : Vis X.env.scope x) (hd : (x == ("__debug__" : Str)) = false := by decide) (hcd : (x == ("__classdict__" : Str)) = false := by decide) : PE X (.Name x pos) (tVar i) := by
 intro pins s σ H Q I h
 obtain ⟨v, e, h⟩ := h
 obtain ⟨m, hn, hl⟩ := I.loc
 obtain ⟨u, r, l⟩ := hl i x v hN e hv
 have fin : EP X pins σ Q u s := ⟨v, H, I, r, h⟩
 rcases l with ⟨hk, hm⟩ | ⟨hk, c, hc, hcell⟩
 ·exact wpAny_Name (wpAny_loadName_local I.ok.kind hk hn hm fin) hd
 ·rcases hk with hk | hk
  ·exact wpAny_Name (wpAny_loadName_cell I.ok.kind hk hc hcell fin) hd
  ·exact wpAny_Name (wpAny_loadName_free I.ok.kind hk hc hcell fin hcd) hd
theorem gY {i j pos} : PE X (.Constant (.int i) j pos) (tC (.int i)) := fun _ _ _ H _ I h => wpAny_Constant_int ⟨.int i, H, I.tok _, ⟨_, rfl⟩, h⟩
theorem wB {b j pos} : PE X (.Constant (.bool b) j pos) (tC (.bl b)) := fun _ _ _ H _ I h => Constant_bool ⟨.bl b, H, I, rfl, h⟩
theorem pC {x j pos} : PE X (.Constant (.str x) j pos) (tC (.str x)) := fun _ _ _ H _ I h => Calls.Constant_str ⟨.str x, H, I.tok _, ⟨_, rfl⟩, h⟩
noncomputable def Gl (X : Cx) (x : Str) : Prop := X.env.kindOf x = some .globalImplicit
theorem jQ {E : zx} {pins : zw} {s : Shared} {σ : St} {H : Hp} {x : Str} {u : Value} {pos : Pos} {Q : zx} (I : Inv X pins σ H s) (hg : Gl X x) (hm : X.mg x = some u) (h : Q u s)
  (hd : (x == ("__debug__" : Str)) = false := by decide) : wpAny (model X.prog X.w) X.A (eval (.Name x pos) X.env) Q E s :=
 Calls.Name_function_global I.ok.kind hg (Calls.loadGlobal_global (by rw [I.ok.glob]; exact I.mod.glob.keeps I.bk) hm h) hd
theorem eO {E : zx} {pins : zw} {s : Shared} {σ : St} {H : Hp} {x : Str} {u : Value} {pos : Pos} {Q : zx} (I : Inv X pins σ H s) (hg : Gl X x) (hm : X.mg x = none) (hv : bootBuiltins x = some u) (h : Q u s)
  (hn : x ≠ "__name__" := by decide) (hd : (x == ("__debug__" : Str)) = false := by decide) : wpAny (model X.prog X.w) X.A (eval (.Name x pos) X.env) Q E s := by
 obtain ⟨mb, h1, h2⟩ := I.mod.blt
 exact Calls.Name_function_global I.ok.kind hg (Calls.loadGlobal_builtin (by rw [I.ok.glob]; exact I.mod.glob.keeps I.bk) hm (by rw [I.ok.blt]; exact h1.keeps I.bk) ((h2 x hn).trans hv) h) hd
theorem rG {x : Str} {v : V} {u : Value} {pos : Pos} (hg : Gl X x) (hm : X.mg x = some u) (r : RelV v u) (hd : (x == ("__debug__" : Str)) = false := by decide) : PE X (.Name x pos) (tC v) :=
 fun _ _ _ H _ I h => jQ I hg hm ⟨v, H, I, r, h⟩ hd
theorem rH {x : Str} {v : V} {u : Value} {pos : Pos} (hg : Gl X x) (hm : X.mg x = none) (hv : bootBuiltins x = some u) (r : RelV v u) (hn : x ≠ "__name__" := by decide) (hd : (x == ("__debug__" : Str)) = false := by decide) : PE X (.Name x pos) (tC v) :=
 fun _ _ _ H _ I h => eO I hg hm hv ⟨v, H, I, r, h⟩ hn hd
variable {a b : Expr} {ta tb : TE} {pos : Pos}
variable {tA tB' : TT} {rest : List Expr}
noncomputable def tAnd (t u : TT) : TT := fun σ H Q => t σ H fun c H1 => if c = true then u σ H1 Q else Q false H1
noncomputable def tOr (t u : TT) : TT := fun σ H Q => t σ H fun c H1 => if c = true then Q true H1 else u σ H1 Q
noncomputable def tNot (t : TT) : TT := fun σ H Q => t σ H fun c H1 => Q (!c) H1
theorem rJ (ha : PT X a tA) : PW X (.BoolOp .And [a] pos) tA := by
 intro wh pins s σ H Q I h
 refine isTrue_and (thn (ha pins s σ H Q I h) fun c s1 e => ?_)
 cases c with
 | true => exact isTrue_and_nil e
 | false => exact e
theorem uh (ha : PT X a tA) : PW X (.BoolOp .Or [a] pos) tA := by
 intro wh pins s σ H Q I h
 refine isTrue_or (thn (ha pins s σ H Q I h) fun c s1 e => ?_)
 cases c with
 | false => exact isTrue_or_nil e
 | true => exact e
theorem ui (ha : PT X a tA) (hb : PW X (.BoolOp .And (b :: rest) pos) tB') : PW X (.BoolOp .And (a :: b :: rest) pos) (tAnd tA tB') := by
 intro wh pins s σ H Q I h
 refine isTrue_and (thn (ha pins s σ H _ I h) fun c s1 ⟨H1, I1, q1⟩ => ?_)
 cases c with
 | true => exact hb wh pins s1 σ H1 Q I1 q1
 | false => exact ⟨H1, I1, q1⟩
theorem wC (ha : PT X a tA) (hb : PW X (.BoolOp .Or (b :: rest) pos) tB') : PW X (.BoolOp .Or (a :: b :: rest) pos) (tOr tA tB') := by
 intro wh pins s σ H Q I h
 refine isTrue_or (thn (ha pins s σ H _ I h) fun c s1 ⟨H1, I1, q1⟩ => ?_)
 cases c with
 | true => exact ⟨H1, I1, q1⟩
 | false => exact hb wh pins s1 σ H1 Q I1 q1
theorem uj (ha : PT X a tA) : PT X (.UnaryOp .Not a pos) (tNot tA) := by
 intro pins s σ H Q I h
 exact isTrue_not (ha pins s σ H (fun c H1 => Q (!c) H1) I h)
noncomputable def BO (ta tb : TE) : TE := fun σ H Q => ta σ H fun x H1 => ∃ c, x = .bl c /\ if c = true then tb σ H1 Q else Q (.bl false) H1
noncomputable def tOrV (ta tb : TE) : TE := fun σ H Q => ta σ H fun x H1 => ∃ c, x = .bl c /\ if c = true then Q (.bl true) H1 else tb σ H1 Q
noncomputable def BP (ta : TE) : TE := fun σ H Q => ta σ H fun x H1 => ∃ c, x = .bl c /\ Q (.bl (!c)) H1
theorem uk {op} {t : TE} (h : PE X a t) : PE X (.BoolOp op [a] pos) t := fun pins s σ H Q I hw => BoolOp_one (h pins s σ H Q I hw)
theorem um (ha : PE X a ta) (hb : PE X (.BoolOp .And (b :: rest) pos) tb) : PE X (.BoolOp .And (a :: b :: rest) pos) (BO ta tb) := by
 intro pins s σ H Q I h
 refine BoolOp_and (thn (ha pins s σ H _ I h) fun v s1 ⟨x, H1, I1, r1, q1⟩ => ?_)
 obtain ⟨c, rfl, q1⟩ := q1
 cases r1
 refine wpAny_truthy_bool ?_
 cases c with
 | true => exact hb pins s1 σ H1 Q I1 q1
 | false => exact ⟨.bl false, H1, I1, rfl, q1⟩
theorem wD (ha : PE X a ta) (hb : PE X (.BoolOp .Or (b :: rest) pos) tb) : PE X (.BoolOp .Or (a :: b :: rest) pos) (tOrV ta tb) := by
 intro pins s σ H Q I h
 refine BoolOp_or (thn (ha pins s σ H _ I h) fun v s1 ⟨x, H1, I1, r1, q1⟩ => ?_)
 obtain ⟨c, rfl, q1⟩ := q1
 cases r1
 refine wpAny_truthy_bool ?_
 cases c with
 | false => exact hb pins s1 σ H1 Q I1 q1
 | true => exact ⟨.bl true, H1, I1, rfl, q1⟩
theorem uo (ha : PE X a ta) : PE X (.UnaryOp .Not a pos) (BP ta) := by
 intro pins s σ H Q I h
 refine UnaryOp_ (thn (ha pins s σ H _ I h) fun v s1 ⟨x, H1, I1, r1, q1⟩ => ?_)
 obtain ⟨c, rfl, q1⟩ := q1
 cases r1
 exact not_of (wpAny_truthy_bool ⟨.bl (!c), H1, I1, rfl, q1⟩)
end
noncomputable def SqL (K : W.Frag) (H : Hp) (a : Addr) (xs : List V) : Prop :=
 Rd H a (.lst xs) \/
  ∃ (o : Obj) (its : Array Value) (n : Nat), K.lookup a = some o /\ o.cls = .type "list" /\ o.dict = none /\ o.data = .seq its n /\ its.size <= sizeLine /\ Vals xs its.toList
noncomputable def SqT (K : W.Frag) (H : Hp) (a : Addr) (xs : List V) : Prop :=
 Rd H a (.tup xs) \/
  ∃ (o : Obj) (its : Array Value) (n : Nat), K.lookup a = some o /\ o.cls = .type "tuple" /\ o.data = .seq its n /\ its.size <= sizeLine /\ Vals xs its.toList
noncomputable def SqR (K : W.Frag) (H : Hp) (a : Addr) (xs : List V) : Prop :=
 Rd H a (.lst xs) \/ ∃ (its : Array Value) (n : Nat), K.lookup a = some { cls := .type "list", data := .seq its n } /\ its.size <= sizeLine /\ Vals xs its.toList
noncomputable def absV : Value -> Option V
 | .none => some .non
 | .bool b => some (.bl b)
 | .int i _ => some (.int i)
 | .str x _ => some (.str x)
 | .bytes b _ => some (.byt b)
 | .float b _ => some (.flt b)
 | .ref a => some (.ref a)
 | .type n => some (.ty n)
 | _ => none
theorem RelV.abs {x : V} {u : Value} (r : RelV x u) : absV u = some x := by
 cases x with
 | non => cases r; rfl
 | bl _ => cases r; rfl
 | int _ => obtain ⟨t, rfl⟩ := r; rfl
 | str _ => obtain ⟨t, rfl⟩ := r; rfl
 | byt _ => obtain ⟨t, rfl⟩ := r; rfl
 | flt _ => obtain ⟨t, rfl⟩ := r; rfl
 | ref _ => cases r; rfl
 | ty _ => cases r; rfl
theorem RelV.inj {x y : V} {u : Value} (r : RelV x u) (q : RelV y u) : x = y := Option.some.inj (r.abs.symm.trans q.abs)
theorem Vals.inj : ∀ {xs ys : List V} {us : List Value}, Vals xs us -> Vals ys us -> xs = ys
 | _, _, _, .nil, .nil => rfl
 | _, _, _, .cons r t, .cons r' t' => by rw [r.inj r', Vals.inj t t']
section
variable {X : Cx} {pins : zw} {σ : St} {H : Hp} {s : Shared} {a : Addr} {xs ys : List V}
theorem SqL.of {K : W.Frag} (h : H a = some (.lst xs)) : SqL K H a xs := .inl (.inl h)
theorem SqT.of {K : W.Frag} (h : H a = some (.tup xs)) : SqT K H a xs := .inl (.inl h)
theorem Inv.list (I : Inv X pins σ H s) (h : SqL X.K H a xs) : ∃ its : List Value, Vals xs its /\ PlainL s.heap a its.toArray /\ xs.length <= sizeLine := by
 rcases h with h | ⟨o, its, n, hk, hc, hd, hs, hz, r⟩
 ·obtain ⟨z, its, n, r, e⟩ := h.ok I.hok
  exact ⟨its, r, ⟨_, n, e, rfl, rfl, rfl⟩, z⟩
 ·refine ⟨its.toList, r, ⟨o, n, I.kIn a o hk, hc, hd, by simpa using hs⟩, ?_⟩
  have e := r.length
  simp only [Array.length_toList] at e
  lia
theorem Inv.tuple (I : Inv X pins σ H s) (h : SqT X.K H a xs) : ∃ its : List Value, Vals xs its /\ IsTup s.heap a its.toArray /\ xs.length <= sizeLine := by
 rcases h with h | ⟨o, its, n, hk, hc, hs, hz, r⟩
 ·obtain ⟨z, its, r, p⟩ := h.ok I.hok
  exact ⟨its, r, p, z⟩
 ·refine ⟨its.toList, r, ⟨o, I.kIn a o hk, hc, n, by simpa using hs⟩, ?_⟩
  have e := r.length
  simp only [Array.length_toList] at e
  lia
theorem Inv.list_inj (I : Inv X pins σ H s) (h : SqL X.K H a xs) (h' : SqL X.K H a ys) : xs = ys := by
 obtain ⟨its, r, ⟨o, n, e, _, _, d⟩, _⟩ := I.list h
 obtain ⟨its', r', ⟨o', n', e', _, _, d'⟩, _⟩ := I.list h'
 rw [e] at e'; cases e'
 rw [d] at d'
 injection d' with d1 _
 have : its = its' := by simpa using congrArg Array.toList d1
 subst this
 exact r.inj r'
theorem Inv.tuple_inj (I : Inv X pins σ H s) (h : SqT X.K H a xs) (h' : SqT X.K H a ys) : xs = ys := by
 obtain ⟨its, r, ⟨o, e, _, n, d⟩, _⟩ := I.tuple h
 obtain ⟨its', r', ⟨o', e', _, n', d'⟩, _⟩ := I.tuple h'
 rw [e] at e'; cases e'
 rw [d] at d'
 injection d' with d1 _
 have : its = its' := by simpa using congrArg Array.toList d1
 subst this
 exact r.inj r'
end
section
variable {X : Cx} {pins : zw} {σ : St} {H : Hp} {s : Shared} {E : zx}
end
section
variable {X : Cx} {st : Stmt} {rest : List Stmt} {t u : TS} {e : Expr} {te : TE} {pos : Pos}
def Bc : TS := fun D σ H => D.nx σ H
noncomputable def tSeq (t u : TS) : TS := fun D σ H => t { D with nx := u D } σ H
theorem gM : PSs X [] Bc := fun _ _ σ H _ I h => wpAny_execs_nil ⟨σ, H, I, h⟩
theorem cC (h1 : PS X st t) (h2 : PSs X rest u) : PSs X (st :: rest) (tSeq t u) := by
 intro pins s σ H D I h
 refine wpAny_execs_cons (thn (h1 pins s σ H { D with nx := u D } I h) fun f s1 q => ?_)
 cases f with
 | next =>
  obtain ⟨σ', H', I', q⟩ := q
  exact h2 pins s1 σ' H' D I' q
 | ret v => exact q
 | brk => exact q
 | cont => exact q
theorem rK (h1 : PS X st t) : PSs X [st] t := by
 intro pins s σ H D I h
 refine wpAny_execs_cons (thn (h1 pins s σ H D I h) fun f s1 q => ?_)
 cases f with
 | next => exact wpAny_execs_nil q
 | ret v => exact q
 | brk => exact q
 | cont => exact q
theorem Inv.quiet {pins : zw} {σ : St} {H : Hp} {s : Shared} (I : Inv X pins σ H s) : interactive X.env = false := by simp [interactive, I.ok.kind]
noncomputable def Bh (te : TE) : TS := fun D σ H => te σ H fun _ H1 => D.nx σ H1
theorem gN (he : PE X e te) (hs : swapsWith e none pos.line X.env = pure false := by rfl) : PS X (.Expr e pos) (Bh te) := by
 intro pins s σ H D I h
 exact wpAny_Expr_any (thn (he pins s σ H _ I h) fun v s1 ⟨x, H1, I1, r1, q1⟩ => ⟨σ, H1, I1, q1⟩) I.quiet hs
def tRet (te : TE) : TS := fun D σ H => te σ H D.rt
theorem mn (he : PE X e te) : PS X (.Return (some e) pos) (tRet te) := by
 intro pins s σ H D I h
 exact wpAny_Return_some (thn (he pins s σ H _ I h) fun v s1 ⟨x, H1, I1, r1, q1⟩ => ⟨x, σ, H1, I1, r1, q1⟩)
noncomputable def tIfS (c : TT) (t u : TS) : TS := fun D σ H => c σ H fun b H1 => if b = true then t D σ H1 else u D σ H1
theorem tL {c : Expr} {a b : List Stmt} {tc : TT} (hc : PT X c tc) (ha : PSs X a t) (hb : PSs X b u) : PS X (.If c a b pos) (tIfS tc t u) := by
 intro pins s σ H D I h
 refine wpAny_If (thn (hc pins s σ H _ I h) fun d s1 ⟨H1, I1, q1⟩ => ?_)
 cases d with
 | true => exact ha pins s1 σ H1 D I1 q1
 | false => exact hb pins s1 σ H1 D I1 q1
end
abbrev TG := V -> St -> Hp -> (St -> Hp -> Prop) -> Prop
abbrev TGs := List V -> St -> Hp -> (St -> Hp -> Prop) -> Prop
noncomputable def PG (X : Cx) (target : Expr) (t : TG) : Prop :=
 ∀ (pins : zw) (s : Shared) (σ : St) (H : Hp) (v : V) (u : Value) (Q : St -> Hp -> Prop), Inv X pins σ H s -> RelV v u -> t v σ H Q ->
  wpAny (model X.prog X.w) X.A (assign target X.env u) (fun _ s' => ∃ σ' H', Inv X pins σ' H' s' /\ Q σ' H') X.xe s
noncomputable def PGs (X : Cx) (ts : List Expr) (t : TGs) : Prop :=
 ∀ (pins : zw) (s : Shared) (σ : St) (H : Hp) (vs : List V) (us : List Value) (Q : St -> Hp -> Prop), Inv X pins σ H s -> Vals vs us -> t vs σ H Q ->
  wpAny (model X.prog X.w) X.A (assignInOrder ((assignEach ts X.env).map (·.2)) us) (fun _ s' => ∃ σ' H', Inv X pins σ' H' s' /\ Q σ' H') X.xe s
abbrev TIp := V -> V -> Hp -> VK -> Prop
noncomputable def PIp (X : Cx) (op : Operator) (t : TIp) : Prop :=
 ∀ (pins : zw) (s : Shared) (σ : St) (H : Hp) (x y : V) (v u : Value) (Q : VK), Inv X pins σ H s -> RelV x v -> RelV y u -> t x y H Q ->
  wpAny (model X.prog X.w) X.A (inplaceOp op v u) (EP X pins σ Q) X.xe s
section
variable {X : Cx} {pos : Pos}
noncomputable def Ad (i : Nat) : TG := fun v σ H Q => Q (σ.set i (some v)) H
theorem fq {i : Nat} {x : Str} (hN : X.N.Nodup) (hi : X.N[i]? = some x) (hx : Loc X.env.scope x) (hf : X.fn x = true \/ X.env.scope.names.lookup x = some .local := by first | exact .inl rfl | exact .inr rfl | assumption) : PG X (.Name x pos) (Ad i) := by
 intro pins s σ H v u Q I r h
 exact wpAny_assign_Name (gX I hN hi hx r (fun s' I' => ⟨_, H, I', h⟩) hf)
def gNil : TGs := fun vs σ H Q => vs = [] /\ Q σ H
noncomputable def BB (t : TG) (u : TGs) : TGs := fun vs σ H Q => ∃ v r, vs = v :: r /\ t v σ H fun σ' H' => u r σ' H' Q
theorem rL : PGs X [] gNil := by
 intro pins s σ H vs us Q I r h
 obtain ⟨e, h⟩ := h
 subst e
 cases r
 exact assignInOrder_nil ⟨σ, H, I, h⟩
theorem kP {e : Expr} {es : List Expr} {t : TG} {u : TGs} (h1 : PG X e t) (h2 : PGs X es u)
  (hs : (assignEach (e :: es) X.env).map (·.2) = assign e X.env :: (assignEach es X.env).map (·.2) := by rfl) : PGs X (e :: es) (BB t u) := by
 intro pins s σ H vs us Q I r h
 obtain ⟨v, vr, e1, h⟩ := h
 subst e1
 cases r with
 | cons r rr =>
  rw [hs]
  refine assignInOrder_cons (thn (h1 pins s σ H _ _ _ I r h) fun _ s1 ⟨σ1, H1, I1, q1⟩ => ?_)
  exact h2 pins s1 σ1 H1 _ _ Q I1 rr q1
noncomputable def gTup (K : W.Frag) (n : Nat) (t : TGs) : TG := fun v σ H Q => ∃ a xs, v = .ref a /\ SqT K H a xs /\ xs.length = n /\ t xs σ H Q
theorem uq {es : List Expr} {k : Nat} {t : TGs} {n : Nat} (hc : X.calm = true) (h : PGs X es t)
  (hn : (assignEach es X.env).length = n := by rfl) (hst : (assignEach es X.env).findIdx? (·.1) = none := by rfl) : PG X (.Tuple es k pos) (gTup X.K n t) := by
 intro pins s σ H v u Q I r hw
 obtain ⟨a, xs, e1, hq, hl, hw⟩ := hw
 subst e1
 cases r
 obtain ⟨its, rv, ht, hz⟩ := I.tuple hq
 refine assign_Tuple_tuple (I.ok.hd hc) ht (by simp [hn, <- hl, rv.length]) hst fun h' hx => ?_
 have I1 : Inv X pins σ H { s with heap := h' } := I.kept (t' := s.toks) fun b o e => hx b o (Nat.ne_of_lt (Heap.lt_size e)) e
 exact h pins _ σ H xs _ Q I1 (by simpa using rv) hw
noncomputable def tAsg (te : TE) (g : TG) : TS := fun D σ H => te σ H fun x H1 => g x σ H1 D.nx
theorem ur {i : Nat} {x : Str} {e : Expr} {te : TE} {pos' : Pos} (hN : X.N.Nodup) (hi : X.N[i]? = some x) (hx : Loc X.env.scope x) (he : PE X e te) (hs : swapsWith e (some (.Name x pos')) pos.line X.env = pure false := by rfl) (hf : X.fn x = true \/ X.env.scope.names.lookup x = some .local := by first | exact .inl rfl | exact .inr rfl | assumption) :
  PS X (.Assign [.Name x pos'] e pos) (tAsg te (Ad i)) := by
 intro pins s σ H D I h
 refine wpAny_Assign_Name (thn (he pins s σ H _ I h) fun v s1 ⟨y, H1, I1, r1, q1⟩ => ?_) hs
 exact gX I1 hN hi hx r1 (fun s2 I2 => ⟨_, H1, I2, q1⟩) hf
noncomputable def tAug (i : Nat) (te : TE) (ti : TIp) : TS := fun D σ H => ∃ x, σ[i]? = some (some x) /\ te σ H fun y H1 => ti x y H1 fun z H2 => D.nx (σ.set i (some z)) H2
theorem uu {i : Nat} {x : Str} {e : Expr} {te : TE} {op : Operator} {ti : TIp} {pos' : Pos} (hN : X.N.Nodup) (hi : X.N[i]? = some x) (hx : Loc X.env.scope x) (he : PE X e te) (ho : PIp X op ti) (hf : X.fn x = true \/ X.env.scope.names.lookup x = some .local := by first | exact .inl rfl | exact .inr rfl | assumption) :
  PS X (.AugAssign (.Name x pos') op e pos) (tAug i te ti) := by
 intro pins s σ H D I h
 obtain ⟨v, e1, h⟩ := h
 obtain ⟨m, hn, hl⟩ := I.loc
 have vis : Vis X.env.scope x := by rcases hx with k | k; exact .inl k; exact .inr (.inl k)
 obtain ⟨u, r, l⟩ := hl i x v hi e1 vis
 refine wpAny_AugAssign_Name ?_
 have go : wpAny (model X.prog X.w) X.A (eval e X.env) (fun w s₂ => wpAny (model X.prog X.w) X.A (inplaceOp op u w) (fun r s₃ => wpAny (model X.prog X.w) X.A (storeName X.env x r) (fun _ => SP X pins D .next) X.xe s₃) X.xe s₂) X.xe s := by
  refine thn (he pins s σ H _ I h) fun w s1 ⟨y, H1, I1, r1, q1⟩ => ?_
  refine thn (ho pins s1 σ H1 v y u w _ I1 r r1 q1) fun z s2 ⟨zv, H2, I2, r2, q2⟩ => ?_
  exact gX I2 hN hi hx r2 (fun s3 I3 => ⟨_, H2, I3, q2⟩) hf
 rcases l with ⟨hk, hm⟩ | ⟨hk, c, hc, hcell⟩
 ·exact wpAny_loadName_local I.ok.kind hk hn hm go
 ·rcases hk with hk | hk
  ·exact wpAny_loadName_cell I.ok.kind hk hc hcell go
  ·rcases hx with k | k
   ·have : X.env.scope.names.lookup x = some .free := hk
    rw [k] at this; cases this
   ·have : X.env.scope.names.lookup x = some .free := hk
    rw [k] at this; cases this
noncomputable def ipI (f : Int -> Int -> Int) : TIp := fun x y H Q => ∃ i j, x = .int i /\ y = .int j /\ Q (.int (f i j)) H
theorem uw : PIp X .Add (ipI fun i j => i + j) := by
 intro pins s σ H x y v u Q I r1 r2 h
 obtain ⟨i, j, e1, e2, q⟩ := h
 subst e1; subst e2
 obtain ⟨t, rfl⟩ := r1
 obtain ⟨t', rfl⟩ := r2
 exact iadd_int ⟨.int _, H, I.tok _, ⟨_, rfl⟩, q⟩
end
section
variable {X : Cx} {pos : Pos}
noncomputable def Bu (c : TT) (tb : TS) : TS := fun D σ H => ∃ W : Nat -> St -> Hp -> Prop, (∃ m, W m σ H) /\ ∀ m σ H, W m σ H ->
 c σ H fun b H1 => if b = true then ∃ N : St -> Hp -> Prop, (∀ σ' H', N σ' H' -> ∃ m', m' < m /\ W m' σ' H') /\ tb { D with nx := N, ct := N, bk := D.nx } σ H1 else D.nx σ H1
theorem pE {c : Expr} {body : List Stmt} {tc : TT} {tb : TS} (hp : PassesOwn (model X.prog X.w) X.A X.env X.xe) (hc : PT X c tc) (hb : PSs X body tb) : PS X (.While c body [] pos) (Bu tc tb) := by
 intro pins s σ H D I h
 obtain ⟨W, ⟨m0, w0⟩, turn⟩ := h
 refine wpAny_While (codeAny_whileLoop (fun n s' => ∃ σ' H', Inv X pins σ' H' s' /\ W n σ' H') ?_ m0 ⟨σ, H, I, w0⟩)
 rintro n s1 ⟨σ1, H1, I1, w1⟩
 refine wpAny_passesOwn hp (thn (hc pins s1 σ1 H1 _ I1 (turn n σ1 H1 w1)) fun b s2 ⟨H2, I2, q2⟩ => ?_)
 cases b with
 | true =>
  obtain ⟨N, hN, q2⟩ := q2
  rw [if_pos rfl]
  refine wpAny_passesOwn hp (thn (hb pins s2 σ1 H2 _ I2 q2) fun f s3 q3 => ?_)
  cases f with
  | next =>
   obtain ⟨σ3, H3, I3, n3⟩ := q3
   obtain ⟨m', hm, w3⟩ := hN σ3 H3 n3
   exact ⟨m', hm, σ3, H3, I3, w3⟩
  | cont =>
   obtain ⟨σ3, H3, I3, n3⟩ := q3
   obtain ⟨m', hm, w3⟩ := hN σ3 H3 n3
   exact ⟨m', hm, σ3, H3, I3, w3⟩
  | brk => exact q3
  | ret v => exact q3
 | false =>
  rw [if_neg Bool.false_ne_true]
  exact wpAny_execs_nil ⟨σ1, H2, I2, q2⟩
end
structure It where
 go : Nat -> Hp -> Prop
 yld : Nat -> Hp -> V -> Hp -> Prop
 stop : Nat -> Hp -> Prop
noncomputable def FpOk (X : Cx) (pins : zw) (H : Hp) (b : Addr) : Prop :=
 H b = none /\ b ≠ X.env.locals /\ b ∉ X.fs /\ (b ∈ X.ex \/ X.s₀.heap.objs.size <= b) /\ (∀ x c, X.env.cells.lookup x = some c -> c ≠ b) /\ ∀ p ∈ X.pn ++ pins, p.1 ≠ b
theorem Inv.fpOk {X : Cx} {pins : zw} {σ : St} {H H' : Hp} {s : Shared} {b : Addr} (I : Inv X pins σ H s) (hb : s.heap.objs.size <= b) (hn : H' b = none) : FpOk X pins H' b := by
 refine ⟨hn, Nat.ne_of_gt (Nat.lt_of_lt_of_le I.lt hb), I.nofs hb, .inr (Nat.le_trans I.sz hb), fun x c e z => ?_, fun p hp z => ?_⟩
 ·obtain ⟨v, q⟩ := I.cell x c e
  exact absurd (Nat.lt_of_lt_of_le q.lt (by rw [z]; exact hb)) (Nat.lt_irrefl _)
 ·exact absurd (Nat.lt_of_lt_of_le (Heap.lt_size (I.pin p hp).1) (by rw [z]; exact hb)) (Nat.lt_irrefl _)
structure Turn (P : Program) (w : World) (K : W.Frag) (tg : Expr) (J : It) (fp : List Addr) (it : Addr) (tn : Nat -> Heap -> Prop) : Prop where
 mem : it ∈ fp
 obj : ∀ i h, tn i h -> ∀ b ∈ fp, ∃ o, h.get? b = some o /\ ∀ v, o.data ≠ .cell v
 keep : ∀ i h h', tn i h -> (∀ b ∈ fp, ∀ o, h.get? b = some o -> h'.get? b = some o) -> tn i h'
 item : ∀ (X : Cx), X.prog = P -> X.w = w -> X.K = K -> X.calm = true -> ∀ (i : Nat) (pins : zw) (s : Shared) (σ : St) (H : Hp) (E : zx), Inv X pins σ H s -> (∀ b ∈ fp, FpOk X pins H b) -> tn i s.heap -> J.go i H ->
  wpAny (model P w) X.A (pyNext (.ref it)) (fun r s1 => ∃ u, r = some u /\
   wpAny (model P w) X.A (letOwnedTupleGo tg (.ref it) u) (fun _ s2 => ∃ x H', Inv X pins σ H' s2 /\ RelV x u /\ J.yld i H x H' /\ tn (i + 1) s2.heap /\ ∀ b ∈ fp, H' b = none) E s1) E s
 done : ∀ (X : Cx), X.prog = P -> X.w = w -> X.K = K -> X.calm = true -> ∀ (i : Nat) (pins : zw) (s : Shared) (σ : St) (H : Hp) (E : zx), Inv X pins σ H s -> (∀ b ∈ fp, FpOk X pins H b) -> tn i s.heap -> J.stop i H ->
  wpAny (model P w) X.A (pyNext (.ref it)) (fun r s1 => r = none /\ Inv X pins σ H s1) E s
 self : ∀ (A : Around) (i : Nat) (s : Shared) (Q : zx) (E : zx), tn i s.heap -> Q (.ref it) s -> wpAny (model P w) A (pyIter (.ref it)) Q E s
abbrev TI := St -> Hp -> (It -> Hp -> Prop) -> Prop
noncomputable def PIE (X : Cx) (pins : zw) (σ : St) (tg : Expr) (R : It -> Hp -> Prop) (itv : Value) (s2 : Shared) : Prop :=
 ∃ (it : Addr) (fp : List Addr) (tn : Nat -> Heap -> Prop) (J : It) (H' : Hp), itv = .ref it /\ Inv X pins σ H' s2 /\ Turn X.prog X.w X.K tg J fp it tn /\ tn 0 s2.heap /\ (∀ b ∈ fp, FpOk X pins H' b) /\ R J H'
noncomputable def PI (X : Cx) (tg iter : Expr) (wi : TI) : Prop :=
 ∀ (pins : zw) (s : Shared) (σ : St) (H : Hp) (R : It -> Hp -> Prop), Inv X pins σ H s -> wi σ H R ->
  wpAny (model X.prog X.w) X.A (eval iter X.env) (fun v s1 => wpAny (model X.prog X.w) X.A (pyIter v) (PIE X pins σ tg R) X.xe s1) X.xe s
theorem pF {M : Model} {A : Around} {E : zx} {s : Shared} {tg : Expr} {it : Addr} {u : Value} {o : Obj} {n : String} {vs : Array Value} {Q : Unit -> Shared -> Prop} (ho : s.heap.get? it = some o) (hc : o.cls = .type n) (hd : o.data = .fields vs)
    (hn : ["enumerate", "zip", "dict_itemiterator", "dict_reverseitemiterator", "odict_iterator", "itertools.zip_longest", "itertools.pairwise"].contains n = false) (hQ : Q () s) : wpAny M A (letOwnedTupleGo tg (.ref it) u) Q E s := by
  unfold letOwnedTupleGo
  cases tg <;> first
    | exact wpAny_pure hQ
    | (cases u <;> first
        | exact wpAny_pure hQ
        | (refine wpAny_bind (wpAny_load ho ?_)
           rw [hc, hd]
           show wpAny M A (if (["enumerate", "zip", "dict_itemiterator", "dict_reverseitemiterator", "odict_iterator", "itertools.zip_longest", "itertools.pairwise"].contains n && vs[0]? == some (rawInt _)) = true then _ else _) Q E s
           rw [if_neg (by intro h; rw [hn, Bool.false_and] at h; cases h)]
           exact wpAny_pure hQ))
noncomputable def Itl (K : W.Frag) (a : Addr) : It :=
 ⟨fun i H => ∃ xs x, SqL K H a xs /\ xs[i]? = some x, fun i H x H' => H' = H /\ ∀ xs, SqL K H a xs -> xs[i]? = some x, fun i H => ∃ xs, SqL K H a xs /\ xs.length <= i⟩
noncomputable def Itt (K : W.Frag) (a : Addr) : It :=
 ⟨fun i H => ∃ xs x, SqT K H a xs /\ xs[i]? = some x, fun i H x H' => H' = H /\ ∀ xs, SqT K H a xs -> xs[i]? = some x, fun i H => ∃ xs, SqT K H a xs /\ xs.length <= i⟩
noncomputable def Itr (lo : Int) (n : Nat) : It := ⟨fun i _ => i < n, fun i H x H' => H' = H /\ x = .int (lo + i), fun i _ => n <= i⟩
theorem oq {P : Program} {w : World} {K : W.Frag} {tg : Expr} (a it : Addr) : Turn P w K tg (Itl K a) [it] it (fun i h => h.IsListIter it a i) where
 mem := by simp
 obj := fun i h st b hb => by
  have e : b = it := by simpa using hb
  subst e
  obtain ⟨o, e, c, d⟩ := st
  exact ⟨o, e, fun v z => by rw [d] at z; cases z⟩
 keep := fun i h h' st k => st.at fun o e => k it (by simp) o e
 item := by
  intro X hP hw hK hc i pins s σ H E I hf st hg
  subst hP hw hK
  obtain ⟨xs, x, hq, hx⟩ := hg
  obtain ⟨its, rv, p, hz⟩ := I.list hq
  obtain ⟨u, hu, ru⟩ := rv.get hx
  obtain ⟨f0, f1, f2, f3, f4, f5⟩ := hf it (by simp)
  refine wpAny_pyNext_list_item st p.isList (x := u) (by simpa using hu) fun h' st' sb => ?_
  have I1 : Inv X pins σ H { s with heap := h' } := I.turned (t' := s.toks) (fun b o hb e => (sb.2 b hb).trans e) f0 f1 f3 f4 f5
  obtain ⟨o, e, c, d⟩ := id st'
  exact ⟨u, rfl, pF (s := { s with heap := h' }) e c d (by decide) ⟨x, H, I1, ru, ⟨rfl, fun ys hy => by rw [I.list_inj hy hq]; exact hx⟩, st', fun b hb => (hf b hb).1⟩⟩
 done := by
  intro X hP hw hK hc i pins s σ H E I hf st hg
  subst hP hw hK
  obtain ⟨xs, hq, hx⟩ := hg
  obtain ⟨its, rv, p, hz⟩ := I.list hq
  obtain ⟨f0, f1, f2, f3, f4, f5⟩ := hf it (by simp)
  have hl := rv.length
  exact wpAny_pyNext_list_end (I.ok.hd hc) st p.isList (by simp; lia) fun h' eb => ⟨rfl, I.turned (t' := s.toks) (fun b o hb e => eb b o hb e) f0 f1 f3 f4 f5⟩
 self := fun _ _ _ _ _ st h => wpAny_pyIter_listiter st h
theorem mq {P : Program} {w : World} {K : W.Frag} {tg : Expr} (a it : Addr) : Turn P w K tg (Itt K a) [it] it (fun i h => h.IsTupleIter it a i) where
 mem := by simp
 obj := fun i h st b hb => by
  have e : b = it := by simpa using hb
  subst e
  obtain ⟨o, e, c, d⟩ := st
  exact ⟨o, e, fun v z => by rw [d] at z; cases z⟩
 keep := fun i h h' st k => st.at fun o e => k it (by simp) o e
 item := by
  intro X hP hw hK hc i pins s σ H E I hf st hg
  subst hP hw hK
  obtain ⟨xs, x, hq, hx⟩ := hg
  obtain ⟨its, rv, p, hz⟩ := I.tuple hq
  obtain ⟨u, hu, ru⟩ := rv.get hx
  obtain ⟨f0, f1, f2, f3, f4, f5⟩ := hf it (by simp)
  refine wpAny_pyNext_tuple_item st (show s.heap.IsTuple a its.toArray from p) (x := u) (by simpa using hu) fun h' st' sb => ?_
  have I1 : Inv X pins σ H { s with heap := h' } := I.turned (t' := s.toks) (fun b o hb e => (sb.2 b hb).trans e) f0 f1 f3 f4 f5
  obtain ⟨o, e, c, d⟩ := id st'
  exact ⟨u, rfl, pF (s := { s with heap := h' }) e c d (by decide) ⟨x, H, I1, ru, ⟨rfl, fun ys hy => by rw [I.tuple_inj hy hq]; exact hx⟩, st', fun b hb => (hf b hb).1⟩⟩
 done := by
  intro X hP hw hK hc i pins s σ H E I hf st hg
  subst hP hw hK
  obtain ⟨xs, hq, hx⟩ := hg
  obtain ⟨its, rv, p, hz⟩ := I.tuple hq
  obtain ⟨f0, f1, f2, f3, f4, f5⟩ := hf it (by simp)
  have hl := rv.length
  exact wpAny_pyNext_tuple_end (I.ok.hd hc) st (show s.heap.IsTuple a its.toArray from p) (by simp; lia) fun h' eb => ⟨rfl, I.turned (t' := s.toks) (fun b o hb e => eb b o hb e) f0 f1 f3 f4 f5⟩
 self := fun _ _ _ _ _ st h => wpAny_pyIter_tupleiter st h
theorem mr {P : Program} {w : World} {K : W.Frag} {tg : Expr} (it : Addr) (lo : Int) (n : Nat) : Turn P w K tg (Itr lo n) [it] it (fun i h => IsRangeIter h it (lo + (i : Nat) * 1) ((n : Int) - (i : Nat)) 1) where
 mem := by simp
 obj := fun i h st b hb => by
  have e : b = it := by simpa using hb
  subst e
  exact ⟨_, st, fun v z => by
   have z' : Data.fields _ = Data.cell v := z
   cases z'⟩
 keep := fun i h h' st k => k it (by simp) _ st
 item := by
  intro X hP hw hK hc i pins s σ H E I hf st hg
  subst hP hw hK
  obtain ⟨f0, f1, f2, f3, f4, f5⟩ := hf it (by simp)
  have W := Walks.range (prog := X.prog) (w := X.w) (I.ok.hd hc) it lo 1 n
  refine W.item i s _ _ hg st fun v h' tk hv st' kk => ?_
  obtain ⟨t, rfl⟩ := hv
  have I1 : Inv X pins σ H { s with heap := h', toks := tk } := I.turned (fun b o hb e => kk b o (by simpa using hb) e) f0 f1 f3 f4 f5
  refine ⟨_, rfl, pF (s := { s with heap := h', toks := tk }) (n := "range_iterator") st' rfl rfl (by decide) ⟨.int (lo + i), H, I1, ⟨t, ?_⟩, ⟨rfl, rfl⟩, st', fun b hb => (hf b hb).1⟩⟩
  rw [Int.mul_one]
 done := by
  intro X hP hw hK hc i pins s σ H E I hf st hg
  subst hP hw hK
  obtain ⟨f0, f1, f2, f3, f4, f5⟩ := hf it (by simp)
  exact wpAny_pyNext_range_end (I.ok.hd hc) st (by have : n <= i := hg; lia) fun h' eb => ⟨rfl, I.turned (t' := s.toks) (fun b o hb e => eb b o hb e) f0 f1 f3 f4 f5⟩
 self := fun _ _ _ _ _ st h => wpAny_pyIter_rangeiter st h
section
variable {X : Cx} {tg : Expr}
theorem pG {pins : zw} {σ : St} {H : Hp} {s : Shared} {R : It -> Hp -> Prop} {E : zx} {lo hi : Int} {t u v : Tok} {tk : Nat} (I : Inv X pins σ H s) (h1 : -(2 ^ 62) <= lo) (h2 : lo < 2 ^ 62) (h3 : -(2 ^ 62) <= hi) (h4 : hi < 2 ^ 62)
  (q : R (Itr lo (hi - lo).toNat) H) : wpAny (model X.prog X.w) X.A (pyIter (.ref s.heap.objs.size)) (PIE X pins σ tg R) E { s with heap := s.heap.push { cls := .type "range", data := .fields #[.int lo t, .int hi u, .int 1 v] }, toks := tk } := by
 refine wpAny_pyIter_range (IsRange.new ..) (small_one h1 h2 h3 h4) ?_
 have I1 : Inv X pins σ H { s with heap := s.heap.push { cls := .type "range", data := .fields #[.int lo t, .int hi u, .int 1 v] }, toks := tk } := I.kept fun b o e => Heap.get?_push_of_some _ e
 refine ⟨(s.heap.push { cls := .type "range", data := .fields #[.int lo t, .int hi u, .int 1 v] }).objs.size, [(s.heap.push { cls := .type "range", data := .fields #[.int lo t, .int hi u, .int 1 v] }).objs.size], _, _, H, rfl,
  I1.kept (t' := tk) fun b o e => Heap.get?_push_of_some _ e, mr _ lo (hi - lo).toNat, ?_, fun b hb => ?_, q⟩
 ·have e1 : lo + ((0 : Nat) : Int) * 1 = lo := by simp
  have e2 : (((hi - lo).toNat : Nat) : Int) - ((0 : Nat) : Int) = Builtin.Range.rangeSize lo hi 1 := by rw [rangeSize_one]; split <;> lia
  show IsRangeIter _ _ (lo + ((0 : Nat) : Int) * 1) ((((hi - lo).toNat : Nat) : Int) - ((0 : Nat) : Int)) 1
  rw [e1, e2]
  exact Heap.get?_push_size _ rfl
 ·have e : b = (s.heap.push { cls := .type "range", data := .fields #[.int lo t, .int hi u, .int 1 v] }).objs.size := by simpa using hb
  subst e
  exact I1.fpOk (Nat.le_refl _) (I1.hok.fresh (Nat.le_refl _))
noncomputable def BQ (ta : TA) : TI := fun σ H R => ta σ H fun vs H1 => ∃ j : Int, vs = [.int j] /\ -(2 ^ 62) <= j /\ j < 2 ^ 62 /\ R (Itr 0 j.toNat) H1
theorem ou {a : Expr} {ta : TA} {p pos : Pos} (hg : Gl X "range") (hm : X.mg "range" = none) (ha : PA X [a] ta) (hs : starEach [a] X.env = [(false, eval a X.env)] := by rfl) : PI X tg (.Call (.Name "range" p) [a] [] pos) (BQ ta) := by
 intro pins s σ H R I h
 refine Call_ (eO I hg hm boot_range (callWith_type1 (thn (ha pos pins s σ H _ I h) fun us s1 ⟨vs, H1, I1, r1, q1⟩ => ?_) hs rfl))
 obtain ⟨j, e, q1, q2, q⟩ := q1
 subst e
 cases r1 with
 | cons r rr =>
  cases rr
  obtain ⟨t, rfl⟩ := r
  exact call_range_1 (pG I1 (by lia) (by lia) q1 q2 (by simpa using q))
noncomputable def tFor (wi : TI) (g : TG) (tb : TS) : TS := fun D σ H => wi σ H fun J H1 => ∃ W : Nat -> Nat -> St -> Hp -> Prop, (∃ m, W 0 m σ H1) /\ ∀ i m σ H, W i m σ H ->
 (J.stop i H /\ D.nx σ H) \/ (J.go i H /\ ∃ N : St -> Hp -> Prop, (∀ σ' H', N σ' H' -> ∃ m', m' < m /\ W (i + 1) m' σ' H') /\ ∀ x H', J.yld i H x H' -> g x σ H' fun σ2 H2 => tb { D with nx := N, ct := N, bk := D.nx } σ2 H2)
noncomputable def AB (fp : List Addr) (h : Heap) : zw := fp.filterMap fun b => (h.get? b).map fun o => (b, o)
theorem cP {fp : List Addr} {h : Heap} {b : Addr} {o : Obj} (hb : b ∈ fp) (e : h.get? b = some o) : (b, o) ∈ AB fp h := List.mem_filterMap.mpr ⟨b, hb, by rw [e]; rfl⟩
theorem ji {fp : List Addr} {h : Heap} {p : Addr × Obj} (hp : p ∈ AB fp h) : p.1 ∈ fp /\ h.get? p.1 = some p.2 := by
 obtain ⟨b, hb, e⟩ := List.mem_filterMap.mp hp
 cases q : h.get? b with
 | none => rw [q] at e; cases e
 | some o =>
  rw [q] at e
  have e' : (b, o) = p := Option.some.inj e
  subst e'
  exact ⟨hb, q⟩
theorem Inv.pinned {pins : zw} {σ : St} {H : Hp} {s : Shared} {fp : List Addr} (I : Inv X pins σ H s) (hf : ∀ b ∈ fp, FpOk X pins H b) (ho : ∀ b ∈ fp, ∃ o, s.heap.get? b = some o /\ ∀ v, o.data ≠ .cell v) : Inv X (pins ++ AB fp s.heap) σ H s :=
 I.pins_of fun p hp => (List.mem_append.mp hp).elim (fun z => I.pin p (List.mem_append_right _ z)) fun z => by
  obtain ⟨hb, e⟩ := ji z
  obtain ⟨f0, f1, f2, _⟩ := hf p.1 hb
  obtain ⟨o, e', d⟩ := ho p.1 hb
  rw [e] at e'; cases e'
  exact ⟨e, f0, f1, f2, d⟩
theorem Inv.unpinned {pins pl : zw} {σ : St} {H : Hp} {s : Shared} (I : Inv X (pins ++ pl) σ H s) : Inv X pins σ H s := I.pins_of fun p hp => I.pin p (List.mem_append_right _ (List.mem_append_left _ hp))
theorem ux {iter : Expr} {body : List Stmt} {wi : TI} {g : TG} {tb : TS} {pos : Pos} (hp : PassesOwn (model X.prog X.w) X.A X.env X.xe) (hc : X.calm = true) (hi : PI X tg iter wi) (hg : PG X tg g) (hb : PSs X body tb)
  (hs : ∀ x, foldedSetIterable iter X.env x = pure x := by intro _; rfl) : PS X (.For tg iter body [] pos) (tFor wi g tb) := by
 intro pins s σ H D I h
 refine wpAny_For (thn (hi pins s σ H _ I h) fun v s1 h1 => thn h1 fun itv s2 h2 => ?_) hs
 obtain ⟨it, fp, tn, J, H2, e, I2, T, st2, f2, W, ⟨m0, w0⟩, turn⟩ := h2
 subst e
 have stat : ∀ {H' : Hp}, (∀ b ∈ fp, H' b = none) -> ∀ b ∈ fp, FpOk X pins H' b := fun hn b hb => ⟨hn b hb, (f2 b hb).2⟩
 refine codeAny_forLoop_any (fun n s' => ∃ i σ' H', Inv X pins σ' H' s' /\ tn i s'.heap /\ (∀ b ∈ fp, H' b = none) /\ W i n σ' H') ?_ m0 ⟨0, σ, H2, I2, st2, fun b hb => (f2 b hb).1, w0⟩
 rintro n s3 ⟨i, σ3, H3, I3, st3, fr3, w3⟩
 rcases turn i n σ3 H3 w3 with ⟨stop, qn⟩ | ⟨go, N, hN, step⟩
 ·refine wpAny_passesOwn hp (thn (T.done X rfl rfl rfl hc i pins s3 σ3 H3 X.xe I3 (stat fr3) st3 stop) fun r s4 ⟨hr, I4⟩ => ?_)
  subst hr
  exact wpAny_execs_nil ⟨σ3, H3, I4, qn⟩
 ·refine wpAny_passesOwn hp (thn (T.item X rfl rfl rfl hc i pins s3 σ3 H3 X.xe I3 (stat fr3) st3 go) fun r s4 ⟨u, hr, h4⟩ => ?_)
  subst hr
  refine wpAny_passesOwn hp (thn h4 fun _ s5 ⟨x, H5, I5, r5, y5, st5, fr5⟩ => ?_)
  have I5' := I5.pinned (stat fr5) (T.obj _ _ st5)
  refine wpAny_passesOwn hp (thn (hg _ s5 σ3 H5 x u _ I5' r5 (step x H5 y5)) fun _ s6 ⟨σ6, H6, I6, q6⟩ => ?_)
  refine wpAny_passesOwn hp (thn (hb _ s6 σ6 H6 _ I6 q6) fun f s7 q7 => ?_)
  have again : ∀ {σ7 : St} {H7 : Hp}, Inv X (pins ++ AB fp s5.heap) σ7 H7 s7 -> N σ7 H7 -> ∃ m, m < n /\ ∃ i σ' H', Inv X pins σ' H' s7 /\ tn i s7.heap /\ (∀ b ∈ fp, H' b = none) /\ W i m σ' H' := fun {σ7 H7} I7 n7 => by
   obtain ⟨m', hm, w7⟩ := hN σ7 H7 n7
   refine ⟨m', hm, i + 1, σ7, H7, I7.unpinned, T.keep _ _ _ st5 fun b hb o e => (I7.pin (b, o) (List.mem_append_right _ (List.mem_append_right _ (cP hb e)))).1, fun b hb => ?_, w7⟩
   obtain ⟨o, e, d⟩ := T.obj _ _ st5 b hb
   exact (I7.pin (b, o) (List.mem_append_right _ (List.mem_append_right _ (cP hb e)))).2.1
  cases f with
  | next => obtain ⟨σ7, H7, I7, n7⟩ := q7; exact again I7 n7
  | cont => obtain ⟨σ7, H7, I7, n7⟩ := q7; exact again I7 n7
  | brk => obtain ⟨σ7, H7, I7, q7⟩ := q7; exact ⟨σ7, H7, I7.unpinned, q7⟩
  | ret v => obtain ⟨x7, σ7, H7, I7, r7, q7⟩ := q7; exact ⟨x7, σ7, H7, I7.unpinned, r7, q7⟩
end
abbrev R2 := V -> V -> Hp -> VK -> Prop
noncomputable def OpR (X : Cx) (f : Value -> Value -> Sem Value) (r : R2) : Prop :=
 ∀ (pins : zw) (s : Shared) (σ : St) (H : Hp) (x y : V) (v u : Value) (Q : VK), Inv X pins σ H s -> RelV x v -> RelV y u -> r x y H Q ->
  wpAny (model X.prog X.w) X.A (f v u) (EP X pins σ Q) X.xe s
noncomputable def UnR (X : Cx) (f : Value -> Sem Value) (r : V -> Hp -> VK -> Prop) : Prop :=
 ∀ (pins : zw) (s : Shared) (σ : St) (H : Hp) (x : V) (v : Value) (Q : VK), Inv X pins σ H s -> RelV x v -> r x H Q ->
  wpAny (model X.prog X.w) X.A (f v) (EP X pins σ Q) X.xe s
noncomputable def Ah (X : Cx) (f : Value) (r : List V -> Hp -> VK -> Prop) : Prop :=
 ∀ (pins : zw) (s : Shared) (σ : St) (H : Hp) (xs : List V) (us : List Value) (Q : VK), Inv X pins σ H s -> Vals xs us -> r xs H Q ->
  wpAny (model X.prog X.w) X.A (call f us) (EP X pins σ Q) X.xe s
noncomputable def TruR (X : Cx) (r : V -> Hp -> (Bool -> Hp -> Prop) -> Prop) : Prop :=
 ∀ (pins : zw) (s : Shared) (σ : St) (H : Hp) (x : V) (v : Value) (Q : Bool -> Hp -> Prop), Inv X pins σ H s -> RelV x v -> r x H Q ->
  wpAny (model X.prog X.w) X.A (truthy v) (TP X pins σ Q) X.xe s
noncomputable def tOp (r : R2) (ta tb : TE) : TE := fun σ H Q => ta σ H fun x H1 => tb σ H1 fun y H2 => r x y H2 Q
noncomputable def tUn (r : V -> Hp -> VK -> Prop) (ta : TE) : TE := fun σ H Q => ta σ H fun x H1 => r x H1 Q
noncomputable def rI (C : Int -> Int -> Prop) (g : Int -> Int -> V) : R2 := fun x y H Q => ∃ i j, x = .int i /\ y = .int j /\ C i j /\ Q (g i j) H
noncomputable def rI0 (g : Int -> Int -> V) : R2 := fun x y H Q => ∃ i j, x = .int i /\ y = .int j /\ Q (g i j) H
noncomputable def rU (g : Int -> V) : V -> Hp -> VK -> Prop := fun x H Q => ∃ i, x = .int i /\ Q (g i) H
section
variable {X : Cx} {a b c : Expr} {ta tb tc : TE} {pos : Pos}
theorem binT (ha : PE X a ta) (hb : PE X b tb) {pins : zw} {s : Shared} {σ : St} {H : Hp} {R : V -> V -> Hp -> Prop} (I : Inv X pins σ H s)
  (h : ta σ H fun x H1 => tb σ H1 fun y H2 => R x y H2) {Q : zx} {f : Value -> Value -> Sem Value}
  (hf : ∀ v u s2 x y H2, Inv X pins σ H2 s2 -> RelV x v -> RelV y u -> R x y H2 -> wpAny (model X.prog X.w) X.A (f v u) Q X.xe s2) :
  wpAny (model X.prog X.w) X.A (eval a X.env) (fun v s₁ => wpAny (model X.prog X.w) X.A (eval b X.env) (fun u s₂ => wpAny (model X.prog X.w) X.A (f v u) Q X.xe s₂) X.xe s₁) X.xe s := by
 refine thn (ha pins s σ H _ I h) fun v s1 ⟨x, H1, I1, r1, q1⟩ => ?_
 refine thn (hb pins s1 σ H1 _ I1 q1) fun u s2 ⟨y, H2, I2, r2, q2⟩ => ?_
 exact hf v u s2 x y H2 I2 r1 r2 q2
theorem tM {op : Operator} {r : R2} (ho : OpR X (binaryOp op) r) (ha : PE X a ta) (hb : PE X b tb) : PE X (.BinOp a op b pos) (tOp r ta tb) := by
 intro pins s σ H Q I h
 exact wpAny_BinOp (binT ha hb I h fun v u s2 x y H2 I2 rx ry q => ho pins s2 σ H2 x y v u Q I2 rx ry q)
theorem wF {op : UnaryOp} {r : V -> Hp -> VK -> Prop} (ho : UnR X (unaryOp op) r) (ha : PE X a ta) : PE X (.UnaryOp op a pos) (tUn r ta) := by
 intro pins s σ H Q I h
 exact UnaryOp_ (thn (ha pins s σ H _ I h) fun v s1 ⟨x, H1, I1, r1, q1⟩ => ho pins s1 σ H1 x v Q I1 r1 q1)
theorem opI {f : Value -> Value -> Sem Value} {C : Int -> Int -> Prop} {g : Int -> Int -> Int}
  (rule : ∀ (i j : Int) (t u : Tok) (s : Shared) (Q : zx) (E : zx), C i j -> Q (.int (g i j) s.toks) { s with toks := s.toks + 1 } -> wpAny (model X.prog X.w) X.A (f (.int i t) (.int j u)) Q E s) :
  OpR X f (rI C fun i j => .int (g i j)) := by
 intro pins s σ H x y v u Q I rx ry h
 obtain ⟨i, j, rfl, rfl, hc, q⟩ := h
 obtain ⟨t, rfl⟩ := rx
 obtain ⟨t', rfl⟩ := ry
 exact rule i j t t' s _ _ hc ⟨.int (g i j), H, I.tok _, ⟨_, rfl⟩, q⟩
theorem opI0 {f : Value -> Value -> Sem Value} {g : Int -> Int -> Int}
  (rule : ∀ (i j : Int) (t u : Tok) (s : Shared) (Q : zx) (E : zx), Q (.int (g i j) s.toks) { s with toks := s.toks + 1 } -> wpAny (model X.prog X.w) X.A (f (.int i t) (.int j u)) Q E s) :
  OpR X f (rI0 fun i j => .int (g i j)) := by
 intro pins s σ H x y v u Q I rx ry h
 obtain ⟨i, j, rfl, rfl, q⟩ := h
 obtain ⟨t, rfl⟩ := rx
 obtain ⟨t', rfl⟩ := ry
 exact rule i j t t' s _ _ ⟨.int (g i j), H, I.tok _, ⟨_, rfl⟩, q⟩
theorem opB0 {f : Value -> Value -> Sem Value} {g : Int -> Int -> Bool}
  (rule : ∀ (i j : Int) (t u : Tok) (s : Shared) (Q : zx) (E : zx), Q (.bool (g i j)) s -> wpAny (model X.prog X.w) X.A (f (.int i t) (.int j u)) Q E s) :
  OpR X f (rI0 fun i j => .bl (g i j)) := by
 intro pins s σ H x y v u Q I rx ry h
 obtain ⟨i, j, rfl, rfl, q⟩ := h
 obtain ⟨t, rfl⟩ := rx
 obtain ⟨t', rfl⟩ := ry
 exact rule i j t t' s _ _ ⟨.bl (g i j), H, I, rfl, q⟩
def CDiv (i j : Int) : Prop := 0 < j /\ j < 1073741824
noncomputable def CMul (i j : Int) : Prop := (-(2 ^ 64) < i /\ i < 2 ^ 64) \/ (-(2 ^ 64) < j /\ j < 2 ^ 64)
theorem CMul.ok {i j : Int} (h : CMul i j) : IntMulOk i j := by
 rcases h with ⟨h1, h2⟩ | ⟨h1, h2⟩
 ·exact .of_left (intBits_le_64 h1 h2)
 ·exact .of_right (intBits_le_64 h1 h2)
theorem pH : OpR X (binaryOp .Add) (rI0 fun i j => .int (i + j)) := opI0 fun _ _ _ _ _ _ _ q => add_int q
theorem uy : OpR X (binaryOp .Sub) (rI0 fun i j => .int (i - j)) := opI0 fun _ _ _ _ _ _ _ q => sub_int q
theorem uz : OpR X (binaryOp .Mult) (rI CMul fun i j => .int (i * j)) := opI fun _ _ _ _ _ _ _ hc q => mul_int q hc.ok
theorem rM : OpR X (binaryOp .FloorDiv) (rI CDiv fun i j => .int (i / j)) := opI fun i j _ _ _ _ _ hc q => by
 have h1 : (0 : Int) < j := hc.1
 have h2 : j < 1073741824 := hc.2
 exact floordiv_int (by lia) (by rw [Int.fdiv_eq_ediv_of_nonneg i (by lia)]; exact q) (.inl (PyProof.noPylong_small (by lia)))
theorem uA : OpR X (binaryOp .Mod) (rI (fun _ j => 0 < j) fun i j => .int (i % j)) := opI fun i j _ _ _ _ _ hc q => by
 have h1 : (0 : Int) < j := hc
 exact mod_int' (by lia) (by rw [Int.fmod_eq_emod_of_nonneg i (by lia)]; exact q)
theorem unI {f : Value -> Sem Value} {g : Int -> Int}
  (rule : ∀ (i : Int) (t : Tok) (s : Shared) (Q : zx) (E : zx), Q (.int (g i) s.toks) { s with toks := s.toks + 1 } -> wpAny (model X.prog X.w) X.A (f (.int i t)) Q E s) :
  UnR X f (rU fun i => .int (g i)) := by
 intro pins s σ H x v Q I rx h
 obtain ⟨i, rfl, q⟩ := h
 obtain ⟨t, rfl⟩ := rx
 exact rule i t s _ _ ⟨.int (g i), H, I.tok _, ⟨_, rfl⟩, q⟩
theorem uB : UnR X (unaryOp .USub) (rU fun i => .int (-i)) := unI fun _ _ _ _ _ q => neg_int q
end
noncomputable def scal : V -> V -> Bool
 | .non, .non => true | .non, .int _ => true | .int _, .non => true | .non, .bl _ => true | .bl _, .non => true | .non, .str _ => true | .str _, .non => true
 | .int _, .int _ => true | .bl _, .bl _ => true | .str _, .str _ => true | .byt _, .byt _ => true
 | .int _, .str _ => true | .str _, .int _ => true | .bl _, .str _ => true | .str _, .bl _ => true
 | _, _ => false
noncomputable def rEq : R2 := fun x y H Q => scal x y = true /\ Q (.bl (decide (x = y))) H
noncomputable def rNe : R2 := fun x y H Q => scal x y = true /\ Q (.bl (!decide (x = y))) H
theorem nj {i j : Int} : decide (V.int i = V.int j) = (i == j) := by
 rw [Bool.eq_iff_iff]
 simp
theorem pK {i j : Bool} : decide (V.bl i = V.bl j) = (i == j) := by
 rw [Bool.eq_iff_iff]
 simp
theorem nq {i j : Str} : decide (V.str i = V.str j) = (i == j) := by
 rw [Bool.eq_iff_iff]
 simp
theorem nr {i j : Array UInt8} : decide (V.byt i = V.byt j) = (i.toList == j.toList) := by
 rw [Bool.eq_iff_iff]
 cases i
 cases j
 simp
section
variable {X : Cx} {a b c : Expr} {ta tb tc : TE} {pos : Pos}
theorem aC {pins : zw} {σ : St} {H : Hp} {s : Shared} {Q : VK} {k k' : Bool} (I : Inv X pins σ H s) (q : Q (.bl k) H) (e : k = k') : EP X pins σ Q (.bool k') s := by
 subst e
 exact ⟨.bl k, H, I, rfl, q⟩
theorem nu : OpR X (compareOp .Eq) rEq := by
 intro pins s σ H x y v u Q I rx ry h
 obtain ⟨hs, q⟩ := h
 cases x with
 | non =>
  cases rx
  cases y with
  | non => cases ry; exact PySem.EqNone.eq_none_none (aC I q (by simp))
  | bl j => cases ry; exact PySem.EqNone.eq_none_bool (aC I q (by simp))
  | int j => obtain ⟨t', rfl⟩ := ry; exact PySem.EqNone.eq_none_int (aC I q (by simp))
  | str j => obtain ⟨t', rfl⟩ := ry; exact PySem.EqNone.eq_none_str (aC I q (by simp))
  | _ => exact absurd (show false = true from hs) Bool.false_ne_true
 | bl i =>
  cases rx
  cases y with
  | non => cases ry; exact PySem.EqNone.eq_bool_none (aC I q (by simp))
  | bl j => cases ry; exact eq_bool (aC I q pK)
  | str j => obtain ⟨t', rfl⟩ := ry; exact PySem.EqMixed.eq_bool_str (aC I q (by simp))
  | _ => exact absurd (show false = true from hs) Bool.false_ne_true
 | int i =>
  obtain ⟨t, rfl⟩ := rx
  cases y with
  | non => cases ry; exact PySem.EqNone.eq_int_none (aC I q (by simp))
  | int j => obtain ⟨t', rfl⟩ := ry; exact eq_int (aC I q nj)
  | str j => obtain ⟨t', rfl⟩ := ry; exact PySem.EqMixed.eq_int_str (aC I q (by simp))
  | _ => exact absurd (show false = true from hs) Bool.false_ne_true
 | str i =>
  obtain ⟨t, rfl⟩ := rx
  cases y with
  | non => cases ry; exact PySem.EqNone.eq_str_none (aC I q (by simp))
  | bl j => cases ry; exact PySem.EqMixed.eq_str_bool (aC I q (by simp))
  | int j => obtain ⟨t', rfl⟩ := ry; exact PySem.EqMixed.eq_str_int (aC I q (by simp))
  | str j => obtain ⟨t', rfl⟩ := ry; exact eq_str (aC I q nq)
  | _ => exact absurd (show false = true from hs) Bool.false_ne_true
 | byt i =>
  obtain ⟨t, rfl⟩ := rx
  cases y with
  | byt j => obtain ⟨t', rfl⟩ := ry; exact W.eq_bytes (aC I q nr)
  | _ => exact absurd (show false = true from hs) Bool.false_ne_true
 | _ => cases y <;> exact absurd (show false = true from hs) Bool.false_ne_true
theorem pN : OpR X (compareOp .NotEq) rNe := by
 intro pins s σ H x y v u Q I rx ry h
 obtain ⟨hs, q⟩ := h
 cases x with
 | non =>
  cases rx
  cases y with
  | non => cases ry; exact PySem.EqNone.ne_none_none (aC I q (by simp))
  | bl j => cases ry; exact PySem.EqNone.ne_none_bool (aC I q (by simp))
  | int j => obtain ⟨t', rfl⟩ := ry; exact PySem.EqNone.ne_none_int (aC I q (by simp))
  | str j => obtain ⟨t', rfl⟩ := ry; exact PySem.EqNone.ne_none_str (aC I q (by simp))
  | _ => exact absurd (show false = true from hs) Bool.false_ne_true
 | bl i =>
  cases rx
  cases y with
  | non => cases ry; exact PySem.EqNone.ne_bool_none (aC I q (by simp))
  | bl j => cases ry; exact ne_bool (aC I q (congrArg not pK))
  | str j => obtain ⟨t', rfl⟩ := ry; exact PySem.EqMixed.ne_bool_str (aC I q (by simp))
  | _ => exact absurd (show false = true from hs) Bool.false_ne_true
 | int i =>
  obtain ⟨t, rfl⟩ := rx
  cases y with
  | non => cases ry; exact PySem.EqNone.ne_int_none (aC I q (by simp))
  | int j => obtain ⟨t', rfl⟩ := ry; exact ne_int (aC I q (congrArg not nj))
  | str j => obtain ⟨t', rfl⟩ := ry; exact PySem.EqMixed.ne_int_str (aC I q (by simp))
  | _ => exact absurd (show false = true from hs) Bool.false_ne_true
 | str i =>
  obtain ⟨t, rfl⟩ := rx
  cases y with
  | non => cases ry; exact PySem.EqNone.ne_str_none (aC I q (by simp))
  | bl j => cases ry; exact PySem.EqMixed.ne_str_bool (aC I q (by simp))
  | int j => obtain ⟨t', rfl⟩ := ry; exact PySem.EqMixed.ne_str_int (aC I q (by simp))
  | str j => obtain ⟨t', rfl⟩ := ry; exact ne_str (aC I q (congrArg not nq))
  | _ => exact absurd (show false = true from hs) Bool.false_ne_true
 | byt i =>
  obtain ⟨t, rfl⟩ := rx
  cases y with
  | byt j => obtain ⟨t', rfl⟩ := ry; exact W.ne_bytes (aC I q (congrArg not nr))
  | _ => exact absurd (show false = true from hs) Bool.false_ne_true
 | _ => cases y <;> exact absurd (show false = true from hs) Bool.false_ne_true
theorem wG : OpR X (compareOp .Lt) (rI0 fun i j => .bl (decide (i < j))) := opB0 fun _ _ _ _ _ _ _ q => lt_int q
theorem tN : OpR X (compareOp .LtE) (rI0 fun i j => .bl (decide (i <= j))) := opB0 fun _ _ _ _ _ _ _ q => le_int q
theorem tP : OpR X (compareOp .Gt) (rI0 fun i j => .bl (decide (j < i))) := opB0 fun _ _ _ _ _ _ _ q => gt_int q
theorem wH : OpR X (compareOp .GtE) (rI0 fun i j => .bl (decide (j <= i))) := opB0 fun _ _ _ _ _ _ _ q => ge_int q
theorem nomark (b : Expr) {op : CmpOp} (h : op ≠ .In := by decide) (h2 : op ≠ .NotIn := by decide) : behindInMarks op b = false := by
 have e1 : (op == CmpOp.In) = false := by cases op <;> first | rfl | exact absurd rfl h
 have e2 : (op == CmpOp.NotIn) = false := by cases op <;> first | rfl | exact absurd rfl h2
 cases b <;> simp [behindInMarks, e1, e2]
theorem rN {op : CmpOp} {r : R2} (ho : OpR X (compareOp op) r) (ha : PE X a ta) (hb : PE X b tb) (hm : behindInMarks op b = false) : PE X (.Compare a [op] [b] pos) (tOp r ta tb) := by
 intro pins s σ H Q I h
 exact wpAny_Compare1 (binT ha hb I h fun v u s2 x y H2 I2 rx ry q => ho pins s2 σ H2 x y v u Q I2 rx ry q) hm
noncomputable def BC (t : TE) : TT := fun σ H Q => t σ H fun x H' => ∃ k, x = .bl k /\ Q k H'
theorem nv {op : CmpOp} {r : R2} (ho : OpR X (compareOp op) r) (ha : PE X a ta) (hb : PE X b tb) (hm : behindInMarks op b = false) : PT X (.Compare a [op] [b] pos) (BC (tOp r ta tb)) := by
 intro pins s σ H Q I h
 refine wpAny_isTrue_Compare1 (thn (ha pins s σ H _ I h) fun v s1 ⟨x, H1, I1, r1, q1⟩ => thn (hb pins s1 σ H1 _ I1 q1) fun u s2 ⟨y, H2, I2, r2, q2⟩ =>
  thn (ho pins s2 σ H2 x y v u _ I2 r1 r2 q2) fun c s3 ⟨z, H3, I3, r3, k, e, q3⟩ => ?_) hm
 subst e
 cases r3
 exact wpAny_truthy_bool ⟨H3, I3, q3⟩
noncomputable def TruV (K : W.Frag) (x : V) (H : Hp) (k : Bool) : Prop :=
 match x with
 | .non => k = false
 | .bl b => k = b
 | .int i => k = (i != 0)
 | .str y => y.length <= sizeLine /\ k = ((y.length : Int) != 0)
 | .byt y => y.size <= sizeLine /\ k = ((y.size : Int) != 0)
 | .ref p => (∃ xs, SqL K H p xs /\ k = !xs.isEmpty) \/ (∃ xs, SqT K H p xs /\ k = !xs.isEmpty) \/ ∃ kvs, H p = some (.dK kvs) /\ k = !kvs.isEmpty
 | _ => False
theorem mw {κ : Type} {kvs : List (κ × V)} {vs : List (κ × Value)} (r : KV kvs vs) : (!vs.isEmpty) = !kvs.isEmpty := by
 cases r <;> rfl
theorem gZ {xs : List V} {its : List Value} (r : Vals xs its) : (!its.toArray.isEmpty) = !xs.isEmpty := by
 cases r <;> simp
theorem line63 : (sizeLine : Nat) < 2 ^ 63 := by rw [sizeLine_eq]; decide
theorem uC : TruR X (fun x H Q => ∃ k, TruV X.K x H k /\ Q k H) := by
 intro pins s σ H x v Q I rx h
 obtain ⟨k, e, q⟩ := h
 have hl := line63
 have hs : sizeLine = 16777216 := sizeLine_eq
 cases x with
 | non =>
  cases rx
  have e' : k = false := e
  subst e'
  exact truthy_none ⟨H, I, q⟩
 | bl b =>
  cases rx
  have e' : k = b := e
  subst e'
  exact wpAny_truthy_bool ⟨H, I, q⟩
 | int i =>
  obtain ⟨t, rfl⟩ := rx
  have e' : k = (i != 0) := e
  subst e'
  exact PySem.P.truthy_int ⟨H, I, q⟩
 | str y =>
  obtain ⟨t, rfl⟩ := rx
  obtain ⟨hy, e'⟩ : y.length <= sizeLine /\ k = ((y.length : Int) != 0) := e
  subst e'
  exact PySem.P.truthy_str (by lia) ⟨H, I.tok _, q⟩
 | byt y =>
  obtain ⟨t, rfl⟩ := rx
  obtain ⟨hy, e'⟩ : y.size <= sizeLine /\ k = ((y.size : Int) != 0) := e
  subst e'
  exact W.truthy_bytes (by lia) ⟨H, I.tok _, q⟩
 | ref p =>
  cases rx
  have e' : (∃ xs, SqL X.K H p xs /\ k = !xs.isEmpty) \/ (∃ xs, SqT X.K H p xs /\ k = !xs.isEmpty) \/ ∃ kvs, H p = some (.dK kvs) /\ k = !kvs.isEmpty := e
  rcases e' with ⟨xs, hx, e'⟩ | ⟨xs, hx, e'⟩ | ⟨kvs, hx, e'⟩
  ·subst e'
   obtain ⟨its, r, pl, hz⟩ := I.list hx
   have hlen := r.length
   exact wpAny_truthy_list pl.isList (by simp only [List.size_toArray]; lia) ⟨H, I.tok _, by rw [gZ r]; exact q⟩
  ·subst e'
   obtain ⟨its, r, pl, hz⟩ := I.tuple hx
   have hlen := r.length
   exact truthy_tuple pl (by simp only [List.size_toArray]; lia) ⟨H, I.tok _, by rw [gZ r]; exact q⟩
  ·subst e'
   obtain ⟨hz, hS, vs, r, m⟩ : kvs.length <= sizeLine /\ (p == sysModules) = false /\ ∃ vs, KV kvs vs /\ s.heap.DictOf (zO X.prog X.w) p vs := I.hok p _ hx
   have hlen : kvs.length = vs.length := Paired.length r
   exact wpAny_truthy_dict hS m (by lia) ⟨H, I.tok _, by rw [mw r]; exact q⟩
 | _ => exact (show False from e).elim
theorem pO (ha : PE X a ta) (he : ∀ whole, isTrue a X.env whole = (do let v <- whole; standAt a.pos; holding [v] (truthy v))) :
  PT X a (fun σ H Q => ta σ H fun x H' => ∃ k, TruV X.K x H' k /\ Q k H') := by
 intro pins s σ H Q I h
 exact isTrue_plain (thn (ha pins s σ H _ I h) fun v s1 ⟨x, H1, I1, r1, q1⟩ => uC pins s1 σ H1 x v Q I1 r1 q1) (he _)
theorem mx : OpR X (binaryOp .Add) (fun x y H Q => ∃ i j, x = .str i /\ y = .str j /\ i.length + j.length <= sizeLine /\ Q (.str (i ++ j)) H) := by
 intro pins s σ H x y v u Q I rx ry h
 obtain ⟨i, j, rfl, rfl, hz, q⟩ := h
 obtain ⟨t, rfl⟩ := rx
 obtain ⟨t', rfl⟩ := ry
 exact add_str (fun t' tk => ⟨.str (i ++ j), H, I.tok _, ⟨_, rfl⟩, q⟩) hz
theorem vals1 {x : V} {us : List Value} (r : Vals [x] us) : ∃ u, us = [u] /\ RelV x u := by
 cases r with
 | cons r1 r2 => cases r2; exact ⟨_, rfl, r1⟩
theorem vals2 {x y : V} {us : List Value} (r : Vals [x, y] us) : ∃ u w', us = [u, w'] /\ RelV x u /\ RelV y w' := by
 cases r with
 | cons r1 r2 =>
  cases r2 with
  | cons r3 r4 => cases r4; exact ⟨_, _, rfl, r1, r3⟩
theorem pP : Ah X (.builtin "abs") (fun xs H Q => ∃ i, xs = [.int i] /\ Q (.int (if i < 0 then -i else i)) H) := by
 intro pins s σ H xs us Q I r h
 obtain ⟨i, rfl, q⟩ := h
 obtain ⟨u, rfl, t, rfl⟩ := vals1 r
 exact call_abs_int fun u tk => ⟨.int (if i < 0 then -i else i), H, I.tok _, ⟨_, rfl⟩, q⟩
theorem ox : Ah X (.type "int") (fun xs H Q => (∃ i, xs = [.int i] /\ Q (.int i) H) \/ ∃ k, xs = [.bl k] /\ Q (.int (if k then 1 else 0)) H) := by
 intro pins s σ H xs us Q I r h
 rcases h with ⟨i, rfl, q⟩ | ⟨k, rfl, q⟩
 ·obtain ⟨u, rfl, t, rfl⟩ := vals1 r
  exact call_int_int ⟨.int i, H, I, ⟨_, rfl⟩, q⟩
 ·obtain ⟨u, rfl, r1⟩ := vals1 r
  cases r1
  exact call_int_bool ⟨.int (if k then 1 else 0), H, I.tok _, ⟨_, rfl⟩, q⟩
end
structure ObjM (h : Heap) (x dx C : Addr) (mA : zu) : Prop where
 obj : h.get? x = some (W.instObj C dx)
 ns : h.Ns1 dx mA
 ne : dx ≠ x
section
variable {prog : Program} {w : World} {A : Around} {E : zx} {s : Shared} {K : W.Frag} {x dx C f : Addr} {mA : zu} {name : Str} {v : Value}
end
theorem RelO.some_of {v : V} {o : Option Value} (r : RelO (some v) o) : ∃ u, o = some u /\ RelV v u := by
 cases o with
 | none => exact (show False from r).elim
 | some u => exact ⟨u, rfl, r⟩
section
variable {P : Program} {w : World} {H H' : Hp} {h h' : Heap} {a C dx : Addr} {fs fs' : List (Str × V)}
end
structure Cls (K : W.Frag) (C : Addr) : Prop where
 pg : W.plainGet K C Str.empty = true
 hd : W.hasDictIn K C = true
 po : W.plainOver K C = true
 sa : W.findIn K (.ref C) "__setattr__" = some (some (.builtin "object.__setattr__"))
structure Con (K : W.Frag) (C : Addr) (f : Str) (v : V) (u : Value) : Prop where
 at_ : W.findIn K (.ref C) f = some (some u)
 rel : RelV v u
 get : W.specialIn K u "__get__" = some none
 cp : W.copiedNames.contains f = false
structure Meth (K : W.Frag) (C : Addr) (m : Str) (f : Addr) : Prop where
 at_ : W.findIn K (.ref C) m = some (some (.ref f))
 fn : W.isFn K (.ref f) = true
 kp : W.keepIn K (.ref f) = true
section
variable {X : Cx} {pins : zw} {σ : St} {H : Hp} {s : Shared} {a C dx : Addr} {fs : List (Str × V)} {f : Str} {v : V} {A : Around} {E : zx}
end
section
variable {X : Cx} {o e value : Expr} {f : Str} {pos pos' tpos : Pos} {ta tv : TE}
noncomputable def rAdd : V -> V -> Hp -> VK -> Prop := fun x y H Q => ∃ i j, x = .int i /\ y = .int j /\ Q (.int (i + j)) H
end
section
variable {X : Cx} {pins : zw} {σ : St} {H : Hp} {s : Shared} {A : Around} {E : zx} {Q : zx} {c : Value} {b : Bool}
inductive TyOf (K : W.Frag) (H : Hp) : V -> Value -> Prop where
 | non : TyOf K H .non (.type "NoneType")
 | bl (x : Bool) : TyOf K H (.bl x) (.type "bool")
 | int (i : Int) : TyOf K H (.int i) (.type "int")
 | str (x : Str) : TyOf K H (.str x) (.type "str")
 | flt (x : UInt64) : TyOf K H (.flt x) (.type "float")
 | lst {a : Addr} {xs : List V} (e : H a = some (.lst xs)) : TyOf K H (.ref a) (.type "list")
 | frz {a : Addr} {o : Obj} {xs : List V} (e : H a = some (.frz o (.lst xs))) : TyOf K H (.ref a) (.type "list")
 | tup {a : Addr} {xs : List V} (e : H a = some (.tup xs)) : TyOf K H (.ref a) (.type "tuple")
 | dK {a : Addr} {kvs : List (Key × V)} (e : H a = some (.dK kvs)) : TyOf K H (.ref a) (.type "dict")
 | dT {a : Addr} {kvs : List (List Key × V)} (e : H a = some (.dT kvs)) : TyOf K H (.ref a) (.type "dict")
 | ins {a C dx : Addr} {fs : List (Str × V)} (e : H a = some (.ins C dx fs)) (cl : Cls K C) (ha : W.findIn K (.ref C) "__class__" = some (some (.builtin "object.__class__")))
   (hn : W.specialIn K (.builtin "object.__class__") "__get__" = some (some (.builtin "getset_descriptor.__get__"))) (htk : W.takesIn K (.builtin "object.__class__") = some true)
   (hm : W.mroIn K C (.type "object") = some true) : TyOf K H (.ref a) (.ref C)
end
structure Room (k : Nat) (A : Around) : Prop where
 hd : A.handled = none
 dp : A.depth + 3 * k + 5 < recursionLimit
 un : A.units + 16 * k + 200 < cLine
theorem Room.mono {j k : Nat} {A : Around} (r : Room k A) (h : j <= k) : Room j A := ⟨r.hd, by have := r.dp; lia, by have := r.un; lia⟩
theorem Room.deeper {k : Nat} {A : Around} (r : Room (k + 1) A) (env : Env) : Room k (A.deeper env) :=
 ⟨r.hd, by have := r.dp; show A.depth + 1 + 3 * k + 5 < _; lia, by have := r.un; show A.units + 3 + 16 * k + 200 < _; lia⟩
theorem Room.depth {k : Nat} {A : Around} (r : Room k A) : A.depth < recursionLimit := by have := r.dp; lia
theorem Room.units {k : Nat} {A : Around} (r : Room k A) : A.units + 64 < cLine := by have := r.un; lia
def tNil : TA := fun _ H Q => Q [] H
noncomputable def Ai (ta : TE) (tr : TA) : TA := fun σ H Q => ta σ H fun x H1 => tr σ H1 fun xs H2 => Q (x :: xs) H2
section
variable {X : Cx} {e : Expr} {es : List Expr} {te : TE} {t : TA} {pos : Pos}
theorem cQ : PA X [] tNil := fun _ _ _ _ H Q I h => Calls.spliced_nil ⟨[], H, I, .nil, h⟩
theorem b8 (ha : PE X e te) (hr : PA X es t) (hs : starEach (e :: es) X.env = (false, eval e X.env) :: starEach es X.env := by rfl) : PA X (e :: es) (Ai te t) := by
 intro pos pins s σ H Q I h
 rw [hs]
 show wpAny _ _ (spliced ((false, eval e X.env) :: backTo pos (starEach es X.env))) _ _ s
 refine Calls.spliced_cons (thn (ha pins s σ H _ I h) fun u s1 ⟨x, H1, I1, r1, q1⟩ => ?_)
 exact thn (hr pos pins s1 σ H1 _ I1 q1) fun us s2 ⟨xs, H2, I2, r2, q2⟩ => ⟨x :: xs, H2, I2, .cons r1 r2, q2⟩
noncomputable def tTup (t : TA) : TE := fun σ H Q => t σ H fun xs H1 => xs.length <= sizeLine /\ ∀ p, H1 p = none -> Q (.ref p) (upd H1 p (.tup xs))
noncomputable def tLst (t : TA) : TE := fun σ H Q => t σ H fun xs H1 => xs.length <= sizeLine /\ ∀ p, H1 p = none -> Q (.ref p) (upd H1 p (.lst xs))
theorem pQ {x1} (h : PA X es t) : PE X (.Tuple es x1 pos) (tTup t) := by
 intro pins s σ H Q I hq
 refine wpAny_Tuple_spliced (thn (h pos pins s σ H _ I hq) fun us s1 ⟨xs, H1, I1, r, z, q⟩ => ⟨by rw [<- r.length]; exact z, ?_⟩)
 have hf : H1 s1.heap.objs.size = none := I1.hok.fresh (Nat.le_refl _)
 refine ⟨.ref s1.heap.objs.size, upd H1 s1.heap.objs.size (.tup xs), I1.laid (t' := s1.toks) (fun b u e => Heap.get?_push_of_some _ e) (Nat.le_refl _) ?_, rfl, q _ hf⟩
 exact ⟨z, us, r, ⟨_, Heap.get?_push_size _ rfl, rfl, _, rfl⟩⟩
theorem uD (h : PA X es t) : PE X (.List es pos) (tLst t) := by
 intro pins s σ H Q I hq
 refine wpAny_List_spliced (thn (h pos pins s σ H _ I hq) fun us s1 ⟨xs, H1, I1, r, z, q⟩ => ⟨by rw [<- r.length]; exact z, ?_⟩)
 have hf : H1 s1.heap.objs.size = none := I1.hok.fresh (Nat.le_refl _)
 refine ⟨.ref s1.heap.objs.size, upd H1 s1.heap.objs.size (.lst xs), I1.laid (t' := s1.toks) (fun b u e => Heap.get?_push_of_some _ e) (Nat.le_refl _) ?_, rfl, q _ hf⟩
 exact ⟨z, us, 0, r, Heap.get?_push_size _ rfl⟩
end
abbrev Sp := List V -> Hp -> VK -> XK -> Prop
abbrev CXT := List Env -> Hp -> Shared -> XK -> Value -> Shared -> Prop
structure Env0 (P : Program) (w : World) (K : W.Frag) (mg : zu) (base : Heap) (A : Around) (outer : List Env) (s : Shared) (H : Hp) : Prop where
 frames : A.frames = some outer
 mod : Mod K mg base
 bs : ∀ b o, base.get? b = some o -> s.heap.get? b = some o /\ H b = none
 bsz : base.objs.size <= s.heap.objs.size
 funs : s.heap.FunFrames base outer
 frf : ∀ b ∈ frs outer, H b = none
 hok : HOk P w H s.heap
 bare : AllBare s.gens
noncomputable def CE (outer : List Env) (P : Program) (w : World) (H : Hp) (s : Shared) (Q : VK) (u : Value) (s' : Shared) : Prop :=
 ∃ v H', s'.os = s.os /\ AllBare s'.gens /\ Un (frs outer) [] H H' s.heap s'.heap /\ HOk P w H' s'.heap /\ RelV v u /\ Q v H'
noncomputable def CR (CX : CXT) (outer : List Env) (P : Program) (w : World) (H : Hp) (s : Shared) (Q : VK) (E : XK) (r : Result) (s' : Shared) : Prop :=
 match r with
 | .ok (.ret u) => CE outer P w H s Q u s'
 | .ok _ => False
 | .error e => CX outer H s E e s'
structure FnOk (P : Program) (w : World) (K : W.Frag) (mg : zu) (base : Heap) (CX : CXT) (k : Nat) (f : Addr) (fd : FuncData) (ps : List Str) (sp : Sp) : Prop where
 len : ∀ vs H Q E, sp vs H Q E -> vs.length = ps.length
 run : ∀ (A : Around) (outer : List Env) (s : Shared) (H : Hp) (args : Args) (us : List Value) (vs : List V) (Q : VK) (E : XK), Room k A -> Env0 P w K mg base A outer s H -> BindsTo s fd args (ps.zip us) -> Vals vs us -> sp vs H Q E ->
  codeAny (model P w) A (.call (.ref f) args) (CR CX outer P w H s Q E) s
theorem FnOk.imp {P : Program} {w : World} {K : W.Frag} {mg : zu} {base : Heap} {CX : CXT} {k : Nat} {f : Addr} {fd : FuncData} {ps : List Str} {sp sp' : Sp} (F : FnOk P w K mg base CX k f fd ps sp)
  (h : ∀ vs H Q E, sp' vs H Q E -> sp vs H Q E) : FnOk P w K mg base CX k f fd ps sp' :=
 ⟨fun vs H Q E q => F.len vs H Q E (h _ _ _ _ q), fun A outer s H args us vs Q E hr he hb hv hs => F.run A outer s H args us vs Q E hr he hb hv (h _ _ _ _ hs)⟩
section
variable {X : Cx} {pins : zw} {σ : St} {H : Hp} {s s' : Shared}
theorem Inv.env0 (I : Inv X pins σ H s) : Env0 X.prog X.w X.K X.mg X.base X.A X.stack s H :=
 ⟨I.ok.frames, I.ok.mod, I.bs, Nat.le_trans I.ok.bsz I.sz, I.stack, I.stkFree, I.hok, I.bare⟩
theorem Inv.after {Q : VK} {u : Value} (I : Inv X pins σ H s) (h : CE X.stack X.prog X.w H s Q u s') : EP X pins σ Q u s' := by
 obtain ⟨v, H', os, bare, un, hok, r, q⟩ := h
 obtain ⟨hh, g, d, t, os'⟩ := s'
 obtain rfl : os' = s.os := os
 exact ⟨v, H', I.call (h' := hh) (g' := g) (d' := d) (t' := t) (ch := []) un hok bare (fun b z => absurd z (by simp)), r, q⟩
end
noncomputable def Bi (sp : Sp) (dvs : List V) (E : XK) (t : TA) : TE := fun σ H Q => t σ H fun vs H1 => sp (vs ++ dvs) H1 Q E
noncomputable def Binds (K : W.Frag) (fd : FuncData) (ps : List Str) (ds : List Value) : Prop :=
 ∀ (s : Shared) (us : List Value), K.In s.heap -> (us ++ ds).length = ps.length -> BindsTo s fd ⟨us, []⟩ (ps.zip (us ++ ds))
theorem Binds.all {K : W.Frag} {fd : FuncData} {ps : List Str} (h : ∀ us : List Value, us.length = ps.length -> bindArgs fd ⟨us, []⟩ = pure (ps.zip us)) : Binds K fd ps [] := fun s us _ hl => by
 rw [List.append_nil] at hl ⊢
 exact .of_eq (h us hl)
noncomputable def Passes (CX : CXT) (X : Cx) (E : XK) : Prop := ∀ (pins : zw) (σ : St) (H : Hp) (s : Shared) (e : Value) (s' : Shared), Inv X pins σ H s -> CX X.stack H s E e s' -> X.xe e s'
section
variable {X : Cx} {CX : CXT} {k : Nat} {f C : Addr} {fd : FuncData} {ps : List Str} {sp : Sp} {dvs : List V} {ds : List Value} {E : XK} {x m : Str} {p pos apos : Pos} {e o : Expr} {es : List Expr} {ta : TE} {t : TA}
theorem uE {pins : zw} {σ : St} {H : Hp} {s : Shared} {Q : VK} {us : List Value} {vs : List V} (F : FnOk X.prog X.w X.K X.mg X.base CX k f fd ps sp) (hr : Room k X.A) (hb : Binds X.K fd ps ds) (hd : Vals dvs ds) (hx : Passes CX X E)
  (I : Inv X pins σ H s) (r : Vals vs us) (h : sp (vs ++ dvs) H Q E) : wpAny (model X.prog X.w) X.A (call (.ref f) us) (EP X pins σ Q) X.xe s := by
 have r2 : Vals (vs ++ dvs) (us ++ ds) := r.append hd
 have hl : (us ++ ds).length = ps.length := by rw [<- r2.length]; exact F.len _ _ _ _ h
 refine wpAny_call (codeAny_mono (F.run X.A X.stack s H ⟨us, []⟩ (us ++ ds) (vs ++ dvs) Q E hr I.env0 (hb s us I.kIn hl) r2 h) fun r s' hq => ?_)
 cases r with
 | error e => exact hx pins σ H s e s' I hq
 | ok fl =>
  cases fl with
  | ret u => exact I.after hq
  | next => exact False.elim hq
  | brk => exact False.elim hq
  | cont => exact False.elim hq
theorem rO (F : FnOk X.prog X.w X.K X.mg X.base CX k f fd ps sp) (hr : Room k X.A) (hg : Gl X x) (hm : X.mg x = some (.ref f)) (hk : W.keepIn X.K (.ref f) = true) (hb : Binds X.K fd ps ds) (hd : Vals dvs ds) (hx : Passes CX X E)
  (ha : PA X (e :: es) t) (hdb : (x == ("__debug__" : Str)) = false := by decide) (he : starEach (e :: es) X.env = (false, eval e X.env) :: starEach es X.env := by rfl) (hpl : (backTo pos (starEach es X.env)).any (·.1) = false := by rfl) :
  PE X (.Call (.Name x p) (e :: es) [] pos) (Bi sp dvs E t) := by
 intro pins s σ H Q I h
 refine wpAny_Call_Name_kw (jQ I hg hm ?_ hdb)
 refine W.callWith_K (h₀ := X.base) I.ok.mod.kin hk (thn (ha pos pins s σ H _ I h) fun us s1 ⟨vs, H1, I1, r, q⟩ => ⟨I1.kIn, ?_⟩) he hpl
 exact uE F hr hb hd hx I1 r q
structure Mk (K : W.Frag) (C f : Addr) : Prop where
 makes : W.makesIn K C = true
 init : W.findIn K (.ref C) "__init__" = some (some (.ref f))
 fn : W.isFn K (.ref f) = true
 kp : W.keepIn K (.ref C) = true
end
section
variable {X : Cx} {CX : CXT} {k : Nat} {f C : Addr} {fd : FuncData} {ps ks : List Str} {sp : Sp} {E : XK} {x m : Str} {p pos apos kpos : Pos} {e o : Expr} {es : List Expr} {kws : List Keyword} {te ta : TE} {t tk : TA} {nm : Option Str}
structure BX (K : W.Frag) (fd : FuncData) (ps ks : List Str) (g : List Value -> List Value -> List Value) (gV : List V -> List V -> List V) : Prop where
 to : ∀ (s : Shared) (us ws : List Value), K.In s.heap -> (g us ws).length = ps.length -> BindsTo s fd ⟨us, ks.zip ws⟩ (ps.zip (g us ws))
 rel : ∀ {vs : List V} {us : List Value} {zs : List V} {ws : List Value}, Vals vs us -> Vals zs ws -> Vals (gV vs zs) (g us ws)
variable {g : List Value -> List Value -> List Value} {gV : List V -> List V -> List V}
end
structure zH (N P : List Str) (sc : Scope) : Prop where
 kind : sc.kind = .function
 co : sc.isCoroutine = false
 gen : sc.isGenerator = false
 nd : N.Nodup
 pre : N.take P.length = P
 par : ∀ x ∈ P, sc.names.lookup x = some .local \/ sc.names.lookup x = some .cell
 nofree : ∀ y ∈ sc.names, y.2 ≠ .free
theorem jj {kindOf : Str -> Option NameKind} {x : Str} : ∀ {binds : List (Str × Value)} {m : zu}, (∀ v, (x, v) ∉ binds) -> bindL kindOf binds m x = m x
 | [], _, _ => rfl
 | (n, v) :: r, m, h => by
  unfold bindL
  rw [jj fun w hw => h w (List.mem_cons_of_mem _ hw)]
  split
  ·have : x ≠ n := by rintro rfl; exact h v List.mem_cons_self
   simp [this]
  ·rfl
theorem jk {kindOf : Str -> Option NameKind} {x : Str} : ∀ {binds : List (Str × Value)} {m : zu}, (∀ v, (x, v) ∉ binds) -> bindC kindOf binds m x = m x
 | [], _, _ => rfl
 | (n, v) :: r, m, h => by
  unfold bindC
  rw [jk fun w hw => h w (List.mem_cons_of_mem _ hw)]
  split
  ·rfl
  ·have : x ≠ n := by rintro rfl; exact h v List.mem_cons_self
   simp [this]
theorem jl {kindOf : Str -> Option NameKind} {x : Str} {v : Value} : ∀ {P : List Str} {vs : List Value} {i : Nat} {m : zu}, P.Nodup -> P[i]? = some x -> vs[i]? = some v -> kindOf x = some .local ->
  bindL kindOf (P.zip vs) m x = some v
 | [], _, _, _, _, h, _, _ => by simp at h
 | _ :: _, [], _, _, _, _, h, _ => by simp at h
 | p :: P, w :: vs, 0, m, nd, h1, h2, hk => by
  simp at h1 h2; subst h1; subst h2
  show bindL kindOf ((p, w) :: P.zip vs) m p = _
  unfold bindL
  rw [jj fun v hv => (List.nodup_cons.mp nd).1 (List.of_mem_zip hv).1, if_pos hk]
  simp
 | p :: P, w :: vs, i + 1, m, nd, h1, h2, hk => by
  show bindL kindOf ((p, w) :: P.zip vs) m x = _
  unfold bindL
  exact jl (i := i) (List.nodup_cons.mp nd).2 (by simpa using h1) (by simpa using h2) hk
theorem jm {kindOf : Str -> Option NameKind} {x : Str} {v : Value} : ∀ {P : List Str} {vs : List Value} {i : Nat} {m : zu}, P.Nodup -> P[i]? = some x -> vs[i]? = some v -> kindOf x ≠ some .local ->
  bindC kindOf (P.zip vs) m x = some v
 | [], _, _, _, _, h, _, _ => by simp at h
 | _ :: _, [], _, _, _, _, h, _ => by simp at h
 | p :: P, w :: vs, 0, m, nd, h1, h2, hk => by
  simp at h1 h2; subst h1; subst h2
  show bindC kindOf ((p, w) :: P.zip vs) m p = _
  unfold bindC
  rw [jk fun v hv => (List.nodup_cons.mp nd).1 (List.of_mem_zip hv).1, if_neg hk]
  simp
 | p :: P, w :: vs, i + 1, m, nd, h1, h2, hk => by
  show bindC kindOf ((p, w) :: P.zip vs) m x = _
  unfold bindC
  exact jm (i := i) (List.nodup_cons.mp nd).2 (by simpa using h1) (by simpa using h2) hk
noncomputable def start (N : List Str) (vs : List V) : St := vs.map some ++ List.replicate (N.length - vs.length) none
noncomputable def cxOf (CX : CXT) (P : Program) (w : World) (K : W.Frag) (mg : zu) (base : Heap) (N : List Str) (qual : Str) (scope : Scope) (f : Addr) (cd : Value) (A : Around) (outer : List Env) (s : Shared) (H : Hp) (E : XK) : Cx where
 prog := P
 w := w
 K := K
 mg := mg
 base := base
 A := A.deeper (envOfC qual scope s.heap.objs.size f cd)
 N := N
 s₀ := s
 H₀ := H
 env := envOfC qual scope s.heap.objs.size f cd
 outer := outer
 stack := envOfC qual scope s.heap.objs.size f cd :: outer
 ex := []
 calm := true
 fn := fun _ => true
 pn := []
 xe := fun e s' => wpAny (model P w) (A.deeper (envOfC qual scope s.heap.objs.size f cd)) (leaving (envOfC qual scope s.heap.objs.size f cd) e) (fun _ s'' => CX outer H s E e s'') (fun e' s'' => CX outer H s E e' s'') s'
theorem kQ {sc : Scope} {n : Nat} {x : Str} (h : sc.names.lookup x = some .cell) : ∃ c, (cellsFrom n sc.names []).lookup x = some c := by
 have q := W.cellsFrom_some sc.names n [] (.inl h)
 exact Option.isSome_iff_exists.mp q
theorem oy {CX : CXT} {P : Program} {w : World} {K : W.Frag} {mg : zu} {base : Heap} {N ps : List Str} {qual : Str} {scope : Scope} {f : Addr} {cd : Value} {A : Around} {outer : List Env} {s s1 : Shared} {H : Hp} {E : XK} {us : List Value} {vs : List V}
  (S : zH N ps scope) (hd : A.handled = none) (e0 : Env0 P w K mg base A outer s H) (hl : vs.length = ps.length) (r : Vals vs us)
  (x : InCallC s s.heap.objs.size (bindL (envOfC qual scope s.heap.objs.size f cd).kindOf (ps.zip us) fun _ => none) (cellsFrom (s.heap.objs.size + 1) scope.names []) (bindC (envOfC qual scope s.heap.objs.size f cd).kindOf (ps.zip us) fun _ => none) s1) :
  Inv (cxOf CX P w K mg base N qual scope f cd A outer s H E) [] (start N vs) H s1 := by
 have hpl : ps.length <= N.length := by have := congrArg List.length S.pre; rw [List.length_take] at this; lia
 obtain ⟨h1, tk, rfl, hk⟩ := x.done
 have noA : ∀ b : Addr, b ∉ (cxOf CX P w K mg base N qual scope f cd A outer s H E).ex := fun b z => absurd (show b ∈ ([] : List Addr) from z) (by simp)
 refine ⟨⟨e0.mod, S.kind, rfl, rfl, Nat.le_refl _, fun y z c h1 h2 => ?_, fun y hy => ?_, fun y c _ h => ?_, fun _ => hd, Around.frames_deeper e0.frames, .inr ⟨rfl, rfl⟩, fun b z => absurd z (noA b), e0.bs, e0.bsz, fun b _ _ => noA b, fun b z => absurd z (noA b), e0.funs, e0.frf⟩,
  rfl, e0.bare, Un.kept hk, ⟨_, x.toInCall.ns, fun i y v h1 h2 h3 => ?_⟩, fun y c h => ⟨_, x.cell y c h⟩, e0.hok.fresh (Nat.le_refl _), fun y c h => ?_, fun p hp => absurd (show p ∈ ([] : zw) from hp) (by simp), e0.hok.kept hk, ?_⟩
 ·exact name_of_addr x.apart (PySem.mem_of_lookup h1) (PySem.mem_of_lookup h2)
 ·have hy : scope.names.lookup y = some .cell \/ scope.names.lookup y = some .free := hy
  rcases hy with hy | hy
  ·exact kQ hy
  ·exact absurd rfl (S.nofree _ (PySem.mem_of_lookup hy))
 ·exact Nat.le_of_lt (x.above y c (PySem.mem_of_lookup h))
 ·have hi : i < vs.length := by
   unfold start at h2
   by_cases hi : i < vs.length
   ·exact hi
   ·rw [List.getElem?_append_right (by simpa using hi)] at h2
    rw [List.getElem?_replicate] at h2
    split at h2 <;> cases h2
  have ha : vs[i]? = some v := by
   unfold start at h2
   rw [List.getElem?_append_left (by simpa using hi), List.getElem?_map] at h2
   cases e : vs[i]? with
   | none => rw [e] at h2; cases h2
   | some a => rw [e] at h2; cases h2; rfl
  obtain ⟨u, hu, rv⟩ := r.get ha
  have hp : ps[i]? = some y := by
   rw [<- S.pre, List.getElem?_take_of_lt (by lia)]; exact h1
  have ndP : ps.Nodup := by rw [<- S.pre]; exact S.nd.sublist (List.take_sublist _ _)
  refine ⟨u, rv, ?_⟩
  rcases S.par y (List.mem_of_getElem? hp) with k | k
  ·exact .inl ⟨k, jl ndP hp hu k⟩
  ·obtain ⟨c, e⟩ := kQ (n := s.heap.objs.size + 1) k
   refine .inr ⟨.inl k, c, e, ?_⟩
   have q := x.cell y c e
   rw [jm ndP hp hu (by show scope.names.lookup y ≠ _; rw [k]; decide)] at q
   exact q
 ·exact e0.hok.fresh (Nat.le_of_lt (x.above y c (PySem.mem_of_lookup h)))
 ·unfold start
  show _ = N.length
  rw [List.length_append, List.length_map, List.length_replicate]
  lia
theorem wI {CX : CXT} {P : Program} {w : World} {K : W.Frag} {mg : zu} {base : Heap} {k : Nat} {f : Addr} {name qual : Str} {params : Arguments} {body : List Stmt} {scope : Scope} {dV kV doc pm cdv ct oc : Value} {an od : Option Addr}
  {osl : Array (Option Value)} {N ps : List Str} {sp : Sp} (lk : K.lookup f = some ⟨oc, od, .func (W.fnOf name qual params body scope dV kV doc pm an cdv ct), osl⟩) (hcd : W.codeIn K cdv qual = true) (S : zH N ps scope)
  (len : ∀ vs H Q E, sp vs H Q E -> vs.length = ps.length)
  (hbody : ∀ (A : Around) (outer : List Env) (s : Shared) (H : Hp) (vs : List V) (Q : VK) (E : XK), Room k (A.deeper (envOfC qual scope s.heap.objs.size f cdv)) -> sp vs H Q E ->
   ∃ t, PSs (cxOf CX P w K mg base N qual scope f cdv A outer s H E) body t /\ t { nx := fun _ H' => Q .non H', rt := Q } (start N vs) H) :
  FnOk P w K mg base CX (k + 1) f (W.fnOf name qual params body scope dV kV doc pm an cdv ct) ps sp := by
 refine ⟨len, fun A outer s H args us vs Q E hr e0 hb r hsp => ?_⟩
 have hl := len _ _ _ _ hsp
 have KX : K.In s.heap := e0.mod.kin.keeps fun b o e => (e0.bs b o e).1
 have lim : s.heap.NoLimit := e0.mod.nolimit.keeps fun b o e => (e0.bs b o e).1
 have hkind : ∀ y ∈ ps.zip us, scope.names.lookup y.1 = some .local \/ (scope.names.lookup y.1 = some .cell /\ ((cellsFrom (s.heap.objs.size + 1) scope.names []).lookup y.1).isSome = true) := fun ⟨n, v⟩ hy => by
  rcases S.par n (List.of_mem_zip hy).1 with q | q
  ·exact .inl q
  ·exact .inr ⟨q, W.cellsFrom_some _ _ _ (.inl q)⟩
 refine codeAny_call_function hr.depth (KX _ _ lk) rfl S.co S.gen rfl (W.codeRec_of KX hcd) (hb _ _ _ _ ?_)
 refine wpAny_newFunctionEnv_cells S.kind hkind fun env he s1 x => ?_
 subst he
 refine ⟨lim.keeps x.toInCall.keep, codeAny_func ?_⟩
 obtain ⟨t, ht, hq⟩ := hbody A outer s H vs Q E (hr.deeper _) hsp
 have I : Inv (cxOf CX P w K mg base N qual scope f cdv A outer s H E) [] (start N vs) H s1 := oy S hr.hd e0 hl r x
 refine wpAny_mono (ht [] s1 (start N vs) H _ I hq) (fun fl s' hs => ?_) fun e s' hs => hs
 have fin : ∀ {σ' : St} {H' : Hp} {v : V} {u : Value}, Inv (cxOf CX P w K mg base N qual scope f cdv A outer s H E) [] σ' H' s' -> RelV v u -> Q v H' -> CE outer P w H s Q u s' :=
  fun {σ' H' v u} J rv q => ⟨v, H', J.os, J.bare, J.base, J.hok, rv, q⟩
 cases fl with
 | ret u =>
  obtain ⟨v, σ', H', J, rv, q⟩ := hs
  exact fin J rv q
 | next =>
  obtain ⟨σ', H', J, q⟩ := hs
  exact fin (v := V.non) (u := Value.none) J rfl q
 | brk =>
  obtain ⟨_, _, _, q⟩ := hs
  exact False.elim q
 | cont =>
  obtain ⟨_, _, _, q⟩ := hs
  exact False.elim q
section
variable {X : Cx} {x : Str} {p pos : Pos} {e : Expr} {es : List Expr} {t : TA} {id T : String} {r : List V -> Hp -> VK -> Prop}
noncomputable def tCB (r : List V -> Hp -> VK -> Prop) (t : TA) : TE := fun σ H Q => t σ H fun vs H1 => r vs H1 Q
theorem fu (hc : Ah X (.builtin id) r) (hg : Gl X x) (hm : X.mg x = none) (hv : bootBuiltins x = some (.builtin id)) (ha : PA X (e :: es) t) (hn : x ≠ "__name__" := by decide) (hdb : (x == ("__debug__" : Str)) = false := by decide)
  (he : starEach (e :: es) X.env = (false, eval e X.env) :: starEach es X.env := by rfl) (hpl : (backTo pos (starEach es X.env)).any (·.1) = false := by rfl) : PE X (.Call (.Name x p) (e :: es) [] pos) (tCB r t) := by
 intro pins s σ H Q I h
 refine wpAny_Call_Name_kw (eO I hg hm hv ?_ hn hdb)
 exact callWith_builtin1 (thn (ha pos pins s σ H _ I h) fun us s1 ⟨vs, H1, I1, r1, q1⟩ => hc pins s1 σ H1 vs us Q I1 r1 q1) he hpl
theorem jn (hc : Ah X (.type T) r) (hg : Gl X x) (hm : X.mg x = none) (hv : bootBuiltins x = some (.type T)) (ha : PA X (e :: es) t) (hn : x ≠ "__name__" := by decide) (hdb : (x == ("__debug__" : Str)) = false := by decide)
  (he : starEach (e :: es) X.env = (false, eval e X.env) :: starEach es X.env := by rfl) (hpl : (backTo pos (starEach es X.env)).any (·.1) = false := by rfl) : PE X (.Call (.Name x p) (e :: es) [] pos) (tCB r t) := by
 intro pins s σ H Q I h
 refine wpAny_Call_Name_kw (eO I hg hm hv ?_ hn hdb)
 exact callWith_type1 (thn (ha pos pins s σ H _ I h) fun us s1 ⟨vs, H1, I1, r1, q1⟩ => hc pins s1 σ H1 vs us Q I1 r1 q1) he hpl
end
end L2
namespace HT
open PySem PyProof.Rows
noncomputable def lexLt : List Int -> List Int -> Bool
 | [], [] => false
 | [], _ :: _ => true
 | _ :: _, [] => false
 | x :: xs, y :: ys => if x = y then lexLt xs ys else decide (x < y)
theorem hJ (x y : Int) (xs ys : List Int) : lexLt (x :: xs) (y :: ys) = if x = y then lexLt xs ys else decide (x < y) := rfl
theorem eu : lexLt [] [] = false := rfl
theorem hW (y : Int) (ys : List Int) : lexLt [] (y :: ys) = true := rfl
theorem hX (x : Int) (xs : List Int) : lexLt (x :: xs) [] = false := rfl
theorem pR (A : Around) (s : Shared) (a : Int) (t : Tok) (c : Int) (u : Tok) : ∃ e, SeqAt.EqAt A s (.int a t) (.int c u) e /\ (e = true ↔ a = c) :=
 ⟨(a == c), SeqAt.EqAt.int_int a t c u, by simp⟩
theorem pU (A : Around) (s : Shared) (a : Int) (t : Tok) (c : Int) (u : Tok) (prog : Program) (w : World) (E : zx) (Q : zx) (h : Q (.bool (decide (a < c))) s) :
  wpAny (model prog w) A (richCompare .Lt (.int a t) (.int c u)) Q E s :=
 (lt_int h : wpAny (model prog w) A (compareOp .Lt (.int a t) (.int c u)) Q E s)
section
open PySem.SeqAt
open PySem.AutoSeq1 (wpAny_loadPart')
open PySem.MeetsSeq PySem.MeetsSeq2 PySem.MeetsSeq3
end
section
variable {prog : Program} {w : World} {A : Around} {E : zx} {s : Shared}
theorem rP {t b : Addr} {vs ws : List Value} {Q : zx} (ht : IsTup s.heap t vs.toArray) (hb : IsTup s.heap b ws.toArray) (hv : vs ≠ [])
  (h1 : ws = [] -> Q (.ref t) s) (h2 : ws ≠ [] -> Q (.ref s.heap.objs.size) { s with heap := s.heap.push { cls := .type "tuple", data := .seq (vs ++ ws).toArray } })
  (hsz : vs.length + ws.length <= sizeLine) : wpAny (model prog w) A (binaryOp .Add (.ref t) (.ref b)) Q E s := by
 obtain ⟨⟨cls, dd, data, sl⟩, ho, hc, n, hd⟩ := id ht
 obtain ⟨⟨cls2, dd2, data2, sl2⟩, ho2, hc2, n2, hd2⟩ := id hb
 simp only at hc hd hc2 hd2
 subst hc hd hc2 hd2
 have e : vs.toArray ++ ws.toArray = (vs ++ ws).toArray := by simp
 by_cases hw : ws = []
 ·exact concat_meets ⟨_, ho, rfl⟩ ⟨_, ho2, rfl⟩ noFill_tuple_add seq_tuple_add PySem.F.slot_tuple_add PySem.F.entry_tuple_add (PySem.F.args_tuple_add_2 _ _)
   (tuple_addW1 t b vs.toArray ws.toArray n n2 dd dd2 sl sl2 (by simpa using hv) (by simp [hw])) ⟨ho, ho2, h1 hw⟩
 ·refine concat_meets ⟨_, ho, rfl⟩ ⟨_, ho2, rfl⟩ noFill_tuple_add seq_tuple_add PySem.F.slot_tuple_add PySem.F.entry_tuple_add (PySem.F.args_tuple_add_2 _ _)
   (tuple_addW2 t b vs.toArray ws.toArray n n2 dd dd2 sl sl2 (by simpa using hv) (by simpa using hw) (by rw [List.size_toArray, List.size_toArray]; exact hsz)) ⟨ho, ho2, ?_⟩
  rw [e]
  exact h2 hw
noncomputable def sIx (n d : Nat) : Option Int -> Nat
 | none => d
 | some v => if v < 0 then (v + (n : Int)).toNat else min v.toNat n
theorem pW (n d : Nat) : sIx n d none = d := rfl
theorem nz (n d k : Nat) : sIx n d (some (k : Int)) = min k n := by
 show (if (k : Int) < 0 then ((k : Int) + (n : Int)).toNat else min (k : Int).toNat n) = min k n
 rw [if_neg (by lia), Int.toNat_natCast]
theorem uF (n d : Nat) (hd : d <= n) (o : Option Int) : sIx n d o <= n := by
 cases o with
 | none => exact hd
 | some v =>
  show (if v < 0 then (v + (n : Int)).toNat else min v.toNat n) <= n
  by_cases hv : v < 0
  ·rw [if_pos hv]; lia
  ·rw [if_neg hv]; exact Nat.min_le_right _ _
theorem nA (v : Int) (n d : Nat) : (if v < 0 then max (v + (n : Int)) 0 else min v (n : Int)) = ((sIx n d (some v) : Nat) : Int) := by
 show (if v < 0 then max (v + (n : Int)) 0 else min v (n : Int)) = (((if v < 0 then (v + (n : Int)).toNat else min v.toNat n) : Nat) : Int)
 by_cases hv : v < 0
 ·simp only [if_pos hv]; lia
 ·simp only [if_neg hv]; lia
theorem my (lo hi : Option Int) (n : Nat) : Builtin.Slice.sliceAdjust lo hi 1 (n : Int) = (((sIx n 0 lo : Nat) : Int), ((sIx n n hi : Nat) : Int)) := by
 have h1 : ¬ ((1 : Int) < 0) := by lia
 unfold Builtin.Slice.sliceAdjust
 simp only [h1, if_false]
 refine Prod.ext ?_ ?_
 ·cases lo with
  | none => rfl
  | some v => exact nA v n 0
 ·cases hi with
  | none => rfl
  | some v => exact nA v n n
theorem mz (i j : Nat) : Builtin.Slice.slicePlaces (i : Int) (j : Int) 1 = j - i := by
 unfold Builtin.Slice.slicePlaces
 have h1 : (1 : Int) > 0 := by lia
 simp only [h1, if_true, Int.ediv_one]
 split <;> lia
theorem hZ {v : Value} {o : Option Int} {Q : Option Int -> Shared -> Prop} (p : IsPart v o) (h : Q o s) : wpAny (model prog w) A (Builtin.Slice.slicePartIndex v) Q E s := by
 cases p with
 | none => exact slicePart_none h
 | int i t => exact slicePart_int h
theorem cD {sl : Addr} {vl vu : Value} {lo hi : Option Int} {n : Nat} {Q : Int × Int × Nat -> Shared -> Prop} (hs : s.heap.IsSliceOf sl vl vu .none) (pl : IsPart vl lo) (pu : IsPart vu hi)
  (h : Q (((sIx n 0 lo : Nat) : Int), 1, sIx n n hi - sIx n 0 lo) s) : wpAny (model prog w) A (Builtin.Slice.sliceApplied (.ref sl) (pure (n : Int))) Q E s := by
 obtain ⟨os, hos, hcs, hds⟩ := id hs
 unfold Builtin.Slice.sliceApplied Builtin.Slice.sliceFields
 refine wpAny_bind (wpAny_bind (wpAny_field hos hds (x := vl) rfl (wpAny_bind (wpAny_field hos hds (x := vu) rfl (wpAny_bind (wpAny_field hos hds (x := .none) rfl (wpAny_pure ?_)))))))
 refine wpAny_bind (slicePart_none ?_)
 show wpAny _ _ (if ((1 : Int) == 0) = true then _ else _) _ _ s
 rw [if_neg (by decide)]
 refine wpAny_bind (hZ pl (wpAny_bind (hZ pu (wpAny_bind (wpAny_pure ?_)))))
 show wpAny _ _ (match Builtin.Slice.sliceAdjust lo hi 1 (n : Int) with | (lo, hi) => pure (lo, (1 : Int), Builtin.Slice.slicePlaces lo hi 1)) _ _ s
 rw [my lo hi n]
 show wpAny _ _ (pure (((sIx n 0 lo : Nat) : Int), (1 : Int), Builtin.Slice.slicePlaces ((sIx n 0 lo : Nat) : Int) ((sIx n n hi : Nat) : Int) 1)) _ _ s
 rw [mz]
 exact wpAny_pure h
theorem pX (xs : Array Value) (i k : Nat) : ((List.range k).filterMap fun (m : Nat) => xs[((i : Int) + (m : Int) * 1).toNat]?).toArray = ((xs.toList.drop i).take k).toArray := by
 have e : (fun (m : Nat) => xs[((i : Int) + (m : Int) * 1).toNat]?) = fun m => xs[i + m]? := by
  funext m
  have : ((i : Int) + (m : Int) * 1).toNat = i + m := by lia
  rw [this]
 rw [e]
 have := pick_run xs i k
 rw [List.filterMap_map] at this
 have e2 : ((fun x => xs[x]?) ∘ fun x => i + x) = fun m => xs[i + m]? := rfl
 rw [e2] at this
 rw [this]
theorem fv {t sl : Addr} {items : Array Value} {vl vu : Value} {lo hi : Option Int} {Q : zx} (ht : IsTup s.heap t items) (hs : s.heap.IsSliceOf sl vl vu .none) (pl : IsPart vl lo) (pu : IsPart vu hi)
  (hw : ¬ (sIx items.size 0 lo = 0 /\ sIx items.size items.size hi = items.size))
  (h : Q (.ref s.heap.objs.size) { s with heap := s.heap.push { cls := .type "tuple", data := .seq ((items.toList.drop (sIx items.size 0 lo)).take (sIx items.size items.size hi - sIx items.size 0 lo)).toArray } })
  (hsz : items.size <= sizeLine) : wpAny (model prog w) A (getItem (.ref t) (.ref sl)) Q E s := by
 have htake : sizeOk (.seq ((items.toList.drop (sIx items.size 0 lo)).take (sIx items.size items.size hi - sIx items.size 0 lo)).toArray) := by
  show ((items.toList.drop (sIx items.size 0 lo)).take (sIx items.size items.size hi - sIx items.size 0 lo)).toArray.size <= sizeLine
  rw [List.size_toArray, List.length_take, List.length_drop, Array.length_toList]
  lia
 have hj : sIx items.size items.size hi <= items.size := uF _ _ (Nat.le_refl _) hi
 obtain ⟨os, hos, hcs, hds⟩ := id hs
 have hTs : s.TypeIs (.ref sl) "slice" := ⟨os, hos, hcs⟩
 unfold getItem
 try with_reducible refine wpAny_holding ?_
 first | refine wpAny_bind (wpAny_pure ?_) | skip
 refine wpAny_bind (wpAny_sequenceKey ht.typeIs (by decide) ?_)
 refine wpAny_bind (wpAny_callSpecial?_slot (name := Str.ofString "__getitem__") ht.typeIs slot_tuple_getitem
  (wpAny_call_entry slot_tuple_getitem ht.typeIs entry_tuple_getitem ?_ (args_tuple_getitem _ _)))
 show wpAny _ _ (Builtin.Tuple.tupleItemsOf (.ref t) >>= _) _ _ s
 refine wpAny_bind (tupleItemsOf_ ht ?_)
 refine wpAny_bind (wpAny_typeOf hTs ?_)
 rw [if_pos (by decide)]
 refine wpAny_bind (cD hs pl pu ?_)
 have hno : ¬ ((((sIx items.size 0 lo : Nat) : Int) == 0 && (1 : Int) == 1 && (sIx items.size items.size hi - sIx items.size 0 lo) == items.size) = true) := by
  intro q
  rw [Bool.and_eq_true, Bool.and_eq_true] at q
  have q1 : ((sIx items.size 0 lo : Nat) : Int) = 0 := eq_of_beq q.1.1
  have q2 : sIx items.size items.size hi - sIx items.size 0 lo = items.size := eq_of_beq q.2
  exact hw ⟨by lia, by lia⟩
 show wpAny _ _ (if (((sIx items.size 0 lo : Nat) : Int) == 0 && (1 : Int) == 1 && (sIx items.size items.size hi - sIx items.size 0 lo) == items.size) = true then _ else _) _ _ s
 rw [if_neg hno, pX]
 first
  | exact wpAny_bind (m := Builtin.Tuple.tupleExact _) (wpAny_newObj_type (wpAny_pure ⟨_, rfl, wpAny_pure h⟩) htake)
  | exact wpAny_bind (m := Builtin.Tuple.tupleExact _) (wpAny_newObj_type (wpAny_bind (wpAny_pure (wpAny_pure ⟨_, rfl, wpAny_pure h⟩))) htake)
  | exact wpAny_bind (wpAny_bind (m := Builtin.Tuple.tupleExact _) (wpAny_newObj_type (wpAny_pure (wpAny_pure ⟨_, rfl, wpAny_pure h⟩)) htake))
  | exact wpAny_bind (wpAny_bind (m := Builtin.Tuple.tupleExact _) (wpAny_newObj_type (wpAny_pure ⟨_, rfl, wpAny_pure h⟩) htake))
end
end HT
namespace L2
open PySem PySem.Spec PyProof.Rows
abbrev TO := St -> Hp -> (Option Int -> Hp -> Prop) -> Prop
noncomputable def PO (X : Cx) (e : Option Expr) (t : TO) : Prop :=
 ∀ (pins : zw) (s : Shared) (σ : St) (H : Hp) (Q : Option Int -> Hp -> Prop), Inv X pins σ H s -> t σ H Q ->
  wpAny (model X.prog X.w) X.A (evalPart e X.env) (fun u s' => ∃ o H', Inv X pins σ H' s' /\ IsPart u o /\ Q o H') X.xe s
def Bj : TO := fun _ H Q => Q none H
noncomputable def BD (t : TE) : TO := fun σ H Q => t σ H fun x H1 => ∃ i, x = .int i /\ Q (some i) H1
theorem eQ {ns : List Int} : ∀ {us : List Value}, Vals (ns.map V.int) us -> IntsAre us ns := by
 induction ns with
 | nil => intro us r; rw [List.map_nil] at r; cases r; exact .nil
 | cons n ns ih =>
  intro us r
  rw [List.map_cons] at r
  cases r with
  | cons r1 r2 =>
   obtain ⟨t, e⟩ := r1
   subst e
   exact .cons n t (ih r2)
section
variable {X : Cx} {e : Expr} {te : TE} {lo hi : Option Expr} {tl th : TO} {pos p2 : Pos}
theorem nB : PO X none Bj := by
 intro pins s σ H Q I h
 rw [evalPart_none]
 exact wpAny_pure ⟨none, H, I, .none, h⟩
theorem nC (h : PE X e te) : PO X (some e) (BD te) := by
 intro pins s σ H Q I hw
 rw [evalPart_some]
 refine thn (h pins s σ H _ I hw) fun u s1 ⟨x, H1, I1, r1, q1⟩ => ?_
 obtain ⟨i, rfl, q⟩ := q1
 obtain ⟨t, rfl⟩ := r1
 exact ⟨some i, H1, I1, .int i t, q⟩
noncomputable def SlR (X : Cx) (r : V -> Option Int -> Option Int -> Hp -> VK -> Prop) : Prop :=
 ∀ (pins : zw) (s : Shared) (σ : St) (H : Hp) (x : V) (v vl vu : Value) (lo hi : Option Int) (sl : Addr) (Q : VK), Inv X pins σ H s -> RelV x v -> s.heap.IsSliceOf sl vl vu .none -> IsPart vl lo -> IsPart vu hi -> r x lo hi H Q ->
  ∃ T id, typeLookup (.type T) "__getitem__" = pure (some (.builtin id)) /\ s.TypeIs v T /\ wpAny (model X.prog X.w) X.A (getItem v (.ref sl)) (EP X pins σ Q) X.xe s
theorem SlR.or {r r' : V -> Option Int -> Option Int -> Hp -> VK -> Prop} (h : SlR X r) (h' : SlR X r') : SlR X (fun x lo hi H Q => r x lo hi H Q \/ r' x lo hi H Q) := by
 intro pins s σ H x v vl vu lo hi sl Q I rx hs pl pu q
 rcases q with q | q
 ·exact h pins s σ H x v vl vu lo hi sl Q I rx hs pl pu q
 ·exact h' pins s σ H x v vl vu lo hi sl Q I rx hs pl pu q
noncomputable def tSl (r : V -> Option Int -> Option Int -> Hp -> VK -> Prop) (te : TE) (tl th : TO) : TE := fun σ H Q => te σ H fun x H1 => tl σ H1 fun l H2 => th σ H2 fun u H3 => r x l u H3 Q
theorem kR {r : V -> Option Int -> Option Int -> Hp -> VK -> Prop} (hr : SlR X r) (he : PE X e te) (hl : PO X lo tl) (hu : PO X hi th) : PE X (.Subscript e (.Slice lo hi none p2) pos) (tSl r te tl th) := by
 intro pins s σ H Q I h
 refine Subscript_ (thn (he pins s σ H _ I h) fun v s1 ⟨x, H1, I1, r1, q1⟩ => ?_)
 refine wpAny_Slice (thn (hl pins s1 σ H1 _ I1 q1) fun vl s2 ⟨l, H2, I2, pl, q2⟩ => thn (hu pins s2 σ H2 _ I2 q2) fun vu s3 ⟨u, H3, I3, pu, q3⟩ => ?_)
 rw [evalPart_none]
 refine wpAny_pure ?_
 have I4 : Inv X pins σ H3 { s3 with heap := s3.heap.push { cls := .type "slice", data := .fields #[vl, vu, .none] } } := I3.kept (t' := s3.toks) fun b ob q => Heap.get?_push_of_some _ q
 obtain ⟨T, id, hT, ht, hg⟩ := hr pins { s3 with heap := s3.heap.push { cls := .type "slice", data := .fields #[vl, vu, .none] } } σ H3 x v vl vu l u s3.heap.objs.size Q I4 r1 (Heap.IsSliceOf.new ..) pl pu q3
 show wpAny (model X.prog X.w) X.A (subscriptTail e (.Slice lo hi none p2) v (.ref s3.heap.objs.size)) (EP X pins σ Q) X.xe { s3 with heap := s3.heap.push { cls := .type "slice", data := .fields #[vl, vu, .none] } }
 exact tail_any (ops := [.ref s3.heap.objs.size, v]) ht hT hg (by with_unfolding_all rfl)
noncomputable def cutV (xs : List V) (lo hi : Option Int) : List V := (xs.drop (HT.sIx xs.length 0 lo)).take (HT.sIx xs.length xs.length hi - HT.sIx xs.length 0 lo)
theorem gu (xs : List V) (lo hi : Option Int) : (cutV xs lo hi).length <= xs.length := by
 unfold cutV
 rw [List.length_take, List.length_drop]
 lia
noncomputable def rSlT (K : W.Frag) : V -> Option Int -> Option Int -> Hp -> VK -> Prop := fun x lo hi H Q => ∃ a xs, x = .ref a /\ SqT K H a xs /\
 ¬ (HT.sIx xs.length 0 lo = 0 /\ HT.sIx xs.length xs.length hi = xs.length) /\ ∀ p, H p = none -> Q (.ref p) (upd H p (.tup (cutV xs lo hi)))
theorem pY : SlR X (rSlT X.K) := by
 intro pins s σ H x v vl vu lo hi sl Q I rx hs pl pu h
 obtain ⟨a, xs, rfl, hx, hw, q⟩ := h
 cases rx
 obtain ⟨its, r, ht, hz⟩ := I.tuple hx
 have hlen : its.toArray.size = xs.length := by rw [List.size_toArray]; exact r.length.symm
 refine ⟨"tuple", _, slot_tuple_getitem.lookup, ht.typeIs, ?_⟩
 refine HT.fv ht hs pl pu (by rw [hlen]; exact hw) ?_ (by rw [hlen]; exact hz)
 rw [hlen]
 refine ⟨.ref s.heap.objs.size, _, I.laid (t' := s.toks) (o := .tup (cutV xs lo hi)) (fun b ob q => Heap.get?_push_of_some _ q) (Nat.le_refl _) ?_, rfl, q _ (I.hok.fresh (Nat.le_refl _))⟩
 exact ⟨Nat.le_trans (gu xs lo hi) hz, _, (r.drop (HT.sIx xs.length 0 lo)).take (HT.sIx xs.length xs.length hi - HT.sIx xs.length 0 lo), IsTup.new _ _⟩
noncomputable def BR (K : W.Frag) : R2 := fun x y H Q => ∃ a b xs ys, x = .ref a /\ y = .ref b /\ SqT K H a xs /\ SqT K H b ys /\ xs ≠ [] /\ xs.length + ys.length <= sizeLine /\
 (ys = [] -> Q (.ref a) H) /\ (ys ≠ [] -> ∀ p, H p = none -> Q (.ref p) (upd H p (.tup (xs ++ ys))))
theorem Vals.nil_iff {xs : List V} {us : List Value} (r : Vals xs us) : us = [] ↔ xs = [] := by
 cases r with
 | nil => simp
 | cons _ _ => simp
theorem rQ : OpR X (binaryOp .Add) (BR X.K) := by
 intro pins s σ H x y v u Q I rx ry h
 obtain ⟨a, b, xs, ys, rfl, rfl, ha, hb, hx, hz, q1, q2⟩ := h
 cases rx
 cases ry
 obtain ⟨its, r1, p1, _⟩ := I.tuple ha
 obtain ⟨its2, r2, p2, _⟩ := I.tuple hb
 refine HT.rP p1 p2 (fun z => hx (r1.nil_iff.mp z)) (fun z => ⟨.ref a, H, I, rfl, q1 (r2.nil_iff.mp z)⟩) (fun z => ?_) (by rw [<- r1.length, <- r2.length]; exact hz)
 refine ⟨.ref s.heap.objs.size, _, I.laid (t' := s.toks) (o := .tup (xs ++ ys)) (fun b ob q => Heap.get?_push_of_some _ q) (Nat.le_refl _) ?_, rfl, q2 (fun w => z (r2.nil_iff.mpr w)) _ (I.hok.fresh (Nat.le_refl _))⟩
 exact ⟨by rw [List.length_append]; exact hz, _, r1.append r2, IsTup.new _ _⟩
end
noncomputable def ixN (n : Nat) (i : Int) : Option Nat := if 0 <= i then (if i < n then some i.toNat else none) else if -(n : Int) <= i then some (i + n).toNat else none
noncomputable def atI {α : Type} (xs : List α) (i : Int) : Option α := (ixN xs.length i).bind fun j => xs[j]?
theorem rR {n : Nat} {i : Int} {j : Nat} (h : ixN n i = some j) : seqIndex? i n = some j /\ j < n /\ -(n : Int) <= i /\ i < n := by
 unfold ixN at h
 by_cases h0 : 0 <= i
 ·rw [if_pos h0] at h
  by_cases h1 : i < n
  ·rw [if_pos h1] at h
   have e : i.toNat = j := Option.some.inj h
   exact ⟨by rw [seqIndex_of h0 h1, e], by lia, by lia, h1⟩
  ·rw [if_neg h1] at h; cases h
 ·rw [if_neg h0] at h
  by_cases h1 : -(n : Int) <= i
  ·rw [if_pos h1] at h
   have e : (i + n).toNat = j := Option.some.inj h
   exact ⟨by rw [seqIndex_neg (by lia) h1, e], by lia, h1, by lia⟩
  ·rw [if_neg h1] at h; cases h
theorem nD {α : Type} {xs : List α} {i : Int} {v : α} (h : atI xs i = some v) : ∃ j, seqIndex? i xs.length = some j /\ xs[j]? = some v /\ j < xs.length /\ -(xs.length : Int) <= i /\ i < xs.length := by
 unfold atI at h
 cases e : ixN xs.length i with
 | none => rw [e] at h; cases h
 | some j =>
  rw [e] at h
  obtain ⟨h1, h2, h3, h4⟩ := rR e
  exact ⟨j, h1, h, h2, h3, h4⟩
noncomputable def B8 (b : Expr) : Prop := ∀ o i, subscripted b false o i = operate [o, i] (getItem o i)
noncomputable def IxR (X : Cx) (r : R2) : Prop :=
 ∀ (value slice : Expr) (pins : zw) (s : Shared) (σ : St) (H : Hp) (x y : V) (v u : Value) (Q : VK), Inv X pins σ H s -> RelV x v -> RelV y u -> r x y H Q ->
  subscripted slice false v u = operate [v, u] (getItem v u) -> wpAny (model X.prog X.w) X.A (subscriptTail value slice v u) (EP X pins σ Q) X.xe s
noncomputable def MtR (X : Cx) (id : String) (r : V -> List V -> Hp -> VK -> Prop) : Prop :=
 ∀ (pins : zw) (s : Shared) (σ : St) (H : Hp) (x : V) (xs : List V) (v : Value) (us : List Value) (Q : VK), Inv X pins σ H s -> RelV x v -> Vals xs us -> r x xs H Q ->
  wpAny (model X.prog X.w) X.A (call (.builtin id) (v :: us)) (EP X pins σ Q) X.xe s
section
variable {X : Cx} {a b : Expr} {ta tb : TE} {pos : Pos}
theorem IxR.or {r r' : R2} (h : IxR X r) (h' : IxR X r') : IxR X (fun x y H Q => r x y H Q \/ r' x y H Q) := by
 intro value slice pins s σ H x y v u Q I rx ry q hs
 rcases q with q | q
 ·exact h value slice pins s σ H x y v u Q I rx ry q hs
 ·exact h' value slice pins s σ H x y v u Q I rx ry q hs
theorem nE {r : R2} (hr : IxR X r) (ha : PE X a ta) (hb : PE X b tb) (hs : B8 b) : PE X (.Subscript a b pos) (tOp r ta tb) := by
 intro pins s σ H Q I h
 exact Subscript_ (binT ha hb I h fun v u s2 x y H2 I2 rx ry q => hr a b pins s2 σ H2 x y v u Q I2 rx ry q (hs _ _))
noncomputable def rIxL (K : W.Frag) : R2 := fun x y H Q => ∃ p xs i v, x = .ref p /\ y = .int i /\ SqL K H p xs /\ atI xs i = some v /\ Q v H
noncomputable def rIxT (K : W.Frag) : R2 := fun x y H Q => ∃ p xs i v, x = .ref p /\ y = .int i /\ SqT K H p xs /\ atI xs i = some v /\ Q v H
theorem rS : IxR X (rIxL X.K) := by
 intro value slice pins s σ H x y v u Q I rx ry h hs
 obtain ⟨p, xs, i, z, rfl, rfl, hq, he, q⟩ := h
 cases rx
 obtain ⟨t, rfl⟩ := ry
 obtain ⟨its, r, pl, hz⟩ := I.list hq
 obtain ⟨j, h1, h2, h3, h4, h5⟩ := nD he
 obtain ⟨w, ew, rw'⟩ := r.get h2
 have hl := r.length
 have hn := line63
 have fin : EP X pins σ Q w s := ⟨z, H, I, rw', q⟩
 by_cases h0 : 0 <= i
 ·have hj : i.toNat = j := by
   rw [seqIndex_of h0 h5] at h1
   exact Option.some.inj h1
  exact item_listR pl.isList h0 (by lia) (by rw [hj]; simpa using ew) fin hs
 ·have hj : (i + (its.toArray.size : Int)).toNat = j := by
   rw [seqIndex_neg (by lia) h4] at h1
   rw [List.size_toArray, <- hl]
   exact Option.some.inj h1
  exact subscriptTail_builtinR (x := w) pl.isList.typeIs slot_list_getitem.lookup
   (wpAny_getItem_list_neg (Q := fun r s' => r = w /\ EP X pins σ Q r s') pl.isList (by lia) (by rw [List.size_toArray] <;> lia) (by lia) (by rw [hj]; simpa using ew) ⟨rfl, fin⟩) hs
theorem jR : IxR X (rIxT X.K) := by
 intro value slice pins s σ H x y v u Q I rx ry h hs
 obtain ⟨p, xs, i, z, rfl, rfl, hq, he, q⟩ := h
 cases rx
 obtain ⟨t, rfl⟩ := ry
 obtain ⟨its, r, pl, hz⟩ := I.tuple hq
 obtain ⟨j, h1, h2, h3, h4, h5⟩ := nD he
 obtain ⟨w, ew, rw'⟩ := r.get h2
 have hl := r.length
 have hn := line63
 have fin : EP X pins σ Q w s := ⟨z, H, I, rw', q⟩
 exact subscriptTail_builtinR (x := w) pl.typeIs slot_tuple_getitem.lookup
  (getItem_tuple (j := j) (Q := fun r s' => r = w /\ EP X pins σ Q r s') pl (by lia) (by lia) (by rw [List.size_toArray, <- hl]; exact h1) (by simpa using ew) ⟨rfl, fin⟩) hs
theorem jS (lo hi : Option Int) (n : Nat) : (sliceBounds lo hi none n).1 = ((HT.sIx n 0 lo : Nat) : Int) /\ (sliceBounds lo hi none n).2.1 = ((HT.sIx n n hi : Nat) : Int) /\ (sliceBounds lo hi none n).2.2 = 1 := by
 refine ⟨?_, ?_, rfl⟩
 ·cases lo with
  | none => simp [sliceBounds, HT.sIx]
  | some i =>
   simp only [sliceBounds, HT.sIx, Option.getD_none, show (1 : Int) > 0 by decide, if_true]
   by_cases h : i < 0
   ·simp only [h, if_true] <;> lia
   ·simp only [h, if_false] <;> lia
 ·cases hi with
  | none => simp [sliceBounds, HT.sIx]
  | some i =>
   simp only [sliceBounds, HT.sIx, Option.getD_none, show (1 : Int) > 0 by decide, if_true]
   by_cases h : i < 0
   ·simp only [h, if_true] <;> lia
   ·simp only [h, if_false] <;> lia
theorem jc (its : List Value) (lo hi : Option Int) : slicePick its.toArray lo hi none = ((its.drop (HT.sIx its.length 0 lo)).take (HT.sIx its.length its.length hi - HT.sIx its.length 0 lo)).toArray := by
 obtain ⟨h1, h2, h3⟩ := jS lo hi its.toArray.size
 unfold slicePick
 rw [h1, h2, h3]
 simp only [sliceRange_one, pick_run, List.size_toArray] <;> rfl
noncomputable def rSlL (K : W.Frag) : V -> Option Int -> Option Int -> Hp -> VK -> Prop := fun x lo hi H Q => ∃ a xs, x = .ref a /\ SqL K H a xs /\ ∀ p, H p = none -> Q (.ref p) (upd H p (.lst (cutV xs lo hi)))
theorem rT : SlR X (rSlL X.K) := by
 intro pins s σ H x v vl vu lo hi sl Q I rx hs pl pu h
 obtain ⟨a, xs, rfl, hx, q⟩ := h
 cases rx
 obtain ⟨its, r, ht, hz⟩ := I.list hx
 have hlen := r.length
 refine ⟨"list", _, slot_list_getitem.lookup, ht.isList.typeIs, ?_⟩
 refine wpAny_getItem_list_slice ht.isList hs pl pu .none (by simp) ?_ (by rw [List.size_toArray] <;> lia)
 rw [jc, <- hlen]
 refine ⟨.ref s.heap.objs.size, _, I.laid (t' := s.toks) (o := .lst (cutV xs lo hi)) (fun b ob q => Heap.get?_push_of_some _ q) (Nat.le_refl _) ?_, rfl, q _ (I.hok.fresh (Nat.le_refl _))⟩
 exact ⟨Nat.le_trans (gu xs lo hi) hz, _, 0, (r.drop (HT.sIx xs.length 0 lo)).take (HT.sIx xs.length xs.length hi - HT.sIx xs.length 0 lo), Heap.get?_push_size _ rfl⟩
theorem cR : Ah X (.builtin "len") (fun xs H Q => ∃ p ys, xs = [.ref p] /\ (SqL X.K H p ys \/ SqT X.K H p ys) /\ Q (.int ys.length) H) := by
 intro pins s σ H xs us Q I r h
 obtain ⟨p, ys, rfl, hq, q⟩ := h
 obtain ⟨u, rfl, rx⟩ := vals1 r
 cases rx
 have hn := line63
 rcases hq with hq | hq
 ·obtain ⟨its, r', pl, hz⟩ := I.list hq
  have hlen := r'.length
  exact Calls.call_len_list pl.isList (by simp only [List.size_toArray] <;> lia) ⟨.int ys.length, H, I.tok _, ⟨s.toks + 1, by rw [List.size_toArray, hlen]⟩, q⟩
 ·obtain ⟨its, r', pl, hz⟩ := I.tuple hq
  have hlen := r'.length
  exact len_tuple pl (by simp only [List.size_toArray] <;> lia) ⟨.int ys.length, H, I.tok _, ⟨s.toks + 1, by rw [List.size_toArray, hlen]⟩, q⟩
theorem jd : Ah X (.type "tuple") (fun xs H Q => ∃ p ys, xs = [.ref p] /\ ((SqL X.K H p ys /\ ∀ l, H l = none -> Q (.ref l) (upd H l (.tup ys))) \/ (SqT X.K H p ys /\ Q (.ref p) H))) := by
 intro pins s σ H xs us Q I r h
 obtain ⟨p, ys, rfl, h⟩ := h
 obtain ⟨u, rfl, rx⟩ := vals1 r
 cases rx
 rcases h with ⟨hq, q⟩ | ⟨hq, q⟩
 ·obtain ⟨its, r', pl, hz⟩ := I.list hq
  have hlen := r'.length
  refine call_tuple_list pl.isList (fun h' kp => ?_) (by simp only [List.size_toArray] <;> lia)
  have I1 : Inv X pins σ H { s with heap := h' } := I.kept (t' := s.toks) kp
  have I2 : Inv X pins σ (upd H h'.objs.size (.tup ys)) { s with heap := h'.push { cls := .type "tuple", data := .seq its.toArray } } :=
   I1.laid (t' := s.toks) (fun b o e => Heap.get?_push_of_some _ e) (Nat.le_refl _) (show zY X.prog X.w _ _ _ (.tup ys) from ⟨hz, its, r', IsTup.new _ _⟩)
  exact ⟨.ref h'.objs.size, _, I2, rfl, q _ (I1.hok.fresh (Nat.le_refl _))⟩
 ·obtain ⟨its, r', pl, hz⟩ := I.tuple hq
  exact call_tuple_same pl ⟨.ref p, H, I, rfl, q⟩
noncomputable def tyV (K : W.Frag) (T : String) (x : V) (H : Hp) : Prop := match x with
 | .str _ => T = "str"
 | .int _ => T = "int"
 | .ref p => (T = "list" /\ ∃ xs, SqL K H p xs) \/ (T = "tuple" /\ ∃ o, K.lookup p = some o /\ o.cls = .type "tuple" /\ o.dict = none) \/
   (T = "dict" /\ ((∃ kvs, H p = some (.dK kvs)) \/ ∃ kvs, H p = some (.dT kvs))) \/ (T = "set" /\ ∃ S n, H p = some (.set S n))
 | _ => False
theorem pZ {pins : zw} {σ : St} {H : Hp} {s : Shared} {T : String} {x : V} {v : Value} (I : Inv X pins σ H s) (r : RelV x v) (ty : tyV X.K T x H) :
  s.TypeIs v T /\ ∀ a, v = .ref a -> ∃ ob, s.heap.get? a = some ob /\ ob.dict = none := by
 cases x with
 | str z =>
  obtain ⟨t, rfl⟩ := r
  cases (show T = "str" from ty)
  exact ⟨typeIs_str s z t, fun _ e => nomatch e⟩
 | int i =>
  obtain ⟨t, rfl⟩ := r
  cases (show T = "int" from ty)
  exact ⟨typeIs_int s i t, fun _ e => nomatch e⟩
 | ref p =>
  cases r
  rcases ty with ⟨rfl, xs, hq⟩ | ⟨rfl, o, hk, hc, hd⟩ | ⟨rfl, hk⟩ | ⟨rfl, S, n, hk⟩
  ·obtain ⟨its, _, pl, _⟩ := I.list hq
   refine ⟨pl.isList.typeIs, fun a e => ?_⟩
   cases e
   obtain ⟨o, n, e, c, hd, _⟩ := pl
   exact ⟨o, e, hd⟩
  ·refine ⟨⟨o, I.kIn p o hk, hc⟩, fun a e => ?_⟩
   cases e
   exact ⟨o, I.kIn _ o hk, hd⟩
  ·have z : ∃ o, s.heap.get? p = some o /\ o.ExactDict := by
    rcases hk with ⟨kvs, hk⟩ | ⟨kvs, hk⟩
    ·obtain ⟨_, _, _, _, o, _, _, e, ex, _⟩ := I.hok p _ hk
     exact ⟨o, e, ex⟩
    ·obtain ⟨_, _, _, _, o, _, _, e, ex, _⟩ := I.hok p _ hk
     exact ⟨o, e, ex⟩
   obtain ⟨o, e, ex⟩ := z
   refine ⟨⟨o, e, ex.1⟩, fun a e2 => ?_⟩
   cases e2
   exact ⟨o, e, ex.2.1⟩
  ·obtain ⟨o, _, _, _, e, ex, _⟩ := I.hok p _ hk
   refine ⟨⟨o, e, ex.1⟩, fun a e2 => ?_⟩
   cases e2
   exact ⟨o, e, ex.2.1⟩
 | _ => exact False.elim ty
noncomputable def tBM0 (K : W.Frag) (T : String) (r : V -> List V -> Hp -> VK -> Prop) (to : TE) : TE := fun σ H Q => to σ H fun x H1 => tyV K T x H1 /\ r x [] H1 Q
noncomputable def tBM (K : W.Frag) (T : String) (r : V -> List V -> Hp -> VK -> Prop) (to : TE) (t : TA) : TE := fun σ H Q => to σ H fun x H1 => tyV K T x H1 /\ t σ H1 fun xs H2 => r x xs H2 Q
variable {o e : Expr} {es : List Expr} {to : TE} {t : TA} {name : Str} {apos cpos : Pos} {T id : String} {r : V -> List V -> Hp -> VK -> Prop}
theorem uG (pa : PlainAttrs T) (slot : Slot T name id) (hty : typeOf (.builtin id) = pure (.type "method_descriptor")) (hm : MtR X id r) (ho : PE X o to)
  (hbase : attributeBase o name X.env (eval o X.env) = eval o X.env := by rfl) (hline : (apos.endLine == cpos.line) = true := by rfl) : PE X (.Call (.Attribute o name apos) [] [] cpos) (tBM0 X.K T r to) := by
 intro pins s σ H Q I h
 refine wpAny_Call_method0_late hbase hline (thn (ho pins s σ H _ I h) fun v s1 ⟨x, H1, I1, r1, ty, q1⟩ => ?_)
 obtain ⟨h1, h2⟩ := pZ I1 r1 ty
 exact ⟨T, id, pa, slot, hty, h1, h2, Calls.callWith_builtin rfl (PySem.evalArgs_none (hm pins s1 σ H1 x [] v [] Q I1 r1 .nil q1))⟩
theorem q4 (pa : PlainAttrs T) (slot : Slot T name id) (hty : typeOf (.builtin id) = pure (.type "method_descriptor")) (hm : MtR X id r) (ho : PE X o to) (ha : PA X (e :: es) t)
  (hbase : attributeBase o name X.env (eval o X.env) = eval o X.env := by rfl)
  (hfew : ((backTo cpos (starEach (e :: es) X.env)).all (fun x => !x.1) && (backToKw cpos (keywordEach [] X.env)).all (fun x => x.1.isSome)
   && decide ((e :: es).length + ([] : List Keyword).length + (if ([] : List Keyword).isEmpty then 0 else 1) < 30)) = true := by rfl)
  (hline : (apos.endLine == cpos.line) = true := by rfl) (hs : starEach (e :: es) X.env = (false, eval e X.env) :: starEach es X.env := by rfl) (hplain : (backTo cpos (starEach es X.env)).any (·.1) = false := by rfl) :
  PE X (.Call (.Attribute o name apos) (e :: es) [] cpos) (tBM X.K T r to t) := by
 intro pins s σ H Q I h
 refine wpAny_Call_method_late hbase hfew hline rfl (thn (ho pins s σ H _ I h) fun v s1 ⟨x, H1, I1, r1, ty, q1⟩ => ?_)
 obtain ⟨h1, h2⟩ := pZ I1 r1 ty
 refine ⟨T, id, pa, slot, hty, h1, h2, ?_⟩
 have hA := ha cpos pins s1 σ H1 _ I1 q1
 rw [hs] at hA ⊢
 refine Calls.callWith_builtin (by show (false || (backTo cpos (starEach es X.env)).any (·.1)) = false; rw [hplain] <;> rfl) (Calls.evalArgs_plain ?_)
 exact thn hA fun us s2 ⟨vs, H2, I2, r2, q2⟩ => hm pins s2 σ H2 x vs v us Q I2 r1 r2 q2
end
noncomputable def MtM (X : Cx) (id : String) (r : V -> List V -> Hp -> VK -> Prop) : Prop :=
 ∀ (pins : zw) (s : Shared) (σ : St) (H : Hp) (x : V) (xs : List V) (v : Value) (us : List Value) (Q : VK), Inv X pins σ H s -> RelV x v -> Vals xs us -> r x xs H Q ->
  wpAny (model X.prog X.w) X.A (call (.builtin id) (v :: us)) (EP X pins σ Q) X.xe s
theorem Vals.one : ∀ {x : V} {us : List Value}, Vals [x] us -> ∃ u, us = [u] /\ RelV x u
 | _, _, .cons r .nil => ⟨_, rfl, r⟩
theorem Vals.zero : ∀ {us : List Value}, Vals [] us -> us = []
 | _, .nil => rfl
theorem Vals.dropLast {xs : List V} {us : List Value} (h : Vals xs us) : Vals xs.dropLast us.dropLast := by
 induction h with
 | nil => exact .nil
 | cons r t ih =>
  cases t with
  | nil => exact .nil
  | cons q t' => exact .cons r ih
theorem Vals.rep {xs : List V} {us : List Value} (h : Vals xs us) : ∀ k : Nat, Vals (List.replicate k xs).flatten (List.replicate k us).flatten
 | 0 => .nil
 | k + 1 => by
  rw [List.replicate_succ, List.replicate_succ, List.flatten_cons, List.flatten_cons]
  exact Vals.append h (Vals.rep h k)
theorem mB {α : Type} (l : List α) : l.eraseIdx (l.length - 1) = l.dropLast := by
 induction l with
 | nil => rfl
 | cons a r ih =>
  cases r with
  | nil => rfl
  | cons b r =>
   have e : (a :: b :: r).length - 1 = ((b :: r).length - 1) + 1 := by
    have h1 : (a :: b :: r).length = r.length + 2 := rfl
    have h2 : (b :: r).length = r.length + 1 := rfl
    lia
   rw [e, List.eraseIdx_cons_succ, ih]
   all_goals rfl
theorem jo (its : List Value) : ∀ (k : Nat) (acc : List Value),
  List.foldl (fun x1 x2 => x1 ++ x2) acc.toArray (List.replicate k its.toArray) = (acc ++ (List.replicate k its).flatten).toArray
 | 0, acc => by simp
 | k + 1, acc => by
  have e : acc.toArray ++ its.toArray = (acc ++ its).toArray := by simp
  have e2 : (acc ++ its) ++ (List.replicate k its).flatten = acc ++ (List.replicate (k + 1) its).flatten := by
   rw [List.replicate_succ, List.flatten_cons, List.append_assoc]
  rw [<- e2, <- jo its k (acc ++ its), <- e, List.replicate_succ, List.foldl_cons]
section
variable {X : Cx} {pins : zw} {σ : St} {H : Hp} {s : Shared} {l b : Addr} {xs ys zs : List V}
theorem Inv.lset {its its' : List Value} {n : Nat} {f : Array Value -> Array Value} {t' : Nat} (I : Inv X pins σ H s) (hH : H l = some (.lst xs))
  (e : s.heap.get? l = some { cls := .type "list", data := .seq its.toArray n }) (hf : f its.toArray = its'.toArray) (hv : Vals ys its') (hz : ys.length <= sizeLine) :
  Inv X pins σ (upd H l (.lst ys)) { s with heap := s.heap.update l (Obj.mapSeq f), toks := t' } := by
 have q := PySem.IsL.update e f
 rw [hf] at q
 refine I.write (x := l) (e := l) (by rw [hH]; exact trivial) (.inl rfl) (fun b' u hb hu => (Heap.get?_update_other s.heap (Obj.mapSeq f) (Ne.symm hb)).trans hu) ⟨_, q⟩ ?_
 exact ⟨hz, its', _, hv, q⟩
theorem Inv.lnew {its : List Value} {t' : Nat} (I : Inv X pins σ H s) (hv : Vals ys its) (hz : ys.length <= sizeLine) :
  Inv X pins σ (upd H s.heap.objs.size (.lst ys)) { s with heap := s.heap.push { cls := .type "list", data := .seq its.toArray }, toks := t' } :=
 I.laid (fun _ _ q => Heap.get?_push_of_some _ q) (Nat.le_refl _) ⟨hz, its, 0, hv, Heap.get?_push_size _ rfl⟩
theorem Inv.fresh (I : Inv X pins σ H s) : H s.heap.objs.size = none := I.hok.fresh (Nat.le_refl _)
theorem Inv.lstM (I : Inv X pins σ H s) (hH : H l = some (.lst xs)) : xs.length <= sizeLine /\ ∃ (its : List Value) (n : Nat), Vals xs its /\ xs.length = its.length /\ s.heap.get? l = some { cls := .type "list", data := .seq its.toArray n } := by
 obtain ⟨z, its, n, r, e⟩ := I.hok l _ hH
 exact ⟨z, its, n, r, r.length, e⟩
theorem B2 {n : Nat} (h : n <= sizeLine) : Builtin.List.listTooLong n = false := by
 unfold Builtin.List.listTooLong
 exact decide_eq_false (by lia)
end
section
variable {X : Cx}
noncomputable def B0 : V -> List V -> Hp -> VK -> Prop := fun x vs H Q => ∃ l xs y, x = .ref l /\ vs = [y] /\ H l = some (.lst xs) /\ xs.length < sizeLine /\ Q .non (upd H l (.lst (xs ++ [y])))
theorem jq : MtM X "list.append" B0 := by
 intro pins s σ H x vs v us Q I rx rv h
 obtain ⟨l, xs, y, rfl, rfl, hH, hz, q⟩ := h
 cases rx
 obtain ⟨u, rfl, ru⟩ := rv.one
 obtain ⟨z, its, n, r, hl, e⟩ := I.lstM hH
 refine call_meets F.slot_list_append ⟨_, e, rfl⟩ F.entry_list_append (F.args_list_append_2 _ _) (PySem.list_append l its.toArray n u (by rw [List.size_toArray]; lia)) ⟨e, ?_⟩
 refine ⟨.non, _, I.lset (its' := its ++ [u]) hH e (by simp) (r.append (.cons ru .nil)) ?_, rfl, q⟩
 rw [List.length_append, List.length_singleton]
 lia
noncomputable def rPop : V -> List V -> Hp -> VK -> Prop := fun x vs H Q => ∃ l xs y, x = .ref l /\ vs = [] /\ H l = some (.lst xs) /\ xs[xs.length - 1]? = some y /\ Q y (upd H l (.lst xs.dropLast))
theorem uH : MtM X "list.pop" rPop := by
 intro pins s σ H x vs v us Q I rx rv h
 obtain ⟨l, xs, y, rfl, rfl, hH, hy, q⟩ := h
 cases rx
 have hus := rv.zero
 subst hus
 obtain ⟨z, its, n, r, hl, e⟩ := I.lstM hH
 obtain ⟨u, hu, ru⟩ := r.get hy
 have hy' : its.toArray[its.toArray.size - 1]? = some u := by
  show its.toArray[its.length - 1]? = some u
  rw [<- Array.getElem?_toList, <- hl]
  exact hu
 refine call_meets F.slot_list_pop ⟨_, e, rfl⟩ F.entry_list_pop (F.args_list_pop_1 _) (MeetsSeq.list_pop_last l its.toArray n u hy' (by rw [List.size_toArray]; lia)) ⟨e, ?_⟩
 refine ⟨y, _, I.lset (its' := its.dropLast) hH e ?_ r.dropLast ?_, ru, q⟩
 ·show its.toArray.eraseIdxIfInBounds (its.toArray.size - 1) = its.dropLast.toArray
  rw [List.size_toArray, List.eraseIdxIfInBounds_toArray, mB]
 ·rw [List.length_dropLast]
  lia
theorem rV {α : Type} (xs : List α) (k : Nat) : (List.replicate k xs).flatten.length = k * xs.length := by
 induction k with
 | zero => simp
 | succ k ih => rw [List.replicate_succ, List.flatten_cons, List.length_append, ih, Nat.succ_mul, Nat.add_comm]
end
section
variable {prog : Program} {w : World} {A : Around} {E : zx} {s : Shared}
end
section
variable {X : Cx}
end
section
variable {κ : Type} [DecidableEq κ]
noncomputable def valV (kvs : List (κ × V)) (k : κ) : Option V := (kvs.find? fun kv => decide (kv.1 = k)).map (·.2)
theorem i0 {p : κ × V} {r : List (κ × V)} {k : κ} (e : p.1 = k) : valV (p :: r) k = some p.2 := by simp [valV, List.find?_cons, e]
theorem i6 {p : κ × V} {r : List (κ × V)} {k : κ} (e : ¬ p.1 = k) : valV (p :: r) k = valV r k := by simp [valV, List.find?_cons, e]
theorem RelO.getD {o : Option V} {u : Option Value} {d : V} {d' : Value} (r : RelO o u) (rd : RelV d d') : RelV (o.getD d) (u.getD d') := by
 cases o with
 | none => cases u with
  | none => exact rd
  | some _ => exact (show False from r).elim
 | some _ => cases u with
  | none => exact (show False from r).elim
  | some _ => exact r
theorem KV.val {kvs : List (κ × V)} {vs : List (κ × Value)} (r : KV kvs vs) (k : κ) : RelO (valV kvs k) (valueAt vs k) := by
 unfold KV at r
 induction r with
 | nil => exact True.intro
 | @cons p q ps qs h t ih =>
  obtain ⟨h1, h2⟩ := h
  by_cases e : p.1 = k
  ·have e' : q.1 = k := h1.symm.trans e
   have b : valueAt (q :: qs) k = some q.2 := by simp [valueAt, List.find?_cons, e']
   rw [i0 e, b]; exact h2
  ·have e' : ¬ q.1 = k := fun z => e (h1.trans z)
   have b : valueAt (q :: qs) k = valueAt qs k := by simp [valueAt, List.find?_cons, e']
   rw [i6 e, b]; exact ih
theorem KV.length {kvs : List (κ × V)} {vs : List (κ × Value)} (r : KV kvs vs) : kvs.length = vs.length := Paired.length r
end
theorem q5 {P : Program} {w : World} {k : Key} {u : Value} (r : RelV (kV k) u) : (zO P w).is k u = true := by
 cases k with
 | inl i => obtain ⟨t, e⟩ := (show ∃ t, u = Value.int i t from r); subst e; exact kL P w i t
 | inr x => obtain ⟨t, e⟩ := (show ∃ t, u = Value.str x t from r); subst e; exact kM P w x t
theorem jr {P : Program} {w : World} : ∀ {ks : List Key} {us : List Value}, Vals (ks.map kV) us -> ItemsAre (zO P w) ks us
 | [], _, r => by rw [List.map_nil] at r; cases r; exact .nil
 | k :: ks, _, r => by
  rw [List.map_cons] at r
  cases r with
  | cons h t => exact .cons (q5 h) (jr t)
abbrev KT (H : Hp) : List (List Key × V) -> List (List Key × Addr × Value) -> Prop := Paired fun p q => p.1 = q.1 /\ H q.2.1 = some (.tup (p.1.map kV)) /\ RelV p.2 q.2.2
theorem KT.val {H : Hp} {kvs : List (List Key × V)} {xs : List (List Key × Addr × Value)} (r : KT H kvs xs) (k : List Key) : RelO (valV kvs k) ((atKey xs k).map (·.2)) := by
 induction r with
 | nil => exact True.intro
 | @cons p q ps qs h t ih =>
  obtain ⟨h1, _, h2⟩ := h
  by_cases e : p.1 = k
  ·have e' : q.1 = k := h1.symm.trans e
   have b : atKey (q :: qs) k = some q.2 := by simp [atKey, List.find?_cons, e']
   rw [i0 e, b]; exact h2
  ·have e' : ¬ q.1 = k := fun z => e (h1.trans z)
   have b : atKey (q :: qs) k = atKey qs k := by simp [atKey, List.find?_cons, e']
   rw [i6 e, b]; exact ih
section
variable {P : Program} {w : World} {H : Hp} {h : Heap} {a : Addr}
theorem tQ {u : HO} (ok : HOk P w H h) (e : Rd H a u) : zY P w H h a u := e.ok ok
theorem qc {kvs : List (Key × V)} (ok : HOk P w H h) (e : Rd H a (.dK kvs)) : kvs.length <= sizeLine /\ (a == sysModules) = false /\ ∃ vs, KV kvs vs /\ h.DictOf (zO P w) a vs :=
 show zY P w H h a (.dK kvs) from tQ ok e
theorem qe {ks : List Key} (ok : HOk P w H h) (e : H a = some (.tup (ks.map kV))) : (tupleKind (zO P w)).is h ks a := by
 obtain ⟨_, its, r, o, h1, h2, n, h3⟩ := (show zY P w H h a (.tup (ks.map kV)) from ok a _ e)
 exact ⟨o, its.toArray, n, h1, h2, h3, by simpa using jr r⟩
theorem tR {kvs : List (List Key × V)} (ok : HOk P w H h) (e : Rd H a (.dT kvs)) : kvs.length <= sizeLine /\ (a == sysModules) = false /\
  ∃ xs, KT H kvs xs /\ h.DictOfH (tupleKind (zO P w)) a xs := by
 obtain ⟨z, y, xs, r, o, es, ep, h1, h2, h3, h4, h5⟩ := (show zY P w H h a (.dT kvs) from tQ ok e)
 refine ⟨z, y, xs, r, o, es, ep, h1, h2, h3, h4, fun x hx => ?_, h5⟩
 have all : ∀ {l : List (List Key × V)} {m : List (List Key × Addr × Value)}, KT H l m -> ∀ x ∈ m, (tupleKind (zO P w)).is h x.1 x.2.1 := by
  intro l m q
  induction q with
  | nil => intro x hx; exact nomatch hx
  | @cons p q ps qs hq t ih =>
   intro x hx
   rcases List.mem_cons.mp hx with e | hx
   ·subst e
    exact qe ok (by rw [<- hq.1]; exact hq.2.1)
   ·exact ih x hx
 exact all r x hx
end
noncomputable def DGet (H : Hp) (a : Addr) (y : V) (r : Option V) : Prop :=
 (∃ kvs k, Rd H a (.dK kvs) /\ y = kV k /\ r = valV kvs k) \/ ∃ kvs k b, Rd H a (.dT kvs) /\ y = .ref b /\ H b = some (.tup (k.map kV)) /\ r = valV kvs k
section
variable {X : Cx} {pins : zw} {σ : St} {H : Hp} {s : Shared} {a : Addr} {y v : V} {u r : Value} {o : Option V} {A : Around} {E : zx}
theorem oz {Q : zx} (hu : A.units + 1 < cLine) (I : Inv X pins σ H s) (g : DGet H a y (some v)) (ry : RelV y u) (h : ∀ w' s', Inv X pins σ H s' -> RelV v w' -> Q w' s') :
  wpAny (model X.prog X.w) A (getItem (.ref a) u) Q E s := by
 rcases g with ⟨kvs, k, e, ey, l⟩ | ⟨kvs, k, b, e, ey, eb, l⟩
 ·subst ey
  obtain ⟨z, hd, vs, rel, dd⟩ := qc I.hok e
  obtain ⟨w', hw, rw'⟩ := RelO.some_of (v := v) (o := valueAt vs k) (by rw [l]; exact rel.val k)
  exact wpAny_getItem_of (q5 ry) dd.mapOf hw (h w' _ (I.tok _) rw')
 ·subst ey
  cases (show u = Value.ref b from ry)
  obtain ⟨z, hd, xs, rel, dd⟩ := tR I.hok e
  obtain ⟨w', hw, rw'⟩ := RelO.some_of (v := v) (o := (atKey xs k).map (·.2)) (by rw [l]; exact rel.val k)
  obtain ⟨p, hp, hp2⟩ := Option.map_eq_some_iff.mp hw
  refine wpAny_getItem_heap (tupleKind_room_in1 hu) (qe I.hok eb) dd hp ?_
  rw [hp2]
  exact h w' _ (I.tok _) rw'
end
section
variable {X : Cx} {pins : zw} {σ : St} {H : Hp} {s : Shared} {a : Addr} {kvs : List (Key × V)} {k : Key} {u : Value} {A : Around} {E : zx}
theorem wJ {Q : zx} (I : Inv X pins σ H s) (e : Rd H a (.dK kvs)) (h : ∀ t s', Inv X pins σ H s' -> Q (.int kvs.length t) s') : wpAny (model X.prog X.w) A (call (.builtin "len") [.ref a]) Q E s := by
 obtain ⟨z, hd, vs, rel, dd⟩ := qc I.hok e
 refine call_len_dict hd dd (by rw [<- rel.length]; rw [sizeLine_eq] at z; lia) ?_
 rw [<- rel.length]
 exact h _ _ (I.tok _)
end
theorem kT {X : Cx} {pins : zw} {σ : St} {H : Hp} {s : Shared} {a : Addr} {y : V} {o : Option V} (I : Inv X pins σ H s) (g : DGet H a y o) : s.TypeIs (.ref a) "dict" := by
 rcases g with ⟨kvs, k, e, _, _⟩ | ⟨kvs, k, b, e, _, _, _⟩
 ·obtain ⟨_, _, vs, _, dd⟩ := qc I.hok e
  exact dd.typeIs
 ·obtain ⟨_, _, xs, _, dd⟩ := tR I.hok e
  exact dd.typeIs
section
variable {X : Cx} {o i e value : Expr} {pos pos' tpos : Pos} {td ty tv : TE}
end
section
variable {X : Cx} {pos : Pos}
end
abbrev VV : List (V × V) -> List (Value × Value) -> Prop := Paired fun p q => RelV p.1 q.1 /\ RelV p.2 q.2
structure M1 (X : Cx) (o : Expr) (m : Str) (apos : Pos) (e : Expr) (cpos : Pos) : Prop where
 base : attributeBase o m X.env (eval o X.env) = eval o X.env
 few : ((backTo cpos (starEach [e] X.env)).all (fun x => !x.1) && (backToKw cpos (keywordEach [] X.env)).all (fun x => x.1.isSome)
  && decide (([e] : List Expr).length + ([] : List Keyword).length + (if ([] : List Keyword).isEmpty then 0 else 1) < 30)) = true
 line : (apos.endLine == cpos.line) = true
 trees : backTo cpos (starEach [e] X.env) = [(false, eval e X.env)]
structure M2 (X : Cx) (o : Expr) (m : Str) (apos : Pos) (e f : Expr) (cpos : Pos) : Prop where
 base : attributeBase o m X.env (eval o X.env) = eval o X.env
 few : ((backTo cpos (starEach [e, f] X.env)).all (fun x => !x.1) && (backToKw cpos (keywordEach [] X.env)).all (fun x => x.1.isSome)
  && decide (([e, f] : List Expr).length + ([] : List Keyword).length + (if ([] : List Keyword).isEmpty then 0 else 1) < 30)) = true
 line : (apos.endLine == cpos.line) = true
 trees : backTo cpos (starEach [e, f] X.env) = [(false, eval e X.env), (false, eval f X.env)]
section
variable {X : Cx} {pins : zw} {σ : St} {H : Hp} {s : Shared} {a : Addr} {y d : V} {u r : Value} {o : Option V} {A : Around} {E : zx}
end
section
variable {X : Cx} {o e f : Expr} {apos cpos : Pos} {td ty tx : TE}
end
section
variable {X : Cx} {pins : zw} {σ : St} {H : Hp} {s : Shared} {a : Addr} {kvs : List (Key × V)} {A : Around} {E : zx}
end
section
variable {X : Cx} {pins : zw} {σ : St} {H : Hp} {s : Shared} {a : Addr} {y : V} {u : Value} {A : Around} {E : zx}
end
end L2
namespace Att
open PySem PySem.W PySem.Calls PyProof.Rows
theorem gK {P : Params} {h : Heap} : ∀ (ns : List Int) (vs : List Value), WellAll P h vs (ns.map WData.int) -> IntsAre vs ns := by
 intro ns
 induction ns with
 | nil =>
  intro vs w
  rw [List.map_nil] at w
  cases w
  exact .nil
 | cons n ns ih =>
  intro vs w
  rw [List.map_cons] at w
  cases w with
  | cons a b =>
   cases a
   exact .cons _ _ (ih _ b)
theorem oA {l : OpenLaw} {n : Nat} (hn : l.most = some n) {P : Params} {h : Heap} {args : List WData} {vals : List Value}
  (hpre : l.row.toRowW.claim.pre args = true) (hwl : WellAll P h vals args) :
  ∃ a vs ns, vals = [Value.ref a] /\ args = [WData.list (ns.map WData.int)] /\ h.get? a = some { cls := .type "list", data := .seq vs.toArray } /\ IntsAre vs ns /\ ns.length <= n := by
 have hsh : WShape.hasAll [] args [.list .int] = true := (pre_splitW hpre).1
 have hc : l.pre.holds [] { args := args } = true := (pre_splitW hpre).2
 obtain ⟨d, r, rfl, h1, h2⟩ := hasAllW_cons hsh
 obtain rfl := hasAllW_nil h2
 obtain ⟨xs, rfl, h3⟩ := hasW_list h1
 obtain ⟨ns, rfl⟩ := items_int h3
 have hlen : ns.length <= n := by
  unfold OpenLaw.pre at hc
  have h4 : (WTm.not (.lt (.lit (.int (n : Int))) (.len (.arg 0)))).holds [] { args := [.list (ns.map .int)] } = true := by
   have h4 := (holds_andW hc).1
   rw [hn] at h4
   exact h4
  have h5 := condW_of h4 (w_not (w_lt w_lit (w_len_list (w_arg rfl))))
  rw [List.length_map] at h5
  refine Nat.le_of_not_lt fun q => ?_
  have q' : (n : Int) < ((ns.length : Nat) : Int) := by lia
  first
   | (rw [decide_eq_true q'] at h5; exact absurd h5 (by decide))
   | (simp at h5; lia)
 cases hwl with
 | cons w1 w2 =>
  cases w2
  cases w1 with
  | list ho hall => exact ⟨_, _, ns, rfl, rfl, ho, gK ns _ hall, hlen⟩
theorem oB (l : OpenLaw) (args : List WData) : l.row.toRowW.claim.post args (.bool true) args = true :=
 postW_of (r := l.row.toRowW) (X := (true == true))
  (show WShape.has [] (.bool true) .bool = true by first | rfl | decide | simp [WShape.has, WShape.arms, WShape.armsAll])
  (show (WTm.eq .res (.lit (.bool true))).value [] { args := args, res := some (.bool true), after := args } = some (.bool (true == true)) from w_eq_bool (w_res rfl) w_lit) rfl
theorem kU {l : OpenLaw} {n : Nat} {q : Program} {loose : List Str} {XP : (Str -> Option Value) -> Heap -> Prop} {YP : World -> Heap -> Prop} {d : DefRec}
  (hn : l.most = some n) (hdf : d.params.defaults = [])
  (call : ∀ (w : World) (s₀ s₁ : Shared) (mg mb : zu) (fa : Addr) (o : Obj) (pm cd doc : Value) (a : Addr) (vs : List Value) (ns : List Int),
   Ground q loose [] XP w s₀ mg mb s₁.heap -> YP w s₁.heap ->
   s₁.heap.get? fa = some o -> o.data = .func (docDef d.name d.params d.body d.scope pm cd doc) -> s₁.heap.CodeRec cd d.name -> mg d.name = some (.ref fa) ->
   s₁.heap.get? a = some { cls := .type "list", data := .seq vs.toArray } -> IntsAre vs ns -> ns.length <= n -> s₁.gens = #[] ->
   codeAny (model l.prog w) callerA (.call (.ref fa) ⟨[.ref a], []⟩) (fun r s' => r = .ok (.ret (.bool true)) /\ OldK s₁.heap s'.heap /\ s'.os = s₁.os /\ AllBare s'.gens) s₁) :
  WalkO q loose XP YP l.row.toRowW d [] (fun f vs => PySem.call f vs) := by
 intro w s₀ s₁ mg mb G Y fa o pm cd doc dV kV ho hd hcd hD hmg hg args vals as hpre hlay hrd hwl hlo
 obtain rfl : dV = .none := Dflts.none hD hdf
 obtain rfl : kV = .none := Dflts.noKw hD
 obtain ⟨a, vs, ns, rfl, rfl, hobj, hints, hlen⟩ := oA hn hpre hwl
 refine enter_call (codeAny_mono (call w s₀ s₁ mg mb fa o pm cd doc a vs ns G Y ho (fd_plain hd) hcd hmg hobj hints hlen hg) fun r s' hq => ?_)
 obtain ⟨rfl, h2, h3, h4⟩ := hq
 exact ⟨.inl ⟨.bool true, .bool true, [], rfl, fun _ => rfl, .bool true, oB l _, fun _ => ⟨List.Pairwise.nil, fun _ hm => (nomatch hm)⟩⟩, h2, h3, h4⟩
section
variable {prog : Program} {w : World} {A : Around} {E : zx} {s : Shared} {K : Frag}
end
end Att
namespace L2
open PySem PySem.Spec PyProof.Rows
theorem dU : ∀ {vs : List Value} {ns : List Int}, IntsAre vs ns -> Vals (ns.map V.int) vs
 | _, _, .nil => .nil
 | _, _, .cons n t h => .cons ⟨t, rfl⟩ (dU h)
noncomputable def Only (H : Hp) : Prop := ∀ b, H b = none \/ ∃ o xs, H b = some (.frz o (.lst xs))
theorem qf {P : Program} {w : World} {K : W.Frag} {mg mb : zu} {CX : CXT} {k : Nat} {fa a : Addr} {fd : FuncData} {x : Str} {sp : Sp} {s₁ : Shared} {vs : List Value} {ns : List Int}
  (KX : K.In s₁.heap) (hns : s₁.heap.Ns mainGlobals mg) (hb : s₁.heap.Ns builtinsNs mb) (hbb : ∀ x : Str, x ≠ "__name__" -> mb x = bootBuiltins x) (hlim : s₁.heap.NoLimit) (hg : s₁.gens = #[])
  (ha : s₁.heap.get? a = some { cls := .type "list", data := .seq vs.toArray }) (hi : IntsAre vs ns) (hl : ns.length <= sizeLine) (hr : Room k callerA)
  (F : ∀ base : Heap, K.In base -> base.Ns mainGlobals mg -> FnOk P w K mg base CX k fa fd [x] sp) (hbind : ∀ (s : Shared) (u : Value), BindsTo s fd ⟨[u], []⟩ [(x, u)])
  (hsp : ∀ H : Hp, Only H -> SqR K H a (ns.map V.int) -> sp [.ref a] H (fun v _ => v = .bl true) fun _ _ _ => False)
  (hCX : ∀ H e s', CX [] H s₁ (fun _ _ _ => False) e s' -> False) :
  codeAny (model P w) callerA (.call (.ref fa) ⟨[.ref a], []⟩) (fun r s' => r = .ok (.ret (.bool true)) /\ OldK s₁.heap s'.heap /\ s'.os = s₁.os /\ AllBare s'.gens) s₁ := by
 have rv := dU hi
 have lenV := hi.length
 have core : ∀ H : Hp, Only H -> SqR K H a (ns.map V.int) -> HOk P w H s₁.heap -> (∀ b, H b ≠ none -> b = a) -> (H a ≠ none -> K.lookup a = none) ->
   codeAny (model P w) callerA (.call (.ref fa) ⟨[.ref a], []⟩) (fun r s' => r = .ok (.ret (.bool true)) /\ OldK s₁.heap s'.heap /\ s'.os = s₁.os /\ AllBare s'.gens) s₁ := by
  intro H hO hS hok hA hK
  have base_of : ∀ {b : Addr} {o : Obj}, s₁.heap.get? b = some o -> H b = none -> (hidT s₁.heap H).get? b = some o := fun e n => pB e n
  have noA : ∀ {b : Addr} {o : Obj} {es : Array DictEntry} {ep : Nat}, s₁.heap.get? b = some o -> o.data = .dict es ep -> H b = none := fun {b o es ep} e d => by
   cases q : H b with
   | none => rfl
   | some u =>
    have e' : b = a := hA b (by rw [q]; simp)
    subst e'
    rw [ha] at e; cases e
    have d' : Data.seq vs.toArray _ = Data.dict es ep := d
    cases d'
  have nsK : ∀ {b : Addr} {m : zu}, s₁.heap.Ns b m -> (hidT s₁.heap H).Ns b m := fun {b m} ⟨o, es, ep, e, d, r⟩ => ⟨o, es, ep, base_of e (noA e d), d, r⟩
  have hKb : K.In (hidT s₁.heap H) := fun b o e => base_of (KX b o e) (by
   cases q : H b with
   | none => rfl
   | some u =>
    have e' : b = a := hA b (by rw [q]; simp)
    subst e'
    rw [hK (by rw [q]; simp)] at e; cases e)
  have hM : Mod K mg (hidT s₁.heap H) := ⟨hKb, nsK hns, ⟨mb, nsK hb, hbb⟩, let ⟨mc, h1, h2⟩ := hlim; ⟨mc, nsK h1, h2⟩⟩
  have e0 : Env0 P w K mg (hidT s₁.heap H) callerA [] s₁ H := ⟨rfl, hM, fun b o e => rF e, Nat.le_of_eq (oo _ _), trivial, fun b hb => absurd (show b ∈ ([] : List Addr) from hb) (by simp), hok, .of_eq hg⟩
  refine codeAny_mono ((F _ hKb (nsK hns)).run callerA [] s₁ H ⟨[.ref a], []⟩ [.ref a] [.ref a] _ _ hr e0 (hbind s₁ (.ref a)) (.cons rfl .nil) (hsp H hO hS)) fun r s' h => ?_
  cases r with
  | error e => exact (hCX H e s' h).elim
  | ok fl =>
   cases fl with
   | next => exact False.elim h
   | brk => exact False.elim h
   | cont => exact False.elim h
   | ret u =>
    obtain ⟨v, H', os, bare, un, hok', r', q⟩ := h
    have q' : v = .bl true := q
    subst q'
    obtain rfl : u = Value.bool true := r'
    refine ⟨rfl, OldK.of_keep fun b o e => ?_, os, bare⟩
    cases q : H b with
    | none => exact un.keep b o e q (by intro z; exact absurd (show b ∈ ([] : List Addr) from z) (by simp)) (by simp)
    | some u =>
     rcases hO b with z | ⟨ob, xs, z⟩
     ·rw [q] at z; cases z
     ·have z2 := un.frzs b ob _ z
      obtain ⟨e1, _⟩ := hok b _ z
      obtain ⟨e2, _⟩ := hok' b _ z2
      rw [e] at e1; cases e1
      exact e2
 cases hk : K.lookup a with
 | some o =>
  have e := KX a o hk
  rw [ha] at e
  cases e
  refine core (fun _ => none) (fun _ => .inl rfl) (.inr ⟨vs.toArray, _, hk, by rw [List.size_toArray, lenV]; exact hl, by simpa using rv⟩) (fun b u z => by have z' : (none : Option HO) = some u := z; cases z') (fun b z => absurd rfl z) fun z => absurd rfl z
 | none =>
  refine core (fun b => if b = a then some (.frz { cls := .type "list", data := .seq vs.toArray } (.lst (ns.map V.int))) else none) (fun b => ?_) (.inl (.inr ⟨{ cls := .type "list", data := .seq vs.toArray }, if_pos rfl⟩)) (fun b u z => ?_) (fun b z => ?_) fun _ => hk
  ·by_cases hb : b = a
   ·exact .inr ⟨_, _, if_pos hb⟩
   ·exact .inl (if_neg hb)
  ·by_cases hb : b = a
   ·have z' := (if_pos hb).symm.trans z
    cases z'
    subst hb
    exact ⟨ha, by rw [List.length_map]; exact hl, vs, _, rv, ha⟩
   ·have z' := (if_neg hb).symm.trans z
    cases z'
  ·by_cases hb : b = a
   ·exact hb
   ·exact absurd (if_neg hb) z
theorem rW {l : W.OpenLaw} {n k : Nat} {q : Program} {loose : List Str} {XP : (Str -> Option Value) -> Heap -> Prop} {YP : World -> Heap -> Prop} {d : DefRec} {K : Params -> W.Frag} {CX : World -> CXT} {sp : World -> Sp} {x : Str}
  (hn : l.most = some n) (hn2 : n <= sizeLine) (hdf : d.params.defaults = []) (hr : Room k callerA)
  (hY : ∀ (w : World) (h : Heap), YP w h -> (K w.params).In h)
  (F : ∀ (w : World) (mg : zu) (fa : Addr) (h : Heap), (K w.params).In h -> h.Ns mainGlobals mg -> mg d.name = some (.ref fa) ->
   ∃ fd : FuncData, (∀ (s : Shared) (u : Value), BindsTo s fd ⟨[u], []⟩ [(x, u)]) /\
    ∀ base : Heap, (K w.params).In base -> base.Ns mainGlobals mg -> FnOk l.prog w (K w.params) mg base (CX w) k fa fd [x] (sp w))
  (hsp : ∀ (w : World) (H : Hp) (a : Addr) (ns : List Int), ns.length <= n -> Only H -> SqR (K w.params) H a (ns.map V.int) -> sp w [.ref a] H (fun v _ => v = .bl true) fun _ _ _ => False)
  (hCX : ∀ (w : World) (H : Hp) (s : Shared) (e : Value) (s' : Shared), CX w [] H s (fun _ _ _ => False) e s' -> False) :
  W.WalkO q loose XP YP l.row.toRowW d [] (fun f vs => PySem.call f vs) := by
 refine Att.kU hn hdf fun w s₀ s₁ mg mb fa o pm cd doc a vs ns G Y ho hd hcd hmg hobj hints hlen hg => ?_
 have KX := hY w _ Y
 obtain ⟨fd, hb, hF⟩ := F w mg fa _ KX G.T.g hmg
 exact qf KX G.T.g G.T.b G.T.builtins G.T.nolimit hg hobj hints (Nat.le_trans hlen hn2) hr hF hb (fun H hO hS => hsp w H a ns hlen hO hS) fun H e s' => hCX w H s₁ e s'
noncomputable def A8 (s : Stmt) : Arguments := match s with
 | .FunctionDef _ a _ _ _ _ _ _ _ _ => a
 | _ => { posonlyargs := [], args := [], vararg := none, kwonlyargs := [], kw_defaults := [], kwarg := none, defaults := [] }
noncomputable def A3 (s : Stmt) : List Stmt := match s with
 | .FunctionDef _ _ b _ _ _ _ _ _ _ => b
 | _ => []
noncomputable def zB (s : Stmt) : Scope := match s with
 | .FunctionDef _ _ _ _ _ _ sc _ _ _ => sc
 | _ => { kind := .function, names := [], isGenerator := false, isCoroutine := false }
abbrev E0 : XK := fun _ _ _ => False
structure Fun (K : W.Frag) (x qual : Str) (st : Stmt) (f : Addr) (fd : FuncData) : Prop where
 ex : ∃ (oc : Value) (od : Option Addr) (kV doc pm : Value) (an : Option Addr) (cdv ct : Value) (osl : Array (Option Value)),
  fd = W.fnOf x qual (A8 st) (A3 st) (zB st) .none kV doc pm an cdv ct /\ K.lookup f = some ⟨oc, od, .func fd, osl⟩ /\ W.codeIn K cdv qual = true
 kp : W.keepIn K (.ref f) = true
section
variable {P : Program} {w : World} {K : W.Frag} {mg : zu} {base : Heap}
theorem Fun.binds {x qual : Str} {st : Stmt} {f : Addr} {fd : FuncData} {ps : List Str} (F : Fun K x qual st f fd)
  (h : ∀ (kV doc pm : Value) (an : Option Addr) (cdv ct : Value) (us : List Value), us.length = ps.length -> bindArgs (W.fnOf x qual (A8 st) (A3 st) (zB st) .none kV doc pm an cdv ct) ⟨us, []⟩ = pure (ps.zip us)) : Binds K fd ps [] := by
 obtain ⟨oc, od, kV, doc, pm, an, cdv, ct, osl, rfl, lk, hcd⟩ := F.ex
 exact .all (h kV doc pm an cdv ct)
theorem uI {x qual : Str} {st : Stmt} {f : Addr} {oc : Value} {od an : Option Addr} {osl : Array (Option Value)} {kV doc pm cdv ct : Value} (l : K.lookup f = some ⟨oc, od, .func (W.fnOf x qual (A8 st) (A3 st) (zB st) .none kV doc pm an cdv ct), osl⟩)
  (c : W.codeIn K cdv qual = true) (k : W.keepIn K (.ref f) = true) : Fun K x qual st f (W.fnOf x qual (A8 st) (A3 st) (zB st) .none kV doc pm an cdv ct) := ⟨⟨oc, od, kV, doc, pm, an, cdv, ct, osl, rfl, l, c⟩, k⟩
end
section
variable {X : Cx}
theorem pv (i : Nat) {x : Str} {pos : Pos} (hN : X.N[i]? = some x := by rfl) (hv : Vis X.env.scope x := by first | exact Or.inl rfl | exact Or.inr (Or.inl rfl) | exact Or.inr (Or.inr rfl)) (hd : (x == ("__debug__" : Str)) = false := by decide)
  (hcd : (x == ("__classdict__" : Str)) = false := by decide) : PE X (.Name x pos) (tVar i) := fV hN hv hd hcd
end
noncomputable def Same (H H' : Hp) : Prop := ∀ b o, H b = some o -> H' b = some o
theorem Same.refl (H : Hp) : Same H H := fun _ _ h => h
theorem Same.trans {H H1 H2 : Hp} (a : Same H H1) (b : Same H1 H2) : Same H H2 := fun c o h => b c o (a c o h)
theorem Same.free {H H' : Hp} (e : Same H H') {l : Addr} (h : H' l = Option.none) : H l = Option.none := by
 cases q : H l with
 | none => rfl
 | some o =>
  rw [e l o q] at h
  cases h
section
variable {X : Cx}
end
section
variable {κ : Type} [DecidableEq κ]
end
end L2
set_option maxHeartbeats 4000000
namespace L2
open PySem PySem.Spec PyProof.Rows
section
variable {fs ex : List Addr} {H H' : Hp} {h h1 h2 : Heap}
end
theorem eR {env : Env} : ∀ (names : List (Str × NameKind)) (cs : List (Str × Addr)), (∀ y ∈ names, y.2 = .free -> ∃ c, env.cells.lookup y.1 = some c) -> (∀ x c, cs.lookup x = some c -> env.cells.lookup x = some c) ->
  ∃ cl : List (Str × Addr), (forIn names cs fun (y : Str × NameKind) (r : List (Str × Addr)) => if (y.2 == NameKind.free) = true then (do let a <- cellOf env y.1; pure (ForInStep.yield ((y.1, a) :: r)) : Sem _) else pure (ForInStep.yield r)) = (pure cl : Sem _) /\
   (∀ x c, cl.lookup x = some c -> env.cells.lookup x = some c) /\ (∀ x c, cs.lookup x = some c -> ∃ c', cl.lookup x = some c') /\ ∀ y ∈ names, y.2 = .free -> ∃ c, cl.lookup y.1 = some c
 | [], cs, _, h2 => ⟨cs, rfl, h2, fun x c e => ⟨c, e⟩, fun y hy => absurd hy (by simp)⟩
 | (n, k) :: r, cs, h1, h2 => by
  have hr : ∀ y ∈ r, y.2 = .free -> ∃ c, env.cells.lookup y.1 = some c := fun y hy => h1 y (List.mem_cons_of_mem _ hy)
  by_cases hk : k = .free
  ·obtain ⟨c, hc⟩ := h1 (n, k) (List.mem_cons_self ..) hk
   have h2' : ∀ x d, ((n, c) :: cs).lookup x = some d -> env.cells.lookup x = some d := fun x d e => by
    rw [List.lookup_cons] at e
    cases q : x == n with
    | true =>
     rw [q] at e
     have : x = n := by simpa using q
     subst this
     simp only [Option.some.injEq] at e
     subst e
     exact hc
    | false => rw [q] at e; exact h2 x d e
   obtain ⟨cl, e1, e2, e3, e4⟩ := eR r ((n, c) :: cs) hr h2'
   have hn : ∃ c', cl.lookup n = some c' := e3 n c (by simp)
   refine ⟨cl, ?_, e2, fun x d e => ?_, fun y hy hf => ?_⟩
   ·subst hk
    rw [List.forIn_cons]
    simp only [beq_self_eq_true, if_true]
    have ec : cellOf env n = pure c := by unfold cellOf; rw [hc]
    rw [ec]
    simp only [pure_bind]
    exact e1
   ·by_cases q : x = n
    ·subst q; exact hn
    ·exact e3 x d (by rw [List.lookup_cons, show (x == n) = false by simpa using q]; exact e)
   ·rcases List.mem_cons.mp hy with z | z
    ·subst z; exact hn
    ·exact e4 y z hf
  ·obtain ⟨cl, e1, e2, e3, e4⟩ := eR r cs hr h2
   refine ⟨cl, ?_, e2, e3, fun y hy hf => ?_⟩
   ·rw [List.forIn_cons]
    have hb : (k == NameKind.free) = false := by simpa using hk
    simp only [hb, Bool.false_eq_true, if_false, pure_bind]
    exact e1
   ·rcases List.mem_cons.mp hy with z | z
    ·subst z; exact absurd hf hk
    ·exact e4 y z hf
theorem mC {scope : Scope} {env : Env} (h : ∀ y ∈ scope.names, y.2 = .free -> ∃ c, env.cells.lookup y.1 = some c) :
  ∃ cl : List (Str × Addr), closureFor scope env = pure cl /\ (∀ x c, cl.lookup x = some c -> env.cells.lookup x = some c) /\ ∀ y ∈ scope.names, y.2 = .free -> ∃ c, cl.lookup y.1 = some c := by
 obtain ⟨cl, e1, e2, _, e4⟩ := eR (env := env) scope.names [] h (fun x c e => by simp at e)
 refine ⟨cl, ?_, e2, e4⟩
 unfold closureFor
 exact (bind_pure _).trans e1
noncomputable def zR (X : Cx) (N : List Str) (scope : Scope) (cl : List (Str × Addr)) (C : Addr) (ex : List Addr) (s : Shared) (H : Hp) : Cx :=
 { X with N := N, s₀ := s, H₀ := H, env := compEnvC scope cl C X.env, outer := X.stack, ex := ex, fn := fun _ => false, pn := [], xe := fun _ _ => False }
structure Ab (X : Cx) (own : List Str) (F : List Nat) (N : List Str) (scope : Scope) : Prop where
 kind : scope.kind = .function
 nocell : ∀ y ∈ scope.names, y.2 ≠ .cell
 loc : ∀ y ∈ scope.names, y.2 = .local -> scope.names.lookup y.1 = some .local
 fkind : X.env.scope.kind = .function
 free : ∀ y ∈ scope.names, y.2 = .free -> X.env.kindOf y.1 = some .cell \/ X.env.kindOf y.1 = some .free
 names : ∀ (i : Nat) x, N[i]? = some x -> (i < own.length \/ ∃ j, F[i - own.length]? = some j /\ X.N[j]? = some x /\ Vis X.env.scope x /\ ∀ k, (relabel scope X.env).names.lookup x = some k -> k = .cell \/ k = .free)
 len : N.length = own.length + F.length
noncomputable def rho (n : Nat) (F : List Nat) (σ : St) : St := List.replicate n none ++ F.map fun j => (σ[j]?).join
theorem jT (n : Nat) (F : List Nat) (σ : St) : (rho n F σ).length = n + F.length := by simp [rho]
theorem nF {n : Nat} {F : List Nat} {σ : St} {i : Nat} {v : V} (h : (rho n F σ)[i]? = some (some v)) : n <= i /\ ∃ j, F[i - n]? = some j /\ σ[j]? = some (some v) := by
 unfold rho at h
 by_cases hi : i < n
 ·rw [List.getElem?_append_left (by simpa using hi), List.getElem?_replicate] at h
  simp [hi] at h
 ·rw [List.getElem?_append_right (by simpa using hi), List.length_replicate, List.getElem?_map] at h
  refine ⟨Nat.le_of_not_lt hi, ?_⟩
  cases e : F[i - n]? with
  | none => rw [e] at h; cases h
  | some j =>
   rw [e] at h
   simp only [Option.map_some, Option.some.injEq] at h
   refine ⟨j, rfl, ?_⟩
   cases q : σ[j]? with
   | none => rw [q] at h; cases h
   | some o => rw [q] at h; simp only [Option.join] at h; rw [show o = some v from h]
theorem bf {env : Env} {x : Str} {k : NameKind} : ∀ {names : List (Str × NameKind)}, (names.map fun (n, k) => if (k == NameKind.free && env.scope.kind == .function && env.kindOf n == some .cell) then (n, NameKind.cell) else (n, k)).lookup x = some k ->
  ∃ k', (x, k') ∈ names /\ (k = k' \/ (k = .cell /\ k' = .free))
 | [], h => by simp at h
 | (n, k') :: r, h => by
  rw [List.map_cons] at h
  by_cases hc : (k' == NameKind.free && env.scope.kind == .function && env.kindOf n == some .cell) = true
  ·simp only [hc, if_true] at h
   rw [List.lookup_cons] at h
   cases q : x == n with
   | true =>
    rw [q] at h
    have : x = n := by simpa using q
    subst this
    refine ⟨k', List.mem_cons_self .., .inr ⟨?_, ?_⟩⟩
    ·simpa using h.symm
    ·simp only [Bool.and_eq_true, beq_iff_eq] at hc
     exact hc.1.1
   | false =>
    rw [q] at h
    obtain ⟨k2, h1, h2⟩ := bf h
    exact ⟨k2, List.mem_cons_of_mem _ h1, h2⟩
  ·simp only [hc, Bool.false_eq_true, if_false] at h
   rw [List.lookup_cons] at h
   cases q : x == n with
   | true =>
    rw [q] at h
    have : x = n := by simpa using q
    subst this
    refine ⟨k', List.mem_cons_self .., .inl ?_⟩
    simpa using h.symm
   | false =>
    rw [q] at h
    obtain ⟨k2, h1, h2⟩ := bf h
    exact ⟨k2, List.mem_cons_of_mem _ h1, h2⟩
section
variable {X : Cx} {pins : zw} {σ : St} {H : Hp} {s : Shared} {own N : List Str} {F : List Nat} {scope : Scope} {cl : List (Str × Addr)} {fp : List Addr}
theorem rX (S : Ab X own F N scope) (I : Inv X pins σ H s) (hf : ∀ b ∈ fp, FpOk X pins H b) (c1 : ∀ x c, cl.lookup x = some c -> X.env.cells.lookup x = some c) (c2 : ∀ y ∈ scope.names, y.2 = .free -> ∃ c, cl.lookup y.1 = some c)
  {C : Addr} (hC : s.heap.objs.size <= C) (hfp : ∀ b ∈ fp, b < s.heap.objs.size) : (zR X N scope cl C fp s H).Ok where
 mod := I.ok.mod
 kind := S.kind
 glob := I.ok.glob
 blt := I.ok.blt
 above := hC
 inj := fun x y c e1 e2 => I.ok.inj x y c (c1 x c e1) (c1 y c e2)
 has := fun x hx => by
  rcases hx with e | e
  ·obtain ⟨k', hm, hk⟩ := bf (env := X.env) (names := scope.names) e
   rcases hk with z | ⟨_, z⟩
   ·exact absurd z.symm (S.nocell _ hm)
   ·exact c2 _ hm z
  ·obtain ⟨k', hm, hk⟩ := bf (env := X.env) (names := scope.names) e
   rcases hk with z | ⟨z, _⟩
   ·exact c2 _ hm z.symm
   ·cases z
 cab := fun x c h _ => absurd h (by simp [zR])
 hd := I.ok.hd
 frames := I.ok.frames
 stk := .inl rfl
 exf := fun b hb => ⟨Nat.ne_of_lt (Nat.lt_of_lt_of_le (hfp b hb) hC), fun x c e => (hf b hb).2.2.2.2.1 x c (c1 x c e)⟩
 bs := I.bs
 bsz := Nat.le_trans I.ok.bsz I.sz
 noex := fun b o e hb => by
  rcases (hf b hb).2.2.2.1 with z | z
  ·exact I.ok.noex b o e z
  ·exact absurd (Nat.lt_of_lt_of_le (Nat.lt_of_lt_of_le (Heap.lt_size e) I.ok.bsz) z) (Nat.lt_irrefl _)
 exfs := fun b hb z => by
  rcases List.mem_cons.mp (I.stkSub b z) with q | q
  ·exact (hf b hb).2.1 q
  ·exact (hf b hb).2.2.1 q
 funs := I.stack
 frf := I.stkFree
theorem qg (S : Ab X own F N scope) (I : Inv X pins σ H s) (hf : ∀ b ∈ fp, FpOk X pins H b) (c1 : ∀ x c, cl.lookup x = some c -> X.env.cells.lookup x = some c) (c2 : ∀ y ∈ scope.names, y.2 = .free -> ∃ c, cl.lookup y.1 = some c)
  {C : Addr} (hC : s.heap.objs.size <= C) (hfp : ∀ b ∈ fp, b < s.heap.objs.size) {h' : Heap} {m : zu} {tk : Nat} (k : ∀ b o, s.heap.get? b = some o -> h'.get? b = some o) (hn : h'.Ns C m) :
  Inv (zR X N scope cl C fp s H) [] (rho own.length F σ) H { s with heap := h', toks := tk } := by
 have fresh : H C = none := I.hok.fresh hC
 refine ⟨rX S I hf c1 c2 hC hfp, rfl, I.bare, Un.kept k, ⟨m, hn, fun i x v e1 e2 e3 => ?_⟩, fun x c e => ?_, fresh, fun x c e => I.freeC x c (c1 x c e), fun p hp => absurd (show p ∈ ([] : zw) from hp) (by simp), I.hok.kept k, ?_⟩
 ·obtain ⟨hi, j, q1, q2⟩ := nF e2
  rcases S.names i x e1 with z | ⟨j', z1, z2, z3, z4⟩
  ·exact absurd hi (Nat.not_le.mpr z)
  ·rw [q1] at z1
   cases z1
   obtain ⟨m0, _, hl⟩ := I.loc
   obtain ⟨u, r, l⟩ := hl j x v z2 q2 z3
   refine ⟨u, r, ?_⟩
   have vis : ∀ k, (relabel scope X.env).names.lookup x = some k -> k = .cell \/ k = .free := z4
   obtain ⟨k2, hk2, hkc⟩ : ∃ k2, (relabel scope X.env).names.lookup x = some k2 /\ (k2 = .cell \/ k2 = .free) := by
    rcases e3 with z | z | z
    ·exact ⟨_, z, vis _ z⟩
    ·exact ⟨_, z, vis _ z⟩
    ·exact ⟨_, z, vis _ z⟩
   obtain ⟨k', hm, hk⟩ := bf (env := X.env) (names := scope.names) hk2
   have hfree : k' = .free := by
    rcases hk with q | ⟨_, q⟩
    ·rcases hkc with y | y
     ·exact absurd (q.symm.trans y) (S.nocell _ hm)
     ·exact q.symm.trans y
    ·exact q
   obtain ⟨c, hc⟩ := c2 _ hm hfree
   refine .inr ⟨?_, c, hc, ?_⟩
   ·rcases hkc with y | y
    ·subst y; exact .inl hk2
    ·subst y; exact .inr hk2
   ·have hx := S.free _ hm hfree
    rcases l with ⟨q, _⟩ | ⟨_, c', e', ic⟩
    ·rcases hx with y | y
     ·rw [q] at y; cases y
     ·rw [q] at y; cases y
    ·have : c' = c := Option.some.inj (e'.symm.trans (c1 _ _ hc))
     subst this
     obtain ⟨o, ho, hd⟩ := ic
     exact ⟨o, k _ _ ho, hd⟩
 ·obtain ⟨v, o, ho, hd⟩ := I.cell x c (c1 x c e)
  exact ⟨v, o, k _ _ ho, hd⟩
 ·show (rho own.length F σ).length = N.length
  rw [jT, S.len]
end
noncomputable def B6 (n : Nat) (F : List Nat) (wi : TI) (g : TG) (tc : TT) (te : TE) : TE := fun σ H Q => wi σ H fun J H1 =>
 ∃ W : Nat -> Nat -> List V -> Hp -> Prop, (∃ m, W 0 m [] H1) /\ ∀ i m ys H2, W i m ys H2 ->
  (J.stop i H2 /\ ∀ D, H2 D = none -> Q (.ref D) (upd H2 D (.lst ys))) \/
  (J.go i H2 /\ ∀ x H3, J.yld i H2 x H3 -> g x (rho n F σ) H3 fun ρ H4 => tc ρ H4 fun b H5 =>
   if b = true then te ρ H5 fun v H6 => ys.length < sizeLine /\ ∃ m', m' < m /\ W (i + 1) m' (ys ++ [v]) H6 else ∃ m', m' < m /\ W (i + 1) m' ys H5)
def tYes : TT := fun _ H Q => Q true H
theorem HOk.track {P : Program} {w : World} {H : Hp} {h : Heap} {a : Addr} {o : HO} (x : HOk P w H h) (hn : H a = none) (new : zY P w (upd H a o) h a o) : HOk P w (upd H a o) h := fun b u e => by
 by_cases hb : b = a
 ·subst hb
  rw [aq] at e
  cases e
  exact new
 ·rw [ah hb] at e
  refine (x b u e).stay (fun _ _ _ q => q) (fun c q => ?_) fun c xs q => ?_
  ·rw [ah (ao q hn)]; exact q
  ·rw [ah (ao q hn)]; exact q
section
variable {prog : Program} {w : World} {A : Around} {R : Result -> Shared -> Prop} {s : Shared}
abbrev Bk (ifs : List Expr) (env : Env) : Sem Bool := forIn ifs true fun c r => if r = true then do let ok <- isTrue c env (eval c env); pure (ForInStep.yield ok) else pure (ForInStep.yield r)
theorem oC {elt tg iter : Expr} {ifs : List Expr} {scope : Scope} {pos : Pos} {it acc : Value} {env : Env} (W : Nat -> Shared -> Prop)
  (turn : ∀ n s, W n s -> wpAny (model prog w) A (pyNext it) (fun r s1 => match r with
   | none => R (.ok .next) s1
   | some v => wpAny (model prog w) A (letOwnedTupleGo tg it v) (fun _ s2 => wpAny (model prog w) A (assign tg env v) (fun _ s3 => wpAny (model prog w) A (Bk ifs env) (fun ok s4 =>
     if ok = true then wpAny (model prog w) A (eval elt env) (fun x s5 => wpAny (model prog w) A (call (.builtin "list.append") [acc, x]) (fun _ s6 => ∃ m, m < n /\ W m s6) (fun _ _ => False) s5) (fun _ _ => False) s4
     else ∃ m, m < n /\ W m s4) (fun _ _ => False) s3) (fun _ _ => False) s2) (fun _ _ => False) s1) (fun _ _ => False) s)
  (n : Nat) (h : W n s) : codeAny (model prog w) A (.compLoop (.ListComp elt [⟨tg, iter, ifs, 0⟩] scope pos) 0 it acc env) R s := by
 have no : ∀ {α : Type} {m : Sem α} {Q : α -> Shared -> Prop} {E : zx} {s : Shared}, wpAny (model prog w) A m Q (fun _ _ => False) s -> wpAny (model prog w) A m Q E s := fun z => wpAny_mono z (fun _ _ q => q) fun _ _ q => q.elim
 refine codeAny_loop rfl W (fun n s hI => ?_) n h
 show wpAny _ A ((compTurn (.ListComp elt [⟨tg, iter, ifs, 0⟩] scope pos) 0 it acc env).onRaise (fun x => do noteFrame x env; theTreesLotGoes x)) _ _ s
 refine wpAny_noted ?_
 rw [compTurn_list]
 refine wpAny_bind (wpAny_standAt (wpAny_bind (wpAny_mono (turn n s hI) (fun r s1 h1 => ?_) fun _ _ q => q.elim)))
 cases r with
 | none => exact wpAny_pure h1
 | some v =>
  refine wpAny_bind (wpAny_mono h1 (fun _ s2 h2 => ?_) fun _ _ q => q.elim)
  refine wpAny_bind (wpAny_mono h2 (fun _ s3 h3 => ?_) fun _ _ q => q.elim)
  refine wpAny_bind (wpAny_mono h3 (fun ok s4 h4 => ?_) fun _ _ q => q.elim)
  cases ok with
  | false => exact wpAny_pure ⟨rfl, h4⟩
  | true =>
   refine wpAny_bind (wpAny_bind (wpAny_mono h4 (fun x s5 h5 => ?_) fun _ _ q => q.elim))
   exact wpAny_bind (wpAny_mono h5 (fun _ s6 h6 => wpAny_pure (wpAny_pure ⟨rfl, h6⟩)) fun _ _ q => q.elim)
end
noncomputable def Stays (n : Nat) (F : List Nat) (g : TG) : Prop := ∀ x σ H Q, g x (rho n F σ) H Q -> g x (rho n F σ) H fun ρ' H' => (ρ'.length = (rho n F σ).length /\ ∀ (j : Nat) v, (rho n F σ)[j]? = some (some v) -> ρ'[j]? = some (some v)) /\ Q ρ' H'
theorem i7 {n i : Nat} {F : List Nat} (h : i < n) : Stays n F (Ad i) := fun x σ H Q q => by
 refine ⟨⟨by simp, fun j v e => ?_⟩, q⟩
 have := (nF e).1
 rw [List.getElem?_set_ne (by lia)]
 exact e
section
variable {X : Cx} {own N : List Str} {F : List Nat} {scope : Scope} {tg elt iter : Expr} {wi : TI} {g : TG} {tc : TT} {te : TE} {pos : Pos} {ifs : List Expr}
noncomputable def PTs (X : Cx) (ifs : List Expr) (tc : TT) : Prop :=
 ∀ (pins : zw) (s : Shared) (σ : St) (H : Hp) (Q : Bool -> Hp -> Prop), Inv X pins σ H s -> tc σ H Q -> wpAny (model X.prog X.w) X.A (Bk ifs X.env) (TP X pins σ Q) X.xe s
theorem nG : PTs X [] tYes := fun pins s σ H Q I h => wpAny_tests_nil ⟨H, I, h⟩
theorem jU {c : Expr} (hc : PT X c tc) : PTs X [c] tc := fun pins s σ H Q I h => wpAny_tests_one (hc pins s σ H Q I h)
structure Beside (X : Cx) (pins : zw) (H : Hp) (C : Addr) : Prop where
 hn : H C = none
 hL : C ≠ X.env.locals
 h1 : C ∈ X.ex \/ X.s₀.heap.objs.size <= C
 h2 : ∀ x c, X.env.cells.lookup x = some c -> c ≠ C
 h3 : ∀ p ∈ X.pn ++ pins, p.1 ≠ C
theorem Inv.beside {X : Cx} {pins : zw} {σ : St} {H : Hp} {s : Shared} {C : Addr} {h' : Heap} (I : Inv X pins σ H s) (B : Beside X pins H C) (hs : Heap.SameBut C s.heap h') : Inv X pins σ H { s with heap := h' } :=
 I.turned (t' := s.toks) (fun b o hb e => (hs.2 b hb).trans e) B.hn B.hL B.h1 B.h2 B.h3
theorem js {pins : zw} {s : Shared} {σ : St} {H : Hp} {Fin : List V -> Hp -> Prop} {use : Option (Value -> Sem Unit)} {Qv : zx} {cpos : Pos} (S : Ab X own F N scope) (hcm : X.calm = true) (hi : PI X tg iter wi) (hg : ∀ cl C ex s H, PG (zR X N scope cl C ex s H) tg g)
  (ht : ∀ cl C ex s H, PTs (zR X N scope cl C ex s H) ifs tc) (he : ∀ cl C ex s H, PE (zR X N scope cl C ex s H) elt te) (hgw : Stays own.length F g) (hs : ∀ x, foldedSetIterable iter X.env x = pure x) (I : Inv X pins σ H s)
  (h : wi σ H fun J H1 => ∃ W : Nat -> Nat -> List V -> Hp -> Prop, (∃ m, W 0 m [] H1) /\ ∀ i m ys H2, W i m ys H2 -> (J.stop i H2 /\ Fin ys H2) \/
   (J.go i H2 /\ ∀ x H3, J.yld i H2 x H3 -> g x (rho own.length F σ) H3 fun ρ H4 => tc ρ H4 fun b H5 => if b = true then te ρ H5 fun v H6 => ys.length < sizeLine /\ ∃ m', m' < m /\ W (i + 1) m' (ys ++ [v]) H6 else ∃ m', m' < m /\ W (i + 1) m' ys H5))
  (fin : ∀ D C ys H' s', Fin ys H' -> H' D = none -> Inv X pins σ (upd H' D (.lst ys)) s' -> Beside X pins (upd H' D (.lst ys)) C -> (∃ m, s'.heap.Ns C m) -> compPost (model X.prog X.w) X.A X.xe use Qv (.ref D) C (.ok .next) s') :
  wpAny (model X.prog X.w) X.A (comprehension (.ListComp elt [⟨tg, iter, ifs, 0⟩] scope pos) scope X.env cpos (newList []) false (eval iter X.env) use) Qv X.xe s := by
 obtain ⟨cl, hcl, c1, c2⟩ := mC (scope := scope) (env := X.env) fun y hy hf => I.ok.has _ (S.free y hy hf)
 refine wpAny_comprehension_free (use := use) rfl hs hcl S.kind S.loc (thn (hi pins s σ H _ I h) fun x s1 h1 => thn h1 fun itv s2 h2 => ?_)
 obtain ⟨it, fp, tn, J, H2, e, I2, T, st2, f2, W, ⟨m0, w0⟩, turn⟩ := h2
 subst e
 refine wpAny_newObj_type (wpAny_newFunctionEnv S.nocell (fun y hy => absurd hy (by simp)) (fun h4 hns hsb => ?_) S.kind)
 dsimp only at hns hsb ⊢
 generalize eP : s2.heap.push { cls := .type "list", dict := none, data := .seq ([] : List Value).toArray } = hp3 at hns hsb ⊢
 have hD : hp3.objs.size = s2.heap.objs.size + 1 := by rw [<- eP, Heap.size_push]
 generalize eD : s2.heap.objs.size = D at hD ⊢
 generalize eC : hp3.objs.size = C at hns hsb hD ⊢
 have k23 : ∀ b o, s2.heap.get? b = some o -> hp3.get? b = some o := fun b o q => by rw [<- eP]; exact Heap.get?_push_of_some _ q
 have ltD : ∀ {b : Addr} {o : Obj}, s2.heap.get? b = some o -> b < D := fun {b o} q => by rw [<- eD]; exact Heap.lt_size q
 have k34 : ∀ b o, hp3.get? b = some o -> h4.get? b = some o := fun b o q => hsb.extBut b o (Nat.ne_of_lt (by rw [<- eC]; exact Heap.lt_size q)) (Heap.get?_push_of_some _ q)
 have oD3 : hp3.get? D = some { cls := .type "list", dict := none, data := .seq ([] : List Value).toArray } := by rw [<- eP, <- eD]; exact Heap.get?_push_size _ rfl
 have I3 : Inv X pins σ H2 { s2 with heap := hp3 } := I2.kept (t' := s2.toks) k23
 have fD : FpOk X pins H2 D := I2.fpOk (by rw [eD]; exact Nat.le_refl _) (I2.hok.fresh (by rw [eD]; exact Nat.le_refl _))
 have f3 : ∀ b ∈ D :: fp, FpOk X pins H2 b := fun b hb => by
  rcases List.mem_cons.mp hb with z | z
  ·subst z; exact fD
  ·exact f2 b z
 have ltf : ∀ b ∈ fp, b < D := fun b hb => by
  obtain ⟨o, q, _⟩ := T.obj _ _ st2 b hb
  exact ltD q
 have lt3 : ∀ b ∈ D :: fp, b < ({ s2 with heap := hp3 } : Shared).heap.objs.size := fun b hb => by
  show b < hp3.objs.size
  rw [eC, hD]
  rcases List.mem_cons.mp hb with z | z
  ·subst z; exact Nat.lt_succ_self _
  ·exact Nat.lt_succ_of_lt (ltf b z)
 have I4 := qg (N := N) S I3 f3 c1 c2 (C := C) (by show hp3.objs.size <= C; lia) lt3 (h' := h4) (tk := s2.toks + ([] : List (Str × Value)).length) k34 hns
 generalize eX : zR X N scope cl C (D :: fp) { s2 with heap := hp3 } H2 = X' at I4
 have hX'loc : X'.env.locals = C := by rw [<- eX]; rfl
 have hX'fs : X'.fs = frs X.stack := by rw [<- eX]; rfl
 have nfD : D ∉ X'.fs := fun z => by
  rw [hX'fs] at z
  rcases List.mem_cons.mp (I2.stkSub D z) with q | q
  ·exact fD.2.1 q
  ·exact fD.2.2.1 q
 have nLD : D ≠ X'.env.locals := by rw [hX'loc, hD]; exact Nat.ne_of_lt (Nat.lt_succ_self _)
 have pinD : ∀ {H' : Hp} {s' : Shared} {σ' : St} {pl : zw} {its : List Value} {k : Nat}, Inv X' pl σ' H' s' -> H' D = none -> s'.heap.get? D = some { cls := .type "list", data := .seq its.toArray k } ->
   Inv X' [(D, { cls := .type "list", data := .seq its.toArray k })] σ' H' s' := fun {H' s' σ' pl its k} J hn q => J.pins_of fun p hp => by
  have : p = (D, { cls := .type "list", data := .seq its.toArray k }) := by simpa using hp
  subst this
  exact ⟨q, hn, nLD, nfD, fun v z => by cases z⟩
 have stat : ∀ {H' : Hp} {its : List Value} {k : Nat}, (∀ b ∈ fp, H' b = none) -> ∀ b ∈ fp, FpOk X' [(D, { cls := .type "list", data := .seq its.toArray k })] H' b := fun {H' its k} hn b hb => by
  refine ⟨hn b hb, ?_, fun z => ?_, .inl ?_, fun x c q => ?_, fun p hp => ?_⟩
  ·rw [hX'loc, hD]; exact Nat.ne_of_lt (Nat.lt_succ_of_lt (ltf b hb))
  ·rw [hX'fs] at z
   rcases List.mem_cons.mp (I2.stkSub b z) with q | q
   ·exact (f2 b hb).2.1 q
   ·exact (f2 b hb).2.2.1 q
  ·rw [<- eX]; exact List.mem_cons_of_mem _ hb
  ·rw [<- eX] at q
   exact (f2 b hb).2.2.2.2.1 x c (c1 x c q)
  ·have hpn : X'.pn = [] := by rw [<- eX]; rfl
   rw [hpn] at hp
   have : p = (D, { cls := .type "list", data := .seq its.toArray k }) := by simpa using hp
   subst this
   exact fun z => Nat.lt_irrefl b (Nat.lt_of_lt_of_eq (ltf b hb) z)
 let Wn : Nat -> Shared -> Prop := fun n s' => ∃ i ys its k H', Inv X' [(D, { cls := .type "list", data := .seq (List.toArray its) k })] (rho own.length F σ) H' s' /\ Vals ys its /\ ys.length <= sizeLine /\ tn i s'.heap /\ (∀ b ∈ fp, H' b = none) /\ W i n ys H'
 have start : Wn m0 { s2 with heap := h4, toks := s2.toks + ([] : List (Str × Value)).length } :=
  ⟨0, [], [], 0, H2, pinD I4 fD.1 (k34 _ _ oD3), .nil, Nat.zero_le _, T.keep _ _ _ st2 (fun b _ o q => k34 b o (k23 b o q)), fun b hb => (f2 b hb).1, w0⟩
 have loop : ∀ s' : Shared, Wn m0 s' -> codeAny (model X.prog X.w) X.A (.compLoop (.ListComp elt [⟨tg, iter, ifs, 0⟩] scope pos) 0 (.ref it) (.ref D) X'.env) (compPost (model X.prog X.w) X.A X.xe use Qv (.ref D) C) s' := by
  intro s' hs'
  refine oC Wn ?_ m0 hs'
  rintro n s5 ⟨i, ys, its, k, H5, I5, rv5, z5, st5, fr5, w5⟩
  have ePr : X'.prog = X.prog := by rw [<- eX]; rfl
  have ew : X'.w = X.w := by rw [<- eX]; rfl
  have eK : X'.K = X.K := by rw [<- eX]; rfl
  have eA : X'.A = X.A := by rw [<- eX]; rfl
  have ecm : X'.calm = true := by rw [<- eX]; exact hcm
  have exe : X'.xe = fun _ _ => False := by rw [<- eX]; rfl
  rcases turn i n ys H5 w5 with ⟨stop, qn⟩ | ⟨go, step⟩
  ·have td := T.done X' ePr ew eK ecm i _ s5 _ H5 (fun _ _ => False) I5 (stat fr5) st5 stop
   rw [eA] at td
   refine thn td fun r s6 ⟨hr, I6⟩ => ?_
   subst hr
   show compPost (model X.prog X.w) X.A X.xe use Qv (.ref D) C (.ok .next) s6
   obtain ⟨m6, hn6, _⟩ := I6.loc
   have oD6 := (I6.pin (D, { cls := .type "list", data := .seq its.toArray k }) (List.mem_append_right _ (List.mem_cons_self ..))).1
   have nD6 : H5 D = none := (I6.pin (D, { cls := .type "list", data := .seq its.toArray k }) (List.mem_append_right _ (List.mem_cons_self ..))).2.1
   have nC6 : H5 C = none := by rw [<- hX'loc]; exact I6.free
   have u6 : Un (frs X.stack) (D :: fp) H2 H5 hp3 s6.heap := by
    have := I6.base
    rw [hX'fs] at this
    rw [<- eX] at this
    exact this
   have hok7 : HOk X.prog X.w H5 s6.heap := by
    have := I6.hok
    rw [ePr, ew] at this
    exact this
   have neD : ∀ {b : Addr} {o : Obj}, s2.heap.get? b = some o -> b ≠ D := fun {b o} q => Nat.ne_of_lt (ltD q)
   have nin : ∀ {b : Addr} {o : Obj}, s2.heap.get? b = some o -> b ∉ fp -> b ∉ D :: fp := fun {b o} q hb z => by
    rcases List.mem_cons.mp z with y | y
    ·exact neD q y
    ·exact hb y
   have u8 : Un (frs X.stack) fp H2 (upd H5 D (.lst ys)) s2.heap s6.heap :=
    ⟨fun b o q n x y => u6.keep b o (k23 b o q) n x (nin q y), fun b o q n x y => u6.slot b o (k23 b o q) n x (nin q y), fun b o q n y => by rw [ah (neD q)]; exact u6.free b o (k23 b o q) n (nin q y),
     fun b o q y => u6.there b o (k23 b o q) (nin q y), fun b xs q => by
      have q' := u6.tups b xs q
      rw [ah (ao q' nD6)]; exact q', fun b o u q => by
      have q' := u6.frzs b o u q
      rw [ah (ao q' nD6)]; exact q', fun b ps q => by
      obtain ⟨more, q'⟩ := u6.tbls b ps q
      exact ⟨more, by rw [ah (ao q' nD6)]; exact q'⟩⟩
   have hos : s6.os = s2.os := by
    have := I6.os
    rw [<- eX] at this
    exact this
   have J : Inv X pins σ (upd H5 D (.lst ys)) s6 :=
    I2.call' (s' := s6) (ch := fp) hos u8 (hok7.track nD6 ⟨z5, its, k, rv5, oD6⟩) I6.bare fun b hb => ⟨(f2 b hb).2.2.2.1, (f2 b hb).2.1, (f2 b hb).2.2.2.2.1, (f2 b hb).2.2.2.2.2⟩
   have fC : FpOk X pins (upd H5 D (.lst ys)) C := I2.fpOk (by rw [eD, hD]; exact Nat.le_succ _) (by rw [ah (by rw [hD]; exact Nat.ne_of_gt (Nat.lt_succ_self _))]; exact nC6)
   exact fin D C ys H5 s6 qn nD6 J ⟨fC.1, fC.2.1, fC.2.2.2.1, fC.2.2.2.2.1, fC.2.2.2.2.2⟩ ⟨m6, by rw [<- hX'loc]; exact hn6⟩
  ·have ti := T.item X' ePr ew eK ecm i _ s5 _ H5 (fun _ _ => False) I5 (stat fr5) st5 go
   rw [eA] at ti
   refine thn ti fun r s6 ⟨u, hr, h6⟩ => ?_
   subst hr
   refine thn h6 fun _ s7 ⟨x, H7, I7, r7, y7, st7, fr7⟩ => ?_
   have I7' := I7.pinned (stat fr7) (T.obj _ _ st7)
   have hg' : PG X' tg g := by rw [<- eX]; exact hg _ _ _ _ _
   have ht' : PTs X' ifs tc := by rw [<- eX]; exact ht _ _ _ _ _
   have he' : PE X' elt te := by rw [<- eX]; exact he _ _ _ _ _
   have sg := hg' _ s7 _ H7 x u _ I7' r7 (hgw x σ H7 _ (step x H7 y7))
   rw [ePr, ew, eA, exe] at sg
   refine thn sg fun _ s8 ⟨ρ8, H8, I8, q8', q8⟩ => ?_
   have stt := ht' _ s8 ρ8 H8 _ I8 q8
   rw [ePr, ew, eA, exe] at stt
   refine thn stt fun ok s9 ⟨H9, I9, q9⟩ => ?_
   have hw8 : ρ8.length = (rho own.length F σ).length /\ ∀ (j : Nat) v, (rho own.length F σ)[j]? = some (some v) -> ρ8[j]? = some (some v) := q8'
   have onward : ∀ {s' : Shared} {ρ : St} {H' : Hp} {ys' : List V} {its' : List Value} {k' : Nat}, ρ.length = (rho own.length F σ).length -> (∀ (j : Nat) v, (rho own.length F σ)[j]? = some (some v) -> ρ[j]? = some (some v)) ->
     Inv X' (AB fp s7.heap) ρ H' s' -> H' D = none -> s'.heap.get? D = some { cls := .type "list", data := .seq its'.toArray k' } -> Vals ys' its' -> ys'.length <= sizeLine -> (∃ m', m' < n /\ W (i + 1) m' ys' H') -> ∃ m, m < n /\ Wn m s' :=
    fun {s' ρ H' ys' its' k'} hl hw J hn ho rv hz ⟨m', hm, w'⟩ => by
     refine ⟨m', hm, i + 1, ys', its', k', H', (pinD J hn ho).weak hl.symm hw, rv, hz, T.keep _ _ _ st7 fun b hb o e => (J.pin (b, o) (List.mem_append_right _ (cP hb e))).1, fun b hb => ?_, w'⟩
     obtain ⟨o, e, _⟩ := T.obj _ _ st7 b hb
     exact (J.pin (b, o) (List.mem_append_right _ (cP hb e))).2.1
   have noD : ∀ {ρ : St} {H' : Hp} {s' : Shared}, Inv X' ([(D, { cls := .type "list", data := .seq its.toArray k })] ++ AB fp s7.heap) ρ H' s' -> Inv X' (AB fp s7.heap) ρ H' s' /\ H' D = none /\ s'.heap.get? D = some { cls := .type "list", data := .seq its.toArray k } :=
    fun {ρ H' s'} J => by
     have pD := J.pin (D, { cls := .type "list", data := .seq its.toArray k }) (List.mem_append_right _ (List.mem_append_left _ (List.mem_cons_self ..)))
     exact ⟨J.pins_of fun p hp => J.pin p (List.mem_append_right _ (List.mem_append_right _ hp)), pD.2.1, pD.1⟩
   cases ok with
   | false =>
    obtain ⟨J, n9, o9⟩ := noD I9
    have q9' : ∃ m', m' < n /\ W (i + 1) m' ys H9 := by simpa using q9
    show ∃ m, m < n /\ Wn m s9
    exact onward hw8.1 hw8.2 J n9 o9 rv5 z5 q9'
   | true =>
    have q9' : te ρ8 H9 fun v H6 => ys.length < sizeLine /\ ∃ m', m' < n /\ W (i + 1) m' (ys ++ [v]) H6 := by simpa using q9
    have se := he' _ s9 ρ8 H9 _ I9 q9'
    rw [ePr, ew, eA, exe] at se
    refine thn se fun uv s10 ⟨v, H10, I10, rv, hz, qm⟩ => ?_
    obtain ⟨J, n10, o10⟩ := noD I10
    have hlen := rv5.length
    refine call_meets PySem.F.slot_list_append ⟨_, o10, rfl⟩ PySem.F.entry_list_append (PySem.F.args_list_append_2 _ _) (PySem.list_append D its.toArray k uv (by rw [List.size_toArray]; lia)) ⟨o10, ?_⟩
    have oN := PySem.IsL.update o10 (·.push uv)
    rw [show its.toArray.push uv = (its ++ [uv]).toArray by simp] at oN
    have kN : ∀ b o, b ≠ D -> s10.heap.get? b = some o -> (s10.heap.update D (Obj.mapSeq (·.push uv))).get? b = some o := fun b o hb q => (Heap.get?_update_other _ _ (Ne.symm hb)).trans q
    have JN := J.turned (t' := s10.toks) (it := D) kN n10 nLD (.inl (by rw [<- eX]; exact List.mem_cons_self ..)) (fun x c q => by
     rw [<- eX] at q
     exact fD.2.2.2.2.1 x c (c1 x c q)) (fun p hp => by
     have hpn : X'.pn = [] := by rw [<- eX]; rfl
     rw [hpn] at hp
     exact Nat.ne_of_lt (ltf p.1 (ji (by simpa using hp)).1))
    refine onward hw8.1 hw8.2 JN n10 (its' := its ++ [uv]) oN (rv5.append (.cons rv .nil)) (by rw [List.length_append, List.length_singleton]; lia) qm
 have fin := loop _ start
 rw [show X'.env = compEnvC scope cl C X.env by rw [<- eX]; rfl] at fin
 exact codeAny_compStart_list fin (T.self X.A 0 _ _ _ (T.keep _ _ _ st2 (fun b _ o q => k34 b o (k23 b o q))) fin)
theorem rY (S : Ab X own F N scope) (hcm : X.calm = true) (hi : PI X tg iter wi) (hg : ∀ cl C ex s H, PG (zR X N scope cl C ex s H) tg g) (ht : ∀ cl C ex s H, PTs (zR X N scope cl C ex s H) ifs tc)
  (he : ∀ cl C ex s H, PE (zR X N scope cl C ex s H) elt te) (hgw : Stays own.length F g) (hs : ∀ x, foldedSetIterable iter X.env x = pure x := by intro _; rfl) : PE X (.ListComp elt [⟨tg, iter, ifs, 0⟩] scope pos) (B6 own.length F wi g tc te) := by
 intro pins s σ H Q I h
 rw [eval_ListComp]
 refine js (use := none) (Fin := fun ys H2 => ∀ D, H2 D = none -> Q (.ref D) (upd H2 D (.lst ys))) S hcm hi hg ht he hgw hs I h fun D C ys H' s' q hD J B ⟨m, hn⟩ => ?_
 exact ⟨m, hn, fun h' hs' => ⟨.ref D, _, J.beside B hs', rfl, q D hD⟩⟩
theorem rZ {i : Nat} {y : Str} {py spos : Pos} (S : Ab X own F N scope) (hcm : X.calm = true) (hi : PI X tg iter wi) (hg : ∀ cl C ex s H, PG (zR X N scope cl C ex s H) tg g) (ht : ∀ cl C ex s H, PTs (zR X N scope cl C ex s H) ifs tc)
  (he : ∀ cl C ex s H, PE (zR X N scope cl C ex s H) elt te) (hgw : Stays own.length F g) (hN : X.N.Nodup) (hy : X.N[i]? = some y) (hl : X.env.scope.names.lookup y = some .local)
  (hsw : swapsWith (.ListComp elt [⟨tg, iter, ifs, 0⟩] scope pos) (some (.Name y py)) spos.line X.env = pure true) (hs : ∀ x, foldedSetIterable iter X.env x = pure x := by intro _; rfl) :
  PS X (.Assign [.Name y py] (.ListComp elt [⟨tg, iter, ifs, 0⟩] scope pos) spos) (tAsg (B6 own.length F wi g tc te) (Ad i)) := by
 intro pins s σ H D0 I h
 rw [exec_Assign_Name_used _ _ _ _ hsw]
 refine wpAny_bind (wpAny_standAt (wpAny_bind ?_))
 show wpAny _ X.A (do let _ <- comprehension (.ListComp elt [⟨tg, iter, ifs, 0⟩] scope pos) scope X.env _ (newList []) false (eval iter X.env) (some (assign (.Name y py) X.env))) _ _ s
 refine wpAny_bind (wpAny_mono (js (use := some (assign (.Name y py) X.env)) (Qv := fun _ s' => SP X pins D0 .next s') (Fin := fun ys H2 => ∀ D, H2 D = none -> D0.nx (σ.set i (some (.ref D))) (upd H2 D (.lst ys))) S hcm hi hg ht he hgw hs I h fun D C ys H' s' q hD J B ⟨m, hn⟩ => ?_)
  (fun _ s' hq => wpAny_pure (wpAny_pure hq)) fun _ _ z => z)
 show wpAny _ X.A (assign (.Name y py) X.env (.ref D)) _ _ s'
 refine wpAny_assign_Name (jh J hN hy (.inl hl) (v := .ref D) rfl (fun s2 J2 ⟨a, sb, ha⟩ => ?_) (.inr hl))
 have hCa : C ≠ a := by
  rcases ha with z | z
  ·subst z; exact B.hL
  ·exact (B.h2 _ _ z).symm
 exact ⟨m, hn.sameBut sb hCa, fun h' hs' => ⟨_, _, J2.beside ⟨B.hn, B.hL, B.h1, B.h2, B.h3⟩ hs', q D hD⟩⟩
end
abbrev TuT (H : Hp) (a : Addr) (xs : List V) : Prop := H a = some (.tup xs)
noncomputable def keyD : Key -> PyData
 | .inl i => .int i
 | .inr x => .str x
mutual
inductive Dt (K : W.Frag) (H : Hp) : V -> PyData -> Prop
 | non : Dt K H .non .none
 | bl (b : Bool) : Dt K H (.bl b) (.bool b)
 | int (i : Int) : Dt K H (.int i) (.int i)
 | str (x : Str) : Dt K H (.str x) (.str x)
 | lst {a : Addr} {xs : List V} {ds : zt} : SqR K H a xs -> Dts K H xs ds -> Dt K H (.ref a) (.list ds)
 | tup {a : Addr} {xs : List V} {ds : zt} : TuT H a xs -> Dts K H xs ds -> Dt K H (.ref a) (.tuple ds)
 | dct {a : Addr} {kvs : List (Key × V)} {es : List (PyData × PyData)} : H a = some (.dK kvs) -> Des K H kvs es -> Dt K H (.ref a) (.dict es)
inductive Dts (K : W.Frag) (H : Hp) : List V -> zt -> Prop
 | nil : Dts K H [] []
 | cons {x : V} {xs : List V} {d : PyData} {ds : zt} : Dt K H x d -> Dts K H xs ds -> Dts K H (x :: xs) (d :: ds)
inductive Des (K : W.Frag) (H : Hp) : List (Key × V) -> List (PyData × PyData) -> Prop
 | nil : Des K H [] []
 | cons {k : Key} {v : V} {kvs : List (Key × V)} {d : PyData} {es : List (PyData × PyData)} : Dt K H v d -> Des K H kvs es -> Des K H ((k, v) :: kvs) ((keyD k, d) :: es)
end
theorem Same.tup {K : W.Frag} {H H' : Hp} {a : Addr} {xs : List V} (e : Same H H') (h : TuT H a xs) : SqT K H' a xs := .of (e _ _ h)
theorem Same.rd {H H' : Hp} {a : Addr} {u : HO} (e : Same H H') (h : Rd H a u) : Rd H' a u := by
 rcases h with h | ⟨o, h⟩
 ·exact .inl (e _ _ h)
 ·exact .inr ⟨o, e _ _ h⟩
theorem Same.sqr {K : W.Frag} {H H' : Hp} {a : Addr} {xs : List V} (e : Same H H') (h : SqR K H a xs) : SqR K H' a xs := by
 rcases h with h | h
 ·exact .inl (e.rd h)
 ·exact .inr h
theorem SqR.sq {K : W.Frag} {H : Hp} {a : Addr} {xs : List V} (h : SqR K H a xs) : SqL K H a xs := by
 rcases h with h | ⟨its, n, h1, h2, h3⟩
 ·exact .inl h
 ·exact .inr ⟨_, its, n, h1, rfl, rfl, rfl, h2, h3⟩
theorem SqR.of {K : W.Frag} {H : Hp} {a : Addr} {xs : List V} (h : H a = some (.lst xs)) : SqR K H a xs := .inl (.inl h)
section
variable {K : W.Frag} {H H' : Hp}
mutual
theorem Dt.mono (e : Same H H') : ∀ {v : V} {d : PyData}, Dt K H v d -> Dt K H' v d
 | _, _, .non => .non
 | _, _, .bl b => .bl b
 | _, _, .int i => .int i
 | _, _, .str x => .str x
 | _, _, .lst q r => .lst (e.sqr q) (Dts.mono e r)
 | _, _, .tup q r => .tup (e _ _ q) (Dts.mono e r)
 | _, _, .dct q r => .dct (e _ _ q) (Des.mono e r)
theorem Dts.mono (e : Same H H') : ∀ {vs : List V} {ds : zt}, Dts K H vs ds -> Dts K H' vs ds
 | _, _, .nil => .nil
 | _, _, .cons x r => .cons (Dt.mono e x) (Dts.mono e r)
theorem Des.mono (e : Same H H') : ∀ {vs : List (Key × V)} {ds : List (PyData × PyData)}, Des K H vs ds -> Des K H' vs ds
 | _, _, .nil => .nil
 | _, _, .cons x r => .cons (Dt.mono e x) (Des.mono e r)
end
theorem Dts.len : ∀ {vs : List V} {ds : zt}, Dts K H vs ds -> vs.length = ds.length
 | _, _, .nil => rfl
 | _, _, .cons _ r => by rw [List.length_cons, List.length_cons, Dts.len r]
theorem Dts.append : ∀ {vs ws : List V} {ds es : zt}, Dts K H vs ds -> Dts K H ws es -> Dts K H (vs ++ ws) (ds ++ es)
 | _, _, _, _, .nil, s => s
 | _, _, _, _, .cons x r, s => .cons x (Dts.append r s)
theorem Dts.get : ∀ {vs : List V} {ds : zt} {i : Nat} {v : V}, Dts K H vs ds -> vs[i]? = some v -> ∃ d, ds[i]? = some d /\ Dt K H v d
 | _, _, _, _, .nil, e => by simp at e
 | _, _, 0, _, .cons x _, e => by simp at e; subst e; exact ⟨_, rfl, x⟩
 | _, _, i + 1, v, .cons _ r, e => by
  obtain ⟨d, h1, h2⟩ := Dts.get (i := i) (v := v) r (by simpa using e)
  exact ⟨d, by simpa using h1, h2⟩
theorem Dts.get' : ∀ {vs : List V} {ds : zt} {i : Nat} {d : PyData}, Dts K H vs ds -> ds[i]? = some d -> ∃ v, vs[i]? = some v /\ Dt K H v d
 | _, _, _, _, .nil, e => by simp at e
 | _, _, 0, _, .cons x _, e => by simp at e; subst e; exact ⟨_, rfl, x⟩
 | _, _, i + 1, d, .cons _ r, e => by
  obtain ⟨v, h1, h2⟩ := Dts.get' (i := i) (d := d) r (by simpa using e)
  exact ⟨v, by simpa using h1, h2⟩
theorem Dts.take : ∀ {vs : List V} {ds : zt} (n : Nat), Dts K H vs ds -> Dts K H (vs.take n) (ds.take n)
 | _, _, 0, _ => .nil
 | _, _, _ + 1, .nil => .nil
 | _, _, n + 1, .cons x r => .cons x (Dts.take n r)
theorem Dts.drop : ∀ {vs : List V} {ds : zt} (n : Nat), Dts K H vs ds -> Dts K H (vs.drop n) (ds.drop n)
 | _, _, 0, h => h
 | _, _, _ + 1, .nil => .nil
 | _, _, n + 1, .cons _ r => Dts.drop n r
theorem Dts.ints : ∀ (ns : List Int), Dts K H (ns.map V.int) (ns.map PyData.int)
 | [] => .nil
 | n :: r => .cons (.int n) (Dts.ints r)
theorem Dts.rep {v : V} {d : PyData} (h : Dt K H v d) : ∀ n, Dts K H (List.replicate n v) (List.replicate n d)
 | 0 => .nil
 | n + 1 => by rw [List.replicate_succ, List.replicate_succ]; exact .cons h (Dts.rep h n)
theorem Dts.reps {vs : List V} {ds : zt} (h : Dts K H vs ds) : ∀ n, Dts K H (List.replicate n vs).flatten (List.replicate n ds).flatten
 | 0 => .nil
 | n + 1 => by rw [List.replicate_succ, List.replicate_succ, List.flatten_cons, List.flatten_cons]; exact h.append (Dts.reps h n)
end
section
variable {X : Cx} {pins : zw} {σ : St} {H : Hp} {s : Shared}
mutual
theorem Dt.reads (I : Inv X pins σ H s) : ∀ {v : V} {d : PyData} {u : Value}, Dt X.K H v d -> d.canLay0 = true -> RelV v u -> ∃ as, Reads s.heap u d as
 | _, _, u, .non, _, r => by cases (show u = Value.none from r); exact ⟨_, Reads.none⟩
 | _, _, u, .bl b, _, r => by cases (show u = Value.bool b from r); exact ⟨_, Reads.bool b⟩
 | _, _, u, .int i, _, r => by obtain ⟨t, e⟩ := (show ∃ t, u = Value.int i t from r); cases e; exact ⟨_, Reads.int i t⟩
 | _, _, u, .str x, _, r => by obtain ⟨t, e⟩ := (show ∃ t, u = Value.str x t from r); cases e; exact ⟨_, Reads.str x t⟩
 | _, _, u, .lst (a := a) q z, c, r => by
  cases (show u = Value.ref a from r)
  obtain ⟨its, rv, ⟨o, n, h1, h2, _, h4⟩, _⟩ := I.list (SqR.sq q)
  obtain ⟨as, ra⟩ := Dts.reads I z (show PyData.canLayAll0 _ = true from c) rv
  exact ⟨_, reads_list_at h1 h2 h4 (by simpa using ra)⟩
 | _, _, u, .tup (a := a) q z, c, r => by
  cases (show u = Value.ref a from r)
  obtain ⟨its, rv, ⟨o, h1, h2, n, h4⟩, _⟩ := I.tuple (.of q)
  obtain ⟨as, ra⟩ := Dts.reads I z (show PyData.canLayAll0 _ = true from c) rv
  exact ⟨_, reads_tuple_at h1 h2 h4 (by simpa using ra)⟩
 | _, _, u, .dct q z, c, r => by exact absurd c (by simp [PyData.canLay0])
theorem Dts.reads (I : Inv X pins σ H s) : ∀ {vs : List V} {ds : zt} {us : List Value}, Dts X.K H vs ds -> PyData.canLayAll0 ds = true -> Vals vs us -> ∃ as, ReadsAll s.heap us ds as
 | _, _, _, .nil, _, .nil => ⟨_, ReadsAll.nil⟩
 | _, _, _, .cons x z, c, .cons r rs => by
  have c' := Bool.and_eq_true_iff.mp (show (PyData.canLay0 _ && PyData.canLayAll0 _) = true from c)
  obtain ⟨as, h1⟩ := Dt.reads I x c'.1 r
  obtain ⟨bs, h2⟩ := Dts.reads I z c'.2 rs
  exact ⟨_, ReadsAll.cons h1 h2⟩
end
end
theorem gw : ∀ {xs : List V} {us : List Value}, xs.length = us.length -> (∀ (j : Nat) x u, xs[j]? = some x -> us[j]? = some u -> RelV x u) -> Vals xs us
 | [], [], _, _ => .nil
 | [], _ :: _, h, _ => by simp at h
 | _ :: _, [], h, _ => by simp at h
 | x :: xs, u :: us, h, k => .cons (k 0 x u rfl rfl) (gw (by simpa using h) fun j y v e1 e2 => k (j + 1) y v (by simpa using e1) (by simpa using e2))
section
variable {X : Cx}
noncomputable def rEqD (K : W.Frag) (neg : Bool) : R2 := fun x y H Q => ∃ d e, Dt K H x d /\ Dt K H y e /\ SeqAt.shaped d = true /\ SeqAt.shaped e = true /\ Q (.bl (if neg then !PyData.eqv d e else PyData.eqv d e)) H
theorem uJ (hu : X.A.units + 64 < cLine) : OpR X (compareOp .Eq) (rEqD X.K false) := by
 intro pins s σ H x y v u Q I rx ry h
 obtain ⟨d, e, hd, he, sd, se, q⟩ := h
 obtain ⟨as, ra⟩ := hd.reads I (SeqAt.canLay_of_shaped sd) rx
 obtain ⟨bs, rb⟩ := he.reads I (SeqAt.canLay_of_shaped se) ry
 exact eq_dataH ra rb sd se hu ⟨.bl (PyData.eqv d e), H, I, rfl, q⟩
theorem uK (hu : X.A.units + 64 < cLine) : OpR X (compareOp .NotEq) (rEqD X.K true) := by
 intro pins s σ H x y v u Q I rx ry h
 obtain ⟨d, e, hd, he, sd, se, q⟩ := h
 obtain ⟨as, ra⟩ := hd.reads I (SeqAt.canLay_of_shaped sd) rx
 obtain ⟨bs, rb⟩ := he.reads I (SeqAt.canLay_of_shaped se) ry
 exact ne_dataH ra rb sd se hu ⟨.bl (!PyData.eqv d e), H, I, rfl, q⟩
end
end L2
namespace L2
open PySem PySem.Spec PyProof.Rows
theorem zY.obj {P : Program} {w : World} {H : Hp} {h : Heap} {a : Addr} {o : HO} (x : zY P w H h a o) : ∃ ob, h.get? a = some ob := by
 cases o with
 | lst xs => obtain ⟨_, _, _, _, e⟩ := x; exact ⟨_, e⟩
 | tup xs => obtain ⟨_, _, _, o, e, _⟩ := x; exact ⟨_, e⟩
 | dK kvs => obtain ⟨_, _, _, _, o, _, _, e, _⟩ := x; exact ⟨_, e⟩
 | dT kvs => obtain ⟨_, _, _, _, o, _, _, e, _⟩ := x; exact ⟨_, e⟩
 | set S n => obtain ⟨o, _, _, _, e, _⟩ := x; exact ⟨_, e⟩
 | ins C dx fs => obtain ⟨_, _, _, e, _⟩ := x; exact ⟨_, e⟩
 | own y => exact x
 | xd fs => obtain ⟨_, ⟨_, _, _, e, _⟩, _⟩ := x; exact ⟨_, e⟩
 | rng lo hi => obtain ⟨_, _, _, e⟩ := x; exact ⟨_, e⟩
 | frz ob u => obtain ⟨e, _⟩ := x; exact ⟨_, e⟩
 | tbl ps => exact ⟨_, x⟩
 | met f y => exact ⟨_, x⟩
 | ext φ => obtain ⟨_, e, _⟩ := x; exact e
structure Flew (P : Program) (w : World) (outer : List Env) (H : Hp) (s : Shared) (H' : Hp) (ea : Addr) (C : Value) (s' : Shared) : Prop where
 os : s'.os = s.os
 bare : AllBare s'.gens
 un : Un (frs outer) [] H H' s.heap s'.heap
 hok : HOk P w H' s'.heap
 frf : ∀ b ∈ frs outer, H' b = none
 fly : ∃ B t, Heap.FlyingW B outer ea C (.ref t) s'.heap /\ ∀ b o, s'.heap.get? b = some o -> b ∉ frs outer -> ((∃ o', s.heap.get? b = some o') \/ H' b ≠ none) -> B.get? b = some o
noncomputable def CXe (P : Program) (w : World) : CXT := fun outer H s E e s' => ∃ ea C H', e = .ref ea /\ Flew P w outer H s H' ea C s' /\ E C none H'
theorem HOk.stays {P : Program} {w : World} {H : Hp} {h1 h2 : Heap} (x : HOk P w H h1) (hk : ∀ b o u, H b = some u -> h1.get? b = some o -> h2.get? b = some o) : HOk P w H h2 := fun a o e => by
 refine (x a o e).stay (fun c q hc e' => ?_) (fun _ q => q) fun _ _ q => q
 rcases hc with z | z
 ·subst z; exact hk _ _ _ e e'
 ·exact hk _ _ _ z e'
section
variable {P : Program} {w : World} {outer : List Env} {H H' : Hp} {s s' : Shared} {ea : Addr} {C : Value}
theorem Flew.step (F : Flew P w outer H s H' ea C s') {B h2 : Heap} (kB : ∀ b o, s'.heap.get? b = some o -> b ∉ frs outer -> ((∃ o', s.heap.get? b = some o') \/ H' b ≠ none) -> B.get? b = some o)
  (fr : s'.heap.FunFrames B outer) (st : B.StaysIn h2) (up : s'.heap.UpToSlots h2) : Un (frs outer) [] H H' s.heap h2 /\ HOk P w H' h2 := by
 have sl : ∀ b o, b ∈ frs outer -> s'.heap.get? b = some o -> ∃ l, h2.get? b = some { o with slots := l } := fun b o hb e => by
  obtain ⟨_, o', e', nf⟩ := fr.mem hb
  rw [e] at e'
  cases e'
  exact up b o e nf
 refine ⟨⟨fun b o e n hb hx => ?_, fun b o e n hb hx => ?_, F.un.free, fun b o e hx => ?_, F.un.tups, F.un.frzs, F.un.tbls⟩, F.hok.stays fun b o u e e' => ?_⟩
 ·exact st b o (kB b o (F.un.keep b o e n hb hx) hb (.inl ⟨_, e⟩))
 ·obtain ⟨l, q⟩ := F.un.slot b o e n hb hx
  obtain ⟨l', q'⟩ := sl b _ hb q
  exact ⟨l', q'⟩
 ·obtain ⟨o', q⟩ := F.un.there b o e hx
  by_cases hb : b ∈ frs outer
  ·obtain ⟨l, q'⟩ := sl b _ hb q
   exact ⟨_, q'⟩
  ·exact ⟨o', st b o' (kB b o' q hb (.inl ⟨_, e⟩))⟩
 ·refine st b o (kB b o e' (fun z => ?_) (.inr (by rw [e]; simp)))
  rw [F.frf b z] at e
  cases e
end
section
variable {P : Program} {w : World} {K : W.Frag} {mg : zu} {base : Heap} {N : List Str} {qual : Str} {scope : Scope} {f : Addr} {cd : Value} {A : Around} {outer : List Env} {s0 : Shared} {H0 : Hp} {E : XK}
abbrev cxE (P : Program) (w : World) (K : W.Frag) (mg : zu) (base : Heap) (N : List Str) (qual : Str) (scope : Scope) (f : Addr) (cd : Value) (A : Around) (outer : List Env) (s0 : Shared) (H0 : Hp) (E : XK) : Cx :=
 cxOf (CXe P w) P w K mg base N qual scope f cd A outer s0 H0 E
theorem qh {en : Env} {L : Addr} (h : en.frame = some L) {b : Addr} : b ∈ frs (en :: outer) ↔ b = L \/ b ∈ frs outer := by
 unfold frs
 rw [List.filterMap_cons, h]
 exact List.mem_cons
theorem zP : Passes (CXe P w) (cxE P w K mg base N qual scope f cd A outer s0 H0 E) E := by
 intro pins σ H s e s' I h
 obtain ⟨ea, C, H', rfl, F, q⟩ := h
 have F : Flew P w (envOfC qual scope s0.heap.objs.size f cd :: outer) H s H' ea C s' := F
 have hfr : (A.deeper (envOfC qual scope s0.heap.objs.size f cd)).frames = some (envOfC qual scope s0.heap.objs.size f cd :: outer) := I.ok.frames
 have un0 : Un (frs outer) [] H0 H s0.heap s.heap := I.base
 have eos : s.os = s0.os := I.os
 have fc : ∀ {b : Addr}, b ∈ frs (envOfC qual scope s0.heap.objs.size f cd :: outer) ↔ b = s0.heap.objs.size \/ b ∈ frs outer := fun {b} => qh rfl
 obtain ⟨B, t, fl, kB⟩ := F.fly
 show wpAny (model P w) (A.deeper (envOfC qual scope s0.heap.objs.size f cd)) (leaving (envOfC qual scope s0.heap.objs.size f cd) (.ref ea)) _ _ s'
 refine wpAny_leaves_onW hfr rfl fl fun h2 fl2 up => ?_
 obtain ⟨u2, ok2⟩ := F.step kB fl.2.2.1 fl2.1 up
 have out0 : ∀ b o, s0.heap.get? b = some o -> b ∉ frs outer -> b ∉ frs (envOfC qual scope s0.heap.objs.size f cd :: outer) := fun b o e hb z => by
  rcases fc.mp z with y | y
  ·exact absurd (Heap.lt_size e) (by rw [y]; exact Nat.lt_irrefl _)
  ·exact hb y
 have un1 : Un (frs (envOfC qual scope s0.heap.objs.size f cd :: outer)) [] H0 H s0.heap s.heap := un0.mono (fun b hb => fc.mpr (.inr hb)) fun b hb => hb
 have un2 := un1.trans u2
 refine ⟨ea, C, H', rfl, ⟨F.os.trans eos, F.bare, ⟨fun b o e n hb hx' => un2.keep b o e n (out0 b o e hb) hx', fun b o e n hb hx' => un2.slot b o e n (fc.mpr (.inr hb)) hx', un2.free, un2.there, un2.tups, un2.frzs, un2.tbls⟩, ok2, fun b hb => F.frf b (fc.mpr (.inr hb)), B, t, fl2, fun b o e hb hc => ?_⟩, q⟩
 have inB : ∀ o', s'.heap.get? b = some o' -> b ∉ frs (envOfC qual scope s0.heap.objs.size f cd :: outer) -> ((∃ o1, s.heap.get? b = some o1) \/ H' b ≠ none) -> B.get? b = some o := fun o' e' hb' hc' => by
  have e2 := kB b o' e' hb' hc'
  have e3 : some o = some o' := e.symm.trans (fl2.1 b o' e2)
  rw [Option.some.inj e3]
  exact e2
 rcases hc with ⟨o0, e0⟩ | z
 ·obtain ⟨o1, e1⟩ := un0.there b o0 e0 (by simp)
  obtain ⟨o2, e2⟩ := F.un.there b o1 e1 (by simp)
  exact inB o2 e2 (out0 b o0 e0 hb) (.inl ⟨_, e1⟩)
 ·cases e1 : H' b with
  | none => exact absurd e1 z
  | some u =>
   obtain ⟨o', z'⟩ := (F.hok b u e1).obj
   refine inB o' z' (fun y => ?_) (.inr z)
   rw [F.frf b y] at e1
   cases e1
end
section
variable {P : Program} {w : World} {K : W.Frag} {mg : zu} {base : Heap}
theorem Fun.okE {x qual : Str} {st : Stmt} {f : Addr} {fd : FuncData} {N ps : List Str} {k : Nat} {sp : Sp} (F : Fun K x qual st f fd) (S : zH N ps (zB st)) (len : ∀ vs H Q E, sp vs H Q E -> vs.length = ps.length)
  (hbody : ∀ (cdv : Value) (A : Around) (outer : List Env) (s : Shared) (H : Hp) (vs : List V) (Q : VK) (E : XK), Room k (A.deeper (envOfC qual (zB st) s.heap.objs.size f cdv)) -> sp vs H Q E ->
   ∃ t, PSs (cxE P w K mg base N qual (zB st) f cdv A outer s H E) (A3 st) t /\ t { nx := fun _ H' => Q .non H', rt := Q } (start N vs) H) : FnOk P w K mg base (CXe P w) (k + 1) f fd ps sp := by
 obtain ⟨oc, od, kV, doc, pm, an, cdv, ct, osl, rfl, lk, hcd⟩ := F.ex
 exact wI lk hcd S len fun A outer s H vs Q E hr hsp => hbody cdv A outer s H vs Q E hr hsp
end
section
variable {X : Cx} {x : Str} {C : Addr} {B newId initId : String} {bmB : List Value} {E : XK} {t : TA} {e : Expr} {es : List Expr} {np cpos pos : Pos}
end
noncomputable def excO (ea : Addr) (C : Value) : HO := .ext fun h => ∃ o, h.get? ea = some o /\ o.cls = C
theorem Inv.track {X : Cx} {pins : zw} {σ σ1 : St} {H H1 : Hp} {s s1 : Shared} {a : Addr} {o : HO} (I : Inv X pins σ H s) (I1 : Inv X pins σ1 H1 s1) (ha : s1.heap.get? a = none) (hn : H a = none)
  (new : zY X.prog X.w (upd H a o) s.heap a o) : Inv X pins σ (upd H a o) s := by
 have ne : ∀ {b : Addr} {ob : Obj}, s1.heap.get? b = some ob -> b ≠ a := fun {b ob} e z => by
  subst z
  rw [ha] at e
  cases e
 refine ⟨I.ok, I.os, I.bare, ⟨I.base.keep, I.base.slot, fun b ob e n x => ?_, I.base.there, fun b xs e => ?_, fun b ob u e => ?_, fun b ps e => ?_⟩, I.loc, I.cell, ?_, fun x c e => ?_, fun p hp => ?_, I.hok.track hn new, I.len⟩
 ·obtain ⟨o1, e1⟩ := I1.base.there b ob e x
  rw [ah (ne e1)]
  exact I.base.free b ob e n x
 ·have q := I.base.tups b xs e
  rw [ah (ao q hn)]
  exact q
 ·have q := I.base.frzs b ob u e
  rw [ah (ao q hn)]
  exact q
 ·obtain ⟨m, q⟩ := I.base.tbls b ps e
  exact ⟨m, by rw [ah (ao q hn)]; exact q⟩
 ·obtain ⟨m, ⟨ob, _, _, e, _⟩, _⟩ := I1.loc
  rw [ah (ne e)]
  exact I.free
 ·obtain ⟨v, ob, e1, _⟩ := I1.cell x c e
  rw [ah (ne e1)]
  exact I.freeC x c e
 ·obtain ⟨e1, e2, e3, e4, e5⟩ := I.pin p hp
  exact ⟨e1, by rw [ah (ne (I1.pin p hp).1)]; exact e2, e3, e4, e5⟩
section
variable {X : Cx} {k : Nat} {f : Addr} {fd : FuncData} {ps : List Str} {sp : Sp} {dvs : List V} {ds : List Value} {x : Str} {p pos pos' : Pos} {e : Expr} {es : List Expr} {t : TA}
end
section
variable {X : Cx} {body suite : List Stmt} {b0 : Stmt} {tb : XK -> TS} {th : TS} {c : Str} {Cc : Value} {cp hp pos : Pos}
end
noncomputable def Ar (N : List Str) (x : Str) : Option Nat := N.findIdx? (fun y => y == x)
section
variable {X : Cx} {a b c : Expr} {ta tb tc : TE} {pos : Pos}
theorem cS {N : List Str} {x : Str} {i : Nat} (h : Ar N x = some i) : N[i]? = some x := by
 unfold Ar at h
 obtain ⟨hi, hp, _⟩ := List.findIdx?_eq_some_iff_getElem.mp h
 have : N[i] = x := by simpa using hp
 rw [List.getElem?_eq_getElem hi, this]
noncomputable def BY : R2 := fun x y H Q => match x, y with
 | .int i, .int j => Q (.int (i + j)) H
 | .str i, .str j => i.length + j.length <= sizeLine /\ Q (.str (i ++ j)) H
 | .ref a, .ref b => ∃ xs zs, H a = some (.lst xs) /\ H b = some (.lst zs) /\ xs.length + zs.length <= sizeLine /\ ∀ p, H p = none -> Q (.ref p) (upd H p (.lst (xs ++ zs)))
 | _, _ => False
noncomputable def rEqM (K : W.Frag) (neg : Bool) : R2 := fun x y H Q => match x, y with
 | .int i, .int j => Q (.bl (if neg then !decide (i = j) else decide (i = j))) H
 | .bl i, .bl j => Q (.bl (if neg then !decide (i = j) else decide (i = j))) H
 | .str i, .str j => Q (.bl (if neg then !decide (i = j) else decide (i = j))) H
 | x, y => rEqD K neg x y H Q
theorem dI (i j : Int) : decide (V.int i = V.int j) = decide (i = j) := by by_cases h : i = j <;> simp [h]
theorem dB (i j : Bool) : decide (V.bl i = V.bl j) = decide (i = j) := by by_cases h : i = j <;> simp [h]
theorem dS (i j : Str) : decide (V.str i = V.str j) = decide (i = j) := by by_cases h : i = j <;> simp [h]
theorem qi (hu : X.A.units + 64 < cLine) : OpR X (compareOp .Eq) (rEqM X.K false) := by
 intro pins s σ H x y v u Q I rx ry h
 unfold rEqM at h
 split at h
 next i j => exact nu pins s σ H _ _ v u Q I rx ry ⟨rfl, by rw [dI]; exact h⟩
 next i j => exact nu pins s σ H _ _ v u Q I rx ry ⟨rfl, by rw [dB]; exact h⟩
 next i j => exact nu pins s σ H _ _ v u Q I rx ry ⟨rfl, by rw [dS]; exact h⟩
 next => exact uJ hu pins s σ H _ _ v u Q I rx ry h
theorem qj (hu : X.A.units + 64 < cLine) : OpR X (compareOp .NotEq) (rEqM X.K true) := by
 intro pins s σ H x y v u Q I rx ry h
 unfold rEqM at h
 split at h
 next i j => exact pN pins s σ H _ _ v u Q I rx ry ⟨rfl, by rw [dI]; exact h⟩
 next i j => exact pN pins s σ H _ _ v u Q I rx ry ⟨rfl, by rw [dB]; exact h⟩
 next i j => exact pN pins s σ H _ _ v u Q I rx ry ⟨rfl, by rw [dS]; exact h⟩
 next => exact uK hu pins s σ H _ _ v u Q I rx ry h
noncomputable def rIxM (K : W.Frag) : R2 := fun x y H Q => match x, y with
 | .ref p, .int i => ∃ xs v, (SqL K H p xs \/ SqT K H p xs) /\ atI xs i = some v /\ Q v H
 | _, _ => False
theorem yW : IxR X (rIxM X.K) := by
 intro value slice pins s σ H x y v u Q I rx ry h hs
 unfold rIxM at h
 split at h
 next p i =>
  obtain ⟨xs, w', h1, h2, h3⟩ := h
  rcases h1 with h1 | h1
  ·exact rS value slice pins s σ H _ _ v u Q I rx ry ⟨p, xs, i, w', rfl, rfl, h1, h2, h3⟩ hs
  ·exact jR value slice pins s σ H _ _ v u Q I rx ry ⟨p, xs, i, w', rfl, rfl, h1, h2, h3⟩ hs
 next => exact h.elim
end
end L2
namespace HT
open PySem PyProof.Rows
section
variable {prog : Program} {w : World} {A : Around} {E : zx} {s : Shared}
theorem fw {t sl : Addr} {items : Array Value} {vl vu : Value} {lo hi : Option Int} {Q : zx} (ht : IsTup s.heap t items) (hs : s.heap.IsSliceOf sl vl vu .none) (pl : IsPart vl lo) (pu : IsPart vu hi)
  (hw : sIx items.size 0 lo = 0 /\ sIx items.size items.size hi = items.size) (h : Q (.ref t) s) : wpAny (model prog w) A (getItem (.ref t) (.ref sl)) Q E s := by
 obtain ⟨o1, ho1, hc1, _⟩ := id hs
 have hT1 : s.TypeIs (.ref sl) "slice" := ⟨o1, ho1, hc1⟩
 unfold getItem
 try with_reducible refine wpAny_holding ?_
 first | refine wpAny_bind (wpAny_pure ?_) | skip
 refine wpAny_bind (wpAny_sequenceKey ht.typeIs (by decide) ?_)
 refine wpAny_bind (wpAny_callSpecial?_slot (name := Str.ofString "__getitem__") ht.typeIs slot_tuple_getitem (wpAny_call_entry slot_tuple_getitem ht.typeIs entry_tuple_getitem ?_ (args_tuple_getitem _ _)))
 show wpAny _ _ (Builtin.Tuple.tupleItemsOf (.ref t) >>= _) _ _ s
 refine wpAny_bind (tupleItemsOf_ ht (wpAny_bind (wpAny_typeOf hT1 ?_)))
 rw [if_pos (by decide)]
 refine wpAny_bind (cD hs pl pu ?_)
 rw [hw.1, hw.2]
 show wpAny _ _ (if ((((0 : Nat) : Int) == 0 && (1 : Int) == 1 && items.size - 0 == items.size) = true) then _ else _) _ _ s
 rw [if_pos (by simp)]
 refine wpAny_bind ?_
 unfold Builtin.Tuple.tupleIsExact
 refine wpAny_bind (wpAny_typeOf ht.typeIs (wpAny_pure ?_))
 rw [if_pos (by decide)]
 exact wpAny_bind (wpAny_rule (wpAny_pure ⟨_, rfl, wpAny_pure h⟩))
end
end HT
namespace L2
open PySem PySem.Spec PyProof.Rows
section
variable {X : Cx}
theorem aK {H : Hp} {p : Addr} {o : HO} (h : H p = none) : Same H (upd H p o) := fun b u e => by rw [ah (ao e h)]; exact e
end
structure Def (P : Program) (w : World) (K : W.Frag) (mg : zu) (base : Heap) (CX : CXT) (x : Str) (k : Nat) (f : Addr) (fd : FuncData) (ps : List Str) (sp : Sp) : Prop where
 ok : FnOk P w K mg base CX k f fd ps sp
 at_ : mg x = some (.ref f)
 kp : W.keepIn K (.ref f) = true
 bd : Binds K fd ps []
section
variable {X : Cx} {CX : CXT} {k j : Nat} {f : Addr} {fd : FuncData} {ps : List Str} {sp : Sp} {E : XK} {x : Str} {p pos pos' : Pos} {e : Expr} {es : List Expr} {t : TA} {te : TE}
theorem i8 (D : Def X.prog X.w X.K X.mg X.base CX x k f fd ps sp) (hr : Room j X.A) (hx : Passes CX X E) (ha : PA X (e :: es) t) (hg : Gl X x := by rfl) (hk : k <= j := by decide) (hdb : (x == ("__debug__" : Str)) = false := by decide)
  (he : starEach (e :: es) X.env = (false, eval e X.env) :: starEach es X.env := by rfl) (hpl : (backTo pos (starEach es X.env)).any (·.1) = false := by rfl) : PE X (.Call (.Name x p) (e :: es) [] pos) (Bi sp [] E t) :=
 rO D.ok (hr.mono hk) hg D.at_ D.kp D.bd .nil hx ha hdb he hpl
end
noncomputable def tyD : PyData -> String
 | .none => "NoneType"
 | .bool _ => "bool"
 | .int _ => "int"
 | .str _ => "str"
 | .list _ => "list"
 | .tuple _ => "tuple"
 | .dict _ => "dict"
noncomputable def isiD (T : String) : PyData -> Bool
 | .bool _ => T == "bool" || T == "int"
 | d => T == tyD d
noncomputable def kitT (T : String) : Bool := T == "int" || T == "bool" || T == "str" || T == "list" || T == "tuple"
theorem sf {K : W.Frag} {T : String} {d : PyData} (hT : kitT T = true) (hd : ∀ kvs, d ≠ .dict kvs) : W.kitOne K (.type (tyD d)) (.type T) = some (isiD T d) := by
 unfold kitT at hT
 simp only [Bool.or_eq_true, beq_iff_eq] at hT
 rcases hT with (((h | h) | h) | h) | h <;> subst h <;> cases d <;> first | rfl | decide +kernel | exact absurd rfl (hd _)
section
variable {X : Cx}
theorem oD : Ah X (.builtin "isinstance") (fun xs H Q => ∃ x d T, xs = [x, .ty T] /\ kitT T = true /\ Dt X.K H x d /\ (∀ kvs, d ≠ .dict kvs) /\ Q (.bl (isiD T d)) H) := by
 intro pins s σ H xs us Q I r h
 obtain ⟨x, d, T, rfl, hT, hd, hnd, q⟩ := h
 obtain ⟨u, w', rfl, r1, r2⟩ := vals2 r
 cases (show w' = Value.type T from r2)
 have e := sf (K := X.K) hT hnd
 cases hd with
 | non => cases (show u = Value.none from r1); exact W.kia_one W.kitx_none I.kIn True.intro e (fun z => nomatch z) fun tk => ⟨.bl _, H, I.tok tk, rfl, q⟩
 | bl y => cases (show u = Value.bool y from r1); exact W.kia_one W.kitx_bool I.kIn True.intro e (fun z => nomatch z) fun tk => ⟨.bl _, H, I.tok tk, rfl, q⟩
 | int i => obtain ⟨t, z⟩ := (show ∃ t, u = Value.int i t from r1); cases z; exact W.kia_one W.kitx_int I.kIn True.intro e (fun z => nomatch z) fun tk => ⟨.bl _, H, I.tok tk, rfl, q⟩
 | str y => obtain ⟨t, z⟩ := (show ∃ t, u = Value.str y t from r1); cases z; exact W.kia_one W.kitx_str I.kIn True.intro e (fun z => nomatch z) fun tk => ⟨.bl _, H, I.tok tk, rfl, q⟩
 | @lst a xs ds hq _ =>
  cases (show u = Value.ref a from r1)
  obtain ⟨its, rv, ⟨o, n, h1, h2, _⟩, _⟩ := I.list (SqR.sq hq)
  exact W.kia_one W.kitx_list I.kIn ⟨o, h1, h2⟩ e (fun z => nomatch z) fun tk => ⟨.bl _, H, I.tok tk, rfl, q⟩
 | @tup a xs ds hq _ =>
  cases (show u = Value.ref a from r1)
  obtain ⟨its, rv, ⟨o, h1, h2, _⟩, _⟩ := I.tuple (.of hq)
  exact W.kia_one W.kitx_tuple I.kIn ⟨o, h1, h2⟩ e (fun z => nomatch z) fun tk => ⟨.bl _, H, I.tok tk, rfl, q⟩
 | dct _ _ => exact absurd rfl (hnd _)
theorem wK {x : Str} {T : String} {pos : Pos} (hm : X.mg x = none) (hv : bootBuiltins x = some (.type T)) (hg : Gl X x := by rfl) (hn : x ≠ "__name__" := by decide) (hd : (x == ("__debug__" : Str)) = false := by decide) : PE X (.Name x pos) (tC (.ty T)) := rH hg hm hv rfl hn hd
end
section
variable {P : Program} {w : World} {K : W.Frag} {mg : zu} {base : Heap} {CX : CXT} {N : List Str} {q : Str} {sc : Scope} {f : Addr} {cd : Value} {A : Around} {o : List Env} {s : Shared} {H : Hp} {E : XK} {X : Cx} {cl : List (Str × Addr)} {C : Addr} {ex : List Addr} {ea : Addr}
end
section
variable {X : Cx} {ts : List Expr} {tk : Nat} {tp : Pos}
noncomputable def iSeq (K : W.Frag) (tl : TE) : TI := fun σ H R => tl σ H fun x H1 => ∃ a, x = .ref a /\ (((∃ xs, SqL K H1 a xs) /\ R (Itl K a) H1) \/ ((∃ xs, SqT K H1 a xs) /\ R (Itt K a) H1))
theorem mD {tg l : Expr} {tl : TE} (hl : PE X l tl) : PI X tg l (iSeq X.K tl) := by
 intro pins s σ H R I h
 refine thn (hl pins s σ H _ I h) fun v s1 ⟨x, H1, I1, r1, q1⟩ => ?_
 obtain ⟨a, e, q⟩ := q1
 subst e
 cases r1
 have fp : ∀ b ∈ [s1.heap.objs.size], FpOk X pins H1 b := fun b hb => by
  have e : b = s1.heap.objs.size := by simpa using hb
  subst e
  exact I1.fpOk (Nat.le_refl _) (I1.hok.fresh (Nat.le_refl _))
 rcases q with ⟨⟨xs, hq⟩, q⟩ | ⟨⟨xs, hq⟩, q⟩
 ·obtain ⟨its, rv, p, hz⟩ := I1.list hq
  exact wpAny_pyIter_list p.isList ⟨s1.heap.objs.size, [s1.heap.objs.size], _, _, H1, rfl, I1.kept (t' := s1.toks) (fun b o e => Heap.get?_push_of_some _ e), oq a _, ⟨_, Heap.get?_push_size _ rfl, rfl, rfl⟩, fp, q⟩
 ·obtain ⟨its, rv, p, hz⟩ := I1.tuple hq
  exact wpAny_pyIter_tuple (show s1.heap.IsTuple a its.toArray from p) ⟨s1.heap.objs.size, [s1.heap.objs.size], _, _, H1, rfl, I1.kept (t' := s1.toks) (fun b o e => Heap.get?_push_of_some _ e), mq a _, ⟨_, Heap.get?_push_size _ rfl, rfl, rfl⟩, fp, q⟩
end
section
variable {X : Cx}
noncomputable def rIxD : R2 := fun x y H Q => ∃ a v, x = .ref a /\ DGet H a y (some v) /\ Q v H
theorem si (hu : X.A.units + 1 < cLine) : IxR X rIxD := by
 intro value slice pins s σ H x y v u Q I rx ry h hs
 obtain ⟨a, w', rfl, g, q⟩ := h
 cases rx
 exact tail_any (kT I g) PySem.F.slot_dict_getitem.lookup (oz hu I g ry fun r s' I' rr => ⟨w', H, I', rr, q⟩) hs
noncomputable def rIxA (K : W.Frag) : R2 := fun x y H Q => rIxM K x y H Q \/ rIxD x y H Q
theorem yX (hu : X.A.units + 1 < cLine) : IxR X (rIxA X.K) := yW.or (si hu)
end
noncomputable def zQ (scope : Scope) : List Str := (scope.names.filter fun y => y.2 == .free).map (·.1)
noncomputable def AS (N : List Str) (scope : Scope) : List Nat := (zQ scope).filterMap (Ar N)
noncomputable def AD (N : List Str) (sc : Scope) (x : Str) (scope : Scope) : Bool :=
 scope.kind == .function && sc.kind == .function && (scope.names.all fun y => y.2 != .cell && (y.2 != .local || scope.names.lookup y.1 == some .local) && (y.2 != .free || (sc.names.lookup y.1 == some .cell || sc.names.lookup y.1 == some .free))) &&
 ((zQ scope).all fun y => (Ar N y).isSome && y != x && scope.names.lookup y == some .free) && decide (x :: zQ scope).Nodup && scope.names.lookup x == some .local
theorem eF {α β : Type} {f : α -> Option β} : ∀ {l : List α} {i : Nat} {x : α}, (∀ a ∈ l, (f a).isSome = true) -> l[i]? = some x -> (l.filterMap f)[i]? = f x
 | [], _, _, _, e => by simp at e
 | a :: r, i, x, h, e => by
  have ha := h a (List.mem_cons_self ..)
  obtain ⟨b, hb⟩ := Option.isSome_iff_exists.mp ha
  rw [List.filterMap_cons, hb]
  cases i with
  | zero => simp at e; subst e; simp [hb]
  | succ i =>
   simp only [List.getElem?_cons_succ] at e ⊢
   exact eF (fun a ha => h a (List.mem_cons_of_mem _ ha)) e
theorem eG {α β : Type} {f : α -> Option β} : ∀ {l : List α}, (∀ a ∈ l, (f a).isSome = true) -> (l.filterMap f).length = l.length
 | [], _ => rfl
 | a :: r, h => by
  obtain ⟨b, hb⟩ := Option.isSome_iff_exists.mp (h a (List.mem_cons_self ..))
  rw [List.filterMap_cons, hb, List.length_cons, List.length_cons, eG fun a ha => h a (List.mem_cons_of_mem _ ha)]
theorem fx {env : Env} {x : Str} : ∀ {names : List (Str × NameKind)} {k : NameKind}, names.lookup x = some .free -> (names.map fun (n, k) => if (k == NameKind.free && env.scope.kind == .function && env.kindOf n == some .cell) then (n, NameKind.cell) else (n, k)).lookup x = some k -> k = .cell \/ k = .free
 | [], _, h, _ => by simp at h
 | (n, k') :: r, k, h, e => by
  rw [List.map_cons] at e
  rw [List.lookup_cons] at h
  cases q : x == n with
  | true =>
   rw [q] at h
   have hk : k' = .free := Option.some.inj h
   subst hk
   split at e
   next n2 k2 heq =>
    simp only [Prod.mk.injEq] at heq
    obtain ⟨rfl, rfl⟩ := heq
    rw [apply_ite (fun z : Str × NameKind => List.lookup x (z :: _))] at e
    split at e
    ·rw [List.lookup_cons, q] at e; exact .inl (Option.some.inj e).symm
    ·rw [List.lookup_cons, q] at e; exact .inr (Option.some.inj e).symm
  | false =>
   rw [q] at h
   refine fx (env := env) (names := r) h ?_
   split at e
   next n2 k2 heq =>
    simp only [Prod.mk.injEq] at heq
    obtain ⟨rfl, rfl⟩ := heq
    rw [apply_ite (fun z : Str × NameKind => List.lookup x (z :: _))] at e
    split at e
    ·rw [List.lookup_cons, q] at e; exact e
    ·rw [List.lookup_cons, q] at e; exact e
section
variable {X : Cx} {N0 : List Str} {sc0 scope : Scope} {x : Str}
theorem i9 (hN : X.N = N0) (hsc : X.env.scope = sc0) (h : AD N0 sc0 x scope = true) : Ab X [x] (AS N0 scope) (x :: zQ scope) scope /\ (x :: zQ scope).Nodup := by
 unfold AD at h
 simp only [Bool.and_eq_true, beq_iff_eq, List.all_eq_true, bne_iff_ne, ne_eq, Bool.or_eq_true, decide_eq_true_eq] at h
 obtain ⟨⟨⟨⟨⟨h1, h2⟩, h3⟩, h4⟩, h5⟩, h6⟩ := h
 have all : ∀ y ∈ zQ scope, (Ar N0 y).isSome = true := fun y hy => (h4 y hy).1.1
 refine ⟨⟨h1, fun y hy => (h3 y hy).1.1, fun y hy e => ?_, by rw [hsc]; exact h2, fun y hy e => ?_, fun i y e => ?_, ?_⟩, h5⟩
 ·rcases (h3 y hy).1.2 with z | z
  ·exact absurd e z
  ·exact z
 ·rcases (h3 y hy).2 with z | z
  ·exact absurd e z
  ·show X.env.scope.names.lookup y.1 = _ \/ X.env.scope.names.lookup y.1 = _
   rw [hsc]; exact z
 ·cases i with
  | zero => exact .inl (by simp)
  | succ i =>
   simp only [List.getElem?_cons_succ] at e
   have hy := List.mem_of_getElem? e
   obtain ⟨j, hj⟩ := Option.isSome_iff_exists.mp (all y hy)
   have hfree := (h4 y hy).2
   refine .inr ⟨j, ?_, by rw [hN]; exact cS hj, ?_, fun k hk => fx hfree hk⟩
   ·show (AS N0 scope)[i + 1 - 1]? = some j
    rw [Nat.add_sub_cancel]
    unfold AS
    rw [eF all e, hj]
   ·have := (h3 (y, .free) (PySem.mem_of_lookup hfree)).2
    rcases this with z | z
    ·exact absurd rfl z
    ·show X.env.scope.names.lookup y = some .local \/ X.env.scope.names.lookup y = some .cell \/ X.env.scope.names.lookup y = some .free
     rw [hsc]
     rcases z with z | z
     ·exact .inr (.inl z)
     ·exact .inr (.inr z)
 ·show (x :: zQ scope).length = 1 + (AS N0 scope).length
  rw [List.length_cons, AS, eG all]
  lia
variable {elt iter : Expr} {wi : TI} {tc : TT} {te : TE} {pos px : Pos} {ifs : List Expr}
theorem jt {l : List Str} : Ar (x :: l) x = some 0 := by simp [Ar, List.findIdx?_cons]
theorem qk (hok : AD N0 sc0 x scope = true) (hi : PI X (.Name x px) iter wi) (ht : ∀ cl C ex s H, PTs (zR X (x :: zQ scope) scope cl C ex s H) ifs tc) (he : ∀ cl C ex s H, PE (zR X (x :: zQ scope) scope cl C ex s H) elt te) (hN : X.N = N0 := by rfl) (hsc : X.env.scope = sc0 := by rfl)
  (hcm : X.calm = true := by rfl) (hs : ∀ x, foldedSetIterable iter X.env x = pure x := by intro _; rfl) : PE X (.ListComp elt [⟨.Name x px, iter, ifs, 0⟩] scope pos) (B6 1 (AS N0 scope) wi (Ad 0) tc te) := by
 obtain ⟨S, nd⟩ := i9 hN hsc hok
 have hl : scope.names.lookup x = some .local := by
  unfold AD at hok
  simp only [Bool.and_eq_true, beq_iff_eq] at hok
  exact hok.2
 exact rY S hcm hi (fun cl C ex s H => fq nd (cS jt) (.inl (lookup_relabel_local hl)) (.inr (lookup_relabel_local hl))) ht he (i7 Nat.one_pos) hs
theorem ql {i : Nat} {y : Str} {py spos : Pos} (hok : AD N0 sc0 x scope = true) (hi : PI X (.Name x px) iter wi) (ht : ∀ cl C ex s H, PTs (zR X (x :: zQ scope) scope cl C ex s H) ifs tc) (he : ∀ cl C ex s H, PE (zR X (x :: zQ scope) scope cl C ex s H) elt te)
  (hy : Ar X.N y = some i) (hNd : X.N.Nodup) (hN : X.N = N0 := by rfl) (hsc : X.env.scope = sc0 := by rfl) (hcm : X.calm = true := by rfl) (hl : X.env.scope.names.lookup y = some .local := by rfl)
  (hsw : swapsWith (.ListComp elt [⟨.Name x px, iter, ifs, 0⟩] scope pos) (some (.Name y py)) spos.line X.env = pure true := by rfl) (hs : ∀ x, foldedSetIterable iter X.env x = pure x := by intro _; rfl) :
  PS X (.Assign [.Name y py] (.ListComp elt [⟨.Name x px, iter, ifs, 0⟩] scope pos) spos) (tAsg (B6 1 (AS N0 scope) wi (Ad 0) tc te) (Ad i)) := by
 obtain ⟨S, nd⟩ := i9 hN hsc hok
 have hl' : scope.names.lookup x = some .local := by
  unfold AD at hok
  simp only [Bool.and_eq_true, beq_iff_eq] at hok
  exact hok.2
 exact rZ S hcm hi (fun cl C ex s H => fq nd (cS jt) (.inl (lookup_relabel_local hl')) (.inr (lookup_relabel_local hl'))) ht he (i7 Nat.one_pos) hNd (cS hy) hl hsw hs
end
abbrev TJ := St -> Hp -> Str -> (Str -> Hp -> Prop) -> Prop
section
variable {X : Cx} {es : List Expr} {t : TJ} {pos : Pos}
end
inductive SD where
 | sh (d : PyData)
 | ol (ds : zt)
 | od (es : List (PyData × PyData))
 | ex (x : Str)
noncomputable def SD.owned : SD -> Prop
 | .ol _ => True
 | .od _ => True
 | _ => False
noncomputable def SD.toSh : SD -> Option PyData
 | .sh d => some d
 | .ol ds => some (.list ds)
 | .od es => some (.dict es)
 | .ex _ => none
abbrev DEnv := List (Option SD)
inductive Out (α : Type) where
 | ok (a : α)
 | exc (x : Str)
 | bad
noncomputable def Out.bind {α β : Type} (x : Out α) (f : α -> Out β) : Out β := match x with
 | .ok a => f a
 | .exc x => .exc x
 | .bad => .bad
@[simp] theorem Out.bind_ok {α β : Type} (a : α) (f : α -> Out β) : (Out.ok a).bind f = f a := rfl
@[simp] theorem Out.bind_exc {α β : Type} (x : Str) (f : α -> Out β) : (Out.exc x).bind f = .exc x := rfl
@[simp] theorem Out.bind_bad {α β : Type} (f : α -> Out β) : (Out.bad : Out α).bind f = .bad := rfl
class Tabs where
 ts : List Addr
 qual : Str
variable [Tabs]
noncomputable def BS (c : Addr) (q : Str) : HO := .ext fun h => h.CodeRec (.ref c) q
noncomputable def B3 (H : Hp) : Prop := ∀ P ∈ Tabs.ts, ∃ ps, H P = some (.tbl ps) /\ TriplesOk ps.toList /\ ∀ pos c, codeAmong pos ps.toList = some c -> ∃ c', c = .ref c' /\ H c' = some (BS c' Tabs.qual)
structure An (H H' : Hp) : Prop where
 at_ : ∀ b o, H b = some o -> (∀ ps, o ≠ .tbl ps) -> H' b = some o
 nn : ∀ b, H b ≠ none -> H' b ≠ none
 ok : B3 H -> B3 H'
theorem An.of_same {H H' : Hp} (s : Same H H') : An H H' where
 at_ := fun b o e _ => s b o e
 nn := fun b h => by
  cases q : H b with
  | none => exact absurd q h
  | some o => rw [s b o q]; simp
 ok := fun t P hP => let ⟨ps, e, t1, t2⟩ := t P hP; ⟨ps, s _ _ e, t1, fun pos c hc => let ⟨c', e1, e2⟩ := t2 pos c hc; ⟨c', e1, s _ _ e2⟩⟩
theorem An.refl (H : Hp) : An H H := ⟨fun _ _ e _ => e, fun _ h => h, id⟩
theorem An.trans {H H1 H2 : Hp} (a : An H H1) (b : An H1 H2) : An H H2 := ⟨fun c o e n => b.at_ c o (a.at_ c o e n) n, fun c h => b.nn c (a.nn c h), fun t => b.ok (a.ok t)⟩
theorem An.free {H H' : Hp} (s : An H H') {l : Addr} (h : H' l = Option.none) : H l = Option.none := by
 cases q : H l with
 | none => rfl
 | some o => exact absurd h (s.nn l (by rw [q]; simp))
def NoT (G : Hp) : Prop := ∀ b ps, G b ≠ some (.tbl ps)
theorem NoT.upd {G : Hp} {p : Addr} {o : HO} (n : NoT G) (ho : ∀ ps, o ≠ .tbl ps) : NoT (upd G p o) := fun b ps z => by
 by_cases hb : b = p
 ·subst hb; rw [aq] at z; exact ho ps (Option.some.inj z)
 ·rw [ah hb] at z; exact n b ps z
structure Grow (G H G' H' : Hp) : Prop where
 hh : An H H'
 gg : Same G G'
 gh : Same G' H'
 nb : ∀ b, H b ≠ none -> G' b = G b
 nt : NoT G -> NoT G'
section
variable {G H G1 H1 G2 H2 G' H' : Hp} {p b : Addr} {o : HO}
theorem Grow.refl (h : Same G H) : Grow G H G H := ⟨.refl _, .refl _, h, fun _ _ => rfl, id⟩
theorem Grow.trans (a : Grow G H G1 H1) (c : Grow G1 H1 G2 H2) : Grow G H G2 H2 :=
 ⟨a.hh.trans c.hh, a.gg.trans c.gg, c.gh, fun b h => (c.nb b (a.hh.nn b h)).trans (a.nb b h), fun n => c.nt (a.nt n)⟩
theorem Grow.laid (h : Same G H) (hp : H p = none) (ho : ∀ ps, o ≠ .tbl ps := by intro _ z; cases z) : Grow G H (upd G p o) (upd H p o) where
 hh := .of_same (aK hp)
 nt := fun n => n.upd ho
 gg := aK (h.free hp)
 gh := fun b u e => by
  by_cases z : b = p
  ·subst z; rw [aq] at e ⊢; exact e
  ·rw [ah z] at e ⊢; exact h b u e
 nb := fun b hb => ah (fun z => hb (z ▸ hp))
theorem Grow.laidO (h : Same G H) (hp : H p = none) : Grow G H G (upd H p o) := ⟨.of_same (aK hp), .refl _, h.trans (aK hp), fun _ _ => rfl, id⟩
end
noncomputable def VR (K : W.Frag) (mg : zu) (G H : Hp) (v : V) : SD -> Prop
 | .sh d => Dt K G v d
 | .ol ds => ∃ a xs, v = .ref a /\ G a = none /\ H a = some (.lst xs) /\ Dts K G xs ds
 | .od es => ∃ a kvs, v = .ref a /\ G a = none /\ H a = some (.dK kvs) /\ Des K G kvs es
 | .ex x => ∃ a C, v = .ref a /\ mg x = some C /\ H a = some (excO a C)
structure Rel (K : W.Frag) (mg : zu) (G0 H0 G H : Hp) (σ : St) (δ : DEnv) : Prop where
 g : Grow G0 H0 G H
 len : δ.length = σ.length
 sl : ∀ (i : Nat) sd, δ[i]? = some (some sd) -> ∃ v, σ[i]? = some (some v) /\ VR K mg G H v sd
 fr : ∀ (i : Nat) sd a, δ[i]? = some (some sd) -> sd.owned -> σ[i]? = some (some (.ref a)) -> H0 a = none
 ap : ∀ (i j : Nat) sd te a, δ[i]? = some (some sd) -> δ[j]? = some (some te) -> sd.owned -> te.owned -> σ[i]? = some (some (.ref a)) -> σ[j]? = some (some (.ref a)) -> i = j
 tb : B3 H0
 n0 : NoT G0
noncomputable def VN (K : W.Frag) (mg : zu) (H G' H' : Hp) (v : V) (r : SD) : Prop := VR K mg G' H' v r /\ (r.owned -> ∀ a, v = .ref a -> H a = none)
noncomputable def RR (K : W.Frag) (mg : zu) (H0 G H : Hp) (σ : St) (δ : DEnv) (v : V) (r : SD) : Prop :=
 VR K mg G H v r /\ (r.owned -> ∀ a, v = .ref a -> H0 a = none /\ ∀ (i : Nat) sd, δ[i]? = some (some sd) -> sd.owned -> σ[i]? ≠ some (some (.ref a)))
section
variable {K : W.Frag} {mg : zu} {G0 H0 G H G' H' : Hp} {σ : St} {δ : DEnv} {v : V} {r sd : SD} {i : Nat} {p a : Addr} {o : HO}
theorem VR.grow (g : Grow G H G' H') (h : VR K mg G H v r) : VR K mg G' H' v r := by
 cases r with
 | sh d => exact Dt.mono g.gg h
 | ol ds =>
  obtain ⟨a, xs, rfl, h1, h2, h3⟩ := h
  exact ⟨a, xs, rfl, (g.nb a (by rw [h2]; simp)).trans h1, g.hh.at_ _ _ h2 (by intro _ z; cases z), h3.mono g.gg⟩
 | od es =>
  obtain ⟨a, xs, rfl, h1, h2, h3⟩ := h
  exact ⟨a, xs, rfl, (g.nb a (by rw [h2]; simp)).trans h1, g.hh.at_ _ _ h2 (by intro _ z; cases z), h3.mono g.gg⟩
 | ex x =>
  obtain ⟨a, C, rfl, h1, h2⟩ := h
  exact ⟨a, C, rfl, h1, g.hh.at_ _ _ h2 (by intro _ z; cases z)⟩
theorem VR.own (h : VR K mg G H v r) (ho : r.owned) : ∃ a, v = .ref a /\ G a = none /\ H a ≠ none := by
 cases r with
 | sh d => exact ho.elim
 | ol ds => obtain ⟨a, xs, rfl, h1, h2, h3⟩ := h; exact ⟨a, rfl, h1, by rw [h2]; simp⟩
 | od es => obtain ⟨a, xs, rfl, h1, h2, h3⟩ := h; exact ⟨a, rfl, h1, by rw [h2]; simp⟩
 | ex x => exact ho.elim
theorem Rel.grow (R : Rel K mg G0 H0 G H σ δ) (g : Grow G H G' H') : Rel K mg G0 H0 G' H' σ δ :=
 ⟨R.g.trans g, R.len, fun i sd e => let ⟨v, h1, h2⟩ := R.sl i sd e; ⟨v, h1, h2.grow g⟩, R.fr, R.ap, R.tb, R.n0⟩
theorem Rel.own_ne (R : Rel K mg G0 H0 G H σ δ) (e : δ[i]? = some (some sd)) (ho : sd.owned) (hs : σ[i]? = some (some (.ref a))) : G a = none /\ H a ≠ none := by
 obtain ⟨v, h1, h2⟩ := R.sl i sd e
 obtain ⟨b, rfl, h3, h4⟩ := h2.own ho
 rw [hs] at h1
 cases h1
 exact ⟨h3, h4⟩
theorem RR.of_new (R : Rel K mg G0 H0 G H σ δ) (n : VN K mg H G' H' v r) : RR K mg H0 G' H' σ δ v r :=
 ⟨n.1, fun ho a e => ⟨R.g.hh.free (n.2 ho a e), fun i sd h1 h2 h3 => (R.own_ne h1 h2 h3).2 (n.2 ho a e)⟩⟩
theorem RR.new (n : RR K mg H0 G H σ δ v r) : VN K mg H0 G H v r := ⟨n.1, fun ho a e => (n.2 ho a e).1⟩
theorem RR.sh {d : PyData} (h : Dt K G v d) : RR K mg H0 G H σ δ v (.sh d) := ⟨h, fun z => z.elim⟩
theorem Rel.pub (R : Rel K mg G0 H0 G H σ δ) (hG : G p = none) (hH : H p = some o) (h0 : H0 p = none) (hn : ∀ (i : Nat) sd, δ[i]? = some (some sd) -> sd.owned -> σ[i]? ≠ some (some (.ref p))) (ho : ∀ ps, o ≠ .tbl ps := by intro _ z; cases z) : Rel K mg G0 H0 (upd G p o) H σ δ where
 tb := R.tb
 n0 := R.n0
 g := ⟨R.g.hh, R.g.gg.trans (aK hG), fun b u e => by
   by_cases z : b = p
   ·subst z; rw [aq] at e; rw [hH]; exact e
   ·rw [ah z] at e; exact R.g.gh b u e, fun b hb => (ah (fun z => hb (by rw [z]; exact h0))).trans (R.g.nb b hb), fun n => (R.g.nt n).upd ho⟩
 len := R.len
 sl := fun i sd e => by
  obtain ⟨v, h1, h2⟩ := R.sl i sd e
  refine ⟨v, h1, ?_⟩
  have s : Same G (upd G p o) := aK hG
  cases sd with
  | sh d => exact Dt.mono s h2
  | ol ds =>
   obtain ⟨a, xs, rfl, q1, q2, q3⟩ := h2
   exact ⟨a, xs, rfl, (ah fun z => hn i _ e trivial (by rw [<- z]; exact h1)).trans q1, q2, q3.mono s⟩
  | od ds =>
   obtain ⟨a, xs, rfl, q1, q2, q3⟩ := h2
   exact ⟨a, xs, rfl, (ah fun z => hn i _ e trivial (by rw [<- z]; exact h1)).trans q1, q2, q3.mono s⟩
  | ex x => exact h2
 fr := R.fr
 ap := R.ap
theorem RR.share {d : PyData} (R : Rel K mg G0 H0 G H σ δ) (h : RR K mg H0 G H σ δ v r) (e : r.toSh = some d) : ∃ G', Rel K mg G0 H0 G' H σ δ /\ Same G G' /\ Dt K G' v d := by
 cases r with
 | sh d' => cases e; exact ⟨G, R, .refl _, h.1⟩
 | ol ds =>
  cases e
  obtain ⟨⟨a, xs, rfl, h1, h2, h3⟩, hf⟩ := h
  obtain ⟨f1, f2⟩ := hf trivial a rfl
  exact ⟨_, R.pub h1 h2 f1 f2, aK h1, .lst (.of aq) (h3.mono (aK h1))⟩
 | od es =>
  cases e
  obtain ⟨⟨a, xs, rfl, h1, h2, h3⟩, hf⟩ := h
  obtain ⟨f1, f2⟩ := hf trivial a rfl
  exact ⟨_, R.pub h1 h2 f1 f2, aK h1, .dct aq (h3.mono (aK h1))⟩
 | ex x => cases e
theorem aJ {α : Type} {l : List α} {i j : Nat} {x y : α} (h : (l.set i x)[j]? = some y) : (j = i /\ y = x) \/ (j ≠ i /\ l[j]? = some y) := by
 by_cases z : j = i
 ·subst z
  by_cases hl : j < l.length
  ·rw [List.getElem?_set_self hl] at h
   exact .inl ⟨rfl, (Option.some.inj h).symm⟩
  ·rw [List.getElem?_eq_none (by rw [List.length_set]; lia)] at h
   cases h
 ·rw [List.getElem?_set_ne (Ne.symm z)] at h
  exact .inr ⟨z, h⟩
theorem Rel.store (R : Rel K mg G0 H0 G H σ δ) (hi : i < σ.length) (h : RR K mg H0 G H σ (δ.set i none) v r) : Rel K mg G0 H0 G H (σ.set i (some v)) (δ.set i (some r)) where
 tb := R.tb
 n0 := R.n0
 g := R.g
 len := by rw [List.length_set, List.length_set]; exact R.len
 sl := fun j sd e => by
  rcases aJ e with ⟨rfl, z⟩ | ⟨hj, e'⟩
  ·cases z
   exact ⟨v, List.getElem?_set_self hi, h.1⟩
  ·obtain ⟨w, h1, h2⟩ := R.sl j sd e'
   exact ⟨w, by rw [List.getElem?_set_ne (Ne.symm hj)]; exact h1, h2⟩
 fr := fun j sd a e ho hs => by
  rcases aJ e with ⟨rfl, z⟩ | ⟨hj, e'⟩
  ·cases z
   rw [List.getElem?_set_self hi] at hs
   cases hs
   exact (h.2 ho a rfl).1
  ·rw [List.getElem?_set_ne (Ne.symm hj)] at hs
   exact R.fr j sd a e' ho hs
 ap := fun j k sd te a e1 e2 h1 h2 s1 s2 => by
  have key : ∀ {m n : Nat} {sm sn : SD}, (δ.set i (some r))[m]? = some (some sm) -> δ[n]? = some (some sn) -> n ≠ i -> m = i -> sm.owned -> sn.owned -> (σ.set i (some v))[m]? = some (some (.ref a)) -> σ[n]? = some (some (.ref a)) -> False := fun {m n sm sn} f1 f2 hk hj g1 g2 t1 t2 => by
   subst hj
   rcases aJ f1 with ⟨_, z⟩ | ⟨z, _⟩
   ·cases z
    rw [List.getElem?_set_self hi] at t1
    cases t1
    exact (h.2 g1 a rfl).2 n sn (by rw [List.getElem?_set_ne (Ne.symm hk)]; exact f2) g2 t2
   ·exact z rfl
  rcases aJ e1 with ⟨z1, _⟩ | ⟨z1, q1⟩
  ·rcases aJ e2 with ⟨z2, _⟩ | ⟨z2, q2⟩
   ·rw [z1, z2]
   ·rw [List.getElem?_set_ne (Ne.symm z2)] at s2
    exact (key e1 q2 z2 z1 h1 h2 s1 s2).elim
  ·rw [List.getElem?_set_ne (Ne.symm z1)] at s1
   rcases aJ e2 with ⟨z2, _⟩ | ⟨z2, q2⟩
   ·exact (key e2 q1 z1 z2 h2 h1 s2 s1).elim
   ·rw [List.getElem?_set_ne (Ne.symm z2)] at s2
    exact R.ap j k sd te a q1 q2 h1 h2 s1 s2
theorem RR.less {k : Nat} (h : RR K mg H0 G H σ δ v r) : RR K mg H0 G H σ (δ.set k none) v r :=
 ⟨h.1, fun ho a e => ⟨(h.2 ho a e).1, fun i sd q h2 => by
  rcases aJ q with ⟨_, z⟩ | ⟨_, z⟩
  ·cases z
  ·exact (h.2 ho a e).2 i sd z h2⟩⟩
theorem Rel.forget (R : Rel K mg G0 H0 G H σ δ) (i : Nat) : Rel K mg G0 H0 G H σ (δ.set i none) where
 tb := R.tb
 n0 := R.n0
 g := R.g
 len := by rw [List.length_set]; exact R.len
 sl := fun j sd e => by
  rcases aJ e with ⟨_, z⟩ | ⟨_, z⟩
  ·cases z
  ·exact R.sl j sd z
 fr := fun j sd a e ho hs => by
  rcases aJ e with ⟨_, z⟩ | ⟨_, z⟩
  ·cases z
  ·exact R.fr j sd a z ho hs
 ap := fun j k sd te a e1 e2 h1 h2 s1 s2 => by
  rcases aJ e1 with ⟨_, z⟩ | ⟨_, z1⟩
  ·cases z
  ·rcases aJ e2 with ⟨_, z⟩ | ⟨_, z2⟩
   ·cases z
   ·exact R.ap j k sd te a z1 z2 h1 h2 s1 s2
theorem ig {α : Type} {l : List α} {i : Nat} {x : α} (h : l[i]? = some x) : l.set i x = l := by
 apply List.ext_getElem?
 intro j
 by_cases z : i = j
 ·subst z
  rw [List.getElem?_set_self (List.getElem?_eq_some_iff.mp h).1, h]
 ·rw [List.getElem?_set_ne z]
theorem Rel.at_ (R : Rel K mg G0 H0 G H σ δ) (e : δ[i]? = some (some r)) : ∃ v, σ[i]? = some (some v) /\ RR K mg H0 G H σ (δ.set i none) v r := by
 obtain ⟨v, h1, h2⟩ := R.sl i r e
 refine ⟨v, h1, h2, fun ho a ea => ⟨R.fr i r a e ho (ea ▸ h1), fun j sd q hs z => ?_⟩⟩
 rcases aJ q with ⟨_, y⟩ | ⟨hj, y⟩
 ·cases y
 ·exact hj (R.ap i j r sd a e y ho hs (ea ▸ h1) z).symm
theorem Rel.share {d : PyData} (R : Rel K mg G0 H0 G H σ δ) (e : δ[i]? = some (some r)) (ed : r.toSh = some d) : ∃ G' v, Rel K mg G0 H0 G' H σ (δ.set i (some (.sh d))) /\ Same G G' /\ σ[i]? = some (some v) /\ Dt K G' v d := by
 obtain ⟨v, h1, h2⟩ := R.at_ e
 obtain ⟨G', R', s, hd⟩ := h2.share (R.forget i) ed
 have hi : i < σ.length := (List.getElem?_eq_some_iff.mp h1).1
 have R2 := R'.store hi (r := .sh d) (v := v) (RR.sh hd)
 rw [ig h1, List.set_set] at R2
 exact ⟨G', v, R2, s, h1, hd⟩
theorem Rel.write (R : Rel K mg G0 H0 G H σ δ) (e : δ[i]? = some (some r)) (ho : r.owned) (hs : σ[i]? = some (some (.ref a))) {r' : SD} (hr : VR K mg G (upd H a o) (.ref a) r') (hm : Mut (H a)) (hx : ∀ C, H a ≠ some (excO a C)) : Rel K mg G0 H0 G (upd H a o) σ (δ.set i (some r')) where
 g := by
  have h0 := R.fr i r a e ho hs
  have hG := (R.own_ne e ho hs).1
  have kin : (∃ xs, H a = some (.lst xs)) \/ (∃ xs, H a = some (.dK xs)) := by
   obtain ⟨v, h1, h2⟩ := R.sl i r e
   rw [hs] at h1
   cases h1
   cases r with
   | sh d => exact ho.elim
   | ol ds => obtain ⟨b, xs, e1, _, e2, _⟩ := h2; cases e1; exact .inl ⟨_, e2⟩
   | od ds => obtain ⟨b, xs, e1, _, e2, _⟩ := h2; cases e1; exact .inr ⟨_, e2⟩
   | ex x => exact ho.elim
  have nT : ∀ {b : Addr} {u : HO}, H b = some u -> ((∃ ps, u = .tbl ps) \/ (∃ φ, u = .ext φ)) -> b ≠ a := fun {b u} q z w => by
   subst w
   rcases kin with ⟨xs, k⟩ | ⟨xs, k⟩
   ·rw [k] at q; cases q; rcases z with ⟨_, z⟩ | ⟨_, z⟩ <;> cases z
   ·rw [k] at q; cases q; rcases z with ⟨_, z⟩ | ⟨_, z⟩ <;> cases z
  refine ⟨⟨fun b u q n => ?_, fun b q => ?_, fun t P hP => ?_⟩, R.g.gg, fun b u q => ?_, R.g.nb, R.g.nt⟩
  ·rw [ah (ao q h0)]; exact R.g.hh.at_ b u q n
  ·rw [ah (fun z => q (by rw [z]; exact h0))]; exact R.g.hh.nn b q
  ·obtain ⟨ps, e1, t1, t2⟩ := R.g.hh.ok t P hP
   refine ⟨ps, (ah (nT e1 (.inl ⟨_, rfl⟩))).trans e1, t1, fun pos c hc => ?_⟩
   obtain ⟨c', e2, e3⟩ := t2 pos c hc
   exact ⟨c', e2, (ah (nT e3 (.inr ⟨_, rfl⟩))).trans e3⟩
  ·rw [ah (ao q hG)]; exact R.g.gh b u q
 tb := R.tb
 n0 := R.n0
 len := by rw [List.length_set]; exact R.len
 sl := fun j sd q => by
  rcases aJ q with ⟨rfl, z⟩ | ⟨hj, q⟩
  ·cases z
   exact ⟨_, hs, hr⟩
  ·obtain ⟨v, h1, h2⟩ := R.sl j sd q
   refine ⟨v, h1, ?_⟩
   have ne : ∀ b, sd.owned -> v = .ref b -> b ≠ a := fun b hb ev z => by
    subst ev z
    exact hj (R.ap i j r sd b e q ho hb hs h1).symm
   cases sd with
   | sh d => exact h2
   | ol ds =>
    obtain ⟨b, xs, rfl, q1, q2, q3⟩ := h2
    exact ⟨b, xs, rfl, q1, (ah (ne b trivial rfl)).trans q2, q3⟩
   | od ds =>
    obtain ⟨b, xs, rfl, q1, q2, q3⟩ := h2
    exact ⟨b, xs, rfl, q1, (ah (ne b trivial rfl)).trans q2, q3⟩
   | ex x =>
    obtain ⟨b, C, rfl, q1, q2⟩ := h2
    exact ⟨b, C, rfl, q1, (ah fun z => hx C (by rw [<- z]; exact q2)).trans q2⟩
 fr := fun j sd b q hb hs' => by
  rcases aJ q with ⟨rfl, _⟩ | ⟨_, q⟩
  ·rw [hs] at hs'
   cases hs'
   exact R.fr _ r _ e ho hs
  ·exact R.fr j sd b q hb hs'
 ap := fun j k sd te b q1 q2 h1 h2 s1 s2 => by
  rcases aJ q1 with ⟨z1, _⟩ | ⟨z1, y1⟩
  ·rcases aJ q2 with ⟨z2, _⟩ | ⟨z2, y2⟩
   ·rw [z1, z2]
   ·rw [z1] at s1
    rw [z1]
    exact R.ap i k r te b e y2 ho h2 s1 s2
  ·rcases aJ q2 with ⟨z2, _⟩ | ⟨z2, y2⟩
   ·rw [z2] at s2
    rw [z2]
    exact R.ap j i sd r b y1 e h1 ho s1 s2
   ·exact R.ap j k sd te b y1 y2 h1 h2 s1 s2
theorem Rel.tabs (R : Rel K mg G0 H0 G H σ δ) : B3 H := R.g.hh.ok R.tb
theorem Rel.noT (R : Rel K mg G0 H0 G H σ δ) : NoT G := R.g.nt R.n0
end
section
variable (K : W.Frag) (mg : zu) (E : XK)
abbrev DE := DEnv -> Out (SD × DEnv)
abbrev DD := DEnv -> Out (PyData × DEnv)
abbrev DA := DEnv -> Out (zt × DEnv)
abbrev DT := DEnv -> Out (Bool × DEnv)
noncomputable def PoX (H0 : Hp) (x : Str) : Prop := ∀ H' C, An H0 H' -> mg x = some C -> E C none H'
noncomputable def PoE (G0 H0 G : Hp) (σ : St) (Q : VK) : Out (SD × DEnv) -> Prop
 | .ok p => ∀ v H' G', Rel K mg G0 H0 G' H' σ p.2 -> Same G G' -> RR K mg H0 G' H' σ p.2 v p.1 -> Q v H'
 | .exc x => PoX mg E H0 x
 | .bad => False
noncomputable def tE (f : DE) : TE := fun σ H Q => ∃ G0 H0 G δ, Rel K mg G0 H0 G H σ δ /\ PoE K mg E G0 H0 G σ Q (f δ)
noncomputable def PoD (G0 H0 G : Hp) (σ : St) (Q : VK) : Out (PyData × DEnv) -> Prop
 | .ok p => ∀ v H' G', Rel K mg G0 H0 G' H' σ p.2 -> Same G G' -> Dt K G' v p.1 -> Q v H'
 | .exc x => PoX mg E H0 x
 | .bad => False
noncomputable def PoA (G0 H0 G : Hp) (σ : St) (Q : List V -> Hp -> Prop) : Out (zt × DEnv) -> Prop
 | .ok p => ∀ vs H' G', Rel K mg G0 H0 G' H' σ p.2 -> Same G G' -> Dts K G' vs p.1 -> Q vs H'
 | .exc x => PoX mg E H0 x
 | .bad => False
noncomputable def tA (f : DA) : TA := fun σ H Q => ∃ G0 H0 G δ, Rel K mg G0 H0 G H σ δ /\ PoA K mg E G0 H0 G σ Q (f δ)
noncomputable def PoT (G0 H0 G : Hp) (σ : St) (Q : Bool -> Hp -> Prop) : Out (Bool × DEnv) -> Prop
 | .ok p => ∀ H' G', Rel K mg G0 H0 G' H' σ p.2 -> Same G G' -> Q p.1 H'
 | .exc x => PoX mg E H0 x
 | .bad => False
noncomputable def tT (f : DT) : TT := fun σ H Q => ∃ G0 H0 G δ, Rel K mg G0 H0 G H σ δ /\ PoT K mg E G0 H0 G σ Q (f δ)
end
noncomputable def vE (f : DE) : DD := fun δ => (f δ).bind fun p => match p.1.toSh with
 | some d => .ok (d, p.2)
 | none => .bad
section
variable {X : Cx}
theorem PE.weak {e : Expr} {t t' : TE} (h : PE X e t) (k : ∀ σ H Q, t' σ H Q -> t σ H Q) : PE X e t' := fun pins s σ H Q I q => h pins s σ H Q I (k σ H Q q)
theorem PT.weak {e : Expr} {t t' : TT} (h : PT X e t) (k : ∀ σ H Q, t' σ H Q -> t σ H Q) : PT X e t' := fun pins s σ H Q I q => h pins s σ H Q I (k σ H Q q)
theorem PW.weak {e : Expr} {t t' : TT} (h : PW X e t) (k : ∀ σ H Q, t' σ H Q -> t σ H Q) : PW X e t' := fun wh pins s σ H Q I q => h wh pins s σ H Q I (k σ H Q q)
theorem PS.weak {e : Stmt} {t t' : TS} (h : PS X e t) (k : ∀ D σ H, t' D σ H -> t D σ H) : PS X e t' := fun pins s σ H D I q => h pins s σ H D I (k D σ H q)
theorem PSs.weak {e : List Stmt} {t t' : TS} (h : PSs X e t) (k : ∀ D σ H, t' D σ H -> t D σ H) : PSs X e t' := fun pins s σ H D I q => h pins s σ H D I (k D σ H q)
theorem PI.weak {tg e : Expr} {t t' : TI} (h : PI X tg e t) (k : ∀ σ H Q, t' σ H Q -> t σ H Q) : PI X tg e t' := fun pins s σ H Q I q => h pins s σ H Q I (k σ H Q q)
end
section
variable {K : W.Frag} {mg : zu} {E : XK} {G0 H0 G H : Hp} {σ : St} {δ : DEnv}
theorem qo {f : DE} {Q : VK} (R : Rel K mg G0 H0 G H σ δ) (h : PoD K mg E G0 H0 G σ Q (vE f δ)) : tE K mg E f σ H Q := by
 refine ⟨G0, H0, G, δ, R, ?_⟩
 unfold vE at h
 cases e : f δ with
 | ok p =>
  rw [e, Out.bind_ok] at h
  intro v H' G' R' s rr
  cases e2 : p.1.toSh with
  | none => rw [e2] at h; exact h.elim
  | some d =>
   rw [e2] at h
   obtain ⟨G2, R2, s2, hd⟩ := rr.share R' e2
   exact h v H' G2 R2 (s.trans s2) hd
 | exc x => rw [e] at h; exact h
 | bad => rw [e] at h; exact h
end
abbrev SE (X : Cx) (E : XK) (e : Expr) (f : DE) : Prop := PE X e (tE X.K X.mg E f)
abbrev ST (X : Cx) (E : XK) (e : Expr) (f : DT) : Prop := PT X e (tT X.K X.mg E f)
mutual
noncomputable def zC : PyData -> Bool
 | .list _ => false
 | .dict _ => false
 | .tuple ds => zA ds
 | _ => true
noncomputable def zA : zt -> Bool
 | [] => true
 | d :: ds => zC d && zA ds
end
noncomputable def SD.pure : SD -> Bool
 | .sh d => zC d
 | .ol ds => zA ds
 | .od es => zA (es.map (·.2))
 | .ex _ => false
noncomputable def hid (l : List Addr) (G : Hp) : Hp := fun b => if b ∈ l then none else G b
noncomputable def Muts (l : List Addr) (G : Hp) : Prop := ∀ b ∈ l, (∃ xs, G b = some (.lst xs)) \/ ∃ kvs, G b = some (.dK kvs)
theorem sj {l : List Addr} {G : Hp} {a : Addr} {xs : List V} (hl : Muts l G) (h : TuT G a xs) : TuT (hid l G) a xs := by
 unfold TuT hid
 rw [if_neg]
 ·exact h
 ·intro z
  rcases hl a z with ⟨xs, q⟩ | ⟨kvs, q⟩
  ·rw [h] at q; cases q
  ·rw [h] at q; cases q
section
variable {K : W.Frag} {l : List Addr} {G : Hp}
mutual
theorem Dt.hid (hl : Muts l G) : ∀ {v : V} {d : PyData}, Dt K G v d -> zC d = true -> Dt K (hid l G) v d
 | _, _, .non, _ => .non
 | _, _, .bl b, _ => .bl b
 | _, _, .int i, _ => .int i
 | _, _, .str x, _ => .str x
 | _, _, .lst q r, h => by exact absurd h (by simp [zC])
 | _, _, .tup q r, h => .tup (sj hl q) (Dts.hid hl r (by simpa [zC] using h))
 | _, _, .dct q r, h => by exact absurd h (by simp [zC])
theorem Dts.hid (hl : Muts l G) : ∀ {vs : List V} {ds : zt}, Dts K G vs ds -> zA ds = true -> Dts K (hid l G) vs ds
 | _, _, .nil, _ => .nil
 | _, _, .cons x r, h => by
  have h' := Bool.and_eq_true_iff.mp (by simpa [zA] using h)
  exact .cons (Dt.hid hl x h'.1) (Dts.hid hl r h'.2)
end
theorem Des.hid (hl : Muts l G) : ∀ {vs : List (Key × V)} {ds : List (PyData × PyData)}, Des K G vs ds -> zA (ds.map (·.2)) = true -> Des K (hid l G) vs ds
 | _, _, .nil, _ => .nil
 | _, _, .cons x r, h => by
  have h' := Bool.and_eq_true_iff.mp (by simpa [zA] using h)
  exact .cons (Dt.hid hl x h'.1) (Des.hid hl r (by simpa using h'.2))
end
inductive Opd where
 | nm (i : Nat)
 | ex (f : DE)
noncomputable def Ac (i : Nat) (δ : DEnv) : DEnv := match δ[i]? with
 | some (some (.ol ds)) => δ.set i (some (.sh (.list ds)))
 | some (some (.od es)) => δ.set i (some (.sh (.dict es)))
 | _ => δ
noncomputable def zK : List Nat -> DEnv -> DEnv
 | [], δ => δ
 | i :: r, δ => zK r (Ac i δ)
section
variable {K : W.Frag} {mg : zu} {G0 H0 G H : Hp} {σ : St} {δ : DEnv}
structure Lent (G G1 : Hp) (l : List Addr) : Prop where
 ext : Same G G1
 mu : Muts l G1
 new : ∀ b ∈ l, G b = none
 old : ∀ b, b ∉ l -> G1 b = G b
theorem Lent.refl : Lent G G [] := ⟨.refl _, fun b h => absurd h (by simp), fun b h => absurd h (by simp), fun _ _ => rfl⟩
theorem Lent.trans {G1 G2 : Hp} {l1 l2 : List Addr} (a : Lent G G1 l1) (b : Lent G1 G2 l2) : Lent G G2 (l1 ++ l2) where
 ext := a.ext.trans b.ext
 mu := fun c h => by
  rcases List.mem_append.mp h with z | z
  ·rcases a.mu c z with ⟨xs, q⟩ | ⟨xs, q⟩
   ·exact .inl ⟨xs, b.ext _ _ q⟩
   ·exact .inr ⟨xs, b.ext _ _ q⟩
  ·exact b.mu c z
 new := fun c h => by
  rcases List.mem_append.mp h with z | z
  ·exact a.new c z
  ·exact a.ext.free (b.new c z)
 old := fun c h => by
  have h1 : c ∉ l1 := fun z => h (List.mem_append_left _ z)
  have h2 : c ∉ l2 := fun z => h (List.mem_append_right _ z)
  rw [b.old c h2, a.old c h1]
theorem Rel.rel1 (R : Rel K mg G0 H0 G H σ δ) (i : Nat) : ∃ G1 l, Rel K mg G0 H0 G1 H σ (Ac i δ) /\ Lent G G1 l := by
 unfold Ac
 split
 next ds e =>
  obtain ⟨v, h1, ⟨a, xs, rfl, q1, q2, q3⟩, hf⟩ := R.at_ e
  obtain ⟨f1, f2⟩ := hf trivial a rfl
  have hi : i < σ.length := (List.getElem?_eq_some_iff.mp h1).1
  have R2 := ((R.forget i).pub q1 q2 f1 f2).store hi (r := .sh (.list ds)) (v := .ref a) (RR.sh (.lst (.of aq) (q3.mono (aK q1))))
  rw [ig h1, List.set_set] at R2
  refine ⟨_, [a], R2, aK q1, fun b hb => ?_, fun b hb => ?_, fun b hb => ah fun z => hb (by simp [z])⟩
  ·have : b = a := by simpa using hb
   subst this
   exact .inl ⟨xs, aq⟩
  ·have : b = a := by simpa using hb
   subst this
   exact q1
 next ds e =>
  obtain ⟨v, h1, ⟨a, xs, rfl, q1, q2, q3⟩, hf⟩ := R.at_ e
  obtain ⟨f1, f2⟩ := hf trivial a rfl
  have hi : i < σ.length := (List.getElem?_eq_some_iff.mp h1).1
  have R2 := ((R.forget i).pub q1 q2 f1 f2).store hi (r := .sh (.dict ds)) (v := .ref a) (RR.sh (.dct aq (q3.mono (aK q1))))
  rw [ig h1, List.set_set] at R2
  refine ⟨_, [a], R2, aK q1, fun b hb => ?_, fun b hb => ?_, fun b hb => ah fun z => hb (by simp [z])⟩
  ·have : b = a := by simpa using hb
   subst this
   exact .inr ⟨xs, aq⟩
  ·have : b = a := by simpa using hb
   subst this
   exact q1
 next => exact ⟨G, [], R, .refl⟩
theorem Rel.relA : ∀ (is : List Nat) {G : Hp} {δ : DEnv}, Rel K mg G0 H0 G H σ δ -> ∃ G1 l, Rel K mg G0 H0 G1 H σ (zK is δ) /\ Lent G G1 l
 | [], G, δ, R => ⟨G, [], R, .refl⟩
 | i :: r, G, δ, R => by
  obtain ⟨G1, l1, R1, L1⟩ := R.rel1 i
  obtain ⟨G2, l2, R2, L2⟩ := Rel.relA r R1
  exact ⟨G2, _, R2, L1.trans L2⟩
theorem Lent.back {G1 G' H' : Hp} {l : List Addr} {v : V} {r : SD} (L : Lent G G1 l) (R : Rel K mg G0 H0 G H σ δ) (R1 : Same G1 H) (g : Grow G1 H G' H') (n : VN K mg H G' H' v r) (hp : r.pure = true) :
  ∃ G2, Grow G H G2 H' /\ VN K mg H G2 H' v r := by
 have mu : Muts l G' := fun b hb => by
  rcases L.mu b hb with ⟨xs, q⟩ | ⟨xs, q⟩
  ·exact .inl ⟨xs, g.gg _ _ q⟩
  ·exact .inr ⟨xs, g.gg _ _ q⟩
 have nl : ∀ b ∈ l, H b ≠ none := fun b hb => by
  rcases L.mu b hb with ⟨xs, q⟩ | ⟨xs, q⟩
  ·rw [R1 _ _ q]; simp
  ·rw [R1 _ _ q]; simp
 refine ⟨hid l G', ⟨g.hh, fun b o e => ?_, fun b o e => ?_, fun b hb => ?_, fun nt b ps z => ?_⟩, ?_, n.2⟩
 ·unfold hid
  rw [if_neg fun z => by rw [L.new b z] at e; cases e]
  exact g.gg _ _ (L.ext _ _ e)
 ·unfold hid at e
  split at e
  ·cases e
  ·exact g.gh _ _ e
 ·unfold hid
  split
  next z => exact (L.new b z).symm
  next z => rw [g.nb b hb, L.old b z]
 ·have n1 : NoT G1 := fun c qs y => by
   by_cases hc : c ∈ l
   ·rcases L.mu c hc with ⟨xs, q⟩ | ⟨xs, q⟩ <;> (rw [y] at q; cases q)
   ·rw [L.old c hc] at y; exact nt c qs y
  unfold hid at z
  split at z
  ·cases z
  ·exact g.nt n1 b ps z
 ·cases r with
  | sh d => exact Dt.hid mu n.1 hp
  | ol ds =>
   obtain ⟨a, xs, rfl, h1, h2, h3⟩ := n.1
   exact ⟨a, xs, rfl, by unfold hid; split <;> first | rfl | exact h1, h2, h3.hid mu hp⟩
  | od ds =>
   obtain ⟨a, xs, rfl, h1, h2, h3⟩ := n.1
   exact ⟨a, xs, rfl, by unfold hid; split <;> first | rfl | exact h1, h2, h3.hid mu hp⟩
  | ex x => cases hp
end
noncomputable def fin2 (o : Option SD) (δ1 δ2 : DEnv) : Out (SD × DEnv) := match o with
 | some r => .ok (r, if r.pure = true then δ1 else δ2)
 | none => .bad
noncomputable def evO : List Opd -> DEnv -> Out (List (Sum PyData Nat) × DEnv)
 | [], δ => .ok ([], δ)
 | .nm i :: r, δ => match δ[i]? with
  | some (some _) => (evO r δ).bind fun q => .ok (.inr i :: q.1, q.2)
  | _ => .bad
 | .ex f :: r, δ => (vE f δ).bind fun p => (evO r p.2).bind fun q => .ok (.inl p.1 :: q.1, q.2)
noncomputable def zL : List (Sum PyData Nat) -> List Nat
 | [] => []
 | .inl _ :: r => zL r
 | .inr i :: r => i :: zL r
noncomputable def Bl (δ : DEnv) (i : Nat) : Option PyData := match δ[i]? with
 | some (some (.sh d)) => some d
 | _ => none
noncomputable def A5 (δ : DEnv) : List (Sum PyData Nat) -> Option zt
 | [] => some []
 | .inl d :: r => (A5 δ r).map (d :: ·)
 | .inr i :: r => (Bl δ i).bind fun d => (A5 δ r).map (d :: ·)
noncomputable def opds (ops : List Opd) (δ : DEnv) : Out (zt × DEnv × DEnv) := (evO ops δ).bind fun p =>
 match A5 (zK (zL p.1) p.2) p.1 with
 | some ds => .ok (ds, p.2, zK (zL p.1) p.2)
 | none => .bad
noncomputable def eOp (o : zt -> Option SD) (ops : List Opd) : DE := fun δ => (opds ops δ).bind fun p => fin2 (o p.1) p.2.1 p.2.2
section
variable (K : W.Frag) (mg : zu) (E : XK)
noncomputable def tO : Opd -> TE
 | .nm i => tVar i
 | .ex f => tE K mg E f
noncomputable def tOs : List Opd -> TA
 | [] => tNil
 | o :: r => Ai (tO K mg E o) (tOs r)
inductive OV (G : Hp) (σ : St) : List V -> List (Sum PyData Nat) -> Prop
 | nil : OV G σ [] []
 | dat {v : V} {d : PyData} {vs : List V} {r : List (Sum PyData Nat)} : Dt K G v d -> OV G σ vs r -> OV G σ (v :: vs) (.inl d :: r)
 | nam {v : V} {i : Nat} {vs : List V} {r : List (Sum PyData Nat)} : σ[i]? = some (some v) -> OV G σ vs r -> OV G σ (v :: vs) (.inr i :: r)
end
section
variable {K : W.Frag} {mg : zu} {E : XK} {G0 H0 G H : Hp} {σ : St} {δ : DEnv}
theorem OV.mono {G' : Hp} (s : Same G G') : ∀ {vs : List V} {r : List (Sum PyData Nat)}, OV K G σ vs r -> OV K G' σ vs r
 | _, _, .nil => .nil
 | _, _, .dat h t => .dat (h.mono s) (OV.mono s t)
 | _, _, .nam h t => .nam h (OV.mono s t)
theorem OV.view (R : Rel K mg G0 H0 G H σ δ) : ∀ {vs : List V} {r : List (Sum PyData Nat)} {ds : zt}, OV K G σ vs r -> A5 δ r = some ds -> Dts K G vs ds
 | _, _, _, .nil, e => by cases e; exact .nil
 | _, _, _, .dat (r := r) h t, e => by
  simp only [A5, Option.map_eq_some_iff] at e
  obtain ⟨ds', e1, rfl⟩ := e
  exact .cons h (OV.view R t e1)
 | _, _, _, .nam (i := i) (v := v) h t, e => by
  simp only [A5, Option.bind_eq_some_iff, Option.map_eq_some_iff] at e
  obtain ⟨d, e1, ds', e2, rfl⟩ := e
  refine .cons ?_ (OV.view R t e2)
  unfold Bl at e1
  split at e1
  next d' q =>
   cases e1
   obtain ⟨w, h1, h2⟩ := R.sl i _ q
   rw [h] at h1
   cases h1
   exact h2
  next => cases e1
theorem dn {P : List V -> Hp -> Prop} : ∀ (ops : List Opd) {G H : Hp} {δ : DEnv}, Rel K mg G0 H0 G H σ δ ->
  (match evO ops δ with
   | .ok p => ∀ vs H' G', Rel K mg G0 H0 G' H' σ p.2 -> Same G G' -> OV K G' σ vs p.1 -> P vs H'
   | .exc x => PoX mg E H0 x
   | .bad => False) -> tOs K mg E ops σ H P
 | [], G, H, δ, R, h => h [] H G R (.refl _) .nil
 | .nm i :: r, G, H, δ, R, h => by
  unfold evO at h
  split at h
  next p e =>
   split at e
   next sd q =>
    obtain ⟨v, hv, _⟩ := R.sl i _ q
    refine ⟨v, hv, dn (P := fun xs H2 => P (v :: xs) H2) r R ?_⟩
    cases e1 : evO r δ with
    | ok q1 =>
     rw [e1, Out.bind_ok] at e
     cases e
     exact fun vs H' G' R' s o => h (v :: vs) H' G' R' s (.nam hv o)
    | exc x => rw [e1] at e; cases e
    | bad => rw [e1] at e; cases e
   next => cases e
  next x e =>
   split at e
   next sd q =>
    obtain ⟨v, hv, _⟩ := R.sl i _ q
    refine ⟨v, hv, dn (P := fun xs H2 => P (v :: xs) H2) r R ?_⟩
    cases e1 : evO r δ with
    | ok q1 => rw [e1] at e; cases e
    | exc y => rw [e1] at e; cases e; exact h
    | bad => rw [e1] at e; cases e
   next => cases e
  next => exact h.elim
 | .ex f :: r, G, H, δ, R, h => by
  show tE K mg E f σ H fun x H1 => tOs K mg E r σ H1 fun xs H2 => P (x :: xs) H2
  refine qo R ?_
  unfold evO at h
  cases e1 : vE f δ with
  | ok p =>
   rw [e1, Out.bind_ok] at h
   intro v H1 G1 R1 s1 hd
   refine dn (P := fun xs H2 => P (v :: xs) H2) r R1 ?_
   cases e2 : evO r p.2 with
   | ok q =>
    rw [e2, Out.bind_ok] at h
    exact fun vs H2 G2 R2 s2 o => h (v :: vs) H2 G2 R2 (s1.trans s2) (.dat (hd.mono s2) o)
   | exc x => rw [e2] at h; exact h
   | bad => rw [e2] at h; exact h
  | exc x => rw [e1] at h; exact h
  | bad => rw [e1] at h; exact h
end
noncomputable def zT (K : W.Frag) (mg : zu) (o : zt -> Option SD) (r : List V -> Hp -> VK -> Prop) : Prop :=
 ∀ (G H : Hp) (vs : List V) (ds : zt) (res : SD) (Q : VK), Same G H -> Dts K G vs ds -> o ds = some res -> (∀ v H' G', Grow G H G' H' -> VN K mg H G' H' v res -> Q v H') -> r vs H Q
section
variable {K : W.Frag} {mg : zu} {E : XK}
theorem fy {o : zt -> Option SD} {r : List V -> Hp -> VK -> Prop} {ops : List Opd} {σ : St} {H : Hp} {Q : VK} (hs : zT K mg o r) (h : tE K mg E (eOp o ops) σ H Q) : tOs K mg E ops σ H fun vs H1 => r vs H1 Q := by
 obtain ⟨G0, H0, G, δ, R, m⟩ := h
 refine dn ops R ?_
 unfold eOp opds at m
 cases e1 : evO ops δ with
 | ok p =>
  rw [e1, Out.bind_ok] at m
  intro vs H1 G1 R1 s1 ov
  cases e2 : A5 (zK (zL p.1) p.2) p.1 with
  | none => rw [e2] at m; exact m.elim
  | some ds =>
   rw [e2, Out.bind_ok] at m
   cases e3 : o ds with
   | none => rw [e3] at m; exact m.elim
   | some res =>
    rw [e3] at m
    obtain ⟨G2, l, R2, L⟩ := R1.relA (zL p.1)
    refine hs G2 H1 vs ds res Q R2.g.gh ((ov.mono L.ext).view R2 e2) e3 fun v H2 G3 gr vn => ?_
    by_cases hp : res.pure = true
    ·obtain ⟨G4, gr4, vn4⟩ := L.back R1 R2.g.gh gr vn hp
     have m' : PoE K mg E G0 H0 G σ Q (.ok (res, p.2)) := by simpa [fin2, hp] using m
     exact m' v H2 G4 (R1.grow gr4) (s1.trans gr4.gg) (RR.of_new R1 vn4)
    ·have m' : PoE K mg E G0 H0 G σ Q (.ok (res, zK (zL p.1) p.2)) := by simpa [fin2, hp] using m
     exact m' v H2 G3 (R2.grow gr) ((s1.trans L.ext).trans gr.gg) (RR.of_new R2 vn)
 | exc x => rw [e1] at m; exact m
 | bad => rw [e1] at m; exact m
theorem qp {H G' H' : Hp} {v : V} {d : PyData} (h : Dt K G' v d) : VN K mg H G' H' v (.sh d) := ⟨h, fun z => z.elim⟩
theorem ju {G H : Hp} {p : Addr} {xs : List V} {ds : zt} (hg : Same G H) (hp : H p = none) (h : Dts K G xs ds) : VN K mg H G (upd H p (.lst xs)) (.ref p) (.ol ds) :=
 ⟨⟨p, xs, rfl, hg.free hp, aq, h⟩, fun _ a e => by cases e; exact hp⟩
theorem jV {G H : Hp} {p : Addr} {xs : List V} {ds : zt} (hg : Same G H) (hp : H p = none) (h : Dts K G xs ds) : VN K mg H (upd G p (.tup xs)) (upd H p (.tup xs)) (.ref p) (.sh (.tuple ds)) :=
 qp (.tup aq (h.mono (aK (hg.free hp))))
theorem ans {G H : Hp} {Q : VK} {v : V} {d : PyData} (k : ∀ v H' G', Grow G H G' H' -> VN K mg H G' H' v (.sh d) -> Q v H') (hg : Same G H) (h : Dt K G v d) : Q v H := k v H G (.refl hg) (qp h)
end
abbrev SO (X : Cx) (E : XK) (e : Expr) (o : Opd) : Prop := PE X e (tO X.K X.mg E o)
noncomputable def SOs (X : Cx) (E : XK) : List Expr -> List Opd -> Prop
 | [], [] => True
 | e :: es, o :: os => SO X E e o /\ SOs X E es os
 | _, _ => False
section
variable {X : Cx} {E : XK} {a b e : Expr} {es : List Expr} {oa ob : Opd} {ops : List Opd} {f : DE} {pos : Pos}
theorem ag (i : Nat) {x : Str} (hN : X.N[i]? = some x := by rfl) (hv : Vis X.env.scope x := by first | exact Or.inl rfl | exact Or.inr (Or.inl rfl) | exact Or.inr (Or.inr rfl)) (hd : (x == ("__debug__" : Str)) = false := by decide)
  (hcd : (x == ("__classdict__" : Str)) = false := by decide) : SO X E (.Name x pos) (.nm i) := fV hN hv hd hcd
theorem ab (h : SE X E e f) : SO X E e (.ex f) := h
theorem af : PA X [] (tOs X.K X.mg E []) := cQ
theorem aa (he : SO X E e oa) (hr : PA X es (tOs X.K X.mg E ops)) (hs : starEach (e :: es) X.env = (false, eval e X.env) :: starEach es X.env := by rfl) : PA X (e :: es) (tOs X.K X.mg E (oa :: ops)) := b8 he hr hs
noncomputable def l2 (r : R2) : List V -> Hp -> VK -> Prop := fun vs H Q => match vs with
 | [x, y] => r x y H Q
 | _ => False
noncomputable def l1 (r : V -> Hp -> VK -> Prop) : List V -> Hp -> VK -> Prop := fun vs H Q => match vs with
 | [x] => r x H Q
 | _ => False
theorem ij {op : Operator} {r : R2} {o : zt -> Option SD} (ho : OpR X (binaryOp op) r) (hs : zT X.K X.mg o (l2 r)) (ha : SO X E a oa) (hb : SO X E b ob) : SE X E (.BinOp a op b pos) (eOp o [oa, ob]) :=
 (tM ho ha hb).weak fun _ _ _ h => fy hs h
theorem wL {op : UnaryOp} {r : V -> Hp -> VK -> Prop} {o : zt -> Option SD} (ho : UnR X (unaryOp op) r) (hs : zT X.K X.mg o (l1 r)) (ha : SO X E a oa) : SE X E (.UnaryOp op a pos) (eOp o [oa]) :=
 (wF ho ha).weak fun _ _ _ h => fy hs h
theorem ik {op : CmpOp} {r : R2} {o : zt -> Option SD} (ho : OpR X (compareOp op) r) (hs : zT X.K X.mg o (l2 r)) (ha : SO X E a oa) (hb : SO X E b ob) (hm : behindInMarks op b = false) : SE X E (.Compare a [op] [b] pos) (eOp o [oa, ob]) :=
 (rN ho ha hb hm).weak fun _ _ _ h => fy hs h
theorem wM {r : R2} {o : zt -> Option SD} (hr : IxR X r) (hs : zT X.K X.mg o (l2 r)) (ha : SO X E a oa) (hb : SO X E b ob) (hp : B8 b) : SE X E (.Subscript a b pos) (eOp o [oa, ob]) :=
 (nE hr ha hb hp).weak fun _ _ _ h => fy hs h
theorem ip {x : Str} {p : Pos} {id : String} {r : List V -> Hp -> VK -> Prop} {o : zt -> Option SD} (hc : Ah X (.builtin id) r) (hs : zT X.K X.mg o r) (hm : X.mg x = none) (hv : bootBuiltins x = some (.builtin id)) (ha : PA X (e :: es) (tOs X.K X.mg E ops)) (hg : Gl X x := by rfl)
  (hn : x ≠ "__name__" := by decide) (hdb : (x == ("__debug__" : Str)) = false := by decide) (hst : starEach (e :: es) X.env = (false, eval e X.env) :: starEach es X.env := by rfl) (hpl : (backTo pos (starEach es X.env)).any (·.1) = false := by rfl) :
  SE X E (.Call (.Name x p) (e :: es) [] pos) (eOp o ops) := (fu hc hg hm hv ha hn hdb hst hpl).weak fun _ _ _ h => fy hs h
theorem kW {x : Str} {p : Pos} {T : String} {r : List V -> Hp -> VK -> Prop} {o : zt -> Option SD} (hc : Ah X (.type T) r) (hs : zT X.K X.mg o r) (hm : X.mg x = none) (hv : bootBuiltins x = some (.type T)) (ha : PA X (e :: es) (tOs X.K X.mg E ops)) (hg : Gl X x := by rfl)
  (hn : x ≠ "__name__" := by decide) (hdb : (x == ("__debug__" : Str)) = false := by decide) (hst : starEach (e :: es) X.env = (false, eval e X.env) :: starEach es X.env := by rfl) (hpl : (backTo pos (starEach es X.env)).any (·.1) = false := by rfl) :
  SE X E (.Call (.Name x p) (e :: es) [] pos) (eOp o ops) := (jn hc hg hm hv ha hn hdb hst hpl).weak fun _ _ _ h => fy hs h
end
def eC (d : PyData) : DE := fun δ => .ok (.sh d, δ)
noncomputable def eV (i : Nat) : DE := fun δ => match δ[i]? with
 | some (some (.sh d)) => .ok (.sh d, δ)
 | some (some (.ol ds)) => .ok (.sh (.list ds), δ.set i (some (.sh (.list ds))))
 | some (some (.od ds)) => .ok (.sh (.dict ds), δ.set i (some (.sh (.dict ds))))
 | _ => .bad
noncomputable def dTup (ds : zt) : Option SD := if ds.length <= sizeLine then some (.sh (.tuple ds)) else none
noncomputable def dLst (ds : zt) : Option SD := if ds.length <= sizeLine then some (.ol ds) else none
section
variable {X : Cx} {E : XK} {pos : Pos} {es : List Expr} {ops : List Opd}
theorem ae {i : Int} {j : Nat} : SE X E (.Constant (.int i) j pos) (eC (.int i)) := gY.weak fun σ H Q ⟨G0, H0, G, δ, R, m⟩ => m _ H G R (.refl _) (RR.sh (.int i))
theorem dk {i : Bool} {j : Nat} : SE X E (.Constant (.bool i) j pos) (eC (.bool i)) := wB.weak fun σ H Q ⟨G0, H0, G, δ, R, m⟩ => m _ H G R (.refl _) (RR.sh (.bl i))
theorem bY {i : Str} {j : Nat} : SE X E (.Constant (.str i) j pos) (eC (.str i)) := pC.weak fun σ H Q ⟨G0, H0, G, δ, R, m⟩ => m _ H G R (.refl _) (RR.sh (.str i))
theorem w_V {K : W.Frag} {mg : zu} {i : Nat} {σ : St} {H : Hp} {Q : VK} (h : tE K mg E (eV i) σ H Q) : tVar i σ H Q := by
 obtain ⟨G0, H0, G, δ, R, m⟩ := h
 unfold eV at m
 split at m
 next d e =>
  obtain ⟨v, h1, h2⟩ := R.sl i _ e
  exact ⟨v, h1, m v H G R (.refl _) (RR.sh h2)⟩
 next ds e =>
  obtain ⟨G', v, R', s, h1, hd⟩ := R.share e rfl
  exact ⟨v, h1, m v H G' R' s (RR.sh hd)⟩
 next ds e =>
  obtain ⟨G', v, R', s, h1, hd⟩ := R.share e rfl
  exact ⟨v, h1, m v H G' R' s (RR.sh hd)⟩
 next => exact m.elim
theorem qq (i : Nat) {x : Str} (hN : X.N[i]? = some x := by rfl) (hv : Vis X.env.scope x := by first | exact Or.inl rfl | exact Or.inr (Or.inl rfl) | exact Or.inr (Or.inr rfl)) (hd : (x == ("__debug__" : Str)) = false := by decide)
  (hcd : (x == ("__classdict__" : Str)) = false := by decide) : SE X E (.Name x pos) (eV i) := (fV hN hv hd hcd).weak fun _ _ _ h => w_V h
theorem sk {x : Str} {v : V} {u : Value} {d : PyData} (hm : X.mg x = some u) (r : RelV v u) (hd : ∀ G, Dt X.K G v d) (hg : Gl X x := by rfl) (hdb : (x == ("__debug__" : Str)) = false := by decide) : SE X E (.Name x pos) (eC d) :=
 (rG hg hm r hdb).weak fun σ H Q ⟨G0, H0, G, δ, R, m⟩ => m _ H G R (.refl _) (RR.sh (hd G))
theorem cA {k : Nat} (h : PA X es (tOs X.K X.mg E ops)) : SE X E (.Tuple es k pos) (eOp dTup ops) := (pQ h).weak fun σ H Q q => by
 refine fy (r := fun xs H1 Q => xs.length <= sizeLine /\ ∀ p, H1 p = none -> Q (.ref p) (upd H1 p (.tup xs))) (fun G H vs ds res Q hg hd ho k => ?_) q
 unfold dTup at ho
 split at ho
 ·cases ho
  exact ⟨by rw [hd.len]; assumption, fun p hp => k _ _ _ (.laid hg hp) (jV hg hp hd)⟩
 ·cases ho
theorem aD (h : PA X es (tOs X.K X.mg E ops)) : SE X E (.List es pos) (eOp dLst ops) := (uD h).weak fun σ H Q q => by
 refine fy (r := fun xs H1 Q => xs.length <= sizeLine /\ ∀ p, H1 p = none -> Q (.ref p) (upd H1 p (.lst xs))) (fun G H vs ds res Q hg hd ho k => ?_) q
 unfold dLst at ho
 split at ho
 ·cases ho
  exact ⟨by rw [hd.len]; assumption, fun p hp => k _ _ _ (.laidO hg hp) (ju hg hp hd)⟩
 ·cases ho
end
end L2
namespace L2
open PySem PySem.Spec PyProof.Rows
variable [Tabs]
section
variable {K : W.Frag} {G : Hp}
theorem dts1 {vs : List V} {a : PyData} (h : Dts K G vs [a]) : ∃ x, vs = [x] /\ Dt K G x a := by
 cases h with
 | cons h1 t => cases t; exact ⟨_, rfl, h1⟩
theorem dts2 {vs : List V} {a b : PyData} (h : Dts K G vs [a, b]) : ∃ x y, vs = [x, y] /\ Dt K G x a /\ Dt K G y b := by
 cases h with
 | cons h1 t =>
  obtain ⟨y, rfl, h2⟩ := dts1 t
  exact ⟨_, y, rfl, h1, h2⟩
end
theorem Inv.lstR {X : Cx} {pins : zw} {σ : St} {H : Hp} {s : Shared} {l : Addr} {xs : List V} (I : Inv X pins σ H s) (h : SqR X.K H l xs) :
  xs.length <= sizeLine /\ ∃ (its : List Value) (n : Nat), Vals xs its /\ xs.length = its.length /\ s.heap.get? l = some { cls := .type "list", data := .seq its.toArray n } := by
 rcases h with h | ⟨its, n, h1, h2, h3⟩
 ·obtain ⟨z, its, n, r, e⟩ := h.ok I.hok
  exact ⟨z, its, n, r, r.length, e⟩
 ·exact ⟨by rw [h3.length, Array.length_toList]; exact h2, its.toList, n, h3, h3.length, by simpa using I.kIn _ _ h1⟩
section
variable {X : Cx}
noncomputable def BE (K : W.Frag) : R2 := fun x y H Q => ∃ l b xs zs, x = .ref l /\ y = .ref b /\ SqR K H l xs /\ SqR K H b zs /\ xs.length + zs.length <= sizeLine /\ ∀ p, H p = none -> Q (.ref p) (upd H p (.lst (xs ++ zs)))
theorem so : OpR X (binaryOp .Add) (BE X.K) := by
 intro pins s σ H x y v u Q I rx ry h
 obtain ⟨l, b, xs, zs, rfl, rfl, hH, hB, hz, q⟩ := h
 cases rx
 cases ry
 obtain ⟨z, its, n, r, hl, e⟩ := I.lstR hH
 obtain ⟨z2, its2, n2, r2, hl2, e2⟩ := I.lstR hB
 refine PySem.P.add_list e e2 ?_ (by rw [List.size_toArray, List.size_toArray]; lia)
 rw [show its.toArray ++ its2.toArray = (its ++ its2).toArray by simp]
 exact ⟨.ref _, _, I.lnew (t' := s.toks) (r.append r2) (by rw [List.length_append]; lia), rfl, q _ I.fresh⟩
noncomputable def BF (K : W.Frag) : R2 := fun x y H Q => ∃ a b xs ys, x = .ref a /\ y = .ref b /\ SqT K H a xs /\ SqT K H b ys /\ xs.length + ys.length <= sizeLine /\
 (xs = [] -> Q (.ref b) H) /\ (xs ≠ [] -> ys = [] -> Q (.ref a) H) /\ (xs ≠ [] -> ys ≠ [] -> ∀ p, H p = none -> Q (.ref p) (upd H p (.tup (xs ++ ys))))
theorem sr : OpR X (binaryOp .Add) (BF X.K) := by
 intro pins s σ H x y v u Q I rx ry h
 obtain ⟨a, b, xs, ys, rfl, rfl, ha, hb, hz, q1, q2, q3⟩ := h
 by_cases hx : xs = []
 ·subst hx
  cases rx
  cases ry
  obtain ⟨its, r1, ⟨⟨c1, d1, dt1, sl1⟩, ho1, hc1, n1, hd1⟩, _⟩ := I.tuple ha
  obtain ⟨its2, r2, ⟨⟨c2, d2, dt2, sl2⟩, ho2, hc2, n2, hd2⟩, _⟩ := I.tuple hb
  simp only at hc1 hd1 hc2 hd2
  subst hc1 hd1 hc2 hd2
  have e : its = [] := r1.zero
  subst e
  exact concat_meets ⟨_, ho1, rfl⟩ ⟨_, ho2, rfl⟩ noFill_tuple_add seq_tuple_add PySem.F.slot_tuple_add PySem.F.entry_tuple_add (PySem.F.args_tuple_add_2 _ _) (tuple_addW0 a b #[] its2.toArray n1 n2 d1 d2 sl1 sl2 rfl) ⟨ho1, ho2, ⟨.ref b, H, I, rfl, q1 rfl⟩⟩
 ·exact rQ pins s σ H _ _ v u Q I rx ry ⟨a, b, xs, ys, rfl, rfl, ha, hb, hx, hz, q2 hx, q3 hx⟩
noncomputable def Bv (K : W.Frag) : R2 := fun x y H Q => match x, y with
 | .int i, .int j => Q (.int (i + j)) H
 | .str i, .str j => i.length + j.length <= sizeLine /\ Q (.str (i ++ j)) H
 | x, y => BE K x y H Q \/ BF K x y H Q
theorem su : OpR X (binaryOp .Add) (Bv X.K) := by
 intro pins s σ H x y v u Q I rx ry h
 unfold Bv at h
 split at h
 next i j => exact pH pins s σ H _ _ v u Q I rx ry ⟨i, j, rfl, rfl, h⟩
 next i j => exact mx pins s σ H _ _ v u Q I rx ry ⟨i, j, rfl, rfl, h.1, h.2⟩
 next =>
  rcases h with h | h
  ·exact so pins s σ H _ _ v u Q I rx ry h
  ·exact sr pins s σ H _ _ v u Q I rx ry h
end
noncomputable def dAdd : zt -> Option SD
 | [.int i, .int j] => some (.sh (.int (i + j)))
 | [.str x, .str y] => if x.length + y.length <= sizeLine then some (.sh (.str (x ++ y))) else none
 | [.list xs, .list ys] => if xs.length + ys.length <= sizeLine then some (.ol (xs ++ ys)) else none
 | [.tuple xs, .tuple ys] => if xs.length + ys.length <= sizeLine then some (.sh (.tuple (xs ++ ys))) else none
 | _ => none
theorem Dts.nil_iff {K : W.Frag} {G : Hp} {vs : List V} {ds : zt} (h : Dts K G vs ds) : vs = [] ↔ ds = [] := by
 cases h <;> simp
section
variable {K : W.Frag} {mg : zu}
theorem wN : zT K mg dAdd (l2 (Bv K)) := by
 intro G H vs ds res Q hg hd ho k
 unfold dAdd at ho
 split at ho
 next i j =>
  cases ho
  obtain ⟨x, y, rfl, h1, h2⟩ := dts2 hd
  cases h1
  cases h2
  exact ans k hg (.int _)
 next x y =>
  split at ho
  next hz =>
   cases ho
   obtain ⟨x, y, rfl, h1, h2⟩ := dts2 hd
   cases h1
   cases h2
   exact ⟨hz, ans k hg (.str _)⟩
  next => cases ho
 next xs ys =>
  split at ho
  next hz =>
   cases ho
   obtain ⟨x, y, rfl, h1, h2⟩ := dts2 hd
   cases h1 with
   | lst q1 r1 =>
    cases h2 with
    | lst q2 r2 =>
     refine .inl ⟨_, _, _, _, rfl, rfl, hg.sqr q1, hg.sqr q2, by rw [r1.len, r2.len]; exact hz, fun p hp => ?_⟩
     exact k _ _ _ (.laidO hg hp) (ju hg hp (r1.append r2))
  next => cases ho
 next xs ys =>
  split at ho
  next hz =>
   cases ho
   obtain ⟨x, y, rfl, h1, h2⟩ := dts2 hd
   cases h1 with
   | tup q1 r1 =>
    cases h2 with
    | tup q2 r2 =>
     refine .inr ⟨_, _, _, _, rfl, rfl, hg.tup q1, hg.tup q2, by rw [r1.len, r2.len]; exact hz, fun e => ?_, fun e e2 => ?_, fun e e2 p hp => ?_⟩
     ·have e' := r1.nil_iff.mp e
      subst e'
      exact ans k hg (.tup q2 r2)
     ·have e' := r2.nil_iff.mp e2
      subst e'
      exact ans k hg (by rw [List.append_nil]; exact .tup q1 r1)
     ·exact k _ _ _ (.laid hg hp) (jV hg hp (r1.append r2))
  next => cases ho
 next => cases ho
end
section
variable {X : Cx} {E : XK} {a b e : Expr} {oa ob : Opd} {pos : Pos}
theorem aF (ha : SO X E a oa) (hb : SO X E b ob) : SE X E (.BinOp a .Add b pos) (eOp dAdd [oa, ob]) := ij su wN ha hb
end
noncomputable def dI2 (C : Int -> Int -> Bool) (g : Int -> Int -> PyData) : zt -> Option SD
 | [.int i, .int j] => if C i j = true then some (.sh (g i j)) else none
 | _ => none
theorem wO {K : W.Frag} {mg : zu} {C : Int -> Int -> Bool} {D : Int -> Int -> Prop} {g : Int -> Int -> PyData} {gv : Int -> Int -> V} (hC : ∀ i j, C i j = true -> D i j) (hv : ∀ i j G, Dt K G (gv i j) (g i j)) : zT K mg (dI2 C g) (l2 (rI D gv)) := by
 intro G H vs ds res Q hg hd ho k
 unfold dI2 at ho
 split at ho
 next i j =>
  split at ho
  next hc =>
   cases ho
   obtain ⟨x, y, rfl, h1, h2⟩ := dts2 hd
   cases h1
   cases h2
   exact ⟨i, j, rfl, rfl, hC i j hc, ans k hg (hv i j G)⟩
  next => cases ho
 next => cases ho
noncomputable def dI0 (g : Int -> Int -> PyData) : zt -> Option SD
 | [.int i, .int j] => some (.sh (g i j))
 | _ => none
theorem mE {K : W.Frag} {mg : zu} {g : Int -> Int -> PyData} {gv : Int -> Int -> V} (hv : ∀ i j G, Dt K G (gv i j) (g i j)) : zT K mg (dI0 g) (l2 (rI0 gv)) := by
 intro G H vs ds res Q hg hd ho k
 unfold dI0 at ho
 split at ho
 next i j =>
  cases ho
  obtain ⟨x, y, rfl, h1, h2⟩ := dts2 hd
  cases h1
  cases h2
  exact ⟨i, j, rfl, rfl, ans k hg (hv i j G)⟩
 next => cases ho
def dSub := dI0 fun i j => .int (i - j)
noncomputable def Bd := dI2 (fun i j => decide (0 < j /\ j < 1073741824)) fun i j => .int (i / j)
noncomputable def dMod := dI2 (fun i j => decide (0 < j)) fun i j => .int (i % j)
def dLt := dI0 fun i j => .bool (decide (i < j))
def dLe := dI0 fun i j => .bool (decide (i <= j))
def dGt := dI0 fun i j => .bool (decide (j < i))
def dGe := dI0 fun i j => .bool (decide (j <= i))
noncomputable def dNeg : zt -> Option SD
 | [.int i] => some (.sh (.int (-i)))
 | _ => none
theorem wQ {K : W.Frag} {mg : zu} : zT K mg dNeg (l1 (rU fun i => .int (-i))) := by
 intro G H vs ds res Q hg hd ho k
 unfold dNeg at ho
 split at ho
 next i =>
  cases ho
  obtain ⟨x, rfl, h1⟩ := dts1 hd
  cases h1
  exact ⟨i, rfl, ans k hg (.int _)⟩
 next => cases ho
section
variable {X : Cx} {E : XK} {a b e : Expr} {oa ob : Opd} {pos : Pos}
theorem uL (ha : SO X E a oa) (hb : SO X E b ob) : SE X E (.BinOp a .Sub b pos) (eOp dSub [oa, ob]) := ij uy (mE fun _ _ _ => .int _) ha hb
theorem nH (ha : SO X E a oa) (hb : SO X E b ob) : SE X E (.BinOp a .FloorDiv b pos) (eOp Bd [oa, ob]) := ij rM (wO (fun i j h => (of_decide_eq_true h : 0 < j /\ j < 1073741824)) fun _ _ _ => .int _) ha hb
theorem dq (ha : SO X E a oa) (hb : SO X E b ob) : SE X E (.BinOp a .Mod b pos) (eOp dMod [oa, ob]) := ij uA (wO (fun _ _ h => of_decide_eq_true h) fun _ _ _ => .int _) ha hb
theorem wR (ha : SO X E a oa) (hb : SO X E b ob) : SE X E (.Compare a [.LtE] [b] pos) (eOp dLe [oa, ob]) := ik tN (mE fun _ _ _ => .bl _) ha hb (nomark _)
theorem wU (ha : SO X E a oa) (hb : SO X E b ob) : SE X E (.Compare a [.Gt] [b] pos) (eOp dGt [oa, ob]) := ik tP (mE fun _ _ _ => .bl _) ha hb (nomark _)
theorem wV (ha : SO X E a oa) (hb : SO X E b ob) : SE X E (.Compare a [.GtE] [b] pos) (eOp dGe [oa, ob]) := ik wH (mE fun _ _ _ => .bl _) ha hb (nomark _)
theorem fW (ha : SO X E a oa) : SE X E (.UnaryOp .USub a pos) (eOp dNeg [oa]) := wL uB wQ ha
end
noncomputable def BG (K : W.Frag) : R2 := fun x y H Q => ∃ l k xs, x = .ref l /\ y = .int k /\ SqR K H l xs /\ 0 <= k /\ k < 2 ^ 63 /\ xs.length * k.toNat <= sizeLine /\ ∀ p, H p = none -> Q (.ref p) (upd H p (.lst (List.replicate k.toNat xs).flatten))
section
variable {X : Cx}
theorem sv : OpR X (binaryOp .Mult) (BG X.K) := by
 intro pins s σ H x y v u Q I rx ry h
 obtain ⟨l, k, xs, rfl, rfl, hH, h1, h2, hz, q⟩ := h
 cases rx
 obtain ⟨t, rfl⟩ := ry
 obtain ⟨z, its, n, r, hl, e⟩ := I.lstR hH
 have hlen : its.toArray.size * k.toNat <= sizeLine := by rw [List.size_toArray, <- hl]; exact hz
 have hcap : ¬ its.toArray.size * k.toNat > (2 ^ 63 - 1) / 8 := by
  have : (sizeLine : Nat) <= (2 ^ 63 - 1) / 8 := by decide
  lia
 have hfit : ¬ (!Builtin.List.listFitsIndex k) = true := by
  rw [fitsIndex_both (by lia) h2]
  exact Bool.false_ne_true
 have hlong : ¬ Builtin.List.listTooLong (its.toArray.size * k.toNat) = true := by
  rw [B2 hlen]
  exact Bool.false_ne_true
 have hnew : List.foldl (fun x1 x2 => x1 ++ x2) #[] (List.replicate (if its.toArray.isEmpty = true then 0 else k.toNat) its.toArray) = (List.replicate k.toNat its).flatten.toArray := by
  have f0 : ∀ m : Nat, List.foldl (fun x1 x2 => x1 ++ x2) #[] (List.replicate m its.toArray) = (List.replicate m its).flatten.toArray := fun m => by simpa using jo its m []
  rw [f0]
  cases its with
  | nil => simp
  | cons a r' => rw [if_neg (by simp)]
 refine wpAny_binaryOp_repeat_ref (T := "list") (U := "int") (by decide) ⟨_, e, rfl⟩ (fun s' => typeIs_int s' k t) noFill_list_mul PySem.F.fills_int_mul PySem.F.slot_int_rmul repeat_list PySem.F.slot_int_index.lookup
  (call_meets PySem.F.slot_int_rmul (typeIs_int s k t) PySem.F.entry_int_rmul (PySem.F.args_int_rmul_2 _ _) (int___rmul___int_list k t l its.toArray n)
   ⟨e, rfl, ⟨_, e, rfl⟩, call_meets PySem.F.slot_list_mul ⟨_, e, rfl⟩ PySem.F.entry_list_mul (PySem.F.args_list_mul_2 _ _) (AutoListH.list___mul___list_int_3 l its.toArray n k t hfit hcap hlong) ⟨e, ?_⟩⟩)
 rw [hnew]
 exact ⟨.ref _, _, I.lnew (t' := s.toks) (r.rep k.toNat) (by rw [rV, Nat.mul_comm]; exact hz), rfl, q _ I.fresh⟩
noncomputable def BH : R2 := fun x y H Q => ∃ z k, x = .str z /\ y = .int k /\ ((k = 0 /\ Q (.str Str.empty) H) \/ (k = 1 /\ Q (.str z) H))
theorem sy : OpR X (binaryOp .Mult) BH := by
 intro pins s σ H x y v u Q I rx ry h
 obtain ⟨z, k, rfl, rfl, h⟩ := h
 obtain ⟨t, rfl⟩ := rx
 obtain ⟨t', rfl⟩ := ry
 rcases h with ⟨rfl, q⟩ | ⟨rfl, q⟩
 ·exact PySem.P.mul_str_none (by decide) (by decide) ⟨.str _, H, I.tok _, ⟨_, rfl⟩, q⟩
 ·refine PySem.P.mul_str (by decide) (fun _ h => by simp at h) (fun _ h => by simp at h) ?_
  rw [if_neg (by decide), if_pos (by simp)]
  exact ⟨.str z, H, I, ⟨_, rfl⟩, q⟩
noncomputable def Bw (K : W.Frag) : R2 := fun x y H Q => match x, y with
 | .int i, .int j => CMul i j /\ Q (.int (i * j)) H
 | x, y => BG K x y H Q \/ BH x y H Q
theorem sA : OpR X (binaryOp .Mult) (Bw X.K) := by
 intro pins s σ H x y v u Q I rx ry h
 unfold Bw at h
 split at h
 next i j => exact uz pins s σ H _ _ v u Q I rx ry ⟨i, j, rfl, rfl, h⟩
 next =>
  rcases h with h | h
  ·exact sv pins s σ H _ _ v u Q I rx ry h
  ·exact sy pins s σ H _ _ v u Q I rx ry h
end
noncomputable def cMul (i j : Int) : Bool := decide ((-(2 ^ 64) < i /\ i < 2 ^ 64) \/ (-(2 ^ 64) < j /\ j < 2 ^ 64))
noncomputable def dMul : zt -> Option SD
 | [.int i, .int j] => if cMul i j = true then some (.sh (.int (i * j))) else none
 | [.list xs, .int k] => if 0 <= k /\ k < 2 ^ 63 /\ xs.length * k.toNat <= sizeLine then some (.ol (List.replicate k.toNat xs).flatten) else none
 | [.str z, .int k] => if k = 0 then some (.sh (.str Str.empty)) else if k = 1 then some (.sh (.str z)) else none
 | _ => none
theorem wW {K : W.Frag} {mg : zu} : zT K mg dMul (l2 (Bw K)) := by
 intro G H vs ds res Q hg hd ho k
 unfold dMul at ho
 split at ho
 next i j =>
  split at ho
  next hc =>
   cases ho
   obtain ⟨x, y, rfl, h1, h2⟩ := dts2 hd
   cases h1
   cases h2
   exact ⟨(of_decide_eq_true hc : (-(2 ^ 64) < i /\ i < 2 ^ 64) \/ (-(2 ^ 64) < j /\ j < 2 ^ 64)), ans k hg (.int _)⟩
  next => cases ho
 next xs n =>
  split at ho
  next hc =>
   cases ho
   obtain ⟨x, y, rfl, h1, h2⟩ := dts2 hd
   cases h2
   cases h1 with
   | lst q1 r1 =>
    refine .inl ⟨_, n, _, rfl, rfl, hg.sqr q1, hc.1, hc.2.1, by rw [r1.len]; exact hc.2.2, fun p hp => ?_⟩
    exact k _ _ _ (.laidO hg hp) (ju hg hp (r1.reps _))
  next => cases ho
 next z n =>
  obtain ⟨x, y, rfl, h1, h2⟩ := dts2 hd
  cases h1
  cases h2
  split at ho
  next e => cases ho; exact .inr ⟨z, n, rfl, rfl, .inl ⟨e, ans k hg (.str _)⟩⟩
  next =>
   split at ho
   next e => cases ho; exact .inr ⟨z, n, rfl, rfl, .inr ⟨e, ans k hg (.str _)⟩⟩
   next => cases ho
 next => cases ho
noncomputable def dEqB : PyData -> PyData -> Option Bool
 | .int i, .int j => some (decide (i = j))
 | .bool i, .bool j => some (decide (i = j))
 | .str i, .str j => some (decide (i = j))
 | x, y => if SeqAt.shaped x = true /\ SeqAt.shaped y = true then some (PyData.eqv x y) else none
noncomputable def dEq : zt -> Option SD
 | [x, y] => (dEqB x y).map fun b => .sh (.bool b)
 | _ => none
noncomputable def dNe : zt -> Option SD
 | [x, y] => (dEqB x y).map fun b => .sh (.bool !b)
 | _ => none
theorem nI {K : W.Frag} {neg : Bool} {G H : Hp} {x y : V} {dx dy : PyData} {b : Bool} {Q : VK} (hg : Same G H) (h1 : Dt K G x dx) (h2 : Dt K G y dy) (e : dEqB dx dy = some b) (q : Q (.bl (if neg then !b else b)) H) : rEqM K neg x y H Q := by
 unfold dEqB at e
 split at e
 next i j => cases e; cases h1; cases h2; exact q
 next i j => cases e; cases h1; cases h2; exact q
 next i j => cases e; cases h1; cases h2; exact q
 next n1 n2 n3 =>
  split at e
  next hs =>
   cases e
   have h1' := h1.mono hg
   have h2' := h2.mono hg
   unfold rEqM
   split
   next i j => cases h1; cases h2; exact (n1 _ _ rfl rfl).elim
   next i j => cases h1; cases h2; exact (n2 _ _ rfl rfl).elim
   next i j => cases h1; cases h2; exact (n3 _ _ rfl rfl).elim
   next => exact ⟨dx, dy, h1', h2', hs.1, hs.2, q⟩
  next => cases e
theorem wX {K : W.Frag} {mg : zu} : zT K mg dEq (l2 (rEqM K false)) := by
 intro G H vs ds res Q hg hd ho k
 unfold dEq at ho
 split at ho
 next x y =>
  obtain ⟨b, e, rfl⟩ := Option.map_eq_some_iff.mp ho
  obtain ⟨v, u, rfl, h1, h2⟩ := dts2 hd
  exact nI hg h1 h2 e (ans k hg (.bl _))
 next => cases ho
theorem wY {K : W.Frag} {mg : zu} : zT K mg dNe (l2 (rEqM K true)) := by
 intro G H vs ds res Q hg hd ho k
 unfold dNe at ho
 split at ho
 next x y =>
  obtain ⟨b, e, rfl⟩ := Option.map_eq_some_iff.mp ho
  obtain ⟨v, u, rfl, h1, h2⟩ := dts2 hd
  exact nI hg h1 h2 e (ans k hg (.bl _))
 next => cases ho
noncomputable def Az : PyData -> Option Key
 | .int i => some (.inl i)
 | .str x => some (.inr x)
 | _ => none
theorem iq (k : Key) : Az (keyD k) = some k := by cases k <;> rfl
noncomputable def Bn (es : List (PyData × PyData)) (k : Key) : Option PyData := (es.find? fun p => decide (Az p.1 = some k)).map (·.2)
noncomputable def B7 : PyData -> PyData -> Option PyData
 | .list xs, .int i => atI xs i
 | .tuple xs, .int i => atI xs i
 | .dict es, k => (Az k).bind (Bn es)
 | _, _ => none
noncomputable def dIdx : zt -> Option SD
 | [x, y] => (B7 x y).map .sh
 | _ => none
theorem Dts.atI {K : W.Frag} {G : Hp} {vs : List V} {ds : zt} {i : Int} {d : PyData} (h : Dts K G vs ds) (e : L2.atI ds i = some d) : ∃ v, L2.atI vs i = some v /\ Dt K G v d := by
 unfold L2.atI at e ⊢
 rw [h.len]
 obtain ⟨j, e1, e2⟩ := Option.bind_eq_some_iff.mp e
 obtain ⟨v, h1, h2⟩ := h.get' e2
 exact ⟨v, by rw [e1]; exact h1, h2⟩
theorem Des.find {K : W.Frag} {G : Hp} {k : Key} : ∀ {kvs : List (Key × V)} {es : List (PyData × PyData)} {d : PyData}, Des K G kvs es -> Bn es k = some d -> ∃ v, valV kvs k = some v /\ Dt K G v d
 | _, _, _, .nil, e => by cases e
 | _, _, d, .cons (k := j) (v := v) (d := d') x r, e => by
  unfold Bn at e
  rw [List.find?_cons] at e
  by_cases hk : j = k
  ·subst hk
   simp only [iq, decide_true, if_true, Option.map_some, Option.some.injEq] at e
   subst e
   exact ⟨v, i0 rfl, x⟩
  ·have : ¬ (Az (keyD j) = some k) := by rw [iq]; simpa using hk
   simp only [this, decide_false] at e
   obtain ⟨u, h1, h2⟩ := Des.find r e
   exact ⟨u, by rw [i6 hk]; exact h1, h2⟩
theorem qr {K : W.Frag} {G : Hp} {y : V} {dy : PyData} {k : Key} (h : Dt K G y dy) (e : Az dy = some k) : y = kV k := by
 cases h <;> simp [Az] at e <;> subst e <;> rfl
theorem wZ {K : W.Frag} {mg : zu} : zT K mg dIdx (l2 (rIxA K)) := by
 intro G H vs ds res Q hg hd ho k
 unfold dIdx at ho
 split at ho
 next x y =>
  obtain ⟨d, e, rfl⟩ := Option.map_eq_some_iff.mp ho
  obtain ⟨v, u, rfl, h1, h2⟩ := dts2 hd
  unfold B7 at e
  split at e
  next xs i =>
   cases h2
   cases h1 with
   | lst q1 r1 =>
    obtain ⟨w, e1, e2⟩ := r1.atI e
    exact .inl ⟨_, w, .inl (hg.sqr q1).sq, e1, ans k hg e2⟩
  next xs i =>
   cases h2
   cases h1 with
   | tup q1 r1 =>
    obtain ⟨w, e1, e2⟩ := r1.atI e
    exact .inl ⟨_, w, .inr (hg.tup q1), e1, ans k hg e2⟩
  next es y' =>
   obtain ⟨kk, e1, e2⟩ := Option.bind_eq_some_iff.mp e
   have := qr h2 e1
   subst this
   cases h1 with
   | dct q1 r1 =>
    obtain ⟨w, e3, e4⟩ := r1.find e2
    exact .inr ⟨_, w, rfl, .inl ⟨_, kk, Rd.of (hg _ _ q1), rfl, e3.symm⟩, ans k hg e4⟩
  next => cases e
 next => cases ho
noncomputable def cutD (xs : zt) (lo hi : Option Int) : zt := (xs.drop (HT.sIx xs.length 0 lo)).take (HT.sIx xs.length xs.length hi - HT.sIx xs.length 0 lo)
theorem Dts.cut {K : W.Frag} {G : Hp} {vs : List V} {ds : zt} (h : Dts K G vs ds) (lo hi : Option Int) : Dts K G (cutV vs lo hi) (cutD ds lo hi) := by
 unfold cutV cutD
 rw [h.len]
 exact (h.drop _).take _
section
variable {X : Cx} {E : XK} {a b e : Expr} {es : List Expr} {oa ob : Opd} {ops : List Opd} {pos : Pos}
theorem eS (ha : SO X E a oa) (hb : SO X E b ob) : SE X E (.BinOp a .Mult b pos) (eOp dMul [oa, ob]) := ij sA wW ha hb
theorem qt (hu : X.A.units + 64 < cLine) (ha : SO X E a oa) (hb : SO X E b ob) : SE X E (.Compare a [.Eq] [b] pos) (eOp dEq [oa, ob]) := ik (qi hu) wX ha hb (nomark _)
theorem x9 (hu : X.A.units + 64 < cLine) (ha : SO X E a oa) (hb : SO X E b ob) : SE X E (.Compare a [.NotEq] [b] pos) (eOp dNe [oa, ob]) := ik (qj hu) wY ha hb (nomark _)
theorem ar (hu : X.A.units + 64 < cLine) (ha : SO X E a oa) (hb : SO X E b ob) (hp : B8 b := by intro _ _; rfl) : SE X E (.Subscript a b pos) (eOp dIdx [oa, ob]) := wM (yX (by lia)) wZ ha hb hp
end
section
variable {X : Cx}
noncomputable def rSlS (K : W.Frag) : V -> Option Int -> Option Int -> Hp -> VK -> Prop := fun x lo hi H Q => ∃ a xs, x = .ref a /\ SqT K H a xs /\ (cutV xs lo hi = xs -> Q (.ref a) H) /\ ∀ p, H p = none -> Q (.ref p) (upd H p (.tup (cutV xs lo hi)))
theorem sC : SlR X (rSlS X.K) := by
 intro pins s σ H x v vl vu lo hi sl Q I rx hs pl pu h
 obtain ⟨a, xs, rfl, hx, q1, q2⟩ := h
 by_cases hw : HT.sIx xs.length 0 lo = 0 /\ HT.sIx xs.length xs.length hi = xs.length
 ·cases rx
  obtain ⟨its, r, ht, hz⟩ := I.tuple hx
  have hlen : its.toArray.size = xs.length := by rw [List.size_toArray]; exact r.length.symm
  refine ⟨"tuple", _, slot_tuple_getitem.lookup, ht.typeIs, ?_⟩
  refine HT.fw ht hs pl pu (by rw [hlen]; exact hw) ⟨.ref a, H, I, rfl, q1 ?_⟩
  unfold cutV
  rw [hw.1, hw.2]
  simp
 ·exact pY pins s σ H _ v vl vu lo hi sl Q I rx hs pl pu ⟨a, xs, rfl, hx, hw, q2⟩
noncomputable def rSlD (K : W.Frag) : V -> Option Int -> Option Int -> Hp -> VK -> Prop := fun x lo hi H Q => rSlL K x lo hi H Q \/ rSlS K x lo hi H Q
theorem yY : SlR X (rSlD X.K) := rT.or sC
end
noncomputable def slD (x : PyData) (lo hi : Option Int) : Option SD := match x with
 | .list xs => some (.ol (cutD xs lo hi))
 | .tuple xs => some (.sh (.tuple (cutD xs lo hi)))
 | _ => none
theorem yZ {K : W.Frag} {mg : zu} {G H : Hp} {x : V} {d : PyData} {lo hi : Option Int} {res : SD} {Q : VK} (hg : Same G H) (hd : Dt K G x d) (ho : slD d lo hi = some res)
  (k : ∀ v H' G', Grow G H G' H' -> VN K mg H G' H' v res -> Q v H') : rSlD K x lo hi H Q := by
 unfold slD at ho
 split at ho
 next xs =>
  cases ho
  cases hd with
  | lst q r => exact .inl ⟨_, _, rfl, (hg.sqr q).sq, fun p hp => k _ _ _ (.laidO hg hp) (ju hg hp (r.cut lo hi))⟩
 next xs =>
  cases ho
  cases hd with
  | tup q r =>
   refine .inr ⟨_, _, rfl, hg.tup q, fun e => ?_, fun p hp => k _ _ _ (.laid hg hp) (jV hg hp (r.cut lo hi))⟩
   have r' := r.cut lo hi
   rw [e] at r'
   exact ans k hg (.tup q r')
 next => cases ho
noncomputable def dSlL : zt -> Option SD
 | [x, .int l] => slD x (some l) none
 | _ => none
section
variable {X : Cx} {E : XK} {e l h : Expr} {oe ol oh : Opd} {pos p2 : Pos}
theorem uM (he : SO X E e oe) (hl : SO X E l ol) : SE X E (.Subscript e (.Slice (some l) none none p2) pos) (eOp dSlL [oe, ol]) :=
 (kR yY he (nC hl) nB).weak fun σ H Q q => by
  refine fy (r := fun vs H1 Q => match vs with | [x, y] => ∃ i, y = .int i /\ rSlD X.K x (some i) none H1 Q | _ => False) (fun G H vs ds res Q hg hd ho k => ?_) q
  unfold dSlL at ho
  split at ho
  next x l =>
   obtain ⟨v, u, rfl, h1, h2⟩ := dts2 hd
   cases h2
   exact ⟨l, rfl, yZ hg h1 ho k⟩
  next => cases ho
end
section
variable {X : Cx} {E : XK} {e k : Expr} {oe ok : Opd} {pos p2 : Pos}
end
noncomputable def dLen : zt -> Option SD
 | [.list xs] => some (.sh (.int xs.length))
 | [.tuple xs] => some (.sh (.int xs.length))
 | [.dict es] => some (.sh (.int es.length))
 | _ => none
theorem Des.len {K : W.Frag} {G : Hp} : ∀ {kvs : List (Key × V)} {es : List (PyData × PyData)}, Des K G kvs es -> kvs.length = es.length
 | _, _, .nil => rfl
 | _, _, .cons _ r => by rw [List.length_cons, List.length_cons, Des.len r]
noncomputable def BI (K : W.Frag) : List V -> Hp -> VK -> Prop := fun xs H Q => ∃ a n, xs = [.ref a] /\ ((∃ ys, SqL K H a ys /\ n = ys.length) \/ (∃ ys, SqT K H a ys /\ n = ys.length) \/ ∃ kvs, Rd H a (.dK kvs) /\ n = kvs.length) /\ Q (.int (n : Int)) H
theorem oE {X : Cx} : Ah X (.builtin "len") (BI X.K) := by
 intro pins s σ H xs us Q I r h
 obtain ⟨a, n, rfl, h, q⟩ := h
 rcases h with ⟨ys, h, rfl⟩ | ⟨ys, h, rfl⟩ | ⟨kvs, h, rfl⟩
 ·exact cR pins s σ H _ us Q I r ⟨a, ys, rfl, .inl h, q⟩
 ·exact cR pins s σ H _ us Q I r ⟨a, ys, rfl, .inr h, q⟩
 ·obtain ⟨u, rfl, ru⟩ := vals1 r
  cases ru
  exact wJ I h fun t s' I' => ⟨.int kvs.length, H, I', ⟨t, rfl⟩, q⟩
theorem xc {K : W.Frag} {mg : zu} : zT K mg dLen (BI K) := by
 intro G H vs ds res Q hg hd ho k
 unfold dLen at ho
 split at ho
 next xs =>
  cases ho
  obtain ⟨x, rfl, h1⟩ := dts1 hd
  cases h1 with
  | lst q r => exact ⟨_, _, rfl, .inl ⟨_, (hg.sqr q).sq, rfl⟩, by rw [r.len]; exact ans k hg (.int _)⟩
 next xs =>
  cases ho
  obtain ⟨x, rfl, h1⟩ := dts1 hd
  cases h1 with
  | tup q r => exact ⟨_, _, rfl, .inr (.inl ⟨_, hg.tup q, rfl⟩), by rw [r.len]; exact ans k hg (.int _)⟩
 next xs =>
  cases ho
  obtain ⟨x, rfl, h1⟩ := dts1 hd
  cases h1 with
  | dct q r => exact ⟨_, _, rfl, .inr (.inr ⟨_, Rd.of (hg _ _ q), rfl⟩), by rw [r.len]; exact ans k hg (.int _)⟩
 next => cases ho
noncomputable def dAbs : zt -> Option SD
 | [.int i] => some (.sh (.int (if i < 0 then -i else i)))
 | _ => none
theorem xf {K : W.Frag} {mg : zu} : zT K mg dAbs (fun xs H Q => ∃ i, xs = [.int i] /\ Q (.int (if i < 0 then -i else i)) H) := by
 intro G H vs ds res Q hg hd ho k
 unfold dAbs at ho
 split at ho
 next i =>
  cases ho
  obtain ⟨x, rfl, h1⟩ := dts1 hd
  cases h1
  exact ⟨i, rfl, ans k hg (.int _)⟩
 next => cases ho
noncomputable def AH : zt -> Option SD
 | [.int i] => some (.sh (.int i))
 | [.bool b] => some (.sh (.int (if b then 1 else 0)))
 | _ => none
theorem uN {K : W.Frag} {mg : zu} : zT K mg AH (fun xs H Q => (∃ i, xs = [.int i] /\ Q (.int i) H) \/ ∃ k, xs = [.bl k] /\ Q (.int (if k then 1 else 0)) H) := by
 intro G H vs ds res Q hg hd ho k
 unfold AH at ho
 split at ho
 next i =>
  cases ho
  obtain ⟨x, rfl, h1⟩ := dts1 hd
  cases h1
  exact .inl ⟨i, rfl, ans k hg (.int _)⟩
 next i =>
  cases ho
  obtain ⟨x, rfl, h1⟩ := dts1 hd
  cases h1
  exact .inr ⟨i, rfl, ans k hg (.int _)⟩
 next => cases ho
noncomputable def AK : zt -> Option SD
 | [.list xs] => some (.sh (.tuple xs))
 | [.tuple xs] => some (.sh (.tuple xs))
 | _ => none
theorem sD {K : W.Frag} {mg : zu} : zT K mg AK (fun xs H Q => ∃ p ys, xs = [.ref p] /\ ((SqL K H p ys /\ ∀ l, H l = none -> Q (.ref l) (upd H l (.tup ys))) \/ (SqT K H p ys /\ Q (.ref p) H))) := by
 intro G H vs ds res Q hg hd ho k
 unfold AK at ho
 split at ho
 next xs =>
  cases ho
  obtain ⟨x, rfl, h1⟩ := dts1 hd
  cases h1 with
  | lst q r => exact ⟨_, _, rfl, .inl ⟨(hg.sqr q).sq, fun p hp => k _ _ _ (.laid hg hp) (jV hg hp r)⟩⟩
 next xs =>
  cases ho
  obtain ⟨x, rfl, h1⟩ := dts1 hd
  cases h1 with
  | tup q r => exact ⟨_, _, rfl, .inr ⟨hg.tup q, ans k hg (.tup q r)⟩⟩
 next => cases ho
noncomputable def zW : zt -> Option (List Int)
 | [] => some []
 | .int i :: r => (zW r).map (i :: ·)
 | _ :: _ => none
theorem fz {K : W.Frag} {G : Hp} : ∀ {vs : List V} {ds : zt} {ns : List Int}, Dts K G vs ds -> zW ds = some ns -> vs = ns.map V.int
 | _, _, _, .nil, e => by cases e; rfl
 | _, _, _, .cons (d := d) h r, e => by
  cases d with
  | int i =>
   simp only [zW, Option.map_eq_some_iff] at e
   obtain ⟨ns, e1, rfl⟩ := e
   cases h
   rw [fz r e1, List.map_cons]
  | _ => cases e
noncomputable def insI (x : Int) : List Int -> List Int
 | [] => [x]
 | y :: r => if x <= y then x :: y :: r else y :: insI x r
noncomputable def A9 : List Int -> List Int
 | [] => []
 | x :: r => insI x (A9 r)
theorem fX (x : Int) : ∀ l, (insI x l).Perm (x :: l)
 | [] => .refl _
 | y :: r => by
  unfold insI
  split
  ·exact .refl _
  ·exact ((fX x r).cons y).trans (.swap x y r)
theorem bG : ∀ l, (A9 l).Perm l
 | [] => .refl _
 | x :: r => (fX x _).trans ((bG r).cons x)
theorem jv (x : Int) : ∀ l, l.Pairwise (· <= ·) -> (insI x l).Pairwise (· <= ·)
 | [], _ => by simp [insI]
 | y :: r, h => by
  obtain ⟨h1, h2⟩ := List.pairwise_cons.mp h
  unfold insI
  split
  next hxy => exact List.pairwise_cons.mpr ⟨fun z hz => by
    rcases List.mem_cons.mp hz with e | e
    ·rw [e]; exact hxy
    ·exact Int.le_trans hxy (h1 z e), h⟩
  next hxy => exact List.pairwise_cons.mpr ⟨fun z hz => by
    rcases List.mem_cons.mp ((fX x r).mem_iff.mp hz) with e | e
    ·rw [e]; lia
    ·exact h1 z e, jv x r h2⟩
theorem iu : ∀ l, (A9 l).Pairwise (· <= ·)
 | [] => .nil
 | x :: r => jv x _ (iu r)
theorem qu {r l : List Int} (hp : r.Perm l) (hr : r.Pairwise (· <= ·)) : r = A9 l :=
 (hp.trans (bG l).symm).eq_of_pairwise (le := (· <= ·)) (fun a b _ _ h1 h2 => Int.le_antisymm h1 h2) hr (iu l)
noncomputable def dIsi (T : String) : zt -> Option SD
 | [.dict _] => none
 | [d] => some (.sh (.bool (isiD T d)))
 | _ => none
section
variable {X : Cx} {E : XK} {a e : Expr} {oa : Opd} {ops : List Opd} {pos p q : Pos}
theorem cn (hm : X.mg "len" = none) (ha : SO X E a oa) (hg : Gl X "len" := by rfl) (hst : starEach [a] X.env = [(false, eval a X.env)] := by rfl) : SE X E (.Call (.Name "len" p) [a] [] pos) (eOp dLen [oa]) :=
 ip oE xc hm PySem.boot_len (aa ha af hst) hg (by decide) (by decide) hst rfl
theorem jW (hm : X.mg "abs" = none) (hb : bootBuiltins "abs" = some (.builtin "abs")) (ha : SO X E a oa) (hg : Gl X "abs" := by rfl) (hst : starEach [a] X.env = [(false, eval a X.env)] := by rfl) : SE X E (.Call (.Name "abs" p) [a] [] pos) (eOp dAbs [oa]) :=
 ip pP xf hm hb (aa ha af hst) hg (by decide) (by decide) hst rfl
theorem qv (hm : X.mg "tuple" = none) (hb : bootBuiltins "tuple" = some (.type "tuple")) (ha : SO X E a oa) (hg : Gl X "tuple" := by rfl) (hst : starEach [a] X.env = [(false, eval a X.env)] := by rfl) : SE X E (.Call (.Name "tuple" p) [a] [] pos) (eOp AK [oa]) :=
 kW jd sD hm hb (aa ha af hst) hg (by decide) (by decide) hst rfl
theorem jX (hm : X.mg "int" = none) (hb : bootBuiltins "int" = some (.type "int")) (ha : SO X E a oa) (hg : Gl X "int" := by rfl) (hst : starEach [a] X.env = [(false, eval a X.env)] := by rfl) : SE X E (.Call (.Name "int" p) [a] [] pos) (eOp AH [oa]) :=
 kW ox uN hm hb (aa ha af hst) hg (by decide) (by decide) hst rfl
theorem cT {x : Str} (T : String) (hm : X.mg "isinstance" = none) (hm2 : X.mg x = none) (hv : bootBuiltins x = some (.type T)) (hT : kitT T = true) (hb : bootBuiltins "isinstance" = some (.builtin "isinstance")) (ha : SO X E a oa) (hg : Gl X "isinstance" := by rfl) (hg2 : Gl X x := by rfl)
  (hst : starEach [a, .Name x q] X.env = [(false, eval a X.env), (false, eval (.Name x q) X.env)] := by rfl) (hst2 : starEach [.Name x q] X.env = [(false, eval (.Name x q) X.env)] := by rfl) (hn : x ≠ "__name__" := by decide) (hd : (x == ("__debug__" : Str)) = false := by decide) :
  SE X E (.Call (.Name "isinstance" p) [a, .Name x q] [] pos) (eOp (dIsi T) [oa]) := by
 refine (fu oD hg hm hb (b8 ha (b8 (wK hm2 hv hg2 hn hd) cQ hst2) (by rw [hst, hst2])) (by decide) (by decide) (by rw [hst, hst2]) (by rw [hst2]; rfl)).weak fun σ H Q h => ?_
 refine fy (r := fun vs H1 Q => ∃ x d T', vs ++ [V.ty T] = [x, .ty T'] /\ kitT T' = true /\ Dt X.K H1 x d /\ (∀ kvs, d ≠ .dict kvs) /\ Q (.bl (isiD T' d)) H1) (fun G H vs ds res Q hgg hdd ho k => ?_) h
 unfold dIsi at ho
 split at ho
 next => cases ho
 next d hne =>
  cases ho
  obtain ⟨v, rfl, h1⟩ := dts1 hdd
  exact ⟨v, d, T, rfl, hT, h1.mono hgg, fun kvs z => hne kvs z, ans k hgg (.bl _)⟩
 next => cases ho
end
noncomputable def Af : PyData -> Option Bool
 | .none => some false
 | .bool b => some b
 | .int i => some (i != 0)
 | .str y => if y.length <= sizeLine then some ((y.length : Int) != 0) else none
 | .list xs => some (!xs.isEmpty)
 | .tuple xs => some (!xs.isEmpty)
 | .dict es => some (!es.isEmpty)
noncomputable def tstO (o : Opd) : DT := fun δ => (opds [o] δ).bind fun p => match p.1 with
 | [d] => (match Af d with
  | some b => .ok (b, p.2.1)
  | none => .bad)
 | _ => .bad
noncomputable def tstV (f : DE) : DT := fun δ => (f δ).bind fun p => match p.1 with
 | .sh (.bool b) => .ok (b, p.2)
 | _ => .bad
noncomputable def A4 (f : DT) : DT := fun δ => (f δ).bind fun p => .ok (!p.1, p.2)
noncomputable def AL (f g : DT) : DT := fun δ => (f δ).bind fun p => if p.1 = true then g p.2 else .ok (false, p.2)
noncomputable def Ao (f g : DT) : DT := fun δ => (f δ).bind fun p => if p.1 = true then .ok (true, p.2) else g p.2
abbrev SW (X : Cx) (E : XK) (e : Expr) (f : DT) : Prop := PW X e (tT X.K X.mg E f)
section
variable {K : W.Frag} {mg : zu} {E : XK} {G0 H0 G H : Hp} {σ : St} {δ : DEnv}
theorem oF {x : V} {d : PyData} {b : Bool} (hg : Same G H) (h : Dt K G x d) (e : Af d = some b) : TruV K x H b := by
 cases h with
 | non => cases e; rfl
 | bl k => cases e; rfl
 | int i => cases e; rfl
 | str y =>
  have e' : (if y.length <= sizeLine then some ((y.length : Int) != 0) else none) = some b := e
  split at e'
  next hy => cases e'; exact ⟨hy, rfl⟩
  next => cases e'
 | lst q r =>
  cases e
  refine .inl ⟨_, (hg.sqr q).sq, ?_⟩
  cases r <;> rfl
 | tup q r =>
  cases e
  refine .inr (.inl ⟨_, hg.tup q, ?_⟩)
  cases r <;> rfl
 | dct q r =>
  cases e
  refine .inr (.inr ⟨_, hg _ _ q, ?_⟩)
  cases r <;> rfl
theorem z0 {f : DE} {Q : Bool -> Hp -> Prop} (h : tT K mg E (tstV f) σ H Q) : tE K mg E f σ H fun x H' => ∃ k, x = .bl k /\ Q k H' := by
 obtain ⟨G0, H0, G, δ, R, m⟩ := h
 refine ⟨G0, H0, G, δ, R, ?_⟩
 unfold tstV at m
 cases e : f δ with
 | ok p =>
  rw [e, Out.bind_ok] at m
  intro v H' G' R' s rr
  split at m
  next b q =>
   rw [q] at rr
   have := rr.1
   cases this
   exact ⟨b, rfl, m H' G' R' s⟩
  next => exact m.elim
 | exc x => rw [e] at m; exact m
 | bad => rw [e] at m; exact m
end
section
variable {X : Cx} {E : XK} {a b c e : Expr} {oa ob : Opd} {f g h : DE} {tf tg : DT} {pos : Pos} {rest : List Expr}
theorem fA (ha : SO X E a oa) (he : ∀ whole, isTrue a X.env whole = (do let v <- whole; standAt a.pos; holding [v] (truthy v)) := by intro _; rfl) : ST X E a (tstO oa) :=
 (pO ha he).weak fun σ H Q ⟨G0, H0, G, δ, R, m⟩ => by
  have key : tOs X.K X.mg E [oa] σ H fun vs H1 => ∃ x k, vs = [x] /\ TruV X.K x H1 k /\ Q k H1 := by
   refine dn [oa] R ?_
   unfold tstO opds at m
   cases e1 : evO [oa] δ with
   | ok p =>
    rw [e1, Out.bind_ok] at m
    intro vs H1 G1 R1 s1 ov
    cases e2 : A5 (zK (zL p.1) p.2) p.1 with
    | none => rw [e2] at m; exact m.elim
    | some ds =>
     rw [e2, Out.bind_ok] at m
     obtain ⟨G2, l, R2, L⟩ := R1.relA (zL p.1)
     have hd := (ov.mono L.ext).view R2 e2
     dsimp only at m
     split at m
     next d =>
      obtain ⟨x, rfl, h1⟩ := dts1 hd
      cases e3 : Af d with
      | none => rw [e3] at m; exact m.elim
      | some k =>
       rw [e3] at m
       exact ⟨x, k, rfl, oF R2.g.gh h1 e3, m H1 G1 R1 s1⟩
     next => exact m.elim
   | exc x => rw [e1] at m; exact m
   | bad => rw [e1] at m; exact m
  have mono : ∀ {t : Opd} {P P' : V -> Hp -> Prop}, (∀ v H, P v H -> P' v H) -> tO X.K X.mg E t σ H P -> tO X.K X.mg E t σ H P' := fun {t P P'} hp q => by
   cases t with
   | nm i => obtain ⟨v, h1, h2⟩ := q; exact ⟨v, h1, hp _ _ h2⟩
   | ex f =>
    obtain ⟨G0, H0, G, δ, R, m⟩ := q
    refine ⟨G0, H0, G, δ, R, ?_⟩
    cases e : f δ with
    | ok p => rw [e] at m; exact fun v H' G' R' s rr => hp _ _ (m v H' G' R' s rr)
    | exc x => rw [e] at m; exact m
    | bad => rw [e] at m; exact m
  exact mono (fun v H1 ⟨x, k, ex, h1, h2⟩ => by cases ex; exact ⟨k, h1, h2⟩) key
theorem oG (h : SW X E e tf) : ST X E e tf := PW.pt h
theorem iv {op : CmpOp} {r : R2} {o : zt -> Option SD} (ho : OpR X (compareOp op) r) (hs : zT X.K X.mg o (l2 r)) (ha : SO X E a oa) (hb : SO X E b ob) (hm : behindInMarks op b = false) : ST X E (.Compare a [op] [b] pos) (tstV (eOp o [oa, ob])) :=
 (nv ho ha hb hm).weak fun _ _ _ h => fy hs (z0 h)
theorem xg (ha : SO X E a oa) (hb : SO X E b ob) : ST X E (.Compare a [.Lt] [b] pos) (tstV (eOp dLt [oa, ob])) := iv wG (mE fun _ _ _ => .bl _) ha hb (nomark _)
theorem xh (ha : SO X E a oa) (hb : SO X E b ob) : ST X E (.Compare a [.LtE] [b] pos) (tstV (eOp dLe [oa, ob])) := iv tN (mE fun _ _ _ => .bl _) ha hb (nomark _)
theorem kX (ha : SO X E a oa) (hb : SO X E b ob) : ST X E (.Compare a [.Gt] [b] pos) (tstV (eOp dGt [oa, ob])) := iv tP (mE fun _ _ _ => .bl _) ha hb (nomark _)
theorem fB (hu : X.A.units + 64 < cLine) (ha : SO X E a oa) (hb : SO X E b ob) : ST X E (.Compare a [.Eq] [b] pos) (tstV (eOp dEq [oa, ob])) := iv (qi hu) wX ha hb (nomark _)
theorem iw (hu : X.A.units + 64 < cLine) (ha : SO X E a oa) (hb : SO X E b ob) : ST X E (.Compare a [.NotEq] [b] pos) (tstV (eOp dNe [oa, ob])) := iv (qj hu) wY ha hb (nomark _)
theorem w_not {K : W.Frag} {mg : zu} {σ : St} {H : Hp} {Q : Bool -> Hp -> Prop} (q : tT K mg E (A4 tf) σ H Q) : tNot (tT K mg E tf) σ H Q := by
 obtain ⟨G0, H0, G, δ, R, m⟩ := q
 refine ⟨G0, H0, G, δ, R, ?_⟩
 unfold A4 at m
 cases e : tf δ with
 | ok p => rw [e, Out.bind_ok] at m; exact fun H' G' R' s => m H' G' R' s
 | exc x => rw [e] at m; exact m
 | bad => rw [e] at m; exact m
theorem cq (ha : ST X E a tf) : ST X E (.UnaryOp .Not a pos) (A4 tf) := (uj ha).weak fun _ _ _ q => w_not q
theorem xj {K : W.Frag} {mg : zu} {σ : St} {H : Hp} {Q : Bool -> Hp -> Prop} (q : tT K mg E (AL tf tg) σ H Q) : tAnd (tT K mg E tf) (tT K mg E tg) σ H Q := by
 obtain ⟨G0, H0, G, δ, R, m⟩ := q
 refine ⟨G0, H0, G, δ, R, ?_⟩
 unfold AL at m
 cases e : tf δ with
 | ok p =>
  rw [e, Out.bind_ok] at m
  intro H' G' R' s
  split
  next hb =>
   rw [if_pos hb] at m
   refine ⟨G0, H0, G', p.2, R', ?_⟩
   cases e2 : tg p.2 with
   | ok q => rw [e2] at m; exact fun H2 G2 R2 s2 => m H2 G2 R2 (s.trans s2)
   | exc x => rw [e2] at m; exact m
   | bad => rw [e2] at m; exact m
  next hb => rw [if_neg hb] at m; exact m H' G' R' s
 | exc x => rw [e] at m; exact m
 | bad => rw [e] at m; exact m
theorem z9 {K : W.Frag} {mg : zu} {σ : St} {H : Hp} {Q : Bool -> Hp -> Prop} (q : tT K mg E (Ao tf tg) σ H Q) : tOr (tT K mg E tf) (tT K mg E tg) σ H Q := by
 obtain ⟨G0, H0, G, δ, R, m⟩ := q
 refine ⟨G0, H0, G, δ, R, ?_⟩
 unfold Ao at m
 cases e : tf δ with
 | ok p =>
  rw [e, Out.bind_ok] at m
  intro H' G' R' s
  split
  next hb => rw [if_pos hb] at m; exact m H' G' R' s
  next hb =>
   rw [if_neg hb] at m
   refine ⟨G0, H0, G', p.2, R', ?_⟩
   cases e2 : tg p.2 with
   | ok q => rw [e2] at m; exact fun H2 G2 R2 s2 => m H2 G2 R2 (s.trans s2)
   | exc x => rw [e2] at m; exact m
   | bad => rw [e2] at m; exact m
 | exc x => rw [e] at m; exact m
 | bad => rw [e] at m; exact m
theorem nJ (ha : ST X E a tf) : SW X E (.BoolOp .And [a] pos) tf := rJ ha
theorem jY (ha : ST X E a tf) : SW X E (.BoolOp .Or [a] pos) tf := uh ha
theorem qw (ha : ST X E a tf) (hb : SW X E (.BoolOp .And (b :: rest) pos) tg) : SW X E (.BoolOp .And (a :: b :: rest) pos) (AL tf tg) := (ui ha hb).weak fun _ _ _ q => xj q
theorem gx (ha : ST X E a tf) (hb : SW X E (.BoolOp .Or (b :: rest) pos) tg) : SW X E (.BoolOp .Or (a :: b :: rest) pos) (Ao tf tg) := (wC ha hb).weak fun _ _ _ q => z9 q
end
noncomputable def eNot (f : DE) : DE := fun δ => (f δ).bind fun p => match p.1 with
 | .sh (.bool b) => .ok (.sh (.bool !b), p.2)
 | _ => .bad
noncomputable def eAnd (f g : DE) : DE := fun δ => (f δ).bind fun p => match p.1 with
 | .sh (.bool b) => if b = true then g p.2 else .ok (.sh (.bool false), p.2)
 | _ => .bad
noncomputable def eOr (f g : DE) : DE := fun δ => (f δ).bind fun p => match p.1 with
 | .sh (.bool b) => if b = true then .ok (.sh (.bool true), p.2) else g p.2
 | _ => .bad
section
variable {K : W.Frag} {mg : zu} {E : XK} {G0 H0 G G1 H : Hp} {σ : St} {δ : DEnv}
theorem PoE.mono {Q : VK} {x : Out (SD × DEnv)} (s : Same G G1) (h : PoE K mg E G0 H0 G σ Q x) : PoE K mg E G0 H0 G1 σ Q x := by
 cases x with
 | ok p => exact fun v H' G' R' s' rr => h v H' G' R' (s.trans s') rr
 | exc x => exact h
 | bad => exact h
end
section
variable {X : Cx} {E : XK} {a b c e : Expr} {f g : DE} {tf : DT} {pos : Pos} {rest : List Expr}
theorem fY (ha : SE X E a f) : SE X E (.UnaryOp .Not a pos) (eNot f) := (uo ha).weak fun σ H Q ⟨G0, H0, G, δ, R, m⟩ => by
 refine ⟨G0, H0, G, δ, R, ?_⟩
 unfold eNot at m
 cases e : f δ with
 | ok p =>
  rw [e, Out.bind_ok] at m
  intro v H' G' R' s rr
  split at m
  next b q =>
   rw [q] at rr
   have := rr.1
   cases this
   exact ⟨b, rfl, m _ H' G' R' s (RR.sh (.bl _))⟩
  next => exact m.elim
 | exc x => rw [e] at m; exact m
 | bad => rw [e] at m; exact m
theorem fZ {op : BoolOp} (ha : SE X E a f) : SE X E (.BoolOp op [a] pos) f := uk ha
theorem iy (ha : SE X E a f) (hb : SE X E (.BoolOp .And (b :: rest) pos) g) : SE X E (.BoolOp .And (a :: b :: rest) pos) (eAnd f g) := (um ha hb).weak fun σ H Q ⟨G0, H0, G, δ, R, m⟩ => by
 refine ⟨G0, H0, G, δ, R, ?_⟩
 unfold eAnd at m
 cases e : f δ with
 | ok p =>
  rw [e, Out.bind_ok] at m
  intro v H' G' R' s rr
  split at m
  next b q =>
   rw [q] at rr
   have := rr.1
   cases this
   refine ⟨b, rfl, ?_⟩
   split
   next hb => rw [if_pos hb] at m; exact ⟨G0, H0, G', p.2, R', m.mono s⟩
   next hb => rw [if_neg hb] at m; exact m _ H' G' R' s (RR.sh (.bl _))
  next => exact m.elim
 | exc x => rw [e] at m; exact m
 | bad => rw [e] at m; exact m
theorem tU (ha : SE X E a f) (hb : SE X E (.BoolOp .Or (b :: rest) pos) g) : SE X E (.BoolOp .Or (a :: b :: rest) pos) (eOr f g) := (wD ha hb).weak fun σ H Q ⟨G0, H0, G, δ, R, m⟩ => by
 refine ⟨G0, H0, G, δ, R, ?_⟩
 unfold eOr at m
 cases e : f δ with
 | ok p =>
  rw [e, Out.bind_ok] at m
  intro v H' G' R' s rr
  split at m
  next b q =>
   rw [q] at rr
   have := rr.1
   cases this
   refine ⟨b, rfl, ?_⟩
   split
   next hb => rw [if_pos hb] at m; exact m _ H' G' R' s (RR.sh (.bl _))
   next hb => rw [if_neg hb] at m; exact ⟨G0, H0, G', p.2, R', m.mono s⟩
  next => exact m.elim
 | exc x => rw [e] at m; exact m
 | bad => rw [e] at m; exact m
end
inductive SOut where
 | nx (δ : DEnv)
 | rt (r : SD)
 | bk (δ : DEnv)
 | ct (δ : DEnv)
 | exc (x : Str)
 | bad
abbrev DS := DEnv -> SOut
noncomputable def PoS (K : W.Frag) (mg : zu) (E : XK) (G0 H0 G : Hp) (D : Ends) : SOut -> Prop
 | .nx δ' => ∀ σ' H' G', Rel K mg G0 H0 G' H' σ' δ' -> Same G G' -> D.nx σ' H'
 | .bk δ' => ∀ σ' H' G', Rel K mg G0 H0 G' H' σ' δ' -> Same G G' -> D.bk σ' H'
 | .ct δ' => ∀ σ' H' G', Rel K mg G0 H0 G' H' σ' δ' -> Same G G' -> D.ct σ' H'
 | .rt r => ∀ v H' G', Grow G0 H0 G' H' -> VN K mg H0 G' H' v r -> D.rt v H'
 | .exc x => PoX mg E H0 x
 | .bad => False
noncomputable def tS (K : W.Frag) (mg : zu) (E : XK) (f : DS) : TS := fun D σ H => ∃ G0 H0 G δ, Rel K mg G0 H0 G H σ δ /\ PoS K mg E G0 H0 G D (f δ)
abbrev S1 (X : Cx) (E : XK) (st : Stmt) (f : DS) : Prop := PS X st (tS X.K X.mg E f)
abbrev SS (X : Cx) (E : XK) (st : List Stmt) (f : DS) : Prop := PSs X st (tS X.K X.mg E f)
theorem PoS.mono {K : W.Frag} {mg : zu} {E : XK} {G0 H0 G G1 : Hp} {D : Ends} {x : SOut} (s : Same G G1) (h : PoS K mg E G0 H0 G D x) : PoS K mg E G0 H0 G1 D x := by
 cases x with
 | nx δ => exact fun σ' H' G' R' s' => h σ' H' G' R' (s.trans s')
 | bk δ => exact fun σ' H' G' R' s' => h σ' H' G' R' (s.trans s')
 | ct δ => exact fun σ' H' G' R' s' => h σ' H' G' R' (s.trans s')
 | rt r => exact h
 | exc x => exact h
 | bad => exact h
def zV : DS := fun δ => .nx δ
noncomputable def sSeq (f g : DS) : DS := fun δ => match f δ with
 | .nx δ' => g δ'
 | r => r
noncomputable def sAsg (i : Nat) (f : DE) : DS := fun δ => match f δ with
 | .ok p => if i < p.2.length then .nx (p.2.set i (some p.1)) else .bad
 | .exc x => .exc x
 | .bad => .bad
noncomputable def Be (f : DE) : DS := fun δ => match f δ with
 | .ok p => .nx p.2
 | .exc x => .exc x
 | .bad => .bad
noncomputable def sRet (f : DE) : DS := fun δ => match f δ with
 | .ok p => .rt p.1
 | .exc x => .exc x
 | .bad => .bad
noncomputable def sIf (t : DT) (f g : DS) : DS := fun δ => match t δ with
 | .ok p => if p.1 = true then f p.2 else g p.2
 | .exc x => .exc x
 | .bad => .bad
section
variable {X : Cx} {E : XK} {st : Stmt} {rest body body2 : List Stmt} {f g : DS} {e c : Expr} {fe : DE} {tf : DT} {pos pos' : Pos} {x : Str} {i : Nat}
theorem aZ : SS X E [] zV := gM.weak fun D σ H ⟨G0, H0, G, δ, R, m⟩ => m σ H G R (.refl _)
theorem ai (h1 : S1 X E st f) (h2 : SS X E rest g) : SS X E (st :: rest) (sSeq f g) := (cC h1 h2).weak fun D σ H ⟨G0, H0, G, δ, R, m⟩ => by
 refine ⟨G0, H0, G, δ, R, ?_⟩
 unfold sSeq at m
 cases e : f δ with
 | nx δ' => rw [e] at m; exact fun σ' H' G' R' s => ⟨G0, H0, G', δ', R', m.mono s⟩
 | bk δ => rw [e] at m; exact m
 | ct δ => rw [e] at m; exact m
 | rt r => rw [e] at m; exact m
 | exc x => rw [e] at m; exact m
 | bad => rw [e] at m; exact m
theorem ak (h1 : S1 X E st f) : SS X E [st] f := rK h1
theorem xk {K : W.Frag} {mg : zu} {D : Ends} {σ : St} {H : Hp} (q : tS K mg E (sAsg i fe) D σ H) : tAsg (tE K mg E fe) (Ad i) D σ H := by
 obtain ⟨G0, H0, G, δ, R, m⟩ := q
 refine ⟨G0, H0, G, δ, R, ?_⟩
 unfold sAsg at m
 cases e : fe δ with
 | ok p =>
  rw [e] at m
  dsimp only at m
  intro v H' G' R' s rr
  split at m
  next hi => exact m _ H' G' (R'.store (by rw [<- R'.len]; exact hi) rr.less) s
  next => exact m.elim
 | exc x => rw [e] at m; exact m
 | bad => rw [e] at m; exact m
theorem aO (i : Nat) (hN : X.N.Nodup) (he : SE X E e fe) (hi : X.N[i]? = some x := by rfl) (hx : Loc X.env.scope x := by first | exact Or.inl rfl | exact Or.inr rfl) (hs : swapsWith e (some (.Name x pos')) pos.line X.env = pure false := by rfl)
  (hf : X.fn x = true \/ X.env.scope.names.lookup x = some .local := by first | exact .inl rfl | exact .inr rfl | assumption) : S1 X E (.Assign [.Name x pos'] e pos) (sAsg i fe) := (ur hN hi hx he hs hf).weak fun _ _ _ q => xk q
theorem sE (he : SE X E e fe) (hs : swapsWith e none pos.line X.env = pure false := by rfl) : S1 X E (.Expr e pos) (Be fe) := (gN he hs).weak fun D σ H ⟨G0, H0, G, δ, R, m⟩ => by
 refine ⟨G0, H0, G, δ, R, ?_⟩
 unfold Be at m
 cases e : fe δ with
 | ok p => rw [e] at m; exact fun v H' G' R' s rr => m σ H' G' R' s
 | exc x => rw [e] at m; exact m
 | bad => rw [e] at m; exact m
theorem aE (he : SE X E e fe) : S1 X E (.Return (some e) pos) (sRet fe) := (mn he).weak fun D σ H ⟨G0, H0, G, δ, R, m⟩ => by
 refine ⟨G0, H0, G, δ, R, ?_⟩
 unfold sRet at m
 cases e : fe δ with
 | ok p => rw [e] at m; exact fun v H' G' R' s rr => m v H' G' R'.g rr.new
 | exc x => rw [e] at m; exact m
 | bad => rw [e] at m; exact m
theorem bw (hc : ST X E c tf) (ha : SS X E body f) (hb : SS X E body2 g) : S1 X E (.If c body body2 pos) (sIf tf f g) := (tL hc ha hb).weak fun D σ H ⟨G0, H0, G, δ, R, m⟩ => by
 refine ⟨G0, H0, G, δ, R, ?_⟩
 unfold sIf at m
 cases e : tf δ with
 | ok p =>
  rw [e] at m
  dsimp only at m
  intro H' G' R' s
  split
  next hb => rw [if_pos hb] at m; exact ⟨G0, H0, G', p.2, R', m.mono s⟩
  next hb => rw [if_neg hb] at m; exact ⟨G0, H0, G', p.2, R', m.mono s⟩
 | exc x => rw [e] at m; exact m
 | bad => rw [e] at m; exact m
end
noncomputable def AM (K : W.Frag) (J : It) (G : Hp) (ds : zt) : Prop := ∀ (i : Nat) (G1 H1 : Hp), Same G G1 -> Same G1 H1 ->
 (∀ d, ds[i]? = some d -> J.go i H1 /\ ∀ x H2, J.yld i H1 x H2 -> ∃ G2, Grow G1 H1 G2 H2 /\ Dt K G2 x d) /\ (ds.length <= i -> J.stop i H1)
noncomputable def PoI (K : W.Frag) (mg : zu) (E : XK) (G0 H0 G : Hp) (σ : St) (Q : It -> Hp -> Prop) : Out (zt × DEnv) -> Prop
 | .ok p => ∀ J H' G', Rel K mg G0 H0 G' H' σ p.2 -> Same G G' -> AM K J G' p.1 -> Q J H'
 | .exc x => PoX mg E H0 x
 | .bad => False
noncomputable def tI (K : W.Frag) (mg : zu) (E : XK) (f : DA) : TI := fun σ H Q => ∃ G0 H0 G δ, Rel K mg G0 H0 G H σ δ /\ PoI K mg E G0 H0 G σ Q (f δ)
abbrev SI (X : Cx) (E : XK) (tg iter : Expr) (f : DA) : Prop := PI X tg iter (tI X.K X.mg E f)
noncomputable def AU (f : DE) : DA := fun δ => (vE f δ).bind fun p => match p.1 with
 | .list xs => .ok (xs, p.2)
 | .tuple xs => .ok (xs, p.2)
 | _ => .bad
noncomputable def rngI (lo : Int) (n : Nat) : zt := (List.range n).map fun (k : Nat) => .int (lo + (k : Int))
noncomputable def rngB (i : Int) : Bool := decide (-(2 ^ 62) <= i /\ i < 2 ^ 62)
noncomputable def itR1 (ops : List Opd) : DA := fun δ => (opds ops δ).bind fun p => match p.1 with
 | [.int j] => if rngB j = true then .ok (rngI 0 j.toNat, p.2.1) else .bad
 | _ => .bad
noncomputable def Ae : Nat -> zt -> zt
 | _, [] => []
 | k, d :: r => .tuple [.int (k : Int), d] :: Ae (k + 1) r
theorem jw : ∀ (ds : zt) (k i : Nat), (Ae k ds)[i]? = (ds[i]?).map fun d => .tuple [.int ((k + i : Nat) : Int), d]
 | [], _, _ => by simp [Ae]
 | d :: r, k, 0 => by simp [Ae]
 | d :: r, k, i + 1 => by
  simp only [Ae, List.getElem?_cons_succ]
  rw [jw r (k + 1) i, show k + 1 + i = k + (i + 1) by lia]
theorem jx : ∀ (ds : zt) (k : Nat), (Ae k ds).length = ds.length
 | [], _ => rfl
 | d :: r, k => by rw [Ae, List.length_cons, List.length_cons, jx r]
section
variable {K : W.Frag} {G : Hp} {a : Addr} {xs : List V} {ds : zt}
theorem iz (q : SqR K G a xs) (r : Dts K G xs ds) : AM K (Itl K a) G ds := fun i G1 H1 s1 s2 => by
 have q' : SqL K H1 a xs := ((s1.trans s2).sqr q).sq
 refine ⟨fun d e => ?_, fun h => ⟨xs, q', by rw [r.len]; exact h⟩⟩
 obtain ⟨v, e1, e2⟩ := r.get' e
 refine ⟨⟨xs, v, q', e1⟩, fun x H2 ⟨eH, hx⟩ => ?_⟩
 subst eH
 have := hx xs q'
 rw [e1] at this
 cases this
 exact ⟨G1, .refl s2, e2.mono s1⟩
theorem jy (q : TuT G a xs) (r : Dts K G xs ds) : AM K (Itt K a) G ds := fun i G1 H1 s1 s2 => by
 have q' : SqT K H1 a xs := (s1.trans s2).tup q
 refine ⟨fun d e => ?_, fun h => ⟨xs, q', by rw [r.len]; exact h⟩⟩
 obtain ⟨v, e1, e2⟩ := r.get' e
 refine ⟨⟨xs, v, q', e1⟩, fun x H2 ⟨eH, hx⟩ => ?_⟩
 subst eH
 have := hx xs q'
 rw [e1] at this
 cases this
 exact ⟨G1, .refl s2, e2.mono s1⟩
theorem fE (lo : Int) (n : Nat) : (rngI lo n).length = n := by simp [rngI]
theorem kY (lo : Int) (n : Nat) : AM K (Itr lo n) G (rngI lo n) := fun i G1 H1 s1 s2 => by
 refine ⟨fun d e => ?_, fun h => by rw [fE] at h; exact h⟩
 have hi : i < n := by
  have := (List.getElem?_eq_some_iff.mp e).1
  rwa [fE] at this
 refine ⟨hi, fun x H2 ⟨eH, hx⟩ => ?_⟩
 subst eH hx
 unfold rngI at e
 rw [List.getElem?_map, List.getElem?_range hi] at e
 cases e
 exact ⟨G1, .refl s2, .int _⟩
end
section
variable {X : Cx} {E : XK} {tg l a b : Expr} {f : DE} {oa ob : Opd} {ops : List Opd} {p pos : Pos}
theorem mF (hl : SE X E l f) : SI X E tg l (AU f) := (mD hl).weak fun σ H Q ⟨G0, H0, G, δ, R, m⟩ => by
 refine qo R ?_
 unfold AU at m
 cases e : vE f δ with
 | ok p =>
  rw [e, Out.bind_ok] at m
  intro v H' G' R' s hd
  split at m
  next xs q =>
   rw [q] at hd
   cases hd with
   | lst q r => exact ⟨_, rfl, .inl ⟨⟨_, (R'.g.gh.sqr q).sq⟩, m _ H' G' R' s (iz q r)⟩⟩
  next xs q =>
   rw [q] at hd
   cases hd with
   | tup q r => exact ⟨_, rfl, .inr ⟨⟨_, R'.g.gh.tup q⟩, m _ H' G' R' s (jy q r)⟩⟩
  next => exact m.elim
 | exc x => rw [e] at m; exact m
 | bad => rw [e] at m; exact m
theorem qx {P : List V -> Hp -> Prop} {K : W.Frag} {mg : zu} {G0 H0 G H : Hp} {σ : St} {δ : DEnv} (R : Rel K mg G0 H0 G H σ δ)
  (h : match opds ops δ with
   | .ok p => ∀ vs H' G' G1, Rel K mg G0 H0 G' H' σ p.2.1 -> Same G G' -> Same G1 H' -> Dts K G1 vs p.1 -> P vs H'
   | .exc x => PoX mg E H0 x
   | .bad => False) : tOs K mg E ops σ H P := by
 refine dn ops R ?_
 unfold opds at h
 cases e1 : evO ops δ with
 | ok p =>
  rw [e1, Out.bind_ok] at h
  intro vs H1 G1 R1 s1 ov
  cases e2 : A5 (zK (zL p.1) p.2) p.1 with
  | none => rw [e2] at h; exact h.elim
  | some ds =>
   rw [e2] at h
   obtain ⟨G2, l, R2, L⟩ := R1.relA (zL p.1)
   exact h vs H1 G1 G2 R1 s1 R2.g.gh ((ov.mono L.ext).view R2 e2)
 | exc x => rw [e1] at h; exact h
 | bad => rw [e1] at h; exact h
theorem jz (hm : X.mg "range" = none) (ha : SO X E a oa) (hg : Gl X "range" := by rfl) (hs : starEach [a] X.env = [(false, eval a X.env)] := by rfl) : SI X E tg (.Call (.Name "range" p) [a] [] pos) (itR1 [oa]) :=
 (ou hg hm (aa ha af hs) hs).weak fun σ H Q ⟨G0, H0, G, δ, R, m⟩ => by
  refine qx R ?_
  unfold itR1 at m
  cases e : opds [oa] δ with
  | ok q =>
   rw [e, Out.bind_ok] at m
   intro vs H' G' G1 R' s s1 hd
   split at m
   next j ej =>
    rw [ej] at hd
    obtain ⟨v, rfl, h1⟩ := dts1 hd
    cases h1
    split at m
    next hj =>
     have hj := of_decide_eq_true hj
     exact ⟨j, rfl, hj.1, hj.2, m _ H' G' R' s (kY 0 j.toNat)⟩
    next => exact m.elim
   next => exact m.elim
  | exc x => rw [e] at m; exact m
  | bad => rw [e] at m; exact m
end
abbrev DG := PyData -> DEnv -> Option DEnv
noncomputable def TgS (K : W.Frag) (mg : zu) (g : TG) (k : DG) : Prop := ∀ (G0 H0 G H : Hp) (σ : St) (δ δ' : DEnv) (v : V) (d : PyData) (Q : St -> Hp -> Prop),
 Rel K mg G0 H0 G H σ δ -> Dt K G v d -> k d δ = some δ' -> (∀ σ', Rel K mg G0 H0 G H σ' δ' -> Q σ' H) -> g v σ H Q
noncomputable def kN (i : Nat) : DG := fun d δ => if i < δ.length then some (δ.set i (some (.sh d))) else none
noncomputable def kNs : List Nat -> zt -> DEnv -> Option DEnv
 | [], [], δ => some δ
 | i :: is, d :: ds, δ => (kN i d δ).bind (kNs is ds)
 | _, _, _ => none
noncomputable def kTup (is : List Nat) : DG := fun d δ => match d with
 | .tuple ds => kNs is ds δ
 | _ => none
noncomputable def B9 : List Nat -> TGs
 | [] => gNil
 | i :: is => BB (Ad i) (B9 is)
section
variable {K : W.Frag} {mg : zu}
theorem dW (i : Nat) : TgS K mg (Ad i) (kN i) := fun G0 H0 G H σ δ δ' v d Q R hd e k => by
 unfold kN at e
 split at e
 next hi =>
  cases e
  exact k _ (R.store (by rw [<- R.len]; exact hi) (RR.sh hd))
 next => cases e
theorem kZ : ∀ (is : List Nat) {G0 H0 G H : Hp} {σ : St} {δ δ' : DEnv} {vs : List V} {ds : zt} {Q : St -> Hp -> Prop},
  Rel K mg G0 H0 G H σ δ -> Dts K G vs ds -> kNs is ds δ = some δ' -> (∀ σ', Rel K mg G0 H0 G H σ' δ' -> Q σ' H) -> B9 is vs σ H Q
 | [], G0, H0, G, H, σ, δ, δ', vs, ds, Q, R, hd, e, k => by
  cases hd with
  | nil => cases e; exact ⟨rfl, k σ R⟩
  | cons _ _ => cases e
 | i :: is, G0, H0, G, H, σ, δ, δ', vs, ds, Q, R, hd, e, k => by
  cases hd with
  | nil => cases e
  | cons h1 t =>
   obtain ⟨δ1, e1, e2⟩ := Option.bind_eq_some_iff.mp e
   exact ⟨_, _, rfl, dW i G0 H0 G H σ δ δ1 _ _ _ R h1 e1 fun σ1 R1 => kZ is R1 t e2 k⟩
theorem uO (is : List Nat) : TgS K mg (gTup K is.length (B9 is)) (kTup is) := fun G0 H0 G H σ δ δ' v d Q R hd e k => by
 unfold kTup at e
 split at e
 next ds =>
  cases hd with
  | tup q r =>
   have hl : ∀ (is : List Nat) (ds : zt) (δ δ' : DEnv), kNs is ds δ = some δ' -> ds.length = is.length := fun is => by
    induction is with
    | nil => intro ds δ δ' e; cases ds with | nil => rfl | cons _ _ => cases e
    | cons i is ih =>
     intro ds δ δ' e
     cases ds with
     | nil => cases e
     | cons d ds =>
      obtain ⟨δ1, _, e2⟩ := Option.bind_eq_some_iff.mp e
      rw [List.length_cons, List.length_cons, ih ds δ1 δ' e2]
   exact ⟨_, _, rfl, R.g.gh.tup q, by rw [r.len]; exact hl is ds δ δ' e, kZ is R r e k⟩
 next => cases e
end
section
variable {X : Cx} {x y : Str} {px py pt : Pos} {kt : Nat}
theorem qy (i : Nat) (hN : X.N.Nodup) (hi : X.N[i]? = some x := by rfl) (hx : Loc X.env.scope x := by first | exact Or.inl rfl | exact Or.inr rfl) (hf : X.fn x = true \/ X.env.scope.names.lookup x = some .local := by first | exact .inl rfl | exact .inr rfl | assumption) : PG X (.Name x px) (Ad i) := fq hN hi hx hf
theorem za (i j : Nat) (hc : X.calm = true) (hN : X.N.Nodup) (hi : X.N[i]? = some x := by rfl) (hj : X.N[j]? = some y := by rfl) (hx : Loc X.env.scope x := by first | exact Or.inl rfl | exact Or.inr rfl) (hy : Loc X.env.scope y := by first | exact Or.inl rfl | exact Or.inr rfl)
  (hf : X.fn x = true \/ X.env.scope.names.lookup x = some .local := by first | exact .inl rfl | exact .inr rfl | assumption) (hf2 : X.fn y = true \/ X.env.scope.names.lookup y = some .local := by first | exact .inl rfl | exact .inr rfl | assumption) :
  PG X (.Tuple [.Name x px, .Name y py] kt pt) (gTup X.K [i, j].length (B9 [i, j])) := uq hc (kP (fq hN hi hx hf) (kP (fq hN hj hy hf2) rL))
end
noncomputable def forL (k : DG) (fb : DS) : zt -> DEnv -> SOut
 | [], δ => .nx δ
 | d :: ds, δ => match k d δ with
  | none => .bad
  | some δ1 => match fb δ1 with
   | .nx δ2 => forL k fb ds δ2
   | .ct δ2 => forL k fb ds δ2
   | .bk δ2 => .nx δ2
   | .rt r => .rt r
   | .exc x => .exc x
   | .bad => .bad
noncomputable def sFor (fi : DA) (k : DG) (fb : DS) : DS := fun δ => match fi δ with
 | .ok p => forL k fb p.1 p.2
 | .exc x => .exc x
 | .bad => .bad
theorem xl {K : W.Frag} {mg : zu} {E : XK} {fi : DA} {k : DG} {g : TG} {fb : DS} {D : Ends} {σ : St} {H : Hp} (hk : TgS K mg g k) (q : tS K mg E (sFor fi k fb) D σ H) : tFor (tI K mg E fi) g (tS K mg E fb) D σ H := by
 obtain ⟨G0, H0, G, δ, R, m⟩ := q
 refine ⟨G0, H0, G, δ, R, ?_⟩
 unfold sFor at m
 cases e : fi δ with
 | exc x => rw [e] at m; exact m
 | bad => rw [e] at m; exact m
 | ok p =>
  rw [e] at m
  dsimp only at m
  intro J H1 G1 R1 s1 W
  refine ⟨fun i mm σ2 H2 => ∃ G2 δ2, Rel K mg G0 H0 G2 H2 σ2 δ2 /\ Same G1 G2 /\ i + mm = p.1.length /\ PoS K mg E G0 H0 G2 D (forL k fb (p.1.drop i) δ2), ⟨p.1.length, G1, p.2, R1, .refl _, Nat.zero_add _, m.mono s1⟩, ?_⟩
  rintro i mm σ2 H2 ⟨G2, δ2, R2, s2, him, m2⟩
  obtain ⟨w1, w2⟩ := W i G2 H2 s2 R2.g.gh
  cases hd : p.1[i]? with
  | none =>
   have hi : p.1.length <= i := List.getElem?_eq_none_iff.mp hd
   refine .inl ⟨w2 hi, ?_⟩
   rw [List.drop_eq_nil_of_le hi] at m2
   exact m2 σ2 H2 G2 R2 (.refl _)
  | some d =>
   have hi : i < p.1.length := (List.getElem?_eq_some_iff.mp hd).1
   obtain ⟨go, yl⟩ := w1 d hd
   have ed : p.1.drop i = d :: p.1.drop (i + 1) := by
    rw [List.drop_eq_getElem_cons hi]
    congr 1
    exact Option.some.inj ((List.getElem?_eq_getElem hi).symm.trans hd)
   rw [ed] at m2
   unfold forL at m2
   refine .inr ⟨go, fun σ3 H3 => ∃ G3 δ3, Rel K mg G0 H0 G3 H3 σ3 δ3 /\ Same G1 G3 /\ PoS K mg E G0 H0 G3 D (forL k fb (p.1.drop (i + 1)) δ3), fun σ3 H3 ⟨G3, δ3, R3, s3, m3⟩ => ⟨mm - 1, by lia, G3, δ3, R3, s3, by lia, m3⟩, fun x H3 hy => ?_⟩
   obtain ⟨G3, g3, dx⟩ := yl x H3 hy
   have R3 := R2.grow g3
   cases ek : k d δ2 with
   | none => rw [ek] at m2; exact m2.elim
   | some δ3 =>
    rw [ek] at m2
    dsimp only at m2
    refine hk G0 H0 G3 H3 σ2 δ2 δ3 x d _ R3 dx ek fun σ4 R4 => ⟨G0, H0, G3, δ3, R4, ?_⟩
    have s23 := g3.gg
    cases eb : fb δ3 with
    | nx δ4 => rw [eb] at m2; exact fun σ' H' G' R' s => ⟨G', δ4, R', (s2.trans s23).trans s, m2.mono (s23.trans s)⟩
    | ct δ4 => rw [eb] at m2; exact fun σ' H' G' R' s => ⟨G', δ4, R', (s2.trans s23).trans s, m2.mono (s23.trans s)⟩
    | bk δ4 => rw [eb] at m2; exact fun σ' H' G' R' s => m2 σ' H' G' R' (s23.trans s)
    | rt r => rw [eb] at m2; exact m2
    | exc x => rw [eb] at m2; exact m2
    | bad => rw [eb] at m2; exact m2
section
variable {X : Cx} {E : XK} {tg iter e c : Expr} {body : List Stmt} {fi : DA} {k : DG} {g : TG} {fb : DS} {fe : DE} {pos : Pos}
theorem g6 (hp : PassesOwn (model X.prog X.w) X.A X.env X.xe) (hc : X.calm = true) (hi : SI X E tg iter fi) (hg : PG X tg g) (hk : TgS X.K X.mg g k) (hb : SS X E body fb) (hs : ∀ x, foldedSetIterable iter X.env x = pure x := by intro _; rfl) : S1 X E (.For tg iter body [] pos) (sFor fi k fb) :=
 (ux hp hc hi hg hb hs).weak fun _ _ _ q => xl hk q
end
section
variable {X : Cx} {E : XK} {tg e : Expr} {k : DG} {g : TG} {fe : DE} {pos : Pos}
end
noncomputable def whN (c : DT) (fb : DS) : Nat -> DEnv -> SOut
 | 0, _ => .bad
 | n + 1, δ => match c δ with
  | .ok p => if p.1 = true then (match fb p.2 with
    | .nx δ2 => whN c fb n δ2
    | .ct δ2 => whN c fb n δ2
    | .bk δ2 => .nx δ2
    | .rt r => .rt r
    | .exc x => .exc x
    | .bad => .bad) else .nx p.2
  | .exc x => .exc x
  | .bad => .bad
open Classical in
noncomputable def AE (c : DT) (fb : DS) : DS := fun δ => if h : ∃ n, whN c fb n δ ≠ .bad then whN c fb (Classical.choose h) δ else .bad
theorem fF {c : DT} {fb : DS} : ∀ (n m : Nat) (δ : DEnv), whN c fb n δ ≠ .bad -> n <= m -> whN c fb m δ = whN c fb n δ
 | 0, _, _, h, _ => absurd rfl h
 | n + 1, 0, _, _, h => by lia
 | n + 1, m + 1, δ, h, hm => by
  unfold whN at h ⊢
  cases e : c δ with
  | exc x => rfl
  | bad => rfl
  | ok p =>
   rw [e] at h
   dsimp only at h ⊢
   split
   next hb =>
    rw [if_pos hb] at h
    cases e2 : fb p.2 with
    | nx δ2 => rw [e2] at h; exact fF n m δ2 h (by lia)
    | ct δ2 => rw [e2] at h; exact fF n m δ2 h (by lia)
    | bk δ2 => rfl
    | rt r => rfl
    | exc x => rfl
    | bad => rfl
   next => rfl
theorem g7 {c : DT} {fb : DS} {n : Nat} {δ : DEnv} {r : SOut} (h : whN c fb n δ = r) (hr : r ≠ .bad) : AE c fb δ = r := by
 have hx : ∃ n, whN c fb n δ ≠ .bad := ⟨n, by rw [h]; exact hr⟩
 unfold AE
 rw [dif_pos hx]
 have h1 := Classical.choose_spec hx
 rcases Nat.le_total n (Classical.choose hx) with z | z
 ·rw [fF n _ δ (by rw [h]; exact hr) z, h]
 ·rw [<- h, fF _ n δ h1 z]
theorem sF {K : W.Frag} {mg : zu} {E : XK} {c : DT} {fb : DS} {D : Ends} {σ : St} {H : Hp} (q : tS K mg E (AE c fb) D σ H) : Bu (tT K mg E c) (tS K mg E fb) D σ H := by
 obtain ⟨G0, H0, G, δ, R, m⟩ := q
 unfold AE at m
 split at m
 next hx =>
  refine ⟨fun n σ2 H2 => ∃ G2 δ2, Rel K mg G0 H0 G2 H2 σ2 δ2 /\ PoS K mg E G0 H0 G2 D (whN c fb n δ2), ⟨_, G, δ, R, m⟩, ?_⟩
  rintro n σ2 H2 ⟨G2, δ2, R2, m2⟩
  cases n with
  | zero => exact m2.elim
  | succ n =>
   refine ⟨G0, H0, G2, δ2, R2, ?_⟩
   unfold whN at m2
   cases e : c δ2 with
   | exc x => rw [e] at m2; exact m2
   | bad => rw [e] at m2; exact m2
   | ok p =>
    rw [e] at m2
    dsimp only at m2
    intro H3 G3 R3 s3
    split
    next hb =>
     rw [if_pos hb] at m2
     refine ⟨fun σ4 H4 => ∃ G4 δ4, Rel K mg G0 H0 G4 H4 σ4 δ4 /\ PoS K mg E G0 H0 G4 D (whN c fb n δ4), fun σ4 H4 h => ⟨n, Nat.lt_succ_self _, h⟩, G0, H0, G3, p.2, R3, ?_⟩
     cases eb : fb p.2 with
     | nx δ4 => rw [eb] at m2; exact fun σ' H' G' R' s => ⟨G', δ4, R', m2.mono (s3.trans s)⟩
     | ct δ4 => rw [eb] at m2; exact fun σ' H' G' R' s => ⟨G', δ4, R', m2.mono (s3.trans s)⟩
     | bk δ4 => rw [eb] at m2; exact fun σ' H' G' R' s => m2 σ' H' G' R' (s3.trans s)
     | rt r => rw [eb] at m2; exact m2
     | exc x => rw [eb] at m2; exact m2
     | bad => rw [eb] at m2; exact m2
    next hb => rw [if_neg hb] at m2; exact m2 σ2 H3 G3 R3 s3
 next => exact m.elim
theorem lg {X : Cx} {E : XK} {c : Expr} {body : List Stmt} {tc : DT} {fb : DS} {pos : Pos} (hp : PassesOwn (model X.prog X.w) X.A X.env X.xe) (hc : ST X E c tc) (hb : SS X E body fb) : S1 X E (.While c body [] pos) (AE tc fb) := (pE hp hc hb).weak fun _ _ _ q => sF q
noncomputable def isOl (δ : DEnv) (i : Nat) : Option zt := match δ[i]? with
 | some (some (.ol ds)) => some ds
 | _ => none
theorem cU {δ : DEnv} {i : Nat} {ds : zt} (h : isOl δ i = some ds) : δ[i]? = some (some (.ol ds)) := by
 unfold isOl at h
 split at h
 next q => cases h; exact q
 next => cases h
noncomputable def sMut (up : zt -> zt -> Option zt) (i : Nat) (o : Opd) : DS := fun δ => match isOl δ i with
 | none => .bad
 | some _ => match opds [o] δ with
  | .ok p => (match isOl p.2.2 i with
   | none => .bad
   | some ds => match up ds p.1 with
    | some ds' => .nx (p.2.2.set i (some (.ol ds')))
    | none => .bad)
  | .exc x => .exc x
  | .bad => .bad
noncomputable def AI (ds : zt) : zt -> Option zt
 | [d] => if ds.length < sizeLine then some (ds ++ [d]) else none
 | _ => none
section
variable {K : W.Frag} {mg : zu} {E : XK} {G0 H0 G H : Hp} {σ : St} {δ : DEnv}
theorem lh {ops : List Opd} {P : List V -> Hp -> Prop} (R : Rel K mg G0 H0 G H σ δ)
  (h : match opds ops δ with
   | .ok p => ∀ vs H' G', Rel K mg G0 H0 G' H' σ p.2.2 -> Same G G' -> Dts K G' vs p.1 -> P vs H'
   | .exc x => PoX mg E H0 x
   | .bad => False) : tOs K mg E ops σ H P := by
 refine dn ops R ?_
 unfold opds at h
 cases e1 : evO ops δ with
 | ok p =>
  rw [e1, Out.bind_ok] at h
  intro vs H1 G1 R1 s1 ov
  cases e2 : A5 (zK (zL p.1) p.2) p.1 with
  | none => rw [e2] at h; exact h.elim
  | some ds =>
   rw [e2] at h
   obtain ⟨G2, l, R2, L⟩ := R1.relA (zL p.1)
   exact h vs H1 G2 R2 (s1.trans L.ext) ((ov.mono L.ext).view R2 e2)
 | exc x => rw [e1] at h; exact h
 | bad => rw [e1] at h; exact h
theorem nK {t : Opd} {P P' : V -> Hp -> Prop} (hp : ∀ v H, P v H -> P' v H) (q : tO K mg E t σ H P) : tO K mg E t σ H P' := by
 cases t with
 | nm i => obtain ⟨v, h1, h2⟩ := q; exact ⟨v, h1, hp _ _ h2⟩
 | ex f =>
  obtain ⟨G0, H0, G, δ, R, m⟩ := q
  refine ⟨G0, H0, G, δ, R, ?_⟩
  cases e : f δ with
  | ok p => rw [e] at m; exact fun v H' G' R' s rr => hp _ _ (m v H' G' R' s rr)
  | exc x => rw [e] at m; exact m
  | bad => rw [e] at m; exact m
end
noncomputable def MutS (K : W.Frag) (up : zt -> zt -> Option zt) (r : V -> List V -> Hp -> VK -> Prop) : Prop :=
 ∀ (G H : Hp) (a : Addr) (xs : List V) (ds ds' : zt) (vs : List V) (es : zt) (Q : VK), Same G H -> H a = some (.lst xs) -> Dts K G xs ds -> Dts K G vs es -> up ds es = some ds' -> (∀ v xs', Dts K G xs' ds' -> Q v (upd H a (.lst xs'))) -> r (.ref a) vs H Q
theorem xm {K : W.Frag} : MutS K AI B0 := fun G H a xs ds ds' vs es Q hg ha hx hv e k => by
 unfold AI at e
 split at e
 next d =>
  split at e
  next hl =>
   cases e
   obtain ⟨y, rfl, hy⟩ := dts1 hv
   exact ⟨a, xs, y, rfl, rfl, ha, by rw [hx.len]; exact hl, k _ _ (hx.append (.cons hy .nil))⟩
  next => cases e
 next => cases e
theorem tV {K : W.Frag} {mg : zu} {E : XK} {up : zt -> zt -> Option zt} {r : V -> List V -> Hp -> VK -> Prop} {i : Nat} {o : Opd} {D : Ends} {σ : St} {H : Hp} (hm : MutS K up r) (q : tS K mg E (sMut up i o) D σ H) :
  Bh (tBM K "list" r (tVar i) (tOs K mg E [o])) D σ H := by
 obtain ⟨G0, H0, G, δ, R, m⟩ := q
 unfold sMut at m
 cases e0 : isOl δ i with
 | none => rw [e0] at m; exact m.elim
 | some ds0 =>
  rw [e0] at m
  dsimp only at m
  obtain ⟨v, h1, ⟨a, xs, rfl, q1, q2, q3⟩, _⟩ := R.at_ (cU e0)
  refine ⟨.ref a, h1, .inl ⟨rfl, xs, .inl (.inl q2)⟩, ?_⟩
  refine lh R ?_
  cases e1 : opds [o] δ with
  | ok p =>
   rw [e1] at m
   dsimp only at m
   intro vs H1 G1 R1 s1 hd
   cases e2 : isOl p.2.2 i with
   | none => rw [e2] at m; exact m.elim
   | some ds =>
    rw [e2] at m
    dsimp only at m
    obtain ⟨u, g1, ⟨b, ys, rfl, y1, y2, y3⟩, _⟩ := R1.at_ (cU e2)
    rw [h1] at g1
    cases g1
    cases e3 : up ds p.1 with
    | none => rw [e3] at m; exact m.elim
    | some ds' =>
     rw [e3] at m
     refine hm G1 H1 a ys ds ds' vs p.1 _ R1.g.gh y2 y3 hd e3 fun v xs' hx => ?_
     exact m σ _ G1 (R1.write (cU e2) trivial h1 ⟨a, xs', rfl, y1, aq, hx⟩ (by rw [y2]; trivial) (fun C z => by rw [y2] at z; cases z)) s1
  | exc x => rw [e1] at m; exact m
  | bad => rw [e1] at m; exact m
section
variable {X : Cx} {E : XK} {e k v : Expr} {o ov ok : Opd} {x : Str} {px apos cpos pos tpos : Pos}
theorem iA (i : Nat) (he : SO X E e o) (hN : X.N[i]? = some x := by rfl) (hv : Vis X.env.scope x := by first | exact Or.inl rfl | exact Or.inr (Or.inl rfl) | exact Or.inr (Or.inr rfl)) (hd : (x == ("__debug__" : Str)) = false := by decide) (hcd : (x == ("__classdict__" : Str)) = false := by decide)
  (hs : swapsWith (.Call (.Attribute (.Name x px) "append" apos) [e] [] cpos) none pos.line X.env = pure false := by rfl) (hst : starEach [e] X.env = [(false, eval e X.env)] := by rfl)
  (hbase : attributeBase (.Name x px) "append" X.env (eval (.Name x px) X.env) = eval (.Name x px) X.env := by rfl)
  (hfew : ((backTo cpos (starEach [e] X.env)).all (fun x => !x.1) && (backToKw cpos (keywordEach [] X.env)).all (fun x => x.1.isSome) && decide (([e] : List Expr).length + ([] : List Keyword).length + (if ([] : List Keyword).isEmpty then 0 else 1) < 30)) = true := by rfl)
  (hline : (apos.endLine == cpos.line) = true := by rfl) : S1 X E (.Expr (.Call (.Attribute (.Name x px) "append" apos) [e] [] cpos) pos) (sMut AI i o) :=
 (gN (q4 PySem.F.plainAttrs_list PySem.F.slot_list_append PySem.F.type_list_append jq (fV hN hv hd hcd) (aa he af hst) hbase hfew hline hst rfl) hs).weak fun _ _ _ q => tV xm q
end
section
variable {K : W.Frag} {mg : zu} {E : XK} {G0 H0 G H : Hp} {σ : St} {δ : DEnv}
theorem lj {ops : List Opd} {P : List V -> Hp -> Prop} (R : Rel K mg G0 H0 G H σ δ)
  (h : match opds ops δ with
   | .ok p => ∀ vs H' G' G2 l, Rel K mg G0 H0 G' H' σ p.2.1 -> Same G G' -> Rel K mg G0 H0 G2 H' σ p.2.2 -> Lent G' G2 l -> Dts K G2 vs p.1 -> P vs H'
   | .exc x => PoX mg E H0 x
   | .bad => False) : tOs K mg E ops σ H P := by
 refine dn ops R ?_
 unfold opds at h
 cases e1 : evO ops δ with
 | ok p =>
  rw [e1, Out.bind_ok] at h
  intro vs H1 G1 R1 s1 ov
  cases e2 : A5 (zK (zL p.1) p.2) p.1 with
  | none => rw [e2] at h; exact h.elim
  | some ds =>
   rw [e2] at h
   obtain ⟨G2, l, R2, L⟩ := R1.relA (zL p.1)
   exact h vs H1 G1 G2 l R1 s1 R2 L ((ov.mono L.ext).view R2 e2)
 | exc x => rw [e1] at h; exact h
 | bad => rw [e1] at h; exact h
end
noncomputable def PoF (K : W.Frag) (mg : zu) (G H : Hp) (Q : VK) (E : XK) : Out SD -> Prop
 | .ok r => ∀ v H' G', Grow G H G' H' -> VN K mg H G' H' v r -> Q v H'
 | .exc x => PoX mg E H x
 | .bad => False
noncomputable def spD (K : W.Frag) (mg : zu) (φ : zt -> Out SD) : Sp := fun vs H Q E => ∃ G ds, (Same G H /\ NoT G /\ B3 H) /\ Dts K G vs ds /\ PoF K mg G H Q E (φ ds)
noncomputable def zI (φ : zt -> Out SD) (ops : List Opd) : DE := fun δ => (opds ops δ).bind fun p => (φ p.1).bind fun r => .ok (r, if r.pure = true then p.2.1 else p.2.2)
theorem uP {K : W.Frag} {mg : zu} {E : XK} {φ : zt -> Out SD} {ops : List Opd} {σ : St} {H : Hp} {Q : VK} (h : tE K mg E (zI φ ops) σ H Q) : Bi (spD K mg φ) [] E (tOs K mg E ops) σ H Q := by
 obtain ⟨G0, H0, G, δ, R, m⟩ := h
 refine lj R ?_
 unfold zI at m
 cases e : opds ops δ with
 | ok p =>
  rw [e, Out.bind_ok] at m
  intro vs H1 G1 G2 l R1 s1 R2 L hd
  rw [List.append_nil]
  refine ⟨G2, p.1, ⟨R2.g.gh, R2.noT, R2.tabs⟩, hd, ?_⟩
  cases e2 : φ p.1 with
  | ok r =>
   rw [e2, Out.bind_ok] at m
   intro v H2 G3 gr vn
   by_cases hp : r.pure = true
   ·rw [if_pos hp] at m
    obtain ⟨G4, gr4, vn4⟩ := L.back R1 R2.g.gh gr vn hp
    exact m v H2 G4 (R1.grow gr4) (s1.trans gr4.gg) (RR.of_new R1 vn4)
   ·rw [if_neg hp] at m
    exact m v H2 G3 (R2.grow gr) ((s1.trans L.ext).trans gr.gg) (RR.of_new R2 vn)
  | exc x => rw [e2] at m; exact fun H' C s hC => m H' C (R1.g.hh.trans s) hC
  | bad => rw [e2] at m; exact m
 | exc x => rw [e] at m; exact m
 | bad => rw [e] at m; exact m
abbrev DefD (P : Program) (w : World) (K : W.Frag) (mg : zu) (base : Heap) (x : Str) (k : Nat) (φ : zt -> Out SD) : Prop := ∃ (f : Addr) (fd : FuncData) (ps : List Str), Def P w K mg base (CXe P w) x k f fd ps (spD K mg φ)
section
variable {X : Cx} {E : XK} {x : Str} {k j : Nat} {φ : zt -> Out SD} {e : Expr} {es : List Expr} {ops : List Opd} {p pos : Pos}
theorem au (D : DefD X.prog X.w X.K X.mg X.base x k φ) (hr : Room j X.A) (hx : Passes (CXe X.prog X.w) X E) (ha : PA X (e :: es) (tOs X.K X.mg E ops)) (hk : k <= j := by decide) (hg : Gl X x := by rfl) (hdb : (x == ("__debug__" : Str)) = false := by decide)
  (he : starEach (e :: es) X.env = (false, eval e X.env) :: starEach es X.env := by rfl) (hpl : (backTo pos (starEach es X.env)).any (·.1) = false := by rfl) : SE X E (.Call (.Name x p) (e :: es) [] pos) (zI φ ops) := by
 obtain ⟨f, fd, ps, D⟩ := D
 exact (i8 D hr hx ha hg hk hdb he hpl).weak fun _ _ _ h => uP h
end
theorem bH {X : Cx} {P : Program} {w : World} : Passes (CXe P w) X E0 := fun _ _ _ _ _ _ _ ⟨_, _, _, _, _, z⟩ => z.elim
noncomputable def start0 (n m : Nat) (ds : zt) : DEnv := ds.map (fun d => some (.sh d)) ++ List.replicate (n - m) none
noncomputable def runB (n m : Nat) (f : DS) (ds : zt) : Out SD := if ds.length = m then (match f (start0 n m ds) with
 | .nx _ => .ok (.sh .none)
 | .rt r => .ok r
 | .exc x => .exc x
 | _ => .bad) else .bad
theorem oH {K : W.Frag} {mg : zu} {G H : Hp} {vs : List V} {ds : zt} {N : List Str} {m : Nat} (hg : Same G H /\ NoT G /\ B3 H) (hd : Dts K G vs ds) (hm : ds.length = m) : Rel K mg G H G H (start N vs) (start0 N.length m ds) where
 g := .refl hg.1
 tb := hg.2.2
 n0 := hg.2.1
 len := by unfold start start0; simp only [List.length_append, List.length_map, List.length_replicate]; rw [hd.len, hm]
 sl := fun i sd e => by
  unfold start0 at e
  by_cases hi : i < ds.length
  ·rw [List.getElem?_append_left (by simpa using hi), List.getElem?_map] at e
   cases e2 : ds[i]? with
   | none => rw [e2] at e; cases e
   | some d =>
    rw [e2] at e
    cases e
    obtain ⟨v, h1, h2⟩ := hd.get' e2
    refine ⟨v, ?_, h2⟩
    unfold start
    rw [List.getElem?_append_left (by rw [List.length_map, hd.len]; exact hi), List.getElem?_map, h1]
    rfl
  ·rw [List.getElem?_append_right (by simpa using hi), List.getElem?_replicate] at e
   split at e <;> cases e
 fr := fun i sd a e ho => by
  unfold start0 at e
  by_cases hi : i < ds.length
  ·rw [List.getElem?_append_left (by simpa using hi), List.getElem?_map] at e
   cases e2 : ds[i]? with
   | none => rw [e2] at e; cases e
   | some d => rw [e2] at e; cases e; exact ho.elim
  ·rw [List.getElem?_append_right (by simpa using hi), List.getElem?_replicate] at e
   split at e <;> cases e
 ap := fun i j sd te a e _ ho => by
  unfold start0 at e
  by_cases hi : i < ds.length
  ·rw [List.getElem?_append_left (by simpa using hi), List.getElem?_map] at e
   cases e2 : ds[i]? with
   | none => rw [e2] at e; cases e
   | some d => rw [e2] at e; cases e; exact ho.elim
  ·rw [List.getElem?_append_right (by simpa using hi), List.getElem?_replicate] at e
   split at e <;> cases e
theorem ll {n m : Nat} {f : DS} {ds : zt} (h : runB n m f ds ≠ .bad) : ds.length = m := by
 unfold runB at h
 split at h
 next e => exact e
 next => exact absurd rfl h
theorem aV {P : Program} {w : World} {K : W.Frag} {mg : zu} {base : Heap} {x qual : Str} {st : Stmt} {f : Addr} {fd : FuncData} {N ps : List Str} {k : Nat} {fb : DS} (F : Fun K x qual st f fd) (S : zH N ps (zB st))
  (body : ∀ (cdv : Value) (A : Around) (outer : List Env) (s : Shared) (H : Hp) (E : XK), Room k (A.deeper (envOfC qual (zB st) s.heap.objs.size f cdv)) -> SS (cxE P w K mg base N qual (zB st) f cdv A outer s H E) E (A3 st) fb) :
  FnOk P w K mg base (CXe P w) (k + 1) f fd ps (spD K mg (runB N.length ps.length fb)) := by
 refine F.okE S (fun vs H Q E h => ?_) fun cdv A outer s H vs Q E hr h => ?_
 ·obtain ⟨G, ds, hg, hd, m⟩ := h
  rw [hd.len]
  exact ll fun z => by rw [z] at m; exact m
 ·obtain ⟨G, ds, hg, hd, m⟩ := h
  refine ⟨_, body cdv A outer s H E hr, G, H, G, start0 N.length ps.length ds, ?_, ?_⟩
  ·exact oH hg hd (ll fun z => by rw [z] at m; exact m)
  ·unfold runB at m
   split at m
   next hl =>
    cases e : fb (start0 N.length ps.length ds) with
    | nx δ => rw [e] at m; exact fun σ' H' G' R' s' => m .non H' G' R'.g (qp .non)
    | rt r => rw [e] at m; exact fun v H' G' g vn => m v H' G' g vn
    | exc x => rw [e] at m; exact m
    | bk δ => rw [e] at m; exact m.elim
    | ct δ => rw [e] at m; exact m.elim
    | bad => rw [e] at m; exact m.elim
   next => exact m.elim
noncomputable def PoC (K : W.Frag) (mg : zu) (E : XK) (G0 H0 G : Hp) (σ : St) (Q : It -> Hp -> Prop) : Out (zt × DEnv × DEnv) -> Prop
 | .ok p => ∀ J H' G' G2 l, Rel K mg G0 H0 G' H' σ p.2.1 -> Same G G' -> Rel K mg G0 H0 G2 H' σ p.2.2 -> Lent G' G2 l -> AM K J G2 p.1 -> Q J H'
 | .exc x => PoX mg E H0 x
 | .bad => False
abbrev DC := DEnv -> Out (zt × DEnv × DEnv)
noncomputable def tIC (K : W.Frag) (mg : zu) (E : XK) (f : DC) : TI := fun σ H Q => ∃ G0 H0 G δ, Rel K mg G0 H0 G H σ δ /\ PoC K mg E G0 H0 G σ Q (f δ)
noncomputable def As (o : Opd) : DC := fun δ => (opds [o] δ).bind fun p => match p.1 with
 | [.list xs] => .ok (xs, p.2.1, p.2.2)
 | [.tuple xs] => .ok (xs, p.2.1, p.2.2)
 | _ => .bad
abbrev SIC (X : Cx) (E : XK) (tg iter : Expr) (f : DC) : Prop := PI X tg iter (tIC X.K X.mg E f)
section
variable {X : Cx} {E : XK} {tg l a b : Expr} {o oa ob : Opd} {p pos : Pos}
theorem cw (hl : SO X E l o) : SIC X E tg l (As o) := (mD hl).weak fun σ H Q ⟨G0, H0, G, δ, R, m⟩ => by
 have key : tOs X.K X.mg E [o] σ H fun vs H1 => ∃ x, vs = [x] /\ ∃ a, x = .ref a /\ (((∃ xs, SqL X.K H1 a xs) /\ Q (Itl X.K a) H1) \/ ((∃ xs, SqT X.K H1 a xs) /\ Q (Itt X.K a) H1)) := by
  refine lj R ?_
  unfold As at m
  cases e : opds [o] δ with
  | ok p =>
   rw [e, Out.bind_ok] at m
   intro vs H1 G1 G2 l R1 s1 R2 L hd
   split at m
   next xs q =>
    rw [q] at hd
    obtain ⟨x, rfl, h1⟩ := dts1 hd
    cases h1 with
    | lst q r => exact ⟨_, rfl, _, rfl, .inl ⟨⟨_, (R2.g.gh.sqr q).sq⟩, m _ H1 G1 G2 l R1 s1 R2 L (iz q r)⟩⟩
   next xs q =>
    rw [q] at hd
    obtain ⟨x, rfl, h1⟩ := dts1 hd
    cases h1 with
    | tup q r => exact ⟨_, rfl, _, rfl, .inr ⟨⟨_, R2.g.gh.tup q⟩, m _ H1 G1 G2 l R1 s1 R2 L (jy q r)⟩⟩
   next => exact m.elim
  | exc x => rw [e] at m; exact m
  | bad => rw [e] at m; exact m
 exact nK (fun v H1 ⟨x, ex, q⟩ => by cases ex; exact q) key
end
noncomputable def rhoD (F : List Nat) (δ : DEnv) : DEnv := none :: F.map fun j => (δ[j]?).join
noncomputable def zZ (ρ : DEnv) (tc : DT) (te : DE) : zt -> Option zt
 | [] => some []
 | d :: ds => match tc (ρ.set 0 (some (.sh d))) with
  | .ok p => if p.1 = true then (match vE te p.2 with
    | .ok q => (zZ ρ tc te ds).map (q.1 :: ·)
    | _ => none) else zZ ρ tc te ds
  | _ => none
def zX : DT := fun δ => .ok (true, δ)
noncomputable def Ap (F : List Nat) (fc : DC) (tc : DT) (te : DE) : DE := fun δ => (fc δ).bind fun p => if p.1.length <= sizeLine then (match zZ (rhoD F (zK F p.2.2)) tc te p.1 with
 | some ys => .ok (.ol ys, if zA ys = true then p.2.1 else zK F p.2.2)
 | none => .bad) else .bad
theorem oI {i j : Nat} {δ : DEnv} {sd : SD} (h : (Ac i δ)[j]? = some (some sd)) : (j = i /\ ¬ sd.owned) \/ (δ[j]? = some (some sd)) := by
 unfold Ac at h
 split at h
 ·rcases aJ h with ⟨z, e⟩ | ⟨_, e⟩
  ·cases e; exact .inl ⟨z, fun h => h⟩
  ·exact .inr e
 ·rcases aJ h with ⟨z, e⟩ | ⟨_, e⟩
  ·cases e; exact .inl ⟨z, fun h => h⟩
  ·exact .inr e
 ·exact .inr h
theorem lq {i : Nat} {δ : DEnv} {sd : SD} (h : (Ac i δ)[i]? = some (some sd)) : ¬ sd.owned := by
 unfold Ac at h
 split at h
 ·rcases aJ h with ⟨_, e⟩ | ⟨z, _⟩
  ·cases e; exact fun h => h
  ·exact absurd rfl z
 ·rcases aJ h with ⟨_, e⟩ | ⟨z, _⟩
  ·cases e; exact fun h => h
  ·exact absurd rfl z
 next n1 n2 =>
  intro ho
  cases sd with
  | sh d => exact ho
  | ol ds => exact n1 ds h
  | od ds => exact n2 ds h
  | ex x => exact ho
theorem gy : ∀ (is : List Nat) {δ : DEnv} {j : Nat}, (∀ sd, δ[j]? = some (some sd) -> ¬ sd.owned) -> ∀ sd, (zK is δ)[j]? = some (some sd) -> ¬ sd.owned
 | [], _, _, h, sd, e => h sd e
 | i :: r, δ, j, h, sd, e => gy r (δ := Ac i δ) (fun sd' e' => by
   rcases oI e' with ⟨_, z⟩ | z
   ·exact z
   ·exact h sd' z) sd e
theorem iB : ∀ (is : List Nat) {δ : DEnv} {j : Nat} {sd : SD}, j ∈ is -> (zK is δ)[j]? = some (some sd) -> ¬ sd.owned
 | [], _, _, _, h, _ => absurd h (by simp)
 | i :: r, δ, j, sd, h, e => by
  rcases List.mem_cons.mp h with z | z
  ·subst z
   exact gy r (δ := Ac j δ) (fun sd' e' => lq e') sd e
  ·exact iB r z e
theorem jA {α : Type} {o : Option (Option α)} {a : α} (h : o.join = some a) : o = some (some a) := by
 cases o with
 | none => cases h
 | some b => cases b with
  | none => cases h
  | some c => cases h; rfl
theorem sG {K : W.Frag} {mg : zu} {G0 H0 G H G1 H1 : Hp} {σ : St} {δ : DEnv} {F : List Nat} (R : Rel K mg G0 H0 G H σ δ) (ho : ∀ j ∈ F, ∀ sd, δ[j]? = some (some sd) -> ¬ sd.owned) (g : Grow G H G1 H1) : Rel K mg G H G1 H1 (rho 1 F σ) (rhoD F δ) := by
 have get : ∀ (i : Nat) sd, (rhoD F δ)[i]? = some (some sd) -> ∃ k j, i = k + 1 /\ F[k]? = some j /\ δ[j]? = some (some sd) := fun i sd e => by
  unfold rhoD at e
  cases i with
  | zero => cases e
  | succ k =>
   rw [List.getElem?_cons_succ, List.getElem?_map] at e
   cases e2 : F[k]? with
   | none => rw [e2] at e; cases e
   | some j =>
    rw [e2] at e
    exact ⟨k, j, rfl, e2, jA (Option.some.inj e)⟩
 refine ⟨g, ?_, fun i sd e => ?_, fun i sd a e h => ?_, fun i j sd te a e _ h => ?_, R.tabs, R.noT⟩
 ·rw [jT]; simp [rhoD]; omega
 ·obtain ⟨k, j, rfl, e1, e2⟩ := get i sd e
  obtain ⟨v, h1, h2⟩ := R.sl j sd e2
  refine ⟨v, ?_, h2.grow g⟩
  unfold rho
  rw [List.getElem?_append_right (by simp), List.getElem?_map]
  simp only [List.length_replicate, Nat.add_sub_cancel, e1, Option.map_some, h1, Option.join_some]
 ·obtain ⟨k, j, rfl, e1, e2⟩ := get i sd e
  exact absurd h (ho j (List.mem_of_getElem? e1) sd e2)
 ·obtain ⟨k, j, rfl, e1, e2⟩ := get i sd e
  exact absurd h (ho j (List.mem_of_getElem? e1) sd e2)
theorem uQ {K : W.Frag} {mg : zu} {E : XK} {F : List Nat} {fc : DC} {tc : DT} {te : DE} {σ : St} {H : Hp} {Q : VK} (h : tE K mg E (Ap F fc tc te) σ H Q) : B6 1 F (tIC K mg E fc) (Ad 0) (tT K mg E0 tc) (tE K mg E0 te) σ H Q := by
 obtain ⟨G0, H0, G, δ, R, m⟩ := h
 refine ⟨G0, H0, G, δ, R, ?_⟩
 unfold Ap at m
 cases e : fc δ with
 | exc x => rw [e] at m; exact m
 | bad => rw [e] at m; exact m
 | ok p =>
  rw [e, Out.bind_ok] at m
  intro J H1 G1 G2 l R1 s1 R2 L W
  split at m
  next hsz =>
   obtain ⟨G3, l3, R3, L3⟩ := R2.relA F
   have L13 := L.trans L3
   have ho : ∀ j ∈ F, ∀ sd, (zK F p.2.2)[j]? = some (some sd) -> ¬ sd.owned := fun j hj sd e => iB F hj e
   generalize hρ : rhoD F (zK F p.2.2) = ρ at m
   cases ec : zZ ρ tc te p.1 with
   | none => rw [ec] at m; exact m.elim
   | some total =>
    rw [ec] at m
    dsimp only at m
    refine ⟨fun i mm ys H2 => ∃ G4 es rest, Grow G3 H1 G4 H2 /\ Dts K G4 ys es /\ i + mm = p.1.length /\ ys.length <= i /\ zZ ρ tc te (p.1.drop i) = some rest /\ es ++ rest = total, ⟨p.1.length, G3, [], total, .refl R3.g.gh, .nil, Nat.zero_add _, Nat.le_refl _, ec, rfl⟩, ?_⟩
    rintro i mm ys H2 ⟨G4, es, rest, g4, hys, him, hyl, hc, ht⟩
    obtain ⟨w1, w2⟩ := W i G4 H2 (L3.ext.trans g4.gg) g4.gh
    cases hd : p.1[i]? with
    | none =>
     have hi : p.1.length <= i := List.getElem?_eq_none_iff.mp hd
     refine .inl ⟨w2 hi, fun D hD => ?_⟩
     rw [List.drop_eq_nil_of_le hi] at hc
     cases hc
     rw [List.append_nil] at ht
     subst ht
     have gD : Grow G3 H1 G4 (upd H2 D (.lst ys)) := g4.trans (.laidO g4.gh hD)
     have vn : VN K mg H1 G4 (upd H2 D (.lst ys)) (.ref D) (.ol es) := ⟨⟨D, ys, rfl, g4.gh.free hD, aq, hys⟩, fun _ a ea => by cases ea; exact g4.hh.free hD⟩
     by_cases hp : zA es = true
     ·rw [if_pos hp] at m
      obtain ⟨G5, gr5, vn5⟩ := L13.back R1 R3.g.gh gD vn hp
      exact m _ _ G5 (R1.grow gr5) (s1.trans gr5.gg) (RR.of_new R1 vn5)
     ·rw [if_neg hp] at m
      exact m _ _ G4 (R3.grow gD) ((s1.trans L13.ext).trans g4.gg) (RR.of_new R3 vn)
    | some d =>
     have hi : i < p.1.length := (List.getElem?_eq_some_iff.mp hd).1
     obtain ⟨go, yl⟩ := w1 d hd
     have ed : p.1.drop i = d :: p.1.drop (i + 1) := by
      rw [List.drop_eq_getElem_cons hi]
      congr 1
      exact Option.some.inj ((List.getElem?_eq_getElem hi).symm.trans hd)
     rw [ed] at hc
     unfold zZ at hc
     refine .inr ⟨go, fun x H3 hy => ?_⟩
     obtain ⟨G5, g5, dx⟩ := yl x H3 hy
     have g35 := g4.trans g5
     have Rr := sG (F := F) R3 ho g35
     rw [hρ] at Rr
     have hz : 0 < (rho 1 F σ).length := by rw [jT]; omega
     have Rs := Rr.store hz (r := .sh d) (v := x) (RR.sh dx)
     show tT K mg E0 tc ((rho 1 F σ).set 0 (some x)) H3 _
     refine ⟨G3, H1, G5, ρ.set 0 (some (.sh d)), Rs, ?_⟩
     cases e1 : tc (ρ.set 0 (some (.sh d))) with
     | exc y => rw [e1] at hc; cases hc
     | bad => rw [e1] at hc; cases hc
     | ok q =>
      rw [e1] at hc
      dsimp only at hc
      intro H6 G6 R6 s6
      split
      next hb =>
       rw [if_pos hb] at hc
       refine qo R6 ?_
       cases e2 : vE te q.2 with
       | exc y => rw [e2] at hc; cases hc
       | bad => rw [e2] at hc; cases hc
       | ok u =>
        rw [e2] at hc
        dsimp only at hc
        obtain ⟨rest', er, rfl⟩ := Option.map_eq_some_iff.mp hc
        intro v H7 G7 R7 s7 hv
        refine ⟨by omega, mm - 1, by omega, G7, es ++ [u.1], rest', R7.g, ?_, by omega, by rw [List.length_append, List.length_singleton]; omega, er, by rw [List.append_assoc]; exact ht⟩
        exact (hys.mono ((g5.gg.trans s6).trans s7)).append (.cons hv .nil)
      next hb =>
       rw [if_neg hb] at hc
       exact ⟨mm - 1, by omega, G6, es, rest, R6.g, hys.mono (g5.gg.trans s6), by omega, by omega, hc, ht⟩
  next => exact m.elim
section
variable {X : Cx} {E : XK} {N0 : List Str} {sc0 scope : Scope} {x y : Str} {elt iter : Expr} {ifs : List Expr} {fc : DC} {tc : DT} {te : DE} {pos px py spos : Pos} {F : List Nat}
theorem fG : PTs X [] (tT X.K X.mg E zX) := fun pins s σ H Q I ⟨G0, H0, G, δ, R, m⟩ => nG pins s σ H Q I (m H G R (.refl _))
theorem cx (hok : AD N0 sc0 x scope = true) (hF : AS N0 scope = F) (hi : SIC X E (.Name x px) iter fc) (ht : ∀ cl C ex s H, PTs (zR X (x :: zQ scope) scope cl C ex s H) ifs (tT X.K X.mg E0 tc)) (he : ∀ cl C ex s H, PE (zR X (x :: zQ scope) scope cl C ex s H) elt (tE X.K X.mg E0 te)) (hN : X.N = N0 := by rfl)
  (hsc : X.env.scope = sc0 := by rfl) (hcm : X.calm = true := by rfl) (hs : ∀ x, foldedSetIterable iter X.env x = pure x := by intro _; rfl) : SE X E (.ListComp elt [⟨.Name x px, iter, ifs, 0⟩] scope pos) (Ap F fc tc te) := by
 subst hF
 exact (qk hok hi ht he hN hsc hcm hs).weak fun _ _ _ h => uQ h
end
section
variable {K : W.Frag} {mg : zu} {ck : DEnv -> Bool} {m : Nat}
end
section
variable {X : Cx} {E : XK} {x : Str} {C : Addr} {B newId initId : String} {bmB : List Value} {t : TA} {e : Expr} {es : List Expr} {np cpos pos : Pos} {ck : DEnv -> Bool}
end
section
variable {K : W.Frag} {mg : zu} {G0 H0 G H H' : Hp} {σ : St} {δ : DEnv} {i : Nat} {v : V}
end
section
variable {K : W.Frag} {mg : zu} {E : XK} {φ : zt -> Out SD} {ops : List Opd} {cat : Str -> Bool} {h : DS} {Cc : Value} {D : Ends} {σ : St} {H : Hp} {i : Nat}
end
section
variable {X : Cx} {E : XK} {x c n : Str} {k j i : Nat} {φ : zt -> Out SD} {e : Expr} {es : List Expr} {ops : List Opd} {p pos pos' cp hp tpos : Pos} {cat : Str -> Bool} {h : DS} {Cc : Value} {b0 : Stmt} {suite : List Stmt}
end
end L2
namespace PySem.W
open PySem PySem.Spec PySem.Calls PyProof.Rows
end PySem.W
namespace L2
open PySem PySem.Spec PyProof.Rows
variable [Tabs]
section
variable {X : Cx} {E : XK} {x n : Str} {cat : Str -> Bool} {p q r pos : Pos}
end
section
variable {X : Cx} {E : XK} {x : Str} {pos : Pos} {c : Int}
theorem nL (h : ∃ t, X.mg x = some (.int c t)) (hg : Gl X x := by rfl) (hdb : (x == ("__debug__" : Str)) = false := by decide) : SE X E (.Name x pos) (eC (.int c)) := by
 obtain ⟨t, h⟩ := h
 exact sk h (v := .int c) ⟨t, rfl⟩ (fun _ => .int c) hg hdb
end
section
variable {P : Program} {w : World} {K : W.Frag} {mg : zu} {base h : Heap} {x : Str} {st : Stmt} {f : Addr} {fd : FuncData}
structure A0 (K : W.Frag) (mg : zu) (x : Str) (st : Stmt) (f : Addr) (fd : FuncData) : Prop where
 fn : Fun K x x st f fd
 at_ : mg x = some (.ref f)
theorem aH {oc : Value} {od an : Option Addr} {osl : Array (Option Value)} {kV doc pm cdv ct : Value} (X : K.In h) (G : h.Ns mainGlobals mg) (a : W.nsIn K mainGlobals x = some (some (.ref f)))
  (l : K.lookup f = some ⟨oc, od, .func (W.fnOf x x (A8 st) (A3 st) (zB st) .none kV doc pm an cdv ct), osl⟩) (c : W.codeIn K cdv x = true) (k : W.keepIn K (.ref f) = true) : A0 K mg x st f (W.fnOf x x (A8 st) (A3 st) (zB st) .none kV doc pm an cdv ct) :=
 ⟨uI l c k, W.mg_of X G a⟩
theorem aY {ps : List Str} {k : Nat} {φ : zt -> Out SD} (A : A0 K mg x st f fd) (ok : FnOk P w K mg base (CXe P w) k f fd ps (spD K mg φ))
  (b : ∀ (kV doc pm : Value) (an : Option Addr) (cdv ct : Value) (us : List Value), us.length = ps.length -> bindArgs (W.fnOf x x (A8 st) (A3 st) (zB st) .none kV doc pm an cdv ct) ⟨us, []⟩ = pure (ps.zip us)) : DefD P w K mg base x k φ :=
 ⟨f, fd, ps, ok, A.at_, A.fn.kp, A.fn.binds b⟩
end
noncomputable def Bo (K : W.Frag) : Sp := fun vs H Q _ => ∃ (a : Addr) (ns : List Int), vs = [.ref a] /\ SqR K H a (ns.map V.int) /\ ns.length <= 63 /\ B3 H /\ ∀ H', Q (.bl true) H'
theorem sH {K : W.Frag} {H : Hp} {a : Addr} {ns : List Int} (hs : SqR K H a (ns.map V.int)) : ∃ G, Same G H /\ NoT G /\ SqR K G a (ns.map V.int) := by
 refine ⟨fun b => match H b with | some (.tbl _) => none | o => o, fun b o e => ?_, fun b ps z => ?_, ?_⟩
 ·dsimp only at e
  split at e
  ·cases e
  ·exact e
 ·dsimp only at z
  split at z
  ·cases z
  ·rename_i h; exact h ps z
 ·rcases hs with (h | ⟨o, h⟩) | h
  ·exact .inl (.inl (by dsimp only; rw [h]))
  ·exact .inl (.inr ⟨o, by dsimp only; rw [h]⟩)
  ·exact .inr h
theorem oJ {K : W.Frag} {mg : zu} {φ : zt -> Out SD} (hφ : ∀ ns : List Int, ns.length <= 63 -> φ [.list (ns.map PyData.int)] = .ok (.sh (.bool true))) (vs : List V) (H : Hp) (Q : VK) (E : XK) (h : Bo K vs H Q E) : spD K mg φ vs H Q E := by
 obtain ⟨a, ns, rfl, hs, hl, tb, q⟩ := h
 obtain ⟨G, g1, g2, g3⟩ := sH hs
 refine ⟨G, [.list (ns.map .int)], ⟨g1, g2, tb⟩, .cons (.lst g3 (Dts.ints ns)) .nil, ?_⟩
 rw [hφ ns hl]
 intro v H' G' _ vn
 have := vn.1
 cases this
 exact q H'
theorem oK {P : Program} {w : World} (outer : List Env) (H : Hp) (s : Shared) (e : Value) (s' : Shared) (h : CXe P w outer H s (fun _ _ _ => False) e s') : False := by
 obtain ⟨_, _, _, _, _, z⟩ := h
 exact z
@[simp ↓] theorem xn {α : Type} {c : Prop} [Decidable c] (a : α) : (if c then a else a) = a := by split <;> rfl
noncomputable def shOf : SD × DEnv -> Out (PyData × DEnv)
 | (.sh d, δ) => .ok (d, δ)
 | (.ol ds, δ) => .ok (.list ds, δ)
 | (.od es, δ) => .ok (.dict es, δ)
 | (.ex _, _) => .bad
@[simp] theorem yf (d : PyData) (δ : DEnv) : shOf (.sh d, δ) = .ok (d, δ) := rfl
@[simp] theorem yg (d : zt) (δ : DEnv) : shOf (.ol d, δ) = .ok (.list d, δ) := rfl
@[simp] theorem yh (d : List (PyData × PyData)) (δ : DEnv) : shOf (.od d, δ) = .ok (.dict d, δ) := rfl
@[simp] theorem zo (f : DE) (δ : DEnv) : vE f δ = (f δ).bind shOf := by
 unfold vE
 cases f δ with
 | ok p => obtain ⟨r, δ'⟩ := p; cases r <;> rfl
 | exc x => rfl
 | bad => rfl
@[simp] theorem yi (δ : DEnv) : evO [] δ = .ok ([], δ) := rfl
@[simp] theorem zb (i : Nat) (r : List Opd) (δ : DEnv) : evO (.nm i :: r) δ = match δ[i]? with
  | some (some _) => (evO r δ).bind fun q => .ok (.inr i :: q.1, q.2)
  | _ => .bad := by rw [evO] <;> rfl
@[simp] theorem zc (f : DE) (r : List Opd) (δ : DEnv) : evO (.ex f :: r) δ = (vE f δ).bind fun p => (evO r p.2).bind fun q => .ok (.inl p.1 :: q.1, q.2) := by rw [evO]
@[simp] theorem uR : zL [] = [] := rfl
@[simp] theorem xp (d : PyData) (r : List (Sum PyData Nat)) : zL (.inl d :: r) = zL r := rfl
@[simp] theorem xq (i : Nat) (r : List (Sum PyData Nat)) : zL (.inr i :: r) = i :: zL r := rfl
@[simp] theorem uS (δ : DEnv) : zK [] δ = δ := rfl
@[simp] theorem tW (i : Nat) (r : List Nat) (δ : DEnv) : zK (i :: r) δ = zK r (Ac i δ) := rfl
@[simp] theorem vR (i : Nat) (δ : DEnv) : Ac i δ = match δ[i]? with
 | some (some (.ol ds)) => δ.set i (some (.sh (.list ds)))
 | some (some (.od es)) => δ.set i (some (.sh (.dict es)))
 | _ => δ := rfl
@[simp] theorem xr (δ : DEnv) (i : Nat) : Bl δ i = match δ[i]? with
 | some (some (.sh d)) => some d
 | _ => none := rfl
@[simp] theorem vS (δ : DEnv) : A5 δ [] = some [] := rfl
@[simp] theorem yj (δ : DEnv) (d : PyData) (r : List (Sum PyData Nat)) : A5 δ (.inl d :: r) = (A5 δ r).map (d :: ·) := rfl
@[simp] theorem yk (δ : DEnv) (i : Nat) (r : List (Sum PyData Nat)) : A5 δ (.inr i :: r) = (Bl δ i).bind fun d => (A5 δ r).map (d :: ·) := rfl
noncomputable def BJ (p : List (Sum PyData Nat) × DEnv) : Out (zt × DEnv × DEnv) := match A5 (zK (zL p.1) p.2) p.1 with
 | some ds => .ok (ds, p.2, zK (zL p.1) p.2)
 | none => .bad
@[simp] theorem xt (l : List (Sum PyData Nat)) (δ : DEnv) : BJ (l, δ) = match A5 (zK (zL l) δ) l with
 | some ds => .ok (ds, δ, zK (zL l) δ)
 | none => .bad := rfl
@[simp] theorem ym (ops : List Opd) (δ : DEnv) : opds ops δ = (evO ops δ).bind BJ := rfl
@[simp] theorem zd (o : zt -> Option SD) (ops : List Opd) (δ : DEnv) : eOp o ops δ = (opds ops δ).bind fun p => fin2 (o p.1) p.2.1 p.2.2 := rfl
@[simp] theorem vT (r : SD) (δ1 δ2 : DEnv) : fin2 (some r) δ1 δ2 = .ok (r, if r.pure = true then δ1 else δ2) := rfl
@[simp] theorem vU (δ1 δ2 : DEnv) : fin2 none δ1 δ2 = .bad := rfl
@[simp] theorem yn (d : PyData) : (SD.sh d).pure = zC d := rfl
@[simp] theorem yo (d : zt) : (SD.ol d).pure = zA d := rfl
@[simp] theorem yp (d : List (PyData × PyData)) : (SD.od d).pure = zA (d.map (·.2)) := rfl
@[simp] theorem vV (i : Int) : zC (.int i) = true := by simp [zC]
@[simp] theorem uT (i : Bool) : zC (.bool i) = true := by simp [zC]
@[simp] theorem vW (i : Str) : zC (.str i) = true := by simp [zC]
@[simp] theorem uU : zC .none = true := by simp [zC]
@[simp] theorem uV (l : zt) : zC (.list l) = false := by simp [zC]
@[simp] theorem uW (l : List (PyData × PyData)) : zC (.dict l) = false := by simp [zC]
@[simp] theorem lr (l : zt) : zC (.tuple l) = zA l := by simp [zC]
@[simp] theorem mG : zA [] = true := by simp [zA]
@[simp] theorem gz (d : PyData) (l : zt) : zA (d :: l) = (zC d && zA l) := by simp [zA]
@[simp] theorem aP (l : List Int) : zA (l.map PyData.int) = true := by induction l <;> simp_all
@[simp] theorem rE (l r : zt) : zA (l ++ r) = (zA l && zA r) := by induction l <;> simp_all [Bool.and_assoc]
@[simp] theorem zp (d : PyData) (δ : DEnv) : eC d δ = .ok (.sh d, δ) := rfl
@[simp] theorem zq (i : Nat) (δ : DEnv) : eV i δ = match δ[i]? with
 | some (some (.sh d)) => .ok (.sh d, δ)
 | some (some (.ol ds)) => .ok (.sh (.list ds), δ.set i (some (.sh (.list ds))))
 | some (some (.od ds)) => .ok (.sh (.dict ds), δ.set i (some (.sh (.dict ds))))
 | _ => .bad := rfl
@[simp] theorem xu (i j : Int) : dAdd [.int i, .int j] = some (.sh (.int (i + j))) := rfl
@[simp] theorem vX (x y : zt) : dAdd [.list x, .list y] = if x.length + y.length <= sizeLine then some (.ol (x ++ y)) else none := rfl
@[simp] theorem uX (x y : zt) : dAdd [.tuple x, .tuple y] = if x.length + y.length <= sizeLine then some (.sh (.tuple (x ++ y))) else none := rfl
@[simp] theorem xv (x y : Str) : dAdd [.str x, .str y] = if x.length + y.length <= sizeLine then some (.sh (.str (x ++ y))) else none := rfl
@[simp] theorem xw (i j : Int) : dSub [.int i, .int j] = some (.sh (.int (i - j))) := rfl
@[simp] theorem vY (i j : Int) : Bd [.int i, .int j] = if 0 < j /\ j < 1073741824 then some (.sh (.int (i / j))) else none := by simp [Bd, dI2]
@[simp] theorem xx (i j : Int) : dMod [.int i, .int j] = if 0 < j then some (.sh (.int (i % j))) else none := by simp [dMod, dI2]
@[simp] theorem yq (i j : Int) : dLt [.int i, .int j] = some (.sh (.bool (decide (i < j)))) := rfl
@[simp] theorem yr (i j : Int) : dLe [.int i, .int j] = some (.sh (.bool (decide (i <= j)))) := rfl
@[simp] theorem yt (i j : Int) : dGt [.int i, .int j] = some (.sh (.bool (decide (j < i)))) := rfl
@[simp] theorem yu (i j : Int) : dGe [.int i, .int j] = some (.sh (.bool (decide (j <= i)))) := rfl
@[simp] theorem xy (i : Int) : dNeg [.int i] = some (.sh (.int (-i))) := rfl
@[simp] theorem xA (i j : Int) : dMul [.int i, .int j] = if cMul i j = true then some (.sh (.int (i * j))) else none := rfl
@[simp] theorem vZ (xs : zt) (k : Int) : dMul [.list xs, .int k] = if 0 <= k /\ k < 2 ^ 63 /\ xs.length * k.toNat <= sizeLine then some (.ol (List.replicate k.toNat xs).flatten) else none := rfl
@[simp] theorem ze (x y : PyData) : dEq [x, y] = (dEqB x y).map fun b => .sh (.bool b) := rfl
@[simp] theorem zf (x y : PyData) : dNe [x, y] = (dEqB x y).map fun b => .sh (.bool !b) := rfl
@[simp] theorem xB (i j : Int) : dEqB (.int i) (.int j) = some (decide (i = j)) := rfl
@[simp] theorem w8 (i j : Bool) : dEqB (.bool i) (.bool j) = some (decide (i = j)) := rfl
@[simp] theorem xC (i j : Str) : dEqB (.str i) (.str j) = some (decide (i = j)) := rfl
@[simp] theorem w9 (x y : zt) : dEqB (.list x) (.list y) = if SeqAt.shaped (.list x) = true /\ SeqAt.shaped (.list y) = true then some (PyData.eqv (.list x) (.list y)) else none := rfl
@[simp] theorem uY (x y : zt) : dEqB (.tuple x) (.tuple y) = if SeqAt.shaped (.tuple x) = true /\ SeqAt.shaped (.tuple y) = true then some (PyData.eqv (.tuple x) (.tuple y)) else none := rfl
@[simp] theorem yv (x y : PyData) : dIdx [x, y] = (B7 x y).map .sh := rfl
@[simp] theorem uZ (xs : zt) (i : Int) : B7 (.list xs) (.int i) = atI xs i := rfl
@[simp] theorem tX (xs : zt) (i : Int) : B7 (.tuple xs) (.int i) = atI xs i := rfl
@[simp] theorem tY (es : List (PyData × PyData)) (i : Int) : B7 (.dict es) (.int i) = Bn es (.inl i) := rfl
@[simp] theorem yw (x : PyData) (i : Int) : dSlL [x, .int i] = slD x (some i) none := rfl
@[simp] theorem xD (xs : zt) (lo hi : Option Int) : slD (.list xs) lo hi = some (.ol (cutD xs lo hi)) := rfl
@[simp] theorem wa (xs : zt) (lo hi : Option Int) : slD (.tuple xs) lo hi = some (.sh (.tuple (cutD xs lo hi))) := rfl
@[simp] theorem wb (xs : zt) : dLen [.list xs] = some (.sh (.int xs.length)) := rfl
@[simp] theorem v5 (xs : zt) : dLen [.tuple xs] = some (.sh (.int xs.length)) := rfl
@[simp] theorem wc (xs : List (PyData × PyData)) : dLen [.dict xs] = some (.sh (.int xs.length)) := rfl
@[simp] theorem xE (i : Int) : dAbs [.int i] = some (.sh (.int (if i < 0 then -i else i))) := rfl
@[simp] theorem we (i : Int) : AH [.int i] = some (.sh (.int i)) := rfl
@[simp] theorem v7 (i : Bool) : AH [.bool i] = some (.sh (.int (if i then 1 else 0))) := rfl
@[simp] theorem tZ (xs : zt) : AK [.list xs] = some (.sh (.tuple xs)) := rfl
@[simp] theorem sI (xs : zt) : AK [.tuple xs] = some (.sh (.tuple xs)) := rfl
@[simp] theorem yx (xs : zt) : dTup xs = if xs.length <= sizeLine then some (.sh (.tuple xs)) else none := rfl
@[simp] theorem yy (xs : zt) : dLst xs = if xs.length <= sizeLine then some (.ol xs) else none := rfl
@[simp] theorem lu : ∀ ns : List Int, zW (ns.map PyData.int) = some ns
 | [] => rfl
 | n :: r => by simp [zW, lu r]
@[simp] theorem wg (T : String) : dIsi T [.none] = some (.sh (.bool (isiD T .none))) := rfl
@[simp] theorem wj (T : String) (b : Bool) : dIsi T [.bool b] = some (.sh (.bool (isiD T (.bool b)))) := rfl
@[simp] theorem xF (T : String) (i : Int) : dIsi T [.int i] = some (.sh (.bool (isiD T (.int i)))) := rfl
@[simp] theorem xG (T : String) (i : Str) : dIsi T [.str i] = some (.sh (.bool (isiD T (.str i)))) := rfl
@[simp] theorem wk (T : String) (i : zt) : dIsi T [.list i] = some (.sh (.bool (isiD T (.list i)))) := rfl
@[simp] theorem v8 (T : String) (i : zt) : dIsi T [.tuple i] = some (.sh (.bool (isiD T (.tuple i)))) := rfl
@[simp] theorem xH {n : Nat} (h : n <= 1000000) : n <= sizeLine := Nat.le_trans h (by decide)
@[simp] theorem u0 (b : Bool) : Af (.bool b) = some b := rfl
@[simp] theorem v9 (b : Int) : Af (.int b) = some (b != 0) := rfl
@[simp] theorem u3 (b : zt) : Af (.list b) = some (!b.isEmpty) := rfl
@[simp] theorem sJ (b : zt) : Af (.tuple b) = some (!b.isEmpty) := rfl
@[simp] theorem u4 : Af .none = some false := rfl
noncomputable def truO (p : zt × DEnv × DEnv) : Out (Bool × DEnv) := match p.1 with
 | [d] => (match Af d with
  | some b => .ok (b, p.2.1)
  | none => .bad)
 | _ => .bad
@[simp] theorem yz (d : PyData) (δ1 δ2 : DEnv) : truO ([d], δ1, δ2) = match Af d with
  | some b => .ok (b, δ1)
  | none => .bad := rfl
@[simp] theorem yA (o : Opd) (δ : DEnv) : tstO o δ = (opds [o] δ).bind truO := rfl
noncomputable def truV (p : SD × DEnv) : Out (Bool × DEnv) := match p.1 with
 | .sh (.bool b) => .ok (b, p.2)
 | _ => .bad
@[simp] theorem zg (b : Bool) (δ : DEnv) : truV (.sh (.bool b), δ) = .ok (b, δ) := rfl
@[simp] theorem yB (f : DE) (δ : DEnv) : tstV f δ = (f δ).bind truV := rfl
@[simp] theorem wm (f : DT) (δ : DEnv) : A4 f δ = (f δ).bind fun p => .ok (!p.1, p.2) := rfl
@[simp] theorem wo (f g : DT) (δ : DEnv) : AL f g δ = (f δ).bind fun p => if p.1 = true then g p.2 else .ok (false, p.2) := rfl
@[simp] theorem xI (f g : DT) (δ : DEnv) : Ao f g δ = (f δ).bind fun p => if p.1 = true then .ok (true, p.2) else g p.2 := rfl
@[simp] theorem wq (δ : DEnv) : zX δ = .ok (true, δ) := rfl
@[simp] theorem yC (f : DE) (δ : DEnv) : eNot f δ = (f δ).bind fun p => (truV p).bind fun q => .ok (.sh (.bool !q.1), q.2) := by
 unfold eNot
 congr 1
 funext p
 obtain ⟨r, δ'⟩ := p
 cases r with
 | sh d => cases d <;> rfl
 | _ => rfl
@[simp] theorem yD (f g : DE) (δ : DEnv) : eAnd f g δ = (f δ).bind fun p => (truV p).bind fun q => if q.1 = true then g q.2 else .ok (.sh (.bool false), q.2) := by
 unfold eAnd
 congr 1
 funext p
 obtain ⟨r, δ'⟩ := p
 cases r with
 | sh d => cases d <;> rfl
 | _ => rfl
@[simp] theorem zh (f g : DE) (δ : DEnv) : eOr f g δ = (f δ).bind fun p => (truV p).bind fun q => if q.1 = true then .ok (.sh (.bool true), q.2) else g q.2 := by
 unfold eOr
 congr 1
 funext p
 obtain ⟨r, δ'⟩ := p
 cases r with
 | sh d => cases d <;> rfl
 | _ => rfl
@[simp] theorem xJ (φ : zt -> Out SD) (ops : List Opd) (δ : DEnv) : zI φ ops δ = (opds ops δ).bind fun p => (φ p.1).bind fun r => .ok (r, if r.pure = true then p.2.1 else p.2.2) := rfl
noncomputable def SOut.andThen (x : SOut) (g : DS) : SOut := match x with
 | .nx δ => g δ
 | r => r
@[simp] theorem va (δ : DEnv) (g : DS) : (SOut.nx δ).andThen g = g δ := rfl
@[simp] theorem vb (r : SD) (g : DS) : (SOut.rt r).andThen g = .rt r := rfl
@[simp] theorem vc (δ : DEnv) (g : DS) : (SOut.bk δ).andThen g = .bk δ := rfl
@[simp] theorem vd (δ : DEnv) (g : DS) : (SOut.ct δ).andThen g = .ct δ := rfl
@[simp] theorem u5 (x : Str) (g : DS) : (SOut.exc x).andThen g = .exc x := rfl
@[simp] theorem u7 (g : DS) : SOut.bad.andThen g = .bad := rfl
@[simp] theorem yE (f g : DS) (δ : DEnv) : sSeq f g δ = (f δ).andThen g := rfl
noncomputable def Out.elimS {α : Type} (x : Out α) (f : α -> SOut) : SOut := match x with
 | .ok a => f a
 | .exc x => .exc x
 | .bad => .bad
@[simp] theorem xK {α : Type} (a : α) (f : α -> SOut) : (Out.ok a).elimS f = f a := rfl
@[simp] theorem wt {α : Type} (x : Str) (f : α -> SOut) : (Out.exc x : Out α).elimS f = .exc x := rfl
@[simp] theorem wu {α : Type} (f : α -> SOut) : (Out.bad : Out α).elimS f = .bad := rfl
@[simp] theorem xM (δ : DEnv) : zV δ = .nx δ := rfl
@[simp] theorem yF (i : Nat) (f : DE) (δ : DEnv) : sAsg i f δ = (f δ).elimS fun p => if i < p.2.length then .nx (p.2.set i (some p.1)) else .bad := by unfold sAsg; cases f δ <;> rfl
@[simp] theorem xN (f : DE) (δ : DEnv) : Be f δ = (f δ).elimS fun p => .nx p.2 := by unfold Be; cases f δ <;> rfl
@[simp] theorem yG (f : DE) (δ : DEnv) : sRet f δ = (f δ).elimS fun p => .rt p.1 := by unfold sRet; cases f δ <;> rfl
@[simp] theorem zi (t : DT) (f g : DS) (δ : DEnv) : sIf t f g δ = (t δ).elimS fun p => if p.1 = true then f p.2 else g p.2 := by unfold sIf; cases t δ <;> rfl
@[simp] theorem yH (fi : DA) (k : DG) (fb : DS) (δ : DEnv) : sFor fi k fb δ = (fi δ).elimS fun p => forL k fb p.1 p.2 := by unfold sFor; cases fi δ <;> rfl
@[simp] theorem xO (k : DG) (fb : DS) (δ : DEnv) : forL k fb [] δ = .nx δ := rfl
noncomputable def SOut.turn (x : SOut) (g : DS) : SOut := match x with
 | .nx δ => g δ
 | .ct δ => g δ
 | .bk δ => .nx δ
 | .rt r => .rt r
 | .exc x => .exc x
 | .bad => .bad
@[simp] theorem sL (δ : DEnv) (g : DS) : (SOut.nx δ).turn g = g δ := rfl
@[simp] theorem yI (r : SD) (g : DS) : (SOut.rt r).turn g = .rt r := rfl
@[simp] theorem yJ (δ : DEnv) (g : DS) : (SOut.bk δ).turn g = .nx δ := rfl
@[simp] theorem yK (δ : DEnv) (g : DS) : (SOut.ct δ).turn g = g δ := rfl
@[simp] theorem xP (x : Str) (g : DS) : (SOut.exc x).turn g = .exc x := rfl
@[simp] theorem xQ (g : DS) : SOut.bad.turn g = .bad := rfl
theorem dX (k : DG) (fb : DS) (d : PyData) (ds : zt) (δ : DEnv) : forL k fb (d :: ds) δ = match k d δ with
  | none => .bad
  | some δ1 => (fb δ1).turn (forL k fb ds) := by
 rw [forL]
 cases k d δ with
 | none => rfl
 | some δ1 => simp only; cases fb δ1 <;> rfl
@[simp] theorem zr (i : Nat) (d : PyData) (δ : DEnv) : kN i d δ = if i < δ.length then some (δ.set i (some (.sh d))) else none := rfl
@[simp] theorem yL (is : List Nat) (ds : zt) (δ : DEnv) : kTup is (.tuple ds) δ = kNs is ds δ := rfl
@[simp] theorem yM (δ : DEnv) : kNs [] [] δ = some δ := rfl
@[simp] theorem xR (i : Nat) (is : List Nat) (d : PyData) (ds : zt) (δ : DEnv) : kNs (i :: is) (d :: ds) δ = (kN i d δ).bind (kNs is ds) := rfl
noncomputable def seqI (p : PyData × DEnv) : Out (zt × DEnv) := match p.1 with
 | .list xs => .ok (xs, p.2)
 | .tuple xs => .ok (xs, p.2)
 | _ => .bad
@[simp] theorem wx (xs : zt) (δ : DEnv) : seqI (.list xs, δ) = .ok (xs, δ) := rfl
@[simp] theorem ve (xs : zt) (δ : DEnv) : seqI (.tuple xs, δ) = .ok (xs, δ) := rfl
@[simp] theorem iC (f : DE) (δ : DEnv) : AU f δ = (vE f δ).bind seqI := rfl
noncomputable def r1I (p : zt × DEnv × DEnv) : Out (zt × DEnv) := match p.1 with
 | [.int j] => if rngB j = true then .ok (rngI 0 j.toNat, p.2.1) else .bad
 | _ => .bad
@[simp] theorem zj (j : Int) (δ1 δ2 : DEnv) : r1I ([.int j], δ1, δ2) = if rngB j = true then .ok (rngI 0 j.toNat, δ1) else .bad := rfl
@[simp] theorem yN (ops : List Opd) (δ : DEnv) : itR1 ops δ = (opds ops δ).bind r1I := rfl
noncomputable def seqC (p : zt × DEnv × DEnv) : Out (zt × DEnv × DEnv) := match p.1 with
 | [.list xs] => .ok (xs, p.2.1, p.2.2)
 | [.tuple xs] => .ok (xs, p.2.1, p.2.2)
 | _ => .bad
@[simp] theorem wy (xs : zt) (δ1 δ2 : DEnv) : seqC ([.list xs], δ1, δ2) = .ok (xs, δ1, δ2) := rfl
@[simp] theorem vf (xs : zt) (δ1 δ2 : DEnv) : seqC ([.tuple xs], δ1, δ2) = .ok (xs, δ1, δ2) := rfl
@[simp] theorem xS (o : Opd) (δ : DEnv) : As o δ = (opds [o] δ).bind seqC := rfl
@[simp] theorem yO (δ : DEnv) (i : Nat) : isOl δ i = match δ[i]? with
 | some (some (.ol ds)) => some ds
 | _ => none := rfl
@[simp] theorem yP (up : zt -> zt -> Option zt) (i : Nat) (o : Opd) (δ : DEnv) : sMut up i o δ = match isOl δ i with
 | none => .bad
 | some _ => (opds [o] δ).elimS fun p => match isOl p.2.2 i with
   | none => .bad
   | some ds => match up ds p.1 with
    | some ds' => .nx (p.2.2.set i (some (.ol ds')))
    | none => .bad := by unfold sMut; cases isOl δ i <;> first | rfl | (simp only; cases opds [o] δ <;> rfl)
@[simp] theorem xT (ds : zt) (d : PyData) : AI ds [d] = if ds.length < sizeLine then some (ds ++ [d]) else none := rfl
noncomputable def SOut.fin (x : SOut) : Out SD := match x with
 | .nx _ => .ok (.sh .none)
 | .rt r => .ok r
 | .exc x => .exc x
 | _ => .bad
@[simp] theorem zk (δ : DEnv) : (SOut.nx δ).fin = .ok (.sh .none) := rfl
@[simp] theorem zl (r : SD) : (SOut.rt r).fin = .ok r := rfl
@[simp] theorem yQ (x : Str) : (SOut.exc x).fin = .exc x := rfl
@[simp] theorem yR (n m : Nat) (f : DS) (ds : zt) : runB n m f ds = if ds.length = m then (f (start0 n m ds)).fin else .bad := rfl
@[simp] theorem wz (n m : Nat) (ds : zt) : start0 n m ds = ds.map (fun d => some (.sh d)) ++ List.replicate (n - m) none := rfl
@[simp] theorem xU (F : List Nat) (fc : DC) (tc : DT) (te : DE) (δ : DEnv) : Ap F fc tc te δ = (fc δ).bind fun p => if p.1.length <= sizeLine then (match zZ (rhoD F (zK F p.2.2)) tc te p.1 with
 | some ys => .ok (.ol ys, if zA ys = true then p.2.1 else zK F p.2.2)
 | none => .bad) else .bad := rfl
@[simp] theorem yS (F : List Nat) (δ : DEnv) : rhoD F δ = none :: F.map fun j => (δ[j]?).join := rfl
theorem cE {ρ : DEnv} {tc : DT} {te : DE} {b : PyData -> Bool} {y : PyData -> PyData} : ∀ {ds : zt}, (∀ d ∈ ds, ∃ ρ', tc (ρ.set 0 (some (.sh d))) = .ok (b d, ρ') /\ (b d = true -> ∃ ρ'', vE te ρ' = .ok (y d, ρ''))) -> zZ ρ tc te ds = some ((ds.filter b).map y)
 | [], _ => rfl
 | d :: ds, h => by
  obtain ⟨ρ', h1, h2⟩ := h d (List.mem_cons_self ..)
  have ih := cE (ds := ds) fun d' hd => h d' (List.mem_cons_of_mem _ hd)
  rw [zZ, h1]
  dsimp only
  cases hb : b d with
  | true =>
   obtain ⟨ρ'', h3⟩ := h2 hb
   rw [if_pos rfl, h3, ih, List.filter_cons, if_pos hb]
   rfl
  | false => rw [if_neg Bool.false_ne_true, ih, List.filter_cons, if_neg (by rw [hb]; exact Bool.false_ne_true)]
theorem oM {ρ : DEnv} {te : DE} {y : PyData -> PyData} {ds : zt} (h : ∀ d ∈ ds, ∃ ρ'', vE te (ρ.set 0 (some (.sh d))) = .ok (y d, ρ'')) : zZ ρ zX te ds = some (ds.map y) := by
 have := cE (ρ := ρ) (tc := zX) (te := te) (b := fun _ => true) (y := y) (ds := ds) fun d hd => ⟨_, rfl, fun _ => h d hd⟩
 rw [this]
 congr 2
 exact List.filter_eq_self.mpr fun _ _ => rfl
noncomputable def Aa (n : Nat) (d : PyData) : Prop := d.canLay0 = true /\ d.depth <= n
theorem Aa.mono {n m : Nat} {d : PyData} (h : Aa n d) (e : n <= m) : Aa m d := ⟨h.1, Nat.le_trans h.2 e⟩
theorem lx (n : Nat) (i : Int) : Aa n (.int i) := ⟨by simp [PyData.canLay0], by simp [PyData.depth]⟩
theorem oO (n : Nat) (i : Bool) : Aa n (.bool i) := ⟨by simp [PyData.canLay0], by simp [PyData.depth]⟩
theorem bS (n : Nat) (s : Str) (h : PyData.strOk s = true) : Aa n (.str s) := ⟨by simpa [PyData.canLay0] using h, by simp [PyData.depth]⟩
theorem iD {n : Nat} : ∀ {xs : zt}, (∀ x ∈ xs, Aa n x) -> PyData.canLayAll0 xs = true /\ PyData.depthAll xs <= n
 | [], _ => ⟨by simp [PyData.canLayAll0], by simp [PyData.depthAll]⟩
 | x :: r, h => by
  obtain ⟨h1, h2⟩ := iD (n := n) (xs := r) fun y hy => h y (List.mem_cons_of_mem _ hy)
  obtain ⟨g1, g2⟩ := h x (List.mem_cons_self ..)
  exact ⟨by simp [PyData.canLayAll0, g1, h1], by simp only [PyData.depthAll]; lia⟩
theorem ba {n : Nat} {xs : zt} (h : ∀ x ∈ xs, Aa n x) : Aa (n + 1) (.list xs) := by
 obtain ⟨h1, h2⟩ := iD h
 exact ⟨by simpa [PyData.canLay0] using h1, by simp only [PyData.depth]; lia⟩
theorem bI {n : Nat} {xs : zt} (h : ∀ x ∈ xs, Aa n x) : Aa (n + 1) (.tuple xs) := by
 obtain ⟨h1, h2⟩ := iD h
 exact ⟨by simpa [PyData.canLay0] using h1, by simp only [PyData.depth]; lia⟩
theorem Aa.shaped {n : Nat} {d : PyData} (h : Aa n d) (hn : n <= 64) : SeqAt.shaped d = true := by
 unfold SeqAt.shaped
 rw [h.1, Bool.true_and]
 exact decide_eq_true (Nat.le_trans h.2 hn)
theorem dY (n : Nat) (ns : List Int) : ∀ x ∈ ns.map PyData.int, Aa n x := fun x hx => by
 obtain ⟨i, _, rfl⟩ := List.mem_map.mp hx
 exact lx n i
mutual
theorem ly : ∀ d : PyData, d.canLay0 = true -> PyData.eqv d d = true
 | .none, _ => by simp [PyData.eqv]
 | .bool b, _ => by simp [PyData.eqv]
 | .int i, _ => by simp [PyData.eqv]
 | .str x, _ => by simp [PyData.eqv]
 | .list xs, h => by simp only [PyData.eqv]; exact dr xs (by simpa [PyData.canLay0] using h)
 | .tuple xs, h => by simp only [PyData.eqv]; exact dr xs (by simpa [PyData.canLay0] using h)
 | .dict _, h => by simp [PyData.canLay0] at h
theorem dr : ∀ ds : zt, PyData.canLayAll0 ds = true -> PyData.eqvAll ds ds = true
 | [], _ => by simp [PyData.eqvAll]
 | d :: r, h => by
  have h' := Bool.and_eq_true_iff.mp (by simpa [PyData.canLayAll0] using h)
  simp only [PyData.eqvAll, Bool.and_eq_true]
  exact ⟨ly d h'.1, dr r h'.2⟩
end
theorem dZ (xs : zt) : PyData.eqv (.list xs) (.list []) = xs.isEmpty := by
 simp only [PyData.eqv]
 cases xs <;> simp [PyData.eqvAll]
theorem aM {n : Nat} (h : n <= 1000) : n <= sizeLine := Nat.le_trans h (by decide)
theorem bB {n : Nat} (h : n <= 1000) : n < sizeLine := Nat.lt_of_le_of_lt h (by decide)
theorem vg {α : Type} {xs : List α} {i : Int} (h0 : 0 <= i) (h1 : i < xs.length) : atI xs i = some (xs[i.toNat]'(by lia)) := by
 unfold atI ixN
 rw [if_pos h0, if_pos h1]
 exact List.getElem?_eq_getElem (by lia)
theorem nM {i : Int} (h0 : -1000000 <= i) (h1 : i <= 1000000) : rngB i = true := by
 unfold rngB
 exact decide_eq_true ⟨by lia, by lia⟩
def isWh : PyData -> Bool
 | .int _ => true
 | _ => false
theorem xV {d : PyData} (h : ∀ es, d ≠ .dict es) : (isiD "int" d && !isiD "bool" d) = isWh d := by
 cases d <;> first | rfl | exact absurd rfl (h _)
theorem sN {d : PyData} (T : String) (h : ∀ es, d ≠ .dict es) : dIsi T [d] = some (.sh (.bool (isiD T d))) := by
 cases d <;> first | rfl | exact absurd rfl (h _)
def absI (p : Int) : Int := if p < 0 then -p else p
noncomputable def Bp (ns : List Int) (k : Int) : Int := if k < ns.length then ns.getD k.toNat 0 else if ns = [] then 0 else ns.getD (k % ns.length).toNat 0 * 31 + k
noncomputable def Au (ns : List Int) (k : Int) : Int := (Bp ns k + 7919 * k + 1) * 48271 % 2147483647
noncomputable def mixZ (ns : List Int) (k m : Int) : Int := (Au ns k * Au ns k + 7 * Au ns k + k) % 2147483629 % m
theorem oP (ns : List Int) (k : Int) : 0 <= Au ns k := Int.emod_nonneg _ (by decide)
theorem oQ (ns : List Int) (k : Int) : Au ns k < 2147483647 := Int.emod_lt_of_pos _ (by decide)
theorem jZ (ns : List Int) (k : Int) {m : Int} (h : 0 < m) : 0 <= mixZ ns k m := Int.emod_nonneg _ (by lia)
theorem ka (ns : List Int) (k : Int) {m : Int} (h : 0 < m) : mixZ ns k m < m := Int.emod_lt_of_pos _ h
theorem qz {i j : Int} (h0 : -1000000000000 <= j) (h1 : j <= 1000000000000) : cMul i j = true := by
 unfold cMul
 exact decide_eq_true (.inr ⟨by lia, by lia⟩)
theorem qA {i j : Int} (h0 : -1000000000000 <= i) (h1 : i <= 1000000000000) : cMul i j = true := by
 unfold cMul
 exact decide_eq_true (.inl ⟨by lia, by lia⟩)
abbrev scr (ns : List Int) : PyData := .list (ns.map PyData.int)
theorem fH {ns : List Int} {i : Int} (h0 : 0 <= i) (h1 : i < ns.length) : atI (ns.map PyData.int) i = some (.int (ns.getD i.toNat 0)) := by
 rw [vg h0 (by simpa using h1)]
 simp only [List.getElem_map]
 rw [List.getD_eq_getElem?_getD, List.getElem?_eq_getElem (by lia)]
 rfl
theorem iE {k : DG} {fb : DS} (inv : Nat -> DEnv -> Prop) : ∀ (ds : zt) (j : Nat) (δ : DEnv), inv j δ -> (∀ i d δ, ds[i]? = some d -> inv (j + i) δ -> ∃ δ1, k d δ = some δ1 /\ ∃ δ2, fb δ1 = .nx δ2 /\ inv (j + i + 1) δ2) -> ∃ δ', forL k fb ds δ = .nx δ' /\ inv (j + ds.length) δ'
 | [], j, δ, h0, _ => ⟨δ, rfl, h0⟩
 | d :: r, j, δ, h0, hs => by
  obtain ⟨δ1, e1, δ2, e2, h2⟩ := hs 0 d δ rfl h0
  obtain ⟨δ', e3, h3⟩ := iE inv r (j + 1) δ2 h2 fun i d' δ3 e h => by
   have := hs (i + 1) d' δ3 (by simpa using e) (by rw [show j + (i + 1) = j + 1 + i by lia]; exact h)
   rwa [show j + (i + 1) + 1 = j + 1 + i + 1 by lia] at this
  refine ⟨δ', ?_, by rw [List.length_cons, show j + (r.length + 1) = j + 1 + r.length by lia]; exact h3⟩
  rw [dX, e1]
  simp only [e2, sL]
  exact e3
theorem iF {k : DG} {fb : DS} {lo : Int} {n : Nat} {δ : DEnv} (inv : Nat -> DEnv -> Prop) (h0 : inv 0 δ) (hs : ∀ i δ, i < n -> inv i δ -> ∃ δ1, k (.int (lo + i)) δ = some δ1 /\ ∃ δ2, fb δ1 = .nx δ2 /\ inv (i + 1) δ2) : ∃ δ', forL k fb (rngI lo n) δ = .nx δ' /\ inv n δ' := by
 obtain ⟨δ', e, h⟩ := iE (k := k) (fb := fb) inv (rngI lo n) 0 δ h0 fun i d δ e h => by
  have hi : i < n := by have := (List.getElem?_eq_some_iff.mp e).1; rwa [fE] at this
  unfold rngI at e
  rw [List.getElem?_map, List.getElem?_range hi] at e
  cases e
  rw [Nat.zero_add] at h ⊢
  exact hs i δ hi h
 exact ⟨δ', e, by rw [fE, Nat.zero_add] at h; exact h⟩
structure Bq (many : Int) (s : List Int) : Prop where
 rise : (s.map absI).Pairwise (· < ·)
 low : ∀ p ∈ s, 1 <= absI p /\ absI p <= many
noncomputable def encS (s : List Int) : PyData := .tuple (s.map PyData.int)
def zM (ss : List (List Int)) : zt := ss.map encS
@[simp] theorem iG (s : List Int) : zC (encS s) = true := by unfold encS; rw [lr]; exact aP s
@[simp] theorem cV (ss : List (List Int)) : zA (zM ss) = true := by
 unfold zM
 induction ss with
 | nil => exact mG
 | cons s r ih => rw [List.map_cons, gz, iG, ih]; rfl
@[simp] theorem jB (ss : List (List Int)) : (zM ss).length = ss.length := by unfold zM; rw [List.length_map]
end L2
namespace L2
open PySem PySem.W PyProof.Rows
noncomputable def wpL (lt : Nat -> Nat -> Bool) (n : Nat) {α : Type} : KasT α -> (α -> Prop) -> Prop
 | .ret a, Q => Q a
 | .ask i j k, Q => i < n /\ j < n /\ wpL lt n (k (lt i j)) Q
theorem cF {lt : Nat -> Nat -> Bool} {n : Nat} {α β : Type} {f : α -> KasT β} {Q : β -> Prop} : ∀ (t : KasT α), wpL lt n t (fun a => wpL lt n (f a) Q) -> wpL lt n (t.bind f) Q
 | .ret _, h => h
 | .ask _ _ k, h => ⟨h.1, h.2.1, cF (k _) h.2.2⟩
theorem nN {lt : Nat -> Nat -> Bool} {n : Nat} {α : Type} {cmp : Nat -> Nat -> (Bool -> Shared -> Prop) -> Shared -> Prop} {s : Shared} (hc : ∀ i j C, i < n -> j < n -> C (lt i j) s -> cmp i j C s) {Q : α -> Shared -> Prop} :
  ∀ (t : KasT α), wpL lt n t (fun a => Q a s) -> t.kasWp cmp Q s
 | .ret _, h => h
 | .ask i j k, h => hc i j _ h.1 h.2.1 (nN hc (k _) h.2.2)
section
variable {lt : Nat -> Nat -> Bool} {n : Nat} (tr : ∀ i j k, lt j i = false -> lt k j = false -> lt k i = false) (as : ∀ i j, lt i j = true -> lt j i = false)
noncomputable def Rises (lt : Nat -> Nat -> Bool) (p : Array Nat) (k : Nat) : Prop := ∀ i j, i <= j -> j < k -> lt (p.getD j 0) (p.getD i 0) = false
noncomputable def Falls (lt : Nat -> Nat -> Bool) (p : Array Nat) (k : Nat) : Prop := ∀ i j, i <= j -> j < k -> lt (p.getD i 0) (p.getD j 0) = false
structure Tab (n : Nat) (p : Array Nat) : Prop where
 size : p.size = n
 perm : p.Perm (List.range n).toArray
theorem Tab.low {p : Array Nat} (h : Tab n p) {i : Nat} (hi : i < n) : p.getD i 0 < n := by
 have hs : i < p.size := by rw [h.size]; exact hi
 have e : p.getD i 0 = p[i] := by simp [Array.getD, hs]
 have hm : p[i] ∈ p := Array.getElem_mem hs
 have := h.perm.mem_iff.mp hm
 rw [e]
 simpa using this
theorem aW {p : Array Nat} {i j : Nat} (hj : j <= p.size) (k : Nat) : (kas_rev p i j).getD k 0 = if i <= k /\ k < j then p.getD (i + j - 1 - k) 0 else p.getD k 0 := by
 have e := getElem?_mirror_all (i := i) hj k
 unfold kas_rev
 simp only [Array.getD_eq_getD_getElem?]
 rw [e]
 split <;> rfl
theorem gA {p : Array Nat} {src d : Nat} (hs : src < p.size) (hd : d <= src) (k : Nat) : (bubble p src d).getD k 0 = if k = src - d then p.getD src 0 else if src - d < k /\ k <= src then p.getD (k - 1) 0 else p.getD k 0 := by
 have e := getElem?_bubble hs d hd k
 simp only [Array.getD_eq_getD_getElem?]
 rw [e]
 repeat' split
 all_goals rfl
theorem Tab.rev {p : Array Nat} (h : Tab n p) (i j : Nat) : Tab n (kas_rev p i j) := ⟨by unfold kas_rev; rw [mirror_size]; exact h.size, (mirror_perm _ _ _ _).trans h.perm⟩
theorem Tab.bub {p : Array Nat} (h : Tab n p) (i j : Nat) : Tab n (bubble p i j) := ⟨by rw [bubble_size]; exact h.size, (bubble_perm _ _ _).trans h.perm⟩
theorem Falls.rev {p : Array Nat} {k : Nat} (h : Falls lt p k) (hk : k <= p.size) : Rises lt (kas_rev p 0 k) k := fun i j hij hj => by
 rw [aW hk, aW hk, if_pos ⟨Nat.zero_le _, hj⟩, if_pos ⟨Nat.zero_le _, by lia⟩]
 exact h _ _ (by lia) (by lia)
include tr
theorem Rises.more {p : Array Nat} {k : Nat} (h : Rises lt p k) (hk : 1 <= k) (e : lt (p.getD k 0) (p.getD (k - 1) 0) = false) (ir : lt (p.getD k 0) (p.getD k 0) = false) : Rises lt p (k + 1) := fun i j hij hj => by
 by_cases hj' : j < k
 ·exact h i j hij hj'
 ·have : j = k := by lia
  subst this
  by_cases hi : i = j
  ·subst hi; exact ir
  ·exact tr _ _ _ (h i (j - 1) (by lia) (by lia)) e
theorem Falls.more {p : Array Nat} {k : Nat} (h : Falls lt p k) (hk : 1 <= k) (e : lt (p.getD (k - 1) 0) (p.getD k 0) = false) (ir : lt (p.getD k 0) (p.getD k 0) = false) : Falls lt p (k + 1) := fun i j hij hj => by
 by_cases hj' : j < k
 ·exact h i j hij hj'
 ·have : j = k := by lia
  subst this
  by_cases hi : i = j
  ·subst hi; exact ir
  ·exact tr _ _ _ e (h i (j - 1) (by lia) (by lia))
include as
theorem irr (i : Nat) : lt i i = false := by
 cases h : lt i i with
 | false => rfl
 | true => exact (as i i h).symm ▸ h ▸ rfl
theorem mH {p : Array Nat} (T : Tab n p) {Q : Nat -> Prop} : ∀ (f k : Nat), 1 <= k -> k + f <= n -> Rises lt p k -> (∀ m, k <= m -> m <= k + f -> Rises lt p m -> (m < k + f -> lt (p.getD m 0) (p.getD (m - 1) 0) = true) -> Q m) -> wpL lt n (kas_asc p f k) Q
 | 0, k, h1, h2, hr, hq => hq k (Nat.le_refl _) (by lia) hr (fun z => by lia)
 | f + 1, k, h1, h2, hr, hq => by
  refine ⟨T.low (by lia), T.low (by lia), ?_⟩
  dsimp only
  by_cases hc : lt (p.getD k 0) (p.getD (k - 1) 0) = true
  ·rw [if_pos hc]
   exact hq k (Nat.le_refl _) (by lia) hr fun _ => hc
  ·rw [if_neg hc]
   have hc' : lt (p.getD k 0) (p.getD (k - 1) 0) = false := by simpa using hc
   exact mH T f (k + 1) (by lia) (by lia) (hr.more tr h1 hc' (irr tr as _)) fun m a1 a2 a3 a4 => hq m (by lia) (by lia) a3 fun z => a4 (by lia)
noncomputable def Alike (lt : Nat -> Nat -> Bool) (p : Array Nat) (k q : Nat) : Prop := q + 1 <= k /\ ∀ i j, k - (q + 1) <= i -> i < k -> k - (q + 1) <= j -> j < k -> lt (p.getD i 0) (p.getD j 0) = false
theorem Alike.rev {p : Array Nat} {k q : Nat} (h : Alike lt p k q) (hf : Falls lt p k) (hk : k <= p.size) : Falls lt (kas_rev p (k - (q + 1)) k) k := fun i j hij hj => by
 have hq := h.1
 have key : ∀ x, x < k -> ∃ y, y < k /\ (kas_rev p (k - (q + 1)) k).getD x 0 = p.getD y 0 /\ ((k - (q + 1) <= x /\ k - (q + 1) <= y) \/ (x < k - (q + 1) /\ y = x)) := fun x hx => by
  rw [aW hk]
  by_cases hc : k - (q + 1) <= x /\ x < k
  ·rw [if_pos hc]; exact ⟨_, by lia, rfl, .inl ⟨hc.1, by lia⟩⟩
  ·rw [if_neg hc]; exact ⟨x, hx, rfl, .inr ⟨by lia, rfl⟩⟩
 obtain ⟨a, ha, ea, ca⟩ := key i (by lia)
 obtain ⟨b, hb, eb, cb⟩ := key j hj
 rw [ea, eb]
 rcases ca with ca | ca
 ·rcases cb with cb | cb
  ·exact h.2 a b ca.2 ha cb.2 hb
  ·lia
 ·exact hf a b (by rcases cb with cb | cb <;> lia) hb
theorem gO {Q : Array Nat × Nat × Nat -> Prop} : ∀ (f : Nat) (p : Array Nat) (k q : Nat), Tab n p -> 1 <= k -> k + f <= n -> Falls lt p k -> Alike lt p k q -> (∀ p' m q', Tab n p' -> 1 <= m -> m <= n -> Falls lt p' m -> Alike lt p' m q' -> Q (p', m, q')) -> wpL lt n (kas_desc f p k q) Q
 | 0, p, k, q, T, h1, h2, hf, ha, hq => hq p k q T h1 (by lia) hf ha
 | f + 1, p, k, q, T, h1, h2, hf, ha, hq => by
  refine ⟨T.low (by lia), T.low (by lia), ?_⟩
  dsimp only
  have hsz := T.size
  by_cases hc : lt (p.getD k 0) (p.getD (k - 1) 0) = true
  ·rw [if_pos hc]
   have one : ∀ p' : Array Nat, Alike lt p' (k + 1) 0 := fun p' => ⟨by lia, fun i j a1 a2 a3 a4 => by
    have : i = j := by lia
    subst this
    exact irr tr as _⟩
   by_cases hqp : q > 0
   ·rw [if_pos hqp]
    have hr := ha.rev tr as hf (by lia)
    have hq1 := ha.1
    have e1 : (kas_rev p (k - (q + 1)) k).getD k 0 = p.getD k 0 := by rw [aW (by lia), if_neg (by lia)]
    have e2 : (kas_rev p (k - (q + 1)) k).getD (k - 1) 0 = p.getD (k - (q + 1)) 0 := by rw [aW (by lia), if_pos (by lia)]; congr 1; lia
    refine gO f _ (k + 1) 0 (T.rev _ _) (by lia) (by lia) (hr.more tr h1 ?_ (irr tr as _)) (one _) hq
    rw [e1, e2]
    exact tr _ _ _ (as _ _ hc) (ha.2 _ _ (by lia) (by lia) (by lia) (by lia))
   ·rw [if_neg hqp]
    exact gO f p (k + 1) 0 T (by lia) (by lia) (hf.more tr h1 (as _ _ hc) (irr tr as _)) (one _) hq
  ·rw [if_neg hc]
   have hc' : lt (p.getD k 0) (p.getD (k - 1) 0) = false := by simpa using hc
   refine ⟨T.low (by lia), T.low (by lia), ?_⟩
   dsimp only
   by_cases hd : lt (p.getD (k - 1) 0) (p.getD k 0) = true
   ·rw [if_pos hd]
    exact hq p k q T h1 (by lia) hf ha
   ·rw [if_neg hd]
    have hd' : lt (p.getD (k - 1) 0) (p.getD k 0) = false := by simpa using hd
    refine gO f p (k + 1) (q + 1) T (by lia) (by lia) (hf.more tr h1 hd' (irr tr as _)) ⟨by have := ha.1; lia, fun i j a1 a2 a3 a4 => ?_⟩ hq
    have hq1 := ha.1
    by_cases hi : i < k
    ·by_cases hj : j < k
     ·exact ha.2 i j (by lia) hi (by lia) hj
     ·have : j = k := by lia
      subst this
      exact tr _ _ _ hd' (ha.2 i (j - 1) (by lia) hi (by lia) (by lia))
    ·have : i = k := by lia
     subst this
     by_cases hj : j < i
     ·exact tr _ _ _ (ha.2 (i - 1) j (by lia) (by lia) (by lia) hj) hc'
     ·have : j = i := by lia
      subst this
      exact irr tr as _
theorem nO {p : Array Nat} (T : Tab n p) {k : Nat} (h1 : 1 <= k) (h2 : k <= n) (hf : Falls lt p k) {Q : Nat × Array Nat -> Prop} (hq : ∀ m p', Tab n p' -> 1 <= m -> m <= n -> Rises lt p' m -> Q (m, p')) : wpL lt n (kas_tail3 k n p) Q := by
 have hsz := T.size
 exact cF _ (mH tr as (T.rev 0 k) (n - k) k h1 (by lia) (hf.rev (by lia)) fun m a1 a2 a3 _ => hq m _ (T.rev 0 k) (by lia) (by lia) a3)
theorem gB {p : Array Nat} (T : Tab n p) {k : Nat} (h1 : 1 <= k) (h2 : k + 1 <= n) (hf : Falls lt p (k + 1)) {Q : Nat × Array Nat -> Prop} (hq : ∀ m p', Tab n p' -> 1 <= m -> m <= n -> Rises lt p' m -> Q (m, p')) : wpL lt n (kas_descPart k n p) Q := by
 refine cF _ (gO tr as (n - (k + 1)) p (k + 1) 0 T (by lia) (by lia) hf ⟨by lia, fun i j a1 a2 a3 a4 => ?_⟩ fun p' m q' T' m1 m2 f' al => ?_)
 ·have : i = j := by lia
  subst this
  exact irr tr as _
 ·show wpL lt n (if q' > 0 then kas_tail3 m n (kas_rev p' (m - (q' + 1)) m) else kas_tail3 m n p') Q
  have hsz := T'.size
  split
  ·exact nO tr as (T'.rev _ _) m1 m2 (al.rev tr as f' (by lia)) hq
  ·exact nO tr as T' m1 m2 f' hq
theorem qB {p : Array Nat} (T : Tab n p) (h1 : 1 <= n) {Q : Nat × Array Nat -> Prop} (hq : ∀ m p', Tab n p' -> 1 <= m -> m <= n -> Rises lt p' m -> Q (m, p')) : wpL lt n (kas_count n p) Q := by
 have hsz := T.size
 refine cF _ (mH tr as T (n - 1) 1 (Nat.le_refl _) (by lia) (fun i j a1 a2 => ?_) fun m a1 a2 a3 a4 => ?_)
 ·have : i = j := by lia
  subst this
  exact irr tr as _
 ·show wpL lt n (if (m == n) = true then KasT.ret (m, p) else if m > 1 then KasT.ask (p.getD 0 0) (p.getD (m - 1) 0) fun c => if c = true then KasT.ret (m, p) else kas_descPart m n (kas_rev p 0 m) else kas_descPart m n p) Q
  by_cases e1 : (m == n) = true
  ·rw [if_pos e1]; exact hq m p T a1 (by lia) a3
  ·rw [if_neg e1]
   have hne : m ≠ n := by simpa using e1
   have hlt := a4 (by lia)
   by_cases e2 : m > 1
   ·rw [if_pos e2]
    refine ⟨T.low (by lia), T.low (by lia), ?_⟩
    dsimp only
    by_cases hc : lt (p.getD 0 0) (p.getD (m - 1) 0) = true
    ·rw [if_pos hc]; exact hq m p T a1 (by lia) a3
    ·rw [if_neg hc]
     have hc' : lt (p.getD 0 0) (p.getD (m - 1) 0) = false := by simpa using hc
     have same : ∀ i j, i < m -> j < m -> lt (p.getD i 0) (p.getD j 0) = false := fun i j hi hj =>
      tr _ _ _ (tr _ _ _ (a3 j (m - 1) (by lia) (by lia)) hc') (a3 0 i (by lia) hi)
     refine gB tr as (T.rev 0 m) a1 (by lia) (Falls.more tr (fun i j b1 b2 => ?_) a1 ?_ (irr tr as _)) hq
     ·rw [aW (by lia), aW (by lia), if_pos (by lia), if_pos (by lia)]
      exact same _ _ (by lia) (by lia)
     ·rw [aW (by lia), aW (by lia), if_pos (by lia), if_neg (by lia)]
      exact tr _ _ _ (as _ _ hlt) (same _ _ (by lia) (by lia))
   ·rw [if_neg e2]
    have : m = 1 := by lia
    subst this
    exact gB tr as T (Nat.le_refl _) (by lia) (Falls.more tr (fun i j b1 b2 => by
     have : i = j := by lia
     subst this
     exact irr tr as _) (Nat.le_refl _) (as _ _ hlt) (irr tr as _)) hq
theorem iH {p : Array Nat} (T : Tab n p) {k : Nat} (hk : k < n) (hr : Rises lt p k) {Q : Nat -> Prop} (hq : ∀ l, l <= k -> (∀ i, i < l -> lt (p.getD k 0) (p.getD i 0) = false) -> (∀ i, l <= i -> i < k -> lt (p.getD k 0) (p.getD i 0) = true) -> Q l) :
  ∀ (f l r : Nat), l <= r -> r <= k -> r - l <= f -> (∀ i, i < l -> lt (p.getD k 0) (p.getD i 0) = false) -> (∀ i, r <= i -> i < k -> lt (p.getD k 0) (p.getD i 0) = true) -> wpL lt n (kas_place p k f l r) Q
 | 0, l, r, h1, h2, h3, ha, hb => by
  have : l = r := by lia
  subst this
  exact hq l h2 ha hb
 | f + 1, l, r, h1, h2, h3, ha, hb => by
  show wpL lt n (if l ≥ r then KasT.ret l else KasT.ask (p.getD k 0) (p.getD ((l + r) / 2) 0) fun c => if c = true then kas_place p k f l ((l + r) / 2) else kas_place p k f ((l + r) / 2 + 1) r) Q
  by_cases hlr : l ≥ r
  ·rw [if_pos hlr]
   have : l = r := by lia
   subst this
   exact hq l h2 ha hb
  ·rw [if_neg hlr]
   refine ⟨T.low hk, T.low (by lia), ?_⟩
   dsimp only
   by_cases hc : lt (p.getD k 0) (p.getD ((l + r) / 2) 0) = true
   ·rw [if_pos hc]
    refine iH T hk hr hq f l ((l + r) / 2) (by lia) (by lia) (by lia) ha fun i a1 a2 => ?_
    cases e : lt (p.getD k 0) (p.getD i 0) with
    | true => rfl
    | false =>
     have := tr _ _ _ (hr ((l + r) / 2) i a1 a2) e
     rw [hc] at this
     cases this
   ·rw [if_neg hc]
    have hc' : lt (p.getD k 0) (p.getD ((l + r) / 2) 0) = false := by simpa using hc
    exact iH T hk hr hq f ((l + r) / 2 + 1) r (by lia) h2 (by lia) (fun i a1 => tr _ _ _ (hr i ((l + r) / 2) (by lia) (by lia)) hc') hb
theorem qC {Q : Array Nat -> Prop} (hq : ∀ p, Tab n p -> Rises lt p n -> Q p) : ∀ (f : Nat) (p : Array Nat) (k : Nat), Tab n p -> k + f = n -> Rises lt p k -> wpL lt n (kas_bin f p k) Q
  | 0, p, k, T, h, hr => hq p T (by have : k = n := by lia
                                    exact this ▸ hr)
  | f + 1, p, k, T, h, hr => by
    have hsz := T.size
    refine cF _ (iH tr as T (by lia) hr (fun l hl ha hb => ?_) k 0 k (Nat.zero_le _) (Nat.le_refl _) (by lia) (fun i z => by lia) fun i a1 a2 => by lia)
    refine qC hq f _ (k + 1) (T.bub _ _) (by lia) fun i j hij hj => ?_
    have hkl : k - (k - l) = l := by lia
    rw [gA (by lia) (by lia), gA (by lia) (by lia), hkl]
    by_cases hj1 : j = l
    · rw [if_pos hj1]
      by_cases hi1 : i = l
      · rw [if_pos hi1]; exact irr tr as _
      · rw [if_neg hi1, if_neg (by lia)]
        exact ha i (by lia)
    · rw [if_neg hj1]
      by_cases hi1 : i = l
      · rw [if_pos hi1, if_pos (by lia)]
        exact as _ _ (hb (j - 1) (by lia) (by lia))
      · rw [if_neg hi1]
        by_cases hj2 : l < j /\ j <= k
        · rw [if_pos hj2]
          by_cases hi2 : l < i /\ i <= k
          · rw [if_pos hi2]; exact hr _ _ (by lia) (by lia)
          · rw [if_neg hi2]; exact hr _ _ (by lia) (by lia)
        · rw [if_neg hj2, if_neg (by lia)]
          exact hr _ _ hij (by lia)
theorem sO (h1 : 1 <= n) {Q : Array Nat -> Prop} (hq : ∀ p, Tab n p -> Rises lt p n -> Q p) : wpL lt n (kas_sort n) Q := by
 have T0 : Tab n (List.range n).toArray := ⟨by simp, .refl _⟩
 refine cF _ (qB tr as T0 h1 fun m p T m1 m2 hr => ?_)
 show wpL lt n (if m < n then kas_bin (n - max m 1) p (max m 1) else KasT.ret p) Q
 by_cases h : m < n
 ·rw [if_pos h]
  have e : max m 1 = m := by lia
  rw [e]
  exact qC tr as hq (n - m) p m T (by lia) hr
 ·rw [if_neg h]
  have : m = n := by lia
  subst this
  exact hq p T hr
end
open PySem.Spec
open HT (lexLt)
section
open PySem.SeqAt
open PySem.AutoSeq1 (wpAny_loadPart')
open PySem.MeetsSeq PySem.MeetsSeq2 PySem.MeetsSeq3
theorem fI {vs : List Value} {ns : List Int} (h : IntsAre vs ns) : ∀ {i : Nat}, i < vs.length -> ∃ a t, vs[i]? = some (.int a t) /\ ns.drop i = a :: ns.drop (i + 1) := by
 induction h with
 | nil => intro i h; cases h
 | cons a t _ ih =>
  intro i hi
  cases i with
  | zero => exact ⟨a, t, rfl, rfl⟩
  | succ i => exact ih (by simpa using hi)
theorem kb (l b : Addr) (items items2 : Array Value) (n n2 : Nat) (dd dd2 : Option Addr) (sl sl2 : Array (Option Value)) (ns ms : List Int) (hi : IntsAre items.toList ns) (hj : IntsAre items2.toList ms) (k : Nat) :
  ∀ i : Nat, items.size - i = k -> Meets (Builtin.«list.__eq__.loop» ⟨[.ref l, .ref b, rawInt i, rawInt 0], []⟩)
   (fun A R s => i <= items.size /\ i <= items2.size /\ s.heap.get? l = some { cls := .type "list", dict := dd, data := .seq items n, slots := sl } /\ s.heap.get? b = some { cls := .type "list", dict := dd2, data := .seq items2 n2, slots := sl2 } /\
    R (.ok (.ret (.bool (lexLt (ns.drop i) (ms.drop i))))) s) := by
 have z1 : ns.length = items.size := by rw [<- hi.length]; simp
 have z2 : ms.length = items2.size := by rw [<- hj.length]; simp
 have fin : ∀ i : Nat, i <= items.size -> i <= items2.size -> (i = items.size \/ i = items2.size) -> lexLt (ns.drop i) (ms.drop i) = decide (items.size < items2.size) := by
  intro i a1 a2 h
  rcases h with h | h
  ·rw [List.drop_of_length_le (by lia)]
   by_cases h2 : i < items2.size
   ·obtain ⟨a, t, _, e⟩ := fI hj (i := i) (by simpa using h2)
    rw [e]
    simp only [HT.hW]
    exact (decide_eq_true (by lia)).symm
   ·rw [List.drop_of_length_le (by lia)]
    simp only [HT.eu]
    exact (decide_eq_false (by lia)).symm
  ·rw [List.drop_of_length_le (l := ms) (by lia)]
   by_cases h2 : i < items.size
   ·obtain ⟨a, t, _, e⟩ := fI hi (i := i) (by simpa using h2)
    rw [e]
    simp only [HT.hX]
    exact (decide_eq_false (by lia)).symm
   ·rw [List.drop_of_length_le (by lia)]
    simp only [HT.eu]
    exact (decide_eq_false (by lia)).symm
 induction k with
 | zero =>
  intro i hk prog w A R s h
  obtain ⟨hp, g, d, tk, os⟩ := s; obtain ⟨a1, a2, hl, hb, h⟩ := h
  wp_walk using wpAny_loadPart' hl, wpAny_loadPart' hb
  have hi1 : items[((i : Nat) : Int).toNat]? = none := by simp; lia
  rw [fin i a1 a2 (.inl (by lia))] at h
  rw [hi1]
  wp_walk using wpAny_loadPart' hl, wpAny_loadPart' hb
  exact h
 | succ k ih =>
  intro i hk prog w A R s h
  obtain ⟨hp, g, d, tk, os⟩ := s; obtain ⟨a1, a2, hl, hb, h⟩ := h
  wp_walk using wpAny_loadPart' hl, wpAny_loadPart' hb
  have hlt : i < items.size := by lia
  by_cases hlt2 : i < items2.size
  ·obtain ⟨a, t, e1, d1⟩ := fI hi (i := i) (by simpa using hlt)
   obtain ⟨c, u, e2, d2⟩ := fI hj (i := i) (by simpa using hlt2)
   have hi1 : items[((i : Nat) : Int).toNat]? = some (.int a t) := by simpa using e1
   have hi2 : items2[((i : Nat) : Int).toNat]? = some (.int c u) := by simpa using e2
   have hc : ((i : Int) + 1) = ((i + 1 : Nat) : Int) := by push_cast; rfl
   rw [d1, d2, HT.hJ] at h
   rw [hi1, hi2]
   obtain ⟨e, he, hiff⟩ := HT.pR A.in1 ⟨hp, g, d, tk, os⟩ a t c u
   refine wpAny_bind (he prog w _ _ ?_)
   cases e with
   | true =>
    rw [if_pos (hiff.mp rfl)] at h
    wp_walk
    rw [hc]
    exact ⟨plainId_quiet plain_eq_loop _, codeAny_builtin entry_eq_loop (by
     rw [Around.under_plainId plain_eq_loop _]
     exact ih (i + 1) (by lia) prog w A R _ ⟨by lia, by lia, hl, hb, h⟩)⟩
   | false =>
    rw [if_neg (fun q => absurd (hiff.mpr q) Bool.false_ne_true)] at h
    have hri := HT.pU A.in1 ⟨hp, g, d, tk, os⟩ a t c u prog w
    wp_walk using wpAny_loadPart' hl, wpAny_loadPart' hb
    rw [hi1, hi2]
    wp_walk using hri
    exact h
  ·have hi2 : items2[((i : Nat) : Int).toNat]? = none := by simp; lia
   rw [fin i a1 a2 (.inr (by lia))] at h
   obtain ⟨a, t, e1, d1⟩ := fI hi (i := i) (by simpa using hlt)
   have hi1 : items[((i : Nat) : Int).toNat]? = some (.int a t) := by simpa using e1
   rw [hi1, hi2]
   wp_walk using wpAny_loadPart' hl, wpAny_loadPart' hb
   exact h
theorem kc (l b : Addr) (items items2 : Array Value) (n n2 : Nat) (dd dd2 : Option Addr) (sl sl2 : Array (Option Value)) (ns ms : List Int) (hi : IntsAre items.toList ns) (hj : IntsAre items2.toList ms) :
  Meets (Builtin.«list.__lt__» ⟨[.ref l, .ref b], []⟩)
   (fun _ R s => s.heap.get? l = some { cls := .type "list", dict := dd, data := .seq items n, slots := sl } /\ s.heap.get? b = some { cls := .type "list", dict := dd2, data := .seq items2 n2, slots := sl2 } /\
    R (.ok (.ret (.bool (lexLt ns ms)))) s) :=
 fun prog w A R s h => by
  obtain ⟨hp, g, d, tk, os⟩ := s; obtain ⟨hl, hb, h⟩ := h
  have f2 := AutoSeq1.sub_list_list
  wp_walk using wpAny_loadPart' hl, wpAny_loadPart' hb
  exact ⟨plainId_quiet plain_eq_loop _, codeAny_builtin entry_eq_loop (by
    rw [Around.under_plainId plain_eq_loop _]
    exact kb l b items items2 n n2 dd dd2 sl sl2 ns ms hi hj _ 0 rfl prog w A R _ ⟨Nat.zero_le _, Nat.zero_le _, hl, hb, h⟩)⟩
end
section
variable {prog : Program} {w : World} {A : Around} {E : zx} {s : Shared}
theorem lz {l b : Addr} {its its2 : Array Value} {ns ms : List Int} {Q : Bool -> Shared -> Prop} (hu : A.units < cLine) (hl : s.heap.IsList l its) (hb : s.heap.IsList b its2) (hi : IntsAre its.toList ns) (hj : IntsAre its2.toList ms)
  (h : Q (lexLt ns ms) s) : wpAny (model prog w) A (keyLt' oneType' (.ref l) (.ref b)) Q E s := by
 rw [keyLt'_oneType, oneLt'_eq]
 simp only [if_true]
 obtain ⟨⟨cls, dd, data, sl⟩, ho, hc, n, hd⟩ := id hl
 obtain ⟨⟨cls2, dd2, data2, sl2⟩, ho2, hc2, n2, hd2⟩ := id hb
 simp only at hc hd hc2 hd2
 subst hc hd hc2 hd2
 refine wpAny_bind (wpAny_cRoomFor hu ?_)
 refine wpAny_bind (wpAny_callSpecialIfBound?_slot ⟨_, ho, rfl⟩ PySem.F.slot_list_lt (call_meets PySem.F.slot_list_lt ⟨_, ho, rfl⟩ PySem.F.entry_list_lt (PySem.F.args_list_lt_2 _ _) (kc l b its its2 n n2 dd dd2 sl sl2 ns ms hi hj) ⟨ho, ho2, ?_⟩))
 exact wpAny_truthy_bool h
theorem ke {a : Addr} {vs : List Value} {n : Nat} {T : Value} {lt : Nat -> Nat -> Bool} {P : PySem.Fin -> Shared -> Prop} (ho : s.heap.get? a = some (seqObj "list" vs.toArray n)) (h64 : vs.length < 64)
  (tr : ∀ i j k, lt j i = false -> lt k j = false -> lt k i = false) (as : ∀ i j, lt i j = true -> lt j i = false)
  (hT : ∀ h' : Heap, (∀ b o, b ≠ a -> s.heap.get? b = some o -> h'.get? b = some o) -> ∀ v ∈ vs, Looks (model prog w) h' (typeOf v) T) (hT1 : (T != Value.type "tuple") = true) (hT2 : (T == T) = true)
  (hc : ∀ h' : Heap, (∀ b o, b ≠ a -> s.heap.get? b = some o -> h'.get? b = some o) -> ∀ i j (C : Bool -> Shared -> Prop), i < vs.length -> j < vs.length -> C (lt i j) { s with heap := h' } ->
   wpAny (model prog w) A (keyLt' oneType' (vs.getD i Value.none) (vs.getD j Value.none)) C (fun _ _ => False) { s with heap := h' })
  (h : ∀ p : Array Nat, Tab vs.length p -> Rises lt p vs.length -> P (.done (.ret .none)) { s with heap := sortedHeap s.heap a vs (List.toArray (p.toList.map fun i => vs.getD i Value.none)) }) :
  wpAny (model prog w) A (Builtin.«list.sort» ⟨[.ref a], []⟩) P E s := by
 rw [list_sort_plain]
 have ha : a < s.heap.objs.size := Heap.lt_size ho
 refine wpAny_bind (listItems_at ho rfl ?_)
 refine wpAny_bind (listUpdate_at ho rfl ?_ (by rw [List.size_toArray, sizeLine_eq]; lia) (Nat.zero_le _))
 obtain ⟨e1, ho1⟩ : ∃ e1, (s.heap.update a (Obj.mapSeq fun _ => #[])).get? a = some (seqObj "list" #[] e1) := ⟨_, get?_update_seq ho (fun _ => #[])⟩
 refine wpAny_bind (seqEpoch_at ho1 rfl ?_)
 refine wpAny_bind (wpAny_newTuple ?_ (by show vs.length <= _; rw [sizeLine_eq]; lia))
 refine wpAny_bind (wpAny_newList ?_ (Nat.zero_le _))
 refine wpAny_holding ?_
 have ho6 : (((s.heap.update a (Obj.mapSeq fun _ => #[])).push (seqObj "tuple" vs.toArray 0)).push (seqObj "list" #[] 0)).get? a = some (seqObj "list" #[] e1) := by
  rw [Heap.get?_push_ne _ _ _ (by rw [size_push', Heap.size_update]; exact Nat.ne_of_lt (Nat.lt_succ_of_lt ha)), Heap.get?_push_ne _ _ _ (by rw [Heap.size_update]; exact Nat.ne_of_lt ha)]
  exact ho1
 have keep : ∀ b o, b ≠ a -> s.heap.get? b = some o -> (((s.heap.update a (Obj.mapSeq fun _ => (#[] : Array Value))).push (seqObj "tuple" vs.toArray 0)).push (seqObj "list" #[] 0)).get? b = some o := fun b o hb q =>
  Heap.get?_push_of_some _ (Heap.get?_push_of_some _ (by rw [Heap.get?_update_ne _ _ _ _ hb]; exact q))
 show wpAny (model prog w) A _ P E { s with heap := ((s.heap.update a (Obj.mapSeq fun _ => #[])).push (seqObj "tuple" vs.toArray 0)).push (seqObj "list" #[] 0) }
 dsimp only
 by_cases h2 : vs.length < 2
 ·have h2' : vs.toArray.size < 2 := by rw [List.size_toArray]; exact h2
  rw [if_pos h2', if_pos h2']
  refine wpAny_bind (wpAny_pure ?_)
  rw [StateT.run_pure]
  refine wpAny_bind (wpAny_pure ?_)
  dsimp only
  refine wpAny_bind (seqEpoch_at ho6 rfl ?_)
  refine wpAny_bind (listUpdate_at ho6 rfl ?_ (Nat.zero_le _) (by rw [Array.size_map]; show (pairsOf vs).size <= _; rw [pairsOf_size, sizeLine_eq]; lia))
  simp only [bne_self_eq_false, Bool.false_eq_true, if_false]
  have hp := h (List.range vs.length).toArray ⟨by simp, .refl _⟩ (fun i j hij hj => by
   have : i = j := by lia
   subst this
   exact irr tr as _)
  have e : List.toArray (((List.range vs.length).toArray).toList.map fun i => vs.getD i Value.none) = (arrOf (SortSt.mk' general' (vs.toArray.zip vs.toArray) #[] 7 none)).map (·.2) := by
   show _ = (pairsOf vs).map (·.2)
   have e2 := congrArg (fun a => Array.map (·.2) a) (kas_range (pairsOf vs))
   simp only [pairsOf_size] at e2
   rw [<- e2, Array.map_map]
   apply Array.toList_inj.mp
   rw [Array.toList_map]
   exact List.map_congr_left fun i _ => by show _ = (kas_item (pairsOf vs) i).2; rw [kas_item_eq]
  rw [e] at hp
  exact wpAny_pure hp
 ·have hn2 : ¬ vs.toArray.size < 2 := by rw [List.size_toArray]; lia
  rw [if_neg hn2, if_neg hn2]
  refine wpAny_bind (kas_kind (by lia) (hT _ keep) hT1 hT2 ?_)
  have est : SortSt.mk' oneType' (vs.toArray.zip vs.toArray) #[] 7 none = kas_st oneType' (pairsOf vs) (List.toArray (List.range vs.length)) := by
   have e := kas_range (pairsOf vs)
   rw [pairsOf_size] at e
   show SortSt.mk' oneType' (pairsOf vs) #[] 7 none = SortSt.mk' oneType' ((List.toArray (List.range vs.length)).map (kas_item (pairsOf vs))) #[] 7 none
   rw [e]
  have ask : (kas_sort vs.length).kasWp (kas_ask prog w A oneType' vs) (fun p s' => s' = { s with heap := ((s.heap.update a (Obj.mapSeq fun _ => (#[] : Array Value))).push (seqObj "tuple" vs.toArray 0)).push (seqObj "list" #[] 0) } /\ Tab vs.length p /\ Rises lt p vs.length) { s with heap := ((s.heap.update a (Obj.mapSeq fun _ => (#[] : Array Value))).push (seqObj "tuple" vs.toArray 0)).push (seqObj "list" #[] 0) } :=
   nN (lt := lt) (n := vs.length) (fun i j C hi hj q => hc _ keep i j C hi hj q) _ (sO tr as (by lia) fun p T R => ⟨rfl, T, R⟩)
  rw [kas_ask_eq] at ask
  have run := kas_runs (E := E) (Q := fun _ st' s' => ∃ p : Array Nat, arrOf st' = p.map (kas_item (pairsOf vs)) /\ failedOf st' = none /\ s' = { s with heap := ((s.heap.update a (Obj.mapSeq fun _ => (#[] : Array Value))).push (seqObj "tuple" vs.toArray 0)).push (seqObj "list" #[] 0) } /\ Tab vs.length p /\ Rises lt p vs.length)
   (by lia) h64 (fun p' st' s' a1 a2 a3 a4 => ⟨p', a2, a3, a4⟩) ask
  rw [<- est] at run
  refine wpAny_bind (wpAny_mono run ?_ fun _ _ e => e)
  rintro ⟨⟨⟩, st'⟩ s' ⟨p, har, hf, rfl, T, R⟩
  dsimp only
  have hout : (arrOf st').map (·.2) = List.toArray (p.toList.map fun i => vs.getD i Value.none) := by
   apply Array.toList_inj.mp
   rw [har, Array.map_map, Array.toList_map]
   exact List.map_congr_left fun i _ => by show (kas_item (pairsOf vs) i).2 = _; rw [kas_item_eq]
  have hsz : (List.toArray (p.toList.map fun i => vs.getD i Value.none)).size = vs.length := by rw [List.size_toArray, List.length_map, Array.length_toList, T.size]
  rw [hout]
  refine wpAny_bind (seqEpoch_at ho6 rfl ?_)
  refine wpAny_bind (listUpdate_at ho6 rfl ?_ (Nat.zero_le _) (Nat.le_trans (Nat.le_of_eq hsz) (by rw [sizeLine_eq]; lia)))
  rw [hf]
  simp only [bne_self_eq_false, Bool.false_eq_true, if_false]
  exact wpAny_pure (h p T R)
end
end L2
namespace L2
open PySem PySem.Spec PySem.W PyProof.Rows
noncomputable def SSt (κ : SortKind) (it : Array Keyed) (p : Array Nat) (pe : Array (Nat × Nat × Nat)) (g : Nat) : SortSt := SortSt.mk' κ (p.map (kas_item it)) pe g none
noncomputable def plc (lt : Nat -> Nat -> Bool) (p : Array Nat) (lo k : Nat) : Nat -> Nat -> Nat -> Nat
 | 0, l, _ => l
 | f + 1, l, r => if l ≥ r then l else if lt (p.getD (lo + k) 0) (p.getD (lo + (l + r) / 2) 0) = true then plc lt p lo k f l ((l + r) / 2) else plc lt p lo k f ((l + r) / 2 + 1) r
noncomputable def bins (lt : Nat -> Nat -> Bool) (lo : Nat) : Nat -> Nat -> Array Nat -> Array Nat
 | 0, _, p => p
 | f + 1, k, p => bins lt lo f (k + 1) (bubble p (lo + k) (lo + k - (lo + plc lt p lo k k 0 k)))
section
variable {prog : Program} {w : World} {A : Around} {E : zx} {s : Shared} {κ : SortKind} {it : Array Keyed} {N : Nat} {lt : Nat -> Nat -> Bool}
noncomputable def Asks (prog : Program) (w : World) (A : Around) (κ : SortKind) (it : Array Keyed) (s : Shared) (N : Nat) (lt : Nat -> Nat -> Bool) : Prop :=
 ∀ (i j : Nat) (C : Bool -> Shared -> Prop), i < N -> j < N -> C (lt i j) s -> kas_cmp prog w A κ it i j C s
variable (hc : Asks prog w A κ it s N lt) {p : Array Nat} {pe : Array (Nat × Nat × Nat)} {g : Nat}
include hc
theorem lA {i j : Nat} {st : SortSt} (hk : kindOf st = κ) (hi : i < N) (hj : j < N) {Q : Option Bool -> SortSt -> Shared -> Prop} (h : Q (some (lt i j)) st s) : kasC (model prog w) A E (lt' (kas_item it i) (kas_item it j)) Q st s := by
 rw [lt'_eq]
 refine kasC_bind (kasC_get ?_)
 rw [hk]
 refine kasC_bind (kasC_lift (wpAny_attempt (wpAny_mono (hc i j (fun b s' => b = lt i j /\ s' = s) hi hj ⟨rfl, rfl⟩) (fun c s' ⟨e1, e2⟩ => ?_) fun _ _ hF => hF.elim)))
 subst e1 e2
 exact kasC_pure h
omit hc in
theorem bb {q : Array Nat} {k : Nat} {st : SortSt} (hk : k < q.size) {Q : Keyed -> SortSt -> Shared -> Prop} (h : Q (kas_item it (q.getD k 0)) st s) : kasC (model prog w) A E (elem' (q.map (kas_item it)) k) Q st s := by
 rw [elem'_eq]
 have e : (q.map (kas_item it))[k]? = some (kas_item it (q.getD k 0)) := by
  have e : q.getD k 0 = q[k] := by simp [Array.getD, hk]
  rw [e]
  simp [hk]
 rw [e]
 exact kasC_pure h
theorem kf {i j : Nat} (T : Tab N p) (hi : i < N) (hj : j < N) {Q : Option Bool -> SortSt -> Shared -> Prop} (h : Q (some (lt (p.getD i 0) (p.getD j 0))) (SSt κ it p pe g) s) : kasC (model prog w) A E (ltAt' i j) Q (SSt κ it p pe g) s := by
 rw [ltAt'_eq]
 refine kasC_bind (kasC_get ?_)
 show kasC _ _ _ (do let x <- elem' (p.map (kas_item it)) i; let y <- elem' (p.map (kas_item it)) j; lt' x y) Q _ _
 refine kasC_bind (bb (by rw [T.size]; exact hi) (kasC_bind (bb (by rw [T.size]; exact hj) ?_)))
 exact lA hc rfl (T.low hi) (T.low hj) h
omit hc in
theorem vh {k l : Nat} {Q : Unit -> SortSt -> Shared -> Prop} (h : Q () (SSt κ it (bubble p k (k - l)) pe g) s) : kasC (model prog w) A E (moveDown' k l) Q (SSt κ it p pe g) s := by
 rw [moveDown'_eq]
 refine kasC_modify ?_
 have e1 : bubble (p.map (kas_item it)) k (k - l) = (bubble p k (k - l)).map (kas_item it) := kas_swaps_map (kas_item it) (fun i => k - i) (fun i => k - i - 1) _ p
 show Q _ (SortSt.mk' κ (bubble (p.map (kas_item it)) k (k - l)) pe g none) s
 rw [e1]
 exact h
theorem sP {lo k n : Nat} (T : Tab N p) (hk : lo + k < N) {body : Nat -> Option Bool × Nat × Nat -> StateT SortSt Sem (ForInStep (Option Bool × Nat × Nat))} {R : Option Bool × Nat × Nat -> SortSt -> Shared -> Prop}
  (b1 : ∀ x l r (R' : ForInStep (Option Bool × Nat × Nat) -> SortSt -> Shared -> Prop), l ≥ r -> R' (.done (none, l, r)) (SSt κ it p pe g) s -> kasC (model prog w) A E (body x (none, l, r)) R' (SSt κ it p pe g) s)
  (b2 : ∀ x l r (R' : ForInStep (Option Bool × Nat × Nat) -> SortSt -> Shared -> Prop), l < r -> r <= k -> R' (.yield (if lt (p.getD (lo + k) 0) (p.getD (lo + (l + r) / 2) 0) = true then (none, l, (l + r) / 2) else (none, (l + r) / 2 + 1, r))) (SSt κ it p pe g) s -> kasC (model prog w) A E (body x (none, l, r)) R' (SSt κ it p pe g) s) :
  ∀ (f l r : Nat) (ls : List Nat), ls.length = f -> r <= k -> (∀ r', R (none, plc lt p lo k f l r, r') (SSt κ it p pe g) s) -> kasC (model prog w) A E (forIn ls (none, l, r) body) R (SSt κ it p pe g) s := by
 intro f
 induction f with
 | zero =>
  intro l r ls hls hr hR
  cases ls with
  | nil => exact kasC_nil (hR r)
  | cons _ _ => simp at hls
 | succ f ih =>
  intro l r ls hls hr hR
  cases ls with
  | nil => simp at hls
  | cons x ls =>
   have hls' : ls.length = f := by simpa using hls
   by_cases hlr : l ≥ r
   ·refine kasC_cons (b1 x l r _ hlr ?_)
    have := hR r
    unfold plc at this
    rw [if_pos hlr] at this
    exact this
   ·refine kasC_cons (b2 x l r _ (by lia) hr ?_)
    have hR' := hR
    unfold plc at hR'
    rw [if_neg hlr] at hR'
    cases hl : lt (p.getD (lo + k) 0) (p.getD (lo + (l + r) / 2) 0) with
    | true =>
     rw [hl] at hR'
     exact ih l ((l + r) / 2) ls hls' (by lia) (by simpa using hR')
    | false =>
     rw [hl] at hR'
     exact ih ((l + r) / 2 + 1) r ls hls' hr (by simpa using hR')
theorem u9 {lo n ok : Nat} (T : Tab N p) (hn : lo + n <= N) {Q : Bool -> SortSt -> Shared -> Prop} (h : Q true (SSt κ it (bins lt lo (n - max ok 1) (max ok 1) p) pe g) s) : kasC (model prog w) A E (binarySort' lo n ok) Q (SSt κ it p pe g) s := by
 rw [binarySort'_eq]
 refine kasC_bind (kasC_range ?_)
 have len : ∀ (f k : Nat) (p : Array Nat), Tab N p -> k + f <= max n (max ok 1) -> max ok 1 <= k -> ∀ {R : Option Bool × Unit -> SortSt -> Shared -> Prop} {body : Nat -> Option Bool × Unit -> StateT SortSt Sem (ForInStep (Option Bool × Unit))},
   R (none, ()) (SSt κ it (bins lt lo f k p) pe g) s ->
   (∀ (k : Nat) (p : Array Nat) (R' : ForInStep (Option Bool × Unit) -> SortSt -> Shared -> Prop), Tab N p -> k < n -> R' (.yield (none, ())) (SSt κ it (bubble p (lo + k) (lo + k - (lo + plc lt p lo k k 0 k))) pe g) s -> kasC (model prog w) A E (body k (none, ())) R' (SSt κ it p pe g) s) ->
   kasC (model prog w) A E (forIn (List.range' k f) (none, ()) body) R (SSt κ it p pe g) s := by
  intro f
  induction f with
  | zero => intro k p T _ _ R body hR hb; exact kasC_nil hR
  | succ f ih =>
   intro k p T hkf hk0 R body hR hb
   rw [List.range'_succ]
   exact kasC_cons (hb k p _ T (by lia) (ih (k + 1) _ (T.bub _ _) (by lia) (by lia) hR hb))
 refine len (n - max ok 1) (max ok 1) p T (by lia) (Nat.le_refl _) (kasC_pure h) fun k p R' T hk hR' => ?_
 refine kasC_bind (kasC_range ?_)
 refine sP hc (lo := lo) (k := k) (n := n) T (by lia) (fun x l r R'' hge hR'' => ?_) (fun x l r R'' hlt hr hR'' => ?_) k 0 k _ (by rw [List.length_range']; lia) (Nat.le_refl _) fun r' => ?_
 ·dsimp only
  rw [if_pos hge]
  exact kasC_pure hR''
 ·dsimp only
  rw [if_neg (by lia)]
  refine kasC_bind (kf hc T (by lia) (by lia) ?_)
  cases hl : lt (p.getD (lo + k) 0) (p.getD (lo + (l + r) / 2) 0) with
  | true =>
   rw [hl] at hR''
   simp only [if_true] at hR'' ⊢
   exact kasC_pure hR''
  | false =>
   rw [hl] at hR''
   simp only [Bool.false_eq_true, if_false] at hR'' ⊢
   exact kasC_pure hR''
 ·show kasC _ _ _ (do moveDown' (lo + k) (lo + plc lt p lo k k 0 k); pure (ForInStep.yield (none, ()))) _ _ _
  exact kasC_bind (vh (kasC_pure hR'))
theorem nP {lo nrem : Nat} (T : Tab N p) (h3 : 3 <= nrem) (hn : lo + nrem <= N) (c1 : lt (p.getD (lo + 1) 0) (p.getD lo 0) = false) (c2 : lt (p.getD (lo + 2) 0) (p.getD (lo + 1) 0) = true) (c3 : lt (p.getD lo 0) (p.getD (lo + 1) 0) = true)
  {Q : Option Nat -> SortSt -> Shared -> Prop} (h : Q (some 2) (SSt κ it p pe g) s) : kasC (model prog w) A E (countRun' lo nrem) Q (SSt κ it p pe g) s := by
 obtain ⟨m, rfl⟩ : ∃ m, nrem = m + 3 := ⟨nrem - 3, by lia⟩
 rw [countRun'_eq]
 refine kasC_bind (kasC_range ?_)
 show kasC _ _ _ (forIn (1 :: 2 :: List.range' 3 m) _ _) _ _ _
 refine kasC_cons ?_
 dsimp only
 refine kasC_bind (kf hc T (by lia) (by lia) ?_)
 rw [show lo + 1 - 1 = lo by lia, c1]
 simp only [Bool.false_eq_true, if_false]
 refine kasC_pure ?_
 refine kasC_cons ?_
 dsimp only
 refine kasC_bind (kf hc T (by lia) (by lia) ?_)
 rw [show lo + (1 + 1) - 1 = lo + 1 by lia, show lo + (1 + 1) = lo + 2 by lia, c2]
 simp only [if_true]
 refine kasC_pure ?_
 dsimp only
 rw [if_neg (by simp), if_pos (by lia)]
 refine kasC_bind (kf hc T (by lia) (by lia) ?_)
 rw [show lo + (1 + 1) - 1 = lo + 1 by lia, c3]
 simp only [if_true]
 exact kasC_pure h
end
abbrev gal : Bool -> Keyed -> Array Keyed -> Nat -> Nat -> Nat -> StateT SortSt Sem (Option Nat) := sortPriv% PySem.Builtin.gallop
abbrev mlo : Array Keyed -> Array Keyed -> StateT SortSt Sem (Array Keyed) := sortPriv% PySem.Builtin.mergeLo
noncomputable def Lows (N : Nat) (q : Array Nat) : Prop := ∀ i, i < q.size -> q.getD i 0 < N
noncomputable def wv (qa qb : Array Nat) : Nat -> Nat -> Array Nat -> Array Nat
 | 0, i, o => (o.push (qa.getD i 0)) ++ qb.extract (i + 1) qb.size ++ qa.extract (i + 1) qa.size
 | d + 1, i, o => wv qa qb d (i + 1) ((o.push (qa.getD i 0)).push (qb.getD (i + 1) 0))
noncomputable def BM (sa : Nat) (m p : Array Nat) : Array Nat := m.toList.zipIdx.foldl (fun a x => a.setIfInBounds (sa + x.2) x.1) p
theorem iI {f : Nat -> Keyed} {sa : Nat} : ∀ (l : List Nat) (k : Nat) (p : Array Nat), ((l.map f).zipIdx k).foldl (fun a x => a.setIfInBounds (sa + x.2) x.1) (p.map f) = ((l.zipIdx k).foldl (fun a x => a.setIfInBounds (sa + x.2) x.1) p).map f
 | [], _, _ => rfl
 | x :: r, k, p => by
  simp only [List.map_cons, List.zipIdx_cons, List.foldl_cons]
  rw [<- Array.map_setIfInBounds]
  exact iI r (k + 1) _
section
variable {prog : Program} {w : World} {A : Around} {E : zx} {s : Shared} {κ : SortKind} {it : Array Keyed} {N : Nat} {lt : Nat -> Nat -> Bool}
variable (hc : Asks prog w A κ it s N lt)
include hc
theorem vi {key base n : Nat} {q : Array Nat} {st : SortSt} (hk : kindOf st = κ) (hn : 2 <= n) (hb : base + n <= q.size) (hq : Lows N q) (hkey : key < N) (c1 : lt key (q.getD base 0) = false) (c2 : lt key (q.getD (base + 1) 0) = true)
  {Q : Option Nat -> SortSt -> Shared -> Prop} (h : Q (some 1) st s) : kasC (model prog w) A E (gal false (kas_item it key) (q.map (kas_item it)) base n 0) Q st s := by
 obtain ⟨m, rfl⟩ : ∃ m, n = m + 2 := ⟨n - 2, by lia⟩
 refine kasC_bind ?_
 refine kasC_bind (bb (k := base + 0) (by lia) ?_)
 dsimp only
 rw [if_neg (by simp)]
 refine kasC_bind (lA hc hk hkey (hq _ (by lia)) (kasC_pure ?_))
 rw [Nat.add_zero, c1]
 dsimp only [Option.map_some, Bool.not_false]
 rw [if_pos (show (!false) = true from rfl)]
 refine kasC_bind (kasC_range ?_)
 show kasC _ _ _ (forIn (0 :: List.range' 1 (m + 1)) _ _) _ _ _
 refine kasC_cons ?_
 dsimp only
 rw [if_neg (by lia)]
 refine kasC_bind ?_
 refine kasC_bind (bb (k := base + (0 + 1)) (by lia) ?_)
 rw [if_neg (by simp)]
 refine kasC_bind (lA hc hk hkey (hq _ (by lia)) (kasC_pure ?_))
 rw [show base + (0 + 1) = base + 1 by lia, c2]
 dsimp only [Option.map_some, Bool.not_true]
 rw [if_pos (show (!(!true)) = true from rfl)]
 refine kasC_pure ?_
 dsimp only
 refine kasC_bind (kasC_range ?_)
 show kasC _ _ _ (forIn (0 :: List.range' 1 (m + 1)) _ _) _ _ _
 refine kasC_cons ?_
 dsimp only
 rw [if_pos (by lia)]
 refine kasC_pure ?_
 dsimp only
 refine kasC_pure ?_
 rw [show 0 + min 1 (m + 2 - 0) = 1 by lia]
 exact h
theorem vj {key base n : Nat} {q : Array Nat} {st : SortSt} (hk : kindOf st = κ) (hn : 2 <= n) (hb : base + n <= q.size) (hq : Lows N q) (hkey : key < N) (c1 : lt (q.getD (base + (n - 1)) 0) key = false) (c2 : lt (q.getD (base + (n - 1 - 1)) 0) key = true)
  {Q : Option Nat -> SortSt -> Shared -> Prop} (h : Q (some (n - 1)) st s) : kasC (model prog w) A E (gal true (kas_item it key) (q.map (kas_item it)) base n (n - 1)) Q st s := by
 obtain ⟨m, rfl⟩ : ∃ m, n = m + 2 := ⟨n - 2, by lia⟩
 refine kasC_bind ?_
 refine kasC_bind (bb (k := base + (m + 2 - 1)) (by lia) ?_)
 dsimp only
 rw [if_pos rfl]
 refine lA hc hk (hq _ (by lia)) hkey ?_
 rw [c1]
 dsimp only
 rw [if_neg (by simp)]
 refine kasC_bind (kasC_range ?_)
 show kasC _ _ _ (forIn (0 :: List.range' 1 (m + 1)) _ _) _ _ _
 refine kasC_cons ?_
 dsimp only
 rw [if_neg (by lia)]
 refine kasC_bind ?_
 refine kasC_bind (bb (k := base + (m + 2 - 1 - 1)) (by lia) ?_)
 rw [if_pos rfl]
 refine lA hc hk (hq _ (by lia)) hkey ?_
 rw [c2]
 dsimp only
 rw [if_pos rfl]
 refine kasC_pure ?_
 dsimp only
 refine kasC_bind (kasC_range ?_)
 show kasC _ _ _ (forIn (0 :: List.range' 1 (m + 1)) _ _) _ _ _
 refine kasC_cons ?_
 dsimp only
 rw [if_pos (by lia)]
 refine kasC_pure ?_
 dsimp only
 exact kasC_pure h
omit hc in
theorem sQ {qa qb : Array Nat} {L : Nat} {st : SortSt} (ha : qa.size = L) (hb : qb.size = L) {body : Nat -> Option (Array Keyed) × Array Keyed × Nat × Nat × Nat × Nat -> StateT SortSt Sem (ForInStep (Option (Array Keyed) × Array Keyed × Nat × Nat × Nat × Nat))} {R : Option (Array Keyed) × Array Keyed × Nat × Nat × Nat × Nat -> SortSt -> Shared -> Prop}
  (b0 : ∀ x (o : Array Nat) (i bc : Nat) (R' : ForInStep (Option (Array Keyed) × Array Keyed × Nat × Nat × Nat × Nat) -> SortSt -> Shared -> Prop), i + 2 = L -> (∀ t, R' (.done (some ((o.push (qa.getD i 0) ++ qb.extract (i + 1) qb.size ++ qa.extract (i + 1) qa.size).map (kas_item it)), t)) st s) -> kasC (model prog w) A E (body x (none, o.map (kas_item it), i, i + 1, 0, bc)) R' st s)
  (b1 : ∀ x (o : Array Nat) (i bc : Nat) (R' : ForInStep (Option (Array Keyed) × Array Keyed × Nat × Nat × Nat × Nat) -> SortSt -> Shared -> Prop), i + 2 < L -> R' (.yield (none, (o.push (qa.getD i 0)).map (kas_item it), i + 1, i + 1, 1, 0)) st s -> kasC (model prog w) A E (body x (none, o.map (kas_item it), i, i + 1, 0, bc)) R' st s)
  (b2 : ∀ x (o : Array Nat) (i : Nat) (R' : ForInStep (Option (Array Keyed) × Array Keyed × Nat × Nat × Nat × Nat) -> SortSt -> Shared -> Prop), i + 2 < L -> R' (.yield (none, (o.push (qb.getD (i + 1) 0)).map (kas_item it), i + 1, i + 2, 0, 1)) st s -> kasC (model prog w) A E (body x (none, o.map (kas_item it), i + 1, i + 1, 1, 0)) R' st s) :
  ∀ (d i : Nat) (ls : List Nat) (o : Array Nat) (bc : Nat), i + 2 + d = L -> 2 * d + 1 <= ls.length -> (∀ t, R (some ((wv qa qb d i o).map (kas_item it)), t) st s) -> kasC (model prog w) A E (forIn ls (none, o.map (kas_item it), i, i + 1, 0, bc) body) R st s := by
 intro d
 induction d with
 | zero =>
  intro i ls o bc hi hl hR
  cases ls with
  | nil => simp at hl
  | cons x ls => exact kasC_cons (b0 x o i bc _ (by lia) hR)
 | succ d ih =>
  intro i ls o bc hi hl hR
  cases ls with
  | nil => simp at hl
  | cons x ls =>
   refine kasC_cons (b1 x o i bc _ (by lia) ?_)
   cases ls with
   | nil => simp at hl
   | cons y ls =>
    refine kasC_cons (b2 y _ i _ (by lia) ?_)
    exact ih (i + 1) ls _ 1 (by lia) (by simp at hl; lia) hR
theorem xW {qa qb : Array Nat} {L : Nat} {st : SortSt} (hk : kindOf st = κ) (hg : gallopOf st = 7) (h2 : 2 <= L) (ha : qa.size = L) (hb : qb.size = L) (la : Lows N qa) (lb : Lows N qb) (c1 : ∀ i, i + 1 < L -> lt (qb.getD (i + 1) 0) (qa.getD i 0) = false) (c2 : ∀ i, i + 2 < L -> lt (qb.getD (i + 1) 0) (qa.getD (i + 1) 0) = true)
  {Q : Array Keyed -> SortSt -> Shared -> Prop} (h : Q ((wv qa qb (L - 2) 0 #[qb.getD 0 0]).map (kas_item it)) st s) : kasC (model prog w) A E (mlo (qa.map (kas_item it)) (qb.map (kas_item it))) Q st s := by
 refine kasC_bind (kasC_lift (wpAny_rule ?_))
 dsimp only
 refine kasC_bind (bb (by lia) ?_)
 try dsimp only
 simp only [Array.size_map, ha, hb]
 rw [if_neg (by simp; lia), if_neg (by simp; lia)]
 refine kasC_bind (kasC_get ?_)
 refine kasC_bind (kasC_range ?_)
 obtain ⟨t, ht⟩ : ∃ t, L + L - 0 = t + 1 := ⟨L + L - 1, by lia⟩
 rw [ht, List.range'_succ]
 refine kasC_cons ?_
 dsimp only
 refine kasC_bind (kasC_range ?_)
 have eo : #[kas_item it (qb.getD 0 0)] = #[qb.getD 0 0].map (kas_item it) := by simp
 rw [eo]
 refine sQ (L := L) (qa := qa) (qb := qb) ha hb (fun x o i bc R' hi hR' => ?_) (fun x o i bc R' hi hR' => ?_) (fun x o i R' hi hR' => ?_) (L - 2) 0 _ _ 0 (by lia) (by rw [List.length_range']; lia) (fun t => ?_)
 ·dsimp only
  refine kasC_bind (bb (by lia) (kasC_bind (bb (by lia) (kasC_bind (lA hc hk (lb _ (by lia)) (la _ (by lia)) ?_)))))
  rw [c1 i (by lia)]
  dsimp only
  rw [if_neg (by simp)]
  refine kasC_bind (bb (by lia) ?_)
  try dsimp only
  rw [if_pos (by simp; lia)]
  refine kasC_pure ?_
  have := hR' ((o.push (qa.getD i 0)).map (kas_item it), i + 1, i + 1, 1, 0)
  simpa [ha, hb] using this
 ·dsimp only
  refine kasC_bind (bb (by lia) (kasC_bind (bb (by lia) (kasC_bind (lA hc hk (lb _ (by lia)) (la _ (by lia)) ?_)))))
  rw [c1 i (by lia)]
  dsimp only
  rw [if_neg (by simp)]
  refine kasC_bind (bb (by lia) ?_)
  try dsimp only
  rw [if_neg (by simp; lia), if_neg (fun z => absurd (show 0 + 1 ≥ gallopOf st from z) (by rw [hg]; lia))]
  refine kasC_pure ?_
  simpa using hR'
 ·dsimp only
  refine kasC_bind (bb (by lia) (kasC_bind (bb (by lia) (kasC_bind (lA hc hk (lb _ (by lia)) (la _ (by lia)) ?_)))))
  rw [c2 i (by lia)]
  dsimp only
  rw [if_pos rfl]
  refine kasC_bind (bb (by lia) ?_)
  try dsimp only
  rw [if_neg (by simp; lia), if_neg (fun z => absurd (show 0 + 1 ≥ gallopOf st from z) (by rw [hg]; lia))]
  refine kasC_pure ?_
  simpa using hR'
 ·dsimp only
  refine kasC_pure ?_
  dsimp only
  exact kasC_pure h
end
end L2
namespace Sy
def absI (p : Int) : Int := if p < 0 then -p else p
noncomputable def Aj (c : List Int) (p : Int) : Bool := decide (c.getD (absI p - 1).toNat 0 = if 0 < p then 1 else 0)
def A1 (c : List Int) (s : List Int) : Bool := s.any (Aj c)
noncomputable def zJ (ss : List (List Int)) (c : List Int) : Bool := ss.all (A1 c)
structure Bq (many : Int) (s : List Int) : Prop where
 rise : (s.map absI).Pairwise (· < ·)
 low : ∀ p ∈ s, 1 <= absI p /\ absI p <= many
structure zS (n : Nat) (c : List Int) : Prop where
 len : c.length = n
 bit : ∀ x ∈ c, x = 0 \/ x = 1
noncomputable def allC : Nat -> List (List Int)
 | 0 => [[]]
 | n + 1 => (allC n).flatMap fun c => [c ++ [0], c ++ [1]]
noncomputable def madeC : Nat -> List (List Int)
 | 0 => [[]]
 | n + 1 => (madeC n).map (· ++ [0]) ++ (madeC n).map (· ++ [1])
theorem e6 : ∀ (n : Nat) (c : List Int), c ∈ allC n -> zS n c
 | 0, c, h => by simp [allC] at h; subst h; exact ⟨rfl, by simp⟩
 | n + 1, c, h => by
  simp only [allC, List.mem_flatMap] at h
  obtain ⟨d, hd, hc⟩ := h
  have ih := e6 n d hd
  simp only [List.mem_cons, List.not_mem_nil, or_false] at hc
  rcases hc with rfl | rfl
  ·exact ⟨by simp [ih.len], fun x hx => by
    rcases List.mem_append.mp hx with h | h
    ·exact ih.bit x h
    ·simp at h; exact .inl h⟩
  ·exact ⟨by simp [ih.len], fun x hx => by
    rcases List.mem_append.mp hx with h | h
    ·exact ih.bit x h
    ·simp at h; exact .inr h⟩
theorem lB : ∀ (n : Nat) (c : List Int), zS n c -> c ∈ allC n
 | 0, c, h => by have := List.length_eq_zero_iff.mp h.len; subst this; simp [allC]
 | n + 1, c, h => by
  have hne : c ≠ [] := fun z => by have := h.len; rw [z] at this; simp at this
  have e := List.dropLast_concat_getLast hne
  have ih := lB n c.dropLast ⟨by rw [List.length_dropLast, h.len]; rfl, fun x hx => h.bit x (List.dropLast_subset c hx)⟩
  simp only [allC, List.mem_flatMap]
  refine ⟨_, ih, ?_⟩
  have hb := h.bit _ (List.getLast_mem hne)
  rw [<- e]
  rcases hb with z | z <;> rw [z] <;> simp
theorem iJ : ∀ n, (allC n).length = 2 ^ n
 | 0 => rfl
 | n + 1 => by
  have : ∀ l : List (List Int), (l.flatMap fun c => [c ++ [0], c ++ [1]]).length = 2 * l.length := by
   intro l
   induction l with
   | nil => rfl
   | cons a r ih => simp only [List.flatMap_cons, List.length_append, ih, List.length_cons, List.length_nil]; lia
  rw [allC, this, iJ n, Nat.pow_succ]
  lia
theorem g8 : ∀ n, (madeC n).length = 2 ^ n
 | 0 => rfl
 | n + 1 => by rw [madeC, List.length_append, List.length_map, List.length_map, g8 n, Nat.pow_succ]; lia
theorem jC (f g : List Int -> List Int) : ∀ l : List (List Int), (l.flatMap fun c => [f c, g c]).Perm (l.map f ++ l.map g)
 | [] => .refl _
 | a :: r => by
  have ih := jC f g r
  simp only [List.flatMap_cons, List.map_cons, List.cons_append, List.nil_append]
  refine .cons _ ?_
  refine (List.Perm.cons _ ih).trans ?_
  exact (List.perm_middle (a := g a) (l₁ := r.map f) (l₂ := r.map g)).symm
theorem g9 : ∀ n, (madeC n).Perm (allC n)
 | 0 => .refl _
 | n + 1 => by
  have ih := g9 n
  refine ((ih.map _).append (ih.map _)).trans ?_
  exact (jC (· ++ [0]) (· ++ [1]) (allC n)).symm
noncomputable def lexB : List Int -> List Int -> Bool
 | [], [] => false
 | [], _ :: _ => true
 | _ :: _, [] => false
 | x :: xs, y :: ys => if x = y then lexB xs ys else decide (x < y)
theorem iK : ∀ a, lexB a a = false
 | [] => rfl
 | x :: xs => by simp [lexB, iK xs]
theorem iL : ∀ a b, lexB a b = false -> lexB b a = false -> a = b
 | [], [], _, _ => rfl
 | [], _ :: _, h, _ => by simp [lexB] at h
 | _ :: _, [], _, h => by simp [lexB] at h
 | x :: xs, y :: ys, h1, h2 => by
  by_cases e : x = y
  ·subst e
   simp only [lexB, if_true] at h1 h2
   rw [iL xs ys h1 h2]
  ·simp only [lexB, if_neg e, if_neg (fun z => e (Eq.symm z)), decide_eq_false_iff_not] at h1 h2
   lia
theorem cW : ∀ a b, lexB a b = true -> lexB b a = false
 | [], [], h => by simp [lexB] at h
 | [], _ :: _, _ => rfl
 | _ :: _, [], h => by simp [lexB] at h
 | x :: xs, y :: ys, h => by
  by_cases e : x = y
  ·subst e
   simp only [lexB, if_true] at h ⊢
   exact cW xs ys h
  ·simp only [lexB, if_neg e, if_neg (fun z => e (Eq.symm z)), decide_eq_true_eq, decide_eq_false_iff_not] at h ⊢
   lia
theorem kg : ∀ a b c, lexB b a = false -> lexB c b = false -> lexB c a = false
 | [], [], c, _, h => h
 | [], _ :: _, [], _, h => by simp [lexB] at h
 | [], _ :: _, _ :: _, _, _ => rfl
 | _ :: _, [], _, h, _ => by simp [lexB] at h
 | _ :: _, _ :: _, [], _, h => by simp [lexB] at h
 | x :: xs, y :: ys, z :: zs, h1, h2 => by
  by_cases e1 : y = x
  ·subst e1
   simp only [lexB, if_true] at h1
   by_cases e2 : z = y
   ·subst e2
    simp only [lexB, if_true] at h2 ⊢
    exact kg xs ys zs h1 h2
   ·simp only [lexB, if_neg e2] at h2 ⊢
    exact h2
  ·simp only [lexB, if_neg e1, decide_eq_false_iff_not] at h1
   by_cases e2 : z = y
   ·subst e2
    simp only [lexB, if_neg e1, decide_eq_false_iff_not]
    exact h1
   ·simp only [lexB, if_neg e2, decide_eq_false_iff_not] at h2
    have e3 : ¬ z = x := by lia
    simp only [lexB, if_neg e3, decide_eq_false_iff_not]
    lia
theorem gb : ∀ (a b : List Int) (x y : Int), a.length = b.length -> lexB (a ++ [x]) (b ++ [y]) = if a = b then decide (x < y) else lexB a b
 | [], [], x, y, _ => by
  by_cases e : x = y
  ·subst e; simp [lexB]
  ·simp [lexB, e]
 | [], _ :: _, _, _, h => by simp at h
 | _ :: _, [], _, _, h => by simp at h
 | p :: r, q :: t, x, y, h => by
  have ih := gb r t x y (by simpa using h)
  by_cases e : p = q
  ·subst e
   simp only [List.cons_append, lexB, if_true, ih, List.cons.injEq, true_and]
  ·simp only [List.cons_append, lexB, if_neg e, List.cons.injEq, e, false_and, if_false]
theorem gc : ∀ n, (allC n).Pairwise fun a b => lexB a b = true
 | 0 => by simp [allC]
 | n + 1 => by
  have ih := gc n
  have ok := e6 n
  rw [allC]
  generalize allC n = l at ih ok
  induction l with
  | nil => simp
  | cons c r hi =>
   obtain ⟨h1, h2⟩ := List.pairwise_cons.mp ih
   have ihr := hi h2 fun d hd => ok d (List.mem_cons_of_mem _ hd)
   simp only [List.flatMap_cons]
   have lc := (ok c (List.mem_cons_self ..)).len
   refine List.pairwise_append.mpr ⟨?_, ihr, fun a ha b hb => ?_⟩
   ·simp only [List.pairwise_cons, List.mem_cons, List.not_mem_nil, or_false, forall_eq, false_implies, implies_true, List.Pairwise.nil, and_true]
    rw [gb _ _ _ _ rfl]
    simp
   ·obtain ⟨d, hd, hb⟩ := List.mem_flatMap.mp hb
    have ld := (ok d (List.mem_cons_of_mem _ hd)).len
    have hne : c ≠ d := fun z => by
     subst z
     have := h1 _ hd
     rw [iK] at this
     cases this
    simp only [List.mem_cons, List.not_mem_nil, or_false] at ha hb
    have key : ∀ x y, lexB (c ++ [x]) (d ++ [y]) = true := fun x y => by rw [gb _ _ _ _ (by lia), if_neg hne]; exact h1 d hd
    rcases ha with rfl | rfl <;> rcases hb with rfl | rfl <;> exact key _ _
end Sy
namespace L2
open PySem PySem.Spec PyProof.Rows
variable [Tabs]
section
variable {X : Cx}
end
section
variable {K : W.Frag} {mg : zu}
end
section
variable {X : Cx}
end
noncomputable def inB (d : PyData) : PyData -> Option Bool
 | .list xs => if SeqAt.shaped d = true /\ SeqAt.shaped (.list xs) = true then some (xs.any fun y => PyData.eqv y d) else none
 | .tuple xs => if SeqAt.shaped d = true /\ SeqAt.shaped (.list xs) = true then some (xs.any fun y => PyData.eqv y d) else none
 | _ => none
section
variable {K : W.Frag} {mg : zu}
end
section
variable {X : Cx}
end
section
variable {K : W.Frag} {mg : zu}
end
section
variable {X : Cx} {E : XK} {a b e : Expr} {oa ob : Opd} {pos p : Pos}
end
theorem lC : ∀ a b : List Int, HT.lexLt a b = Sy.lexB a b
 | [], [] => rfl
 | [], _ :: _ => rfl
 | _ :: _, [] => rfl
 | x :: xs, y :: ys => by rw [HT.hJ, Sy.lexB, lC xs ys]
theorem Vals.getR : ∀ {xs : List V} {us : List Value} {i : Nat} {u : Value}, Vals xs us -> us[i]? = some u -> ∃ x, xs[i]? = some x /\ RelV x u
 | _, _, _, _, .nil, e => by simp at e
 | _, _, 0, _, .cons r _, e => by simp at e; subst e; exact ⟨_, rfl, r⟩
 | _, _, i + 1, u, .cons _ t, e => by
  obtain ⟨x, h1, h2⟩ := Vals.getR (i := i) (u := u) t (by simpa using e)
  exact ⟨x, by simpa using h1, h2⟩
section
variable {X : Cx}
noncomputable def ltOf (nss : List (List Int)) (i j : Nat) : Bool := Sy.lexB (nss.getD i []) (nss.getD j [])
end
noncomputable def encL (ns : List Int) : PyData := .list (ns.map PyData.int)
noncomputable def AV : zt -> Option (List (List Int))
 | [] => some []
 | .list ds :: r => (zW ds).bind fun ns => (AV r).map (ns :: ·)
 | _ :: _ => none
theorem bg : ∀ ns : List Int, zW (ns.map PyData.int) = some ns
 | [] => rfl
 | n :: r => by simp [zW, bg r]
theorem jD : ∀ nss : List (List Int), AV (nss.map encL) = some nss
 | [] => rfl
 | n :: r => by
  have h := jD r
  rw [List.map_cons, encL, AV, bg]
  show (AV (r.map encL)).map (n :: ·) = _
  rw [h]; rfl
theorem jE : ∀ {ds : zt} {ns : List Int}, zW ds = some ns -> ds = ns.map PyData.int
 | [], _, e => by cases e; rfl
 | d :: r, _, e => by
  cases d with
  | int i =>
   simp only [zW, Option.map_eq_some_iff] at e
   obtain ⟨ns, e1, rfl⟩ := e
   rw [List.map_cons, <- jE e1]
  | _ => cases e
theorem lD : ∀ {ds : zt} {nss : List (List Int)}, AV ds = some nss -> ds = nss.map encL
 | [], _, e => by cases e; rfl
 | d :: r, _, e => by
  cases d with
  | list xs =>
   simp only [AV, Option.bind_eq_some_iff, Option.map_eq_some_iff] at e
   obtain ⟨ns, e1, ms, e2, rfl⟩ := e
   rw [List.map_cons, <- lD e2, encL, <- jE e1]
  | _ => cases e
noncomputable def insL (x : List Int) : List (List Int) -> List (List Int)
 | [] => [x]
 | y :: r => if Sy.lexB y x = true then y :: insL x r else x :: y :: r
noncomputable def AW : List (List Int) -> List (List Int)
 | [] => []
 | x :: r => insL x (AW r)
theorem gf (x : List Int) : ∀ l, (insL x l).Perm (x :: l)
 | [] => .refl _
 | y :: r => by
  unfold insL
  split
  ·exact ((gf x r).cons y).trans (.swap x y r)
  ·exact .refl _
theorem iM : ∀ l, (AW l).Perm l
 | [] => .refl _
 | x :: r => (gf x _).trans ((iM r).cons x)
theorem jF (x : List Int) : ∀ l, l.Pairwise (fun a b => Sy.lexB b a = false) -> (insL x l).Pairwise (fun a b => Sy.lexB b a = false)
 | [], _ => by simp [insL]
 | y :: r, h => by
  obtain ⟨h1, h2⟩ := List.pairwise_cons.mp h
  unfold insL
  split
  next hxy => exact List.pairwise_cons.mpr ⟨fun z hz => by
    rcases List.mem_cons.mp ((gf x r).mem_iff.mp hz) with e | e
    ·rw [e]; exact Sy.cW _ _ hxy
    ·exact h1 z e, jF x r h2⟩
  next hxy =>
   have hxy' : Sy.lexB y x = false := by simpa using hxy
   exact List.pairwise_cons.mpr ⟨fun z hz => by
    rcases List.mem_cons.mp hz with e | e
    ·rw [e]; exact hxy'
    ·exact Sy.kg _ _ _ hxy' (h1 z e), h⟩
theorem iN : ∀ l, (AW l).Pairwise (fun a b => Sy.lexB b a = false)
 | [] => .nil
 | x :: r => jF x _ (iN r)
theorem lE {r l : List (List Int)} (hp : r.Perm l) (hr : r.Pairwise (fun a b => Sy.lexB b a = false)) : r = AW l :=
 (hp.trans (iM l).symm).eq_of_pairwise (le := fun a b => Sy.lexB b a = false) (fun a b _ _ h1 h2 => Sy.iL a b h2 h1) hr (iN l)
theorem mI {nss : List (List Int)} {p : Array Nat} (T : Tab nss.length p) (R : Rises (ltOf nss) p nss.length) : p.toList.map (fun i => nss.getD i []) = AW nss := by
 refine lE ?_ ?_
 ·have hp : p.toList.Perm (List.range nss.length) := by
   have := T.perm.toList
   simpa using this
  refine (hp.map fun i => nss.getD i []).trans ?_
  have : (List.range nss.length).map (fun i => nss.getD i []) = nss := by
   apply List.ext_getElem?
   intro j
   rw [List.getElem?_map]
   by_cases hj : j < nss.length
   ·rw [List.getElem?_range hj, Option.map_some, List.getD_eq_getElem?_getD, List.getElem?_eq_getElem hj]; rfl
   ·rw [List.getElem?_eq_none (by simpa using hj), List.getElem?_eq_none (by lia)]; rfl
  rw [this]
 ·rw [List.pairwise_map]
  rw [List.pairwise_iff_getElem]
  intro i j hi hj hij
  have hs := T.size
  have hj' : j < p.size := by simpa using hj
  have hi' : i < p.size := by simpa using hi
  have := R i j (Nat.le_of_lt hij) (by lia)
  unfold ltOf at this
  simpa [Array.getD, hi', hj'] using this
section
variable {X : Cx} {E : XK} {a b e : Expr} {oa ob : Opd} {pos p : Pos}
end
end L2
namespace L2
open PySem PySem.Spec PySem.W PyProof.Rows
def lt6 : Nat -> Nat -> Bool := ltOf (Sy.madeC 6)
def p0 : Array Nat := (List.range 64).toArray
noncomputable def p1 : Array Nat := #[0, 16, 8, 24, 4, 20, 12, 28, 2, 18, 10, 26, 6, 22, 14, 30, 1, 17, 9, 25, 5, 21, 13, 29, 3, 19, 11, 27, 7, 23, 15, 31, 32, 33, 34, 35, 36, 37, 38, 39, 40, 41, 42, 43, 44, 45, 46, 47, 48, 49, 50, 51, 52, 53, 54, 55, 56, 57, 58, 59, 60, 61, 62, 63]
noncomputable def p2 : Array Nat := #[0, 16, 8, 24, 4, 20, 12, 28, 2, 18, 10, 26, 6, 22, 14, 30, 1, 17, 9, 25, 5, 21, 13, 29, 3, 19, 11, 27, 7, 23, 15, 31, 32, 48, 40, 56, 36, 52, 44, 60, 34, 50, 42, 58, 38, 54, 46, 62, 33, 49, 41, 57, 37, 53, 45, 61, 35, 51, 43, 59, 39, 55, 47, 63]
noncomputable def p3 : Array Nat := #[0, 32, 16, 48, 8, 40, 24, 56, 4, 36, 20, 52, 12, 44, 28, 60, 2, 34, 18, 50, 10, 42, 26, 58, 6, 38, 22, 54, 14, 46, 30, 62, 1, 33, 17, 49, 9, 41, 25, 57, 5, 37, 21, 53, 13, 45, 29, 61, 3, 35, 19, 51, 11, 43, 27, 59, 7, 39, 23, 55, 15, 47, 31, 63]
theorem xX : bins lt6 0 30 2 p0 = p1 := by decide +kernel
theorem xY : bins lt6 32 30 2 p1 = p2 := by decide +kernel
noncomputable def tabB (p : Array Nat) : Bool := decide (p.size = 64) && p.toList.isPerm (List.range 64)
theorem kh {p : Array Nat} (h : tabB p = true) : Tab 64 p := by
 unfold tabB at h
 rw [Bool.and_eq_true, decide_eq_true_eq, List.isPerm_iff] at h
 exact ⟨h.1, Array.perm_iff_toList_perm.mpr h.2⟩
theorem mJ : Tab 64 p0 := kh (by decide +kernel)
theorem qD : Tab 64 p1 := kh (by decide +kernel)
theorem mK : Tab 64 p2 := kh (by decide +kernel)
theorem vk : Tab 64 p3 := kh (by decide +kernel)
noncomputable def Bx (p : Array Nat) : Bool := (List.range 64).all fun j => (List.range (j + 1)).all fun i => !lt6 (p.getD j 0) (p.getD i 0)
theorem qE : Rises lt6 p3 64 := by
 have h : Bx p3 = true := by decide +kernel
 intro i j hij hj
 unfold Bx at h
 rw [List.all_eq_true] at h
 have h2 := h j (List.mem_range.mpr hj)
 rw [List.all_eq_true] at h2
 have h3 := h2 i (List.mem_range.mpr (by lia))
 simpa using h3
theorem xZ : Lows 64 (p2.extract 1 32) := by
 have h : (List.range 31).all (fun i => decide ((p2.extract 1 32).getD i 0 < 64)) = true := by decide +kernel
 have e : (p2.extract 1 32).size = 31 := by decide +kernel
 intro i hi
 rw [e] at hi
 have := List.all_eq_true.mp h i (List.mem_range.mpr hi)
 simpa using this
theorem y9 : Lows 64 (p2.extract 32 63) := by
 have h : (List.range 31).all (fun i => decide ((p2.extract 32 63).getD i 0 < 64)) = true := by decide +kernel
 have e : (p2.extract 32 63).size = 31 := by decide +kernel
 intro i hi
 rw [e] at hi
 have := List.all_eq_true.mp h i (List.mem_range.mpr hi)
 simpa using this
theorem vm : ∀ i, i + 1 < 31 -> lt6 ((p2.extract 32 63).getD (i + 1) 0) ((p2.extract 1 32).getD i 0) = false := by
 have h : (List.range 30).all (fun i => !lt6 ((p2.extract 32 63).getD (i + 1) 0) ((p2.extract 1 32).getD i 0)) = true := by decide +kernel
 intro i hi
 have := List.all_eq_true.mp h i (List.mem_range.mpr (by lia))
 simpa using this
theorem vo : ∀ i, i + 2 < 31 -> lt6 ((p2.extract 32 63).getD (i + 1) 0) ((p2.extract 1 32).getD (i + 1) 0) = true := by
 have h : (List.range 29).all (fun i => lt6 ((p2.extract 32 63).getD (i + 1) 0) ((p2.extract 1 32).getD (i + 1) 0)) = true := by decide +kernel
 intro i hi
 have := List.all_eq_true.mp h i (List.mem_range.mpr (by lia))
 simpa using this
theorem qF {M : Model} {A : Around} {E : zx} {σ : Type} {x : σ} {Q : PUnit -> σ -> Shared -> Prop} {st : σ} {s : Shared} (h : Q ⟨⟩ x s) : kasC M A E (set x : StateT σ Sem PUnit) Q st s := by
 unfold kasC; rw [StateT.run_set]; exact wpAny_pure h
section
variable {prog : Program} {w : World} {A : Around} {E : zx} {s : Shared} {κ : SortKind} {it : Array Keyed}
theorem qG : Lows 64 p2 := fun i hi => mK.low (by rw [mK.size] at hi; exact hi)
theorem nQ {α β : Type} (f : α -> β) (p : Array α) (i j : Nat) : (p.map f).extract i j = (p.extract i j).map f := by simp
theorem era {pw : Nat} : ((#[(0, 32, pw), (32, 32, 0)] : Array (Nat × Nat × Nat)).setIfInBounds 0 (0, 32 + 32, pw)).eraseIdxIfInBounds (0 + 1) = #[(0, 64, pw)] := by
 apply Array.toList_inj.mp
 simp [Array.eraseIdxIfInBounds]
theorem oR {pw : Nat} (hc : Asks prog w A κ it s 64 lt6) {Q : Bool -> SortSt -> Shared -> Prop} (h : Q true (SSt κ it p3 #[(0, 64, pw)] 7) s) : kasC (model prog w) A E (mergeAt' 0) Q (SSt κ it p2 #[(0, 32, pw), (32, 32, 0)] 7) s := by
 have hs : p2.size = 64 := mK.size
 refine kasC_bind (kasC_get ?_)
 refine kasC_bind (qF ?_)
 show kasC _ _ _ _ _ (SortSt.mk' κ (p2.map (kas_item it)) (((#[(0, 32, pw), (32, 32, 0)] : Array (Nat × Nat × Nat)).setIfInBounds 0 (0, 32 + 32, pw)).eraseIdxIfInBounds (0 + 1)) 7 none) _
 rw [era]
 refine kasC_bind (show kasC _ _ _ (elem' (p2.map (kas_item it)) 32) _ _ _ from bb (by rw [hs]; decide) ?_)
 refine kasC_bind (show kasC _ _ _ (gal false (kas_item it (p2.getD 32 0)) (p2.map (kas_item it)) 0 32 0) _ _ _ from vi hc rfl (by decide) (by rw [hs]; decide) qG (by decide +kernel) (by decide +kernel) (by decide +kernel) ?_)
 dsimp only
 rw [if_neg (by decide)]
 refine kasC_bind (show kasC _ _ _ (elem' (p2.map (kas_item it)) 31) _ _ _ from bb (by rw [hs]; decide) ?_)
 refine kasC_bind (show kasC _ _ _ (gal true (kas_item it (p2.getD 31 0)) (p2.map (kas_item it)) 32 32 (32 - 1)) _ _ _ from vj hc rfl (by decide) (by rw [hs]; decide) qG (by decide +kernel) (by decide +kernel) (by decide +kernel) ?_)
 dsimp only
 rw [if_neg (by decide), if_pos (by decide)]
 refine kasC_bind (show kasC _ _ _ (mlo ((p2.map (kas_item it)).extract 1 32) ((p2.map (kas_item it)).extract 32 63)) _ _ _ from ?_)
 rw [nQ, nQ]
 refine xW hc (L := 31) rfl rfl (by decide) (by decide +kernel) (by decide +kernel) xZ y9 vm vo ?_
 refine kasC_bind (kasC_modify (kasC_bind (kasC_get (kasC_pure ?_))))
 have e : BM 1 (wv (p2.extract 1 32) (p2.extract 32 63) (31 - 2) 0 #[(p2.extract 32 63).getD 0 0]) p2 = p3 := by decide +kernel
 have e2 := iI (f := kas_item it) (sa := 1) (wv (p2.extract 1 32) (p2.extract 32 63) (31 - 2) 0 #[(p2.extract 32 63).getD 0 0]).toList 0 p2
 rw [show ((wv (p2.extract 1 32) (p2.extract 32 63) (31 - 2) 0 #[(p2.extract 32 63).getD 0 0]).toList.zipIdx 0).foldl (fun a x => a.setIfInBounds (1 + x.2) x.1) p2 = p3 from e] at e2
 show Q true (SortSt.mk' κ (List.foldl (fun a x => match x with | (p, j) => a.setIfInBounds (1 + j) p) (p2.map (kas_item it)) ((wv (p2.extract 1 32) (p2.extract 32 63) (31 - 2) 0 #[(p2.extract 32 63).getD 0 0]).map (kas_item it)).toList.zipIdx) #[(0, 64, pw)] 7 none) s
 rw [Array.toList_map]
 have e3 : List.foldl (fun (a : Array Keyed) x => match x with | (p, j) => a.setIfInBounds (1 + j) p) (p2.map (kas_item it)) (List.map (kas_item it) (wv (p2.extract 1 32) (p2.extract 32 63) (31 - 2) 0 #[(p2.extract 32 63).getD 0 0]).toList).zipIdx = p3.map (kas_item it) := e2
 rw [e3]
 exact h
theorem runs64 (hc : Asks prog w A κ it s 64 lt6) {Q : Unit -> SortSt -> Shared -> Prop} (h : ∀ st', arrOf st' = p3.map (kas_item it) -> failedOf st' = none -> Q () st' s) : kasC (model prog w) A E sortRuns' Q (kas_st κ it (List.toArray (List.range 64))) s := by
 show kasC _ _ _ _ _ (SSt κ it p0 #[] 7) _
 rw [sortRuns'_eq]
 refine kasC_bind (kasC_get ?_)
 dsimp only
 have hsz : (arrOf (SSt κ it p0 #[] 7)).size = 64 := by
  show (p0.map (kas_item it)).size = 64
  rw [Array.size_map]; exact mJ.size
 have hmr : minRun' 64 64 0 = 32 := by decide
 simp only [hsz, hmr]
 refine kasC_bind (kasC_range ?_)
 show kasC _ _ _ (forIn (0 :: 1 :: 2 :: List.range' 3 61) _ _) _ _ _
 refine kasC_cons ?_
 dsimp only
 rw [if_neg (by lia)]
 refine kasC_bind (nP hc mJ (by lia) (by lia) (by decide +kernel) (by decide +kernel) (by decide +kernel) ?_)
 dsimp only
 rw [if_pos (by lia)]
 refine kasC_bind (kasC_lift (wpAny_rule ?_))
 refine kasC_bind (u9 hc mJ (by lia) ?_)
 rw [show min (64 - 0) 32 - max 2 1 = 30 from rfl, show max 2 1 = 2 from rfl, xX]
 rw [if_neg (by decide)]
 refine kasC_bind (kasC_get ?_)
 rw [show (pendingOf (SSt κ it p1 #[] 7)).back? = none from rfl]
 dsimp only
 refine kasC_bind (kasC_modify (kasC_pure ?_))
 show kasC _ _ _ (forIn (1 :: 2 :: List.range' 3 61) _ _) _ (SSt κ it p1 #[(0, 32, 0)] 7) _
 refine kasC_cons ?_
 dsimp only
 rw [if_neg (by decide)]
 refine kasC_bind (show kasC _ _ _ (countRun' 32 32) _ _ _ from nP hc qD (by lia) (by lia) (by decide +kernel) (by decide +kernel) (by decide +kernel) ?_)
 dsimp only
 rw [if_pos (by lia)]
 refine kasC_bind (kasC_lift (wpAny_rule ?_))
 refine kasC_bind (show kasC _ _ _ (binarySort' 32 32 2) _ _ _ from u9 hc qD (by lia) ?_)
 rw [show 32 - max 2 1 = 30 from rfl, show max 2 1 = 2 from rfl, xY]
 rw [if_neg (by decide)]
 refine kasC_bind (kasC_get ?_)
 rw [show (pendingOf (SSt κ it p2 #[(0, 32, 0)] 7)).back? = some (0, 32, 0) from rfl]
 dsimp only
 refine kasC_bind (kasC_range ?_)
 show kasC _ _ _ (forIn (0 :: List.range' 1 63) _ _) _ _ _
 refine kasC_cons ?_
 refine kasC_bind (kasC_get ?_)
 rw [if_neg (show ¬ (pendingOf (SSt κ it p2 #[(0, 32, 0)] 7)).size > 1 from (by show ¬ (1 > 1); decide))]
 dsimp only
 refine kasC_pure ?_
 dsimp only
 generalize power' 64 (2 * 0 + 32) (2 * 0 + 32 + 32 + min (64 - (0 + min (64 - 0) 32)) 32) 64 = pw
 refine kasC_bind (kasC_modify (kasC_bind (kasC_modify (kasC_pure ?_))))
 have em : ((#[(0, 32, 0)] : Array (Nat × Nat × Nat)).modify (1 - 1) fun x => (x.1, x.2.1, pw)).push (32, 32, 0) = #[(0, 32, pw), (32, 32, 0)] := by
  apply Array.toList_inj.mp
  simp
 show kasC _ _ _ (forIn (2 :: List.range' 3 61) _ _) _ (SortSt.mk' κ (p2.map (kas_item it)) (((#[(0, 32, 0)] : Array (Nat × Nat × Nat)).modify (1 - 1) fun x => (x.1, x.2.1, pw)).push (32, 32, 0)) 7 none) _
 rw [em]
 refine kasC_cons ?_
 dsimp only
 rw [if_pos (by decide)]
 refine kasC_pure ?_
 dsimp only
 refine kasC_bind (kasC_range ?_)
 show kasC _ _ _ (forIn (0 :: 1 :: List.range' 2 62) _ _) _ _ _
 refine kasC_cons ?_
 refine kasC_bind (kasC_get ?_)
 rw [if_neg (by show ¬ (2 <= 1); decide)]
 refine kasC_bind (show kasC _ _ _ (mergeAt' 0) _ (SSt κ it p2 #[(0, 32, pw), (32, 32, 0)] 7) _ from oR hc ?_)
 rw [if_neg (by decide)]
 refine kasC_pure ?_
 dsimp only
 refine kasC_cons ?_
 refine kasC_bind (kasC_get ?_)
 rw [if_pos (by show 1 <= 1; decide)]
 refine kasC_pure ?_
 dsimp only
 exact kasC_pure (h _ rfl rfl)
noncomputable def Ax (n : Nat) (lt : Nat -> Nat -> Bool) : Prop := (n < 64 /\ (∀ i j k, lt j i = false -> lt k j = false -> lt k i = false) /\ ∀ i j, lt i j = true -> lt j i = false) \/ (n = 64 /\ lt = lt6)
theorem Ax.le {n : Nat} {lt : Nat -> Nat -> Bool} (h : Ax n lt) : n <= 64 := by
 rcases h with h | h
 ·lia
 ·lia
theorem ki {a : Addr} {vs : List Value} {n : Nat} {T : Value} {lt : Nat -> Nat -> Bool} {P : PySem.Fin -> Shared -> Prop} (ho : s.heap.get? a = some (seqObj "list" vs.toArray n)) (h64 : vs.length = 64) (hlt : lt = lt6)
  (hT : ∀ h' : Heap, (∀ b o, b ≠ a -> s.heap.get? b = some o -> h'.get? b = some o) -> ∀ v ∈ vs, Looks (model prog w) h' (typeOf v) T) (hT1 : (T != Value.type "tuple") = true) (hT2 : (T == T) = true)
  (hc : ∀ h' : Heap, (∀ b o, b ≠ a -> s.heap.get? b = some o -> h'.get? b = some o) -> ∀ i j (C : Bool -> Shared -> Prop), i < vs.length -> j < vs.length -> C (lt i j) { s with heap := h' } ->
   wpAny (model prog w) A (keyLt' oneType' (vs.getD i Value.none) (vs.getD j Value.none)) C (fun _ _ => False) { s with heap := h' })
  (h : ∀ p : Array Nat, Tab vs.length p -> Rises lt p vs.length -> P (.done (.ret .none)) { s with heap := sortedHeap s.heap a vs (List.toArray (p.toList.map fun i => vs.getD i Value.none)) }) :
  wpAny (model prog w) A (Builtin.«list.sort» ⟨[.ref a], []⟩) P E s := by
 rw [list_sort_plain]
 have ha : a < s.heap.objs.size := Heap.lt_size ho
 refine wpAny_bind (listItems_at ho rfl ?_)
 refine wpAny_bind (listUpdate_at ho rfl ?_ (by rw [List.size_toArray, sizeLine_eq]; lia) (Nat.zero_le _))
 obtain ⟨e1, ho1⟩ : ∃ e1, (s.heap.update a (Obj.mapSeq fun _ => #[])).get? a = some (seqObj "list" #[] e1) := ⟨_, get?_update_seq ho (fun _ => #[])⟩
 refine wpAny_bind (seqEpoch_at ho1 rfl ?_)
 refine wpAny_bind (wpAny_newTuple ?_ (by show vs.length <= _; rw [sizeLine_eq]; lia))
 refine wpAny_bind (wpAny_newList ?_ (Nat.zero_le _))
 refine wpAny_holding ?_
 have ho6 : (((s.heap.update a (Obj.mapSeq fun _ => #[])).push (seqObj "tuple" vs.toArray 0)).push (seqObj "list" #[] 0)).get? a = some (seqObj "list" #[] e1) := by
  rw [Heap.get?_push_ne _ _ _ (by rw [size_push', Heap.size_update]; exact Nat.ne_of_lt (Nat.lt_succ_of_lt ha)), Heap.get?_push_ne _ _ _ (by rw [Heap.size_update]; exact Nat.ne_of_lt ha)]
  exact ho1
 have keep : ∀ b o, b ≠ a -> s.heap.get? b = some o -> (((s.heap.update a (Obj.mapSeq fun _ => (#[] : Array Value))).push (seqObj "tuple" vs.toArray 0)).push (seqObj "list" #[] 0)).get? b = some o := fun b o hb q =>
  Heap.get?_push_of_some _ (Heap.get?_push_of_some _ (by rw [Heap.get?_update_ne _ _ _ _ hb]; exact q))
 show wpAny (model prog w) A _ P E { s with heap := ((s.heap.update a (Obj.mapSeq fun _ => #[])).push (seqObj "tuple" vs.toArray 0)).push (seqObj "list" #[] 0) }
 dsimp only
 have hn2 : ¬ vs.toArray.size < 2 := by rw [List.size_toArray]; lia
 rw [if_neg hn2, if_neg hn2]
 refine wpAny_bind (kas_kind (by lia) (hT _ keep) hT1 hT2 ?_)
 have est : SortSt.mk' oneType' (vs.toArray.zip vs.toArray) #[] 7 none = kas_st oneType' (pairsOf vs) (List.toArray (List.range vs.length)) := by
  have e := kas_range (pairsOf vs)
  rw [pairsOf_size] at e
  show SortSt.mk' oneType' (pairsOf vs) #[] 7 none = SortSt.mk' oneType' ((List.toArray (List.range vs.length)).map (kas_item (pairsOf vs))) #[] 7 none
  rw [e]
 have run : kasC (model prog w) A E sortRuns' (fun _ st' s' => ∃ p : Array Nat, arrOf st' = p.map (kas_item (pairsOf vs)) /\ failedOf st' = none /\ s' = { s with heap := ((s.heap.update a (Obj.mapSeq fun _ => (#[] : Array Value))).push (seqObj "tuple" vs.toArray 0)).push (seqObj "list" #[] 0) } /\ Tab vs.length p /\ Rises lt p vs.length) (kas_st oneType' (pairsOf vs) (List.toArray (List.range vs.length))) { s with heap := ((s.heap.update a (Obj.mapSeq fun _ => (#[] : Array Value))).push (seqObj "tuple" vs.toArray 0)).push (seqObj "list" #[] 0) } := by
  rw [h64]
  subst hlt
  refine runs64 (fun i j C hi hj q => ?_) fun st' e1 e2 => ⟨p3, e1, e2, rfl, vk, qE⟩
  have := hc _ keep i j C (by lia) (by lia) q
  rw [<- kas_ask_eq]
  exact this
 rw [<- est] at run
 refine wpAny_bind (wpAny_mono run ?_ fun _ _ e => e)
 rintro ⟨⟨⟩, st'⟩ s' ⟨p, har, hf, rfl, T, R⟩
 dsimp only
 have hout : (arrOf st').map (·.2) = List.toArray (p.toList.map fun i => vs.getD i Value.none) := by
  apply Array.toList_inj.mp
  rw [har, Array.map_map, Array.toList_map]
  exact List.map_congr_left fun i _ => by show (kas_item (pairsOf vs) i).2 = _; rw [kas_item_eq]
 have hsz : (List.toArray (p.toList.map fun i => vs.getD i Value.none)).size = vs.length := by rw [List.size_toArray, List.length_map, Array.length_toList, T.size]
 rw [hout]
 refine wpAny_bind (seqEpoch_at ho6 rfl ?_)
 refine wpAny_bind (listUpdate_at ho6 rfl ?_ (Nat.zero_le _) (Nat.le_trans (Nat.le_of_eq hsz) (by rw [sizeLine_eq]; lia)))
 rw [hf]
 simp only [bne_self_eq_false, Bool.false_eq_true, if_false]
 exact wpAny_pure (h p T R)
theorem je {a : Addr} {vs : List Value} {n : Nat} {T : Value} {lt : Nat -> Nat -> Bool} {P : PySem.Fin -> Shared -> Prop} (ho : s.heap.get? a = some (seqObj "list" vs.toArray n)) (h64 : Ax vs.length lt)
  (hT : ∀ h' : Heap, (∀ b o, b ≠ a -> s.heap.get? b = some o -> h'.get? b = some o) -> ∀ v ∈ vs, Looks (model prog w) h' (typeOf v) T) (hT1 : (T != Value.type "tuple") = true) (hT2 : (T == T) = true)
  (hc : ∀ h' : Heap, (∀ b o, b ≠ a -> s.heap.get? b = some o -> h'.get? b = some o) -> ∀ i j (C : Bool -> Shared -> Prop), i < vs.length -> j < vs.length -> C (lt i j) { s with heap := h' } ->
   wpAny (model prog w) A (keyLt' oneType' (vs.getD i Value.none) (vs.getD j Value.none)) C (fun _ _ => False) { s with heap := h' })
  (h : ∀ p : Array Nat, Tab vs.length p -> Rises lt p vs.length -> P (.done (.ret .none)) { s with heap := sortedHeap s.heap a vs (List.toArray (p.toList.map fun i => vs.getD i Value.none)) }) :
  wpAny (model prog w) A (Builtin.«list.sort» ⟨[.ref a], []⟩) P E s := by
 rcases h64 with ⟨h1, tr, as⟩ | ⟨h1, h2⟩
 ·exact ke ho h1 tr as hT hT1 hT2 hc h
 ·exact ki ho h1 h2 hT hT1 hT2 hc h
theorem mL {l : Addr} {vs : List Value} {T : Value} {lt : Nat -> Nat -> Bool} {Q : zx} (hl : s.heap.IsList l vs.toArray) (h64 : Ax vs.length lt)
  (hT : ∀ h' : Heap, (∀ b o, s.heap.get? b = some o -> h'.get? b = some o) -> ∀ v ∈ vs, Looks (model prog w) h' (typeOf v) T) (hT1 : (T != Value.type "tuple") = true) (hT2 : (T == T) = true)
  (hc : ∀ h' : Heap, (∀ b o, s.heap.get? b = some o -> h'.get? b = some o) -> ∀ i j (C : Bool -> Shared -> Prop), i < vs.length -> j < vs.length -> C (lt i j) { s with heap := h' } ->
   wpAny (model prog w) A.in1.in1 (keyLt' oneType' (vs.getD i Value.none) (vs.getD j Value.none)) C (fun _ _ => False) { s with heap := h' })
  (h : ∀ p : Array Nat, Tab vs.length p -> Rises lt p vs.length -> Q (.ref (s.heap.objs.size + 1)) { s with heap := sortedAll s.heap vs (List.toArray (p.toList.map fun i => vs.getD i Value.none)) }) :
  wpAny (model prog w) A (call (.builtin "sorted") [.ref l]) Q E s := by
 refine Calls.call_function_entry kind_sorted plain_sorted entry_sorted (args_sorted1 _) ?_
 unfold Builtin.«sorted»
 refine wpAny_bind (m := checkCount "sorted" 1 1 _) (wpAny_pure ?_)
 have hle := h64.le
 refine wpAny_bind (collect_list hl ?_ (by rw [sizeLine_eq]; lia))
 refine wpAny_bind (wpAny_newList ?_ (by rw [sizeLine_eq]; lia))
 have hsz : ((s.heap.push (seqObj "list" #[] 0)).update s.heap.objs.size (Obj.mapSeq (· ++ vs.toArray))).objs.size = s.heap.objs.size + 1 := by
  rw [Heap.size_update, size_push']
 have hoL : (((s.heap.push (seqObj "list" #[] 0)).update s.heap.objs.size (Obj.mapSeq (· ++ vs.toArray))).push (seqObj "list" vs.toArray 0)).get? (s.heap.objs.size + 1) = some (seqObj "list" vs.toArray 0) := by
  rw [<- hsz]; exact Heap.get?_push_size _ rfl
 have keep : ∀ b o, s.heap.get? b = some o -> b ≠ s.heap.objs.size + 1 /\ (((s.heap.push (seqObj "list" #[] 0)).update s.heap.objs.size (Obj.mapSeq (· ++ vs.toArray))).push (seqObj "list" vs.toArray 0)).get? b = some o := fun b o q => by
  have hlt : b < s.heap.objs.size := Heap.lt_size q
  refine ⟨Nat.ne_of_lt (Nat.lt_succ_of_lt hlt), ?_⟩
  rw [Heap.get?_push_ne _ _ _ (by rw [hsz]; exact Nat.ne_of_lt (Nat.lt_succ_of_lt hlt)), Heap.get?_update_ne _ _ _ _ (Nat.ne_of_lt hlt), Heap.get?_push_ne _ _ _ (Nat.ne_of_lt hlt)]
  exact q
 show wpAny _ _ _ _ _ { s with heap := ((s.heap.push (seqObj "list" #[] 0)).update s.heap.objs.size (Obj.mapSeq (· ++ vs.toArray))).push (seqObj "list" vs.toArray 0) }
 rw [hsz]
 refine wpAny_bind (wpAny_holding (wpAny_call_entry slot_list_sort ⟨_, hoL, rfl⟩ entry_list_sort (je (lt := lt) hoL h64 (fun h' k => hT h' fun b o q => k b o (keep b o q).1 (keep b o q).2) hT1 hT2
  (fun h' k => hc h' fun b o q => k b o (keep b o q).1 (keep b o q).2) fun p T R => ⟨_, rfl, ?_⟩) (args_list_sort _)))
 exact wpAny_pure ⟨_, rfl, h p T R⟩
end
variable [Tabs]
section
variable {X : Cx}
noncomputable def By (K : W.Frag) : List V -> Hp -> VK -> Prop := fun xs H Q => ∃ (a : Addr) (vs : List V) (nss : List (List Int)), xs = [.ref a] /\ SqL K H a vs /\ vs.length = nss.length /\ Ax nss.length (ltOf nss) /\
 (∀ (i : Nat) (v : V) (ns : List Int), vs[i]? = some v -> nss[i]? = some ns -> ∃ b, v = V.ref b /\ SqL K H b (ns.map V.int)) /\
 ∀ p : Array Nat, Tab nss.length p -> Rises (ltOf nss) p nss.length -> ∀ l, H l = none -> Q (.ref l) (upd H l (.lst (p.toList.map fun i => vs.getD i .non)))
theorem kj (hu : X.A.units + 64 < cLine) : Ah X (.builtin "sorted") (By X.K) := by
 intro pins s σ H xs us Q I r h
 obtain ⟨a, vs, nss, rfl, hq, hlen, h64, hit, q⟩ := h
 obtain ⟨u, rfl, r1⟩ := vals1 r
 cases r1
 obtain ⟨its, rv, pl, hz⟩ := I.list hq
 have el : its.length = nss.length := by rw [<- rv.length]; exact hlen
 have item : ∀ i, i < its.length -> ∃ b ws ns, its[i]? = some (.ref b) /\ nss[i]? = some ns /\ s.heap.IsList b ws /\ IntsAre ws.toList ns := by
  intro i hi
  obtain ⟨v, e1, e2⟩ := Vals.getR (i := i) (u := its[i]) rv (List.getElem?_eq_getElem hi)
  have e3 : nss[i]? = some nss[i] := List.getElem?_eq_getElem (by lia)
  obtain ⟨b, rfl, hb⟩ := hit i v _ e1 e3
  obtain ⟨ws, rw', pw, _⟩ := I.list hb
  refine ⟨b, ws.toArray, _, ?_, e3, pw.isList, eQ rw'⟩
  rw [List.getElem?_eq_getElem hi]
  exact congrArg some e2
 refine mL (T := .type "list") (lt := ltOf nss) pl.isList (by rw [el]; exact h64) (fun h' k v hv => ?_) rfl rfl (fun h' k i j C hi hj hC => ?_) fun p T R => ?_
 ·obtain ⟨i, hi, rfl⟩ := List.getElem_of_mem hv
  obtain ⟨b, ws, ns, e1, e2, ⟨o, ho, hc, _⟩, _⟩ := item i hi
  rw [List.getElem?_eq_getElem hi] at e1
  injection e1 with e1
  rw [e1]
  exact fun A Q E s' k' q => wpAny_typeOf (T := "list") ⟨o, k' _ _ (k _ _ ho), hc⟩ q
 ·obtain ⟨b, ws, ns, e1, e2, hw, hi'⟩ := item i hi
  obtain ⟨c, zs, ms, e3, e4, hz', hj'⟩ := item j hj
  have g1 : its.getD i Value.none = .ref b := by rw [List.getD_eq_getElem?_getD, e1]; rfl
  have g2 : its.getD j Value.none = .ref c := by rw [List.getD_eq_getElem?_getD, e3]; rfl
  have g3 : nss.getD i [] = ns := by rw [List.getD_eq_getElem?_getD, e2]; rfl
  have g4 : nss.getD j [] = ms := by rw [List.getD_eq_getElem?_getD, e4]; rfl
  rw [g1, g2]
  have kl : ∀ {b : Addr} {ws : Array Value}, s.heap.IsList b ws -> h'.IsList b ws := fun {b ws} ⟨o, ho, hc⟩ => ⟨o, k _ _ ho, hc⟩
  refine lz (by show X.A.units + 1 + 1 < cLine; lia) (kl hw) (kl hz') hi' hj' ?_
  rw [lC, <- g3, <- g4]
  exact hC
 ·rw [el] at T R
  obtain ⟨e, he⟩ := sortedAll_at s.heap its (List.toArray (p.toList.map fun i => its.getD i Value.none))
  refine ⟨.ref (s.heap.objs.size + 1), _, I.laid (t' := s.toks) (fun _ _ => sortedAll_old) (Nat.le_succ _) ?_, rfl, q p T R _ (I.hok.fresh (Nat.le_succ _))⟩
  refine ⟨?_, _, e, ?_, he⟩
  ·rw [List.length_map, Array.length_toList, T.size]
   exact Nat.le_trans h64.le (by decide)
  ·refine gw (by rw [List.length_map, List.length_map]) fun j x u a1 a2 => ?_
   rw [List.getElem?_map] at a1 a2
   cases e5 : p.toList[j]? with
   | none => rw [e5] at a1; cases a1
   | some i =>
    rw [e5] at a1 a2
    simp only [Option.map_some, Option.some.injEq] at a1 a2
    subst a1 a2
    have hi : i < its.length := by
     have hm : i ∈ p := by
      have := List.mem_of_getElem? e5
      simpa using this
     have := T.perm.mem_iff.mp hm
     rw [el]
     simpa using this
    obtain ⟨x, b1, b2⟩ := Vals.getR (i := i) rv (List.getElem?_eq_getElem hi)
    rw [List.getD_eq_getElem?_getD, List.getD_eq_getElem?_getD, b1, List.getElem?_eq_getElem hi]
    exact b2
end
noncomputable def AO : zt -> Option SD
 | [.list xs] => match AV xs with
  | some nss => if nss.length < 64 \/ nss = Sy.madeC 6 then some (.ol ((AW nss).map encL)) else none
  | none => none
 | _ => none
@[simp] theorem jG (xs : zt) : AO [.list xs] = match AV xs with
  | some nss => if nss.length < 64 \/ nss = Sy.madeC 6 then some (.ol ((AW nss).map encL)) else none
  | none => none := rfl
theorem mM {nss : List (List Int)} (h : nss.length < 64 \/ nss = Sy.madeC 6) : Ax nss.length (ltOf nss) := by
 rcases h with h | h
 ·exact .inl ⟨h, fun i j k h1 h2 => Sy.kg _ _ _ h1 h2, fun i j h1 => Sy.cW _ _ h1⟩
 ·subst h
  exact .inr ⟨rfl, rfl⟩
theorem sR {K : W.Frag} {mg : zu} : zT K mg AO (By K) := by
  intro G H vs ds res Q hg hd ho k
  unfold AO at ho
  split at ho
  next xs =>
    split at ho
    next nss e =>
     split at ho
     next hl0 =>
      cases ho
      have hl := mM hl0
      obtain ⟨x, rfl, h1⟩ := dts1 hd
      have e2 := lD e
      subst e2
      cases h1 with
      | lst q r =>
        rename_i vs
        have hlen := r.len
        rw [List.length_map] at hlen
        refine ⟨_, vs, nss, rfl, (hg.sqr q).sq, hlen, hl, fun i v ns h1 h2 => ?_, fun p T R l hp => ?_⟩
        · obtain ⟨d, e3, hd⟩ := Dts.get r h1
          rw [List.getElem?_map, h2] at e3
          cases e3
          unfold encL at hd
          cases hd with
          | lst q2 r2 =>
            have e4 := fz r2 (bg ns)
            subst e4
            exact ⟨_, rfl, (hg.sqr q2).sq⟩
        · refine k _ _ _ (.laidO hg hp) (ju hg hp ?_)
          rw [<- mI T R, List.map_map]
          have hm : ∀ i ∈ p.toList, i < nss.length := fun i hi => by
            have := T.perm.mem_iff.mp (by simpa using hi)
            simpa using this
          generalize p.toList = l at hm
          induction l with
          | nil => exact .nil
          | cons i t ih =>
            refine .cons ?_ (ih fun j hj => hm j (.tail _ hj))
            have hi := hm i (.head _)
            obtain ⟨v, e5, hv⟩ := Dts.get' (i := i) r (by rw [List.getElem?_map, List.getElem?_eq_getElem hi]; rfl)
            show Dt _ _ (vs.getD i V.non) (encL (nss.getD i []))
            rw [List.getD_eq_getElem?_getD, e5, List.getD_eq_getElem?_getD, List.getElem?_eq_getElem hi]
            exact hv
     next => cases ho
    next => cases ho
  next => cases ho
section
variable {X : Cx} {E : XK} {a b e : Expr} {oa ob : Opd} {pos p : Pos}
theorem qH (hu : X.A.units + 64 < cLine) (hm : X.mg "sorted" = none) (hb : bootBuiltins "sorted" = some (.builtin "sorted")) (ha : SO X E a oa) (hg : Gl X "sorted" := by rfl) (hst : starEach [a] X.env = [(false, eval a X.env)] := by rfl) : SE X E (.Call (.Name "sorted" p) [a] [] pos) (eOp AO [oa]) :=
 ip (kj hu) sR hm hb (aa ha af hst) hg (by decide) (by decide) hst rfl
end
end L2
namespace L2
open PySem PySem.Spec PySem.W PyProof.Rows
open HT (lexLt)
section
variable {prog : Program} {w : World} {A : Around} {E : zx} {s : Shared}
end
end L2
namespace L2
open PySem PySem.Spec PyProof.Rows
variable [Tabs]
section
variable {X : Cx}
end
section
variable {X : Cx} {E : XK} {a b e : Expr} {oa ob : Opd} {pos p : Pos}
end
section
variable {X : Cx}
end
section
variable {X : Cx} {E : XK} {a b e : Expr} {oa ob : Opd} {pos p : Pos}
end
section
variable {prog : Program} {w : World} {A : Around} {E : zx} {s : Shared}
end
section
variable {X : Cx}
end
section
variable {X : Cx} {E : XK} {a b e : Expr} {oa ob : Opd} {pos p : Pos}
end
open PySem.W
structure BU (X : Cx) (a : Str) (F : List Nat) (N : List Str) (scope : Scope) : Prop where
 kind : scope.kind = .function
 co : scope.isCoroutine = false
 gen : scope.isGenerator = false
 nocell : ∀ y ∈ scope.names, y.2 ≠ .cell
 arg : scope.names.lookup a = some .local
 free : ∀ y ∈ scope.names, y.2 = .free -> X.env.kindOf y.1 = some .cell \/ X.env.kindOf y.1 = some .free
 n0 : N[0]? = some a
 names : ∀ (i : Nat) x, N[i + 1]? = some x -> ∃ j, F[i]? = some j /\ X.N[j]? = some x /\ Vis X.env.scope x /\ scope.names.lookup x = some .free
 len : N.length = 1 + F.length
section
variable {X : Cx} {pins : zw} {σ : St} {H : Hp} {s : Shared} {N : List Str} {F : List Nat} {scope : Scope} {cl : List (Str × Addr)} {A : Around} {a qual : Str} {f c' : Addr} {v : V} {u : Value}
end
section
variable {X : Cx} {pins : zw} {σ : St} {N : List Str} {F : List Nat} {scope : Scope} {cl : List (Str × Addr)} {a : Str} {f c' l : Addr} {params : Arguments} {body : Expr} {pm ctv : Value} {of : Obj} {te : TE} {vs : List V} {Q : VK} {W : Nat -> Option (V × Int) -> Hp -> Prop}
end
structure LamK (K : W.Frag) (cdv : Value) (c P : Addr) : Prop where
 cd : cdv = .ref c
 hd : codeHdIn K c P = true
 mem : P ∈ Tabs.ts
section
variable {X : Cx} {E : XK} {N : List Str} {F : List Nat} {scope : Scope} {a : Str} {params : Arguments} {body e : Expr} {te : DE} {o : Opd} {c P : Addr} {p pos lp cp k1 k2 : Pos} {j k : Nat}
end
end L2
namespace L2
open PySem PySem.Spec PyProof.Rows
variable [Tabs]
section
variable {X : Cx} {N0 : List Str} {sc0 scope : Scope} {x y : Str}
variable {elt iter : Expr} {fc : DC} {tc : DT} {te : DE} {pos px py pt spos : Pos} {ifs : List Expr} {E : XK} {F : List Nat} {kt : Nat}
end
section
variable {X : Cx} {E : XK} {l : Expr} {o : Opd} {p pos : Pos} {ts : List Expr} {tk : Nat} {tp : Pos}
end
open PySem.W
end L2
namespace L2
open PySem PySem.Spec PyProof.Rows
variable [Tabs]
section
variable {X : Cx} {pins : zw} {σ : St} {H : Hp} {s : Shared} {a : Addr} {o : Obj} {u : HO}
end
section
variable {K : W.Frag} {mg : zu} {G0 H0 G H : Hp} {σ : St} {δ : DEnv} {a : Addr} {o2 : HO}
end
section
variable {X : Cx} {E : XK} {N0 : List Str} {sc0 scope : Scope} {x d : Str} {elt : Expr} {ifs : List Expr} {tc : DT} {te : DE} {pos px pd : Pos} {F : List Nat}
end
end L2
namespace L2
open PySem PySem.Spec PyProof.Rows
section
variable {prog : Program} {w : World} {A : Around} {E : zx} {s : Shared} {a kS : Addr} {vs : List Value} {ns kz : List Int} {keys : Array Value} {e e1 : Nat} {P : PySem.Fin -> Shared -> Prop}
theorem lF {st : SortSt} (nk : s.heap.get? kS = some (seqObj "list" keys e)) (na : s.heap.get? a = some (seqObj "list" #[] e1)) (hka : kS ≠ a)
  (hk : IntsAre keys.toList kz) (hlen : kz.length = vs.length) (h64 : vs.length < 64) (hp : (arrOf st).Perm (keys.zip vs.toArray)) (hs : SortedTo (arrOf st) (arrOf st).size) (hfl : failedOf st = none)
  (h : ∀ h' out c, (∀ b o, b ≠ a -> b ≠ kS -> s.heap.get? b = some o -> h'.get? b = some o) -> h'.get? a = some (seqObj "list" out c) -> KskOut false kz vs out.toList -> P (.done (.ret .none)) { s with heap := h' }) :
  wpAny (model prog w) A (ksk_tail a false e1 (.ref kS) st) P E s := by
 have hsz : keys.size = vs.length := by
  have h1 := hk.length
  rw [Array.length_toList] at h1
  lia
 have hsz2 : (arrOf st).size = vs.length := by rw [hp.size_eq, Array.size_zip, hsz, List.size_toArray, Nat.min_self]
 have s1 := Heap.SameBut.update s.heap kS (Obj.mapSeq fun _ => (#[] : Array Value))
 have na1 : (s.heap.update kS (Obj.mapSeq fun _ => (#[] : Array Value))).get? a = some (seqObj "list" #[] e1) := (s1.2 a hka.symm).trans na
 have s2 := Heap.SameBut.update (s.heap.update kS (Obj.mapSeq fun _ => (#[] : Array Value))) a (Obj.mapSeq fun _ => (arrOf st).map (·.2))
 obtain ⟨c2, hc2⟩ : ∃ c2, ((s.heap.update kS (Obj.mapSeq fun _ => (#[] : Array Value))).update a (Obj.mapSeq fun _ => (arrOf st).map (·.2))).get? a = some (seqObj "list" ((arrOf st).map (·.2)) c2) :=
  ⟨_, get?_update_seq na1 fun _ => (arrOf st).map (·.2)⟩
 unfold ksk_tail
 try dsimp only
 refine wpAny_bind (listUpdate_at nk rfl ?_ (by rw [hsz, sizeLine_eq]; lia) (Nat.zero_le _))
 refine wpAny_bind (wpAny_letGo ?_)
 refine wpAny_bind (seqEpoch_at na1 rfl ?_)
 refine wpAny_bind (listUpdate_at na1 rfl ?_ (Nat.zero_le _) (by simp only [Bool.false_eq_true, if_false, Array.size_map]; rw [hsz2, sizeLine_eq]; lia))
 rw [hfl]
 simp only [bne_self_eq_false, Bool.false_eq_true, if_false]
 refine wpAny_pure (h _ _ c2 (fun b o h1 h2 q => (s2.2 b h1).trans ((s1.2 b h2).trans q)) hc2 ?_)
 have := ksk_out (b := false) hk hp hs
 simpa using this
theorem sS (nk : s.heap.get? kS = some (seqObj "list" keys e)) (na : s.heap.get? a = some (seqObj "list" #[] e1)) (hka : kS ≠ a)
  (hk : IntsAre keys.toList kz) (hlen : kz.length = vs.length) (h64 : vs.length < 64)
  (h : ∀ h' out c, (∀ b o, b ≠ a -> b ≠ kS -> s.heap.get? b = some o -> h'.get? b = some o) -> h'.get? a = some (seqObj "list" out c) -> KskOut false kz vs out.toList -> P (.done (.ret .none)) { s with heap := h' }) :
  wpAny (model prog w) A (ksk_end a false vs.toArray e1 (.ref kS) keys) P E s := by
 have hsz : keys.size = vs.length := by
  have h1 := hk.length
  rw [Array.length_toList] at h1
  lia
 have hzs : (keys.zip vs.toArray).size = vs.length := by rw [Array.size_zip, hsz, List.size_toArray, Nat.min_self]
 unfold ksk_end
 try dsimp only
 simp only [Bool.false_eq_true, if_false]
 by_cases h2 : vs.toArray.size < 2
 ·rw [if_pos h2, if_pos h2]
  refine wpAny_bind (wpAny_pure ?_)
  rw [StateT.run_pure]
  refine wpAny_bind (wpAny_pure ?_)
  try dsimp only
  refine lF (st := SortSt.mk' general' (keys.zip vs.toArray) #[] 7 none) nk na hka hk hlen h64 (Array.Perm.refl _) ?_ rfl h
  intro i j hij hj
  have hj2 : j < (keys.zip vs.toArray).size := hj
  rw [hzs] at hj2
  rw [List.size_toArray] at h2
  have : i = j := by lia
  subst this
  exact Int.le_refl _
 ·rw [if_neg h2, if_neg h2]
  rw [List.size_toArray] at h2
  rw [ksk_kind hk (by rw [hsz]; lia)]
  refine wpAny_bind (wpAny_pure ?_)
  refine wpAny_bind (wpAny_mono (wpS_sortRuns (a₀ := keys.zip vs.toArray) (st := SortSt.mk' oneType' (keys.zip vs.toArray) #[] 7 none)
   (Q := fun _ st' => (arrOf st').Perm (keys.zip vs.toArray) /\ failedOf st' = none /\ SortedTo (arrOf st') (keys.zip vs.toArray).size)
   (ksk_intKeys hk) ⟨Array.Perm.refl _, rfl, rfl, rfl⟩ (by rw [hzs]; lia) (by rw [hzs]; exact h64) fun st' a1 a2 a3 => ⟨a1, a2, a3⟩) ?_ fun _ _ e => e)
  rintro ⟨⟨⟩, st'⟩ s' ⟨rfl, hp, hf, hs⟩
  try dsimp only
  exact lF nk na hka hk hlen h64 hp (by rw [hp.size_eq]; exact hs) hf h
def absK (n : Int) : Int := if n < 0 then -n else n
theorem qI (nk : s.heap.get? kS = some (seqObj "list" #[] 0)) (na : s.heap.get? a = some (seqObj "list" #[] e1)) (hka : kS ≠ a) (hi : IntsAre vs ns) (h64 : vs.length < 64)
  (h : ∀ h' tk out c, (∀ b o, b ≠ a -> b ≠ kS -> s.heap.get? b = some o -> h'.get? b = some o) -> h'.get? a = some (seqObj "list" out c) -> KskOut false (ns.map absK) vs out.toList -> P (.done (.ret .none)) { s with heap := h', toks := tk }) :
  wpAny (model prog w) A (ksk_rest a (.builtin "abs") false vs.toArray e1 (.ref kS)) P E s := by
 have hl := hi.length
 unfold ksk_rest
 refine wpAny_bind (wpAny_rule ?_)
 first
  | rw [List.forIn_toArray]
  | (rw [<- Array.forIn_toList]; simp only [List.toList_toArray])
  | rw [<- Array.forIn_toList]
 refine wpAny_bind (ksk_fold (fun i s' => ∃ h' tk kA e, s' = { s with heap := h', toks := tk } /\ (∀ b o, b ≠ kS -> s.heap.get? b = some o -> h'.get? b = some o) /\ h'.get? kS = some (seqObj "list" kA e) /\ IntsAre kA.toList ((ns.map absK).take i)) vs 0 s
  ⟨s.heap, s.toks, #[], 0, rfl, fun _ _ _ q => q, nk, by simpa using IntsAre.nil⟩ ?step ?done)
 case step =>
  rintro j x s' hx ⟨h', tk, kA, e, rfl, keep, hkS, hk⟩
  simp only [Nat.zero_add] at hk ⊢
  have hj : j < vs.length := (List.getElem?_eq_some_iff.mp hx).1
  obtain ⟨t, rfl⟩ := IntsAre.int_at hi j x hx
  have hkj : (ns.map absK)[j]? = some (absK (ns.getD j 0)) := by
   rw [List.getElem?_map, List.getD_eq_getElem?_getD, List.getElem?_eq_getElem (by lia)]; rfl
  have hz : kA.size <= vs.length := by
   have h1 := hk.length
   rw [Array.length_toList, List.length_take] at h1
   lia
  refine wpAny_bind (wpAny_attempt (call_abs_int fun u2 tk2 => ?_))
  try dsimp only
  have s1 := Heap.SameBut.update h' kS (Obj.mapSeq (·.push (.int (absK (ns.getD j 0)) u2)))
  obtain ⟨c2, hc2⟩ : ∃ c2, (h'.update kS (Obj.mapSeq (·.push (.int (absK (ns.getD j 0)) u2)))).get? kS = some (seqObj "list" (kA.push (.int (absK (ns.getD j 0)) u2)) c2) := ⟨_, get?_update_seq hkS (·.push (.int (absK (ns.getD j 0)) u2))⟩
  have ek : (ns.map absK).take (j + 1) = (ns.map absK).take j ++ [absK (ns.getD j 0)] := by rw [List.take_add_one, hkj]; simp
  have ea : (kA.push (Value.int (absK (ns.getD j 0)) u2)).toList = kA.toList ++ [Value.int (absK (ns.getD j 0)) u2] := by simp
  refine wpAny_bind (listUpdate_at hkS rfl ?_ (by rw [sizeLine_eq]; lia) (Nat.le_trans (Nat.le_of_eq (Array.size_push ..)) (by rw [sizeLine_eq]; lia)))
  exact wpAny_pure ⟨rfl, _, _, kA.push (.int (absK (ns.getD j 0)) u2), c2, rfl, fun b o h1 q => (s1.2 b h1).trans (keep b o h1 q), hc2, by rw [ea, ek]; exact ksk_snoc hk⟩
 case done =>
  rintro s' ⟨h', tk, kA, e, rfl, keep, hkS, hk⟩
  have hk' : IntsAre kA.toList (ns.map absK) := by
   have e3 : (ns.map absK).take (0 + vs.length) = ns.map absK := List.take_of_length_le (by rw [List.length_map]; lia)
   rw [e3] at hk
   exact hk
  try dsimp only
  refine wpAny_bind (listItems_at hkS rfl ?_)
  exact sS (s := { s with heap := h', toks := tk }) hkS (keep a _ hka.symm na) hka hk' (by rw [List.length_map]; lia) h64 fun h3 out c keep3 ha3 k3 => h h3 tk out c (fun b o h1 h2 q => keep3 b o h1 h2 (keep b o h2 q)) ha3 k3
theorem jf {n : Nat} (ho : s.heap.get? a = some (seqObj "list" vs.toArray n)) (hi : IntsAre vs ns) (h64 : vs.length < 64)
  (h : ∀ h' tk out c, (∀ b o, b ≠ a -> s.heap.get? b = some o -> h'.get? b = some o) -> h'.get? a = some (seqObj "list" out c) -> KskOut false (ns.map absK) vs out.toList -> P (.done (.ret .none)) { s with heap := h', toks := tk }) :
  wpAny (model prog w) A (ksk_tree a (.builtin "abs") false) P E s := by
 have ha : a < s.heap.objs.size := Heap.lt_size ho
 have s1 := Heap.SameBut.update s.heap a (Obj.mapSeq fun _ => (#[] : Array Value))
 obtain ⟨e1, ho1⟩ : ∃ e1, (s.heap.update a (Obj.mapSeq fun _ => (#[] : Array Value))).get? a = some (seqObj "list" #[] e1) := ⟨_, get?_update_seq ho fun _ => #[]⟩
 have hkS : ((s.heap.update a (Obj.mapSeq fun _ => (#[] : Array Value))).push (seqObj "tuple" vs.toArray 0)).objs.size = s.heap.objs.size + 1 := by rw [size_push', Heap.size_update]
 unfold ksk_tree
 refine wpAny_bind (listItems_at ho rfl ?_)
 refine wpAny_bind (listUpdate_at ho rfl ?_ (by rw [List.size_toArray, sizeLine_eq]; lia) (Nat.zero_le _))
 refine wpAny_bind (seqEpoch_at ho1 rfl ?_)
 refine wpAny_bind (wpAny_newTuple ?_ (by show vs.length <= _; rw [sizeLine_eq]; lia))
 refine wpAny_bind (wpAny_newList ?_ (Nat.zero_le _))
 refine wpAny_holding ?_
 refine qI (s := { s with heap := ((s.heap.update a (Obj.mapSeq fun _ => (#[] : Array Value))).push (seqObj "tuple" vs.toArray 0)).push (seqObj "list" #[] 0) }) (kS := ((s.heap.update a (Obj.mapSeq fun _ => (#[] : Array Value))).push (seqObj "tuple" vs.toArray 0)).objs.size)
  (Heap.get?_push_size _ rfl) (Heap.get?_push_of_some _ (Heap.get?_push_of_some _ ho1)) (by rw [hkS]; exact Nat.ne_of_gt (Nat.lt_succ_of_lt ha)) hi h64 fun h' tk out c keep h1 h2 => h h' tk out c (fun b o hb q => ?_) h1 h2
 refine keep b o hb (by rw [hkS]; exact Nat.ne_of_lt (Nat.lt_succ_of_lt (Heap.lt_size q))) (Heap.get?_push_of_some _ (Heap.get?_push_of_some _ ((s1.2 b hb).trans q)))
theorem mN {l : Addr} {Q : zx} (hl : s.heap.IsList l vs.toArray) (hi : IntsAre vs ns) (h64 : vs.length < 64)
  (h : ∀ D h' tk out c, s.heap.objs.size <= D -> (∀ b o, s.heap.get? b = some o -> h'.get? b = some o) -> h'.get? D = some (seqObj "list" out c) -> KskOut false (ns.map absK) vs out.toList -> Q (.ref D) { s with heap := h', toks := tk }) :
  wpAny (model prog w) A (call (.builtin "sorted") [.ref l] [(Str.ofString "key", .builtin "abs")]) Q E s := by
 refine call_function_entry_kw kind_sorted plain_sorted entry_sorted (ksk_s1 _ _) ?_
 unfold Builtin.«sorted»
 refine wpAny_bind (m := checkCount "sorted" 1 1 _) (wpAny_pure ?_)
 refine wpAny_bind (collect_list hl ?_ (by rw [sizeLine_eq]; lia))
 refine wpAny_bind (wpAny_newList ?_ (by rw [sizeLine_eq]; lia))
 have hsz : ((s.heap.push (seqObj "list" #[] 0)).update s.heap.objs.size (Obj.mapSeq (· ++ vs.toArray))).objs.size = s.heap.objs.size + 1 := by
  rw [Heap.size_update, size_push']
 have hoL : (((s.heap.push (seqObj "list" #[] 0)).update s.heap.objs.size (Obj.mapSeq (· ++ vs.toArray))).push (seqObj "list" vs.toArray 0)).get? (s.heap.objs.size + 1) = some (seqObj "list" vs.toArray 0) := by
  rw [<- hsz]; exact Heap.get?_push_size _ rfl
 have keep : ∀ b o, s.heap.get? b = some o -> b ≠ s.heap.objs.size + 1 /\ (((s.heap.push (seqObj "list" #[] 0)).update s.heap.objs.size (Obj.mapSeq (· ++ vs.toArray))).push (seqObj "list" vs.toArray 0)).get? b = some o := fun b o q => by
  have hlt : b < s.heap.objs.size := Heap.lt_size q
  refine ⟨Nat.ne_of_lt (Nat.lt_succ_of_lt hlt), ?_⟩
  rw [Heap.get?_push_ne _ _ _ (by rw [hsz]; exact Nat.ne_of_lt (Nat.lt_succ_of_lt hlt)), Heap.get?_update_ne _ _ _ _ (Nat.ne_of_lt hlt), Heap.get?_push_ne _ _ _ (Nat.ne_of_lt hlt)]
  exact q
 show wpAny _ _ _ _ _ { s with heap := ((s.heap.push (seqObj "list" #[] 0)).update s.heap.objs.size (Obj.mapSeq (· ++ vs.toArray))).push (seqObj "list" vs.toArray 0) }
 rw [hsz]
 refine wpAny_bind (wpAny_holding (wpAny_call_entry_kw slot_list_sort ⟨_, hoL, rfl⟩ entry_list_sort ?body (ksk_l1 _ _)))
 show wpAny (model prog w) A.in1.in1 (Builtin.«list.sort» ⟨[.ref (s.heap.objs.size + 1)], [(Str.ofString "key", .builtin "abs")]⟩) _ _ _
 rw [ksk_t4]
 refine jf (s := { s with heap := ((s.heap.push (seqObj "list" #[] 0)).update s.heap.objs.size (Obj.mapSeq (· ++ vs.toArray))).push (seqObj "list" vs.toArray 0) }) hoL hi h64 fun h' tk out c kp h1 h2 => ⟨_, rfl, ?_⟩
 exact wpAny_pure ⟨_, rfl, h _ h' tk out c (Nat.le_succ _) (fun b o q => kp b o (keep b o q).1 (keep b o q).2) h1 h2⟩
end
theorem qJ {vs out : List Value} {ns : List Int} (hi : IntsAre vs ns) (h : KskOut false (ns.map absK) vs out) : ∃ ns', IntsAre out ns' /\ ns'.Perm ns /\ ns'.Pairwise (fun x y => absK x <= absK y) := by
 obtain ⟨ps, hp, rfl, hs⟩ := h
 have key : ∀ {vs : List Value} {ns : List Int}, IntsAre vs ns -> ∀ p ∈ (ns.map absK).zip vs, ∃ n t, p = (absK n, Value.int n t) := fun {vs ns} hi => by
  induction hi with
  | nil => intro p hp; simp at hp
  | cons n t _ ih =>
   intro p hp
   rw [List.map_cons, List.zip_cons_cons] at hp
   rcases List.mem_cons.mp hp with rfl | hp
   ·exact ⟨n, t, rfl⟩
   ·exact ih p hp
 have kp : ∀ p ∈ ps, ∃ n t, p = (absK n, Value.int n t) := fun p h => key hi p (hp.mem_iff.mp h)
 have allI : ∀ {ps : List (Int × Value)}, (∀ p ∈ ps, ∃ n t, p = (absK n, Value.int n t)) -> IntsAre (ps.map Prod.snd) (ps.map fun p => numOf p.2) /\ ∀ p ∈ ps, p.1 = absK (numOf p.2) := fun {ps} => by
  induction ps with
  | nil => intro _; exact ⟨.nil, fun p h => absurd h (by simp)⟩
  | cons p r ih =>
   intro h
   obtain ⟨n, t, rfl⟩ := h p (List.mem_cons_self ..)
   obtain ⟨i1, i2⟩ := ih fun q hq => h q (List.mem_cons_of_mem _ hq)
   exact ⟨.cons n t i1, fun q hq => by
    rcases List.mem_cons.mp hq with rfl | hq
    ·rfl
    ·exact i2 q hq⟩
 obtain ⟨i1, i2⟩ := allI kp
 refine ⟨_, i1, ?_, ?_⟩
 ·have e1 : ((ns.map absK).zip vs).map (fun p => numOf p.2) = ns := by
   have : ((ns.map absK).zip vs).map (fun p => numOf p.2) = (((ns.map absK).zip vs).map Prod.snd).map numOf := by rw [List.map_map]; rfl
   rw [this, List.map_snd_zip (by rw [List.length_map, hi.length]; exact Nat.le_refl _)]
   exact hi.nums
  rw [<- e1]
  exact hp.map _
 ·rw [List.pairwise_map]
  refine hs.imp_of_mem fun {p q} h1 h2 h3 => ?_
  have h3' : p.1 <= q.1 := by simpa using h3
  rw [<- i2 p h1, <- i2 q h2]
  exact h3'
variable [Tabs]
noncomputable def inB2 (d : PyData) : PyData -> Option Bool
 | .dict es => (Az d).map fun k => es.any fun p => decide (Az p.1 = some k)
 | y => inB d y
noncomputable def dIn2 : zt -> Option SD
 | [x, y] => (inB2 x y).map fun b => .sh (.bool b)
 | _ => none
section
variable {X : Cx}
end
section
variable {K : W.Frag} {mg : zu}
end
section
variable {X : Cx} {E : XK} {a b : Expr} {oa ob : Opd} {pos : Pos}
end
noncomputable def AQ (x : Int) : List Int -> List Int
 | [] => [x]
 | y :: r => if absK x <= absK y then x :: y :: r else y :: AQ x r
def Ay (l : List Int) : List Int := l.foldr AQ []
theorem du (x : Int) : ∀ l, (AQ x l).Perm (x :: l)
 | [] => .refl _
 | y :: r => by
  unfold AQ
  split
  ·exact .refl _
  ·exact ((du x r).cons y).trans (.swap x y r)
theorem bC : ∀ l, (Ay l).Perm l
 | [] => .refl _
 | x :: r => (du x (Ay r)).trans ((bC r).cons x)
theorem gC (x : Int) : ∀ l : List Int, l.Pairwise (fun a b => absK a <= absK b) -> (AQ x l).Pairwise (fun a b => absK a <= absK b)
 | [], _ => List.pairwise_cons.mpr ⟨fun _ h => absurd h (by simp), .nil⟩
 | y :: r, h => by
  unfold AQ
  obtain ⟨h1, h2⟩ := List.pairwise_cons.mp h
  split
  next hx => exact List.pairwise_cons.mpr ⟨fun z hz => by
   rcases List.mem_cons.mp hz with rfl | hz
   ·exact hx
   ·exact Int.le_trans hx (h1 z hz), h⟩
  next hx => exact List.pairwise_cons.mpr ⟨fun z hz => by
   rcases List.mem_cons.mp ((du x r).mem_iff.mp hz) with rfl | hz
   ·lia
   ·exact h1 z hz, gC x r h2⟩
theorem cX : ∀ l : List Int, (Ay l).Pairwise (fun a b => absK a <= absK b)
 | [] => .nil
 | x :: r => gC x _ (cX r)
noncomputable def AJ (l : List Int) : Bool := decide (l.Pairwise fun a b => absK a ≠ absK b)
theorem km {l : List Int} (h : AJ l = true) : ∀ a ∈ l, ∀ b ∈ l, absK a = absK b -> a = b := by
 have h := of_decide_eq_true h
 intro a ha b hb e
 obtain ⟨i, hi, rfl⟩ := List.getElem_of_mem ha
 obtain ⟨j, hj, rfl⟩ := List.getElem_of_mem hb
 rw [List.pairwise_iff_getElem] at h
 rcases Nat.lt_trichotomy i j with z | z | z
 ·exact absurd e (h i j hi hj z)
 ·subst z; rfl
 ·exact absurd e.symm (h j i hj hi z)
theorem mO {r l : List Int} (ha : AJ l = true) (hp : r.Perm l) (hr : r.Pairwise (fun a b => absK a <= absK b)) : r = Ay l :=
 (hp.trans (bC l).symm).eq_of_pairwise (le := fun a b => absK a <= absK b) (fun a b h1 h2 h3 h4 => km ha a (hp.mem_iff.mp h1) b ((bC l).mem_iff.mp h2) (Int.le_antisymm h3 h4)) hr (cX l)
noncomputable def Av : zt -> Option SD
 | [.list xs] => if xs.length < 64 then (match zW xs with
  | some ns => if AJ ns = true then some (.ol ((Ay ns).map PyData.int)) else none
  | none => none) else none
 | _ => none
section
variable {X : Cx} {E : XK} {e : Expr} {o : Opd} {p pos pk kp : Pos}
theorem mP (hm : X.mg "sorted" = none) (hm2 : X.mg "abs" = none) (ha : SO X E e o) (hg : Gl X "sorted" := by rfl) (hg2 : Gl X "abs" := by rfl) (hst : starEach [e] X.env = [(false, eval e X.env)] := by rfl)
  (hkws : backToKw pos (keywordEach [⟨some "key", .Name "abs" pk, kp⟩] X.env) = [((some (Str.ofString "key") : Option Str), do let v <- eval (.Name "abs" pk) X.env; standAt pos; pure v)] := by rfl) :
  SE X E (.Call (.Name "sorted" p) [e] [⟨some "key", .Name "abs" pk, kp⟩] pos) (eOp Av [o]) := by
 have main : PE X (.Call (.Name "sorted" p) [e] [⟨some "key", .Name "abs" pk, kp⟩] pos) (fun σ H Q => tOs X.K X.mg E [o] σ H fun vs H1 => ∃ a ns, vs = [.ref a] /\ SqL X.K H1 a (ns.map V.int) /\ ns.length < 64 /\ ∀ (ns' : List Int) D, ns'.Perm ns -> ns'.Pairwise (fun a b => absK a <= absK b) -> H1 D = none -> Q (.ref D) (upd H1 D (.lst (ns'.map V.int)))) := by
  intro pins s σ H Q I h
  refine wpAny_Call_Name_kw (eO I hg hm boot_sorted ?_ (by decide) (by decide))
  have hA := aa ha (af (X := X) (E := E)) hst
  refine callWith_kw (thn (hA pos pins s σ H _ I h) fun us s1 h1 => ?_) (by rw [hst]; rfl) (by rw [hst]; rfl) (by rw [hkws]; rfl) (by rw [hkws]; rfl)
  obtain ⟨vs, H1, I1, r1, a, ns, rfl, hsq, h64, q⟩ := h1
  obtain ⟨u, rfl, ru⟩ := vals1 r1
  cases (show u = Value.ref a from ru)
  rw [hkws]
  refine wpAny_evalAll_cons (wpAny_bind (eO I1 hg2 hm2 boot_abs (wpAny_bind (wpAny_standAt (wpAny_pure (wpAny_evalAll_nil ?_)))) (by decide) (by decide)))
  show wpAny _ X.A (call (.builtin "sorted") [.ref a] [(Str.ofString "key", .builtin "abs")]) _ _ s1
  obtain ⟨its, rv, pl, hz⟩ := I1.list hsq
  have hi := eQ rv
  have hil : its.length = ns.length := by rw [<- rv.length, List.length_map]
  refine mN pl.isList hi (by lia) fun D h' tk out c hD keep ho hout => ?_
  obtain ⟨ns', i1, i2, i3⟩ := qJ hi hout
  refine ⟨.ref D, _, I1.laid (t' := tk) keep hD ?_, rfl, q ns' D i2 i3 (I1.hok.fresh hD)⟩
  refine ⟨?_, out.toList, c, dU i1, by simpa using ho⟩
  rw [List.length_map, i2.length_eq]
  exact Nat.le_trans (Nat.le_of_lt h64) (by decide)
 refine main.weak fun σ H Q h => fy (r := fun vs H1 Q => ∃ a ns, vs = [.ref a] /\ SqL X.K H1 a (ns.map V.int) /\ ns.length < 64 /\ ∀ (ns' : List Int) D, ns'.Perm ns -> ns'.Pairwise (fun a b => absK a <= absK b) -> H1 D = none -> Q (.ref D) (upd H1 D (.lst (ns'.map V.int)))) (fun G H vs ds res Q hg hd ho k => ?_) h
 unfold Av at ho
 split at ho
 next xs =>
  split at ho
  next hl =>
   split at ho
   next ns en =>
    split at ho
    next hap =>
     cases ho
     obtain ⟨x, rfl, h1⟩ := dts1 hd
     cases h1 with
     | lst q r =>
      have e2 := fz r en
      subst e2
      have hlen := r.len
      rw [List.length_map] at hlen
      refine ⟨_, ns, rfl, (hg.sqr q).sq, by lia, fun ns' D h1 h2 hp => ?_⟩
      rw [mO hap h1 h2]
      exact k _ _ _ (.laidO hg hp) (ju hg hp (Dts.ints _))
    next => cases ho
   next => cases ho
  next => cases ho
 next => cases ho
end
section
variable {X : Cx} {E : XK} {a b : Expr} {oa ob : Opd} {p p2 pos pos2 : Pos}
end
structure LamQ (K : W.Frag) (qn : Str) (cdv : Value) (c P : Addr) : Prop where
 k : LamK K cdv c P
 q : qn ++ ".<locals>." ++ "<lambda>" = Tabs.qual
section
variable {X : Cx} {E : XK} {F : List Nat} {scope sc0 : Scope} {N0 : List Str} {a qn : Str} {params : Arguments} {body e : Expr} {te : DE} {o : Opd} {c P : Addr} {p pos lp cp k1 k2 : Pos} {j k : Nat}
end
end L2
namespace L2
open PySem PySem.Spec PyProof.Rows
structure BZ (X : Cx) (x : Str) (F : List Nat) (N : List Str) (scope : Scope) : Prop where
 kind : scope.kind = .function
 c1 : ∀ n cl, cellsFrom n scope.names cl = (x, n) :: cl
 c2 : ∀ h, pushCells h scope.names = h.push { cls := .type "cell", data := .cell none }
 only : ∀ y ∈ scope.names, y.2 = .cell -> y.1 = x
 loc : ∀ y ∈ scope.names, y.2 = .local -> scope.names.lookup y.1 = some .local
 fkind : X.env.scope.kind = .function
 free : ∀ y ∈ scope.names, y.2 = .free -> X.env.kindOf y.1 = some .cell \/ X.env.kindOf y.1 = some .free
 names : ∀ (i : Nat) y, N[i]? = some y -> (i < 1 \/ (y ≠ x /\ ∃ j, F[i - 1]? = some j /\ X.N[j]? = some y /\ Vis X.env.scope y /\ ∀ k, (relabel scope X.env).names.lookup y = some k -> k = .cell \/ k = .free))
 len : N.length = 1 + F.length
section
variable {X : Cx} {pins : zw} {σ : St} {H : Hp} {s : Shared} {N : List Str} {F : List Nat} {scope : Scope} {cl : List (Str × Addr)} {fp : List Addr} {x : Str}
end
section
variable {X : Cx} {x xo : Str} {N : List Str} {F : List Nat} {scope : Scope} {tg elt iter : Expr} {wi : TI} {g : TG} {tc : TT} {te : TE} {pos : Pos} {ifs : List Expr}
end
variable [Tabs]
section
variable {X : Cx} {E : XK} {N0 : List Str} {sc0 scope : Scope} {x : Str} {elt iter : Expr} {ifs : List Expr} {fc : DC} {tc : DT} {te : DE} {pos px : Pos} {F : List Nat}
end
structure zU (s p : Addr) (G H G' H' : Hp) : Prop where
 at_ : ∀ b o, b ≠ s -> b ≠ p -> H b = some o -> H' b = some o
 gg : Same G G'
 gh : Same G' H'
 nb : ∀ b, H b ≠ none -> G' b = G b
 nt : NoT G -> NoT G'
theorem zU.ne {s p : Addr} {G H G' H' : Hp} (g : zU s p G H G' H') (h1 : H' s ≠ none) (h2 : H' p ≠ none) {b : Addr} (h : H b ≠ none) : H' b ≠ none := by
 by_cases hs : b = s
 ·rw [hs]; exact h1
 ·by_cases hp : b = p
  ·rw [hp]; exact h2
  ·cases q : H b with
   | none => exact absurd q h
   | some o => rw [g.at_ b o hs hp q]; simp
theorem zU.trans {s p : Addr} {G H G1 H1 G2 H2 : Hp} (a : zU s p G H G1 H1) (c : zU s p G1 H1 G2 H2) (h1 : H1 s ≠ none) (h2 : H1 p ≠ none) : zU s p G H G2 H2 :=
 ⟨fun b o hs hp e => c.at_ b o hs hp (a.at_ b o hs hp e), a.gg.trans c.gg, c.gh, fun b h => (c.nb b (a.ne h1 h2 h)).trans (a.nb b h), fun n => c.nt (a.nt n)⟩
theorem zU.refl {s p : Addr} {G H : Hp} (h : Same G H) : zU s p G H G H := ⟨fun _ _ _ _ e => e, .refl _, h, fun _ _ => rfl, id⟩
theorem zU.laid {s p q : Addr} {G H : Hp} {xs : List V} (h : Same G H) (hq : H q = none) : zU s p G H (upd G q (.tup xs)) (upd H q (.tup xs)) :=
 let g := Grow.laid (o := .tup xs) h hq
 ⟨fun b o _ _ e => by rw [ah (ao e hq)]; exact e, g.gg, g.gh, g.nb, g.nt⟩
theorem zU.write {s p q : Addr} {G H : Hp} {o : HO} (h : Same G H) (hq : q = s \/ q = p) (hG : G q = none) : zU s p G H G (upd H q o) :=
 ⟨fun b u h1 h2 e => by rw [ah (by rcases hq with rfl | rfl <;> assumption)]; exact e, .refl _, fun b u e => by
  rw [ah (fun z => by rw [z, hG] at e; cases e)]; exact h b u e, fun _ _ => rfl, id⟩
noncomputable def BK (K : W.Frag) : List V -> Hp -> VK -> Prop := fun xs H Q => ∃ p ys, xs = [.ref p] /\ (SqL K H p ys \/ SqT K H p ys) /\ Q (.int ys.length) H
theorem Dts.dropLast' {K : W.Frag} {H : Hp} {vs : List V} {ds : zt} (h : Dts K H vs ds) : Dts K H vs.dropLast ds.dropLast := by
 rw [List.dropLast_eq_take, List.dropLast_eq_take, h.len]
 exact h.take _
noncomputable def setP (i : Nat) (p : zt × DEnv × DEnv) : SOut := match isOl p.2.2 i, p.1 with
 | some ds, [d, .int k] => (match ixN ds.length k with
  | some j => .nx (p.2.2.set i (some (.ol (ds.set j d))))
  | none => .bad)
 | _, _ => .bad
noncomputable def C0 (i : Nat) (ov ok : Opd) : DS := fun δ => match isOl δ i with
 | none => .bad
 | some _ => match opds [ov, ok] δ with
  | .ok p => setP i p
  | .exc x => .exc x
  | .bad => .bad
noncomputable def ePop (i : Nat) : DE := fun δ => match isOl δ i with
 | none => .bad
 | some ds => match ds.getLast? with
  | some d => .ok (.sh d, δ.set i (some (.ol ds.dropLast)))
  | none => .bad
@[simp] theorem yT (i : Nat) (δ : DEnv) : ePop i δ = match isOl δ i with
 | none => .bad
 | some ds => match ds.getLast? with
  | some d => .ok (.sh d, δ.set i (some (.ol ds.dropLast)))
  | none => .bad := rfl
section
variable {X : Cx} {E : XK} {e k v : Expr} {o ov ok : Opd} {x : Str} {px apos cpos pos tpos : Pos}
theorem gi (i : Nat) (hN : X.N[i]? = some x := by rfl) (hv : Vis X.env.scope x := by first | exact Or.inl rfl | exact Or.inr (Or.inl rfl) | exact Or.inr (Or.inr rfl)) (hd : (x == ("__debug__" : Str)) = false := by decide)
  (hcd : (x == ("__classdict__" : Str)) = false := by decide) (hbase : attributeBase (.Name x px) "pop" X.env (eval (.Name x px) X.env) = eval (.Name x px) X.env := by rfl) (hline : (apos.endLine == cpos.line) = true := by rfl) :
  SE X E (.Call (.Attribute (.Name x px) "pop" apos) [] [] cpos) (ePop i) :=
 (uG PySem.F.plainAttrs_list PySem.F.slot_list_pop PySem.F.type_list_pop uH (fV hN hv hd hcd) hbase hline).weak fun σ H Q ⟨G0, H0, G, δ, R, m⟩ => by
  unfold ePop at m
  cases e0 : isOl δ i with
  | none => rw [e0] at m; exact m.elim
  | some ds =>
   rw [e0] at m
   dsimp only at m
   obtain ⟨w, h1, ⟨a, xs, rfl, q1, q2, q3⟩, _⟩ := R.at_ (cU e0)
   cases e1 : ds.getLast? with
   | none => rw [e1] at m; exact m.elim
   | some d =>
    rw [e1] at m
    dsimp only at m
    rw [List.getLast?_eq_getElem?] at e1
    obtain ⟨y, hy, hyd⟩ := q3.get' e1
    refine ⟨.ref a, h1, .inl ⟨rfl, xs, .inl (.inl q2)⟩, a, xs, y, rfl, rfl, q2, by rw [q3.len]; exact hy, ?_⟩
    exact m y _ G (R.write (cU e0) trivial h1 ⟨a, _, rfl, q1, aq, q3.dropLast'⟩ (by rw [q2]; trivial) (fun C z => by rw [q2] at z; cases z)) (.refl _) (RR.sh hyd)
end
def sBad : DS := fun _ => .bad
@[simp] theorem yU (δ : DEnv) : sBad δ = .bad := rfl
section
variable {X : Cx} {E : XK} {e : Expr} {st : Stmt} {sts : List Stmt}
theorem mQ : S1 X E st sBad := fun _ _ _ _ _ _ ⟨_, _, _, _, _, m⟩ => m.elim
end
theorem kn (l : Addr) (items : Array Value) (n : Nat) (b : Addr) (items2 : Array Value) (hs0 : ¬(!items.isEmpty && Builtin.List.listTooLong (items.size + items2.size)) = true) (hs1 : items.size <= sizeLine) (hs2 : items.size + items2.size <= sizeLine + 1) :
  Meets (Builtin.«list.extend» ⟨[.ref l, .ref b], []⟩) (fun _ R s => s.heap.get? l = some { cls := .type "list", dict := none, data := .seq items n, slots := #[] } /\ IsTup s.heap b items2 /\ R (.ok (.ret Value.none)) { s with heap := s.heap.update l (Obj.mapSeq fun x => x ++ items2), toks := s.toks }) :=
 .of_wp fun prog w A R s h => by
  obtain ⟨hp, g, d, tk, os⟩ := s
  obtain ⟨hl, ⟨⟨oc, od, odt, osl⟩, hb, hc, n2, hd⟩, h⟩ := h
  have hc' : oc = .type "tuple" := hc
  have hd' : odt = .seq items2 n2 := hd
  subst hc' hd'
  have f1 := PySem.AutoSeq1.idx_int
  have f2 := PySem.AutoSeq1.sub_tuple_tuple
  have f3 := PySem.AutoSeq1.sub_list_list
  have f4 := PySem.AutoSeq1.sub_tuple_list
  have f5 := PySem.AutoSeq1.sub_list_tuple
  have hz' : (items ++ items2).size <= sizeLine + 1 := by rw [Array.size_append]; exact hs2
  wp_walk using (wpAny_updateSeq hl rfl (hz := hs1) (_hz' := hz')), PySem.AutoSeq1.wpAny_loadPart' hl, PySem.AutoSeq1.wpAny_loadPart' hb
  exact ⟨_, rfl, h⟩
noncomputable def AF (ds : zt) : zt -> Option zt
 | [.list fs] => if ds.length + fs.length <= sizeLine then some (ds ++ fs) else none
 | [.tuple fs] => if ds.length + fs.length <= sizeLine then some (ds ++ fs) else none
 | _ => none
@[simp] theorem ya (ds es : zt) : AF ds [.list es] = if ds.length + es.length <= sizeLine then some (ds ++ es) else none := rfl
@[simp] theorem yb (ds es : zt) : AF ds [.tuple es] = if ds.length + es.length <= sizeLine then some (ds ++ es) else none := rfl
noncomputable def BL (K : W.Frag) : V -> List V -> Hp -> VK -> Prop := fun x vs H Q => ∃ l b xs zs, x = .ref l /\ vs = [.ref b] /\ H l = some (.lst xs) /\ (SqR K H b zs \/ SqT K H b zs) /\ xs.length + zs.length <= sizeLine /\ Q .non (upd H l (.lst (xs ++ zs)))
section
variable {X : Cx} {E : XK} {e k v : Expr} {o ov ok : Opd} {x : Str} {px apos cpos pos tpos : Pos}
theorem sT : MtM X "list.extend" (BL X.K) := by
 intro pins s σ H x vs v us Q I rx rv h
 obtain ⟨l, b, xs, zs, rfl, rfl, hH, hB, hz, q⟩ := h
 cases rx
 obtain ⟨u, rfl, ru⟩ := rv.one
 cases ru
 obtain ⟨z, its, n, r, hl, e⟩ := I.lstM hH
 rcases hB with hB | hB
 ·obtain ⟨z2, its2, n2, r2, hl2, e2⟩ := I.lstR hB
  have hsz : its.toArray.size + its2.toArray.size <= sizeLine := by rw [List.size_toArray, List.size_toArray]; lia
  have hlong : ¬ (!its.toArray.isEmpty && Builtin.List.listTooLong (its.toArray.size + its2.toArray.size)) = true := by
   rw [B2 hsz, Bool.and_false]
   exact Bool.false_ne_true
  refine call_meets PySem.F.slot_list_extend ⟨_, e, rfl⟩ PySem.F.entry_list_extend (PySem.F.args_list_extend_2 _ _)
   (AutoSeq1.list_extend_list_list_0 l its.toArray n b its2.toArray n2 hlong (by rw [List.size_toArray]; lia) (by lia)) ⟨e, e2, ?_⟩
  refine ⟨.non, _, I.lset (its' := its ++ its2) hH e (by simp) (r.append r2) ?_, rfl, q⟩
  rw [List.length_append]
  lia
 ·obtain ⟨its2, r2, ht, hz2⟩ := I.tuple hB
  have hl2 := r2.length
  have hsz : its.toArray.size + its2.toArray.size <= sizeLine := by rw [List.size_toArray, List.size_toArray]; lia
  have hlong : ¬ (!its.toArray.isEmpty && Builtin.List.listTooLong (its.toArray.size + its2.toArray.size)) = true := by
   rw [B2 hsz, Bool.and_false]
   exact Bool.false_ne_true
  refine call_meets PySem.F.slot_list_extend ⟨_, e, rfl⟩ PySem.F.entry_list_extend (PySem.F.args_list_extend_2 _ _)
   (kn l its.toArray n b its2.toArray hlong (by rw [List.size_toArray]; lia) (by lia)) ⟨e, ht, ?_⟩
  refine ⟨.non, _, I.lset (its' := its ++ its2) hH e (by simp) (r.append r2) ?_, rfl, q⟩
  rw [List.length_append]
  lia
theorem vq {K : W.Frag} : MutS K AF (BL K) := fun G H a xs ds ds' vs es Q hg ha hx hv e k => by
 unfold AF at e
 split at e
 next fs =>
  split at e
  next hl =>
   cases e
   obtain ⟨y, rfl, hy⟩ := dts1 hv
   cases hy with
   | lst q r => exact ⟨a, _, xs, _, rfl, rfl, ha, .inl (hg.sqr q), by rw [hx.len, r.len]; exact hl, k _ _ (hx.append r)⟩
  next => cases e
 next fs =>
  split at e
  next hl =>
   cases e
   obtain ⟨y, rfl, hy⟩ := dts1 hv
   cases hy with
   | tup q r => exact ⟨a, _, xs, _, rfl, rfl, ha, .inr (hg.tup q), by rw [hx.len, r.len]; exact hl, k _ _ (hx.append r)⟩
  next => cases e
 next => cases e
theorem nR (i : Nat) (he : SO X E e o) (hN : X.N[i]? = some x := by rfl) (hv : Vis X.env.scope x := by first | exact Or.inl rfl | exact Or.inr (Or.inl rfl) | exact Or.inr (Or.inr rfl)) (hd : (x == ("__debug__" : Str)) = false := by decide) (hcd : (x == ("__classdict__" : Str)) = false := by decide)
  (hs : swapsWith (.Call (.Attribute (.Name x px) "extend" apos) [e] [] cpos) none pos.line X.env = pure false := by rfl) (hst : starEach [e] X.env = [(false, eval e X.env)] := by rfl)
  (hbase : attributeBase (.Name x px) "extend" X.env (eval (.Name x px) X.env) = eval (.Name x px) X.env := by rfl)
  (hfew : ((backTo cpos (starEach [e] X.env)).all (fun x => !x.1) && (backToKw cpos (keywordEach [] X.env)).all (fun x => x.1.isSome) && decide (([e] : List Expr).length + ([] : List Keyword).length + (if ([] : List Keyword).isEmpty then 0 else 1) < 30)) = true := by rfl)
  (hline : (apos.endLine == cpos.line) = true := by rfl) : S1 X E (.Expr (.Call (.Attribute (.Name x px) "extend" apos) [e] [] cpos) pos) (sMut AF i o) :=
 (gN (q4 PySem.F.plainAttrs_list PySem.F.slot_list_extend PySem.F.type_list_extend sT (fV hN hv hd hcd) (aa he af hst) hbase hfew hline hst rfl) hs).weak fun _ _ _ q => tV vq q
noncomputable def incP (i : Nat) (a : Int) (p : zt × DEnv × DEnv) : SOut := match p.1 with
 | [.int b] => if i < p.2.2.length then .nx (p.2.2.set i (some (.sh (.int (a + b))))) else .bad
 | _ => .bad
noncomputable def sInc (i : Nat) (o : Opd) : DS := fun δ => match δ[i]? with
 | some (some (.sh (.int a))) => (match opds [o] δ with
  | .ok p => incP i a p
  | .exc x => .exc x
  | .bad => .bad)
 | _ => .bad
@[simp] theorem yc (i : Nat) (a b : Int) (δ1 δ2 : DEnv) : incP i a ([.int b], δ1, δ2) = if i < δ2.length then .nx (δ2.set i (some (.sh (.int (a + b))))) else .bad := rfl
@[simp] theorem yV (i : Nat) (o : Opd) (δ : DEnv) : sInc i o δ = match δ[i]? with
 | some (some (.sh (.int a))) => (opds [o] δ).elimS (incP i a)
 | _ => .bad := by
 unfold sInc
 split
 ·cases opds [o] δ <;> rfl
 ·rfl
theorem vt (i : Nat) (hN : X.N.Nodup) (he : SO X E e o) (hi : X.N[i]? = some x := by rfl) (hx : Loc X.env.scope x := by first | exact Or.inl rfl | exact Or.inr rfl)
  (hf : X.fn x = true \/ X.env.scope.names.lookup x = some .local := by first | exact .inl rfl | exact .inr rfl | assumption) : S1 X E (.AugAssign (.Name x px) .Add e pos) (sInc i o) :=
 (uu hN hi hx he uw hf).weak fun D σ H ⟨G0, H0, G, δ, R, m⟩ => by
  unfold sInc at m
  split at m
  next a ea =>
   obtain ⟨w, h1, rr⟩ := R.at_ ea
   have hw : w = .int a := by
    cases rr.1 with
    | int => rfl
   subst hw
   refine ⟨_, h1, ?_⟩
   have key : tOs X.K X.mg E [o] σ H fun vs H1 => ∃ y, vs = [y] /\ ipI (fun i j => i + j) (.int a) y H1 fun z H2 => D.nx (σ.set i (some z)) H2 := by
    refine lh R ?_
    cases e1 : opds [o] δ with
    | ok p =>
     rw [e1] at m
     dsimp only [incP] at m
     intro vs H1 G1 R1 s1 hdd
     split at m
     next b eb =>
      rw [eb] at hdd
      obtain ⟨y, rfl, hy⟩ := dts1 hdd
      cases hy
      split at m
      next hl =>
       refine ⟨_, rfl, a, b, rfl, rfl, ?_⟩
       exact m _ H1 G1 (R1.store (by rw [<- R1.len]; exact hl) (RR.sh (.int _))) s1
      next => exact m.elim
     next => exact m.elim
    | exc x => rw [e1] at m; exact m
    | bad => rw [e1] at m; exact m
   exact nK (fun y H1 ⟨y', ey, q⟩ => by cases ey; exact q) key
  next => exact m.elim
end
noncomputable def AX (w : World) : List DictEntry -> List (Key × Int) -> Prop
 | [], [] => True
 | e :: es, p :: r => AR p.1 e.key = true /\ e.hash = keyH w p.1 /\ (∃ t, e.val = .int p.2 t) /\ AX w es r
 | _, _ => False
theorem oS {w : World} : AX w [] [] := trivial
theorem cY {w : World} {k : Key} {v : Int} {hash : Int} {key val : Value} {t : Tok} {es : List DictEntry} {kd : List (Key × Int)} (h1 : AR k key = true) (h2 : hash = keyH w k) (h3 : val = .int v t) (r : AX w es kd) : AX w (⟨hash, key, val⟩ :: es) ((k, v) :: kd) := ⟨h1, h2, ⟨t, h3⟩, r⟩
structure DctK (w : World) (K : W.Frag) (a : Addr) (kd : List (Key × Int)) : Prop where
 nsys : (a == sysModules) = false
 nd : (kd.map (·.1)).Nodup
 obj : ∃ es n, K.lookup a = some { cls := .type "dict", data := .dict es n } /\ AX w es.toList kd
theorem sU {w : World} {K : W.Frag} {a : Addr} {kd : List (Key × Int)} {es : Array DictEntry} {n : Nat} (h1 : (a == sysModules) = false) (h2 : (kd.map (·.1)).Nodup) (h3 : K.lookup a = some { cls := .type "dict", data := .dict es n }) (h4 : AX w es.toList kd) : DctK w K a kd := ⟨h1, h2, es, n, h3, h4⟩
noncomputable def kdV (kd : List (Key × Int)) : List (Key × V) := kd.map fun p => (p.1, .int p.2)
theorem jH {P : Program} {w : World} : ∀ {es : List DictEntry} {kd : List (Key × Int)}, AX w es kd -> ∃ vs : List (Key × Value), KV (kdV kd) vs /\ Pairs (zO P w) es vs /\ vs.map (·.1) = kd.map (·.1)
 | [], [], _ => ⟨[], .nil, .nil, rfl⟩
 | e :: es, p :: r, ⟨h1, h2, ⟨t, h3⟩, h4⟩ => by
  obtain ⟨vs, k1, k2, k3⟩ := jH (P := P) h4
  exact ⟨(p.1, .int p.2 t) :: vs, .cons ⟨rfl, t, rfl⟩ k1, .cons h1 h3 k2, by rw [List.map_cons, List.map_cons, k3]⟩
theorem lG {P : Program} {w : World} : ∀ {es : List DictEntry} {kd : List (Key × Int)}, AX w es kd -> ∀ e ∈ es, ∃ k, (zO P w).is k e.key = true /\ e.hash = (zO P w).hash k
 | e :: es, p :: r, ⟨h1, h2, _, h4⟩, e', he => by
  rcases List.mem_cons.mp he with z | z
  ·subst z; exact ⟨p.1, h1, h2⟩
  ·exact lG h4 e' z
section
variable {X : Cx} {E : XK} {e k v : Expr} {o ov ok : Opd} {x : Str} {px apos cpos pos tpos : Pos}
theorem DctK.at_ {pins : zw} {σ : St} {H : Hp} {s : Shared} {a : Addr} {kd : List (Key × Int)} (d : DctK X.w X.K a kd) (I : Inv X pins σ H s) : ∃ vs, KV (kdV kd) vs /\ s.heap.DictOf (zO X.prog X.w) a vs := by
 obtain ⟨es, n, h1, h2⟩ := d.obj
 obtain ⟨vs, k1, k2, k3⟩ := jH (P := X.prog) h2
 refine ⟨vs, k1, _, es, n, I.kIn _ _ h1, ⟨rfl, rfl, rfl⟩, rfl, fun e he => lG h2 e (by simpa using he), k2, by rw [k3]; exact d.nd⟩
noncomputable def AY (kd : List (Key × Int)) (k : Key) : PyData := match kd.find? (fun p => decide (p.1 = k)) with
 | some p => .int p.2
 | none => .none
noncomputable def B4 (kd : List (Key × Int)) (k : Key) : V := match kd.find? (fun p => decide (p.1 = k)) with
 | some p => .int p.2
 | none => .non
theorem sV (kd : List (Key × Int)) (k : Key) : (valV (kdV kd) k).getD .non = B4 kd k := by
 unfold valV kdV B4
 rw [List.find?_map]
 show ((Option.map _ (kd.find? fun p => decide (p.1 = k))).map _).getD _ = _
 cases kd.find? (fun p => decide (p.1 = k)) <;> rfl
noncomputable def Bf (kd : List (Key × Int)) : zt -> Option SD
 | [d] => (Az d).map fun k => .sh (AY kd k)
 | _ => none
@[simp] theorem wA (kd : List (Key × Int)) (x : Str) : Bf kd [.str x] = some (.sh (AY kd (.inr x))) := rfl
noncomputable def BV (kd : List (Key × Int)) (ty : TA) : TE := fun σ H Q => ty σ H fun vs H2 => ∃ y k, vs = [y] /\ y = kV k /\ Q (B4 kd k) H2
theorem sW {a : Addr} {kd : List (Key × Int)} {ty : TA} (hm : X.mg x = some (.ref a)) (d : DctK X.w X.K a kd) (he : PA X [e] ty) (hg : Gl X x := by rfl) (hdb : (x == ("__debug__" : Str)) = false := by decide)
  (hbase : attributeBase (.Name x px) "get" X.env (eval (.Name x px) X.env) = eval (.Name x px) X.env := by rfl)
  (hfew : ((backTo cpos (starEach [e] X.env)).all (fun x => !x.1) && (backToKw cpos (keywordEach [] X.env)).all (fun x => x.1.isSome) && decide (([e] : List Expr).length + ([] : List Keyword).length + (if ([] : List Keyword).isEmpty then 0 else 1) < 30)) = true := by rfl)
  (hline : (apos.endLine == cpos.line) = true := by rfl) (hst : starEach [e] X.env = [(false, eval e X.env)] := by rfl) :
  PE X (.Call (.Attribute (.Name x px) "get" apos) [e] [] cpos) (BV kd ty) := by
 intro pins s σ H Q I h
 refine wpAny_Call_method hbase hfew hline PySem.F.plainAttrs_dict PySem.F.slot_dict_get PySem.F.type_dict_get (jQ I hg hm ?_ hdb)
 obtain ⟨vs0, _, dd0⟩ := d.at_ I
 refine ⟨dd0.typeIs, fun b q => ?_, ?_⟩
 ·cases q
  obtain ⟨ob, _, _, h1, h2, _⟩ := dd0
  exact ⟨ob, h1, h2.2.1⟩
 have hA := he cpos pins s σ H _ I h
 rw [hst] at hA ⊢
 refine Calls.callWith_builtin rfl (Calls.evalArgs_plain ?_)
 refine thn hA fun us s1 ⟨vs, H1, I1, rv, y, k, ev, ek, q⟩ => ?_
 subst ev ek
 obtain ⟨u, rfl, ru⟩ := rv.one
 obtain ⟨vs, rel, dd⟩ := d.at_ I1
 refine call_meetsIn PySem.F.slot_dict_get dd.typeIs PySem.F.entry_dict_get (PySem.F.args_dict_get_2 _ _) (meets_dict_get (zO X.prog X.w) a (q5 ru) d.nsys) ⟨_, dd.mapOf, ⟨B4 kd k, H1, I1.tok _, ?_, q⟩⟩
 rw [<- sV]
 exact (rel.val k).getD rfl
theorem vv {K : W.Frag} {mg : zu} (kd : List (Key × Int)) : zT K mg (Bf kd) (fun vs H Q => ∃ y k, vs = [y] /\ y = kV k /\ Q (B4 kd k) H) := by
 intro G H vs ds res Q hg hd ho k
 unfold Bf at ho
 split at ho
 next d =>
  obtain ⟨y, rfl, hy⟩ := dts1 hd
  cases ek : Az d with
  | none => rw [ek] at ho; cases ho
  | some kk =>
   rw [ek] at ho
   cases ho
   have := qr hy ek
   subst this
   refine ⟨_, kk, rfl, rfl, ?_⟩
   have hd' : Dt K G (B4 kd kk) (AY kd kk) := by
    unfold B4 AY
    cases kd.find? (fun p => decide (p.1 = kk)) with
    | none => exact .non
    | some p => exact .int _
   exact ans k hg hd'
 next => cases ho
theorem sX {kd : List (Key × Int)} (h : ∃ a, X.mg x = some (.ref a) /\ DctK X.w X.K a kd) (he : SO X E e o) (hg : Gl X x := by rfl) (hdb : (x == ("__debug__" : Str)) = false := by decide)
  (hbase : attributeBase (.Name x px) "get" X.env (eval (.Name x px) X.env) = eval (.Name x px) X.env := by rfl)
  (hfew : ((backTo cpos (starEach [e] X.env)).all (fun x => !x.1) && (backToKw cpos (keywordEach [] X.env)).all (fun x => x.1.isSome) && decide (([e] : List Expr).length + ([] : List Keyword).length + (if ([] : List Keyword).isEmpty then 0 else 1) < 30)) = true := by rfl)
  (hline : (apos.endLine == cpos.line) = true := by rfl) (hst : starEach [e] X.env = [(false, eval e X.env)] := by rfl) :
  SE X E (.Call (.Attribute (.Name x px) "get" apos) [e] [] cpos) (eOp (Bf kd) [o]) := by
 obtain ⟨a, hm, d⟩ := h
 exact (sW hm d (aa he af hst) hg hdb hbase hfew hline hst).weak fun σ H Q q => fy (vv kd) q
end
section
variable {X : Cx} {E : XK} {e a k v : Expr} {o oa ov ok : Opd} {x : Str} {p px apos cpos pos tpos : Pos}
end
end L2
namespace L2
open PySem PySem.Spec PyProof.Rows
abbrev Rise (l : List Nat) : Prop := l.Pairwise (· < ·)
structure LowB (xs : Array Nat) (j r : Nat) : Prop where
 le : r <= xs.size
 lo : ∀ i x, i < r -> xs[i]? = some x -> x < j
 hi : ∀ i x, r <= i -> xs[i]? = some x -> j <= x
theorem e7 {xs : Array Nat} (h : Rise xs.toList) {i k x y : Nat} (hik : i < k) (hx : xs[i]? = some x) (hy : xs[k]? = some y) : x < y := by
 rw [<- Array.getElem?_toList] at hx hy
 obtain ⟨h1, e1⟩ := List.getElem?_eq_some_iff.mp hx
 obtain ⟨h2, e2⟩ := List.getElem?_eq_some_iff.mp hy
 have := List.pairwise_iff_getElem.mp h i k h1 h2 hik
 rw [e1, e2] at this
 exact this
theorem iO {xs : Array Nat} {j : Nat} (h : Rise xs.toList) : ∀ (fuel lo hi : Nat), hi <= xs.size -> lo <= hi -> hi - lo <= fuel -> (∀ i x, i < lo -> xs[i]? = some x -> x < j) -> (∀ i x, hi <= i -> xs[i]? = some x -> j <= x) -> LowB xs j (SetTable.below.go xs j fuel lo hi)
 | 0, lo, hi, h1, h2, h3, h4, h5 => by
  have e : lo = hi := by lia
  subst e
  exact ⟨h1, h4, h5⟩
 | fuel + 1, lo, hi, h1, h2, h3, h4, h5 => by
  unfold SetTable.below.go
  split
  next hlt =>
   have hm : (lo + hi) / 2 < xs.size := by lia
   have em : xs[(lo + hi) / 2]? = some xs[(lo + hi) / 2] := Array.getElem?_eq_getElem hm
   have eg : xs.getD ((lo + hi) / 2) j = xs[(lo + hi) / 2] := by simp [Array.getD, hm]
   dsimp only
   rw [eg]
   split
   next hc =>
    refine iO h fuel _ hi h1 (by lia) (by lia) (fun i x hi' hx => ?_) h5
    rcases Nat.lt_or_ge i ((lo + hi) / 2) with z | z
    ·exact Nat.lt_trans (e7 h z hx em) hc
    ·have : i = (lo + hi) / 2 := by lia
     subst this
     rw [em] at hx
     cases hx
     exact hc
   next hc =>
    refine iO h fuel lo _ (by lia) (by lia) (by lia) h4 (fun i x hi' hx => ?_)
    rcases Nat.lt_or_ge ((lo + hi) / 2) i with z | z
    ·exact Nat.le_trans (Nat.le_of_not_lt hc) (Nat.le_of_lt (e7 h z em hx))
    ·have : i = (lo + hi) / 2 := by lia
     subst this
     rw [em] at hx
     cases hx
     exact Nat.le_of_not_lt hc
  next hlt =>
   have e : lo = hi := by lia
   subst e
   exact ⟨h1, h4, h5⟩
theorem fJ {xs : Array Nat} (h : Rise xs.toList) (j : Nat) : LowB xs j (SetTable.below xs j) := by
 unfold SetTable.below
 exact iO h _ 0 _ (Nat.le_refl _) (Nat.zero_le _) (by lia) (fun i x hi => by lia) fun i x hi hx => by
  rw [Array.getElem?_eq_none (by lia)] at hx
  cases hx
theorem LowB.uniq {xs : Array Nat} {j r r' : Nat} (a : LowB xs j r) (b : LowB xs j r') : r = r' := by
 rcases Nat.lt_trichotomy r r' with z | z | z
 ·have hr : r < xs.size := by have := b.le; lia
  have e := Array.getElem?_eq_getElem hr
  have h1 := a.hi r _ (Nat.le_refl _) e
  have h2 := b.lo r _ z e
  lia
 ·exact z
 ·have hr : r' < xs.size := by have := a.le; lia
  have e := Array.getElem?_eq_getElem hr
  have h1 := b.hi r' _ (Nat.le_refl _) e
  have h2 := a.lo r' _ z e
  lia
theorem lH {xs : Array Nat} (h : Rise xs.toList) {j : Nat} (hj : j ∉ xs.toList) : Rise (SetTable.insertAt xs (SetTable.below xs j) j).toList := by
 have b := fJ h j
 rw [SetTable.toList_insertAt]
 generalize SetTable.below xs j = r at b
 rw [<- List.take_append_drop r xs.toList] at h
 obtain ⟨h1, h2, h3⟩ := List.pairwise_append.mp h
 have lo : ∀ x ∈ xs.toList.take r, x < j := fun x hx => by
  obtain ⟨i, hi, e⟩ := List.getElem_of_mem hx
  rw [List.length_take] at hi
  rw [List.getElem_take] at e
  exact b.lo i x (by lia) (by rw [<- Array.getElem?_toList, List.getElem?_eq_getElem (by lia), e])
 have hi : ∀ x ∈ xs.toList.drop r, j < x := fun x hx => by
  obtain ⟨i, hi, e⟩ := List.getElem_of_mem hx
  rw [List.length_drop] at hi
  rw [List.getElem_drop] at e
  have := b.hi (r + i) x (by lia) (by rw [<- Array.getElem?_toList, List.getElem?_eq_getElem (by lia), e])
  have hne : x ≠ j := fun z => hj (z ▸ List.mem_of_mem_drop hx)
  lia
 refine List.pairwise_append.mpr ⟨h1, List.pairwise_cons.mpr ⟨hi, h2⟩, fun x hx y hy => ?_⟩
 rcases List.mem_cons.mp hy with z | z
 ·subst z; exact lo x hx
 ·exact h3 x hx y z
theorem qK {t : SetTable} (h : Rise t.place.toList) {j : Nat} (e : t.slot j = .empty) : j ∉ t.place.toList := fun hm => by
 have b := fJ h j
 unfold SetTable.slot at e
 dsimp only at e
 obtain ⟨i, hi, ei⟩ := List.getElem_of_mem hm
 have hi' : t.place[i]? = some j := by rw [<- Array.getElem?_toList, List.getElem?_eq_getElem hi, ei]
 have hr : SetTable.below t.place j = i := b.uniq ⟨by simpa using Nat.le_of_lt hi, fun k x hk hx => e7 h hk hx hi', fun k x hk hx => by
  rcases Nat.lt_or_ge i k with z | z
  ·exact Nat.le_of_lt (e7 h z hi' hx)
  ·have : k = i := by lia
   subst this
   rw [hi'] at hx
   cases hx
   exact Nat.le_refl _⟩
 rw [hr, hi'] at e
 simp at e
theorem ko {t : SetTable} (hd : t.dummies = #[]) (j : Nat) : t.slot j ≠ .dummy := by
 unfold SetTable.slot
 dsimp only
 rw [hd]
 have : SetTable.has #[] j = false := by
  unfold SetTable.has
  simp
 rw [this]
 split <;> simp
theorem lI {t : SetTable} (hd : t.dummies = #[]) {hashAt : Nat -> Int} {h : Int} {j : Nat} {d : Option Nat} : ∀ (fuel : Nat) (p : SetTable.Probe), p.dummy = none -> SetTable.probe.go t hashAt h fuel p = some (.empty j d) -> d = none /\ t.slot j = .empty
 | 0, p, _, e => by cases e
 | fuel + 1, p, hp, e => by
  unfold SetTable.probe.go at e
  have adv : (t.advance p).dummy = none := by
   unfold SetTable.advance
   split
   ·exact hp
   ·exact hp
  split at e
  next hs =>
   cases e
   exact ⟨hp, hs⟩
  next hs => exact absurd hs (ko hd _)
  next i hs =>
   split at e
   ·cases e
   ·exact lI hd fuel _ adv e
theorem sY {t : SetTable} (hR : Rise t.place.toList) (hd : t.dummies = #[]) {h : Int} {slot : Nat} {wd : Bool} (e : t.freeSlot h = some (slot, wd)) : slot ∉ t.place.toList := by
 unfold SetTable.freeSlot at e
 split at e
 next j dummy e1 =>
  cases e
  have hp : (t.probeStart h).dummy = none := rfl
  obtain ⟨h1, h2⟩ := lI hd _ _ hp (show SetTable.probe.go t _ h _ _ = _ from e1)
  subst h1
  exact qK hR h2
 next => cases e
structure TabS (led : Bool) (t : SetTable) : Prop where
 rise : Rise t.place.toList
 dum : t.dummies = #[]
 led : t.led = led
theorem mR (n : Nat) : Rise (Array.range n).toList := by
 rw [Array.toList_range]
 exact List.pairwise_lt_range
theorem cZ {led : Bool} {t : SetTable} (h : TabS led t) (n : Nat) : TabS led (t.standIn n) := ⟨mR n, rfl, h.led⟩
theorem vw {led : Bool} {t : SetTable} (h : TabS led t) {j : Nat} (hj : j ∉ t.place.toList) : TabS led (t.put j).1 := by
 refine ⟨lH h.rise hj, ?_, h.led⟩
 show (if SetTable.has t.dummies j then SetTable.eraseAt t.dummies (SetTable.below t.dummies j) else t.dummies) = #[]
 have : SetTable.has t.dummies j = false := by
  rw [h.dum]
  unfold SetTable.has
  simp
 rw [this]
 exact h.dum
theorem oT {led : Bool} {t : SetTable} (h : TabS led t) (es : Array (Int × Value)) (k : Int) (x : Value) : TabS led (layNew t es k x).2.1 := by
 unfold layNew
 split
 next slot wd e =>
  have hp := vw h (sY h.rise h.dum e)
  dsimp only
  unfold SetTable.orStandIn
  split
  ·exact hp
  ·exact cZ hp _
 next => exact cZ h _
theorem mS (g : Nat -> Option Nat) (hg : ∀ a b, g a = some b -> b = a) : ∀ l : List Nat, (l.filterMap g).Sublist l
 | [] => List.Sublist.slnil
 | a :: r => by
  rw [List.filterMap_cons]
  cases e : g a with
  | none => exact (mS g hg r).cons _
  | some b =>
   have := hg a b e
   subst this
   exact (mS g hg r).cons₂ _
theorem sZ {mask finger moves : Nat} {led plain : Bool} {hashes : Array Int} {t : SetTable} {order : Array Nat} (e : SetTable.laid mask finger moves led plain hashes = some (t, order)) : TabS led t := by
 unfold SetTable.laid at e
 cases ho : SetTable.layClean mask hashes with
 | none => rw [ho] at e; cases e
 | some owner =>
  rw [ho] at e
  cases e
  refine ⟨?_, rfl, rfl⟩
  show Rise (((List.range (mask + 1)).filterMap fun j => (owner.getD j none).map (j, ·)).map (·.1)).toArray.toList
  rw [List.toList_toArray, List.map_filterMap]
  refine List.Pairwise.sublist ?_ (List.pairwise_lt_range (n := mask + 1))
  exact mS _ (fun a b hb => by
   cases hg : owner.getD a none with
   | none => rw [hg] at hb; cases hb
   | some v => rw [hg] at hb; cases hb; rfl) _
theorem qL {led : Bool} {t : SetTable} (h : TabS led t) (es : Array (Int × Value)) (wanted : Nat) : TabS led (relayAll t es wanted).2.1 := by
 unfold relayAll
 split
 next t' order e =>
  dsimp only
  split
  ·have := sZ e
   rw [h.led] at this
   exact this
  ·exact cZ h _
 next => exact cZ h _
noncomputable def keyE (e : Int × Value) : Int := match e.2 with
 | .int k _ => k
 | _ => 0
noncomputable def EntI (e : Int × Value) : Prop := e.1 = hashInt (keyE e) /\ ∃ tk, e.2 = .int (keyE e) tk
noncomputable def txt (w : World) : Bool := w.params.followText "set-order"
noncomputable def SX (w : World) (h : Heap) (a : Addr) (L : List Int) : Prop :=
 ∃ o es ep t, h.get? a = some o /\ o.ExactSet /\ o.data = .set es ep t /\ (∀ e ∈ es.toList, EntI e) /\ (es.toList.map keyE).Perm L /\ es.size < scanBound /\ t.fits es.size = true /\ TabS (!txt w) t
section
variable {prog : Program} {w : World} {A : Around} {E : zx} {s : Shared}
theorem qM {l : List (Int × Value)} (h : ∀ e ∈ l, EntI e) : ElemsOf (intKind prog w) l := fun e he => by
 obtain ⟨h1, tk, h2⟩ := h e he
 refine ⟨⟨keyE e, ?_, h1⟩, ?_⟩
 ·rw [h2]; exact intKind_is _ _ _ _
 ·rw [h2]; rfl
theorem qN {e : Int × Value} (h : EntI e) (k : Int) : (intKind prog w).is k e.2 = decide (keyE e = k) := by
 obtain ⟨h1, tk, h2⟩ := h
 have hk : (intKind prog w).is (keyE e) e.2 = true := by rw [h2]; exact intKind_is _ _ _ _
 rw [KeyKind.is_eq_decide hk k]
 exact decide_eq_decide.mpr ⟨Eq.symm, Eq.symm⟩
theorem lJ {h : Heap} {a : Addr} {o : Obj} {es es' : Array (Int × Value)} {ep : Nat} {t t' : SetTable} {L : List Int} (ho : h.get? a = some o) (hex : o.ExactSet) (hd : o.data = .set es ep t)
  (h1 : ∀ e ∈ es'.toList, EntI e) (h2 : (es'.toList.map keyE).Perm L) (h3 : es'.size < scanBound) (h4 : t'.fits es'.size = true) (h5 : TabS (!txt w) t') :
  (h.update a (Obj.putSet es' t')).get? a = some { o with data := .set es' (ep + 1) t' } /\ SX w (h.update a (Obj.putSet es' t')) a L := by
 have hp := putSet_of es' t' hd
 have hg := Heap.get?_update_self (Obj.putSet es' t') ho (by rw [hp] <;> rfl)
 rw [hp] at hg
 exact ⟨hg, _, es', ep + 1, t', hg, hex, rfl, h1, h2, h3, h4, h5⟩
theorem eT (b : Bool) {s₁ : Shared} {Q : Unit -> Shared -> Prop} (hq : Q () s₁) : wpAny (model prog w) A (match b with | true => rule "set.scan.the-table-gave-way" | false => pure ()) Q E s₁ := by
 cases b
 ·exact wpAny_pure hq
 ·exact wpAny_rule hq
theorem lK {a : Addr} {o : Obj} {es es1 : Array (Int × Value)} {ep : Nat} {t t2 : SetTable} {L : List Int} {wd : Bool} {R : Option Bool -> Shared -> Prop} {g : Bool -> Sem Unit} (hg : ∀ (b : Bool) (s₁ : Shared) (Q : Unit -> Shared -> Prop), Q () s₁ -> wpAny (model prog w) A (g b) Q E s₁)
  (ho : s.heap.get? a = some o) (hex : o.ExactSet) (hd : o.data = .set es ep t) (h1 : ∀ e ∈ es1.toList, EntI e) (h2 : (es1.toList.map keyE).Perm L) (h3 : es1.size < scanBound) (h4 : t2.fits es1.size = true) (h5 : TabS (!txt w) t2)
  (fin : ∀ h', Heap.SameBut a s.heap h' -> SX w h' a L -> R (some true) { s with heap := h' }) :
  wpAny (model prog w) A (do
   storeSet a es1 t2
   if (!wd && t2.tooFull) = true then do
    g (relayAll t2 es1 (SetTable.grown es1.size)).2.2
    storeSet a (relayAll t2 es1 (SetTable.grown es1.size)).1 (relayAll t2 es1 (SetTable.grown es1.size)).2.1
    pure (some true)
   else pure (some true)) R E s := by
 obtain ⟨q1, q2⟩ := lJ (w := w) ho hex hd h1 h2 h3 h4 h5
 have sb := Heap.SameBut.update s.heap a (Obj.putSet es1 t2)
 refine wpAny_bind (wpAny_storeSet_of ho hd ?_ (fits_of_scanBound h3))
 split
 next =>
  have rp := relayAll_perm t2 es1 (SetTable.grown es1.size)
  have rf := relayAll_fits t2 es1 (SetTable.grown es1.size)
  have rt := qL h5 es1 (SetTable.grown es1.size)
  generalize relayAll t2 es1 (SetTable.grown es1.size) = Z at rp rf rt ⊢
  obtain ⟨es2, t3, gv⟩ := Z
  dsimp only at rp rf rt ⊢
  have z : es2.size = es1.size := by
   have := rp.length_eq
   simpa using this
  have b2 : es2.size < scanBound := by lia
  refine wpAny_bind (hg gv _ _ ?_)
  refine wpAny_bind (wpAny_storeSet_of q1 rfl ?_ (fits_of_scanBound b2))
  refine wpAny_pure (fin _ (sb.trans (Heap.SameBut.update _ a _)) ?_)
  exact (lJ (w := w) q1 hex rfl (fun e he => h1 e (rp.mem_iff.mp he)) ((rp.map keyE).trans h2) b2 rf rt).2
 next => exact wpAny_pure (fin _ sb q2)
noncomputable def addK (L : List Int) (k : Int) : List Int := if k ∈ L then L else L ++ [k]
theorem vx {a : Addr} {L : List Int} {k : Int} {tk : Tok} {Q : Bool -> Shared -> Prop} (hS : SX w s.heap a L) (room : L.length + 1 < scanBound)
  (fin : ∀ b h', Heap.SameBut a s.heap h' -> SX w h' a (addK L k) -> Q b { s with heap := h' }) :
  wpAny (model prog w) A (setAddHashed a (.int k tk) (hashInt k)) Q E s := by
 obtain ⟨o, es, ep, t, ho, hex, hd, h1, h2, h3, h4, h5⟩ := hS
 have el : ElemsOf (intKind prog w) es.toList := qM h1
 have hk : (intKind prog w).is k (.int k tk) = true := intKind_is _ _ _ _
 have sz : es.size = L.length := by
  have := h2.length_eq
  simpa using this
 unfold setAddHashed setAddHashedIn
 refine wpAny_holding (wpAny_bind (wpAny_setState_of ho hd h4 ?_))
 dsimp only
 rw [byScan_of (knd := intKind prog w) (show (Value.int k tk).scannable = true from rfl) h3 el]
 simp only [if_true]
 unfold setAddByScan
 refine wpAny_bind (wpAny_bind (wpAny_rule (wpAny_bind (wpAny_setScan_of (knd := intKind prog w) hk ho hd h4 el ?_))))
 cases hr : es.toList.findIdx? (fun e => (intKind prog w).is k e.2) with
 | some j =>
  dsimp only
  obtain ⟨hj, hp, _⟩ := List.findIdx?_eq_some_iff_getElem.mp hr
  have he := h1 _ (List.getElem_mem hj)
  rw [qN he] at hp
  have hm : k ∈ L := h2.mem_iff.mp (List.mem_map.mpr ⟨_, List.getElem_mem hj, of_decide_eq_true hp⟩)
  refine wpAny_pure (wpAny_pure ?_)
  have := fin false s.heap (Heap.SameBut.refl a s.heap) (by
   unfold addK
   rw [if_pos hm]
   exact ⟨o, es, ep, t, ho, hex, hd, h1, h2, h3, h4, h5⟩)
  exact this
 | none =>
  dsimp only
  have hm : k ∉ L := fun z => by
   obtain ⟨e, he, ek⟩ := List.mem_map.mp (h2.mem_iff.mpr z)
   have := List.findIdx?_eq_none_iff.mp hr e he
   rw [qN (h1 e he), ek] at this
   simp at this
  have lp := layNew_perm t es (hashInt k) (.int k tk)
  have lf := layNew_fits t es (hashInt k) (.int k tk)
  have lt := oT h5 es (hashInt k) (.int k tk)
  generalize layNew t es (hashInt k) (.int k tk) = Z at lp lf lt ⊢
  obtain ⟨es1, t1, wd, gv⟩ := Z
  dsimp only at lp lf lt ⊢
  rw [Array.toList_push] at lp
  have e1 : ∀ e ∈ es1.toList, EntI e := fun e he => by
   rcases List.mem_append.mp (lp.mem_iff.mp he) with z | z
   ·exact h1 e z
   ·rw [List.mem_singleton] at z
    subst z
    exact ⟨rfl, tk, rfl⟩
  have e2 : (es1.toList.map keyE).Perm (addK L k) := by
   unfold addK
   rw [if_neg hm]
   refine (lp.map keyE).trans ?_
   rw [List.map_append]
   exact h2.append (List.Perm.refl _)
  have e3 : es1.size < scanBound := by
   have := lp.length_eq
   simp at this
   lia
  have done : ∀ h', Heap.SameBut a s.heap h' -> SX w h' a (addK L k) -> Q true { s with heap := h' } := fin true
  refine wpAny_bind (eT gv ?_)
  split
  next =>
   refine wpAny_bind ?_
   rw [hashByValue_scannable 8 (show (Value.int k tk).scannable = true from rfl)]
   refine wpAny_pure ?_
   refine lK (fun b _ _ hq => eT b hq) ho hex hd e1 e2 e3 lf lt fun h' sb sx => ?_
   exact wpAny_pure (done h' sb sx)
  next =>
   refine wpAny_bind (wpAny_pure ?_)
   simp only [if_true]
   refine lK (fun b _ _ hq => eT b hq) ho hex hd e1 e2 e3 lf lt fun h' sb sx => ?_
   exact wpAny_pure (done h' sb sx)
end
theorem SX.keep {w : World} {h h' : Heap} {a : Addr} {L : List Int} (x : SX w h a L) (k : ∀ o, h.get? a = some o -> h'.get? a = some o) : SX w h' a L := by
 obtain ⟨o, es, ep, t, ho, r⟩ := x
 exact ⟨o, es, ep, t, k o ho, r⟩
theorem lL (L : List Int) (k : Int) : (addK L k).length <= L.length + 1 := by
 unfold addK
 split
 ·lia
 ·rw [List.length_append, List.length_singleton]
  exact Nat.le_refl _
section
variable {prog : Program} {w : World} {A : Around} {R : Result -> Shared -> Prop} {I : Addr} {fp wr : List Addr} {G : Array GenState -> Array GenState -> Prop} {n : Nat} {P : Nat -> Value -> Prop} {St : Nat -> Shared -> Prop}
theorem qO (W : WalksS prog w A.in1 I fp wr G n P St) (S : Addr) (out : S ∉ fp) (val : Nat -> Int) (hv : ∀ i v, P i v -> ∃ t, v = .int (val i) t) (room : n + 1 < scanBound) :
  ∀ (k i : Nat) (s : Shared) (L : List Int), n - i = k -> i <= n -> St i s -> SX w s.heap S L -> L.length <= i ->
   (∀ s', Moved (S :: wr) G s s' -> SX w s'.heap S (((List.range' i k).map val).foldl addK L) -> R (.ok (.ret .none)) s') ->
   codeAny (model prog w) A (.builtin "set.update.loop" ⟨[.ref S, .ref I], []⟩) R s := by
 have ow : S ∉ wr := fun z => out (W.sub _ z)
 have sub : ∀ b ∈ wr, b ∈ S :: wr := fun b hb => List.mem_cons_of_mem _ hb
 intro k
 induction k with
 | zero =>
  intro i s L hk hi st x hl fin
  obtain rfl : i = n := by lia
  refine codeAny_builtin F.entry_set_update_loop ?_
  rw [Around.under_plainId F.plain_set_update_loop]
  show wpAny (model prog w) A.in1 (pyNext (.ref I) >>= _) _ _ s
  refine wpAny_bind (W.done s _ _ st fun s' mv => ?_)
  exact wpAny_pure (fin s' (mv.mono sub) (x.keep fun o e => mv.heap S o ow e))
 | succ k ih =>
  intro i s L hk hi st x hl fin
  have lt : i < n := by lia
  refine codeAny_builtin F.entry_set_update_loop ?_
  rw [Around.under_plainId F.plain_set_update_loop]
  show wpAny (model prog w) A.in1 (pyNext (.ref I) >>= _) _ _ s
  refine wpAny_bind (W.item i s _ _ lt st fun v s' hP st' mv => ?_)
  obtain ⟨t, rfl⟩ := hv i v hP
  have x' := x.keep fun o e => mv.heap S o ow e
  show wpAny (model prog w) A.in1 (holding [Value.int (val i) t] (setAdd S (Value.int (val i) t)) >>= _) _ _ s'
  refine wpAny_bind (wpAny_holding ?_)
  unfold setAdd
  refine wpAny_holding (wpAny_bind (wpAny_pyHash_int ?_))
  refine vx (s := { s' with toks := s'.toks + 1 }) x' (by lia) fun b h' sb sx => ?_
  have ln := lL L (val i)
  refine wpAny_pure ⟨plainId_quiet F.plain_set_update_loop _, ih (i + 1) _ (addK L (val i)) (by lia) (by lia) (W.frame _ s' _ _ st' (Nat.le_succ _) fun c hc o e => ?_) sx (by lia) fun s2 mv2 sx2 => ?_⟩
  ·rw [sb.2 c (fun z => out (z ▸ hc))]
   exact e
  ·refine fin s2 (Moved.trans W.gtrans ((mv.mono sub).then_heap (Nat.le_succ _) fun c o hc e => ?_) mv2) sx2
   rw [sb.2 c (fun z => hc (by rw [z]; exact List.mem_cons_self))]
   exact e
end
section
variable {prog : Program} {w : World} {A : Around} {E : zx} {s : Shared}
abbrev A2 (w : World) : Obj := { cls := .type "set", dict := none, data := .set #[] 0 (.fresh 0 0 (!txt w)) }
theorem t4 (a : Value) {Q : zx} (h : Q (.ref s.heap.objs.size) { s with heap := s.heap.push (A2 w) }) :
  codeAny (model prog w) A (.call (.builtin "set.__new__") ⟨[.type "set", a], []⟩) (wants Q E) s := by
 refine codeAny_of_tree ?_
 show wpAny (model prog w) A.in1 (do checkBuiltinCall "set.__new__" ⟨[.type "set", a], []⟩; again (.builtin "set.__new__" ⟨[.type "set", a], []⟩)) _ _ s
 refine wpAny_bind (wpAny_of_eq (PySem.F.newCall_set_1 a) (wpAny_pure ⟨plainId_quiet PySem.F.plain_set_new _, codeAny_builtin PySem.F.entry_set_new ?_⟩))
 rw [Around.under_plainId PySem.F.plain_set_new]
 unfold Builtin.«set.__new__»
 unfold Builtin.Frozenset.newClass
 have hs := sub_set_self
 obtain ⟨h0, g0, d0, k0, o0⟩ := s
 dsimp only
 wp_walk
 refine wpAny_askSetting ?_
 refine wpAny_pure ?_
 dsimp only [newObj]
 exact wpAny_bind (wpAny_alloc (wpAny_pure (wpAny_pure h)))
end
section
variable {prog : Program} {w : World} {A : Around} {E : zx} {s : Shared}
theorem qP {h : Heap} {a : Addr} (e : h.get? a = some (A2 w)) : SX w h a [] :=
 ⟨_, #[], 0, _, e, ⟨rfl, rfl, rfl⟩, rfl, fun x hx => by simp at hx, List.Perm.nil, by decide, rfl, ⟨List.Pairwise.nil, rfl, rfl⟩⟩
noncomputable def Made (w : World) (s : Shared) (L : List Int) (s2 : Shared) : Prop := ∃ h2 k2, s2 = { s with heap := h2, toks := k2 } /\ SX w h2 s.heap.objs.size L /\ ∀ b o, b < s.heap.objs.size -> s.heap.get? b = some o -> h2.get? b = some o
set_option maxHeartbeats 6400000 in
theorem qQ {l : Addr} {items : Array Value} {ns : List Int} {Q : zx} (hh : A.handled = none) (hl : s.heap.IsList l items) (hi : IntsAre items.toList ns) (hb : items.size + 1 < scanBound)
  (fin : ∀ s2, Made w s (((List.range' 0 items.size).map fun i => ns.getD i 0).foldl addK []) s2 -> Q (.ref s.heap.objs.size) s2) :
  wpAny (model prog w) A (call (.type "set") [.ref l]) Q E s := by
 obtain ⟨c, tl, z1⟩ := PySem.F.called_set.mro
 have z2 := PySem.F.called_set.made
 have z3 := PySem.F.called_set.sub
 refine wpAny_call (codeAny_of_tree ?_)
 show wpAny (model prog w) _ (callAny (.type "set") _) _ _ _
 refine wpAny_pure ⟨Code.quiet_builtin _ (by decide +kernel), codeAny_builtin PySem.F.entry_type_call ?_⟩
 rw [Around.under_plain (weight_type_call_type "set" [Value.ref l] []) rfl]
 have z4 := PySem.F.called_set.notType
 have z5 := PySem.F.called_set.canCreate
 have z6 := PySem.F.typeCall_set_1 (Value.ref l)
 repeat (any_goals (first | assumption | wp_step))
 refine codeAny_mono (t4 (w := w) (Value.ref l) (E := E) (Q := fun x s1 => x = .ref s.heap.objs.size /\ s1 = { s with heap := s.heap.push (A2 w) }) ⟨rfl, rfl⟩) fun r s1 hr => ?_
 cases r with
 | error e => exact hr
 | ok fl =>
  cases fl with
  | ret obj =>
   obtain ⟨rfl, rfl⟩ := hr
   have hS : (s.heap.push (A2 w)).get? s.heap.objs.size = some (A2 w) := Heap.get?_push_size _ rfl
   have hT : Shared.TypeIs { s with heap := s.heap.push (A2 w) } (.ref s.heap.objs.size) "set" := ⟨_, hS, rfl⟩
   have z7 := PySem.F.called_set.init.lookup
   have z8 := PySem.F.called_set.init.bind (Value.ref s.heap.objs.size)
   repeat (any_goals (first | assumption | wp_step))
   refine codeAny_mono (codeAny_call_builtin (R := wants (fun r s2 => r = .none /\ Made w s (((List.range' 0 items.size).map fun i => ns.getD i 0).foldl addK []) s2) E) PySem.F.called_set.init.plain PySem.F.entry_set_init (check_set_init_1 hT ?_)) fun r2 s2 hr2 => ?_
   ·obtain ⟨⟨ocls, odict, odata, oslots⟩, hol, hcl, nl, hdl⟩ := hl
    obtain rfl : ocls = .type "list" := hcl
    obtain rfl : odata = .seq items nl := hdl
    have hol' : (s.heap.push (A2 w)).get? l = some { cls := .type "list", dict := odict, data := .seq items nl, slots := oslots } := Heap.get?_push_of_some _ hol
    have q1 := PySem.F.sub_list_set
    have q2 := PySem.F.sub_list_frozenset
    have q3 : (Value.type "list" == Value.type "dict") = false := by decide
    have l1 : (s.heap.push (A2 w)).IsList l items := ⟨_, hol', rfl, nl, rfl⟩
    unfold Builtin.«set.__init__»
    unfold noKeywords
    unfold Builtin.Frozenset.updateFrom
    generalize hPI : pyIter = PI
    wp_walk
    subst hPI
    refine wpAny_pyIter_list l1 ?_
    refine wpAny_bind (wpAny_runValue ?_)
    have lt : l < s.heap.objs.size := Heap.lt_size hol
    have h3 : A.in1.in1.in1.handled = none := by simp [hh]
    have ne : l ≠ (s.heap.push (A2 w)).objs.size := by
     rw [Heap.size_push]
     exact Nat.ne_of_lt (Nat.lt_succ_of_lt lt)
    have out : s.heap.objs.size ∉ [(s.heap.push (A2 w)).objs.size, l] := by
     rw [Heap.size_push]
     simp only [List.mem_cons, List.not_mem_nil, or_false, not_or]
     exact ⟨Nat.ne_of_lt (Nat.lt_succ_self _), Nat.ne_of_gt lt⟩
    have hv : ∀ (i : Nat) (v : Value), items[i]? = some v -> ∃ t, v = .int ((fun i => ns.getD i 0) i) t := fun i v e => hi.int_at i v (by rw [Array.getElem?_toList]; exact e)
    refine qO ((Walks.list h3 _ l ne items).toS) s.heap.objs.size out (fun i => ns.getD i 0) hv hb items.size 0 _ [] (by lia) (Nat.zero_le _) ⟨⟨_, Heap.get?_push_size _ rfl, rfl, rfl⟩, l1.push _⟩ (qP (Heap.get?_push_of_some _ hS)) (Nat.le_refl _) fun s' mv sx => ?_
    obtain ⟨h', g', d', tk', os'⟩ := s'
    obtain rfl : g' = s.gens := mv.gens
    obtain rfl : d' = s.drawn := mv.drawn
    obtain rfl : os' = s.os := mv.os
    refine wpAny_pure ?_
    refine wpAny_pure ⟨rfl, h', tk', rfl, sx, fun b o hb e => ?_⟩
    refine mv.heap b o ?_ (Heap.get?_push_of_some _ (Heap.get?_push_of_some _ e))
    simp only [List.mem_cons, List.not_mem_nil, or_false, not_or]
    refine ⟨Nat.ne_of_lt hb, ?_⟩
    rw [Heap.size_push]
    exact Nat.ne_of_lt (Nat.lt_succ_of_lt hb)
   ·cases r2 with
    | error e => exact hr2
    | ok fl2 =>
     cases fl2 with
     | ret r =>
      obtain ⟨rfl, mk⟩ := hr2
      repeat (any_goals (first | assumption | wp_step))
      exact fin _ mk
     | _ => exact hr2.elim
  | _ => exact hr.elim
end
theorem dv : Slot "set_iterator" "__next__" "set_iterator.__next__" :=
 .of (owner := "set_iterator") (n := "__next__") (by rw [typeLookup_type, builtinLookup_eq_fast]; kernel_rfl) (by decide +kernel) (by decide +kernel) (by decide +kernel) (by first | exact .inl (by decide +kernel) | exact .inr (by decide +kernel)) (by rw [isSubtype_type]; kernel_rfl)
theorem oU : entryFor table "set_iterator.__next__" = some Builtin.«set_iterator.__next__» := entryFor_of_tree (by kernel_rfl)
theorem qR (a : Value) : argsOk "set_iterator.__next__" ⟨[a], []⟩ := by
 unfold argsOk
 kernel_rfl
theorem lM : entryFor table "set.__iter__" = some Builtin.«frozenset.__iter__» := entryFor_alias (id' := "frozenset.__iter__") (by kernel_rfl) rfl (by decide +kernel) (by kernel_rfl)
section
variable {prog : Program} {w : World} {A : Around} {E : zx} {s : Shared}
noncomputable def IsSI (h : Heap) (I S : Addr) (first : Value) (i n ep : Nat) : Prop := ∃ o, h.get? I = some o /\ o.cls = .type "set_iterator" /\ o.data = .fields #[first, .int i 0, .ref S, .int n 0, .int ep 0]
theorem IsSI.ty {I S : Addr} {first : Value} {i n ep : Nat} (x : IsSI s.heap I S first i n ep) : s.TypeIs (.ref I) "set_iterator" := let ⟨o, h, c, _⟩ := x; ⟨o, h, c⟩
noncomputable def Ak (h : Heap) (S : Addr) (es : Array (Int × Value)) (ep : Nat) (t : SetTable) : Prop := ∃ o, h.get? S = some o /\ o.data = .set es ep t /\ t.fits es.size = true
theorem e8 {Q : Bool -> Shared -> Prop} (h : Q (txt w) s) : wpAny (model prog w) A setsByText Q E s := by
 unfold setsByText
 exact wpAny_bind (wpAny_askSetting (wpAny_pure h))
theorem eI {S : Addr} {slot i ep : Nat} {es : Array (Int × Value)} {t : SetTable} {Q : Option (Value × Nat) -> Shared -> Prop} (y : Ak s.heap S es ep t) (ht : txt w = false) (hp : t.plain = true \/ es.size <= 1) (hl : t.led = true)
  (fin : Q (match es[SetTable.below t.place slot]?, t.place[SetTable.below t.place slot]? with
   | some (_, x), some j => some (x, j + 1)
   | _, _ => none) s) : wpAny (model prog w) A (setNext S slot i ep) Q E s := by
 obtain ⟨os, hos, hds, hf⟩ := y
 unfold setNext
 refine wpAny_bind (wpAny_setState_of hos hds hf ?_)
 dsimp only
 refine wpAny_bind (e8 ?_)
 rw [ht]
 simp only [Bool.false_eq_true, if_false]
 have hdr : ¬ (!t.plain && decide (es.size > 1)) = true := by
  rcases hp with z | z
  ·simp [z]
  ·simp; intro; omega
 have hdr2 : ¬ (!t.led && !es.isEmpty) = true := by simp [hl]
 show wpAny (model prog w) A (if (!t.plain && decide (es.size > 1)) = true then _ else _) _ _ _
 rw [if_neg hdr]
 refine wpAny_bind ?_
 show wpAny (model prog w) A ((if (!t.led && !es.isEmpty) = true then unsupported "set:maker-not-led" else pure PUnit.unit) : Sem PUnit) _ _ _
 rw [if_neg hdr2]
 exact wpAny_pure (wpAny_pure fin)
theorem fK {S : Addr} {slot i ep : Nat} {es : Array (Int × Value)} {t : SetTable} {Q : Option (Value × Nat) -> Shared -> Prop} (y : Ak s.heap S es ep t) (ht : txt w = true)
  (fin : Q (((pickOrder (w.params.setOrder S ep) es)[i]?).map fun e => (e.2, slot)) s) : wpAny (model prog w) A (setNext S slot i ep) Q E s := by
 obtain ⟨os, hos, hds, hf⟩ := y
 unfold setNext
 refine wpAny_bind (wpAny_setState_of hos hds hf ?_)
 dsimp only
 refine wpAny_bind (e8 ?_)
 rw [ht]
 simp only [if_true, bne_self_eq_false, Bool.false_eq_true, if_false]
 unfold setWalk
 refine wpAny_bind (wpAny_bind (wpAny_setState_of hos hds hf ?_))
 dsimp only
 refine wpAny_bind (e8 ?_)
 rw [ht]
 simp only [if_true]
 exact wpAny_bind (wpAny_askSetting (wpAny_pure (wpAny_pure fin)))
theorem gP {I S : Addr} {first : Value} {i n ep : Nat} {es : Array (Int × Value)} {t : SetTable} {Q : Option Value -> Shared -> Prop} (x : IsSI s.heap I S first i n ep) (y : Ak s.heap S es ep t) (hn : n = es.size)
  (body : wpAny (model prog w) A.in1 (match first with
   | .int slot _ => do
    match <- setNext S slot.toNat i ep with
    | some (x, next) =>
     setField (.ref I) 0 (rawInt next)
     setField (.ref I) 1 (rawInt ((i : Int) + 1))
     ret x
    | none => setField (.ref I) 2 .none; raiseNew (<- newExc (.type "StopIteration") [])
   | _ => do
    let some places <- seqItems? first | unsupported "internal:set_iterator"
    match places[i]? with
    | some (.int place _) =>
     let x <- setNextDrawn S place.toNat ep
     setField (.ref I) 1 (rawInt ((i : Int) + 1))
     ret x
    | some _ => unsupported "internal:set_iterator"
    | none => setField (.ref I) 0 (rawInt 0); setField (.ref I) 2 .none; raiseNew (<- newExc (.type "StopIteration") []))
   (fun f s1 => ∃ v, f = .done (.ret v) /\ Q (some v) s1) (fun e s1 => wpAny (model prog w) A (do if <- isInstance e (.type "StopIteration") then pure none else throw e) Q E s1) s) :
  wpAny (model prog w) A (pyNext (.ref I)) Q E s := by
 subst hn
 obtain ⟨o, ho, hc, hd⟩ := id x
 obtain ⟨os, hos, hds, hf⟩ := y
 unfold pyNext
 refine wpAny_bind (wpAny_attempt (wpAny_callSpecial?_slot (name := Str.ofString "__next__") x.ty dv (wpAny_call_entry dv x.ty oU ?_ (qR _))))
 unfold Builtin.«set_iterator.__next__»
 unfold slotArgs
 simp only [List.isEmpty_nil, Bool.not_true, Bool.false_eq_true, if_false, List.length_nil, bne_self_eq_false]
 refine wpAny_bind (wpAny_pure ?_)
 refine wpAny_bind (wpAny_fieldsOf ho hd ?_)
 dsimp only
 refine wpAny_bind (wpAny_setEntries_of hos hds hf ?_)
 rw [if_neg (by simp)]
 simp only [Int.toNat_natCast]
 exact wpAny_mono body (fun f s1 ⟨v, e, q⟩ => ⟨v, e, wpAny_pure q⟩) fun _ _ q => q
theorem Ak.keep {h h' : Heap} {S : Addr} {es : Array (Int × Value)} {ep : Nat} {t : SetTable} (y : Ak h S es ep t) (k : ∀ o, h.get? S = some o -> h'.get? S = some o) : Ak h' S es ep t := let ⟨o, ho, r⟩ := y; ⟨o, k o ho, r⟩
theorem da {h : Heap} {I : Addr} {o : Obj} {vs : Array Value} (ho : h.get? I = some o) (hd : o.data = .fields vs) (j : Nat) (x : Value) :
  ∃ o', (h.update I (Obj.mapFields (·.setIfInBounds j x))).get? I = some o' /\ o'.cls = o.cls /\ o'.data = .fields (vs.setIfInBounds j x) :=
 ⟨_, Heap.get?_update_self _ ho (Obj.isFreed_of_fields (Obj.data_mapFields hd _)), Obj.cls_mapFields .., Obj.data_mapFields hd _⟩
theorem lN {I S : Addr} {slot i n ep nx : Nat} {v : Value} {es : Array (Int × Value)} {t : SetTable} {Q : Option Value -> Shared -> Prop} (x : IsSI s.heap I S (.int slot 0) i n ep) (y : Ak s.heap S es ep t) (hn : n = es.size)
  (nxt : ∀ (Q' : Option (Value × Nat) -> Shared -> Prop) (E' : zx), Q' (some (v, nx)) s -> wpAny (model prog w) A.in1 (setNext S slot i ep) Q' E' s)
  (fin : ∀ h', IsSI h' I S (.int nx 0) (i + 1) n ep -> Heap.SameBut I s.heap h' -> Q (some v) { s with heap := h' }) : wpAny (model prog w) A (pyNext (.ref I)) Q E s := by
 refine gP x y hn ?_
 obtain ⟨o, ho, hc, hd⟩ := x
 dsimp only
 refine wpAny_bind (nxt _ _ ?_)
 dsimp only
 obtain ⟨o1, ho1, hc1, hd1⟩ := da ho hd 0 (rawInt (nx : Int))
 obtain ⟨o2, ho2, hc2, hd2⟩ := da ho1 hd1 1 (rawInt ((i : Int) + 1))
 refine wpAny_bind (wpAny_setField ho hd (by simp) ?_)
 refine wpAny_bind (wpAny_setField ho1 hd1 (by simp) ?_)
 refine wpAny_pure ⟨v, rfl, fin _ ⟨o2, ho2, hc2.trans (hc1.trans hc), ?_⟩ ((Heap.SameBut.update s.heap I _).trans (Heap.SameBut.update _ I _))⟩
 rw [hd2]
 simp [rawInt]
theorem nS {I : Addr} {o : Obj} {vs : Array Value} {Q : Option Value -> Shared -> Prop} (hh : A.handled = none) (ho : s.heap.get? I = some o) (hd : o.data = .fields vs) (hz : 2 < vs.size)
  (fin : ∀ h', Heap.ExtBut I s.heap h' -> Q none { s with heap := h' }) :
  wpAny (model prog w) A.in1 (do setField (.ref I) 2 .none; raiseNew (<- newExc (.type "StopIteration") []) : Sem PySem.Fin) (fun f s1 => ∃ v, f = .done (.ret v) /\ Q (some v) s1) (fun e s1 => wpAny (model prog w) A (do if <- isInstance e (.type "StopIteration") then pure none else throw e) Q E s1) s := by
 refine wpAny_bind (wpAny_setField ho hd hz ?_)
 refine wpAny_bind ?_
 simp only [newExc, newTuple]
 refine wpAny_bind (wpAny_newObj_type ?_ (by size_fits))
 refine wpAny_bind (m := firstArgMember _ _) (wpAny_of_eq (a := Value.none) (by first | rfl | (simp only [firstArgMember]; rfl)) ?_)
 refine wpAny_newObj_type ?_ (by size_fits)
 simp only [raiseNew]
 refine wpAny_bind (wpAny_handled ?_)
 rw [show A.in1.handled = none from hh]
 refine wpAny_bind (wpAny_pure (wpAny_throw ?_))
 refine wpAny_bind (wpAny_isInstance (T := "StopIteration") (b := true) ⟨_, Heap.get?_push_size _ rfl, rfl⟩ isSubtype_stop ?_)
 exact wpAny_pure (fin _ (((Heap.SameBut.update ..).extBut.push _).push _))
theorem nU {I S : Addr} {slot i n ep : Nat} {es : Array (Int × Value)} {t : SetTable} {Q : Option Value -> Shared -> Prop} (hh : A.handled = none) (x : IsSI s.heap I S (.int slot 0) i n ep) (y : Ak s.heap S es ep t) (hn : n = es.size)
  (nxt : ∀ (Q' : Option (Value × Nat) -> Shared -> Prop) (E' : zx), Q' none s -> wpAny (model prog w) A.in1 (setNext S slot i ep) Q' E' s)
  (fin : ∀ h', Heap.ExtBut I s.heap h' -> Q none { s with heap := h' }) : wpAny (model prog w) A (pyNext (.ref I)) Q E s := by
 refine gP x y hn ?_
 obtain ⟨o, ho, hc, hd⟩ := x
 dsimp only
 refine wpAny_bind (nxt _ _ ?_)
 dsimp only
 exact nS hh ho hd (by simp) fin
theorem mT {I S T : Addr} {i n ep p : Nat} {e : Int × Value} {places : Array Value} {tn : Nat} {ot : Obj} {tp : Tok} {es : Array (Int × Value)} {t : SetTable} {Q : Option Value -> Shared -> Prop} (x : IsSI s.heap I S (.ref T) i n ep) (y : Ak s.heap S es ep t) (hn : n = es.size)
  (hT : s.heap.get? T = some ot) (hTd : ot.data = .seq places tn) (hp : places[i]? = some (.int p tp)) (he : es[p]? = some e)
  (fin : ∀ h', IsSI h' I S (.ref T) (i + 1) n ep -> Heap.SameBut I s.heap h' -> Q (some e.2) { s with heap := h' }) : wpAny (model prog w) A (pyNext (.ref I)) Q E s := by
 refine gP x y hn ?_
 obtain ⟨o, ho, hc, hd⟩ := x
 obtain ⟨os, hos, hds, hf⟩ := y
 dsimp only
 refine wpAny_bind (wpAny_seqItems hT hTd ?_)
 dsimp only
 rw [hp]
 dsimp only
 unfold setNextDrawn
 refine wpAny_bind (wpAny_bind (wpAny_setState_of hos hds hf ?_))
 simp only [bne_self_eq_false, Bool.false_eq_true, if_false, Int.toNat_natCast, he]
 refine wpAny_pure ?_
 obtain ⟨o2, ho2, hc2, hd2⟩ := da ho hd 1 (rawInt ((i : Int) + 1))
 refine wpAny_bind (wpAny_setField ho hd (by simp) ?_)
 refine wpAny_pure ⟨e.2, rfl, fin _ ⟨o2, ho2, hc2.trans hc, ?_⟩ (Heap.SameBut.update s.heap I _)⟩
 rw [hd2]
 simp [rawInt]
theorem oV {I S T : Addr} {i n ep : Nat} {places : Array Value} {tn : Nat} {ot : Obj} {es : Array (Int × Value)} {t : SetTable} {Q : Option Value -> Shared -> Prop} (hh : A.handled = none) (x : IsSI s.heap I S (.ref T) i n ep) (y : Ak s.heap S es ep t) (hn : n = es.size)
  (hT : s.heap.get? T = some ot) (hTd : ot.data = .seq places tn) (hp : places[i]? = none)
  (fin : ∀ h', Heap.ExtBut I s.heap h' -> Q none { s with heap := h' }) : wpAny (model prog w) A (pyNext (.ref I)) Q E s := by
 refine gP x y hn ?_
 obtain ⟨o, ho, hc, hd⟩ := x
 dsimp only
 refine wpAny_bind (wpAny_seqItems hT hTd ?_)
 dsimp only
 rw [hp]
 dsimp only
 obtain ⟨o1, ho1, hc1, hd1⟩ := da ho hd 0 (rawInt 0)
 refine wpAny_bind (wpAny_setField ho hd (by simp) ?_)
 refine nS (s := { s with heap := s.heap.update I (Obj.mapFields (·.setIfInBounds 0 (rawInt 0))) }) hh ho1 hd1 (by simp) fun h' eb => fin h' fun b o' hb e => ?_
 refine eb b o' hb ?_
 exact (Heap.get?_update_other _ _ (Ne.symm hb)).trans e
end
theorem lO : Slot "set_iterator" "__iter__" "set_iterator.__iter__" :=
 .of (owner := "set_iterator") (n := "__iter__") (by rw [typeLookup_type, builtinLookup_eq_fast]; kernel_rfl) (by decide +kernel) (by decide +kernel) (by decide +kernel) (by first | exact .inl (by decide +kernel) | exact .inr (by decide +kernel)) (by rw [isSubtype_type]; kernel_rfl)
theorem oW : entryFor table "set_iterator.__iter__" = some Builtin.«dict_keyiterator.__iter__» := entryFor_alias (id' := "dict_keyiterator.__iter__") (by kernel_rfl) rfl (by decide +kernel) (by kernel_rfl)
theorem qS (a : Value) : argsOk "set_iterator.__iter__" ⟨[a], []⟩ := by
 unfold argsOk
 kernel_rfl
theorem nV {α : Type} {l : List α} {k : Nat} (h : k < l.length) : ([l[k]] ++ l.eraseIdx k).Perm l := by
 rw [List.eraseIdx_eq_take_drop_succ]
 have e : l = l.take k ++ l[k] :: l.drop (k + 1) := by rw [List.getElem_cons_drop h, List.take_append_drop]
 conv => rhs; rw [e]
 rw [List.singleton_append]
 exact List.perm_middle.symm
theorem nW {α : Type} (next : Nat -> Nat) : ∀ (fuel k : Nat) (left : List α) (out : Array α), left.length <= fuel -> ((pickOrder.go next fuel k left out).toList).Perm (out.toList ++ left)
 | 0, k, left, out, h => by
  have : left = [] := List.eq_nil_of_length_eq_zero (by lia)
  subst this
  unfold pickOrder.go
  simp
 | fuel + 1, k, left, out, h => by
  unfold pickOrder.go
  split
  next x e =>
   obtain ⟨hx, ex⟩ := List.getElem?_eq_some_iff.mp e
   have ih := nW next fuel (k + 1) (left.eraseIdx (next k % left.length)) (out.push x) (by rw [List.length_eraseIdx]; split <;> lia)
   refine ih.trans ?_
   rw [Array.toList_push, List.append_assoc]
   refine List.Perm.append_left _ ?_
   rw [<- ex]
   exact nV hx
  next e =>
   have : left = [] := by
    rcases left with _ | ⟨a, r⟩
    ·rfl
    ·exfalso
     rw [List.getElem?_eq_none_iff] at e
     have := Nat.mod_lt (next k) (show 0 < (a :: r).length by simp)
     lia
   subst this
   simp
theorem gj {α : Type} (next : Nat -> Nat) (xs : Array α) : (pickOrder next xs).toList.Perm xs.toList := by
 unfold pickOrder
 have := nW next xs.size 0 xs.toList #[] (by simp)
 simpa using this
section
variable {prog : Program} {w : World} {A : Around} {E : zx} {s : Shared}
theorem kq {I S : Addr} {first : Value} {i n ep : Nat} {Q : zx} (x : IsSI s.heap I S first i n ep) (h : Q (.ref I) s) : wpAny (model prog w) A (pyIter (.ref I)) Q E s := by
 refine wpAny_pyIter_slot x.ty lO (wpAny_call_entry lO x.ty oW ?_ (qS _))
 show wpAny (model prog w) _ (ret (Value.ref I)) _ _ s
 exact wpAny_pure ⟨_, rfl, "set_iterator", _, x.ty, dv.lookup, h⟩
theorem IsSI.keep {h h' : Heap} {I S : Addr} {first : Value} {i n ep : Nat} (x : IsSI h I S first i n ep) (k : ∀ o, h.get? I = some o -> h'.get? I = some o) : IsSI h' I S first i n ep := let ⟨o, ho, r⟩ := x; ⟨o, k o ho, r⟩
theorem oX {t : SetTable} {n : Nat} (h : t.fits n = true) : t.place.size = n := by
 simp only [SetTable.fits, Bool.and_eq_true, beq_iff_eq] at h
 exact h.1
theorem mU (hh : A.handled = none) {I S : Addr} (hne : S ≠ I) {es : Array (Int × Value)} {ep : Nat} {t : SetTable} (hf : t.fits es.size = true) (ht : txt w = false) (hp : t.plain = true \/ es.size <= 1) (hl : t.led = true) (hr : Rise t.place.toList) :
  WalksS prog w A I [I, S] [I] (fun a b => b = a) es.size (fun i v => (es.toList.map (·.2))[i]? = some v) (fun i s => ∃ slot, IsSI s.heap I S (.int ((slot : Nat) : Int) 0) i es.size ep /\ LowB t.place slot i /\ Ak s.heap S es ep t) where
 sub := fun b hb => by simp at hb; simp [hb]
 grefl := fun _ => rfl
 gtrans := fun _ _ _ h1 h2 => h2.trans h1
 frame := fun i s h' tk ⟨slot, x, l, y⟩ _ k => ⟨slot, x.keep fun o e => k I (by simp) o e, l, y.keep fun o e => k S (by simp) o e⟩
 item := fun i s Q E hi ⟨slot, x, l, y⟩ fin => by
  have hps := oX hf
  have ei : es[i]? = some es[i] := Array.getElem?_eq_getElem hi
  have ej : t.place[i]? = some (t.place[i]'(by lia)) := Array.getElem?_eq_getElem (by lia)
  have hb : SetTable.below t.place slot = i := (fJ hr slot).uniq l
  generalize hj : t.place[i]'(by lia) = j at ej
  refine lN (nx := j + 1) (v := es[i].2) x y rfl (fun Q' E' q => eI y ht hp hl (by rw [hb, ei, ej]; exact q)) fun h' x' sb => ?_
  refine fin _ _ (by rw [List.getElem?_map, Array.getElem?_toList, ei]; rfl) ⟨j + 1, x', ⟨by lia, fun k z hk hz => ?_, fun k z hk hz => ?_⟩, y.keep fun o e => by rw [sb.2 S hne]; exact e⟩ ⟨fun b o hb e => ?_, rfl, rfl, rfl, Nat.le_refl _⟩
  ·rcases Nat.lt_or_ge k i with c | c
   ·have := e7 hr c hz ej
    lia
   ·have : k = i := by lia
    subst this
    rw [ej] at hz
    cases hz
    lia
  ·have := e7 hr (show i < k by lia) ej hz
   lia
  ·show h'.get? b = some o
   rw [sb.2 b (fun c => hb (by simp [c]))]
   exact e
 done := fun s Q E ⟨slot, x, l, y⟩ fin => by
  have hb : SetTable.below t.place slot = es.size := (fJ hr slot).uniq l
  have en : es[es.size]? = none := Array.getElem?_eq_none (Nat.le_refl _)
  refine nU hh x y rfl (fun Q' E' q => eI y ht hp hl (by rw [hb, en]; exact q)) fun h' eb => ?_
  exact fin _ ⟨fun b o hb e => eb b o (fun c => hb (by simp [c])) e, rfl, rfl, rfl, Nat.le_refl _⟩
 self := fun i s Q E ⟨slot, x, l, y⟩ q => kq x q
theorem oY (hh : A.handled = none) {I S : Addr} (hne : S ≠ I) {es : Array (Int × Value)} {ep : Nat} {t : SetTable} (ht : txt w = true) :
  WalksS prog w A I [I, S] [I] (fun a b => b = a) es.size (fun i v => ((pickOrder (w.params.setOrder S ep) es).toList.map (·.2))[i]? = some v) (fun i s => IsSI s.heap I S (.int ((0 : Nat) : Int) 0) i es.size ep /\ Ak s.heap S es ep t) where
 sub := fun b hb => by simp at hb; simp [hb]
 grefl := fun _ => rfl
 gtrans := fun _ _ _ h1 h2 => h2.trans h1
 frame := fun i s h' tk ⟨x, y⟩ _ k => ⟨x.keep fun o e => k I (by simp) o e, y.keep fun o e => k S (by simp) o e⟩
 item := fun i s Q E hi ⟨x, y⟩ fin => by
  have hsz : (pickOrder (w.params.setOrder S ep) es).size = es.size := by
   have := (gj (w.params.setOrder S ep) es).length_eq
   simpa using this
  have ei : (pickOrder (w.params.setOrder S ep) es)[i]? = some ((pickOrder (w.params.setOrder S ep) es)[i]'(by lia)) := Array.getElem?_eq_getElem (by lia)
  generalize (pickOrder (w.params.setOrder S ep) es)[i]'(by lia) = e0 at ei
  refine lN (nx := 0) (v := e0.2) x y rfl (fun Q' E' q => fK y ht (by rw [ei]; exact q)) fun h' x' sb => ?_
  refine fin _ _ (by rw [List.getElem?_map, Array.getElem?_toList, ei]; rfl) ⟨x', y.keep fun o e => by rw [sb.2 S hne]; exact e⟩ ⟨fun b o hb e => ?_, rfl, rfl, rfl, Nat.le_refl _⟩
  show h'.get? b = some o
  rw [sb.2 b (fun c => hb (by simp [c]))]
  exact e
 done := fun s Q E ⟨x, y⟩ fin => by
  have hsz : (pickOrder (w.params.setOrder S ep) es).size = es.size := by
   have := (gj (w.params.setOrder S ep) es).length_eq
   simpa using this
  have en : (pickOrder (w.params.setOrder S ep) es)[es.size]? = none := Array.getElem?_eq_none (by lia)
  refine nU hh x y rfl (fun Q' E' q => fK y ht (by rw [en]; exact q)) fun h' eb => ?_
  exact fin _ ⟨fun b o hb e => eb b o (fun c => hb (by simp [c])) e, rfl, rfl, rfl, Nat.le_refl _⟩
 self := fun i s Q E ⟨x, y⟩ q => kq x q
noncomputable def rawP (l : List Nat) : List Value := l.map fun (i : Nat) => rawInt (i : Int)
theorem mV (hh : A.handled = none) {I S T : Addr} (hne : S ≠ I) (hnT : T ≠ I) {es : Array (Int × Value)} {ep : Nat} {t : SetTable} {l : List Nat} (hl : l.Perm (List.range es.size)) :
  WalksS prog w A I [I, S, T] [I] (fun a b => b = a) es.size (fun i v => ∃ p e, l[i]? = some p /\ es[p]? = some e /\ v = e.2) (fun i s => IsSI s.heap I S (.ref T) i es.size ep /\ Ak s.heap S es ep t /\ ∃ o tn, s.heap.get? T = some o /\ o.data = .seq (rawP l).toArray tn) where
 sub := fun b hb => by simp at hb; simp [hb]
 grefl := fun _ => rfl
 gtrans := fun _ _ _ h1 h2 => h2.trans h1
 frame := fun i s h' tk ⟨x, y, o, tn, z, zz⟩ _ k => ⟨x.keep fun o e => k I (by simp) o e, y.keep fun o e => k S (by simp) o e, o, tn, k T (by simp) o z, zz⟩
 item := fun i s Q E hi ⟨x, y, o, tn, z, zz⟩ fin => by
  have hlen : l.length = es.size := by simpa using hl.length_eq
  have el : l[i]? = some (l[i]'(by lia)) := List.getElem?_eq_getElem (by lia)
  generalize l[i]'(by lia) = p at el
  have hp : p < es.size := by simpa using hl.mem_iff.mp (List.mem_of_getElem? el)
  have ee : es[p]? = some es[p] := Array.getElem?_eq_getElem hp
  have ep' : (rawP l).toArray[i]? = some (.int (p : Int) 0) := by
   rw [List.getElem?_toArray]
   unfold rawP
   rw [List.getElem?_map, el]
   rfl
  refine mT x y rfl z zz ep' ee fun h' x' sb => ?_
  refine fin _ _ ⟨p, es[p], el, ee, rfl⟩ ⟨x', y.keep fun o e => by rw [sb.2 S hne]; exact e, o, tn, by show h'.get? T = some o; rw [sb.2 T hnT]; exact z, zz⟩ ⟨fun b o hb e => ?_, rfl, rfl, rfl, Nat.le_refl _⟩
  show h'.get? b = some o
  rw [sb.2 b (fun c => hb (by simp [c]))]
  exact e
 done := fun s Q E ⟨x, y, o, tn, z, zz⟩ fin => by
  have hlen : l.length = es.size := by simpa using hl.length_eq
  have en : (rawP l).toArray[es.size]? = none := by
   rw [List.getElem?_toArray]
   unfold rawP
   rw [List.getElem?_map, List.getElem?_eq_none (by lia)]
   rfl
  refine oV hh x y rfl z zz en fun h' eb => ?_
  exact fin _ ⟨fun b o hb e => eb b o (fun c => hb (by simp [c])) e, rfl, rfl, rfl, Nat.le_refl _⟩
 self := fun i s Q E ⟨x, y, _⟩ q => kq x q
end
section
variable {prog : Program} {w : World} {A : Around} {E : zx} {s : Shared}
theorem oZ {src : Source} {n : Nat} {Q : Nat -> Shared -> Prop} (hn : n ≠ 0) (h : ∀ k d, k < n -> Q k { s with drawn := d }) : wpAny (model prog w) A (choose src n) Q E s :=
 fun _ _ _ => ⟨hn, h _ _ (Nat.mod_lt _ (Nat.pos_of_ne_zero hn))⟩
theorem nX {α : Type} : ∀ (n : Nat) (xs : List α) (s : Shared) (Q : List α -> Shared -> Prop), xs.length <= n -> (∀ l d, l.Perm xs -> Q l { s with drawn := d }) -> wpAny (model prog w) A (drawOrder n xs) Q E s
 | 0, xs, s, Q, h, fin => by
  have : xs = [] := List.eq_nil_of_length_eq_zero (by lia)
  subst this
  exact wpAny_pure (fin [] s.drawn (List.Perm.refl _))
 | n + 1, [], s, Q, h, fin => wpAny_pure (fin [] s.drawn (List.Perm.refl _))
 | n + 1, x :: r, s, Q, h, fin => by
  unfold drawOrder
  refine wpAny_bind (oZ (by simp) fun k d hk => ?_)
  have e : (x :: r)[k]? = some ((x :: r)[k]) := List.getElem?_eq_getElem hk
  rw [e]
  dsimp only
  have hl : ((x :: r).eraseIdx k).length <= n := by
   rw [List.length_eraseIdx]
   split <;> simp at h ⊢ <;> lia
  refine wpAny_bind (nX n _ _ _ hl fun l d' hp => ?_)
  exact wpAny_pure (fin _ d' ((List.Perm.cons _ hp).trans (nV hk)))
noncomputable def Bz (prog : Program) (w : World) (s s1 : Shared) (S I : Addr) (L : List Int) : Prop :=
 ∃ (vs : List Value) (M : List Int) (fp wr : List Addr) (P : Nat -> Value -> Prop) (St : Nat -> Shared -> Prop), M.Perm L /\ IntsAre vs M /\ (∀ i v, P i v -> vs[i]? = some v) /\ (∀ A : Around, A.handled = none -> WalksS prog w A I fp wr (fun a b => b = a) vs.length P St) /\ St 0 s1 /\ (∀ b ∈ fp, b < s1.heap.objs.size) /\ (∀ b ∈ wr, s.heap.objs.size <= b) /\ I ∈ fp /\
  (∀ b o, s.heap.get? b = some o -> s1.heap.get? b = some o) /\ s1.gens = s.gens /\ s1.os = s.os /\ s1.toks = s.toks /\ (∀ b ∈ fp, b = S \/ s.heap.objs.size <= b) /\ vs.length <= sizeLine
theorem kr {s s1 : Shared} {S I : Addr} {L M : List Int} {vs : List Value} {n : Nat} {fp wr : List Addr} {P : Nat -> Value -> Prop} {St : Nat -> Shared -> Prop} (W : ∀ A : Around, A.handled = none -> WalksS prog w A I fp wr (fun a b => b = a) n P St) (hn : vs.length = n) (hM : M.Perm L) (hI : IntsAre vs M) (hP : ∀ i v, P i v -> vs[i]? = some v) (st : St 0 s1)
  (h1 : ∀ b ∈ fp, b < s1.heap.objs.size) (h2 : ∀ b ∈ wr, s.heap.objs.size <= b) (h3 : I ∈ fp) (h4 : ∀ b o, s.heap.get? b = some o -> s1.heap.get? b = some o) (h5 : s1.gens = s.gens) (h6 : s1.os = s.os) (h7 : s1.toks = s.toks) (h8 : ∀ b ∈ fp, b = S \/ s.heap.objs.size <= b) (h9 : n <= sizeLine) : Bz prog w s s1 S I L := by
 subst hn
 exact ⟨vs, M, fp, wr, P, St, hM, hI, hP, W, st, h1, h2, h3, h4, h5, h6, h7, h8, h9⟩
theorem gQ : ∀ {l : List (Int × Value)}, (∀ e ∈ l, EntI e) -> IntsAre (l.map (·.2)) (l.map keyE)
 | [], _ => .nil
 | e :: r, h => by
  obtain ⟨_, tk, e2⟩ := h e (by simp)
  have ih := gQ (l := r) fun x hx => h x (by simp [hx])
  rw [List.map_cons, List.map_cons, e2]
  exact .cons _ tk ih
theorem qT (es : Array (Int × Value)) (t : SetTable) (a : Addr) {o : Obj} {ep : Nat} {Q : Bool -> Shared -> Prop} (ho : s.heap.get? a = some o) (hd : o.data = .set es ep t) (hf : t.fits es.size = true) (h : Q (!txt w && (!t.plain && decide (es.size > 1))) s) : wpAny (model prog w) A (setDrawn a) Q E s := by
 unfold setDrawn
 refine wpAny_bind (wpAny_setState_of ho hd hf ?_)
 dsimp only
 exact wpAny_bind (e8 (wpAny_pure h))
theorem qU {S : Addr} {L : List Int} {Q : zx} (x : SX w s.heap S L) (fin : ∀ s1 I, Bz prog w s s1 S I L -> Q (.ref I) s1) : wpAny (model prog w) A (pyIter (.ref S)) Q E s := by
 obtain ⟨o, es, ep, t, ho, hex, hd, h1, h2, h3, h4, h5⟩ := x
 have hT : s.TypeIs (.ref S) "set" := ⟨o, ho, hex.1⟩
 have hSl : S < s.heap.objs.size := Heap.lt_size ho
 refine wpAny_pyIter_slot hT PySem.F.slot_set_iter (wpAny_call_entry PySem.F.slot_set_iter hT lM ?_ (PySem.F.args_set_iter_1 _))
 unfold Builtin.«frozenset.__iter__»
 unfold Builtin.Frozenset.slot0
 unfold slotArgs
 simp only [List.isEmpty_nil, Bool.not_true, Bool.false_eq_true, if_false, List.length_nil, bne_self_eq_false]
 unfold Builtin.Frozenset.addrOf
 unfold Builtin.Frozenset.sizeOf
 refine wpAny_bind (wpAny_bind (wpAny_pure ?_))
 dsimp only
 refine wpAny_pure ?_
 refine wpAny_bind (wpAny_bind (wpAny_setEntries_of ho hd h4 (wpAny_pure ?_)))
 refine wpAny_bind (qT es t S ho hd h4 ?_)
 have hz : es.size <= sizeLine := fits_of_scanBound h3
 split
 next hc =>
  refine wpAny_bind (nX es.size (List.range es.size) s _ (by simp) fun l d hp => ?_)
  have hll : l.length = es.size := by simpa using hp.length_eq
  simp only [newTuple]
  refine wpAny_bind (wpAny_newObj_type ?_ (by show (List.map _ l).toArray.size <= sizeLine; simp; lia))
  have ho1 : (s.heap.push { cls := .type "tuple", data := .seq (List.map (fun (i : Nat) => rawInt (i : Int)) l).toArray }).get? S = some o := Heap.get?_push_of_some _ ho
  refine wpAny_bind (wpAny_setEpoch_of (s := { s with heap := s.heap.push { cls := .type "tuple", data := .seq (List.map (fun (i : Nat) => rawInt (i : Int)) l).toArray }, drawn := d }) ho1 hd h4 ?_)
  simp only [newFields]
  refine wpAny_bind (wpAny_newObj_type (wpAny_pure ⟨_, rfl, "set_iterator", _, ⟨_, Heap.get?_push_size _ rfl, rfl⟩, dv.lookup, fin _ _ ?_⟩))
  have hsz : (s.heap.push { cls := .type "tuple", data := .seq (List.map (fun (i : Nat) => rawInt (i : Int)) l).toArray }).objs.size = s.heap.objs.size + 1 := by rw [Heap.size_push]
  have hvs : (l.map fun p => (es[p]?.getD (0, .none)).2).length = es.size := by simp [hll]
  have hperm : (l.map fun p => es[p]?.getD (0, .none)).Perm es.toList := by
   refine (hp.map _).trans ?_
   have : (List.range es.size).map (fun p => es[p]?.getD (0, .none)) = es.toList := by
    apply List.ext_getElem?
    intro k
    rw [List.getElem?_map]
    by_cases hk : k < es.size
    ·rw [List.getElem?_range hk]
     simp [hk]
    ·rw [List.getElem?_eq_none (by simpa using hk), List.getElem?_eq_none (by simpa using hk)]
     rfl
   rw [this]
  have n1 : S ≠ (s.heap.push { cls := .type "tuple", data := .seq (List.map (fun (i : Nat) => rawInt (i : Int)) l).toArray }).objs.size := by rw [hsz]; exact Nat.ne_of_lt (Nat.lt_succ_of_lt hSl)
  have n2 : s.heap.objs.size ≠ (s.heap.push { cls := .type "tuple", data := .seq (List.map (fun (i : Nat) => rawInt (i : Int)) l).toArray }).objs.size := by rw [hsz]; exact Nat.ne_of_lt (Nat.lt_succ_self _)
  refine kr (n := es.size) (M := (l.map fun p => es[p]?.getD (0, .none)).map keyE) (vs := (l.map fun p => es[p]?.getD (0, .none)).map (·.2)) (fun A' hA => mV hA (S := S) (T := s.heap.objs.size) n1 n2 (es := es) (l := l) (t := t) (ep := ep) hp) (by rw [List.length_map, List.length_map]; exact hll) ((hperm.map keyE).trans h2) (gQ fun e he => h1 e (hperm.mem_iff.mp he)) ?_ ⟨⟨_, Heap.get?_push_size _ rfl, rfl, ?_⟩, ⟨o, Heap.get?_push_of_some _ ho1, hd, h4⟩, ⟨_, 0, Heap.get?_push_of_some _ (Heap.get?_push_size _ rfl), rfl⟩⟩ ?_ ?_ ?_ (fun b o' e => Heap.get?_push_of_some _ (Heap.get?_push_of_some _ e)) rfl rfl rfl ?fo hz
  case fo =>
   intro b hb
   simp only [List.mem_cons, List.not_mem_nil, or_false] at hb
   rcases hb with rfl | rfl | rfl
   ·exact .inr (by rw [hsz]; exact Nat.le_succ _)
   ·exact .inl rfl
   ·exact .inr (Nat.le_refl _)
  ·rintro i v ⟨p, e, e1, e2, rfl⟩
   rw [List.getElem?_map, List.getElem?_map, e1]
   simp [e2]
  ·simp [rawInt]
  ·intro b hb
   show b < ((s.heap.push _).push _).objs.size
   rw [Heap.size_push, Heap.size_push]
   simp only [List.mem_cons, List.not_mem_nil, or_false] at hb
   rcases hb with rfl | rfl | rfl
   ·rw [hsz]; exact Nat.lt_succ_self _
   ·exact Nat.lt_succ_of_lt (Nat.lt_succ_of_lt hSl)
   ·exact Nat.lt_succ_of_lt (Nat.lt_succ_self _)
  ·intro b hb
   rw [List.mem_singleton] at hb
   rw [hb, hsz]
   exact Nat.le_succ _
  ·simp
 next hc =>
  refine wpAny_bind (wpAny_pure ?_)
  refine wpAny_bind (wpAny_setEpoch_of ho hd h4 ?_)
  simp only [newFields]
  refine wpAny_bind (wpAny_newObj_type (wpAny_pure ⟨_, rfl, "set_iterator", _, ⟨_, Heap.get?_push_size _ rfl, rfl⟩, dv.lookup, fin _ _ ?_⟩))
  cases ht : txt w with
  | true =>
   have hperm := gj (w.params.setOrder S ep) es
   refine kr (M := (pickOrder (w.params.setOrder S ep) es).toList.map keyE) (vs := (pickOrder (w.params.setOrder S ep) es).toList.map (·.2)) (fun A' hA => oY hA (I := s.heap.objs.size) (S := S) (es := es) (ep := ep) (Nat.ne_of_lt hSl) (t := t) ht) (by rw [List.length_map, hperm.length_eq]; simp) ((hperm.map keyE).trans h2) (gQ fun e he => h1 e (hperm.mem_iff.mp he)) (fun i v h => h) ⟨⟨_, Heap.get?_push_size _ rfl, rfl, ?_⟩, ⟨o, Heap.get?_push_of_some _ ho, hd, h4⟩⟩ ?_ ?_ ?_ (fun b o' e => Heap.get?_push_of_some _ e) rfl rfl rfl ?fo hz
   case fo =>
    intro b hb
    simp only [List.mem_cons, List.not_mem_nil, or_false] at hb
    rcases hb with rfl | rfl
    ·exact .inr (Nat.le_refl _)
    ·exact .inl rfl
   ·simp [rawInt]
   ·intro b hb
    show b < (s.heap.push _).objs.size
    rw [Heap.size_push]
    simp only [List.mem_cons, List.not_mem_nil, or_false] at hb
    rcases hb with rfl | rfl
    ·exact Nat.lt_succ_self _
    ·exact Nat.lt_succ_of_lt hSl
   ·intro b hb
    rw [List.mem_singleton] at hb
    rw [hb]
    exact Nat.le_refl _
   ·simp
  | false =>
   rw [ht] at hc h5
   have hp : t.plain = true \/ es.size <= 1 := by
    cases hpl : t.plain with
    | true => exact .inl rfl
    | false =>
     rw [hpl] at hc
     simp at hc
     exact .inr hc
   refine kr (M := es.toList.map keyE) (vs := es.toList.map (·.2)) (fun A' hA => mU hA (I := s.heap.objs.size) (S := S) (ep := ep) (Nat.ne_of_lt hSl) h4 ht hp h5.led h5.rise) (by simp) h2 (gQ h1) (fun i v h => h) ⟨0, ⟨_, Heap.get?_push_size _ rfl, rfl, ?_⟩, ⟨Nat.zero_le _, fun i x hi => by lia, fun i x _ _ => Nat.zero_le _⟩, ⟨o, Heap.get?_push_of_some _ ho, hd, h4⟩⟩ ?_ ?_ ?_ (fun b o' e => Heap.get?_push_of_some _ e) rfl rfl rfl ?fo hz
   case fo =>
    intro b hb
    simp only [List.mem_cons, List.not_mem_nil, or_false] at hb
    rcases hb with rfl | rfl
    ·exact .inr (Nat.le_refl _)
    ·exact .inl rfl
   ·simp [rawInt]
   ·intro b hb
    show b < (s.heap.push _).objs.size
    rw [Heap.size_push]
    simp only [List.mem_cons, List.not_mem_nil, or_false] at hb
    rcases hb with rfl | rfl
    ·exact Nat.lt_succ_self _
    ·exact Nat.lt_succ_of_lt hSl
   ·intro b hb
    rw [List.mem_singleton] at hb
    rw [hb]
    exact Nat.le_refl _
   ·simp
end
abbrev nilL : Obj := { cls := .type "list", data := .seq ([] : List Value).toArray }
section
variable {prog : Program} {w : World} {A : Around} {E : zx} {s : Shared}
theorem lP : isSubtype (.type "set") (.type "set") = pure true := by rw [isSubtype_type]; kernel_rfl
theorem mW {vs : List Value} {acc : Array Value} {P : Nat -> Value -> Prop} (hP : ∀ i v, P i v -> vs[i]? = some v) (h : ItemsOf P acc vs.length) : acc.toList = vs := by
 apply List.ext_getElem?
 intro i
 by_cases hi : i < acc.size
 ·have e : acc[i]? = some acc[i] := Array.getElem?_eq_getElem hi
  rw [Array.getElem?_toList, e, hP i _ (h.2 i _ e)]
 ·rw [List.getElem?_eq_none (by simpa using hi), List.getElem?_eq_none (by rw [<- h.1]; omega)]
theorem qV {S : Addr} {Q : Bool -> Shared -> Prop} (hT : s.TypeIs (.ref S) "set") (h : Q false s) : wpAny (model prog w) A (Builtin.List.listLengthHint (.ref S)) Q E s := by
 unfold Builtin.List.listLengthHint
 refine wpAny_bind (wpAny_specialOf hT PySem.F.slot_set_len.lookup ?_)
 generalize hq : ("set.__len__" : String) = nm
 wp_delta
 rw [show splitId nm = some ("set", "__len__") from by subst hq; decide +kernel]
 subst hq
 refine wpAny_bind (wpAny_isInstance (b := true) hT lP ?_)
 rw [if_neg (show ¬ (!true) = true by decide)]
 split
 next =>
  refine wpAny_bind (wpAny_typeOf hT ?_)
  exact wpAny_pure h
 next hc => exact absurd (by decide +kernel) hc
theorem lQ {S : Addr} {L : List Int} {Q : List Value -> Shared -> Prop} (hh : A.handled = none) (x : SX w s.heap S L)
  (fin : ∀ s' vs M, M.Perm L -> IntsAre vs M -> (∀ b o, s.heap.get? b = some o -> s'.heap.get? b = some o) -> s'.gens = s.gens -> s'.os = s.os -> s.heap.objs.size < s'.heap.objs.size -> Q vs s') :
  wpAny (model prog w) A (collect (.ref S)) Q E s := by
 have hSl : S < s.heap.objs.size := let ⟨o, _, _, _, ho, _⟩ := x; Heap.lt_size ho
 have x1 : SX w (s.heap.push nilL) S L := x.keep fun o e => Heap.get?_push_of_some _ e
 have hT : Shared.TypeIs { s with heap := s.heap.push nilL } (.ref S) "set" := let ⟨o, _, _, _, ho, hex, _⟩ := x1; ⟨o, ho, hex.1⟩
 have hD : (s.heap.push nilL).get? s.heap.objs.size = some nilL := Heap.get?_push_size _ rfl
 unfold collect
 refine wpAny_bind (wpAny_runValue (codeAny_builtin PySem.F.entry_proto_collect ?_))
 rw [Around.under_plainId PySem.F.plain_proto_collect]
 show wpAny (model prog w) A.in1 (newList [] >>= fun l => again (.builtin "list.__iadd__" ⟨[l, .ref S], []⟩)) _ _ s
 refine wpAny_bind (wpAny_newObj_type ?_)
 refine wpAny_pure ⟨plainId_quiet PySem.F.plain_list_iadd _, codeAny_builtin PySem.F.entry_list_iadd ?_⟩
 rw [Around.under_plainId PySem.F.plain_list_iadd]
 show wpAny (model prog w) A.in1 (Builtin.List.listExtendWith (.ref s.heap.objs.size) (.ref S) (.ref s.heap.objs.size)) _ _ _
 unfold Builtin.List.listExtendWith
 refine wpAny_bind (wpAny_typeOf hT ?_)
 have e1 : Builtin.List.listSameRef (.ref s.heap.objs.size) (.ref S) = false := by
  simp only [Builtin.List.listSameRef, beq_eq_false_iff_ne, ne_eq]
  exact Nat.ne_of_gt hSl
 have e2 : (Value.type "set" == Value.type "list") = false := by decide
 have e3 : (Value.type "set" == Value.type "tuple") = false := by decide
 simp only [e1, e2, e3, Bool.or_false, Bool.false_eq_true, if_false]
 refine wpAny_bind (qU (s := { s with heap := s.heap.push nilL }) x1 fun s1 I ok => ?_)
 obtain ⟨vs, M, fp, wr, P, St, hM, hI, hP, W, st, h1, h2, h3, h4, h5, h6, h7, h8, hn⟩ := ok
 have hT1 : s1.TypeIs (.ref S) "set" := let ⟨o, ho, hc⟩ := hT; ⟨o, h4 S o ho, hc⟩
 refine wpAny_bind (wpAny_holding (qV hT1 ?_))
 have W1 := W A.in1 (by simp [hh])
 have hD1 : s1.heap.get? s.heap.objs.size = some nilL := h4 _ _ hD
 have hpz : (s.heap.push nilL).objs.size = s.heap.objs.size + 1 := by rw [Heap.size_push]
 have hDf : s.heap.objs.size ∉ fp := fun z => by
  rcases h8 _ z with c | c
  ·exact Nat.ne_of_gt hSl c
  ·have c' : (s.heap.push nilL).objs.size <= s.heap.objs.size := c
   rw [hpz] at c'
   exact Nat.not_succ_le_self _ c'
 split
 next =>
  refine wpAny_bind (wpAny_rule ?_)
  refine wpAny_bind ?_
  show wpAny (model prog w) A.in1 (updateSeq s.heap.objs.size (·.push .none) >>= fun _ => updateSeq s.heap.objs.size (·.pop)) _ _ _
  have u1 := Heap.get?_update_self (Obj.mapSeq (·.push Value.none)) hD1 rfl
  have u2 := Heap.get?_update_self (Obj.mapSeq (·.pop)) u1 rfl
  have oth : ∀ b o, b ≠ s.heap.objs.size -> s1.heap.get? b = some o -> ((s1.heap.update s.heap.objs.size (Obj.mapSeq (·.push Value.none))).update s.heap.objs.size (Obj.mapSeq (·.pop))).get? b = some o :=
   fun b o hb e => (Heap.get?_update_other _ _ (Ne.symm hb)).trans ((Heap.get?_update_other _ _ (Ne.symm hb)).trans e)
  refine wpAny_bind (wpAny_updateSeq hD1 rfl ?_)
  refine wpAny_updateSeq u1 rfl ?_
  refine wpAny_pure ⟨plainId_quiet PySem.F.plain_extend_loop _, codeAny_extend_loopS W1 hn _ hDf _ vs.length 0 _ _ _ rfl (Nat.zero_le _) (W1.frame 0 s1 _ s1.toks st (Nat.le_refl _) fun b hb o e => oth b o (fun z => hDf (z ▸ hb)) e) u2 (ItemsOf.nil P) fun s' acc c mv hL ha => ?_⟩
  refine wpAny_bind (wpAny_load hL ?_)
  show wpAny (model prog w) A (pure acc.toList) Q E s'
  rw [mW hP ha]
  refine wpAny_pure (fin s' vs M hM hI (fun b o e => ?_) (mv.gens.trans h5) (mv.os.trans h6) (Heap.lt_size hL))
  have hb : b < s.heap.objs.size := Heap.lt_size e
  refine mv.heap b o (fun z => ?_) (oth b o (Nat.ne_of_lt hb) (h4 b o (Heap.get?_push_of_some _ e)))
  rcases List.mem_cons.mp z with z | z
  ·exact Nat.ne_of_lt hb z
  ·have c : (s.heap.push nilL).objs.size <= b := h2 b z
   rw [hpz] at c
   exact Nat.lt_irrefl _ (Nat.lt_of_lt_of_le (Nat.lt_succ_of_lt hb) c)
 next hc => exact absurd (by decide +kernel) hc
end
variable [Tabs]
theorem Inv.same {X : Cx} {pins : zw} {σ : List (Option V)} {H : Hp} {s s' : Shared} (I : Inv X pins σ H s) (h1 : s'.heap = s.heap) (h2 : s'.gens = s.gens) (h3 : s'.os = s.os) : Inv X pins σ H s' := by
 obtain ⟨a1, a2, a3, a4, a5, a6, a7, a8, a9, a10, a11⟩ := I
 exact ⟨a1, h3 ▸ a2, h2 ▸ a3, h1 ▸ a4, h1 ▸ a5, h1 ▸ a6, a7, a8, h1 ▸ a9, h1 ▸ a10, a11⟩
noncomputable def Ba (w : World) (p : Addr) (L : List Int) : Heap -> Prop := fun h => SX w h p L
def zN (ns : List Int) : List Int := ns.foldl addK []
theorem jI (ns : List Int) : (zN ns).length <= ns.length := by
 have : ∀ (l acc : List Int), (l.foldl addK acc).length <= acc.length + l.length := by
  intro l
  induction l with
  | nil => intro acc; simp
  | cons a r ih =>
   intro acc
   have h1 := ih (addK acc a)
   have h2 := lL acc a
   rw [List.foldl_cons, List.length_cons]
   lia
 have := this ns []
 simpa [zN] using this
section
variable {X : Cx} {pins : zw} {σ : List (Option V)} {H : Hp} {s : Shared}
noncomputable def Br (w : World) (K : W.Frag) : List V -> Hp -> VK -> Prop := fun xs H Q => ∃ (l : Addr) (ns : List Int), xs = [.ref l] /\ SqR K H l (ns.map V.int) /\ ns.length < 64 /\ ∀ p, H p = none -> Q (.ref p) (upd H p (.ext (Ba w p (zN ns))))
theorem mX (ns : List Int) : (List.range' 0 ns.length).map (fun i => ns.getD i 0) = ns := by
 apply List.ext_getElem?
 intro i
 rw [List.getElem?_map]
 by_cases h : i < ns.length
 ·rw [List.getElem?_range' h]
  simp [h]
 ·rw [List.getElem?_eq_none (by simpa using h), List.getElem?_eq_none (by simpa using h)]
  rfl
theorem p4 (hc : X.calm = true) : Ah X (.type "set") (Br X.w X.K) := by
 intro pins s σ H xs us Q I r h
 obtain ⟨l, ns, rfl, hq, h64, q⟩ := h
 obtain ⟨u, rfl, r1⟩ := vals1 r
 cases r1
 obtain ⟨z, its, n, rv, hl, e⟩ := I.lstR hq
 have hI := eQ rv
 have hlen : its.length = ns.length := by rw [<- hl, List.length_map]
 refine qQ (l := l) (items := its.toArray) (ns := ns) (I.ok.hd hc) ⟨_, e, rfl, n, rfl⟩ hI (by rw [List.size_toArray, hlen]; have : scanBound = 4096 := rfl; lia) fun s2 mk => ?_
 obtain ⟨h2, k2, rfl, sx, keep⟩ := mk
 have ez : its.toArray.size = ns.length := by rw [List.size_toArray, hlen]
 rw [ez, mX] at sx
 have old : ∀ b o, s.heap.get? b = some o -> h2.get? b = some o := fun b o eo => keep b o (Heap.lt_size eo) eo
 refine ⟨.ref s.heap.objs.size, _, I.laid (t' := k2) (o := .ext (Ba X.w s.heap.objs.size (zN ns))) old (Nat.le_refl _) ?_, rfl, q _ (I.hok.fresh (Nat.le_refl _))⟩
 refine ⟨sx, ?_, fun h1 h2 a b => SX.keep a b⟩
 obtain ⟨o, _, _, _, ho, _⟩ := sx
 exact ⟨o, ho⟩
noncomputable def Bb (w : World) : List V -> Hp -> VK -> Prop := fun xs H Q => ∃ (p : Addr) (L : List Int), xs = [.ref p] /\ H p = some (.ext (Ba w p L)) /\ L.length < 64 /\ ∀ (ns' : List Int) q, ns'.Perm L -> ns'.Pairwise (· <= ·) -> H q = none -> Q (.ref q) (upd H q (.lst (ns'.map V.int)))
theorem mY (hc : X.calm = true) : Ah X (.builtin "sorted") (Bb X.w) := by
 intro pins s σ H xs us Q I r h
 obtain ⟨p, L, rfl, hp, h64, q⟩ := h
 obtain ⟨u, rfl, r1⟩ := vals1 r
 cases r1
 obtain ⟨sx, _, _⟩ : Ba X.w p L s.heap /\ _ /\ _ := I.hok p _ hp
 refine Calls.call_function_entry kind_sorted plain_sorted entry_sorted (args_sorted1 _) ?_
 unfold Builtin.«sorted»
 refine wpAny_bind (m := checkCount "sorted" 1 1 _) (wpAny_pure ?_)
 refine wpAny_bind (lQ (by have := I.ok.hd hc; simpa using this) sx fun s' vs M hM hI old hg hos hsz => ?_)
 have hvl : vs.length < 64 := by rw [IntsAre.length hI, hM.length_eq]; exact h64
 refine wpAny_bind (wpAny_newList ?_ (by rw [sizeLine_eq]; lia))
 have hoL : (s'.heap.push (seqObj "list" vs.toArray 0)).get? s'.heap.objs.size = some (seqObj "list" vs.toArray 0) := Heap.get?_push_size _ rfl
 refine wpAny_bind (wpAny_holding (wpAny_call_entry slot_list_sort ⟨_, hoL, rfl⟩ entry_list_sort (list_sort_tree hoL hI hvl fun out ns' a1 a2 a3 => ⟨_, rfl, ?_⟩) (args_list_sort _)))
 refine wpAny_pure ⟨_, rfl, .ref s'.heap.objs.size, upd H s'.heap.objs.size (.lst (ns'.map V.int)), ?_, rfl, q ns' _ (a2.trans hM) a3 (I.hok.fresh (Nat.le_of_lt hsz))⟩
 have keep : ∀ b o, s.heap.get? b = some o -> (sortedHeap (s'.heap.push (seqObj "list" vs.toArray 0)) s'.heap.objs.size vs out).get? b = some o := fun b o e => by
  have e1 := old b o e
  have l1 : b < s'.heap.objs.size := Heap.lt_size e1
  rw [sortedHeap_old (Nat.ne_of_lt l1) (by rw [Heap.size_push]; exact Nat.lt_succ_of_lt l1)]
  exact Heap.get?_push_of_some _ e1
 obtain ⟨e2, he⟩ := sortedHeap_at (out := out) hoL
 have I2 : Inv X pins σ (upd H s'.heap.objs.size (.lst (ns'.map V.int))) { s with heap := sortedHeap (s'.heap.push (seqObj "list" vs.toArray 0)) s'.heap.objs.size vs out, toks := s.toks } := I.laid keep (Nat.le_of_lt hsz) ⟨by
  rw [List.length_map, a2.length_eq, hM.length_eq]
  exact Nat.le_trans (Nat.le_of_lt h64) (by decide), out.toList, e2, dU a1, he⟩
 exact I2.same rfl hg hos
end
noncomputable def Al : zt -> Option SD
 | [.list xs] => if xs.length < 64 then (zW xs).map fun ns => .ol ((A9 (zN ns)).map PyData.int) else none
 | _ => none
@[simp] theorem gE (xs : zt) : Al [.list xs] = if xs.length < 64 then (zW xs).map fun ns => .ol ((A9 (zN ns)).map PyData.int) else none := rfl
theorem p5 {w : World} {K : W.Frag} {mg : zu} : zT K mg Al (fun vs H Q => Br w K vs H fun v H2 => Bb w [v] H2 Q) := by
 intro G H vs ds res Q hg hd ho k
 unfold Al at ho
 split at ho
 next xs =>
  split at ho
  next hl =>
   cases e : zW xs with
   | none => rw [e] at ho; cases ho
   | some ns =>
    rw [e] at ho
    cases ho
    obtain ⟨x, rfl, h1⟩ := dts1 hd
    cases h1 with
    | lst q r =>
     have hx := fz r e
     subst hx
     have hln : ns.length < 64 := by
      have := r.len
      rw [List.length_map] at this
      lia
     refine ⟨_, ns, rfl, hg.sqr q, hln, fun p hp => ⟨p, zN ns, rfl, aq, Nat.lt_of_le_of_lt (jI ns) hln, fun ns' q2 hP hR hq2 => ?_⟩⟩
     have hne : q2 ≠ p := fun z => by
      subst z
      rw [aq] at hq2
      cases hq2
     have hq0 : H q2 = none := by rw [ah hne] at hq2; exact hq2
     have hs : ns' = A9 (zN ns) := qu hP hR
     subst hs
     refine k _ _ G ((Grow.laidO hg hp).trans (Grow.laidO (hg.trans (aK hp)) hq2)) ⟨⟨q2, _, rfl, hg.free hq0, aq, Dts.ints _⟩, fun _ a ea => ?_⟩
     cases ea
     exact hq0
  next => cases ho
 next => cases ho
section
variable {X : Cx} {E : XK} {a : Expr} {oa : Opd} {p1 p2 pos1 pos2 : Pos}
theorem mZ (hc : X.calm = true) (hm : X.mg "sorted" = none) (hm2 : X.mg "set" = none) (ha : SO X E a oa) (hg : Gl X "sorted" := by rfl) (hg2 : Gl X "set" := by rfl) (hst : starEach [a] X.env = [(false, eval a X.env)] := by rfl)
  (hst2 : starEach [.Call (.Name "set" p2) [a] [] pos2] X.env = [(false, eval (.Call (.Name "set" p2) [a] [] pos2) X.env)] := by rfl) : SE X E (.Call (.Name "sorted" p1) [.Call (.Name "set" p2) [a] [] pos2] [] pos1) (eOp Al [oa]) :=
 (fu (mY hc) hg hm boot_sorted (b8 (jn (p4 hc) hg2 hm2 boot_set (aa ha af hst) (by decide) (by decide) hst rfl) cQ hst2) (by decide) (by decide) hst2 rfl).weak fun σ H Q q => by
  show tOs X.K X.mg E [oa] σ H (fun vs H1 => Br X.w X.K vs H1 fun v H2 => Bb X.w [v] H2 Q)
  exact fy (r := fun vs H Q => Br X.w X.K vs H fun v H2 => Bb X.w [v] H2 Q) p5 q
end
section
variable {X : Cx} {E : XK} {a : Expr} {oa : Opd} {pos p : Pos}
end
noncomputable def numL (φ : PyData -> zt -> Option (Int × zt)) : zt -> zt -> Option (List Int × zt)
 | [], st => some ([], st)
 | d :: r, st => (φ d st).bind fun x => (numL φ r x.2).map fun y => (x.1 :: y.1, y.2)
noncomputable def AG (w : Str) (m : Int) (y : List Int × zt) : Option (Int × zt) :=
 if y.2.length < sizeLine then some (m + ((y.2.length : Int) + 1), y.2 ++ [.tuple [.str w, .list (y.1.map PyData.int)]]) else none
noncomputable def numD : Nat -> Int -> PyData -> zt -> Option (Int × zt)
 | 0, _, _, _ => none
 | n + 1, m, d, st => match d with
  | .tuple (.str w :: ds) => if w = "thing" then (match ds with
    | [.int i] => some (i, st)
    | _ => none)
   else if ds.length < sizeLine then (numL (numD n m) ds st).bind (AG w m) else none
  | _ => none
noncomputable def AZ (K : W.Frag) (n : Nat) : Sp := fun vs H Q _ =>
 ∃ (G : Hp) (vp : V) (d : PyData) (m : Int) (s : Addr) (xs : List V) (st : zt) (r : Int × zt),
  vs = [vp, .int m, .ref s] /\ Same G H /\ Dt K G vp d /\ G s = none /\ H s = some (.lst xs) /\ Dts K G xs st /\ numD n m d st = some r /\
  ∀ H' G' xs', zU s s G H G' H' -> H' s = some (.lst xs') -> Dts K G' xs' r.2 -> Q (.int r.1) H'
theorem zU.laidA {s p q : Addr} {G H : Hp} {o : HO} (h : Same G H) (hq : H q = none) (ho : ∀ ps, o ≠ .tbl ps := by intro _ z; cases z) : zU s p G H (upd G q o) (upd H q o) :=
 let g := Grow.laid (o := o) h hq ho
 ⟨fun b u _ _ e => by rw [ah (ao e hq)]; exact e, g.gg, g.gh, g.nb, g.nt⟩
theorem ua {α : Type} (x : α) (xs : List α) : atI (x :: xs) 0 = some x := by
 unfold atI ixN
 simp
noncomputable def tNum (K : W.Frag) (n : Nat) (F : List Nat) : TS :=
 tSeq (tIfS (BC (tOp rEq (tOp (rIxT K) (tVar 0) (tC (.int 0))) (tC (.str "thing")))) (tSeq (tRet (tOp (rIxT K) (tVar 0) (tC (.int 1)))) Bc) Bc)
 (tSeq (tAsg (B6 1 F (iSeq K (tSl (rSlT K) (tVar 0) (BD (tC (.int 1))) Bj)) (Ad 0) tYes (Bi (AZ K n) [] E0 (Ai (tVar 0) (Ai (tVar 1) (Ai (tVar 2) tNil))))) (Ad 3))
 (tSeq (Bh (tBM K "list" B0 (tVar 2) (Ai (tTup (Ai (tOp (rIxT K) (tVar 0) (tC (.int 0))) (Ai (tVar 3) tNil))) tNil)))
 (tSeq (tRet (tOp rAdd (tVar 1) (tCB (BK K) (Ai (tVar 2) tNil)))) Bc)))
theorem t5 {K : W.Frag} {Q : VK} {G H : Hp} {a s D : Addr} {vr xs : List V} {w : Str} {m : Int} {y : List Int × zt} {r : Int × zt} (hg : Same G H) (ha : H a = some (.tup (.str w :: vr))) (hGs : G s = none) (hs : H s = some (.lst xs)) (hx : Dts K G xs y.2) (hD : Dt K G (.ref D) (.list (y.1.map PyData.int)))
  (e : AG w m y = some r) (q : ∀ H' G' xs', zU s s G H G' H' -> H' s = some (.lst xs') -> Dts K G' xs' r.2 -> Q (.int r.1) H') :
  (tSeq (Bh (tBM K "list" B0 (tVar 2) (Ai (tTup (Ai (tOp (rIxT K) (tVar 0) (tC (.int 0))) (Ai (tVar 3) tNil))) tNil)))
   (tSeq (tRet (tOp rAdd (tVar 1) (tCB (BK K) (Ai (tVar 2) tNil)))) Bc)) { nx := fun _ H' => Q .non H', rt := Q } [some (.ref a), some (.int m), some (.ref s), some (.ref D)] H := by
 unfold AG at e
 split at e
 next hl =>
  cases e
  refine ⟨.ref s, rfl, .inl ⟨rfl, xs, .inl (.inl hs)⟩, .ref a, rfl, a, _, 0, .str w, rfl, rfl, .of ha, ua _ _, .ref D, rfl, by show 2 <= sizeLine; decide, fun c hc => ?_⟩
  have g1 : zU s s G H (upd G c (.tup [.str w, .ref D])) (upd H c (.tup [.str w, .ref D])) := .laid hg hc
  have ncs : c ≠ s := (ao hs hc).symm
  have hs1 : upd H c (.tup [.str w, .ref D]) s = some (.lst xs) := by rw [ah ncs.symm]; exact hs
  have dc : Dt K (upd G c (.tup [.str w, .ref D])) (.ref c) (.tuple [.str w, .list (y.1.map PyData.int)]) := .tup aq (.cons (.str _) (.cons (hD.mono g1.gg) .nil))
  have hx1 := hx.mono g1.gg
  have hGs1 : upd G c (.tup [.str w, .ref D]) s = none := by rw [ah ncs.symm]; exact hGs
  generalize upd H c (.tup [.str w, .ref D]) = H1 at g1 hs1 ⊢
  generalize upd G c (.tup [.str w, .ref D]) = G1 at g1 dc hx1 hGs1 ⊢
  refine ⟨s, xs, .ref c, rfl, rfl, hs1, by rw [hx.len]; exact hl, ?_⟩
  have g2 : zU s s G1 H1 G1 (upd H1 s (.lst (xs ++ [.ref c]))) := .write g1.gh (.inl rfl) hGs1
  have g12 := g1.trans g2 (by rw [hs1]; simp) (by rw [hs1]; simp)
  refine ⟨.int m, rfl, .ref s, rfl, s, xs ++ [.ref c], rfl, .inl (.of aq), m, _, rfl, rfl, ?_⟩
  have hle : (((xs ++ [V.ref c]).length : Nat) : Int) = (y.2.length : Int) + 1 := by rw [List.length_append, hx.len]; simp
  rw [hle]
  exact q _ G1 _ g12 aq (hx1.append (.cons dc .nil))
 next => cases e
theorem p6 {K : W.Frag} {E : XK} {Q : VK} {H : Hp} {vs : List V} {N : List Str} {n : Nat} {F : List Nat} (hN : N.length = 4) (hF : F = [1, 2]) (h : AZ K (n + 1) vs H Q E) : tNum K n F { nx := fun _ H' => Q .non H', rt := Q } (start N vs) H := by
 subst hF
 obtain ⟨G, vp, d, m, s, xs, st, r, rfl, hg, hd, hGs, hs, hx, e, q⟩ := h
 have eσ : start N [vp, .int m, .ref s] = [some vp, some (.int m), some (.ref s), none] := by
  unfold start; rw [hN]; rfl
 rw [eσ]
 unfold numD at e
 split at e
 next w ds =>
  obtain ⟨a, ws, rfl, qa, hw⟩ : ∃ a ws, vp = .ref a /\ G a = some (.tup ws) /\ Dts K G ws (.str w :: ds) := by
   cases hd with | tup q1 q2 => exact ⟨_, _, rfl, q1, q2⟩
  obtain ⟨vr, rfl, hv⟩ : ∃ vr, ws = .str w :: vr /\ Dts K G vr ds := by
   cases hw with | cons h1 h2 => cases h1; exact ⟨_, rfl, h2⟩
  have qaH : H a = some (.tup (.str w :: vr)) := hg _ _ qa
  refine ⟨.ref a, rfl, a, _, 0, .str w, rfl, rfl, .of qaH, ua _ _, rfl, _, rfl, ?_⟩
  split at e
  next hw =>
   subst hw
   rw [if_pos (by simp)]
   split at e
   next i =>
    cases e
    obtain ⟨v1, rfl, h1⟩ := dts1 hv
    cases h1
    exact ⟨.ref a, rfl, a, _, 1, .int i, rfl, rfl, .of qaH, rfl, q H G xs (.refl hg) hs hx⟩
   next => cases e
  next hw =>
   rw [if_neg (by simpa using hw)]
   split at e
   next hz =>
    obtain ⟨y0, ey, ef⟩ := Option.bind_eq_some_iff.mp e
    refine ⟨.ref a, rfl, 1, rfl, a, _, rfl, .of qaH, ?_, fun p hp => ?_⟩
    ·rintro ⟨z, _⟩
     rw [show (1 : Int) = ((1 : Nat) : Int) from rfl, HT.nz, List.length_cons] at z
     omega
    have ec : cutV (V.str w :: vr) (some 1) none = vr := by
     unfold cutV
     rw [HT.pW, show (some (1 : Int)) = some ((1 : Nat) : Int) from rfl, HT.nz, List.length_cons, Nat.min_eq_left (by omega)]
     exact List.take_of_length_le (by simp)
    rw [ec]
    have g1 : zU s s G H (upd G p (.tup vr)) (upd H p (.tup vr)) := .laid hg hp
    have nps : p ≠ s := (ao hs hp).symm
    have npa : p ≠ a := (ao qaH hp).symm
    have hs0 : H s ≠ none := by rw [hs]; simp
    have hs1 : upd H p (.tup vr) s = some (.lst xs) := by rw [ah nps.symm]; exact hs
    have hp1 : upd H p (.tup vr) p = some (.tup vr) := aq
    have hv1 : Dts K (upd G p (.tup vr)) vr ds := hv.mono g1.gg
    have hx1 := hx.mono g1.gg
    generalize upd H p (.tup vr) = H1 at g1 hs1 hp1 ⊢
    generalize upd G p (.tup vr) = G1 at g1 hv1 hx1
    refine ⟨p, rfl, .inr ⟨⟨vr, .of hp1⟩, ?_⟩⟩
    refine ⟨fun i k ys H2 => ∃ G2 xs2 st2 is y, ys = is.map V.int /\ is.length = i /\ i + k = ds.length /\ zU s s G H G2 H2 /\ H2 s = some (.lst xs2) /\ Dts K G2 xs2 st2 /\ H2 p = some (.tup vr) /\ Same G1 G2 /\ numL (numD n m) (ds.drop i) st2 = some y /\ AG w m (is ++ y.1, y.2) = some r, ⟨ds.length, G1, xs, st, [], y0, rfl, rfl, by omega, g1, hs1, hx1, hp1, .refl _, ey, ef⟩, ?_⟩
    rintro i k ys H2 ⟨G2, xs2, st2, is, y, rfl, hi, hk, g2, hs2, hx2, hp2, hG12, hn, hf⟩
    have hlv := hv.len
    cases k with
    | zero =>
     left
     refine ⟨⟨vr, .of hp2, by omega⟩, fun D hD => ?_⟩
     rw [List.drop_eq_nil_of_le (by omega)] at hn
     cases hn
     rw [List.append_nil] at hf
     have g3 : zU s s G2 H2 (upd G2 D (.lst (is.map V.int))) (upd H2 D (.lst (is.map V.int))) := .laidA g2.gh hD
     have g13 := g2.trans g3 (by rw [hs2]; simp) (by rw [hs2]; simp)
     have nDs : D ≠ s := (ao hs2 hD).symm
     have qa2 : H2 a = some (.tup (.str w :: vr)) := g2.at_ _ _ (tK qaH hs (fun z => nomatch z)) (tK qaH hs (fun z => nomatch z)) qaH
     exact t5 (y := (is, st2)) (D := D) g13.gh (by rw [ah (ao qa2 hD)]; exact qa2) ((g13.nb s hs0).trans hGs) (by rw [ah nDs.symm]; exact hs2) (hx2.mono g3.gg) (.lst (SqR.of aq) (.ints is)) hf
      fun H' G' xs' g4 a1 a2 => q H' G' xs' (g13.trans g4 (by rw [ah nDs.symm, hs2]; simp) (by rw [ah nDs.symm, hs2]; simp)) a1 a2
    | succ k =>
     right
     have hid : i < ds.length := by omega
     have hiv : i < vr.length := by omega
     refine ⟨⟨vr, vr[i], .of hp2, List.getElem?_eq_getElem hiv⟩, ?_⟩
     rintro x H3 ⟨rfl, hx3⟩
     have hxv := hx3 vr (.of hp2)
     obtain ⟨dd, hdd, hxd⟩ := hv1.get hxv
     have edd : dd = ds[i] := by rw [List.getElem?_eq_getElem hid] at hdd; exact (Option.some.inj hdd).symm
     rw [List.drop_eq_getElem_cons hid, <- edd] at hn
     obtain ⟨r1, e1, hn⟩ := Option.bind_eq_some_iff.mp hn
     obtain ⟨y1, e2, rfl⟩ := Option.map_eq_some_iff.mp hn
     refine ⟨x, rfl, .int m, rfl, .ref s, rfl, G2, x, dd, m, s, xs2, st2, r1, rfl, g2.gh, hxd.mono hG12, (g2.nb s hs0).trans hGs, hs2, hx2, e1, fun H' G' xs' g a1 a2 => ?_⟩
     refine ⟨by rw [List.length_map]; omega, k, Nat.lt_succ_self _, G', xs', r1.2, is ++ [r1.1], y1, by simp, by simp [hi], by omega, g2.trans g (by rw [hs2]; simp) (by rw [hs2]; simp), a1, a2, ?_, hG12.trans g.gg, e2, by rw [List.append_assoc]; exact hf⟩
     exact g.at_ _ _ nps nps hp2
   next => cases e
 next => cases e
theorem nY {K : W.Frag} {vs : List V} {H : Hp} {Q : VK} {E : XK} (h : AZ K 0 vs H Q E) : False := by
 obtain ⟨_, _, _, _, _, _, _, _, _, _, _, _, _, _, e, _⟩ := h
 cases e
theorem qW {P : Program} {w : World} {K : W.Frag} {mg : zu} {base : Heap} {k : Nat} {f : Addr} {fd : FuncData} (ps : List Str) : FnOk P w K mg base (CXe P w) k f fd ps (AZ K 0) :=
 ⟨fun vs H Q E h => (nY h).elim, fun A outer s H args us vs Q E _ _ _ _ h => (nY h).elim⟩
theorem p7 {K : W.Frag} {n : Nat} (vs : List V) (H : Hp) (Q : VK) (E : XK) (h : AZ K n vs H Q E) : vs.length = 3 := by
 obtain ⟨_, _, _, _, _, _, _, _, rfl, _⟩ := h
 rfl
abbrev B5 (P : Program) (w : World) (K : W.Frag) (mg : zu) (base : Heap) (x : Str) (k n : Nat) : Prop := ∃ (f : Addr) (fd : FuncData) (ps : List Str), Def P w K mg base (CXe P w) x k f fd ps (AZ K n)
theorem jJ {P : Program} {w : World} {K : W.Frag} {mg : zu} {base : Heap} {x : Str} {st : Stmt} {f : Addr} {fd : FuncData} {ps : List Str} {k n : Nat} (A : A0 K mg x st f fd) (ok : FnOk P w K mg base (CXe P w) k f fd ps (AZ K n))
  (b : ∀ (kV doc pm : Value) (an : Option Addr) (cdv ct : Value) (us : List Value), us.length = ps.length -> bindArgs (W.fnOf x x (A8 st) (A3 st) (zB st) .none kV doc pm an cdv ct) ⟨us, []⟩ = pure (ps.zip us)) : B5 P w K mg base x k n :=
 ⟨f, fd, ps, ok, A.at_, A.fn.kp, A.fn.binds b⟩
noncomputable def eNum (n a b i : Nat) : DE := fun δ => match δ[a]?, δ[b]?, isOl δ i with
 | some (some (.sh d)), some (some (.sh (.int m))), some st => (match numD n m d st with
  | some r => .ok (.sh (.int r.1), δ.set i (some (.ol r.2)))
  | none => .bad)
 | _, _, _ => .bad
theorem zU.rel {K : W.Frag} {mg : zu} {G0 H0 G H G' H' : Hp} {σ : St} {δ : DEnv} {i : Nat} {s : Addr} {xs xs' : List V} {st st' : zt} (R : Rel K mg G0 H0 G H σ δ) (g : zU s s G H G' H') (e : δ[i]? = some (some (.ol st))) (hs : σ[i]? = some (some (.ref s))) (hH : H s = some (.lst xs)) (hG : G s = none) (hH' : H' s = some (.lst xs')) (hx : Dts K G' xs' st') : Rel K mg G0 H0 G' H' σ (δ.set i (some (.ol st'))) := by
 have hG' : G' s = none := (g.nb s (by rw [hH]; simp)).trans hG
 have gr : Grow G H G' (upd H' s (.lst xs)) := by
  refine ⟨.of_same fun b o eb => ?_, g.gg, fun b o eb => ?_, g.nb, g.nt⟩
  ·by_cases z : b = s
   ·subst z
    rw [aq]
    rw [hH] at eb
    exact eb
   ·rw [ah z]
    exact g.at_ b o z z eb
  ·by_cases z : b = s
   ·subst z
    rw [hG'] at eb
    cases eb
   ·rw [ah z]
    exact g.gh b o eb
 have R1 := R.grow gr
 have hu : upd H' s (.lst xs) s = some (.lst xs) := aq
 have ee : upd (upd H' s (.lst xs)) s (.lst xs') = H' := by
  funext b
  by_cases z : b = s
  ·subst z
   rw [aq, hH']
  ·rw [ah z, ah z]
 have := R1.write (o := .lst xs') (r' := .ol st') e trivial hs ⟨s, xs', rfl, hG', aq, hx⟩ (by rw [hu]; trivial) (fun C z => by rw [hu] at z; cases z)
 rwa [ee] at this
section
variable {X : Cx} {E : XK}
theorem vy {x xa xb xi : Str} {p pa pb pi pos : Pos} {k j n : Nat} (a b i : Nat) (D : B5 X.prog X.w X.K X.mg X.base x k n) (hr : Room j X.A) (hx : Passes (CXe X.prog X.w) X E)
  (ha : PE X (.Name xa pa) (tVar a)) (hb : PE X (.Name xb pb) (tVar b)) (hi : PE X (.Name xi pi) (tVar i)) (hk : k <= j := by decide) (hg : Gl X x := by rfl) (hdb : (x == ("__debug__" : Str)) = false := by decide)
  (he : starEach [.Name xa pa, .Name xb pb, .Name xi pi] X.env = (false, eval (.Name xa pa) X.env) :: starEach [.Name xb pb, .Name xi pi] X.env := by rfl) (hpl : (backTo pos (starEach [.Name xb pb, .Name xi pi] X.env)).any (·.1) = false := by rfl) :
  SE X E (.Call (.Name x p) [.Name xa pa, .Name xb pb, .Name xi pi] [] pos) (eNum n a b i) := by
 obtain ⟨f, fd, ps, D⟩ := D
 refine (i8 D hr hx (b8 ha (b8 hb (b8 hi cQ))) hg hk hdb he hpl).weak fun σ H Q ⟨G0, H0, G, δ, R, m⟩ => ?_
 unfold eNum at m
 split at m
 next d mm st e1 e2 e3 =>
  split at m
  next r er =>
   obtain ⟨v1, s1, h1, _⟩ := R.at_ e1
   obtain ⟨v2, s2, h2, _⟩ := R.at_ e2
   obtain ⟨v3, s3, ⟨s, xs, rfl, q1, q2, q3⟩, _⟩ := R.at_ (cU e3)
   cases h2
   refine ⟨v1, s1, .int mm, s2, .ref s, s3, G, v1, d, mm, s, xs, st, r, rfl, R.g.gh, h1, q1, q2, q3, er, fun H' G' xs' g a1 a2 => ?_⟩
   exact m (.int r.1) H' G' (g.rel R (cU e3) s3 q2 q1 a1 a2) g.gg (RR.sh (.int _))
  next => exact m.elim
 next => exact m.elim
end
end L2
namespace L2
open PySem PySem.Spec PyProof.Rows
open Sem (wp)
open AutoSeq1 (wpAny_loadPart')
theorem p8 (l : Addr) (its : Array Value) (n : Nat) (dct : Option Addr) (sl : Array (Option Value)) (j : Int) (t : Tok) (hj : Builtin.SmallTypes.fitsIndex j = true) :
  Meets (Builtin.«enumerate.__new__» ⟨[.type "enumerate", .ref l], [("start", .int j t)]⟩) (fun _ R s => s.heap.get? l = some { cls := .type "list", dict := dct, data := .seq its n, slots := sl } /\
   R (.ok (.ret (.ref (s.heap.push ⟨.type "list_iterator", none, .fields #[.ref l, .int 0 0], #[]⟩).objs.size)))
    { s with heap := (s.heap.push ⟨.type "list_iterator", none, .fields #[.ref l, .int 0 0], #[]⟩).push ⟨.type "enumerate", none, .fields #[.none, .bool false, .ref s.heap.objs.size, rawInt j, .none, .none], #[]⟩ }) :=
 Meets.of_wp fun P w A R s hh => by
  obtain ⟨h0, g, d, tk, os⟩ := s
  obtain ⟨hl, hR⟩ := hh
  have isub := sub_enumerate
  have isL : Heap.IsList (Shared.heap ⟨h0, g, d, tk, os⟩) l its := ⟨_, hl, rfl, n, rfl⟩
  wp_walk using wpAny_loadPart' hl
  refine wpAny_stack_any fun st => wpAny_pure ?_
  split
  ·rename_i c _ _ _ _ _
   cases (c == Value.type "enumerate")
   all_goals
    wp_walk using wpAny_loadPart' hl, wpAny_pyIter_list isL
    exact ⟨_, rfl, hR⟩
  ·wp_walk using wpAny_loadPart' hl, wpAny_pyIter_list isL
   exact ⟨_, rfl, hR⟩
section
variable {prog : Program} {w : World} {A : Around} {E : zx} {s : Shared}
theorem lR {o a : Value} {kw : List (Str × Value)} :
  Meets (Builtin.«object.__init__» ⟨[o, a], kw⟩) (fun _ R s => s.TypeIs o "enumerate" /\ R (.ok (.ret .none)) s) := by
 have k1 := F.called_enumerate.init.lookup
 have k2 := F.called_enumerate.made
 refine Meets.of_wp fun P w A R s ⟨hT, q⟩ => ?_
 repeat (any_goals (first | assumption | wp_step))
 exact ⟨_, rfl, q⟩
theorem n4 {args : List Value} {kw : List (Str × Value)} {S : PySem.Spec} {Q : zx} (c1 : checkTypeCall "enumerate" ⟨args, kw⟩ = pure ()) (c2 : checkBuiltinCall "enumerate.__new__" ⟨.type "enumerate" :: args, kw⟩ = pure ())
  (m1 : Meets (Builtin.«enumerate.__new__» ⟨.type "enumerate" :: args, kw⟩) S) (m2 : ∀ o, Meets (Builtin.«object.__init__» ⟨o :: args, kw⟩) (fun _ R s => s.TypeIs o "enumerate" /\ R (.ok (.ret .none)) s)) (ok : ∀ o, argsOk "object.__init__" ⟨o :: args, kw⟩)
  (h : S A.in1 (wants (fun o s1 => s1.TypeIs o "enumerate" /\ Q o s1) E) s) : wpAny (model prog w) A (call (.type "enumerate") args kw) Q E s := by
 have ft := F.called_enumerate
 obtain ⟨c, tl, i1⟩ := ft.mro
 have i2 := ft.made
 have i3 := ft.sub
 have i4 := ft.notType
 have i5 := ft.canCreate
 refine wpAny_call (codeAny_of_tree (?_ : wpAny _ _ (callAny (.type "enumerate") _) _ _ _))
 refine wpAny_pure ⟨Code.quiet_builtin _ (by decide +kernel), codeAny_builtin F.entry_type_call ?_⟩
 rw [Around.under_plain (weight_type_call_type "enumerate" args kw) (units_type_call_type "enumerate" args kw)]
 repeat (any_goals (first | assumption | wp_step))
 refine codeAny_mono (codeAny_call_builtin ft.plain F.entry_enumerate_new (wpAny_of_eq c2 (m1 prog w A.in1 _ s h))) fun r s1 hr => ?_
 match r, hr with
 | .error e, hr => exact hr
 | .ok (.ret o), hr =>
  obtain ⟨hT, hQ⟩ := hr
  have j1 := ft.init.lookup
  have j2 := ft.init.bind o
  repeat (any_goals (first | assumption | wp_step))
  refine codeAny_mono (codeAny_call_builtin ft.init.plain F.entry_object_init (ft.init.check _ _ _ _ _ _ _ _ hT (ok o) (m2 o prog w A.in1 (wants (fun r s2 => r = .none /\ Q o s2) E) s1 ⟨hT, rfl, hQ⟩))) fun r2 s2 hr2 => ?_
  match r2, hr2 with
  | .error e, hr2 => exact hr2
  | .ok (.ret v), hr2 =>
   obtain ⟨rfl, q⟩ := hr2
   repeat (any_goals (first | assumption | wp_step))
theorem n5 {l : Addr} {its : Array Value} {Q : zx} {j : Int} {t : Tok} (hj : Builtin.SmallTypes.fitsIndex j = true) (hL : s.heap.IsList l its)
  (h : ∀ h', IsEnum h' (s.heap.objs.size + 1) s.heap.objs.size j .none -> h'.IsListIter s.heap.objs.size l 0 -> (∀ b o, s.heap.get? b = some o -> h'.get? b = some o) -> Q (.ref (s.heap.objs.size + 1)) { s with heap := h' }) :
  wpAny (model prog w) A (call (.type "enumerate") [.ref l] [("start", .int j t)]) Q E s := by
 obtain ⟨⟨c, dct, dt, sl⟩, hl, hc, n, hd⟩ := hL
 obtain rfl : c = .type "list" := hc
 obtain rfl : dt = .seq its n := hd
 refine n4 (by kernel_rfl) (by kernel_rfl) (p8 l its n dct sl j t hj) (fun o => lR) (fun o => ?_) ⟨hl, ?_⟩
 ·unfold argsOk; rw [signature?_of (id := "object.__init__") (n := "__tini__".toList) (o := "tcejbo".toList) (by kernel_rfl) F.owner_object]; kernel_rfl
 ·have sz : (s.heap.push ⟨.type "list_iterator", none, .fields #[.ref l, .int 0 0], #[]⟩).objs.size = s.heap.objs.size + 1 := Heap.size_push ..
  show _ /\ _
  rw [sz]
  have ie : IsEnum ((s.heap.push ⟨.type "list_iterator", none, .fields #[.ref l, .int 0 0], #[]⟩).push ⟨.type "enumerate", none, .fields #[.none, .bool false, .ref s.heap.objs.size, rawInt j, .none, .none], #[]⟩) (s.heap.objs.size + 1) s.heap.objs.size j .none := by
   rw [<- sz]
   exact Heap.get?_push_size _ rfl
  exact ⟨⟨_, ie, rfl⟩, h _ ie ⟨_, Heap.get?_push_of_some _ (Heap.get?_push_size _ rfl), rfl, rfl⟩ fun b o q => Heap.get?_push_of_some _ (Heap.get?_push_of_some _ q)⟩
end
end L2
namespace L2
open PySem PySem.Spec PyProof.Rows
section
variable {prog : Program} {w : World} {A : Around} {E : zx} {s : Shared}
theorem n6 {e it l : Addr} {i : Nat} {k : Int} {its : Array Value} {x old : Value} {Q : Option Value -> Shared -> Prop} (en : IsEnum s.heap e it k old) (li : s.heap.IsListIter it l i) (ls : s.heap.IsList l its) (ix : its[i]? = some x) (ne : e ≠ it)
  (q : ∀ h', IsEnumOut h' e it (k + 1) x s.heap.objs.size -> h'.IsListIter it l (i + 1) -> h'.get? s.heap.objs.size = some { cls := .type "tuple", data := .seq #[.int k s.toks, x] } -> (∀ b o, b ≠ e -> b ≠ it -> s.heap.get? b = some o -> h'.get? b = some o) ->
   Q (some (.ref s.heap.objs.size)) { s with heap := h', toks := s.toks + 1 }) : wpAny (model prog w) A (pyNext (.ref e)) Q E s := by
 have ty : s.TypeIs (.ref e) "enumerate" := ⟨_, en, rfl⟩
 unfold pyNext
 refine wpAny_bind (wpAny_attempt (wpAny_callSpecial?_slot (name := Str.ofString "__next__") ty F.slot_enumerate_next (wpAny_call_entry F.slot_enumerate_next ty F.entry_enumerate_next ?_ (F.args_enumerate_next_1 _))))
 obtain ⟨h0, g, d, tk, os⟩ := s
 show wpAny _ _ (field (.ref e) 2 >>= _) _ _ _
 refine wpAny_bind (wpAny_field en rfl (x := .ref it) rfl (wpAny_bind (wpAny_nextOf_list_item li ls ix fun h1 li1 b1 => ?_)))
 replace b1 : Heap.SameBut it h0 h1 := b1
 have en1 : IsEnum h1 e it k old := (b1.2 e ne).trans en
 show wpAny _ _ (field (.ref e) 3 >>= _) _ _ ⟨h1, g, d, tk, os⟩
 refine wpAny_bind (wpAny_field en1 rfl (x := rawInt k) rfl (?_ : wpAny _ _ (field (.ref e) 4 >>= _) _ _ ⟨h1, g, d, tk, os⟩))
 refine wpAny_bind (wpAny_field en1 rfl (x := .none) rfl (?_ : wpAny _ _ (mkInt k >>= _) _ _ ⟨h1, g, d, tk, os⟩))
 refine wpAny_bind (wpAny_mkInt (?_ : wpAny _ _ (setField (.ref e) 3 (rawInt (k + 1)) >>= _) _ _ ⟨h1, g, d, tk + 1, os⟩))
 refine wpAny_bind (wpAny_setField_rec en1 (by simp) fun h2 en2 b2 => ?_)
 replace b2 : Heap.SameBut e h1 h2 := b2
 replace en2 : IsEnum h2 e it (k + 1) old := en2
 show wpAny _ _ (setField (.ref e) 4 .none >>= _) _ _ ⟨h2, g, d, tk + 1, os⟩
 refine wpAny_bind (wpAny_setField_rec en2 (by simp) fun h3 en3 b3 => ?_)
 replace b3 : Heap.SameBut e h2 h3 := b3
 replace en3 : IsEnum h3 e it (k + 1) old := en3
 refine wpAny_bind (m := newTuple [.int k tk, x]) (s := ⟨h3, g, d, tk + 1, os⟩) (wpAny_newTuple ?_)
 have en4 : IsEnum (h3.push { cls := .type "tuple", data := .seq #[.int k tk, x] }) e it (k + 1) old := Heap.get?_push_of_some _ en3
 generalize e4 : h3.push { cls := .type "tuple", data := .seq #[.int k tk, x] } = h4 at en4
 have sz : h3.objs.size = h0.objs.size := by rw [b3.1, b2.1, b1.1]
 have lt : e < h0.objs.size := Heap.lt_size en
 have tp : h4.get? h0.objs.size = some { cls := .type "tuple", data := .seq #[.int k tk, x] } := by rw [<- e4, <- sz]; exact Heap.get?_push_size _ rfl
 have kp : ∀ b o, b ≠ e -> b ≠ it -> h0.get? b = some o -> h4.get? b = some o := fun b o n1 n2 u => e4 ▸ Heap.get?_push_of_some _ (b3.extBut b o n1 (b2.extBut b o n1 (b1.extBut b o n2 u)))
 have li4 : h4.IsListIter it l (i + 1) := by
  obtain ⟨o, ho, r⟩ := (li1.extBut b2.extBut ne.symm).extBut b3.extBut ne.symm
  exact ⟨o, e4 ▸ Heap.get?_push_of_some _ ho, r⟩
 show wpAny _ _ (Builtin.SmallTypes.ownedTupleIsFree (.ref e) >>= _) _ _ ⟨h4, g, d, tk + 1, os⟩
 rw [sz]
 clear e4 en3 b3 en2 b2 en1 b1 li1 sz h3 h2 h1
 unfold Builtin.SmallTypes.ownedTupleIsFree
 refine wpAny_bind (wpAny_bind (wpAny_field en4 rfl (x := .none) rfl (wpAny_pure ?_)))
 simp only [if_true]
 refine wpAny_bind (wpAny_rule (wpAny_bind (wpAny_field en4 rfl (x := old) rfl (wpAny_bind (wpAny_setField_rec en4 (by simp) fun h5 en5 b5 => ?_)))))
 replace b5 : Heap.SameBut e h4 h5 := b5
 replace en5 : IsEnum h5 e it (k + 1) x := en5
 show wpAny _ _ (Builtin.SmallTypes.ownedTupleHandOut (.ref e) (.ref h0.objs.size) >>= _) _ _ ⟨h5, g, d, tk + 1, os⟩
 unfold Builtin.SmallTypes.ownedTupleHandOut
 refine wpAny_bind (wpAny_bind (wpAny_setField_rec en5 (by simp) fun h6 en6 b6 => ?_))
 replace b6 : Heap.SameBut e h5 h6 := b6
 replace en6 : IsEnumOut h6 e it (k + 1) x h0.objs.size := en6
 refine wpAny_setField_rec en6 (by simp) fun h7 en7 b7 => wpAny_bind (wpAny_letGo (wpAny_pure ⟨_, rfl, ?_⟩))
 replace b7 : Heap.SameBut e h6 h7 := b7
 refine wpAny_pure (q h7 en7 ?_ ?_ ?_)
 ·exact ((li4.extBut b5.extBut ne.symm).extBut b6.extBut ne.symm).extBut b7.extBut ne.symm
 ·have n := Nat.ne_of_gt lt
  exact b7.extBut _ _ n (b6.extBut _ _ n (b5.extBut _ _ n tp))
 ·exact fun b o n1 n2 u => b7.extBut b o n1 (b6.extBut b o n1 (b5.extBut b o n1 (kp b o n1 n2 u)))
theorem p9 {e it l : Addr} {i : Nat} {k : Int} {its : Array Value} {old : Value} {Q : Option Value -> Shared -> Prop} (hh : A.handled = none) (en : IsEnum s.heap e it k old) (li : s.heap.IsListIter it l i) (ls : s.heap.IsList l its) (ix : its[i]? = none)
  (q : ∀ h', Heap.ExtBut it s.heap h' -> Q none { s with heap := h' }) : wpAny (model prog w) A (pyNext (.ref e)) Q E s := by
 have ty : s.TypeIs (.ref e) "enumerate" := ⟨_, en, rfl⟩
 unfold pyNext
 refine wpAny_bind (wpAny_attempt (wpAny_callSpecial?_slot (name := Str.ofString "__next__") ty F.slot_enumerate_next (wpAny_call_entry F.slot_enumerate_next ty F.entry_enumerate_next ?_ (F.args_enumerate_next_1 _))))
 show wpAny _ _ (field (.ref e) 2 >>= _) _ _ _
 refine wpAny_bind (wpAny_field en rfl (x := .ref it) rfl (wpAny_bind (wpAny_nextOf_list_end hh li ls ix fun h' x k1 ⟨o, ho, hc⟩ => ?_)))
 exact wpAny_bind (wpAny_isInstance (T := "StopIteration") (b := true) ⟨o, ho, hc⟩ isSubtype_stop (wpAny_pure (q _ k1)))
end
noncomputable def IteS (K : W.Frag) (a : Addr) (j : Nat) : It :=
 ⟨fun i H => ∃ xs x, SqL K H a xs /\ xs[i]? = some x, fun i H x H' => ∃ p y, x = .ref p /\ H p = none /\ H' = upd H p (.tup [.int ((j + i : Nat) : Int), y]) /\ ∀ xs, SqL K H a xs -> xs[i]? = some y, fun i H => ∃ xs, SqL K H a xs /\ xs.length <= i⟩
theorem n8 {P : Program} {w : World} {K : W.Frag} {ts : List Expr} {tk : Nat} {tp : Pos} (a e it : Addr) (j : Nat) (hne : e ≠ it) : Turn P w K (.Tuple ts tk tp) (IteS K a j) [e, it] e (fun i h => (∃ old, IsEnum h e it ((j + i : Nat) : Int) old) /\ h.IsListIter it a i) where
 mem := by simp
 obj := fun i h st b hb => by
  obtain ⟨⟨old, he⟩, o, ho, _, hd⟩ := st
  rcases List.mem_cons.mp hb with z | z
  ·subst z; exact ⟨_, he, fun v z => by cases z⟩
  ·have : b = it := by simpa using z
   subst this
   exact ⟨o, ho, fun v z => by rw [hd] at z; cases z⟩
 keep := fun i h h' st k => ⟨let ⟨old, he⟩ := st.1; ⟨old, k e (by simp) _ he⟩, st.2.at fun o q => k it (by simp) o q⟩
 item := by
  intro X hP hw hK hc i pins s σ H E I hf st hg
  subst hP hw hK
  obtain ⟨⟨old, he⟩, hit⟩ := st
  obtain ⟨xs, x, hq, hx⟩ := hg
  obtain ⟨its, rv, p, hz⟩ := I.list hq
  obtain ⟨u, hu, ru⟩ := rv.get hx
  refine n6 he hit p.isList (x := u) (by simpa using hu) hne fun h' out hit' tup kp => ⟨_, rfl, ?_⟩
  refine wpAny_letOwnedTupleGo_enum out fun h2 he2 sb => ?_
  have fe := hf e (by simp)
  have fi := hf it (by simp)
  have ltE : e < s.heap.objs.size := Heap.lt_size he
  have ltI : it < s.heap.objs.size := let ⟨o, ho, _⟩ := hit; Heap.lt_size ho
  have k2 : ∀ b o, b ≠ e -> b ≠ it -> s.heap.get? b = some o -> h2.get? b = some o := fun b o h1 h2' q => (sb.2 b h1).trans (kp b o h1 h2' q)
  have tup2 : h2.get? s.heap.objs.size = some { cls := .type "tuple", data := .seq #[.int ((j + i : Nat) : Int) s.toks, u] } := (sb.2 _ (Nat.ne_of_gt ltE)).trans tup
  have fr : H s.heap.objs.size = none := I.hok.fresh (Nat.le_refl _)
  have hok2 : HOk X.prog X.w H h2 := I.hok.stays fun b o v q q' => k2 b o (fun z => by subst z; rw [fe.1] at q; cases q) (fun z => by subst z; rw [fi.1] at q; cases q) q'
  have u1 : Un (frs X.stack) [e, it] H H s.heap h2 := ⟨fun b o q _ _ hx => k2 b o (fun z => hx (by rw [z]; simp)) (fun z => hx (by rw [z]; simp)) q, fun b o q _ _ hx => ⟨o.slots, k2 b o (fun z => hx (by rw [z]; simp)) (fun z => hx (by rw [z]; simp)) q⟩, fun _ _ _ n _ => n,
   fun b o q hx => ⟨o, k2 b o (fun z => hx (by rw [z]; simp)) (fun z => hx (by rw [z]; simp)) q⟩, fun _ _ q => q, fun _ _ _ q => q, fun _ ps q => ⟨#[], by rw [q]; simp⟩⟩
  have I2 : Inv X pins σ H { s with heap := h2, toks := s.toks + 1 } := I.call' (s' := { s with heap := h2, toks := s.toks + 1 }) (ch := [e, it]) rfl u1 hok2 I.bare fun b hb => by
   have fb := hf b hb
   exact ⟨fb.2.2.2.1, fb.2.1, fb.2.2.2.2.1, fb.2.2.2.2.2⟩
  have I3 : Inv X pins σ (upd H s.heap.objs.size (.tup [.int ((j + i : Nat) : Int), x])) { s with heap := h2, toks := s.toks + 1 } := I2.track I (Heap.get?_none_of_le (Nat.le_refl _)) fr ⟨by show 2 <= sizeLine; decide, [.int ((j + i : Nat) : Int) s.toks, u], .cons ⟨_, rfl⟩ (.cons ru .nil), ⟨_, tup2, rfl, _, rfl⟩⟩
  refine ⟨.ref s.heap.objs.size, _, I3, rfl, ⟨_, x, rfl, fr, rfl, fun ys hy => by rw [I.list_inj hy hq]; exact hx⟩, ⟨⟨_, he2⟩, ?_⟩, fun b hb => ?_⟩
  ·exact hit'.at fun o q => (sb.2 it (Ne.symm hne)).trans q
  ·have : b < s.heap.objs.size := by
    rcases List.mem_cons.mp hb with z | z
    ·subst z; exact ltE
    ·have : b = it := by simpa using z
     subst this; exact ltI
   rw [ah (Nat.ne_of_lt this)]
   exact (hf b hb).1
 done := by
  intro X hP hw hK hc i pins s σ H E I hf st hg
  subst hP hw hK
  obtain ⟨⟨old, he⟩, hit⟩ := st
  obtain ⟨xs, hq, hx⟩ := hg
  obtain ⟨its, rv, p, hz⟩ := I.list hq
  obtain ⟨f0, f1, f2, f3, f4, f5⟩ := hf it (by simp)
  have hl := rv.length
  exact p9 (I.ok.hd hc) he hit p.isList (by simp; lia) fun h' eb => ⟨rfl, I.turned (t' := s.toks) (fun b o hb e => eb b o hb e) f0 f1 f3 f4 f5⟩
 self := fun _ _ _ _ _ st h => let ⟨⟨_, he⟩, _⟩ := st; wpAny_pyIter_enum he h
section
variable {X : Cx} {ts : List Expr} {tk : Nat} {tp : Pos}
theorem BW {M : Model} {A : Around} {E : zx} {s : Shared} {pos : Pos} {T : String} {args : List (Bool × Sem Value)} {kws : List (Option Str × Sem Value)} {Q : zx} (h1 : args.any (·.1) = false) (h2 : kws.any (·.1.isNone) = false)
  (h : wpAny M A (evalArgs (.type T) true args kws) (fun a s1 => wpAny M A (call (.type T) a.pos a.kw) Q E s1) E s) : wpAny M A (callWith pos (.type T) [] args kws) Q E s := by
 unfold callWith
 refine wpAny_bind (wpAny_holding (wpAny_mono h (fun a s1 q => wpAny_bind (wpAny_standAt ?_)) fun _ _ z => z))
 simp only [h1, h2, Bool.or_false]
 exact wpAny_bind (wpAny_pure (wpAny_bind (wpAny_mono q (fun r s2 hr => wpAny_bind (wpAny_holding (wpAny_point (wpAny_pure hr)))) fun _ _ z => z)))
noncomputable def BN (K : W.Frag) (ta : TA) (tb : TE) : TI := fun σ H R => ta σ H fun vs H1 => tb σ H1 fun y H2 => ∃ a j, vs = [.ref a] /\ y = .int ((j : Nat) : Int) /\ j < 1000000 /\ (∃ xs, SqL K H2 a xs) /\ R (IteS K a j) H2
theorem qX {l b : Expr} {ta : TA} {tb : TE} {p pos kp : Pos} (hm : X.mg "enumerate" = none) (ha : PA X [l] ta) (hb : PE X b tb) (hg : Gl X "enumerate" := by rfl) (hs : starEach [l] X.env = [(false, eval l X.env)] := by rfl)
  (hkws : backToKw pos (keywordEach [⟨some "start", b, kp⟩] X.env) = [((some (Str.ofString "start") : Option Str), do let v <- eval b X.env; standAt pos; pure v)] := by rfl) : PI X (.Tuple ts tk tp) (.Call (.Name "enumerate" p) [l] [⟨some "start", b, kp⟩] pos) (BN X.K ta tb) := by
 intro pins s σ H R I h
 refine wpAny_Call_Name_kw (eO I hg hm boot_enumerate ?_ (by decide) (by decide))
 rw [hkws]
 have ha' := ha pos pins s σ H _ I h
 rw [hs] at ha' ⊢
 refine BW rfl rfl (evalArgs_kwB rfl (thn ha' fun us s1 ⟨vs, H1, I1, r1, q1⟩ => ?_))
 refine wpAny_evalAll_cons (wpAny_bind (thn (hb pins s1 σ H1 _ I1 q1) fun v s2 ⟨y, H2, I2, r2, q2⟩ => wpAny_bind (wpAny_standAt (wpAny_pure (wpAny_evalAll_nil ?_)))))
 obtain ⟨a, j, rfl, rfl, hj, ⟨xs, hq⟩, q⟩ := q2
 obtain ⟨u, rfl, ru⟩ := vals1 r1
 cases ru
 obtain ⟨t, rfl⟩ := (show ∃ t, v = Value.int ((j : Nat) : Int) t from r2)
 obtain ⟨its, rv, pl, hz⟩ := I2.list hq
 show wpAny _ X.A (call (.type "enumerate") [.ref a] [(Str.ofString "start", .int ((j : Nat) : Int) t)]) _ _ s2
 refine n5 (by unfold Builtin.SmallTypes.fitsIndex; simp only [Bool.and_eq_true, decide_eq_true_eq]; lia) pl.isList fun h' he hit kp => wpAny_pyIter_enum he ?_
 have I3 : Inv X pins σ H2 { s2 with heap := h' } := I2.kept (t' := s2.toks) kp
 refine ⟨s2.heap.objs.size + 1, [s2.heap.objs.size + 1, s2.heap.objs.size], _, _, H2, rfl, I3, n8 a _ _ j (Nat.succ_ne_self _), ⟨⟨_, he⟩, hit⟩, fun b hb => ?_, q⟩
 have hb' : s2.heap.objs.size <= b := by
  rcases List.mem_cons.mp hb with z | z
  ·rw [z]; exact Nat.le_succ _
  ·have : b = s2.heap.objs.size := by simpa using z
   rw [this]; exact Nat.le_refl _
 exact I2.fpOk hb' (I2.hok.fresh hb')
end
variable [Tabs]
noncomputable def B1 (f g : DE) : DA := fun δ => (vE f δ).bind fun p => match p.1 with
 | .list xs => (vE g p.2).bind fun q => (match q.1 with
  | .int j => if 0 <= j /\ j < 1000000 then .ok (Ae j.toNat xs, q.2) else .bad
  | _ => .bad)
 | _ => .bad
theorem lS {K : W.Frag} {G : Hp} {a : Addr} {xs : List V} {ds : zt} {j : Nat} (q : SqR K G a xs) (r : Dts K G xs ds) : AM K (IteS K a j) G (Ae j ds) := fun i G1 H1 s1 s2 => by
 have q' : SqL K H1 a xs := ((s1.trans s2).sqr q).sq
 refine ⟨fun d e => ?_, fun h => ⟨xs, q', by rw [r.len]; rw [jx] at h; exact h⟩⟩
 rw [jw] at e
 obtain ⟨d0, e0, rfl⟩ := Option.map_eq_some_iff.mp e
 obtain ⟨v, e1, e2⟩ := r.get' e0
 refine ⟨⟨xs, v, q', e1⟩, fun x H2 ⟨p, y, ex, hp, eH, hy⟩ => ?_⟩
 subst ex eH
 have := hy xs q'
 rw [e1] at this
 cases this
 exact ⟨_, .laid s2 hp, .tup aq (.cons (.int _) (.cons (e2.mono (s1.trans (aK (s2.free hp)))) .nil))⟩
section
variable {X : Cx} {E : XK} {l b : Expr} {f g : DE} {p pos kp : Pos}
theorem qY {ts : List Expr} {tk : Nat} {tp : Pos} (hm : X.mg "enumerate" = none) (hl : SE X E l f) (hb : SE X E b g) (hg : Gl X "enumerate" := by rfl) (hs : starEach [l] X.env = [(false, eval l X.env)] := by rfl)
  (hkws : backToKw pos (keywordEach [⟨some "start", b, kp⟩] X.env) = [((some (Str.ofString "start") : Option Str), do let v <- eval b X.env; standAt pos; pure v)] := by rfl) : SI X E (.Tuple ts tk tp) (.Call (.Name "enumerate" p) [l] [⟨some "start", b, kp⟩] pos) (B1 f g) :=
 (qX hm (b8 hl cQ hs) hb hg hs hkws).weak fun σ H Q ⟨G0, H0, G, δ, R, m⟩ => by
  refine qo R ?_
  unfold B1 at m
  cases e : vE f δ with
  | ok p =>
   rw [e, Out.bind_ok] at m
   intro v H' G' R' s hd
   split at m
   next xs q =>
    refine qo R' ?_
    cases e2 : vE g p.2 with
    | ok r =>
     rw [e2, Out.bind_ok] at m
     intro v2 H2 G2 R2 s2 hd2
     split at m
     next j q2 =>
      rw [q] at hd
      rw [q2] at hd2
      cases hd2
      split at m
      next hj =>
       cases hd with
       | lst q3 r3 =>
        refine ⟨_, j.toNat, rfl, by rw [Int.toNat_of_nonneg hj.1], by lia, ⟨_, (R2.g.gh.sqr (s2.sqr q3)).sq⟩, m _ H2 G2 R2 (s.trans s2) (lS (s2.sqr q3) (r3.mono s2))⟩
      next => exact m.elim
     next => exact m.elim
    | exc x => rw [e2] at m; exact m
    | bad => rw [e2] at m; exact m
   next => exact m.elim
  | exc x => rw [e] at m; exact m
  | bad => rw [e] at m; exact m
end
end L2
namespace L2
open PySem PySem.Spec PyProof.Rows
variable [Tabs]
noncomputable section
noncomputable def aN : List (Key × Int) := [(.inr "thing", 2), (.inr "not", 2), (.inr "and", 3), (.inr "or", 3)]
noncomputable def eU : DS := sRet (eAnd (eOp (dIsi "int") [.nm 0]) (eNot (eOp (dIsi "bool") [.nm 0])))
def bJ : zt -> Out SD := runB 1 1 eU
noncomputable def bK : DS := sRet (eAnd (zI bJ [.nm 0]) (eAnd (eOp dGe [.nm 0, .ex (eC (.int 1))]) (eOp dLe [.nm 0, .nm 1])))
def aB : zt -> Out SD := runB 2 2 bK
noncomputable def bL : DS := sSeq (sIf (Ao (A4 (tstO (.ex (eOp (dIsi "tuple") [.nm 0])))) (Ao (tstV (eOp dEq [.ex (eOp dLen [.nm 0]), .ex (eC (.int 0))])) (A4 (tstO (.ex (eOp (dIsi "str") [.ex (eOp dIdx [.nm 0, .ex (eC (.int 0))])])))))) (sRet (eC (.bool false))) (zV)) (sSeq (sIf (tstV (eOp dNe [.ex (eOp dLen [.nm 0]), .ex (eOp (Bf aN) [.ex (eOp dIdx [.nm 0, .ex (eC (.int 0))])])])) (sRet (eC (.bool false))) (zV)) (sRet (eOr (eOp dNe [.ex (eOp dIdx [.nm 0, .ex (eC (.int 0))]), .ex (eC (.str "thing"))]) (zI aB [.ex (eOp dIdx [.nm 0, .ex (eC (.int 1))]), .nm 1]))))
def b9 : zt -> Out SD := runB 2 2 bL
def aI : DT := tstO (.nm 3)
noncomputable def aA : DS := sSeq (sAsg 4 (ePop 3)) (sSeq (sIf (A4 (tstO (.ex (zI b9 [.nm 4, .nm 1])))) (sBad) (zV)) (sSeq (sInc 2 (.ex (eC (.int 1)))) (sSeq (sIf (tstV (eOp dGt [.nm 2, .ex (eC (.int 12))])) (sBad) (zV)) (sIf (tstV (eOp dNe [.ex (eOp dIdx [.nm 4, .ex (eC (.int 0))]), .ex (eC (.str "thing"))])) (sMut AF 3 (.ex (eOp dSlL [.nm 4, .ex (eC (.int 1))]))) (zV)))))
noncomputable def bM : DS := sSeq (sIf (A4 (tstO (.ex (zI aB [.nm 1, .ex (eC (.int 5))])))) (sBad) (zV)) (sSeq (sAsg 2 (eC (.int 0))) (sSeq (sAsg 3 (eOp dLst [.nm 0])) (AE (aI) (aA))))
def aR : zt -> Out SD := runB 5 2 bM
noncomputable def dw : DS := sRet (eOp AK [.ex (eOp Av [.ex (eOp Al [.nm 0])])])
def aG : zt -> Out SD := runB 1 1 dw
noncomputable def cG : DE := zI aG [.ex (eOp dLst [.ex (eOp dNeg [.nm 1]), .nm 0])]
def iP : DE := eOp dNeg [.nm 0]
noncomputable def cH : DE := zI aG [.ex (eOp dLst [.nm 1, .ex (eOp dNeg [.nm 0])])]
noncomputable def iQ : DS := sSeq (sIf (tstV (eOp dEq [.nm 1, .ex (eC (.str "not"))])) (sRet (eOp dLst [.ex (zI aG [.ex (eOp dLst [.nm 0, .ex (eOp dIdx [.nm 2, .ex (eC (.int 0))])])]), .ex (zI aG [.ex (eOp dLst [.ex (eOp dNeg [.nm 0]), .ex (eOp dNeg [.ex (eOp dIdx [.nm 2, .ex (eC (.int 0))])])])])])) (zV)) (sSeq (sIf (tstV (eOp dEq [.nm 1, .ex (eC (.str "and"))])) (sRet (eOp dAdd [.ex (Ap [0] (As (.nm 2)) (zX) (cG)), .ex (eOp dLst [.ex (zI aG [.ex (eOp dAdd [.ex (eOp dLst [.nm 0]), .ex (Ap [] (As (.nm 2)) (zX) (iP))])])])])) (zV)) (sRet (eOp dAdd [.ex (Ap [0] (As (.nm 2)) (zX) (cH)), .ex (eOp dLst [.ex (zI aG [.ex (eOp dAdd [.ex (eOp dLst [.ex (eOp dNeg [.nm 0])]), .nm 2])])])])))
def dz : zt -> Out SD := runB 3 3 iQ
noncomputable def bD : DS := sMut AF 4 (.ex (zI dz [.nm 5, .ex (eOp dIdx [.nm 6, .ex (eC (.int 0))]), .ex (eOp dIdx [.nm 6, .ex (eC (.int 1))])]))
noncomputable def de : DS := sSeq (Be (zI aR [.nm 0, .nm 1])) (sSeq (sAsg 2 (eOp dLst [])) (sSeq (sAsg 3 (eNum 14 0 1 2)) (sSeq (sAsg 4 (eOp dLst [.ex (eOp dTup [.nm 3])])) (sSeq (sFor (B1 (eV 2) (eOp dAdd [.nm 1, .ex (eC (.int 1))])) (kTup [5, 6]) (bD)) (sRet (eOp dTup [.nm 4, .ex (eOp dAdd [.nm 1, .ex (eOp dLen [.nm 2])])]))))))
def bq : zt -> Out SD := runB 7 2 de
noncomputable def bx : DS := sSeq (sIf (tstV (eOp dLt [.nm 1, .ex (eOp dLen [.nm 0])])) (sRet (eOp dIdx [.nm 0, .nm 1])) (zV)) (sSeq (sIf (tstV (eOp dEq [.nm 0, .ex (eOp dLst [])])) (sRet (eC (.int 0))) (zV)) (sRet (eOp dAdd [.ex (eOp dMul [.ex (eOp dIdx [.nm 0, .ex (eOp dMod [.nm 1, .ex (eOp dLen [.nm 0])])]), .ex (eC (.int 31))]), .nm 1])))
def aQ : zt -> Out SD := runB 2 2 bx
noncomputable def dA : DS := sSeq (sAsg 3 (eOp dMod [.ex (eOp dMul [.ex (eOp dAdd [.ex (eOp dAdd [.ex (zI aQ [.nm 0, .nm 1]), .ex (eOp dMul [.ex (eC (.int 7919)), .nm 1])]), .ex (eC (.int 1))]), .ex (eC (.int 48271))]), .ex (eC (.int 2147483647))])) (sRet (eOp dMod [.ex (eOp dMod [.ex (eOp dAdd [.ex (eOp dAdd [.ex (eOp dMul [.nm 3, .nm 3]), .ex (eOp dMul [.ex (eC (.int 7)), .nm 3])]), .nm 1]), .ex (eC (.int 2147483629))]), .nm 2]))
def aL : zt -> Out SD := runB 4 3 dA
noncomputable def gF : DS := sRet (eAnd (eOp (dIsi "int") [.nm 0]) (eNot (eOp (dIsi "bool") [.nm 0])))
def bh : zt -> Out SD := runB 1 1 gF
noncomputable def cf : DS := sIf (tstV (eOp dEq [.ex (eOp dGt [.nm 2, .ex (eC (.int 0))]), .ex (eOp dEq [.ex (eOp dIdx [.nm 1, .ex (eOp dSub [.ex (eOp dAbs [.nm 2]), .ex (eC (.int 1))])]), .ex (eC (.int 1))])])) (sRet (eC (.bool true))) (zV)
noncomputable def eW : DS := sSeq (sFor (AU (eV 0)) (kN 2) (cf)) (sRet (eC (.bool false)))
def bN : zt -> Out SD := runB 3 2 eW
def cg : DT := A4 (tstO (.ex (zI bN [.nm 0, .nm 1])))
def cj : DE := eV 0
noncomputable def eY : DS := sRet (eOp dEq [.ex (Ap [1] (As (.nm 0)) (cg) (cj)), .ex (eOp dLst [])])
def bO : zt -> Out SD := runB 2 2 eY
noncomputable def eJ : DE := eOp dAdd [.nm 0, .ex (eOp dLst [.ex (eC (.int 0))])]
noncomputable def eL : DE := eOp dAdd [.nm 0, .ex (eOp dLst [.ex (eC (.int 1))])]
noncomputable def bR : DS := sAsg 1 (eOp dAdd [.ex (Ap [] (As (.nm 1)) (zX) (eJ)), .ex (Ap [] (As (.nm 1)) (zX) (eL))])
noncomputable def dD : DS := sSeq (sAsg 1 (eOp dLst [.ex (eOp dLst [])])) (sSeq (sFor (itR1 [.nm 0]) (kN 2) (bR)) (sRet (eOp AO [.nm 1])))
def bj : zt -> Out SD := runB 3 1 dD
noncomputable def bE : DS := sSeq (sIf (Ao (A4 (tstO (.ex (zI bh [.nm 3])))) (Ao (tstV (eOp dLe [.ex (eOp dAbs [.nm 3]), .nm 2])) (tstV (eOp dGt [.ex (eOp dAbs [.nm 3]), .nm 1])))) (sRet (eC (.bool false))) (zV)) (sAsg 2 (eOp dAbs [.nm 3]))
noncomputable def bZ : DS := sSeq (sIf (A4 (tstO (.ex (eOp (dIsi "tuple") [.nm 0])))) (sRet (eC (.bool false))) (zV)) (sSeq (sAsg 2 (eC (.int 0))) (sSeq (sFor (AU (eV 0)) (kN 3) (bE)) (sRet (eC (.bool true)))))
def aT : zt -> Out SD := runB 4 2 bZ
noncomputable def df : DS := sSeq (sAsg 3 (eAnd (eOp dIdx [.nm 0, .ex (eC (.int 1))]) (eOp dIdx [.nm 1, .ex (eC (.int 1))]))) (sSeq (sIf (tstV (eOp dEq [.nm 2, .ex (eC (.str "or"))])) (sAsg 3 (eOr (eOp dIdx [.nm 0, .ex (eC (.int 1))]) (eOp dIdx [.nm 1, .ex (eC (.int 1))]))) (zV)) (sRet (eOp dTup [.ex (eOp dTup [.nm 2, .ex (eOp dIdx [.nm 0, .ex (eC (.int 0))]), .ex (eOp dIdx [.nm 1, .ex (eC (.int 0))])]), .nm 3, .ex (eOp dAdd [.ex (eOp dAdd [.ex (eOp dIdx [.nm 0, .ex (eC (.int 2))]), .ex (eOp dIdx [.nm 1, .ex (eC (.int 2))])]), .ex (eOp dLst [.ex (eOp AH [.nm 3])])])])))
def bo : zt -> Out SD := runB 4 3 df
noncomputable def ax : DS := sSeq (sAsg 5 (zI aL [.nm 0, .ex (eOp dAdd [.ex (eOp dAdd [.nm 1, .ex (eC (.int 1))]), .nm 4]), .ex (eC (.int 840))])) (sIf (AL (tstV (eOp dEq [.ex (eOp dMod [.nm 5, .ex (eC (.int 4))]), .ex (eC (.int 1))])) (tstV (eOp dNe [.nm 3, .ex (eOp dLst [])]))) (sSeq (sAsg 6 (ePop 3)) (sMut AI 3 (.ex (eOp dTup [.ex (eOp dTup [.ex (eC (.str "not")), .ex (eOp dIdx [.nm 6, .ex (eC (.int 0))])]), .ex (eNot (eOp dIdx [.nm 6, .ex (eC (.int 1))])), .ex (eOp dAdd [.ex (eOp dIdx [.nm 6, .ex (eC (.int 2))]), .ex (eOp dLst [.ex (eOp AH [.ex (eNot (eOp dIdx [.nm 6, .ex (eC (.int 1))]))])])])])))) (sIf (AL (tstV (eOp dEq [.ex (eOp dMod [.nm 5, .ex (eC (.int 4))]), .ex (eC (.int 2))])) (tstV (eOp dGt [.ex (eOp dLen [.nm 3]), .ex (eC (.int 1))]))) (sSeq (sAsg 7 (ePop 3)) (sMut AI 3 (.ex (zI bo [.ex (ePop 3), .nm 7, .ex (eOp dIdx [.ex (eOp dLst [.ex (eC (.str "and")), .ex (eC (.str "or"))]), .ex (eOp dMod [.ex (eOp Bd [.nm 5, .ex (eC (.int 4))]), .ex (eC (.int 2))])])])))) (sSeq (sAsg 8 (eOp dMod [.ex (eOp Bd [.nm 5, .ex (eC (.int 8))]), .ex (eOp dLen [.nm 2])])) (sMut AI 3 (.ex (eOp dTup [.ex (eOp dTup [.ex (eC (.str "thing")), .ex (eOp dAdd [.nm 8, .ex (eC (.int 1))])]), .ex (eOp dEq [.ex (eOp dIdx [.nm 2, .nm 8]), .ex (eC (.int 1))]), .ex (eOp dLst [])]))))))
noncomputable def aS : DT := tstV (eOp dGt [.ex (eOp dLen [.nm 3]), .ex (eC (.int 1))])
noncomputable def br : DS := sSeq (sAsg 7 (ePop 3)) (sMut AI 3 (.ex (zI bo [.ex (ePop 3), .nm 7, .ex (eOp dIdx [.ex (eOp dLst [.ex (eC (.str "and")), .ex (eC (.str "or"))]), .ex (zI aL [.nm 0, .ex (eOp dAdd [.nm 1, .ex (eC (.int 7))]), .ex (eC (.int 2))])])])))
noncomputable def bF : DS := sSeq (sAsg 3 (eOp dLst [])) (sSeq (sFor (itR1 [.ex (eOp dAdd [.ex (eC (.int 1)), .ex (zI aL [.nm 0, .nm 1, .ex (eC (.int 6))])])]) (kN 4) (ax)) (sSeq (AE (aS) (br)) (sSeq (sIf (tstV (eOp dEq [.ex (zI aL [.nm 0, .ex (eOp dAdd [.nm 1, .ex (eC (.int 8))]), .ex (eC (.int 3))]), .ex (eC (.int 0))])) (sSeq (sAsg 6 (eOp dIdx [.nm 3, .ex (eC (.int 0))])) (sRet (eOp dTup [.ex (eOp dTup [.ex (eC (.str "not")), .ex (eOp dIdx [.nm 6, .ex (eC (.int 0))])]), .ex (eNot (eOp dIdx [.nm 6, .ex (eC (.int 1))])), .ex (eOp dAdd [.ex (eOp dIdx [.nm 6, .ex (eC (.int 2))]), .ex (eOp dLst [.ex (eOp AH [.ex (eNot (eOp dIdx [.nm 6, .ex (eC (.int 1))]))])])])]))) (zV)) (sRet (eOp dIdx [.nm 3, .ex (eC (.int 0))])))))
def aw : zt -> Out SD := runB 9 3 bF
noncomputable def gR : DT := A4 (tstO (.ex (zI aT [.nm 0, .ex (eOp dIdx [.nm 1, .ex (eC (.int 1))])])))
def ku : DE := eV 0
noncomputable def gS : DT := tstO (.ex (zI bO [.ex (eOp dIdx [.nm 1, .ex (eC (.int 0))]), .ex (eOp dAdd [.nm 2, .nm 0])]))
def gT : DE := eOp dAdd [.nm 2, .nm 0]
noncomputable def fL : DS := sSeq (sAsg 5 (zI aw [.nm 0, .ex (eC (.int 10)), .nm 4])) (sSeq (sAsg 6 (eOp dLst [])) (sSeq (sIf (tstO (.ex (eOp dIdx [.nm 5, .ex (eC (.int 1))]))) (sMut AI 6 (.ex (eOp dAdd [.nm 4, .ex (eOp dIdx [.nm 5, .ex (eC (.int 2))])]))) (zV)) (sIf (tstV (eOp dNe [.ex (Ap [2, 4] (As (.ex (zI bj [.nm 3]))) (gS) (gT)), .nm 6])) (sRet (eC (.bool false))) (zV))))
noncomputable def qZ : DS := sSeq (sAsg 1 (eOp dAdd [.ex (eC (.int 1)), .ex (zI aL [.nm 0, .ex (eC (.int 0)), .ex (eC (.int 4))])])) (sSeq (sAsg 2 (zI bq [.ex (eOp dIdx [.ex (zI aw [.nm 0, .ex (eC (.int 10)), .ex (eOp dMul [.ex (eOp dLst [.ex (eC (.int 0))]), .nm 1])]), .ex (eC (.int 0))]), .nm 1])) (sSeq (sIf (Ao (A4 (tstO (.ex (eOp (dIsi "tuple") [.nm 2])))) (Ao (tstV (eOp dNe [.ex (eOp dLen [.nm 2]), .ex (eC (.int 2))])) (Ao (A4 (tstO (.ex (eOp (dIsi "list") [.ex (eOp dIdx [.nm 2, .ex (eC (.int 0))])])))) (tstV (eOp dGt [.ex (eOp dLen [.ex (eOp dIdx [.nm 2, .ex (eC (.int 0))])]), .ex (eC (.int 24))]))))) (sRet (eC (.bool false))) (zV)) (sSeq (sAsg 3 (eOp dLen [.ex (eOp dIdx [.ex (zI aw [.nm 0, .ex (eC (.int 10)), .ex (eOp dMul [.ex (eOp dLst [.ex (eC (.int 0))]), .nm 1])]), .ex (eC (.int 2))])])) (sSeq (sIf (Ao (A4 (tstO (.ex (zI bh [.ex (eOp dIdx [.nm 2, .ex (eC (.int 1))])])))) (tstV (eOp dNe [.ex (eOp dIdx [.nm 2, .ex (eC (.int 1))]), .ex (eOp dAdd [.nm 1, .nm 3])]))) (sRet (eC (.bool false))) (zV)) (sSeq (sIf (tstV (eOp dNe [.ex (Ap [2] (As (.ex (eOp dIdx [.nm 2, .ex (eC (.int 0))]))) (gR) (ku)), .ex (eOp dLst [])])) (sRet (eC (.bool false))) (zV)) (sSeq (sFor (AU (zI bj [.nm 1])) (kN 4) (fL)) (sRet (eC (.bool true)))))))))
def nZ : zt -> Out SD := runB 7 1 qZ
end
end L2
namespace L2
open Sy (Aj A1 zJ zS allC)
inductive Sen where
 | thing (t : Int)
 | nt (a : Sen)
 | an (a b : Sen)
 | or (a b : Sen)
noncomputable def Sen.size : Sen -> Nat
 | .thing _ => 1
 | .nt a => a.size + 1
 | .an a b => a.size + b.size + 1
 | .or a b => a.size + b.size + 1
noncomputable def Sen.Ok (n : Nat) : Sen -> Prop
 | .thing t => 1 <= t /\ t <= n
 | .nt a => a.Ok n
 | .an a b => a.Ok n /\ b.Ok n
 | .or a b => a.Ok n /\ b.Ok n
noncomputable def valC (c : List Int) (t : Int) : Int := c.getD (t - 1).toNat 0
noncomputable def tru (c : List Int) : Sen -> Bool
 | .thing t => decide (valC c t = 1)
 | .nt a => !tru c a
 | .an a b => tru c a && tru c b
 | .or a b => tru c a || tru c b
def b01 (b : Bool) : Int := if b then 1 else 0
noncomputable def vals (c : List Int) : Sen -> List Int
 | .thing _ => []
 | .nt a => vals c a ++ [b01 (!tru c a)]
 | .an a b => vals c a ++ vals c b ++ [b01 (tru c a && tru c b)]
 | .or a b => vals c a ++ vals c b ++ [b01 (tru c a || tru c b)]
noncomputable def nts : Sen -> Nat
 | .thing _ => 0
 | .nt a => nts a + 1
 | .an a b => nts a + nts b + 1
 | .or a b => nts a + nts b + 1
theorem ay (c : List Int) : ∀ s, (vals c s).length = nts s
 | .thing _ => rfl
 | .nt a => by simp [vals, nts, ay c a]
 | .an a b => by simp [vals, nts, ay c a, ay c b, Nat.add_assoc]
 | .or a b => by simp [vals, nts, ay c a, ay c b, Nat.add_assoc]
theorem kx (b : Bool) : b01 b = 0 \/ b01 b = 1 := by cases b <;> simp [b01]
theorem cI (c : List Int) : ∀ s, ∀ x ∈ vals c s, x = 0 \/ x = 1
 | .thing _, x, h => by simp [vals] at h
 | .nt a, x, h => by
  simp only [vals, List.mem_append, List.mem_singleton] at h
  rcases h with h | rfl
  ·exact cI c a x h
  ·exact kx _
 | .an a b, x, h => by
  simp only [vals, List.mem_append, List.mem_singleton] at h
  rcases h with (h | h) | rfl
  ·exact cI c a x h
  ·exact cI c b x h
  ·exact kx _
 | .or a b, x, h => by
  simp only [vals, List.mem_append, List.mem_singleton] at h
  rcases h with (h | h) | rfl
  ·exact cI c a x h
  ·exact cI c b x h
  ·exact kx _
inductive Wd where
 | nt | an | or
abbrev Row := Wd × List Int
noncomputable def numS (n k : Nat) : Sen -> Int
 | .thing t => t
 | s => ((n + k + nts s : Nat) : Int)
noncomputable def zD (n : Nat) : Nat -> Sen -> List Row
 | _, .thing _ => []
 | k, .nt a => zD n k a ++ [(.nt, [numS n k a])]
 | k, .an a b => zD n k a ++ zD n (k + nts a) b ++ [(.an, [numS n k a, numS n (k + nts a) b])]
 | k, .or a b => zD n k a ++ zD n (k + nts a) b ++ [(.or, [numS n k a, numS n (k + nts a) b])]
theorem aj (n : Nat) : ∀ (s : Sen) (k : Nat), (zD n k s).length = nts s
 | .thing _, _ => rfl
 | .nt a, k => by simp [zD, nts, aj n a]
 | .an a b, k => by simp [zD, nts, aj n a, aj n b, Nat.add_assoc]
 | .or a b, k => by simp [zD, nts, aj n a, aj n b, Nat.add_assoc]
noncomputable def tieR (i : Int) : Row -> List (List Int)
 | (.nt, ps) => [[i, ps.getD 0 0], [-i, -ps.getD 0 0]]
 | (.an, ps) => ps.map (fun p => [-i, p]) ++ [i :: ps.map (fun p => -p)]
 | (.or, ps) => ps.map (fun p => [i, -p]) ++ [-i :: ps]
noncomputable def zE : Int -> List Row -> List (List Int)
 | _, [] => []
 | i, r :: rs => tieR i r ++ zE (i + 1) rs
theorem dg : ∀ (a b : List Row) (i : Int), zE i (a ++ b) = zE i a ++ zE (i + a.length) b
 | [], b, i => by simp [zE]
 | r :: rs, b, i => by
  have e : i + 1 + (rs.length : Int) = i + ((rs.length + 1 : Nat) : Int) := by omega
  simp only [List.cons_append, zE, dg rs b, List.append_assoc, List.length_cons, e]
theorem iR (a b : List (List Int)) (c : List Int) : zJ (a ++ b) c = (zJ a c && zJ b c) := by
 unfold zJ
 exact List.all_append
theorem t6 {c : List Int} {t : Int} (h : 1 <= t) : Aj c t = decide (valC c t = 1) := by
 unfold Aj valC Sy.absI
 rw [if_neg (by omega), if_pos (by omega)]
theorem t7 {c : List Int} {t : Int} (h : 1 <= t) : Aj c (-t) = decide (valC c t = 0) := by
 unfold Aj valC Sy.absI
 rw [if_pos (by omega), if_neg (by omega), Int.neg_neg]
theorem r0 (C : List Int) (j : Nat) : valC C ((j + 1 : Nat) : Int) = C.getD j 0 := by
 unfold valC
 congr 1
 omega
theorem iS {C : List Int} (hb : ∀ x ∈ C, x = 0 \/ x = 1) (j : Nat) : C.getD j 0 = 0 \/ C.getD j 0 = 1 := by
 rw [List.getD_eq_getElem?_getD]
 cases e : C[j]? with
 | none => exact .inl rfl
 | some x => exact hb x (List.mem_of_getElem? e)
theorem lT {r : List Int} {k m : Nat} (h : k + m + 1 <= r.length) : (r.drop k).take (m + 1) = (r.drop k).take m ++ [r.getD (k + m) 0] := by
 rw [List.take_add_one]
 congr 1
 rw [List.getElem?_drop, List.getD_eq_getElem?_getD, List.getElem?_eq_getElem (by omega)]
 rfl
theorem pf {r : List Int} {k m j : Nat} : (r.drop k).take (m + j) = (r.drop k).take m ++ (r.drop (k + m)).take j := by
 rw [List.take_add, List.drop_drop]
theorem ky {r : List Int} {k m : Nat} (h : k + m <= r.length) : ((r.drop k).take m).length = m := by
 rw [List.length_take, List.length_drop]; omega
noncomputable def VIs (C : List Int) (x : Int) (b : Bool) : Prop := 1 <= x /\ valC C x = b01 b
theorem VIs.p {C : List Int} {x : Int} {b : Bool} (h : VIs C x b) : Aj C x = b := by
 rw [t6 h.1, h.2]; cases b <;> simp [b01]
theorem VIs.n {C : List Int} {x : Int} {b : Bool} (h : VIs C x b) : Aj C (-x) = !b := by
 rw [t7 h.1, h.2]; cases b <;> simp [b01]
theorem vz {C : List Int} {i x : Int} {a b : Bool} (hx : VIs C x a) (hi : VIs C i b) : zJ (tieR i (.nt, [x])) C = decide (b = !a) := by
 simp only [tieR, List.getD_cons_zero, zJ, A1, List.all_cons, List.all_nil, List.any_cons, List.any_nil, hx.p, hx.n, hi.p, hi.n]
 cases a <;> cases b <;> rfl
theorem vA {C : List Int} {i x y : Int} {a a' b : Bool} (hx : VIs C x a) (hy : VIs C y a') (hi : VIs C i b) : zJ (tieR i (.an, [x, y])) C = decide (b = (a && a')) := by
 simp only [tieR, zJ, A1, List.map_cons, List.map_nil, List.cons_append, List.nil_append, List.all_cons, List.all_nil, List.any_cons, List.any_nil, hx.p, hx.n, hy.p, hy.n, hi.p, hi.n]
 cases a <;> cases a' <;> cases b <;> rfl
theorem vB {C : List Int} {i x y : Int} {a a' b : Bool} (hx : VIs C x a) (hy : VIs C y a') (hi : VIs C i b) : zJ (tieR i (.or, [x, y])) C = decide (b = (a || a')) := by
 simp only [tieR, zJ, A1, List.map_cons, List.map_nil, List.cons_append, List.nil_append, List.all_cons, List.all_nil, List.any_cons, List.any_nil, hx.p, hx.n, hy.p, hy.n, hi.p, hi.n]
 cases a <;> cases a' <;> cases b <;> rfl
theorem gk {c r : List Int} {n k : Nat} (hc : c.length = n) (hr : ∀ x ∈ r, x = 0 \/ x = 1) : VIs (c ++ r) ((n + k + 1 : Nat) : Int) (decide (r.getD k 0 = 1)) := by
 refine ⟨by omega, ?_⟩
 rw [r0, List.getD_eq_getElem?_getD, List.getElem?_append_right (by omega)]
 have e : n + k - c.length = k := by omega
 rw [e, <- List.getD_eq_getElem?_getD]
 rcases iS hr k with h | h <;> rw [h] <;> simp [b01]
theorem o3 {x : Int} {b : Bool} (h : x = 0 \/ x = 1) : decide (x = 1) = b ↔ x = b01 b := by
 rcases h with rfl | rfl <;> cases b <;> simp [b01]
theorem iT {C r V : List Int} {n k m : Nat} {R : List Row} {row : Row} {b : Bool} (hlen : R.length = m) (hV : V.length = m) (hk : k + (m + 1) <= r.length) (hr : ∀ x ∈ r, x = 0 \/ x = 1)
  (h1 : zJ (zE ((n + k + 1 : Nat) : Int) R) C = true ↔ (r.drop k).take m = V) (h2 : (r.drop k).take m = V -> zJ (tieR ((n + k + m + 1 : Nat) : Int) row) C = decide (decide (r.getD (k + m) 0 = 1) = b)) :
  (zJ (zE ((n + k + 1 : Nat) : Int) (R ++ [row])) C = true ↔ (r.drop k).take (m + 1) = V ++ [b01 b]) := by
 rw [dg, iR, Bool.and_eq_true, h1, lT (by omega)]
 have e : ((n + k + 1 : Nat) : Int) + (R.length : Int) = ((n + k + m + 1 : Nat) : Int) := by omega
 have e2 : zE (((n + k + 1 : Nat) : Int) + (R.length : Int)) [row] = tieR ((n + k + m + 1 : Nat) : Int) row := by rw [e]; simp [zE]
 rw [e2]
 have sl : ((r.drop k).take m).length = m := ky (by omega)
 constructor
 ·rintro ⟨a1, a2⟩
  rw [h2 a1, decide_eq_true_eq, o3 (iS hr _)] at a2
  rw [a1, a2]
 ·intro h
  obtain ⟨a1, a2⟩ := List.append_inj h (by rw [sl, hV])
  refine ⟨a1, ?_⟩
  rw [h2 a1, decide_eq_true_eq, o3 (iS hr _)]
  simpa using a2
theorem r6 (n k : Nat) (a : Sen) : numS n k (.nt a) = ((n + (k + nts a) + 1 : Nat) : Int) := by simp only [numS, nts]; omega
theorem r8 (n k : Nat) (a b : Sen) : numS n k (.an a b) = ((n + (k + (nts a + nts b)) + 1 : Nat) : Int) := by simp only [numS, nts]; omega
theorem r9 (n k : Nat) (a b : Sen) : numS n k (.or a b) = ((n + (k + (nts a + nts b)) + 1 : Nat) : Int) := by simp only [numS, nts]; omega
theorem kC {r : List Int} {k m : Nat} {V : List Int} {b : Bool} (hV : V.length = m) (hk : k + (m + 1) <= r.length) (h : (r.drop k).take (m + 1) = V ++ [b01 b]) : decide (r.getD (k + m) 0 = 1) = b := by
 rw [lT (by omega)] at h
 obtain ⟨a1, a2⟩ := List.append_inj h (by rw [ky (by omega), hV])
 have a3 : r.getD (k + m) 0 = b01 b := by simpa using a2
 rw [a3]
 cases b <;> simp [b01]
theorem fM {r : List Int} {k m j : Nat} {U V : List Int} (hU : U.length = m) (hk : k + (m + j) <= r.length) : (r.drop k).take (m + j) = U ++ V ↔ ((r.drop k).take m = U /\ (r.drop (k + m)).take j = V) := by
 rw [pf]
 constructor
 ·exact fun h => List.append_inj h (by rw [ky (by omega), hU])
 ·rintro ⟨a, b⟩; rw [a, b]
theorem cJ {c r : List Int} {n : Nat} (hc : zS n c) (hr : ∀ x ∈ r, x = 0 \/ x = 1) : ∀ (s : Sen) (k : Nat), s.Ok n -> k + nts s <= r.length ->
  (zJ (zE ((n + k + 1 : Nat) : Int) (zD n k s)) (c ++ r) = true ↔ (r.drop k).take (nts s) = vals c s) /\ ((r.drop k).take (nts s) = vals c s -> VIs (c ++ r) (numS n k s) (tru c s))
 | .thing t, k, h, hk => by
  refine ⟨by simp [zD, zE, zJ, nts, vals], fun _ => ⟨h.1, ?_⟩⟩
  have hl := hc.len
  obtain ⟨h1, h2⟩ : 1 <= t /\ t <= n := h
  have e : valC (c ++ r) t = valC c t := by
   unfold valC
   rw [List.getD_eq_getElem?_getD, List.getElem?_append_left (by omega), <- List.getD_eq_getElem?_getD]
  show valC (c ++ r) t = _
  rw [e]
  simp only [tru]
  rcases iS hc.bit (t - 1).toNat with z | z
  ·have : valC c t = 0 := z
   rw [this]; rfl
  ·have : valC c t = 1 := z
   rw [this]; rfl
 | .nt a, k, h, hk => by
  simp only [nts] at hk ⊢
  obtain ⟨i1, i2⟩ := cJ hc hr a k h (by omega)
  have hst := iT (n := n) (row := (.nt, [numS n k a])) (b := !tru c a) (aj n a k) (ay c a) hk hr i1 (fun e => by
   have := vz (i2 e) (gk (n := n) (k := k + nts a) (r := r) hc.len hr)
   rw [show n + (k + nts a) + 1 = n + k + nts a + 1 by omega] at this
   exact this)
  refine ⟨hst, fun e => ?_⟩
  have := gk (n := n) (k := k + nts a) (r := r) hc.len hr
  rw [kC (ay c a) hk e] at this
  rw [r6]
  exact this
 | .an a b, k, h, hk => by
  simp only [nts] at hk ⊢
  obtain ⟨i1, i2⟩ := cJ hc hr a k h.1 (by omega)
  obtain ⟨j1, j2⟩ := cJ hc hr b (k + nts a) h.2 (by omega)
  have hab : zJ (zE ((n + k + 1 : Nat) : Int) (zD n k a ++ zD n (k + nts a) b)) (c ++ r) = true ↔ (r.drop k).take (nts a + nts b) = vals c a ++ vals c b := by
   rw [dg, iR, Bool.and_eq_true, fM (ay c a) (by omega), i1, aj, show ((n + k + 1 : Nat) : Int) + ((nts a : Nat) : Int) = ((n + (k + nts a) + 1 : Nat) : Int) by omega, j1]
  have hst := iT (n := n) (row := (.an, [numS n k a, numS n (k + nts a) b])) (b := tru c a && tru c b) (by simp [aj]) (by simp [ay]) hk hr hab (fun e => by
   obtain ⟨e1, e2⟩ := (fM (ay c a) (by omega)).mp e
   have := vA (i2 e1) (j2 e2) (gk (n := n) (k := k + (nts a + nts b)) (r := r) hc.len hr)
   rw [show n + (k + (nts a + nts b)) + 1 = n + k + (nts a + nts b) + 1 by omega] at this
   exact this)
  refine ⟨hst, fun e => ?_⟩
  have := gk (n := n) (k := k + (nts a + nts b)) (r := r) hc.len hr
  rw [kC (b := tru c a && tru c b) (V := vals c a ++ vals c b) (by simp [ay]) hk e] at this
  rw [r8]
  exact this
 | .or a b, k, h, hk => by
  simp only [nts] at hk ⊢
  obtain ⟨i1, i2⟩ := cJ hc hr a k h.1 (by omega)
  obtain ⟨j1, j2⟩ := cJ hc hr b (k + nts a) h.2 (by omega)
  have hab : zJ (zE ((n + k + 1 : Nat) : Int) (zD n k a ++ zD n (k + nts a) b)) (c ++ r) = true ↔ (r.drop k).take (nts a + nts b) = vals c a ++ vals c b := by
   rw [dg, iR, Bool.and_eq_true, fM (ay c a) (by omega), i1, aj, show ((n + k + 1 : Nat) : Int) + ((nts a : Nat) : Int) = ((n + (k + nts a) + 1 : Nat) : Int) by omega, j1]
  have hst := iT (n := n) (row := (.or, [numS n k a, numS n (k + nts a) b])) (b := tru c a || tru c b) (by simp [aj]) (by simp [ay]) hk hr hab (fun e => by
   obtain ⟨e1, e2⟩ := (fM (ay c a) (by omega)).mp e
   have := vB (i2 e1) (j2 e2) (gk (n := n) (k := k + (nts a + nts b)) (r := r) hc.len hr)
   rw [show n + (k + (nts a + nts b)) + 1 = n + k + (nts a + nts b) + 1 by omega] at this
   exact this)
  refine ⟨hst, fun e => ?_⟩
  have := gk (n := n) (k := k + (nts a + nts b)) (r := r) hc.len hr
  rw [kC (b := tru c a || tru c b) (V := vals c a ++ vals c b) (by simp [ay]) hk e] at this
  rw [r9]
  exact this
noncomputable def Am (n : Nat) (s : Sen) : List (List Int) := [numS n 0 s] :: zE ((n + 1 : Nat) : Int) (zD n 0 s)
theorem rg {c r : List Int} {n : Nat} {s : Sen} (hc : zS n c) (hr : zS (nts s) r) (h : s.Ok n) : zJ (Am n s) (c ++ r) = (tru c s && decide (r = vals c s)) := by
 obtain ⟨i1, i2⟩ := cJ hc hr.bit s 0 h (by rw [hr.len]; omega)
 have e0 : (r.drop 0).take (nts s) = r := by rw [List.drop_zero, <- hr.len, List.take_length]
 rw [e0] at i1 i2
 have e1 : zJ (Am n s) (c ++ r) = (Aj (c ++ r) (numS n 0 s) && zJ (zE ((n + 0 + 1 : Nat) : Int) (zD n 0 s)) (c ++ r)) := by
  simp [Am, zJ, A1]
 rw [e1]
 by_cases e : r = vals c s
 ·rw [i1.mpr e, (i2 e).p]; simp [e]
 ·have : zJ (zE ((n + 0 + 1 : Nat) : Int) (zD n 0 s)) (c ++ r) = false := by
   rw [<- Bool.not_eq_true]; exact fun z => e (i1.mp z)
  rw [this]; simp [e]
theorem iU {α : Type} [DecidableEq α] {v : α} : ∀ {l : List α}, l.Nodup -> v ∈ l -> l.filter (fun x => decide (x = v)) = [v]
 | x :: r, hn, hm => by
  obtain ⟨h1, h2⟩ := List.nodup_cons.mp hn
  by_cases e : x = v
  ·subst e
   have : r.filter (fun y => decide (y = x)) = [] := by
    rw [List.filter_eq_nil_iff]
    intro y hy
    simp only [decide_eq_true_eq]
    exact fun z => h1 (z ▸ hy)
   simp [this]
  ·have hm' : v ∈ r := by
    rcases List.mem_cons.mp hm with z | z
    ·exact absurd z.symm e
    ·exact z
   simp [e, iU h2 hm']
theorem nc (n : Nat) : (allC n).Nodup := (Sy.gc n).imp fun {a b} h e => by
 subst e
 rw [Sy.iK] at h
 cases h
theorem vC {c : List Int} {n : Nat} {s : Sen} (hc : zS n c) (h : s.Ok n) : (allC (nts s)).filter (fun r => zJ (Am n s) (c ++ r)) = if tru c s then [vals c s] else [] := by
 have e : (allC (nts s)).filter (fun r => zJ (Am n s) (c ++ r)) = (allC (nts s)).filter (fun r => tru c s && decide (r = vals c s)) := by
  refine List.filter_congr fun r hr => ?_
  exact rg hc (Sy.e6 _ _ hr) h
 rw [e]
 cases tru c s with
 | false => simp
 | true =>
  simp only [Bool.true_and, if_true]
  exact iU (nc _) (Sy.lB _ _ ⟨ay c s, cI c s⟩)
open PyProof.Rows PySem PySem.Spec
open Sy (madeC)
variable [Tabs]
theorem vD (ns : List Int) (k : Int) (hk : 0 <= k) : aQ [scr ns, .int k] = .ok (.sh (.int (Bp ns k))) := by
 have hs : ∀ l : List Int, SeqAt.shaped (.list (l.map PyData.int)) = true := fun l => (ba (dY 0 l)).shaped (by decide)
 have hs0 : SeqAt.shaped (.list []) = true := hs []
 unfold Bp
 by_cases h1 : k < ns.length
 ·simp [aQ, bx, h1, fH hk h1]
 ·by_cases h2 : ns = []
  ·subst h2
   have h1' : ¬ k < 0 := by omega
   simp [aQ, bx, h1', dZ, hs0]
  ·have hl : 0 < (ns.length : Int) := by
    have := List.length_pos_iff.mpr h2
    omega
   have hl' : 0 < ns.length := by omega
   have h3 := Int.emod_nonneg k (b := (ns.length : Int)) (by omega)
   have h4 := Int.emod_lt_of_pos k hl
   simp [aQ, bx, h1, h2, dZ, hs0, hs ns, hl', fH h3 h4, qz]
theorem lU (ns : List Int) (k m : Int) (hk : 0 <= k) (hm : 0 < m) : aL [scr ns, .int k, .int m] = .ok (.sh (.int (mixZ ns k m))) := by
 have h1 := oP ns k
 have h2 := oQ ns k
 have e : (Bp ns k + 7919 * k + 1) * 48271 % 2147483647 = Au ns k := rfl
 have c1 : cMul (Au ns k) (Au ns k) = true := qA (by omega) (by omega)
 simp [aL, dA, vD ns k hk, qA, qz, e, c1, hm]
 rfl
theorem gU (d : PyData) (h : ∀ es, d ≠ .dict es) : bJ [d] = .ok (.sh (.bool (isWh d))) := by
 rw [<- xV h]
 simp only [bJ, eU]
 cases h1 : isiD "int" d <;> simp [sN, h, h1]
theorem vF {d : PyData} (h : ∀ i, d ≠ .int i) : isWh d = false := by
 cases d <;> first | rfl | exact absurd rfl (h _)
noncomputable def isFr (most : Int) : PyData -> Bool
 | .int k => decide (1 <= k) && decide (k <= most)
 | _ => false
theorem o4 (d : PyData) (most : Int) (h : ∀ es, d ≠ .dict es) : aB [d, .int most] = .ok (.sh (.bool (isFr most d))) := by
 simp only [aB, bK]
 by_cases h1 : ∃ k, d = .int k
 ·obtain ⟨k, rfl⟩ := h1
  by_cases h2 : 1 <= k
  ·simp [gU _ h, isWh, isFr, h2]
  ·have h2' : k < 1 := by omega
   simp [gU _ h, isWh, isFr, h2, h2']
 ·have hw := vF (d := d) fun i e => h1 ⟨i, e⟩
  have hf : isFr most d = false := by cases d <;> first | rfl | exact absurd ⟨_, rfl⟩ h1
  simp [gU _ h, hw, hf]
theorem t8 (p : Int) : Sy.absI p = absI p := rfl
noncomputable def zy : Sen -> PyData
 | .thing t => .tuple [.str "thing", .int t]
 | .nt a => .tuple [.str "not", zy a]
 | .an a b => .tuple [.str "and", zy a, zy b]
 | .or a b => .tuple [.str "or", zy a, zy b]
theorem rh : ∀ s : Sen, 1 <= s.size
 | .thing _ => Nat.le_refl _
 | .nt a => by simp only [Sen.size]; omega
 | .an a b => by simp only [Sen.size]; omega
 | .or a b => by simp only [Sen.size]; omega
theorem av : ∀ s : Sen, zC (zy s) = true
 | .thing t => by simp [zy, zC, zA]
 | .nt a => by simp [zy, zC, zA, av a]
 | .an a b => by simp [zy, zC, zA, av a, av b]
 | .or a b => by simp [zy, zC, zA, av a, av b]
theorem gm : ∀ l : List Sen, zA (l.map zy) = true
 | [] => rfl
 | s :: r => by simp [zA, av s, gm r]
theorem lV : PyData.strOk "thing" = true := by decide +kernel
theorem ri : PyData.strOk "not" = true := by decide +kernel
theorem rj : PyData.strOk "and" = true := by decide +kernel
theorem ub : PyData.strOk "or" = true := by decide +kernel
theorem cK : ∀ s : Sen, Aa s.size (zy s)
 | .thing t => bI (n := 0) fun x hx => by
  simp at hx
  rcases hx with rfl | rfl
  ·exact bS _ _ lV
  ·exact lx _ _
 | .nt a => bI (n := a.size) fun x hx => by
  simp at hx
  rcases hx with rfl | rfl
  ·exact bS _ _ ri
  ·exact cK a
 | .an a b => bI (n := a.size + b.size) fun x hx => by
  simp at hx
  rcases hx with rfl | rfl | rfl
  ·exact bS _ _ rj
  ·exact (cK a).mono (by omega)
  ·exact (cK b).mono (by omega)
 | .or a b => bI (n := a.size + b.size) fun x hx => by
  simp at hx
  rcases hx with rfl | rfl | rfl
  ·exact bS _ _ ub
  ·exact (cK a).mono (by omega)
  ·exact (cK b).mono (by omega)
theorem bT : SeqAt.shaped (.str "thing") = true := (bS 0 _ lV).shaped (by decide)
theorem iV : SeqAt.shaped (.str "not") = true := (bS 0 _ ri).shaped (by decide)
theorem gn : SeqAt.shaped (.str "and") = true := (bS 0 _ rj).shaped (by decide)
theorem lW : SeqAt.shaped (.str "or") = true := (bS 0 _ ub).shaped (by decide)
theorem w1 : ¬ Str.ofString "not" = Str.ofString "thing" := by decide
theorem w2 : ¬ Str.ofString "and" = Str.ofString "thing" := by decide
theorem w3 : ¬ Str.ofString "or" = Str.ofString "thing" := by decide
theorem w4 : ¬ Str.ofString "and" = Str.ofString "not" := by decide
theorem w5 : ¬ Str.ofString "or" = Str.ofString "not" := by decide
theorem w6 : ¬ Str.ofString "or" = Str.ofString "and" := by decide
theorem w7 : ¬ Str.ofString "and" = Str.ofString "or" := by decide
theorem rk : AY aN (.inr "thing") = .int 2 := rfl
theorem vG : AY aN (.inr "not") = .int 2 := rfl
theorem vH : AY aN (.inr "and") = .int 3 := rfl
theorem yd : AY aN (.inr "or") = .int 3 := rfl
theorem vI {n : Nat} {s : Sen} (h : s.Ok n) : b9 [zy s, .int n] = .ok (.sh (.bool true)) := by
 have is : ∀ w : Str, isiD "str" (.str w) = true := fun _ => rfl
 have it : ∀ l, isiD "tuple" (.tuple l) = true := fun _ => rfl
 cases s with
 | thing t =>
  have hf := o4 (.int t) n (fun _ e => nomatch e)
  have ht : isFr n (.int t) = true := by
   simp only [isFr, Bool.and_eq_true, decide_eq_true_eq]
   exact h
  rw [ht] at hf
  have a0 : atI [PyData.str "thing", .int t] 0 = some (.str "thing") := rfl
  have a1 : atI [PyData.str "thing", .int t] 1 = some (.int t) := rfl
  simp only [b9, bL, zy]
  simp -implicitDefEqProofs [it, is, a0, a1, rk, bT, hf, zC, zA]
 | nt a =>
  have a0 : atI [PyData.str "not", zy a] 0 = some (.str "not") := rfl
  have pa := av a
  simp only [b9, bL, zy]
  generalize zy a = A at a0 pa
  simp -implicitDefEqProofs [it, is, a0, vG, bT, iV, w1, pa, zC, zA]
 | an a b =>
  have a0 : atI [PyData.str "and", zy a, zy b] 0 = some (.str "and") := rfl
  have pa := av a
  have pb := av b
  simp only [b9, bL, zy]
  generalize zy a = A at a0 pa
  generalize zy b = B at a0 pb
  simp -implicitDefEqProofs [it, is, a0, vH, bT, gn, w2, pa, pb, zC, zA]
 | or a b =>
  have a0 : atI [PyData.str "or", zy a, zy b] 0 = some (.str "or") := rfl
  have pa := av a
  have pb := av b
  simp only [b9, bL, zy]
  generalize zy a = A at a0 pa
  generalize zy b = B at a0 pb
  simp -implicitDefEqProofs [it, is, a0, yd, bT, lW, w3, pa, pb, zC, zA]
noncomputable def kids : Sen -> List Sen
 | .thing _ => []
 | .nt a => [a]
 | .an a b => [a, b]
 | .or a b => [a, b]
noncomputable def sumS : List Sen -> Nat
 | [] => 0
 | s :: r => s.size + sumS r
theorem bz : ∀ a b : List Sen, sumS (a ++ b) = sumS a + sumS b
 | [], b => by simp [sumS]
 | s :: r, b => by simp only [List.cons_append, sumS, bz r b]; omega
theorem dE : ∀ a : List Sen, a.length <= sumS a
 | [] => Nat.le_refl _
 | s :: r => by
  have := dE r
  have := rh s
  simp only [List.length_cons, sumS]
  omega
theorem ph (s : Sen) : s.size = sumS (kids s) + 1 := by cases s <;> simp [Sen.size, kids, sumS] <;> omega
theorem t9 {n : Nat} {s : Sen} (h : s.Ok n) : ∀ x ∈ kids s, x.Ok n := by
 cases s with
 | thing t => simp [kids]
 | nt a => simpa [kids, Sen.Ok] using h
 | an a b => simpa [kids, Sen.Ok] using h
 | or a b => simpa [kids, Sen.Ok] using h
noncomputable def dC (sd : SD) (n : Nat) (f : Int) (l : List Sen) (x : Option SD) : DEnv := [some sd, some (.sh (.int n)), some (.sh (.int f)), some (.ol (l.map zy)), x]
theorem tj {sd : SD} {n : Nat} {f : Int} {x : Option SD} : aI (dC sd n f [] x) = .ok (false, dC sd n f [] x) := by
 simp [aI, dC]
theorem vJ {sd : SD} {n : Nat} {f : Int} {l : List Sen} {s : Sen} {x : Option SD} : aI (dC sd n f (l ++ [s]) x) = .ok (true, dC sd n f (l ++ [s]) x) := by
 have hp := gm (l ++ [s])
 have hne : (l ++ [s]).map zy ≠ [] := by simp
 unfold dC
 generalize (l ++ [s]).map zy = L at hp hne
 simp [aI, hne]
theorem rl {sd : SD} {n : Nat} {f : Int} {l : List Sen} {s : Sen} {x : Option SD} (h : s.Ok n) (hf : f < 12) (hl : l.length <= 500) : aA (dC sd n f (l ++ [s]) x) = .nx (dC sd n (f + 1) (l ++ kids s) (some (.sh (zy s)))) := by
 have hF := vI h
 have e1 : ((l ++ [s]).map zy).getLast? = some (zy s) := by simp
 have e2 : ((l ++ [s]).map zy).dropLast = l.map zy := by simp
 have f12 : ¬ 12 < f + 1 := by omega
 have hz1 : (l.map zy).length + 1 <= sizeLine := aM (by rw [List.length_map]; omega)
 have hz2 : (l.map zy).length + 2 <= sizeLine := aM (by rw [List.length_map]; omega)
 have pl := gm l
 unfold dC
 simp only [List.map_append]
 simp only [List.map_append] at e1 e2
 cases s with
 | thing t =>
  have a0 : atI [PyData.str "thing", .int t] 0 = some (.str "thing") := rfl
  simp only [kids, List.append_nil, List.map_nil]
  simp only [zy, List.map_cons, List.map_nil] at hF e1 e2 ⊢
  generalize l.map zy = L at e1 e2 pl ⊢
  simp -implicitDefEqProofs [aA, e1, e2, hF, f12, a0, bT, zC, zA]
 | nt a =>
  have a0 : atI [PyData.str "not", zy a] 0 = some (.str "not") := rfl
  have pa := av a
  simp only [kids]
  simp only [zy, List.map_cons, List.map_nil] at hF e1 e2 ⊢
  generalize l.map zy = L at e1 e2 pl hz1 ⊢
  generalize zy a = A at a0 pa hF e1 e2 ⊢
  have c1 : cutD [PyData.str "not", A] (some 1) none = [A] := rfl
  simp -implicitDefEqProofs [aA, e1, e2, hF, f12, a0, c1, bT, iV, w1, pa, hz1, zC, zA]
 | an a b =>
  have a0 : atI [PyData.str "and", zy a, zy b] 0 = some (.str "and") := rfl
  have pa := av a
  have pb := av b
  simp only [kids]
  simp only [zy, List.map_cons, List.map_nil] at hF e1 e2 ⊢
  generalize l.map zy = L at e1 e2 pl hz2 ⊢
  generalize zy a = A at a0 pa hF e1 e2 ⊢
  generalize zy b = B at a0 pb hF e1 e2 ⊢
  have c1 : ∀ w : Str, cutD [PyData.str w, A, B] (some 1) none = [A, B] := fun _ => rfl
  simp -implicitDefEqProofs [aA, e1, e2, hF, f12, a0, c1, bT, gn, w2, pa, pb, hz2, zC, zA]
 | or a b =>
  have a0 : atI [PyData.str "or", zy a, zy b] 0 = some (.str "or") := rfl
  have pa := av a
  have pb := av b
  simp only [kids]
  simp only [zy, List.map_cons, List.map_nil] at hF e1 e2 ⊢
  generalize l.map zy = L at e1 e2 pl hz2 ⊢
  generalize zy a = A at a0 pa hF e1 e2 ⊢
  generalize zy b = B at a0 pb hF e1 e2 ⊢
  have c1 : ∀ w : Str, cutD [PyData.str w, A, B] (some 1) none = [A, B] := fun _ => rfl
  simp -implicitDefEqProofs [aA, e1, e2, hF, f12, a0, c1, bT, lW, w3, pa, pb, hz2, zC, zA]
theorem lX {sd : SD} {n : Nat} : ∀ (k : Nat) (f : Int) (l : List Sen) (x : Option SD), (∀ s ∈ l, s.Ok n) -> 0 <= f -> f + sumS l <= 12 -> sumS l < k -> ∃ f' x', whN aI aA k (dC sd n f l x) = .nx (dC sd n f' [] x')
 | 0, _, _, _, _, _, _, h => absurd h (by omega)
 | k + 1, f, l, x, hok, h0, h12, hk => by
  rcases List.eq_nil_or_concat l with rfl | ⟨l', s, rfl⟩
  ·refine ⟨f, x, ?_⟩
   unfold whN
   rw [tj]
   rfl
  ·rw [List.concat_eq_append] at hok h12 hk ⊢
   rw [bz] at h12 hk
   simp only [sumS, Nat.add_zero] at h12 hk
   have hsz := ph s
   have hln := dE l'
   have hs : s.Ok n := hok s (by simp)
   obtain ⟨f', x', ih⟩ := lX (sd := sd) (n := n) k (f + 1) (l' ++ kids s) (some (.sh (zy s))) (fun y hy => by
    rcases List.mem_append.mp hy with z | z
    ·exact hok y (by simp [z])
    ·exact t9 hs y z) (by omega) (by rw [bz]; omega) (by rw [bz]; omega)
   refine ⟨f', x', ?_⟩
   unfold whN
   rw [vJ]
   dsimp only
   rw [if_pos rfl, rl hs (by omega) (by omega)]
   exact ih
theorem tm {n : Nat} {s : Sen} (h : s.Ok n) (h12 : s.size <= 12) (h1 : 1 <= n) (h5 : n <= 5) : aR [zy s, .int n] = .ok (.sh .none) := by
 obtain ⟨f', x', e⟩ := lX (sd := .sh (zy s)) (n := n) 13 0 [s] none (by simpa using h) (by decide) (by simp [sumS]; omega) (by simp [sumS]; omega)
 have hw := g7 e (by simp)
 have hf := o4 (.int n) 5 (fun _ e => nomatch e)
 have ht : isFr 5 (.int n) = true := by
  simp only [isFr, Bool.and_eq_true, decide_eq_true_eq]
  omega
 rw [ht] at hf
 have pa := av s
 unfold dC at hw
 simp only [List.map_cons, List.map_nil] at hw
 simp only [aR, bM]
 generalize zy s = S at hw pa
 simp -implicitDefEqProofs [hf, hw, pa]
noncomputable def encI (c : List Int) (s : Sen) : PyData := .tuple [zy s, .bool (tru c s), .list ((vals c s).map PyData.int)]
noncomputable def A6 (w : Bool) (a b : Sen) : Sen := if w then .or a b else .an a b
def word (w : Bool) : Str := if w then "or" else "and"
theorem gW (b : Bool) : AH [.bool b] = some (.sh (.int (b01 b))) := by cases b <;> rfl
theorem rm {c : List Int} {a b : Sen} (w : Bool) (ha : nts a <= 100) (hb : nts b <= 100) : bo [encI c a, encI c b, .str (word w)] = .ok (.sh (encI c (A6 w a b))) := by
 have la := ay c a
 have lb := ay c b
 have z1 : ((vals c a).map PyData.int).length + ((vals c b).map PyData.int).length <= sizeLine := aM (by simp only [List.length_map]; omega)
 have z2 : ((vals c a).map PyData.int).length + ((vals c b).map PyData.int).length + 1 <= sizeLine := aM (by simp only [List.length_map]; omega)
 have ps := av a
 have pt := av b
 have a0 : ∀ x y z : PyData, atI [x, y, z] 0 = some x := fun _ _ _ => rfl
 have a1 : ∀ x y z : PyData, atI [x, y, z] 1 = some y := fun _ _ _ => rfl
 have a2 : ∀ x y z : PyData, atI [x, y, z] 2 = some z := fun _ _ _ => rfl
 unfold encI A6
 have pl := aP (vals c a)
 have pm := aP (vals c b)
 cases w with
 | false =>
  simp only [word, zy, tru, vals, Bool.false_eq_true, if_false, List.map_append, List.map_cons, List.map_nil]
  generalize (vals c a).map PyData.int = L at z1 z2 pl ⊢
  generalize (vals c b).map PyData.int = M at z1 z2 pm ⊢
  simp only [bo, df]
  generalize zy a = S at ps ⊢
  generalize zy b = T at pt ⊢
  cases tru c a <;> cases tru c b <;> simp -implicitDefEqProofs [a0, a1, a2, gn, lW, w7, gW, z1, z2, ps, pt, pl, pm, zC, zA, b01]
 | true =>
  simp only [word, zy, tru, vals, if_true, List.map_append, List.map_cons, List.map_nil]
  generalize (vals c a).map PyData.int = L at z1 z2 pl ⊢
  generalize (vals c b).map PyData.int = M at z1 z2 pm ⊢
  simp only [bo, df]
  generalize zy a = S at ps ⊢
  generalize zy b = T at pt ⊢
  cases tru c a <;> cases tru c b <;> simp -implicitDefEqProofs [a0, a1, a2, gn, lW, gW, z1, z2, ps, pt, pl, pm, zC, zA, b01]
theorem bp : ∀ s : Sen, nts s <= s.size
 | .thing _ => by simp [nts, Sen.size]
 | .nt a => by have := bp a; simp only [nts, Sen.size]; omega
 | .an a b => by have := bp a; have := bp b; simp only [nts, Sen.size]; omega
 | .or a b => by have := bp a; have := bp b; simp only [nts, Sen.size]; omega
theorem cu : ∀ {l : List Sen} {i : Sen}, i ∈ l -> i.size <= sumS l
 | x :: r, i, h => by
  rcases List.mem_cons.mp h with z | z
  ·subst z; simp only [sumS]; omega
  ·have := cu z; simp only [sumS]; omega
noncomputable def sumW : List Sen -> Nat
 | [] => 0
 | s :: r => nts s + 1 + sumW r
theorem bU : ∀ a b : List Sen, sumW (a ++ b) = sumW a + sumW b
 | [], b => by simp [sumW]
 | s :: r, b => by simp only [List.cons_append, sumW, bU r b]; omega
theorem rn {c : List Int} (i : Sen) : Aa (i.size + 2) (encI c i) := bI (n := i.size + 1) fun x hx => by
 simp at hx
 rcases hx with rfl | rfl | rfl
 ·exact (cK _).mono (by omega)
 ·exact oO _ _
 ·exact (ba (dY 0 _)).mono (by omega)
theorem pj {c : List Int} {l : List Sen} (h : sumS l <= 20) : SeqAt.shaped (.list (l.map (encI c))) = true := (ba (n := 22) fun x hx => by
 obtain ⟨i, hi, rfl⟩ := List.mem_map.mp hx
 exact (rn i).mono (by have := cu hi; omega)).shaped (by decide)
theorem lY {n : Nat} {a b : Sen} (w : Bool) (ha : a.Ok n) (hb : b.Ok n) : (A6 w a b).Ok n := by
 unfold A6
 cases w
 ·exact ⟨ha, hb⟩
 ·exact ⟨ha, hb⟩
theorem iW (w : Bool) (a b : Sen) : (A6 w a b).size = a.size + b.size + 1 := by cases w <;> rfl
theorem jK (w : Bool) (a b : Sen) : nts (A6 w a b) = nts a + nts b + 1 := by cases w <;> rfl
theorem lZ {α : Type} {l : List α} (h : 1 < l.length) : ∃ l' i j, l = l' ++ [i, j] := by
 have hne : l ≠ [] := by intro z; subst z; simp at h
 have e := List.dropLast_concat_getLast hne
 have hne2 : l.dropLast ≠ [] := by
  intro z
  have := congrArg List.length z
  rw [List.length_dropLast] at this
  simp at this
  omega
 have e2 := List.dropLast_concat_getLast hne2
 exact ⟨l.dropLast.dropLast, l.dropLast.getLast hne2, l.getLast hne, (e.symm.trans (congrArg (· ++ [l.getLast hne]) e2.symm)).trans (by simp)⟩
noncomputable def Aq (q : Int) (n : Nat) (l : List Sen) : List Sen :=
 if q % 4 = 1 /\ l.isEmpty = false then l.dropLast ++ [.nt (l.getLastD (.thing 1))]
 else if q % 4 = 2 /\ 1 < l.length then l.dropLast.dropLast ++ [A6 (decide (q / 4 % 2 = 1)) (l.dropLast.getLastD (.thing 1)) (l.getLastD (.thing 1))]
 else l ++ [.thing (q / 8 % (n : Int) + 1)]
theorem jL (q : Int) (n : Nat) (l : List Sen) : (∃ l' i, q % 4 = 1 /\ l = l' ++ [i] /\ Aq q n l = l' ++ [.nt i]) \/
  (∃ l' i j, q % 4 = 2 /\ l = l' ++ [i, j] /\ Aq q n l = l' ++ [A6 (decide (q / 4 % 2 = 1)) i j]) \/
  (¬ (q % 4 = 1 /\ l ≠ []) /\ ¬ (q % 4 = 2 /\ 1 < l.length) /\ Aq q n l = l ++ [.thing (q / 8 % (n : Int) + 1)]) := by
 by_cases b1 : q % 4 = 1 /\ l ≠ []
 ·refine .inl ?_
  obtain ⟨b1, b1'⟩ := b1
  obtain ⟨l', i, rfl⟩ : ∃ l' i, l = l' ++ [i] := ⟨l.dropLast, l.getLast b1', (List.dropLast_concat_getLast b1').symm⟩
  refine ⟨l', i, b1, rfl, ?_⟩
  unfold Aq
  rw [if_pos ⟨b1, by simp⟩]
  simp
 ·by_cases b2 : q % 4 = 2 /\ 1 < l.length
  ·refine .inr (.inl ?_)
   obtain ⟨b2, b2'⟩ := b2
   obtain ⟨l', i, j, rfl⟩ := lZ b2'
   refine ⟨l', i, j, b2, rfl, ?_⟩
   have e : l' ++ [i, j] = l' ++ [i] ++ [j] := by simp
   unfold Aq
   rw [if_neg (by omega), if_pos ⟨b2, b2'⟩, e]
   simp
  ·refine .inr (.inr ⟨b1, b2, ?_⟩)
   unfold Aq
   rw [if_neg (fun z => b1 ⟨z.1, fun w => by rw [w] at z; simp at z⟩), if_neg b2]
theorem ng {q : Int} {n : Nat} {l : List Sen} (h1 : 1 <= n) (hok : ∀ s ∈ l, s.Ok n) : (∀ s ∈ Aq q n l, s.Ok n) /\ sumS (Aq q n l) = sumS l + 1 /\ sumW (Aq q n l) <= sumW l + 1 /\ Aq q n l ≠ [] := by
 rcases jL q n l with ⟨l', i, _, rfl, e⟩ | ⟨l', i, j, _, rfl, e⟩ | ⟨_, _, e⟩
 ·rw [e]
  refine ⟨fun s hs => ?_, ?_, ?_, by simp⟩
  ·rcases List.mem_append.mp hs with z | z
   ·exact hok s (by simp [z])
   ·simp at z; subst z; exact hok i (by simp)
  ·rw [bz, bz]; simp only [sumS, Sen.size]; omega
  ·rw [bU, bU]; simp only [sumW, nts]; omega
 ·rw [e]
  refine ⟨fun s hs => ?_, ?_, ?_, by simp⟩
  ·rcases List.mem_append.mp hs with z | z
   ·exact hok s (by simp [z])
   ·simp at z; subst z; exact lY _ (hok i (by simp)) (hok j (by simp))
  ·rw [bz, bz]; simp only [sumS, iW]; omega
  ·rw [bU, bU]; simp only [sumW, jK]; omega
 ·rw [e]
  refine ⟨fun s hs => ?_, ?_, ?_, by simp⟩
  ·rcases List.mem_append.mp hs with z | z
   ·exact hok s z
   ·simp at z
    subst z
    have t0 : 0 <= q / 8 % (n : Int) := Int.emod_nonneg _ (by omega)
    have t1 : q / 8 % (n : Int) < n := Int.emod_lt_of_pos _ (by omega)
    exact ⟨by omega, by omega⟩
  ·rw [bz]; simp only [sumS, Sen.size]
  ·rw [bU]; simp only [sumW, nts]; omega
noncomputable def A7 (ns : List Int) (at_ : Int) (n : Nat) : Nat -> List Sen
 | 0 => []
 | j + 1 => Aq (mixZ ns (at_ + 1 + (j : Int)) 840) n (A7 ns at_ n j)
theorem eZ {ns : List Int} {at_ : Int} {n : Nat} (h1 : 1 <= n) : ∀ j, (∀ s ∈ A7 ns at_ n j, s.Ok n) /\ sumS (A7 ns at_ n j) = j /\ sumW (A7 ns at_ n j) <= j /\ (0 < j -> A7 ns at_ n j ≠ [])
 | 0 => ⟨by simp [A7], rfl, Nat.le_refl _, fun h => absurd h (by omega)⟩
 | j + 1 => by
  obtain ⟨a1, a2, a3, _⟩ := eZ (ns := ns) (at_ := at_) h1 j
  obtain ⟨b1, b2, b3, b4⟩ := ng (q := mixZ ns (at_ + 1 + (j : Int)) 840) h1 a1
  exact ⟨b1, by rw [A7, b2, a2], by rw [A7]; omega, fun _ => b4⟩
noncomputable def dM (sc : PyData) (at_ : Int) (c : List Int) (l : List Sen) (x4 x5 x6 x7 x8 : Option SD) : DEnv := [some (.sh sc), some (.sh (.int at_)), some (.sh (encL c)), some (.ol (l.map (encI c))), x4, x5, x6, x7, x8]
theorem iX (x y z : PyData) : atI [x, y, z] 0 = some x := rfl
theorem iY (x y z : PyData) : atI [x, y, z] 1 = some y := rfl
theorem iZ (x y z : PyData) : atI [x, y, z] 2 = some z := rfl
theorem o5 (w : Bool) : atI [PyData.str "and", .str "or"] (b01 w) = some (.str (word w)) := by cases w <;> rfl
theorem bV (c : List Int) (i : Sen) : zC (encI c i) = false := by simp [encI, zC, zA]
theorem o6 (c : List Int) (i : Sen) : encI c (.nt i) = .tuple [.tuple [.str "not", zy i], .bool (!tru c i), .list ((vals c i).map PyData.int ++ [.int (b01 (!tru c i))])] := by simp [encI, zy, tru, vals]
theorem tq {ns : List Int} {at_ : Int} {c : List Int} {n : Nat} {l : List Sen} {k : Nat} {x5 x6 x7 x8 : Option SD} (ha : 0 <= at_) (hc : zS n c) (h1 : 1 <= n) (hs : sumS l <= 10) :
  ∃ y5 y6 y7 y8, ax (dM (scr ns) at_ c l (some (.sh (.int (k : Int)))) x5 x6 x7 x8) = .nx (dM (scr ns) at_ c (Aq (mixZ ns (at_ + 1 + (k : Int)) 840) n l) (some (.sh (.int (k : Int)))) y5 y6 y7 y8) := by
 have hm := lU ns (at_ + 1 + k) 840 (by omega) (by decide)
 generalize mixZ ns (at_ + 1 + k) 840 = q at hm
 have hln := dE l
 have sM := pj (c := c) (l := l) (by omega)
 have g0 : SeqAt.shaped (.list []) = true := (ba (n := 50) (xs := []) fun x hx' => absurd hx' (by simp)).shaped (by decide)
 have qn := dZ (l.map (encI c))
 rcases jL q n l with ⟨l', i, b1, rfl, e⟩ | ⟨l', i, j, b2, rfl, e⟩ | ⟨b1, b2, e⟩
 ·rw [e]
  have hil := cu (l := l' ++ [i]) (i := i) (by simp)
  have hni := bp i
  refine ⟨some (.sh (.int q)), some (.sh (encI c i)), x7, x8, ?_⟩
  have e1 : ((l' ++ [i]).map (encI c)).getLast? = some (encI c i) := by simp
  have e2 : ((l' ++ [i]).map (encI c)).dropLast = l'.map (encI c) := by simp
  have z1 : (l'.map (encI c)).length < sizeLine := bB (by rw [List.length_map]; simp at hln; omega)
  have z2 : ((vals c i).map PyData.int).length + 1 <= sizeLine := aM (by rw [List.length_map, ay]; omega)
  have e3 : ((l' ++ [i]).map (encI c)).isEmpty = false := by simp
  rw [e3] at qn
  have e4 : (l' ++ [Sen.nt i]).map (encI c) = l'.map (encI c) ++ [encI c (.nt i)] := by simp
  unfold dM
  rw [e4]
  generalize (l' ++ [i]).map (encI c) = L at e1 e2 sM qn
  generalize l'.map (encI c) = L' at e2 z1
  rw [o6]
  have ps := av i
  have pl := aP (vals c i)
  unfold encI at e1 ⊢
  generalize zy i = S at e1 ps ⊢
  generalize (vals c i).map PyData.int = IL at e1 pl z2 ⊢
  generalize tru c i = v at e1 ⊢
  cases v <;> simp -implicitDefEqProofs [ax, hm, b1, sM, g0, qn, e1, e2, iX, iY, iZ, gW, b01, z1, z2, ps, pl, zC, zA]
 ·rw [e]
  have n1 : ¬ q % 4 = 1 := by omega
  have hil := cu (l := l' ++ [i, j]) (i := i) (by simp)
  have hjl := cu (l := l' ++ [i, j]) (i := j) (by simp)
  have hni := bp i
  have hnj := bp j
  have hw : q / 4 % 2 = b01 (decide (q / 4 % 2 = 1)) := by unfold b01; split <;> simp_all <;> omega
  have hwa := o5 (decide (q / 4 % 2 = 1))
  rw [<- hw] at hwa
  generalize decide (q / 4 % 2 = 1) = w at hwa
  have hjn := rm (c := c) (a := i) (b := j) w (by omega) (by omega)
  refine ⟨some (.sh (.int q)), x6, some (.sh (encI c j)), x8, ?_⟩
  have e1 : ((l' ++ [i, j]).map (encI c)).getLast? = some (encI c j) := by simp
  have e2 : ((l' ++ [i, j]).map (encI c)).dropLast = (l' ++ [i]).map (encI c) := by
   have : l' ++ [i, j] = l' ++ [i] ++ [j] := by simp
   rw [this, List.map_append, List.map_singleton, List.dropLast_concat]
  have e1b : ((l' ++ [i]).map (encI c)).getLast? = some (encI c i) := by simp
  have e2b : ((l' ++ [i]).map (encI c)).dropLast = l'.map (encI c) := by simp
  have z1 : (l'.map (encI c)).length < sizeLine := bB (by rw [List.length_map]; simp at hln; omega)
  have el : ((l' ++ [i, j]).map (encI c)).length = l'.length + 2 := by simp
  have el2 : (1 : Int) < (((l' ++ [i, j]).map (encI c)).length : Int) := by rw [el]; omega
  have e4 : (l' ++ [A6 w i j]).map (encI c) = l'.map (encI c) ++ [encI c (A6 w i j)] := by simp
  unfold dM
  rw [e4]
  clear el qn
  have pM := bV c (A6 w i j)
  have pI := bV c i
  have pJ := bV c j
  generalize (l' ++ [i, j]).map (encI c) = L at e1 e2 sM el2 ⊢
  generalize (l' ++ [i]).map (encI c) = L1 at e2 e1b e2b
  generalize l'.map (encI c) = L' at e2b z1 ⊢
  generalize encI c (A6 w i j) = J' at hjn pM ⊢
  generalize encI c i = I' at hjn e1b pI
  generalize encI c j = J at hjn e1 pJ ⊢
  simp -implicitDefEqProofs [ax, hm, n1, b2, el2, e1, e2, e1b, e2b, hwa, hjn, z1, pM, pI, pJ, zC, zA]
 ·rw [e]
  have hcn := hc.len
  have t0 : 0 <= q / 8 % (n : Int) := Int.emod_nonneg _ (by omega)
  have t1 : q / 8 % (n : Int) < c.length := by rw [hcn]; exact Int.emod_lt_of_pos _ (by omega)
  have ea : atI (c.map PyData.int) (q / 8 % (n : Int)) = some (.int (c.getD (q / 8 % (n : Int)).toNat 0)) := fH t0 t1
  have hcl : (0 : Int) < (n : Int) := by omega
  have e5 : encI c (.thing (q / 8 % (n : Int) + 1)) = .tuple [.tuple [.str "thing", .int (q / 8 % (n : Int) + 1)], .bool (decide (c.getD (q / 8 % (n : Int)).toNat 0 = 1)), .list []] := by
   simp [encI, zy, tru, valC, vals]
  refine ⟨some (.sh (.int q)), x6, x7, some (.sh (.int (q / 8 % (n : Int)))), ?_⟩
  have z1 : (l.map (encI c)).length < sizeLine := bB (by rw [List.length_map]; omega)
  have e4 : (l ++ [Sen.thing (q / 8 % (n : Int) + 1)]).map (encI c) = l.map (encI c) ++ [encI c (.thing (q / 8 % (n : Int) + 1))] := by simp
  unfold dM
  rw [e4, e5]
  have el : ((l.map (encI c)).length : Int) = (l.length : Int) := by simp
  have hemp : (l.map (encI c)).isEmpty = l.isEmpty := by simp
  rw [hemp] at qn
  have clen : ((c.map PyData.int).length : Int) = (n : Int) := by simp [hcn]
  generalize c.getD (q / 8 % (n : Int)).toNat 0 = v at ea ⊢
  generalize (n : Int) = cl at ea t0 t1 hcl clen ⊢
  unfold encL
  generalize c.map PyData.int = C at ea clen ⊢
  generalize l.map (encI c) = L at sM qn z1 el ⊢
  by_cases q1 : q % 4 = 1
  ·have hl0 : l = [] := by
    cases l with
    | nil => rfl
    | cons a r => exact absurd ⟨q1, by simp⟩ b1
   subst hl0
   have q2 : ¬ q % 4 = 2 := by omega
   simp only [List.isEmpty_nil] at qn
   simp -implicitDefEqProofs [ax, hm, q1, q2, sM, g0, qn, clen, hcl, ea, z1, zC, zA]
  ·by_cases q2 : q % 4 = 2
   ·have hl1 : ¬ 1 < l.length := fun z => b2 ⟨q2, z⟩
    have hl2 : ¬ (1 : Int) < (L.length : Int) := by rw [el]; omega
    simp -implicitDefEqProofs [ax, hm, q1, q2, hl2, clen, hcl, ea, z1, zC, zA]
   ·simp -implicitDefEqProofs [ax, hm, q1, q2, clen, hcl, ea, z1, zC, zA]
theorem vK {ns : List Int} {at_ : Int} {c : List Int} {i : Sen} {x4 x5 x6 x7 x8 : Option SD} : aS (dM (scr ns) at_ c [i] x4 x5 x6 x7 x8) = .ok (false, dM (scr ns) at_ c [i] x4 x5 x6 x7 x8) := by
 simp [aS, dM]
theorem ye {ns : List Int} {at_ : Int} {c : List Int} {l : List Sen} (h : 1 < l.length) {x4 x5 x6 x7 x8 : Option SD} : aS (dM (scr ns) at_ c l x4 x5 x6 x7 x8) = .ok (true, dM (scr ns) at_ c l x4 x5 x6 x7 x8) := by
 have hl : (1 : Int) < ((l.map (encI c)).length : Int) := by rw [List.length_map]; omega
 unfold dM
 generalize l.map (encI c) = L at hl
 simp [aS, hl]
theorem tu {ns : List Int} {at_ : Int} {c : List Int} {l : List Sen} {i j : Sen} {x4 x5 x6 x7 x8 : Option SD} (ha : 0 <= at_) (hs : sumS (l ++ [i, j]) <= 20) :
  ∃ y7, br (dM (scr ns) at_ c (l ++ [i, j]) x4 x5 x6 x7 x8) = .nx (dM (scr ns) at_ c (l ++ [A6 (decide (mixZ ns (at_ + 7) 2 = 1)) i j]) x4 x5 x6 y7 x8) := by
 have hm := lU ns (at_ + 7) 2 (by omega) (by decide)
 have m0 := jZ ns (at_ + 7) (m := 2) (by decide)
 have m1 := ka ns (at_ + 7) (m := 2) (by decide)
 generalize mixZ ns (at_ + 7) 2 = q at hm m0 m1
 have hln := dE (l ++ [i, j])
 have hil := cu (l := l ++ [i, j]) (i := i) (by simp)
 have hjl := cu (l := l ++ [i, j]) (i := j) (by simp)
 have hni := bp i
 have hnj := bp j
 have hw : q = b01 (decide (q = 1)) := by unfold b01; split <;> simp_all <;> omega
 have hwa := o5 (decide (q = 1))
 rw [<- hw] at hwa
 generalize decide (q = 1) = w at hwa
 have hjn := rm (c := c) (a := i) (b := j) w (by omega) (by omega)
 refine ⟨some (.sh (encI c j)), ?_⟩
 have e1 : ((l ++ [i, j]).map (encI c)).getLast? = some (encI c j) := by simp
 have e2 : ((l ++ [i, j]).map (encI c)).dropLast = (l ++ [i]).map (encI c) := by
  have : l ++ [i, j] = l ++ [i] ++ [j] := by simp
  rw [this, List.map_append, List.map_singleton, List.dropLast_concat]
 have e1b : ((l ++ [i]).map (encI c)).getLast? = some (encI c i) := by simp
 have e2b : ((l ++ [i]).map (encI c)).dropLast = l.map (encI c) := by simp
 have z1 : (l.map (encI c)).length < sizeLine := bB (by rw [List.length_map]; simp at hln; omega)
 have e4 : (l ++ [A6 w i j]).map (encI c) = l.map (encI c) ++ [encI c (A6 w i j)] := by simp
 unfold dM
 rw [e4]
 have pM := bV c (A6 w i j)
 have pI := bV c i
 have pJ := bV c j
 generalize (l ++ [i, j]).map (encI c) = L at e1 e2 ⊢
 generalize (l ++ [i]).map (encI c) = L1 at e2 e1b e2b
 generalize l.map (encI c) = L' at e2b z1 ⊢
 generalize encI c (A6 w i j) = J' at hjn pM ⊢
 generalize encI c i = I' at hjn e1b pI
 generalize encI c j = J at hjn e1 pJ ⊢
 simp -implicitDefEqProofs [br, hm, e1, e2, e1b, e2b, hwa, hjn, z1, pM, pI, pJ, zC, zA]
theorem o7 {ns : List Int} {at_ : Int} {n : Nat} (ha : 0 <= at_) : ∀ (k : Nat) (l : List Sen), l.length = k + 1 -> (∀ x ∈ l, x.Ok n) -> sumS l + k <= 11 ->
  ∃ i : Sen, i.Ok n /\ i.size <= 11 /\ nts i + 1 = sumW l /\ ∀ (c : List Int) (x4 x5 x6 x7 x8 : Option SD), ∃ y7, whN aS br (k + 1) (dM (scr ns) at_ c l x4 x5 x6 x7 x8) = .nx (dM (scr ns) at_ c [i] x4 x5 x6 y7 x8)
 | 0, l, hl, hok, hs => by
  obtain ⟨i, rfl⟩ := List.length_eq_one_iff.mp hl
  refine ⟨i, hok i (by simp), by simp [sumS] at hs; omega, by simp [sumW], fun c x4 x5 x6 x7 x8 => ⟨x7, ?_⟩⟩
  unfold whN
  rw [vK]
  rfl
 | k + 1, l, hl, hok, hs => by
  obtain ⟨l', i, j, rfl⟩ := lZ (l := l) (by omega)
  obtain ⟨r, i1, i2, i3, ih⟩ := o7 (ns := ns) (n := n) ha k (l' ++ [A6 (decide (mixZ ns (at_ + 7) 2 = 1)) i j]) (by simp at hl ⊢; omega) (fun x hx => by
   rcases List.mem_append.mp hx with z | z
   ·exact hok x (by simp [z])
   ·simp at z; subst z; exact lY _ (hok i (by simp)) (hok j (by simp))) (by
   rw [bz] at hs ⊢
   simp only [sumS, iW] at hs ⊢
   omega)
  refine ⟨r, i1, i2, ?_, fun c x4 x5 x6 x7 x8 => ?_⟩
  ·rw [i3, bU, bU]
   simp only [sumW, jK]
   omega
  ·obtain ⟨y7, e⟩ := tu (ns := ns) (c := c) (x4 := x4) (x5 := x5) (x6 := x6) (x7 := x7) (x8 := x8) ha (l := l') (i := i) (j := j) (by omega)
   obtain ⟨z7, ih⟩ := ih c x4 x5 x6 y7 x8
   refine ⟨z7, ?_⟩
   unfold whN
   rw [ye (by simp)]
   dsimp only
   rw [if_pos rfl, e]
   exact ih
theorem nh {ns : List Int} {at_ : Int} {n : Nat} (ha : 0 <= at_) (h1 : 1 <= n) : ∃ s : Sen, s.Ok n /\ s.size <= 12 /\ nts s <= 6 /\ ∀ c : List Int, zS n c -> aw [scr ns, .int at_, encL c] = .ok (.sh (encI c s)) := by
 have hm := lU ns at_ 6 ha (by decide)
 have m0 := jZ ns at_ (m := 6) (by decide)
 have m1 := ka ns at_ (m := 6) (by decide)
 have hm8 := lU ns (at_ + 8) 3 (by omega) (by decide)
 generalize mixZ ns at_ 6 = q at hm m0 m1
 generalize mixZ ns (at_ + 8) 3 = q8 at hm8
 obtain ⟨m, hmI⟩ : ∃ m : Nat, 1 + q = (m : Int) := ⟨(1 + q).toNat, by omega⟩
 obtain ⟨hok, hsum, hsw, hne⟩ := eZ (ns := ns) (at_ := at_) h1 m
 have hln := dE (A7 ns at_ n m)
 have hl0 : 0 < (A7 ns at_ n m).length := List.length_pos_iff.mpr (hne (by omega))
 obtain ⟨i, iok, isz, inn, ew⟩ := o7 (ns := ns) (at_ := at_) (n := n) ha ((A7 ns at_ n m).length - 1) (A7 ns at_ n m) (by omega) hok (by omega)
 have hr : rngB (m : Int) = true := nM (by omega) (by omega)
 have run : ∀ c : List Int, zS n c -> ∃ y4 y5 y6 y7 y8, forL (kN 4) ax (rngI 0 m) (dM (scr ns) at_ c [] none none none none none) = .nx (dM (scr ns) at_ c (A7 ns at_ n m) y4 y5 y6 y7 y8) := fun c hc => by
  obtain ⟨δ', e1, y4, y5, y6, y7, y8, rfl⟩ := iF (k := kN 4) (fb := ax) (lo := 0) (n := m) (δ := dM (scr ns) at_ c [] none none none none none)
   (fun j δ => ∃ y4 y5 y6 y7 y8, δ = dM (scr ns) at_ c (A7 ns at_ n j) y4 y5 y6 y7 y8) ⟨none, none, none, none, none, rfl⟩ (by
    rintro i δ hi ⟨y4, y5, y6, y7, y8, rfl⟩
    obtain ⟨_, g2, _, _⟩ := eZ (ns := ns) (at_ := at_) h1 i
    obtain ⟨z5, z6, z7, z8, e⟩ := tq (ns := ns) (l := A7 ns at_ n i) (k := i) (x5 := y5) (x6 := y6) (x7 := y7) (x8 := y8) ha hc h1 (by omega)
    refine ⟨dM (scr ns) at_ c (A7 ns at_ n i) (some (.sh (.int (i : Int)))) y5 y6 y7 y8, ?_, _, e, _, _, _, _, _, rfl⟩
    rw [Int.zero_add]
    rfl)
  exact ⟨_, _, _, _, _, e1⟩
 by_cases h8 : q8 = 0
 ·refine ⟨.nt i, iok, by simp only [Sen.size]; omega, by simp only [nts]; omega, fun c hc => ?_⟩
  obtain ⟨y4, y5, y6, y7, y8, e1⟩ := run c hc
  obtain ⟨z7, ew⟩ := ew c y4 y5 y6 y7 y8
  have ew' := g7 ew (by simp)
  have hni := bp i
  unfold dM at e1 ew'
  simp only [List.map_nil] at e1
  simp only [List.map_cons, List.map_nil] at ew'
  have a0 : atI [encI c i] 0 = some (encI c i) := rfl
  have pI := bV c i
  have z2 : ((vals c i).map PyData.int).length + 1 <= sizeLine := aM (by rw [List.length_map, ay]; omega)
  rw [o6]
  have ps := av i
  have pl := aP (vals c i)
  generalize (A7 ns at_ n m).map (encI c) = L at e1 ew'
  unfold encI at ew' a0 pI
  generalize zy i = S at ew' a0 pI ps ⊢
  generalize (vals c i).map PyData.int = IL at ew' a0 pI pl z2 ⊢
  generalize tru c i = v at ew' a0 pI ⊢
  generalize encL c = C at e1 ew' ⊢
  generalize scr ns = sc at hm hm8 e1 ew' ⊢
  simp only [aw, bF]
  cases v <;> simp -implicitDefEqProofs [hm, hmI, hr, e1, ew', hm8, h8, a0, iX, iY, iZ, gW, b01, z2, ps, pl, pI, zC, zA]
 ·refine ⟨i, iok, by omega, by omega, fun c hc => ?_⟩
  obtain ⟨y4, y5, y6, y7, y8, e1⟩ := run c hc
  obtain ⟨z7, ew⟩ := ew c y4 y5 y6 y7 y8
  have ew' := g7 ew (by simp)
  unfold dM at e1 ew'
  simp only [List.map_nil] at e1
  simp only [List.map_cons, List.map_nil] at ew'
  have a0 : atI [encI c i] 0 = some (encI c i) := rfl
  have pI := bV c i
  generalize (A7 ns at_ n m).map (encI c) = L at e1 ew'
  generalize encI c i = I' at ew' a0 pI ⊢
  generalize encL c = C at e1 ew' ⊢
  generalize scr ns = sc at hm hm8 e1 ew' ⊢
  simp only [aw, bF]
  simp -implicitDefEqProofs [hm, hmI, hr, e1, ew', hm8, h8, a0, pI, zC, zA]
theorem gp (ns : List Int) : (zN ns).Nodup /\ ∀ p, p ∈ zN ns ↔ p ∈ ns := by
 have key : ∀ (l acc : List Int), acc.Nodup -> (l.foldl addK acc).Nodup /\ ∀ p, p ∈ l.foldl addK acc ↔ p ∈ acc \/ p ∈ l := by
  intro l
  induction l with
  | nil => intro acc h; exact ⟨h, fun p => by simp⟩
  | cons a r ih =>
   intro acc h
   have hn : (addK acc a).Nodup := by
    unfold addK
    split
    ·exact h
    ·rename_i hm
     rw [List.nodup_append]
     exact ⟨h, by simp, fun x hx y hy => by simp at hy; subst hy; intro e; subst e; exact hm hx⟩
   obtain ⟨h1, h2⟩ := ih (addK acc a) hn
   refine ⟨h1, fun p => ?_⟩
   rw [List.foldl_cons, h2]
   unfold addK
   split
   ·rename_i hm
    simp only [List.mem_cons]
    constructor
    ·rintro (z | z)
     ·exact .inl z
     ·exact .inr (.inr z)
    ·rintro (z | rfl | z)
     ·exact .inl z
     ·exact .inl hm
     ·exact .inr z
   ·simp only [List.mem_append, List.mem_cons, List.not_mem_nil, or_false]
    constructor
    ·rintro ((z | z) | z)
     ·exact .inl z
     ·exact .inr (.inl z)
     ·exact .inr (.inr z)
    ·rintro (z | z | z)
     ·exact .inl (.inl z)
     ·exact .inl (.inr z)
     ·exact .inr z
 obtain ⟨h1, h2⟩ := key ns [] List.nodup_nil
 exact ⟨h1, fun p => by have := h2 p; simpa [zN] using this⟩
def byT (ns : List Int) : List Int := Ay (A9 (zN ns))
noncomputable def Apart (ns : List Int) : Prop := ∀ a ∈ ns, ∀ b ∈ ns, absI a = absI b -> a = b
theorem fN (ns : List Int) (p : Int) : p ∈ byT ns ↔ p ∈ ns := (bC _).mem_iff.trans ((bG _).mem_iff.trans ((gp ns).2 p))
theorem jM (ns : List Int) : (A9 (zN ns)).Nodup := (bG _).nodup_iff.mpr (gp ns).1
theorem pq {ns : List Int} (h : Apart ns) : AJ (A9 (zN ns)) = true := by
 refine decide_eq_true (List.Pairwise.imp_of_mem (fun {a b} ha hb hne e => ?_) (jM ns))
 have m : ∀ q, q ∈ A9 (zN ns) -> q ∈ ns := fun q hq => ((gp ns).2 q).mp ((bG _).mem_iff.mp hq)
 exact hne (h a (m a ha) b (m b hb) e)
theorem vL {ns : List Int} {m : Int} (h : Apart ns) (hl : ∀ p ∈ ns, 1 <= absI p /\ absI p <= m) : Bq m (byT ns) := by
 refine ⟨?_, fun p hp => hl p ((fN ns p).mp hp)⟩
 rw [List.pairwise_map]
 have nd : (byT ns).Nodup := (bC _).nodup_iff.mpr (jM ns)
 refine List.Pairwise.imp_of_mem (fun {a b} ha hb z => ?_) ((cX (A9 (zN ns))).and nd)
 obtain ⟨z1, z2⟩ := z
 have z3 : absI a <= absI b := z1
 have z4 : absI a ≠ absI b := fun e => z2 (h a ((fN ns a).mp ha) b ((fN ns b).mp hb) e)
 omega
theorem vM (c ns : List Int) : A1 c (byT ns) = A1 c ns := by
 unfold A1
 rw [Bool.eq_iff_iff, List.any_eq_true, List.any_eq_true]
 constructor
 ·rintro ⟨p, hp, e⟩; exact ⟨p, (fN ns p).mp hp, e⟩
 ·rintro ⟨p, hp, e⟩; exact ⟨p, (fN ns p).mpr hp, e⟩
theorem tw (x : Int) : byT [x] = [x] := rfl
theorem zm {ns : List Int} (h : Apart ns) (hl : ns.length < 64) : aG [.list (ns.map PyData.int)] = .ok (.sh (encS (byT ns))) := by
 have hd := jI ns
 have hsl : (A9 (zN ns)).length = (zN ns).length := (bG _).length_eq
 have hS : Al [.list (ns.map PyData.int)] = some (.ol ((A9 (zN ns)).map PyData.int)) := by
  rw [gE, if_pos (by rw [List.length_map]; exact hl), bg]
  rfl
 have hA : Av [.list ((A9 (zN ns)).map PyData.int)] = some (.ol ((byT ns).map PyData.int)) := by
  unfold Av
  dsimp only
  rw [if_pos (by rw [List.length_map]; omega), bg]
  dsimp only
  rw [if_pos (pq h)]
  rfl
 simp only [aG, dw]
 unfold encS
 have p1 := aP (A9 (zN ns))
 have p2 := aP (byT ns)
 have p3 := aP ns
 generalize (A9 (zN ns)).map PyData.int = S at hS hA p1
 generalize (byT ns).map PyData.int = T at hA p2 ⊢
 generalize ns.map PyData.int = N at hS p3 ⊢
 simp -implicitDefEqProofs [-gE, hS, hA, p1, p2, p3]
noncomputable def Bs (i : Int) : Row -> Prop
 | (.nt, [x]) => 1 <= x /\ x < i
 | (.an, [x, y]) => (1 <= x /\ x < i) /\ (1 <= y /\ y < i)
 | (.or, [x, y]) => (1 <= x /\ x < i) /\ (1 <= y /\ y < i)
 | _ => False
noncomputable def Ag : Int -> List Row -> Prop
 | _, [] => True
 | i, r :: rs => Bs i r /\ Ag (i + 1) rs
theorem cL : ∀ (a b : List Row) (i : Int), Ag i (a ++ b) ↔ Ag i a /\ Ag (i + a.length) b
 | [], b, i => by simp [Ag]
 | r :: rs, b, i => by
  have e : i + 1 + (rs.length : Int) = i + ((rs.length + 1 : Nat) : Int) := by omega
  simp only [List.cons_append, Ag, cL rs b, List.length_cons, e, and_assoc]
theorem e9 {n : Nat} : ∀ (s : Sen) (k : Nat), s.Ok n -> 1 <= numS n k s /\ numS n k s <= ((n + k + nts s : Nat) : Int)
 | .thing t, k, h => by
  obtain ⟨h1, h2⟩ : 1 <= t /\ t <= n := h
  refine ⟨h1, ?_⟩
  show t <= _
  omega
 | .nt a, k, h => by simp only [numS, nts]; omega
 | .an a b, k, h => by simp only [numS, nts]; omega
 | .or a b, k, h => by simp only [numS, nts]; omega
theorem cy {n : Nat} : ∀ (s : Sen) (k : Nat), s.Ok n -> Ag ((n + k + 1 : Nat) : Int) (zD n k s)
 | .thing _, _, _ => trivial
 | .nt a, k, h => by
  have ha := e9 a k h
  rw [zD, cL, aj]
  exact ⟨cy a k h, ⟨ha.1, by omega⟩, trivial⟩
 | .an a b, k, h => by
  have ha := e9 a k h.1
  have hb := e9 b (k + nts a) h.2
  have ib := cy b (k + nts a) h.2
  rw [zD, cL, cL, aj, List.length_append, aj, aj]
  rw [show ((n + k + 1 : Nat) : Int) + ((nts a : Nat) : Int) = ((n + (k + nts a) + 1 : Nat) : Int) by omega]
  exact ⟨⟨cy a k h.1, ib⟩, ⟨⟨ha.1, by omega⟩, hb.1, by omega⟩, trivial⟩
 | .or a b, k, h => by
  have ha := e9 a k h.1
  have hb := e9 b (k + nts a) h.2
  have ib := cy b (k + nts a) h.2
  rw [zD, cL, cL, aj, List.length_append, aj, aj]
  rw [show ((n + k + 1 : Nat) : Int) + ((nts a : Nat) : Int) = ((n + (k + nts a) + 1 : Nat) : Int) by omega]
  exact ⟨⟨cy a k h.1, ib⟩, ⟨⟨ha.1, by omega⟩, hb.1, by omega⟩, trivial⟩
noncomputable def Aw (m : Int) (l : List Int) : Prop := Apart l /\ (∀ p ∈ l, 1 <= absI p /\ absI p <= m) /\ l.length < 64
theorem Aw.mono {m m' : Int} {l : List Int} (h : Aw m l) (hm : m <= m') : Aw m' l := ⟨h.1, fun p hp => ⟨(h.2.1 p hp).1, by have := (h.2.1 p hp).2; omega⟩, h.2.2⟩
theorem line2 {m a b : Int} (ha : 1 <= absI a /\ absI a <= m) (hb : 1 <= absI b /\ absI b <= m) (h : absI a ≠ absI b) : Aw m [a, b] := by
 refine ⟨fun p hp q hq e => ?_, fun p hp => ?_, by simp⟩
 ·simp only [List.mem_cons, List.not_mem_nil, or_false] at hp hq
  rcases hp with rfl | rfl <;> rcases hq with rfl | rfl
  ·rfl
  ·exact absurd e h
  ·exact absurd e.symm h
  ·rfl
 ·simp only [List.mem_cons, List.not_mem_nil, or_false] at hp
  rcases hp with rfl | rfl
  ·exact ha
  ·exact hb
theorem line3 {m a b c : Int} (ha : 1 <= absI a /\ absI a <= m) (hb : 1 <= absI b /\ absI b <= m) (hc : 1 <= absI c /\ absI c <= m) (h1 : absI a ≠ absI b) (h2 : absI a ≠ absI c) (h3 : absI b = absI c -> b = c) : Aw m [a, b, c] := by
 refine ⟨fun p hp q hq e => ?_, fun p hp => ?_, by simp⟩
 ·simp only [List.mem_cons, List.not_mem_nil, or_false] at hp hq
  rcases hp with rfl | rfl | rfl <;> rcases hq with rfl | rfl | rfl
  ·rfl
  ·exact absurd e h1
  ·exact absurd e h2
  ·exact absurd e.symm h1
  ·rfl
  ·exact h3 e
  ·exact absurd e.symm h2
  ·exact (h3 e.symm).symm
  ·rfl
 ·simp only [List.mem_cons, List.not_mem_nil, or_false] at hp
  rcases hp with rfl | rfl | rfl
  ·exact ha
  ·exact hb
  ·exact hc
theorem dh {x : Int} (h : 1 <= x) : absI x = x := by unfold absI; rw [if_neg (by omega)]
theorem dF {x : Int} (h : 1 <= x) : absI (-x) = x := by unfold absI; rw [if_pos (by omega)]; omega
theorem eh {i : Int} : ∀ {r : Row}, Bs i r -> ∀ l ∈ tieR i r, Aw i l
 | (.nt, [x]), h, l, hl => by
  obtain ⟨h1, h2⟩ : 1 <= x /\ x < i := h
  simp only [tieR, List.getD_cons_zero, List.mem_cons, List.not_mem_nil, or_false] at hl
  have ex := dh h1
  have nx := dF h1
  have ei := dh (x := i) (by omega)
  have ni := dF (x := i) (by omega)
  rcases hl with rfl | rfl
  ·exact line2 (by omega) (by omega) (by omega)
  ·exact line2 (by omega) (by omega) (by omega)
 | (.an, [x, y]), h, l, hl => by
  obtain ⟨⟨h1, h2⟩, h3, h4⟩ : (1 <= x /\ x < i) /\ (1 <= y /\ y < i) := h
  simp only [tieR, List.map_cons, List.map_nil, List.cons_append, List.nil_append, List.mem_cons, List.not_mem_nil, or_false] at hl
  have ex := dh h1
  have nx := dF h1
  have ey := dh h3
  have ny := dF h3
  have ei := dh (x := i) (by omega)
  have ni := dF (x := i) (by omega)
  rcases hl with rfl | rfl | rfl
  ·exact line2 (by omega) (by omega) (by omega)
  ·exact line2 (by omega) (by omega) (by omega)
  ·exact line3 (by omega) (by omega) (by omega) (by omega) (by omega) (by omega)
 | (.or, [x, y]), h, l, hl => by
  obtain ⟨⟨h1, h2⟩, h3, h4⟩ : (1 <= x /\ x < i) /\ (1 <= y /\ y < i) := h
  simp only [tieR, List.map_cons, List.map_nil, List.cons_append, List.nil_append, List.mem_cons, List.not_mem_nil, or_false] at hl
  have ex := dh h1
  have nx := dF h1
  have ey := dh h3
  have ny := dF h3
  have ei := dh (x := i) (by omega)
  have ni := dF (x := i) (by omega)
  rcases hl with rfl | rfl | rfl
  ·exact line2 (by omega) (by omega) (by omega)
  ·exact line2 (by omega) (by omega) (by omega)
  ·exact line3 (by omega) (by omega) (by omega) (by omega) (by omega) (by omega)
 | (.nt, []), h, _, _ => h.elim
 | (.nt, _ :: _ :: _), h, _, _ => h.elim
 | (.an, []), h, _, _ => h.elim
 | (.an, [_]), h, _, _ => h.elim
 | (.an, _ :: _ :: _ :: _), h, _, _ => h.elim
 | (.or, []), h, _, _ => h.elim
 | (.or, [_]), h, _, _ => h.elim
 | (.or, _ :: _ :: _ :: _), h, _, _ => h.elim
theorem fO : ∀ {rs : List Row} {i m : Int}, Ag i rs -> i + rs.length <= m + 1 -> ∀ l ∈ zE i rs, Aw m l
 | [], _, _, _, _, l, hl => by simp [zE] at hl
 | r :: rs, i, m, h, hm, l, hl => by
  simp only [List.length_cons] at hm
  rcases List.mem_append.mp hl with z | z
  ·exact (eh h.1 l z).mono (by omega)
  ·exact fO h.2 (by omega) l z
theorem m4 {i : Int} : ∀ {r : Row}, Bs i r -> (tieR i r).length <= 3
 | (.nt, [x]), _ => by simp [tieR]
 | (.an, [x, y]), _ => by simp [tieR]
 | (.or, [x, y]), _ => by simp [tieR]
 | (.nt, []), h => h.elim
 | (.nt, _ :: _ :: _), h => h.elim
 | (.an, []), h => h.elim
 | (.an, [_]), h => h.elim
 | (.an, _ :: _ :: _ :: _), h => h.elim
 | (.or, []), h => h.elim
 | (.or, [_]), h => h.elim
 | (.or, _ :: _ :: _ :: _), h => h.elim
theorem j0 : ∀ {rs : List Row} {i : Int}, Ag i rs -> (zE i rs).length <= 3 * rs.length
 | [], _, _ => by simp [zE]
 | r :: rs, i, h => by
  have h1 := m4 h.1
  have h2 := j0 h.2
  simp only [zE, List.length_append, List.length_cons]
  omega
noncomputable def wdS : Wd -> Str
 | .nt => "not"
 | .an => "and"
 | .or => "or"
noncomputable def zG (r : Row) : PyData := .tuple [.str (wdS r.1), .list (r.2.map PyData.int)]
noncomputable def depth : Sen -> Nat
 | .thing _ => 1
 | .nt a => depth a + 1
 | .an a b => max (depth a) (depth b) + 1
 | .or a b => max (depth a) (depth b) + 1
theorem cM : ∀ s : Sen, depth s <= s.size
 | .thing _ => Nat.le_refl _
 | .nt a => by have := cM a; simp only [depth, Sen.size]; omega
 | .an a b => by have := cM a; have := cM b; simp only [depth, Sen.size]; omega
 | .or a b => by have := cM a; have := cM b; simp only [depth, Sen.size]; omega
theorem et {n : Nat} : ∀ (m : Nat) (s : Sen) (k : Nat) (st : zt), depth s <= m -> st.length = k -> k + nts s <= 100 -> numD m n (zy s) st = some (numS n k s, st ++ (zD n k s).map zG)
 | 0, s, k, st, h, _, _ => by cases s <;> simp [depth] at h
 | m + 1, .thing t, k, st, _, _, _ => by simp [zy, numD, numS, zD]
 | m + 1, .nt a, k, st, h, hk, hl => by
  simp only [depth] at h
  simp only [nts] at hl
  have ia := et (n := n) m a k st (by omega) hk (by omega)
  have hz : (1 : Nat) < sizeLine := bB (by decide)
  have hz2 : (st ++ (zD n k a).map zG).length < sizeLine := bB (by rw [List.length_append, List.length_map, aj]; omega)
  have hlen : (st ++ (zD n k a).map zG).length = k + nts a := by rw [List.length_append, List.length_map, aj, hk]
  simp only [zy, numD]
  rw [if_neg w1, if_pos (by simpa using hz)]
  simp only [numL, ia, Option.bind_some, Option.map_some]
  unfold AG
  dsimp only
  rw [if_pos hz2, hlen]
  have e : (n : Int) + (((k + nts a : Nat) : Int) + 1) = numS n k (.nt a) := by rw [r6]; omega
  rw [e]
  simp [zD, zG, wdS]
 | m + 1, .an a b, k, st, h, hk, hl => by
  simp only [depth] at h
  simp only [nts] at hl
  have ia := et (n := n) m a k st (by omega) hk (by omega)
  have ib := et (n := n) m b (k + nts a) (st ++ (zD n k a).map zG) (by omega) (by rw [List.length_append, List.length_map, aj, hk]) (by omega)
  have hz : (2 : Nat) < sizeLine := bB (by decide)
  have hlen : (st ++ (zD n k a).map zG ++ (zD n (k + nts a) b).map zG).length = k + (nts a + nts b) := by rw [List.length_append, List.length_append, List.length_map, List.length_map, aj, aj, hk]; omega
  have hz2 : (st ++ (zD n k a).map zG ++ (zD n (k + nts a) b).map zG).length < sizeLine := bB (by rw [hlen]; omega)
  simp only [zy, numD]
  rw [if_neg w2, if_pos (by simpa using hz)]
  simp only [numL, ia, ib, Option.bind_some, Option.map_some]
  unfold AG
  dsimp only
  rw [if_pos hz2, hlen]
  have e : (n : Int) + (((k + (nts a + nts b) : Nat) : Int) + 1) = numS n k (.an a b) := by rw [r8]; omega
  rw [e]
  simp [zD, zG, wdS]
 | m + 1, .or a b, k, st, h, hk, hl => by
  simp only [depth] at h
  simp only [nts] at hl
  have ia := et (n := n) m a k st (by omega) hk (by omega)
  have ib := et (n := n) m b (k + nts a) (st ++ (zD n k a).map zG) (by omega) (by rw [List.length_append, List.length_map, aj, hk]) (by omega)
  have hz : (2 : Nat) < sizeLine := bB (by decide)
  have hlen : (st ++ (zD n k a).map zG ++ (zD n (k + nts a) b).map zG).length = k + (nts a + nts b) := by rw [List.length_append, List.length_append, List.length_map, List.length_map, aj, aj, hk]; omega
  have hz2 : (st ++ (zD n k a).map zG ++ (zD n (k + nts a) b).map zG).length < sizeLine := bB (by rw [hlen]; omega)
  simp only [zy, numD]
  rw [if_neg w3, if_pos (by simpa using hz)]
  simp only [numL, ia, ib, Option.bind_some, Option.map_some]
  unfold AG
  dsimp only
  rw [if_pos hz2, hlen]
  have e : (n : Int) + (((k + (nts a + nts b) : Nat) : Int) + 1) = numS n k (.or a b) := by rw [r9]; omega
  rw [e]
  simp [zD, zG, wdS]
def encB (l : List Int) : PyData := encS (byT l)
theorem bt (l : List Int) : zC (encB l) = true := by unfold encB; simp
theorem comp2 {te : DE} {ρ : DEnv} {d1 d2 A B : PyData} {δ1 δ2 : DEnv} (h1 : vE te (some (.sh d1) :: ρ) = .ok (A, δ1)) (h2 : vE te (some (.sh d2) :: ρ) = .ok (B, δ2)) : zZ (none :: ρ) zX te [d1, d2] = some [A, B] := by
 show (match vE te (some (.sh d1) :: ρ) with | .ok q => (zZ (none :: ρ) zX te [d2]).map (q.1 :: ·) | _ => none) = _
 rw [h1]
 show (match vE te (some (.sh d2) :: ρ) with | .ok q => (zZ (none :: ρ) zX te []).map (q.1 :: ·) | _ => none).map (A :: ·) = _
 rw [h2]
 rfl
theorem dG {m : Int} {l : List Int} (h : Aw m l) : aG [.list (l.map PyData.int)] = .ok (.sh (encB l)) := zm h.1 h.2.2
theorem vN {i : Int} : ∀ {r : Row}, Bs i r -> dz [.int i, .str (wdS r.1), .list (r.2.map PyData.int)] = .ok (.ol ((tieR i r).map encB))
 | (.nt, [x]), h => by
  have hl := eh (r := (.nt, [x])) h
  simp only [tieR, List.getD_cons_zero] at hl
  have f1 := dG (hl [i, x] (by simp))
  have f2 := dG (hl [-i, -x] (by simp))
  simp only [List.map_cons, List.map_nil] at f1 f2
  have p1 := bt [i, x]
  have p2 := bt [-i, -x]
  have a0 : atI [PyData.int x] 0 = some (.int x) := rfl
  simp only [tieR, List.getD_cons_zero, List.map_cons, List.map_nil, wdS]
  generalize encB [i, x] = A at f1 p1 ⊢
  generalize encB [-i, -x] = B at f2 p2 ⊢
  simp only [dz, iQ]
  simp -implicitDefEqProofs [iV, a0, f1, f2, p1, p2, zC, zA]
 | (.an, [x, y]), h => by
  have hl := eh (r := (.an, [x, y])) h
  simp only [tieR, List.map_cons, List.map_nil, List.cons_append, List.nil_append] at hl
  have f1 := dG (hl [-i, x] (by simp))
  have f2 := dG (hl [-i, y] (by simp))
  have f3 := dG (hl [i, -x, -y] (by simp))
  simp only [List.map_cons, List.map_nil] at f1 f2 f3
  have p1 := bt [-i, x]
  have p2 := bt [-i, y]
  have p3 := bt [i, -x, -y]
  simp only [tieR, List.map_cons, List.map_nil, List.cons_append, List.nil_append, wdS]
  generalize encB [-i, x] = A at f1 p1 ⊢
  generalize encB [-i, y] = B at f2 p2 ⊢
  generalize encB [i, -x, -y] = C at f3 p3 ⊢
  have c1 : zZ [none, some (.sh (.int i))] zX cG [.int x, .int y] = some [A, B] := by
   have e1 : vE cG [some (.sh (.int x)), some (.sh (.int i))] = .ok (A, [some (.sh (.int x)), some (.sh (.int i))]) := by simp [cG, f1, p1]
   have e2 : vE cG [some (.sh (.int y)), some (.sh (.int i))] = .ok (B, [some (.sh (.int y)), some (.sh (.int i))]) := by simp [cG, f2, p2]
   exact comp2 e1 e2
  have c2 : zZ [none] zX iP [.int x, .int y] = some [.int (-x), .int (-y)] := by simp [zZ, iP]
  have z : ∀ k : Nat, k <= 4 -> k <= sizeLine := fun k hk => aM (by omega)
  simp only [dz, iQ]
  simp -implicitDefEqProofs [iV, gn, w4, c1, c2, f3, p1, p2, p3, z, zC, zA]
 | (.or, [x, y]), h => by
  have hl := eh (r := (.or, [x, y])) h
  simp only [tieR, List.map_cons, List.map_nil, List.cons_append, List.nil_append] at hl
  have f1 := dG (hl [i, -x] (by simp))
  have f2 := dG (hl [i, -y] (by simp))
  have f3 := dG (hl [-i, x, y] (by simp))
  simp only [List.map_cons, List.map_nil] at f1 f2 f3
  have p1 := bt [i, -x]
  have p2 := bt [i, -y]
  have p3 := bt [-i, x, y]
  simp only [tieR, List.map_cons, List.map_nil, List.cons_append, List.nil_append, wdS]
  generalize encB [i, -x] = A at f1 p1 ⊢
  generalize encB [i, -y] = B at f2 p2 ⊢
  generalize encB [-i, x, y] = C at f3 p3 ⊢
  have c1 : zZ [none, some (.sh (.int i))] zX cH [.int x, .int y] = some [A, B] := by
   have e1 : vE cH [some (.sh (.int x)), some (.sh (.int i))] = .ok (A, [some (.sh (.int x)), some (.sh (.int i))]) := by simp [cH, f1, p1]
   have e2 : vE cH [some (.sh (.int y)), some (.sh (.int i))] = .ok (B, [some (.sh (.int y)), some (.sh (.int i))]) := by simp [cH, f2, p2]
   exact comp2 e1 e2
  have z : ∀ k : Nat, k <= 4 -> k <= sizeLine := fun k hk => aM (by omega)
  simp only [dz, iQ]
  simp -implicitDefEqProofs [iV, gn, lW, w5, w6, c1, f3, p1, p2, p3, z, zC, zA]
 | (.nt, []), h => h.elim
 | (.nt, _ :: _ :: _), h => h.elim
 | (.an, []), h => h.elim
 | (.an, [_]), h => h.elim
 | (.an, _ :: _ :: _ :: _), h => h.elim
 | (.or, []), h => h.elim
 | (.or, [_]), h => h.elim
 | (.or, _ :: _ :: _ :: _), h => h.elim
theorem j3 (l : List (List Int)) : zA (l.map encB) = true := by
 induction l with
 | nil => rfl
 | cons a r ih => rw [List.map_cons, gz, bt, ih]; rfl
theorem o8 {x0 x1 x2 x3 : Option SD} : ∀ (rs : List Row) (j : Nat) (L : List (List Int)) (x5 x6 : Option SD), Ag (j : Int) rs -> L.length + 3 * rs.length <= 900 -> ∃ y5 y6, forL (kTup [5, 6]) bD (Ae j (rs.map zG)) [x0, x1, x2, x3, some (.ol (L.map encB)), x5, x6] = .nx [x0, x1, x2, x3, some (.ol ((L ++ zE (j : Int) rs).map encB)), y5, y6]
 | [], j, L, x5, x6, _, _ => ⟨x5, x6, by simp [Ae, zE]⟩
 | r :: rs, j, L, x5, x6, h, hl => by
  have ht := vN h.1
  have hr := m4 h.1
  simp only [List.length_cons] at hl
  obtain ⟨y5, y6, ih⟩ := o8 (x0 := x0) (x1 := x1) (x2 := x2) (x3 := x3) rs (j + 1) (L ++ tieR (j : Int) r) (some (.sh (.int (j : Int)))) (some (.sh (zG r))) h.2 (by rw [List.length_append]; omega)
  refine ⟨y5, y6, ?_⟩
  have e1 : Ae j ((r :: rs).map zG) = .tuple [.int (j : Int), zG r] :: Ae (j + 1) (rs.map zG) := rfl
  have e2 : L ++ zE (j : Int) (r :: rs) = L ++ tieR (j : Int) r ++ zE ((j + 1 : Nat) : Int) rs := by simp [zE]
  rw [e1, e2, dX]
  have a0 : atI [PyData.str (wdS r.1), .list (r.2.map PyData.int)] 0 = some (.str (wdS r.1)) := rfl
  have a1 : atI [PyData.str (wdS r.1), .list (r.2.map PyData.int)] 1 = some (.list (r.2.map PyData.int)) := rfl
  have z : (L.map encB).length + ((tieR (j : Int) r).map encB).length <= sizeLine := aM (by rw [List.length_map, List.length_map]; omega)
  have em : (L ++ tieR (j : Int) r).map encB = L.map encB ++ (tieR (j : Int) r).map encB := List.map_append
  rw [em] at ih
  have pL := j3 L
  have pT := j3 (tieR (j : Int) r)
  have pr := aP r.2
  unfold zG at ih ⊢
  generalize (L ++ tieR (j : Int) r ++ zE ((j + 1 : Nat) : Int) rs).map encB = ZZ at ih ⊢
  generalize L.map encB = LL at ih z pL ⊢
  generalize (tieR (j : Int) r).map encB = TT at ht ih z pT ⊢
  generalize r.2.map PyData.int = PP at ht a0 a1 ih pr ⊢
  generalize PyData.str (wdS r.1) = WW at ht a0 a1 ih ⊢
  simp -implicitDefEqProofs [bD, a0, a1, ht, z, pL, pT, pr, zC, zA]
  exact ih
noncomputable def zF (n : Nat) (s : Sen) : List (List Int) := (Am n s).map byT
theorem m5 {n : Nat} {s : Sen} (h : s.Ok n) (h6 : nts s <= 6) : (zF n s).length <= 19 := by
 have := j0 (cy s 0 h)
 rw [aj] at this
 simp only [Nat.add_zero] at this
 simp only [zF, Am, List.length_map, List.length_cons]
 omega
theorem og {n : Nat} {s : Sen} (h : s.Ok n) : ∀ t ∈ zF n s, Bq ((n + nts s : Nat) : Int) t := fun t ht => by
 obtain ⟨l, hl, rfl⟩ := List.mem_map.mp ht
 have hm := e9 s 0 h
 rcases List.mem_cons.mp hl with rfl | z
 ·rw [tw]
  refine ⟨by simp, fun p hp => ?_⟩
  simp at hp
  subst hp
  rw [dh hm.1]
  exact ⟨hm.1, by have := hm.2; simpa using this⟩
 ·have lo := fO (m := ((n + nts s : Nat) : Int)) (cy s 0 h) (by rw [aj]; omega) l z
  exact vL lo.1 lo.2.1
theorem rq (n : Nat) (s : Sen) (c : List Int) : zJ (zF n s) c = zJ (Am n s) c := by
 unfold zF zJ
 rw [List.all_map]
 congr 1
 funext l
 exact vM c l
theorem pz {n : Nat} {s : Sen} (h : s.Ok n) (h12 : s.size <= 12) (h6 : nts s <= 6) (h1 : 1 <= n) (h5 : n <= 5) : bq [zy s, .int n] = .ok (.sh (.tuple [.list (zM (zF n s)), .int ((n + nts s : Nat) : Int)])) := by
 have hk := tm h h12 h1 h5
 have hd := cM s
 have hn := et (n := n) 14 s 0 [] (by omega) rfl (by omega)
 rw [List.nil_append] at hn
 have ro := cy s 0 h
 rw [Nat.add_zero] at ro
 have eB : encB [numS n 0 s] = .tuple [.int (numS n 0 s)] := rfl
 have eA : ([[numS n 0 s]] ++ zE ((n + 1 : Nat) : Int) (zD n 0 s)).map encB = zM (zF n s) := by
  unfold zF zM
  rw [List.map_map]
  rfl
 have key : ∀ x2 : Option SD, ∃ y5 y6, forL (kTup [5, 6]) bD (Ae (n + 1) ((zD n 0 s).map zG)) [some (.sh (zy s)), some (.sh (.int n)), x2, some (.sh (.int (numS n 0 s))), some (.ol [.tuple [.int (numS n 0 s)]]), none, none] = .nx [some (.sh (zy s)), some (.sh (.int n)), x2, some (.sh (.int (numS n 0 s))), some (.ol (zM (zF n s))), y5, y6] := fun x2 => by
  obtain ⟨y5, y6, e1⟩ := o8 (x0 := some (.sh (zy s))) (x1 := some (.sh (.int n))) (x2 := x2) (x3 := some (.sh (.int (numS n 0 s)))) (zD n 0 s) (n + 1) [[numS n 0 s]] none none ro (by rw [aj]; simp; omega)
  rw [eA] at e1
  simp only [List.map_cons, List.map_nil, eB] at e1
  exact ⟨y5, y6, e1⟩
 have hE : eNum 14 0 1 2 [some (.sh (zy s)), some (.sh (.int n)), some (.ol []), none, none, none, none] = .ok (.sh (.int (numS n 0 s)), [some (.sh (zy s)), some (.sh (.int n)), some (.ol ((zD n 0 s).map zG)), none, none, none, none]) := by
  show (match numD 14 n (zy s) [] with
   | some r => Out.ok (SD.sh (.int r.1), ([some (.sh (zy s)), some (.sh (.int n)), some (.ol []), none, none, none, none] : DEnv).set 2 (some (.ol r.2)))
   | none => .bad) = _
  rw [hn]
  rfl
 have hlen : (((zD n 0 s).map zG).length : Int) = (nts s : Int) := by rw [List.length_map, aj]
 have ps := av s
 have pS := cV (zF n s)
 have ej : ((n : Int) + 1).toNat = n + 1 := by omega
 have hj : (0 : Int) <= (n : Int) + 1 /\ (n : Int) + 1 < 1000000 := by omega
 have hj1 := hj.1
 have hj2 := hj.2
 have en : (n : Int) + (nts s : Int) = ((n + nts s : Nat) : Int) := by omega
 obtain ⟨y5, y6, k1⟩ := key (some (.ol ((zD n 0 s).map zG)))
 obtain ⟨z5, z6, k2⟩ := key (some (.sh (.list ((zD n 0 s).map zG))))
 clear key hn eA ro
 generalize ((n + nts s : Nat) : Int) = MM at en ⊢
 generalize (zD n 0 s).map zG = R at hE hlen k1 k2
 generalize numS n 0 s = NN at hE k1 k2 eB
 generalize zM (zF n s) = SS at k1 k2 pS ⊢
 generalize zy s = S at hk hE k1 k2 ps ⊢
 simp only [bq, de]
 cases hp : zA R <;> simp -implicitDefEqProofs [hk, hE, B1, hp, ej, hj1, hj2, k1, k2, hlen, en, ps, pS, zC, zA]
noncomputable def Low (n : Nat) (s : List Int) : Prop := ∀ p ∈ s, 1 <= absI p /\ absI p <= n
theorem tD {n : Nat} {c : List Int} {p : Int} (hc : zS n c) (h : 1 <= absI p /\ absI p <= c.length) : decide (decide (0 < p) = decide (c.getD (absI p - 1).toNat 0 = 1)) = Aj c p := by
 have hb := iS hc.bit (absI p - 1).toNat
 unfold Aj
 rw [t8]
 generalize c.getD (absI p - 1).toNat 0 = v at hb ⊢
 by_cases hp : 0 < p
 ·rcases hb with z | z <;> simp [hp, z]
 ·rcases hb with z | z <;> simp [hp, z]
theorem j4 {n : Nat} {c : List Int} {t : PyData} (hc : zS n c) : ∀ (s : List Int) (pv : Option SD), Low c.length s -> ∃ pv', forL (kN 2) cf (s.map PyData.int) [some (.sh t), some (.sh (encL c)), pv] = if A1 c s = true then .rt (.sh (.bool true)) else .nx [some (.sh t), some (.sh (encL c)), pv']
 | [], pv, _ => ⟨pv, by simp [A1]⟩
 | p :: r, pv, h => by
  obtain ⟨pv', ih⟩ := j4 (t := t) hc r (some (.sh (.int p))) fun q hq => h q (List.mem_cons_of_mem _ hq)
  refine ⟨pv', ?_⟩
  have hp := h p (List.mem_cons_self ..)
  have ea : atI (c.map PyData.int) (absI p - 1) = some (.int (c.getD (absI p - 1).toNat 0)) := fH (by omega) (by omega)
  have el := tD hc hp
  generalize c.getD (absI p - 1).toNat 0 = v at ea el
  rw [List.map_cons, dX]
  have e : A1 c (p :: r) = (Aj c p || A1 c r) := by simp [A1]
  rw [e]
  unfold absI at ea
  cases hl : Aj c p with
  | true =>
   rw [hl] at el
   have el' := of_decide_eq_true el
   simp -implicitDefEqProofs [cf, encL, ea, el']
  | false =>
   rw [hl] at el
   have el' := of_decide_eq_false el
   simp only [Bool.false_or]
   simp -implicitDefEqProofs [cf, encL, ea, el']
   exact ih
theorem tF {n : Nat} {c s : List Int} (hc : zS n c) (h : Low c.length s) : bN [encS s, encL c] = .ok (.sh (.bool (A1 c s))) := by
 obtain ⟨pv', e⟩ := j4 (t := encS s) hc s none h
 simp only [bN, eW]
 have es : ∀ δ, AU (eV 0) (some (.sh (encS s)) :: δ) = .ok (s.map PyData.int, some (.sh (encS s)) :: δ) := fun δ => by simp [encS]
 cases hf : A1 c s with
 | true => rw [hf] at e; simp only [if_true] at e; simp -implicitDefEqProofs [-iC, es, e]
 | false => rw [hf] at e; simp only [Bool.false_eq_true, if_false] at e; simp -implicitDefEqProofs [-iC, es, e]
theorem tG {n : Nat} {ss : List (List Int)} {c : List Int} (hc : zS n c) (hs : ∀ s ∈ ss, Low c.length s) (hn : ss.length <= 24) : bO [.list (zM ss), encL c] = .ok (.sh (.bool (zJ ss c))) := by
 have hcc : zZ [none, some (.sh (encL c))] cg cj (zM ss) = some (zM (ss.filter fun s => !A1 c s)) := by
  have := cE (ρ := [none, some (.sh (encL c))]) (tc := cg) (te := cj) (b := fun d => match d with | .tuple ds => (match zW ds with | some s => !A1 c s | none => false) | _ => false) (y := fun d => d) (ds := zM ss) fun d hd => by
   obtain ⟨s, hs', rfl⟩ := List.mem_map.mp hd
   have hf := tF hc (hs s hs')
   unfold encS at hf
   refine ⟨_, by simp [cg, encS, hf, bg]; rfl, fun _ => ⟨_, by simp [cj, encS]; rfl⟩⟩
  rw [this, List.map_id'']
  ·congr 1
   unfold zM
   rw [List.filter_map]
   congr 1
   refine List.filter_congr fun s hs' => ?_
   simp [encS, bg]
  ·intro d; rfl
 have hz : ss.length <= sizeLine := aM (by omega)
 have hg : SeqAt.shaped (.list (zM (ss.filter fun s => !A1 c s))) = true := (ba (n := 1) fun x hx => by
  obtain ⟨s, _, rfl⟩ := List.mem_map.mp hx
  exact bI (dY 0 s)).shaped (by decide)
 have hg0 : SeqAt.shaped (.list []) = true := (ba (n := 50) (xs := []) fun x hx' => absurd hx' (by simp)).shaped (by decide)
 have he : (zM (ss.filter fun s => !A1 c s)).isEmpty = zJ ss c := by
  unfold zM zJ
  rw [Bool.eq_iff_iff, List.isEmpty_iff, List.map_eq_nil_iff, List.filter_eq_nil_iff, List.all_eq_true]
  simp
 generalize zM (ss.filter fun s => !A1 c s) = L at hcc hg he
 simp only [bO, eY]
 simp -implicitDefEqProofs [hz, hcc, hg, hg0, dZ, he]
theorem kD {k : Nat} (h : k <= 6) : (madeC k).length <= 64 := by
 rw [Sy.g8]
 have h2 : 2 ^ k <= 2 ^ 6 := Nat.pow_le_pow_right (by decide) h
 omega
theorem jN {te : DE} {v : Int} (hte : te = eOp dAdd [.nm 0, .ex (eOp dLst [.ex (eC (.int v))])]) {cs : List (List Int)} (hl : ∀ c ∈ cs, c.length <= 500) : zZ [none] zX te (cs.map encL) = some ((cs.map (· ++ [v])).map encL) := by
 have := oM (ρ := [none]) (te := te) (y := fun d => match d with | .list ds => .list (ds ++ [.int v]) | d => d) (ds := cs.map encL) fun d hd => by
  obtain ⟨c, hc', rfl⟩ := List.mem_map.mp hd
  have hz : c.length + 1 <= sizeLine := aM (by have := hl c hc'; omega)
  subst hte
  simp [encL, hz]
 rw [this, List.map_map, List.map_map]
 congr 1
 refine List.map_congr_left fun c hc' => ?_
 simp [encL]
theorem m7 {k : Nat} (hk : k < 6) (m x : SD) : bR [some m, some (.ol ((madeC k).map encL)), some x] = .nx [some m, some (.ol ((madeC (k + 1)).map encL)), some x] := by
 have hl := kD (k := k) (by omega)
 have hlen : ∀ c ∈ madeC k, c.length <= 500 := fun c hc => by
  have := (Sy.e6 k c ((Sy.g9 k).mem_iff.mp hc)).len
  omega
 have h0 := jN (te := eJ) rfl hlen
 have h1 := jN (te := eL) rfl hlen
 have e : madeC (k + 1) = (madeC k).map (· ++ [0]) ++ (madeC k).map (· ++ [1]) := rfl
 have hz : (madeC k).length <= sizeLine := aM (by omega)
 have hz2 : ((madeC k).map (· ++ [(0 : Int)])).length + ((madeC k).map (· ++ [(1 : Int)])).length <= sizeLine := aM (by simp only [List.length_map]; omega)
 rw [e]
 generalize hA : (madeC k).map (· ++ [(0 : Int)]) = A at h0 hz2
 generalize hB : (madeC k).map (· ++ [(1 : Int)]) = B at h1 hz2
 generalize madeC k = M at h0 h1 hz
 cases p0 : zA (A.map encL) <;> cases p1 : zA (B.map encL) <;> cases p2 : zA ((A ++ B).map encL) <;> simp only [List.map_append] at p2 ⊢ <;> simp -implicitDefEqProofs [bR, hz, h0, h1, hz2, p0, p1, p2]
theorem m8 {n : Nat} (h6 : n <= 6) : bj [.int n] = .ok (.ol ((allC n).map encL)) := by
 obtain ⟨δ', e1, x2, rfl⟩ := iF (k := kN 2) (fb := bR) (lo := 0) (n := n) (δ := [some (.sh (.int n)), some (.ol [.list []]), none])
  (fun j δ => ∃ x2, δ = [some (.sh (.int n)), some (.ol ((madeC j).map encL)), x2]) ⟨none, rfl⟩ (by
   rintro i δ hi ⟨x2, rfl⟩
   exact ⟨_, rfl, _, m7 (k := i) (by omega) (.sh (.int n)) (.sh (.int (0 + (i : Int)))), _, rfl⟩)
 have hr : rngB (n : Int) = true := nM (by omega) (by omega)
 have hs : AW (madeC n) = allC n := (lE (Sy.g9 n).symm ((Sy.gc n).imp fun h => Sy.cW _ _ h)).symm
 have hi := jD (madeC n)
 have hl : (madeC n).length < 64 \/ madeC n = madeC 6 := by
  by_cases e : n = 6
  ·subst e; exact .inr rfl
  ·refine .inl ?_
   rw [Sy.g8]
   have h2 : 2 ^ n <= 2 ^ 5 := Nat.pow_le_pow_right (by decide) (by omega)
   omega
 have hd : AO [.list ((madeC n).map encL)] = some (.ol ((allC n).map encL)) := by
  rw [jG, hi]
  dsimp only
  rw [if_pos hl, hs]
 generalize (madeC n).map encL = M at e1 hd
 generalize (allC n).map encL = AA at hd ⊢
 simp only [bj, dD]
 simp -implicitDefEqProofs [-jG, hr, e1, hd]
theorem uc (d : PyData) (h : ∀ es, d ≠ .dict es) : bh [d] = .ok (.sh (.bool (isWh d))) := gU d h
theorem m9 {n : Nat} (t : PyData) : ∀ (s : List Int) (last : Int) (pv : Option SD), (s.map absI).Pairwise (· < ·) -> (∀ p ∈ s, last < absI p /\ absI p <= n) -> ∃ l pv', forL (kN 3) bE (s.map PyData.int) [some (.sh t), some (.sh (.int n)), some (.sh (.int last)), pv] = .nx [some (.sh t), some (.sh (.int n)), some (.sh (.int l)), pv']
 | [], last, pv, _, _ => ⟨last, pv, rfl⟩
 | p :: r, last, pv, h1, h2 => by
  obtain ⟨a1, a2⟩ := List.pairwise_cons.mp h1
  have hp := h2 p (by simp)
  obtain ⟨l, pv', ih⟩ := m9 t r (absI p) (some (.sh (.int p))) a2 fun q hq => ⟨a1 (absI q) (List.mem_map.mpr ⟨q, hq, rfl⟩), (h2 q (by simp [hq])).2⟩
  refine ⟨l, pv', ?_⟩
  rw [List.map_cons, dX]
  have hw := uc (.int p) (fun _ e => nomatch e)
  have c1 : ¬ absI p <= last := by lia
  have c2 : ¬ (n : Int) < absI p := by lia
  unfold absI at c1 c2 ih
  simp [bE, hw, isWh, c1, c2]
  exact ih
theorem vO {n : Nat} {s : List Int} (h : Bq n s) : aT [encS s, .int n] = .ok (.sh (.bool true)) := by
 obtain ⟨l, pv', e⟩ := m9 (n := n) (encS s) s 0 none h.rise fun p hp => by have := h.low p hp; lia
 have hi : isiD "tuple" (.tuple (s.map PyData.int)) = true := rfl
 have es : ∀ δ, AU (eV 0) (some (.sh (encS s)) :: δ) = .ok (s.map PyData.int, some (.sh (encS s)) :: δ) := fun δ => by simp [encS]
 simp only [aT, bZ]
 unfold encS at e es ⊢
 generalize s.map PyData.int = S at e es hi
 simp [-iC, hi, es, e]
noncomputable def ansD (n : Nat) (s : Sen) : PyData := .tuple [.list (zM (zF n s)), .int ((n + nts s : Nat) : Int)]
theorem rz (x y : PyData) : atI [x, y] 0 = some x := rfl
theorem rA (x y : PyData) : atI [x, y] 1 = some y := rfl
noncomputable def Bg (ss : List (List Int)) (c : List Int) (d : PyData) : Bool := match d with
 | .list ds => (match zW ds with | some r => zJ ss (c ++ r) | none => false)
 | _ => false
theorem jO (ss : List (List Int)) (c r : List Int) : Bg ss c (encL r) = zJ ss (c ++ r) := by
 unfold Bg encL
 simp only [bg]
noncomputable def Bt (c : List Int) (d : PyData) : PyData := match d with
 | .list ds => .list (c.map PyData.int ++ ds)
 | d => d
theorem jP (c r : List Int) : Bt c (encL r) = encL (c ++ r) := by
 unfold Bt encL
 simp
theorem rB {n : Nat} {s : Sen} {c : List Int} (h : s.Ok n) (h6 : nts s <= 6) (h5 : n <= 5) (hc : zS n c) :
  zZ [none, some (.sh (ansD n s)), some (.sh (encL c))] gS gT ((allC (nts s)).map encL) = some (if tru c s then [encL (c ++ vals c s)] else []) := by
 have hsl := m5 h h6
 have := cE (ρ := [none, some (.sh (ansD n s)), some (.sh (encL c))]) (tc := gS) (te := gT) (b := Bg (zF n s) c) (y := Bt c) (ds := (allC (nts s)).map encL) fun d hd => by
  obtain ⟨r, hr, rfl⟩ := List.mem_map.mp hd
  have hro := Sy.e6 _ _ hr
  have hcr : zS (n + nts s) (c ++ r) := ⟨by rw [List.length_append, hc.len, hro.len], fun x hx => by
   rcases List.mem_append.mp hx with z | z
   ·exact hc.bit x z
   ·exact hro.bit x z⟩
  have hf := tG hcr (fun t ht p hp => by rw [hcr.len]; exact (og h t ht).low p hp) (by omega)
  have z : (c.map PyData.int).length + (r.map PyData.int).length <= sizeLine := aM (by rw [List.length_map, List.length_map, hc.len, hro.len]; omega)
  have pS := cV (zF n s)
  have a0 := rz (.list (zM (zF n s))) (.int ((n + nts s : Nat) : Int))
  rw [jO, jP]
  unfold ansD
  unfold encL at hf ⊢
  rw [List.map_append] at hf ⊢
  generalize zM (zF n s) = SS at hf pS a0 ⊢
  generalize ((n + nts s : Nat) : Int) = MM at a0 ⊢
  generalize c.map PyData.int = C at hf z ⊢
  generalize r.map PyData.int = R at hf z ⊢
  generalize zJ (zF n s) (c ++ r) = v at hf ⊢
  refine ⟨_, by simp -implicitDefEqProofs [gS, a0, z, hf, pS, zC, zA]; rfl, fun _ => ⟨_, by simp -implicitDefEqProofs [gT, z, zC, zA]; rfl⟩⟩
 rw [this, List.filter_map, List.map_map]
 congr 1
 have e : (allC (nts s)).filter ((Bg (zF n s) c) ∘ encL) = (allC (nts s)).filter (fun r => zJ (Am n s) (c ++ r)) := List.filter_congr fun r _ => by
  show Bg (zF n s) c (encL r) = _
  rw [jO, rq]
 rw [e, vC hc h]
 cases tru c s with
 | false => rfl
 | true =>
  simp only [if_true, List.map_cons, List.map_nil]
  show [Bt c (encL (vals c s))] = _
  rw [jP]
theorem rC {n : Nat} {s : Sen} (h : s.Ok n) : zZ [none, some (.sh (ansD n s))] gR ku (zM (zF n s)) = some [] := by
 have := cE (ρ := [none, some (.sh (ansD n s))]) (tc := gR) (te := ku) (b := fun _ => false) (y := fun d => d) (ds := zM (zF n s)) fun d hd => by
  obtain ⟨t, ht, rfl⟩ := List.mem_map.mp hd
  have hf := vO (og h t ht)
  have a1 := rA (.list (zM (zF n s))) (.int ((n + nts s : Nat) : Int))
  have pt := iG t
  unfold ansD
  generalize encS t = T at hf pt ⊢
  generalize zM (zF n s) = SS at a1 ⊢
  generalize ((n + nts s : Nat) : Int) = m at hf a1 ⊢
  refine ⟨[some (.sh T), some (.sh (.tuple [.list SS, .int m]))], by simp -implicitDefEqProofs [gR, a1, hf, pt, zC, zA], fun z => by cases z⟩
 rw [this]
 simp
theorem rD {ns : List Int} {n : Nat} {s : Sen} {c : List Int} {x5 x6 : Option SD} (h : s.Ok n) (h6 : nts s <= 6) (h5 : n <= 5) (hc : zS n c) (hs : aw [scr ns, .int 10, encL c] = .ok (.sh (encI c s))) :
  ∃ y6, fL [some (.sh (scr ns)), some (.sh (.int n)), some (.sh (ansD n s)), some (.sh (.int (nts s))), some (.sh (encL c)), x5, x6] = .nx [some (.sh (scr ns)), some (.sh (.int n)), some (.sh (ansD n s)), some (.sh (.int (nts s))), some (.sh (encL c)), some (.sh (encI c s)), y6] := by
 have hd := rB h h6 h5 hc
 have hk := m8 h6
 have hzc : ((allC (nts s)).map encL).length <= sizeLine := aM (by
  rw [List.length_map, Sy.iJ]
  have h2 : 2 ^ nts s <= 2 ^ 6 := Nat.pow_le_pow_right (by decide) h6
  omega)
 have z : (c.map PyData.int).length + ((vals c s).map PyData.int).length <= sizeLine := aM (by rw [List.length_map, List.length_map, hc.len, ay]; omega)
 have g0 : SeqAt.shaped (.list []) = true := (ba (n := 50) (xs := []) fun x hx' => absurd hx' (by simp)).shaped (by decide)
 have gd : Aa 3 (.list [encL (c ++ vals c s)]) := ba (n := 2) fun x hx => by
  simp at hx
  subst hx
  exact (ba (dY 0 _)).mono (by omega)
 have g1 := gd.shaped (by decide)
 have qd := ly (.list [encL (c ++ vals c s)]) gd.1
 have q0 := dZ []
 have eE : encL (c ++ vals c s) = .list (c.map PyData.int ++ (vals c s).map PyData.int) := by unfold encL; rw [List.map_append]
 have pA : zC (ansD n s) = false := by unfold ansD; simp [zC, zA]
 have pI : zC (encI c s) = false := by simp [encI, zC, zA]
 have ps := av s
 have hone : (1 : Nat) <= sizeLine := aM (by decide)
 have hzero : (0 : Nat) < sizeLine := bB (by decide)
 rw [eE] at hd g1 qd
 generalize ansD n s = AN at hd pA ⊢
 generalize (allC (nts s)).map encL = AC at hk hd hzc
 unfold encL at hs hd ⊢
 unfold encI at hs pI ⊢
 generalize c.map PyData.int = C at hs hd z g1 qd ⊢
 generalize (vals c s).map PyData.int = VV at hs hd z g1 qd pI ⊢
 generalize zy s = S at hs ps pI ⊢
 generalize scr ns = sc at hs ⊢
 cases hv : tru c s with
 | true =>
  rw [hv] at hs hd pI
  simp only [if_true] at hd
  exact ⟨_, by simp -implicitDefEqProofs [fL, hs, iX, iY, iZ, z, hk, hd, hzc, g1, qd, pA, pI, ps, hzero, zC, zA]; rfl⟩
 | false =>
  rw [hv] at hs hd pI
  simp only [Bool.false_eq_true, if_false] at hd
  exact ⟨_, by simp -implicitDefEqProofs [fL, hs, iX, iY, iZ, hk, hd, hzc, g0, q0, pA, pI, ps, zC, zA]; rfl⟩
theorem law_holds (ns : List Int) : nZ [scr ns] = .ok (.sh (.bool true)) := by
 have a0 := jZ ns 0 (m := 4) (by decide)
 have a1 := ka ns 0 (m := 4) (by decide)
 have hm := lU ns 0 4 (by decide) (by decide)
 obtain ⟨n, hnI⟩ : ∃ n : Nat, 1 + mixZ ns 0 4 = (n : Int) := ⟨(1 + mixZ ns 0 4).toNat, by omega⟩
 have h1 : 1 <= n := by omega
 have h4 : n <= 4 := by omega
 obtain ⟨s, sok, s12, s6, hsen⟩ := nh (ns := ns) (at_ := 10) (n := n) (by decide) h1
 have hz0 : zS n (List.replicate n 0) := ⟨by simp, fun x hx => .inl (List.eq_of_mem_replicate hx)⟩
 have hs0 := hsen _ hz0
 have hso := pz sok s12 s6 h1 (by omega)
 have hsl := m5 sok s6
 have hkc := m8 (n := n) (by omega)
 have hcomp := rC sok
 obtain ⟨δ', e1, y4, y5, y6, rfl⟩ := iE (k := kN 4) (fb := fL) (fun _ δ => ∃ y4 y5 y6, δ = [some (.sh (scr ns)), some (.sh (.int n)), some (.sh (ansD n s)), some (.sh (.int (nts s))), y4, y5, y6]) ((allC n).map encL) 0 [some (.sh (scr ns)), some (.sh (.int n)), some (.sh (ansD n s)), some (.sh (.int (nts s))), none, none, none] ⟨none, none, none, rfl⟩ (by
  rintro i d δ e ⟨y4, y5, y6, rfl⟩
  obtain ⟨c, hc, rfl⟩ := List.mem_map.mp (List.mem_of_getElem? e)
  have hco := Sy.e6 _ _ hc
  obtain ⟨z6, es⟩ := rD (ns := ns) (x5 := y5) (x6 := y6) sok s6 (by omega) hco (hsen c hco)
  exact ⟨_, rfl, _, es, _, _, _, rfl⟩)
 have hs0' : aw [scr ns, .int 10, .list (List.replicate n (PyData.int 0))] = .ok (.sh (encI (List.replicate n 0) s)) := by
  have e0 : encL (List.replicate n 0) = .list (List.replicate n (PyData.int 0)) := by
   show PyData.list ((List.replicate n (0 : Int)).map PyData.int) = _
   rw [List.map_replicate]
  rw [e0] at hs0
  exact hs0
 have ps := av s
 have hvl : (((vals (List.replicate n 0) s).map PyData.int).length : Int) = (nts s : Int) := by rw [List.length_map, ay]
 have hSS : ¬ (24 : Int) < ((zM (zF n s)).length : Int) := by rw [jB]; omega
 have hz1 : (zM (zF n s)).length <= sizeLine := aM (by rw [jB]; omega)
 have hw := uc (.int ((n + nts s : Nat) : Int)) (fun _ e => nomatch e)
 have hza : ((allC n).map encL).length <= sizeLine := aM (by
  rw [List.length_map, Sy.iJ]
  have h2 : 2 ^ n <= 2 ^ 6 := Nat.pow_le_pow_right (by decide) (by omega)
  omega)
 have g0 : SeqAt.shaped (.list []) = true := (ba (n := 50) (xs := []) fun x hx' => absurd hx' (by simp)).shaped (by decide)
 have q0 := dZ []
 have it : ∀ l, isiD "tuple" (.tuple l) = true := fun _ => rfl
 have il : ∀ l, isiD "list" (.list l) = true := fun _ => rfl
 have b0 := rz (.list (zM (zF n s))) (.int ((n + nts s : Nat) : Int))
 have b1 := rA (.list (zM (zF n s))) (.int ((n + nts s : Nat) : Int))
 have pSS := cV (zF n s)
 have hm1 : (0 : Int) <= (n : Int) := by omega
 have hm2 : (n : Int) < 9223372036854775808 := by omega
 have hm3 : n <= sizeLine := aM (by omega)
 have en : (n : Int) + (nts s : Int) = ((n + nts s : Nat) : Int) := by omega
 have pV := aP (vals (List.replicate n 0) s)
 unfold ansD at e1 hcomp
 unfold encI at hs0'
 generalize (vals (List.replicate n 0) s).map PyData.int = VV at hs0' hvl pV
 generalize tru (List.replicate n 0) s = v at hs0'
 generalize zy s = S at hs0' hso ps
 generalize zM (zF n s) = SS at hso hcomp e1 hSS hz1 b0 b1 pSS
 generalize (allC n).map encL = AC at hkc e1 hza
 clear hsen hs0
 generalize ((n + nts s : Nat) : Int) = M at hso hcomp e1 hw b0 b1 en
 generalize (nts s : Int) = ns' at hvl e1 en
 generalize scr ns = sc at hm hs0' e1 ⊢
 simp only [nZ, qZ]
 simp -implicitDefEqProofs [hm, hnI, hm1, hm2, hm3, hs0', hso, it, il, b0, b1, hSS, hz1, hvl, hw, isWh, en, hcomp, g0, q0, hkc, hza, e1, iX, iY, iZ, ps, pSS, pV, zC, zA]
theorem bnd1 {p : List Value -> Prop} (h : ∀ a, p [a]) (us : List Value) (e : us.length = 1) : p us := match us, e with | [a], _ => h a
theorem bnd2 {p : List Value -> Prop} (h : ∀ a b, p [a, b]) (us : List Value) (e : us.length = 2) : p us := match us, e with | [a, b], _ => h a b
theorem bnd3 {p : List Value -> Prop} (h : ∀ a b c, p [a, b, c]) (us : List Value) (e : us.length = 3) : p us := match us, e with | [a, b, c], _ => h a b c
noncomputable def top (i : Nat) : Stmt := PySem.Challenge.pw_sayhall_k12_whole_sayings_of.main.body.getD i (.Pass ⟨0, 0, 0, 0⟩)
abbrev ff : Stmt := top 4
abbrev j5 : List Str := ["value"]
theorem ma : zH j5 ["value"] (zB ff) := ⟨rfl, rfl, rfl, by decide +kernel, rfl, by decide +kernel, by decide +kernel⟩
abbrev bP : Stmt := top 5
abbrev cN : List Str := ["value", "most"]
theorem fP : zH cN ["value", "most"] (zB bP) := ⟨rfl, rfl, rfl, by decide +kernel, rfl, by decide +kernel, by decide +kernel⟩
abbrev fg : Stmt := top 11
abbrev j6 : List Str := ["one", "many"]
theorem md : zH j6 ["one", "many"] (zB fg) := ⟨rfl, rfl, rfl, by decide +kernel, rfl, by decide +kernel, by decide +kernel⟩
abbrev bQ : Stmt := top 10
abbrev cO : List Str := ["sentence", "many", "found", "waiting", "one"]
theorem aX : zH cO ["sentence", "many"] (zB bQ) := ⟨rfl, rfl, rfl, by decide +kernel, rfl, by decide +kernel, by decide +kernel⟩
abbrev bW : Stmt := top 13
abbrev dH : List Str := ["sentence", "many", "rows", "numbers"]
theorem fQ : zH dH ["sentence", "many", "rows"] (zB bW) := ⟨rfl, rfl, rfl, by decide +kernel, rfl, by decide +kernel, by decide +kernel⟩
abbrev dJ : Stmt := top 15
abbrev gG : List Str := ["parts"]
theorem kE : zH gG ["parts"] (zB dJ) := ⟨rfl, rfl, rfl, by decide +kernel, rfl, by decide +kernel, by decide +kernel⟩
abbrev gq : Stmt := top 14
abbrev j7 : List Str := ["number", "word", "parts"]
theorem tH : zH j7 ["number", "word", "parts"] (zB gq) := ⟨rfl, rfl, rfl, by decide +kernel, rfl, by decide +kernel, by decide +kernel⟩
abbrev di : Stmt := top 12
abbrev fR : List Str := ["sentence", "many", "rows", "whole", "sayings", "number", "row"]
theorem bA : zH fR ["sentence", "many"] (zB di) := ⟨rfl, rfl, rfl, by decide +kernel, rfl, by decide +kernel, by decide +kernel⟩
abbrev cB : Stmt := top 17
abbrev eM : List Str := ["_law_script", "_law_k"]
theorem j8 : zH eM ["_law_script", "_law_k"] (zB cB) := ⟨rfl, rfl, rfl, by decide +kernel, rfl, by decide +kernel, by decide +kernel⟩
abbrev dN : Stmt := top 18
abbrev gH : List Str := ["_law_script", "_law_k", "_law_many", "_law_drawn"]
theorem fS : zH gH ["_law_script", "_law_k", "_law_many"] (zB dN) := ⟨rfl, rfl, rfl, by decide +kernel, rfl, by decide +kernel, by decide +kernel⟩
abbrev dO : Stmt := top 19
abbrev gI : List Str := ["_law_found"]
theorem kF : zH gI ["_law_found"] (zB dO) := ⟨rfl, rfl, rfl, by decide +kernel, rfl, by decide +kernel, by decide +kernel⟩
abbrev fh : Stmt := top 20
abbrev j9 : List Str := ["_law_saying", "_law_case", "_law_part"]
theorem gJ : zH j9 ["_law_saying", "_law_case"] (zB fh) := ⟨rfl, rfl, rfl, by decide +kernel, rfl, by decide +kernel, by decide +kernel⟩
abbrev dj : Stmt := top 21
abbrev fj : List Str := ["_law_sayings", "_law_case"]
theorem me : zH fj ["_law_sayings", "_law_case"] (zB dj) := ⟨rfl, rfl, rfl, by decide +kernel, rfl, by decide +kernel, by decide +kernel⟩
abbrev bX : Stmt := top 22
abbrev cz : List Str := ["_law_many", "_law_made", "_law_thing"]
theorem cm : zH cz ["_law_many"] (zB bX) := ⟨rfl, rfl, rfl, by decide +kernel, rfl, by decide +kernel, by decide +kernel⟩
abbrev cc : Stmt := top 24
abbrev dm : List Str := ["_law_thing", "_law_many", "_law_last", "_law_part"]
theorem bu : zH dm ["_law_thing", "_law_many"] (zB cc) := ⟨rfl, rfl, rfl, by decide +kernel, rfl, by decide +kernel, by decide +kernel⟩
abbrev fk : Stmt := top 25
abbrev ja : List Str := ["_law_one", "_law_other", "_law_word", "_law_value"]
theorem dP : zH ja ["_law_one", "_law_other", "_law_word"] (zB fk) := ⟨rfl, rfl, rfl, by decide +kernel, rfl, by decide +kernel, by decide +kernel⟩
abbrev cv : Stmt := top 26
abbrev dQ : List Str := ["_law_script", "_law_at", "_law_case", "_law_made", "_law_k", "_law_cell", "_law_one", "_law_other", "_law_thing"]
theorem az : zH dQ ["_law_script", "_law_at", "_law_case"] (zB cv) := ⟨rfl, rfl, rfl, by decide +kernel, rfl, by decide +kernel, by decide +kernel⟩
abbrev dR : Stmt := top 27
abbrev oi : List Str := ["_law_script", "_law_many", "_law_answer", "_law_further", "_law_case", "_law_built", "_law_due"]
theorem fm : zH oi ["_law_script"] (zB dR) := ⟨rfl, rfl, rfl, by decide +kernel, rfl, by decide +kernel, by decide +kernel⟩
structure Txt (w : World) (K : W.Frag) (mg : zu) : Prop where
 n_abs : mg "abs" = none
 n_bool : mg "bool" = none
 n_enumerate : mg "enumerate" = none
 n_int : mg "int" = none
 n_isinstance : mg "isinstance" = none
 n_len : mg "len" = none
 n_list : mg "list" = none
 n_range : mg "range" = none
 n_set : mg "set" = none
 n_sorted : mg "sorted" = none
 n_str : mg "str" = none
 n_tuple : mg "tuple" = none
 c_MOST_SENTENCE_THINGS : ∃ t, mg "MOST_SENTENCE_THINGS" = some (.int 5 t)
 c_MOST_TUPLES : ∃ t, mg "MOST_TUPLES" = some (.int 12 t)
 d_LENGTH_BY_WORD : ∃ a, mg "LENGTH_BY_WORD" = some (.ref a) /\ DctK w K a aN
section
variable {P : Program} {w : World} {K : W.Frag} {mg : zu} {base : Heap}
theorem mf {f : Addr} {fd : FuncData} (F : Fun K "is_whole" "is_whole" ff f fd) (T : Txt w K mg) : FnOk P w K mg base (CXe P w) 1 f fd ["value"] (spD K mg bJ) := by
 refine aV (N := j5) (fb := eU) F ma fun cdv A outer s H E hr => ?_
 have hu := hr.units
 exact ak (aE (iy (cT "int" T.n_isinstance T.n_int boot_int rfl boot_isinstance (ag 0)) (fZ (fY (cT "bool" T.n_isinstance T.n_bool boot_bool rfl boot_isinstance (ag 0))))))
theorem fT {f : Addr} {fd : FuncData} (F : Fun K "is_from_one_to" "is_from_one_to" bP f fd) (T : Txt w K mg) (D_is_whole : DefD P w K mg base "is_whole" 1 bJ) : FnOk P w K mg base (CXe P w) 2 f fd ["value", "most"] (spD K mg aB) := by
 refine aV (N := cN) (fb := bK) F fP fun cdv A outer s H E hr => ?_
 have hu := hr.units
 exact ak (aE (iy (au D_is_whole hr zP (aa (ag 0) (af))) (iy (wV (ag 0) (ab (ae))) (fZ (wR (ag 0) (ag 1))))))
theorem mh {f : Addr} {fd : FuncData} (F : Fun K "has_form" "has_form" fg f fd) (T : Txt w K mg) (D_is_from_one_to : DefD P w K mg base "is_from_one_to" 2 aB) : FnOk P w K mg base (CXe P w) 3 f fd ["one", "many"] (spD K mg b9) := by
 refine aV (N := j6) (fb := bL) F md fun cdv A outer s H E hr => ?_
 have hu := hr.units
 exact ai (bw (oG (gx (cq (fA (ab (cT "tuple" T.n_isinstance T.n_tuple boot_tuple rfl boot_isinstance (ag 0))))) (gx (fB hu (ab (cn T.n_len (ag 0))) (ab (ae))) (jY (cq (fA (ab (cT "str" T.n_isinstance T.n_str boot_str rfl boot_isinstance (ab (ar hu (ag 0) (ab (ae)))))))))))) (ak (aE (dk))) (aZ)) (ai (bw (iw hu (ab (cn T.n_len (ag 0))) (ab (sX T.d_LENGTH_BY_WORD (ab (ar hu (ag 0) (ab (ae))))))) (ak (aE (dk))) (aZ)) (ak (aE (tU (x9 hu (ab (ar hu (ag 0) (ab (ae)))) (ab (bY))) (fZ (au D_is_from_one_to hr zP (aa (ab (ar hu (ag 0) (ab (ae)))) (aa (ag 1) (af)))))))))
theorem fU {f : Addr} {fd : FuncData} (F : Fun K "check_sentence" "check_sentence" bQ f fd) (T : Txt w K mg) (D_is_from_one_to : DefD P w K mg base "is_from_one_to" 2 aB) (D_has_form : DefD P w K mg base "has_form" 3 b9) : FnOk P w K mg base (CXe P w) 4 f fd ["sentence", "many"] (spD K mg aR) := by
 refine aV (N := cO) (fb := bM) F aX fun cdv A outer s H E hr => ?_
 have hu := hr.units
 exact ai (bw (cq (fA (ab (au D_is_from_one_to hr zP (aa (ag 1) (aa (ab (nL T.c_MOST_SENTENCE_THINGS)) (af))))))) (ak (mQ)) (aZ)) (ai (aO 2 aX.nd (ae)) (ai (aO 3 aX.nd (aD (aa (ag 0) (af)))) (ak (lg PassesOwn.leaving (fA (ag 3)) (ai (aO 4 aX.nd (gi 3)) (ai (bw (cq (fA (ab (au D_has_form hr zP (aa (ag 4) (aa (ag 1) (af))))))) (ak (mQ)) (aZ)) (ai (vt 2 aX.nd (ab (ae))) (ai (bw (kX (ag 2) (ab (nL T.c_MOST_TUPLES))) (ak (mQ)) (aZ)) (ak (bw (iw hu (ab (ar hu (ag 4) (ab (ae)))) (ab (bY))) (ak (nR 3 (ab (uM (ag 4) (ab (ae)))))) (aZ)))))))))))
theorem kG {f : Addr} {fd : FuncData} {n : Nat} (F : Fun K "number_of" "number_of" bW f fd) (T : Txt w K mg) (D_number_of : B5 P w K mg base "number_of" (n + 1) n) : FnOk P w K mg base (CXe P w) (n + 1 + 1) f fd ["sentence", "many", "rows"] (AZ K (n + 1)) := by
 obtain ⟨f', fd', ps', D⟩ := D_number_of
 refine F.okE (N := dH) fQ p7 fun cdv A outer s H vs Q E hr h => ⟨_, cC (tL (nv nu (nE jR (pv 0) gY (fun _ _ => rfl)) pC (nomark _)) (cC (mn (nE jR (pv 0) gY (fun _ _ => rfl))) gM) gM)
  (cC (ql (N0 := dH) (sc0 := (zB bW)) (by decide +kernel) (mD (kR pY (pv 0) (nC gY) nB)) (fun _ _ _ _ _ => nG) (fun _ _ _ _ _ => i8 D hr bH (b8 (pv 0) (b8 (pv 1) (b8 (pv 2) cQ))) rfl (by omega)) rfl fQ.nd)
  (cC (gN (q4 PySem.F.plainAttrs_list PySem.F.slot_list_append PySem.F.type_list_append jq (pv 2) (b8 (pQ (b8 (nE jR (pv 0) gY (fun _ _ => rfl)) (b8 (pv 3) cQ))) cQ) rfl rfl rfl rfl rfl))
  (cC (mn (tM pH (pv 1) (fu cR rfl T.n_len PySem.boot_len (b8 (pv 2) cQ)))) gM))), p6 rfl (by decide +kernel) h⟩
theorem eN {f : Addr} {fd : FuncData} (A_number_of : A0 K mg "number_of" bW f fd) (T : Txt w K mg) : ∀ n, B5 P w K mg base "number_of" (n + 1) n
 | 0 => jJ A_number_of (qW ["sentence", "many", "rows"]) fun _ _ _ _ _ _ => bnd3 fun _ _ _ => rfl
 | n + 1 => jJ A_number_of (kG A_number_of.fn T (eN A_number_of T n)) fun _ _ _ _ _ _ => bnd3 fun _ _ _ => rfl
theorem kH {f : Addr} {fd : FuncData} (F : Fun K "by_things" "by_things" dJ f fd) (T : Txt w K mg) : FnOk P w K mg base (CXe P w) 1 f fd ["parts"] (spD K mg aG) := by
 refine aV (N := gG) (fb := dw) F kE fun cdv A outer s H E hr => ?_
 have hu := hr.units
 exact ak (aE (qv T.n_tuple boot_tuple (ab (mP T.n_sorted T.n_abs (ab (mZ rfl T.n_sorted T.n_set (ag 0)))))))
theorem tJ {f : Addr} {fd : FuncData} (F : Fun K "tied" "tied" gq f fd) (T : Txt w K mg) (D_by_things : DefD P w K mg base "by_things" 1 aG) : FnOk P w K mg base (CXe P w) 2 f fd ["number", "word", "parts"] (spD K mg dz) := by
 refine aV (N := j7) (fb := iQ) F tH fun cdv A outer s H E hr => ?_
 have hu := hr.units
 exact ai (bw (fB hu (ag 1) (ab (bY))) (ak (aE (aD (aa (ab (au D_by_things hr zP (aa (ab (aD (aa (ag 0) (aa (ab (ar hu (ag 2) (ab (ae)))) (af))))) (af)))) (aa (ab (au D_by_things hr zP (aa (ab (aD (aa (ab (fW (ag 0))) (aa (ab (fW (ab (ar hu (ag 2) (ab (ae)))))) (af))))) (af)))) (af)))))) (aZ)) (ai (bw (fB hu (ag 1) (ab (bY))) (ak (aE (aF (ab (cx (N0 := j7) (sc0 := (zB gq)) (F := [0]) (by decide +kernel) (by decide +kernel) (cw (ag 2)) (fun _ _ _ _ _ => fG) (fun _ _ _ _ _ => au D_by_things hr bH (aa (ab (aD (aa (ab (fW (ag 1))) (aa (ag 0) (af))))) (af))))) (ab (aD (aa (ab (au D_by_things hr zP (aa (ab (aF (ab (aD (aa (ag 0) (af)))) (ab (cx (N0 := j7) (sc0 := (zB gq)) (F := []) (by decide +kernel) (by decide +kernel) (cw (ag 2)) (fun _ _ _ _ _ => fG) (fun _ _ _ _ _ => fW (ag 0)))))) (af)))) (af))))))) (aZ)) (ak (aE (aF (ab (cx (N0 := j7) (sc0 := (zB gq)) (F := [0]) (by decide +kernel) (by decide +kernel) (cw (ag 2)) (fun _ _ _ _ _ => fG) (fun _ _ _ _ _ => au D_by_things hr bH (aa (ab (aD (aa (ag 1) (aa (ab (fW (ag 0))) (af))))) (af))))) (ab (aD (aa (ab (au D_by_things hr zP (aa (ab (aF (ab (aD (aa (ab (fW (ag 0))) (af)))) (ag 2))) (af)))) (af))))))))
theorem jg {f : Addr} {fd : FuncData} (F : Fun K "sayings_of" "sayings_of" di f fd) (T : Txt w K mg) (D_check_sentence : DefD P w K mg base "check_sentence" 4 aR) (D_number_of : B5 P w K mg base "number_of" (14 + 1) 14) (D_tied : DefD P w K mg base "tied" 2 dz) : FnOk P w K mg base (CXe P w) 16 f fd ["sentence", "many"] (spD K mg bq) := by
 refine aV (N := fR) (fb := de) F bA fun cdv A outer s H E hr => ?_
 have hu := hr.units
 exact ai (sE (au D_check_sentence hr zP (aa (ag 0) (aa (ag 1) (af))))) (ai (aO 2 bA.nd (aD (af))) (ai (aO 3 bA.nd (vy 0 1 2 D_number_of hr zP (pv 0) (pv 1) (pv 2))) (ai (aO 4 bA.nd (aD (aa (ab (cA (aa (ag 3) (af)))) (af)))) (ai (g6 PassesOwn.leaving rfl (qY T.n_enumerate (qq 2) (aF (ag 1) (ab (ae)))) (za 5 6 rfl bA.nd) (uO [5, 6]) (ak (nR 4 (ab (au D_tied hr zP (aa (ag 5) (aa (ab (ar hu (ag 6) (ab (ae)))) (aa (ab (ar hu (ag 6) (ab (ae)))) (af))))))))) (ak (aE (cA (aa (ag 4) (aa (ab (aF (ag 1) (ab (cn T.n_len (ag 2))))) (af))))))))))
theorem jb {f : Addr} {fd : FuncData} (F : Fun K "_law_cell_at" "_law_cell_at" cB f fd) (T : Txt w K mg) : FnOk P w K mg base (CXe P w) 1 f fd ["_law_script", "_law_k"] (spD K mg aQ) := by
 refine aV (N := eM) (fb := bx) F j8 fun cdv A outer s H E hr => ?_
 have hu := hr.units
 exact ai (bw (xg (ag 1) (ab (cn T.n_len (ag 0)))) (ak (aE (ar hu (ag 0) (ag 1)))) (aZ)) (ai (bw (fB hu (ag 0) (ab (aD (af)))) (ak (aE (ae))) (aZ)) (ak (aE (aF (ab (eS (ab (ar hu (ag 0) (ab (dq (ag 1) (ab (cn T.n_len (ag 0))))))) (ab (ae)))) (ag 1)))))
theorem kI {f : Addr} {fd : FuncData} (F : Fun K "_law_mixed" "_law_mixed" dN f fd) (T : Txt w K mg) (D_law_cell_at : DefD P w K mg base "_law_cell_at" 1 aQ) : FnOk P w K mg base (CXe P w) 2 f fd ["_law_script", "_law_k", "_law_many"] (spD K mg aL) := by
 refine aV (N := gH) (fb := dA) F fS fun cdv A outer s H E hr => ?_
 have hu := hr.units
 exact ai (aO 3 fS.nd (dq (ab (eS (ab (aF (ab (aF (ab (au D_law_cell_at hr zP (aa (ag 0) (aa (ag 1) (af))))) (ab (eS (ab (ae)) (ag 1))))) (ab (ae)))) (ab (ae)))) (ab (ae)))) (ak (aE (dq (ab (dq (ab (aF (ab (aF (ab (eS (ag 3) (ag 3))) (ab (eS (ab (ae)) (ag 3))))) (ag 1))) (ab (ae)))) (ag 2))))
theorem kJ {f : Addr} {fd : FuncData} (F : Fun K "_law_whole" "_law_whole" dO f fd) (T : Txt w K mg) : FnOk P w K mg base (CXe P w) 1 f fd ["_law_found"] (spD K mg bh) := by
 refine aV (N := gI) (fb := gF) F kF fun cdv A outer s H E hr => ?_
 have hu := hr.units
 exact ak (aE (iy (cT "int" T.n_isinstance T.n_int boot_int rfl boot_isinstance (ag 0)) (fZ (fY (cT "bool" T.n_isinstance T.n_bool boot_bool rfl boot_isinstance (ag 0))))))
theorem mi {f : Addr} {fd : FuncData} (F : Fun K "_law_true" "_law_true" fh f fd) (T : Txt w K mg) : FnOk P w K mg base (CXe P w) 1 f fd ["_law_saying", "_law_case"] (spD K mg bN) := by
 refine aV (N := j9) (fb := eW) F gJ fun cdv A outer s H E hr => ?_
 have hu := hr.units
 exact ai (g6 PassesOwn.leaving rfl (mF (qq 0)) (qy 2 gJ.nd) (dW 2) (ak (bw (fB hu (ab (wU (ag 2) (ab (ae)))) (ab (qt hu (ab (ar hu (ag 1) (ab (uL (ab (jW T.n_abs boot_abs (ag 2))) (ab (ae)))))) (ab (ae))))) (ak (aE (dk))) (aZ)))) (ak (aE (dk)))
theorem mj {f : Addr} {fd : FuncData} (F : Fun K "_law_fits" "_law_fits" dj f fd) (T : Txt w K mg) (D_law_true : DefD P w K mg base "_law_true" 1 bN) : FnOk P w K mg base (CXe P w) 2 f fd ["_law_sayings", "_law_case"] (spD K mg bO) := by
 refine aV (N := fj) (fb := eY) F me fun cdv A outer s H E hr => ?_
 have hu := hr.units
 exact ak (aE (qt hu (ab (cx (N0 := fj) (sc0 := (zB dj)) (F := [1]) (by decide +kernel) (by decide +kernel) (cw (ag 0)) (fun _ _ _ _ _ => jU (cq (fA (ab (au D_law_true hr bH (aa (ag 0) (aa (ag 1) (af)))))))) (fun _ _ _ _ _ => qq 0))) (ab (aD (af)))))
theorem kK {f : Addr} {fd : FuncData} (F : Fun K "_law_cases" "_law_cases" bX f fd) (T : Txt w K mg) : FnOk P w K mg base (CXe P w) 1 f fd ["_law_many"] (spD K mg bj) := by
 refine aV (N := cz) (fb := dD) F cm fun cdv A outer s H E hr => ?_
 have hu := hr.units
 exact ai (aO 1 cm.nd (aD (aa (ab (aD (af))) (af)))) (ai (g6 PassesOwn.leaving rfl (jz T.n_range (ag 0)) (qy 2 cm.nd) (dW 2) (ak (aO 1 cm.nd (aF (ab (cx (N0 := cz) (sc0 := (zB bX)) (F := []) (by decide +kernel) (by decide +kernel) (cw (ag 1)) (fun _ _ _ _ _ => fG) (fun _ _ _ _ _ => aF (ag 0) (ab (aD (aa (ab (ae)) (af))))))) (ab (cx (N0 := cz) (sc0 := (zB bX)) (F := []) (by decide +kernel) (by decide +kernel) (cw (ag 1)) (fun _ _ _ _ _ => fG) (fun _ _ _ _ _ => aF (ag 0) (ab (aD (aa (ab (ae)) (af))))))))))) (ak (aE (qH hu T.n_sorted boot_sorted (ag 1)))))
theorem gs {f : Addr} {fd : FuncData} (F : Fun K "_law_is_saying" "_law_is_saying" cc f fd) (T : Txt w K mg) (D_law_whole : DefD P w K mg base "_law_whole" 1 bh) : FnOk P w K mg base (CXe P w) 2 f fd ["_law_thing", "_law_many"] (spD K mg aT) := by
 refine aV (N := dm) (fb := bZ) F bu fun cdv A outer s H E hr => ?_
 have hu := hr.units
 exact ai (bw (cq (fA (ab (cT "tuple" T.n_isinstance T.n_tuple boot_tuple rfl boot_isinstance (ag 0))))) (ak (aE (dk))) (aZ)) (ai (aO 2 bu.nd (ae)) (ai (g6 PassesOwn.leaving rfl (mF (qq 0)) (qy 3 bu.nd) (dW 3) (ai (bw (oG (gx (cq (fA (ab (au D_law_whole hr zP (aa (ag 3) (af)))))) (gx (xh (ab (jW T.n_abs boot_abs (ag 3))) (ag 2)) (jY (kX (ab (jW T.n_abs boot_abs (ag 3))) (ag 1)))))) (ak (aE (dk))) (aZ)) (ak (aO 2 bu.nd (jW T.n_abs boot_abs (ag 3)))))) (ak (aE (dk)))))
theorem ml {f : Addr} {fd : FuncData} (F : Fun K "_law_join" "_law_join" fk f fd) (T : Txt w K mg) : FnOk P w K mg base (CXe P w) 1 f fd ["_law_one", "_law_other", "_law_word"] (spD K mg bo) := by
 refine aV (N := ja) (fb := df) F dP fun cdv A outer s H E hr => ?_
 have hu := hr.units
 exact ai (aO 3 dP.nd (iy (ar hu (ag 0) (ab (ae))) (fZ (ar hu (ag 1) (ab (ae)))))) (ai (bw (fB hu (ag 2) (ab (bY))) (ak (aO 3 dP.nd (tU (ar hu (ag 0) (ab (ae))) (fZ (ar hu (ag 1) (ab (ae))))))) (aZ)) (ak (aE (cA (aa (ab (cA (aa (ag 2) (aa (ab (ar hu (ag 0) (ab (ae)))) (aa (ab (ar hu (ag 1) (ab (ae)))) (af)))))) (aa (ag 3) (aa (ab (aF (ab (aF (ab (ar hu (ag 0) (ab (ae)))) (ab (ar hu (ag 1) (ab (ae)))))) (ab (aD (aa (ab (jX T.n_int boot_int (ag 3))) (af)))))) (af))))))))
theorem gL {f : Addr} {fd : FuncData} (F : Fun K "_law_sentence" "_law_sentence" cv f fd) (T : Txt w K mg) (D_law_mixed : DefD P w K mg base "_law_mixed" 2 aL) (D_law_join : DefD P w K mg base "_law_join" 1 bo) : FnOk P w K mg base (CXe P w) 3 f fd ["_law_script", "_law_at", "_law_case"] (spD K mg aw) := by
 refine aV (N := dQ) (fb := bF) F az fun cdv A outer s H E hr => ?_
 have hu := hr.units
 exact ai (aO 3 az.nd (aD (af))) (ai (g6 PassesOwn.leaving rfl (jz T.n_range (ab (aF (ab (ae)) (ab (au D_law_mixed hr zP (aa (ag 0) (aa (ag 1) (aa (ab (ae)) (af))))))))) (qy 4 az.nd) (dW 4) (ai (aO 5 az.nd (au D_law_mixed hr zP (aa (ag 0) (aa (ab (aF (ab (aF (ag 1) (ab (ae)))) (ag 4))) (aa (ab (ae)) (af)))))) (ak (bw (oG (qw (fB hu (ab (dq (ag 5) (ab (ae)))) (ab (ae))) (nJ (iw hu (ag 3) (ab (aD (af))))))) (ai (aO 6 az.nd (gi 3)) (ak (iA 3 (ab (cA (aa (ab (cA (aa (ab (bY)) (aa (ab (ar hu (ag 6) (ab (ae)))) (af))))) (aa (ab (fY (ar hu (ag 6) (ab (ae))))) (aa (ab (aF (ab (ar hu (ag 6) (ab (ae)))) (ab (aD (aa (ab (jX T.n_int boot_int (ab (fY (ar hu (ag 6) (ab (ae))))))) (af)))))) (af))))))))) (ak (bw (oG (qw (fB hu (ab (dq (ag 5) (ab (ae)))) (ab (ae))) (nJ (kX (ab (cn T.n_len (ag 3))) (ab (ae)))))) (ai (aO 7 az.nd (gi 3)) (ak (iA 3 (ab (au D_law_join hr zP (aa (ab (gi 3)) (aa (ag 7) (aa (ab (ar hu (ab (aD (aa (ab (bY)) (aa (ab (bY)) (af))))) (ab (dq (ab (nH (ag 5) (ab (ae)))) (ab (ae)))))) (af))))))))) (ai (aO 8 az.nd (dq (ab (nH (ag 5) (ab (ae)))) (ab (cn T.n_len (ag 2))))) (ak (iA 3 (ab (cA (aa (ab (cA (aa (ab (bY)) (aa (ab (aF (ag 8) (ab (ae)))) (af))))) (aa (ab (qt hu (ab (ar hu (ag 2) (ag 8))) (ab (ae)))) (aa (ab (aD (af))) (af))))))))))))))) (ai (lg PassesOwn.leaving (kX (ab (cn T.n_len (ag 3))) (ab (ae))) (ai (aO 7 az.nd (gi 3)) (ak (iA 3 (ab (au D_law_join hr zP (aa (ab (gi 3)) (aa (ag 7) (aa (ab (ar hu (ab (aD (aa (ab (bY)) (aa (ab (bY)) (af))))) (ab (au D_law_mixed hr zP (aa (ag 0) (aa (ab (aF (ag 1) (ab (ae)))) (aa (ab (ae)) (af)))))))) (af)))))))))) (ai (bw (fB hu (ab (au D_law_mixed hr zP (aa (ag 0) (aa (ab (aF (ag 1) (ab (ae)))) (aa (ab (ae)) (af)))))) (ab (ae))) (ai (aO 6 az.nd (ar hu (ag 3) (ab (ae)))) (ak (aE (cA (aa (ab (cA (aa (ab (bY)) (aa (ab (ar hu (ag 6) (ab (ae)))) (af))))) (aa (ab (fY (ar hu (ag 6) (ab (ae))))) (aa (ab (aF (ab (ar hu (ag 6) (ab (ae)))) (ab (aD (aa (ab (jX T.n_int boot_int (ab (fY (ar hu (ag 6) (ab (ae))))))) (af)))))) (af)))))))) (aZ)) (ak (aE (ar hu (ag 3) (ab (ae))))))))
theorem vP {f : Addr} {fd : FuncData} (F : Fun K "law" "law" dR f fd) (T : Txt w K mg) (D_law_mixed : DefD P w K mg base "_law_mixed" 2 aL) (D_sayings_of : DefD P w K mg base "sayings_of" 16 bq) (D_law_sentence : DefD P w K mg base "_law_sentence" 3 aw) (D_law_whole : DefD P w K mg base "_law_whole" 1 bh) (D_law_is_saying : DefD P w K mg base "_law_is_saying" 2 aT) (D_law_cases : DefD P w K mg base "_law_cases" 1 bj) (D_law_fits : DefD P w K mg base "_law_fits" 2 bO) : FnOk P w K mg base (CXe P w) 17 f fd ["_law_script"] (spD K mg nZ) := by
 refine aV (N := oi) (fb := qZ) F fm fun cdv A outer s H E hr => ?_
 have hu := hr.units
 exact ai (aO 1 fm.nd (aF (ab (ae)) (ab (au D_law_mixed hr zP (aa (ag 0) (aa (ab (ae)) (aa (ab (ae)) (af)))))))) (ai (aO 2 fm.nd (au D_sayings_of hr zP (aa (ab (ar hu (ab (au D_law_sentence hr zP (aa (ag 0) (aa (ab (ae)) (aa (ab (eS (ab (aD (aa (ab (ae)) (af)))) (ag 1))) (af)))))) (ab (ae)))) (aa (ag 1) (af))))) (ai (bw (oG (gx (cq (fA (ab (cT "tuple" T.n_isinstance T.n_tuple boot_tuple rfl boot_isinstance (ag 2))))) (gx (iw hu (ab (cn T.n_len (ag 2))) (ab (ae))) (gx (cq (fA (ab (cT "list" T.n_isinstance T.n_list boot_list rfl boot_isinstance (ab (ar hu (ag 2) (ab (ae)))))))) (jY (kX (ab (cn T.n_len (ab (ar hu (ag 2) (ab (ae)))))) (ab (ae)))))))) (ak (aE (dk))) (aZ)) (ai (aO 3 fm.nd (cn T.n_len (ab (ar hu (ab (au D_law_sentence hr zP (aa (ag 0) (aa (ab (ae)) (aa (ab (eS (ab (aD (aa (ab (ae)) (af)))) (ag 1))) (af)))))) (ab (ae)))))) (ai (bw (oG (gx (cq (fA (ab (au D_law_whole hr zP (aa (ab (ar hu (ag 2) (ab (ae)))) (af)))))) (jY (iw hu (ab (ar hu (ag 2) (ab (ae)))) (ab (aF (ag 1) (ag 3))))))) (ak (aE (dk))) (aZ)) (ai (bw (iw hu (ab (cx (N0 := oi) (sc0 := (zB dR)) (F := [2]) (by decide +kernel) (by decide +kernel) (cw (ab (ar hu (ag 2) (ab (ae))))) (fun _ _ _ _ _ => jU (cq (fA (ab (au D_law_is_saying hr bH (aa (ag 0) (aa (ab (ar hu (ag 1) (ab (ae)))) (af)))))))) (fun _ _ _ _ _ => qq 0))) (ab (aD (af)))) (ak (aE (dk))) (aZ)) (ai (g6 PassesOwn.leaving rfl (mF (au D_law_cases hr zP (aa (ag 1) (af)))) (qy 4 fm.nd) (dW 4) (ai (aO 5 fm.nd (au D_law_sentence hr zP (aa (ag 0) (aa (ab (ae)) (aa (ag 4) (af)))))) (ai (aO 6 fm.nd (aD (af))) (ai (bw (fA (ab (ar hu (ag 5) (ab (ae))))) (ak (iA 6 (ab (aF (ag 4) (ab (ar hu (ag 5) (ab (ae)))))))) (aZ)) (ak (bw (iw hu (ab (cx (N0 := oi) (sc0 := (zB dR)) (F := [2, 4]) (by decide +kernel) (by decide +kernel) (cw (ab (au D_law_cases hr zP (aa (ag 3) (af))))) (fun _ _ _ _ _ => jU (fA (ab (au D_law_fits hr bH (aa (ab (ar hu (ag 1) (ab (ae)))) (aa (ab (aF (ag 2) (ag 0))) (af))))))) (fun _ _ _ _ _ => aF (ag 2) (ag 0)))) (ag 6)) (ak (aE (dk))) (aZ))))))) (ak (aE (dk)))))))))
end
end L2
namespace L2
open PySem PySem.Spec PyProof.Rows
instance : Tabs := ⟨[], ""⟩
theorem gval {K : W.Frag} {h : Heap} {mg : zu} {x : Str} {p : Tok -> Value} {t : Tok} (X : K.In h) (G : h.Ns mainGlobals mg) (a : W.nsIn K mainGlobals x = some (some (p t))) : ∃ t, mg x = some (p t) := ⟨t, W.mg_of X G a⟩
theorem gref {w : World} {K : W.Frag} {h : Heap} {mg : zu} {x : Str} {D : Addr} {kd : List (Key × Int)} (X : K.In h) (G : h.Ns mainGlobals mg) (a : W.nsIn K mainGlobals x = some (some (.ref D))) (q : DctK w K D kd) : ∃ a, mg x = some (.ref a) /\ DctK w K a kd := ⟨D, W.mg_of X G a, q⟩
theorem vQ {l : W.OpenLaw} {w : World} {K : W.Frag} {h : Heap} {mg : zu} {fa : Addr} {f0 f1 f2 f3 f4 f5 f6 f7 f8 f9 f10 f11 f12 f13 f14 f15 f16 f17 : Addr} {d0 d1 d2 d3 d4 d5 d6 d7 d8 d9 d10 d11 d12 d13 d14 d15 d16 : FuncData} {od17 an17 : Option Addr} {sl17 : Array (Option Value)} {oc17 kV17 dc17 pm17 cd17 ct17 : Value} (X : K.In h) (G : h.Ns mainGlobals mg) (hfa : mg "law" = some (.ref fa))
  (A_is_whole : A0 K mg "is_whole" ff f0 d0)
  (A_is_from_one_to : A0 K mg "is_from_one_to" bP f1 d1)
  (A_has_form : A0 K mg "has_form" fg f2 d2)
  (A_check_sentence : A0 K mg "check_sentence" bQ f3 d3)
  (A_number_of : A0 K mg "number_of" bW f4 d4)
  (A_by_things : A0 K mg "by_things" dJ f5 d5)
  (A_tied : A0 K mg "tied" gq f6 d6)
  (A_sayings_of : A0 K mg "sayings_of" di f7 d7)
  (A_law_cell_at : A0 K mg "_law_cell_at" cB f8 d8)
  (A_law_mixed : A0 K mg "_law_mixed" dN f9 d9)
  (A_law_whole : A0 K mg "_law_whole" dO f10 d10)
  (A_law_true : A0 K mg "_law_true" fh f11 d11)
  (A_law_fits : A0 K mg "_law_fits" dj f12 d12)
  (A_law_cases : A0 K mg "_law_cases" bX f13 d13)
  (A_law_is_saying : A0 K mg "_law_is_saying" cc f14 d14)
  (A_law_join : A0 K mg "_law_join" fk f15 d15)
  (A_law_sentence : A0 K mg "_law_sentence" cv f16 d16)
  (a17 : W.nsIn K mainGlobals "law" = some (some (.ref f17)))
  (l17 : K.lookup f17 = some ⟨oc17, od17, .func (W.fnOf "law" "law" (A8 dR) (A3 dR) (zB dR) .none kV17 dc17 pm17 an17 cd17 ct17), sl17⟩)
  (c17 : W.codeIn K cd17 "law" = true)
  (k17 : W.keepIn K (.ref f17) = true)
  (T : Txt w K mg)
  (hlaw : ∀ ns : List Int, ns.length <= 63 -> nZ [.list (ns.map PyData.int)] = .ok (.sh (.bool true))) :
  ∃ fd : FuncData, (∀ (s : Shared) (v : Value), BindsTo s fd ⟨[v], []⟩ [("_law_script", v)]) /\ ∀ base : Heap, K.In base -> base.Ns mainGlobals mg -> FnOk l.prog w K mg base (CXe l.prog w) 17 fa fd ["_law_script"] (Bo K) := by
 have e := hfa.symm.trans (W.mg_of X G a17)
 cases e
 have A_law := aH (st := dR) X G a17 l17 c17 k17
 refine ⟨W.fnOf "law" "law" (A8 dR) (A3 dR) (zB dR) .none kV17 dc17 pm17 an17 cd17 ct17, fun s v => .of_eq rfl, fun base _ _ => ?_⟩
 have D_is_whole : DefD l.prog w K mg base "is_whole" 1 bJ := aY A_is_whole (mf A_is_whole.fn T) fun _ _ _ _ _ _ => bnd1 fun _ => rfl
 have D_is_from_one_to : DefD l.prog w K mg base "is_from_one_to" 2 aB := aY A_is_from_one_to (fT A_is_from_one_to.fn T D_is_whole) fun _ _ _ _ _ _ => bnd2 fun _ _ => rfl
 have D_has_form : DefD l.prog w K mg base "has_form" 3 b9 := aY A_has_form (mh A_has_form.fn T D_is_from_one_to) fun _ _ _ _ _ _ => bnd2 fun _ _ => rfl
 have D_check_sentence : DefD l.prog w K mg base "check_sentence" 4 aR := aY A_check_sentence (fU A_check_sentence.fn T D_is_from_one_to D_has_form) fun _ _ _ _ _ _ => bnd2 fun _ _ => rfl
 have D_number_of := eN (P := l.prog) (w := w) (base := base) A_number_of T 14
 have D_by_things : DefD l.prog w K mg base "by_things" 1 aG := aY A_by_things (kH A_by_things.fn T) fun _ _ _ _ _ _ => bnd1 fun _ => rfl
 have D_tied : DefD l.prog w K mg base "tied" 2 dz := aY A_tied (tJ A_tied.fn T D_by_things) fun _ _ _ _ _ _ => bnd3 fun _ _ _ => rfl
 have D_sayings_of : DefD l.prog w K mg base "sayings_of" 16 bq := aY A_sayings_of (jg A_sayings_of.fn T D_check_sentence D_number_of D_tied) fun _ _ _ _ _ _ => bnd2 fun _ _ => rfl
 have D_law_cell_at : DefD l.prog w K mg base "_law_cell_at" 1 aQ := aY A_law_cell_at (jb A_law_cell_at.fn T) fun _ _ _ _ _ _ => bnd2 fun _ _ => rfl
 have D_law_mixed : DefD l.prog w K mg base "_law_mixed" 2 aL := aY A_law_mixed (kI A_law_mixed.fn T D_law_cell_at) fun _ _ _ _ _ _ => bnd3 fun _ _ _ => rfl
 have D_law_whole : DefD l.prog w K mg base "_law_whole" 1 bh := aY A_law_whole (kJ A_law_whole.fn T) fun _ _ _ _ _ _ => bnd1 fun _ => rfl
 have D_law_true : DefD l.prog w K mg base "_law_true" 1 bN := aY A_law_true (mi A_law_true.fn T) fun _ _ _ _ _ _ => bnd2 fun _ _ => rfl
 have D_law_fits : DefD l.prog w K mg base "_law_fits" 2 bO := aY A_law_fits (mj A_law_fits.fn T D_law_true) fun _ _ _ _ _ _ => bnd2 fun _ _ => rfl
 have D_law_cases : DefD l.prog w K mg base "_law_cases" 1 bj := aY A_law_cases (kK A_law_cases.fn T) fun _ _ _ _ _ _ => bnd1 fun _ => rfl
 have D_law_is_saying : DefD l.prog w K mg base "_law_is_saying" 2 aT := aY A_law_is_saying (gs A_law_is_saying.fn T D_law_whole) fun _ _ _ _ _ _ => bnd2 fun _ _ => rfl
 have D_law_join : DefD l.prog w K mg base "_law_join" 1 bo := aY A_law_join (ml A_law_join.fn T) fun _ _ _ _ _ _ => bnd3 fun _ _ _ => rfl
 have D_law_sentence : DefD l.prog w K mg base "_law_sentence" 3 aw := aY A_law_sentence (gL A_law_sentence.fn T D_law_mixed D_law_join) fun _ _ _ _ _ _ => bnd3 fun _ _ _ => rfl
 exact (vP A_law.fn T D_law_mixed D_sayings_of D_law_sentence D_law_whole D_law_is_saying D_law_cases D_law_fits).imp fun vs H Q E h => oJ hlaw vs H Q E h
theorem walk {l : W.OpenLaw} {q : Program} {loose : List Str} {XP : (Str -> Option Value) -> Heap -> Prop} {YP : World -> Heap -> Prop} {d : DefRec} {K : Params -> W.Frag} (hn : l.most = some 63) (hdf : d.params.defaults = [])
  (hY : ∀ (w : World) (h : Heap), YP w h -> (K w.params).In h)
  (F : ∀ (w : World) (mg : zu) (fa : Addr) (h : Heap), (K w.params).In h -> h.Ns mainGlobals mg -> mg d.name = some (.ref fa) ->
   ∃ fd : FuncData, (∀ (s : Shared) (u : Value), BindsTo s fd ⟨[u], []⟩ [("_law_script", u)]) /\ ∀ base : Heap, (K w.params).In base -> base.Ns mainGlobals mg -> FnOk l.prog w (K w.params) mg base (CXe l.prog w) 17 fa fd ["_law_script"] (Bo (K w.params))) :
  W.WalkO q loose XP YP l.row.toRowW d [] (fun f vs => PySem.call f vs) :=
 L2.rW (n := 63) (k := 17) (x := "_law_script") (CX := fun w => CXe l.prog w) (sp := fun w => Bo (K w.params)) hn (by decide) hdf ⟨rfl, by decide, by decide⟩ hY F (fun _ _ a ns hl _ hS => ⟨a, ns, rfl, hS, hl, fun _ h => absurd (show _ ∈ ([] : List Addr) from h) (by simp), fun _ => rfl⟩) fun _ _ _ _ _ z => oK _ _ _ _ _ z
end L2
open PySem PySem.W PyProof.Rows
set_option maxRecDepth 100000 in
set_option maxHeartbeats 0 in
theorem PySem.Challenge.cw_sayhall_k12_whole_sayings_of_holds : PySem.Challenge.rw_sayhall_k12_whole_sayings_of.Holds := by
 w_on; o_law; k_head; (case hw => w_witness2)
 k_fill
 refine L2.walk (l := PySem.Challenge.rw_sayhall_k12_whole_sayings_of) rfl rfl (fun w h Y => W.kIn_of Y) ?F
 case F =>
  intro w mg fa h KX G hmg
  refine' L2.vQ KX G hmg (L2.aH KX G ?a0 ?l0 ?c0 ?k0) (L2.aH KX G ?a1 ?l1 ?c1 ?k1) (L2.aH KX G ?a2 ?l2 ?c2 ?k2) (L2.aH KX G ?a3 ?l3 ?c3 ?k3) (L2.aH KX G ?a4 ?l4 ?c4 ?k4) (L2.aH KX G ?a5 ?l5 ?c5 ?k5) (L2.aH KX G ?a6 ?l6 ?c6 ?k6) (L2.aH KX G ?a7 ?l7 ?c7 ?k7) (L2.aH KX G ?a8 ?l8 ?c8 ?k8) (L2.aH KX G ?a9 ?l9 ?c9 ?k9) (L2.aH KX G ?a10 ?l10 ?c10 ?k10) (L2.aH KX G ?a11 ?l11 ?c11 ?k11) (L2.aH KX G ?a12 ?l12 ?c12 ?k12) (L2.aH KX G ?a13 ?l13 ?c13 ?k13) (L2.aH KX G ?a14 ?l14 ?c14 ?k14) (L2.aH KX G ?a15 ?l15 ?c15 ?k15) (L2.aH KX G ?a16 ?l16 ?c16 ?k16) ?a17 ?l17 ?c17 ?k17 ⟨W.mg_none_of KX G ?z_abs, W.mg_none_of KX G ?z_bool, W.mg_none_of KX G ?z_enumerate, W.mg_none_of KX G ?z_int, W.mg_none_of KX G ?z_isinstance, W.mg_none_of KX G ?z_len, W.mg_none_of KX G ?z_list, W.mg_none_of KX G ?z_range, W.mg_none_of KX G ?z_set, W.mg_none_of KX G ?z_sorted, W.mg_none_of KX G ?z_str, W.mg_none_of KX G ?z_tuple, L2.gval KX G ?v_MOST_SENTENCE_THINGS, L2.gval KX G ?v_MOST_TUPLES, L2.gref KX G ?v_LENGTH_BY_WORD ?q_LENGTH_BY_WORD⟩ (fun ns _ => L2.law_holds ns)
  (case a0 => k_is)
  (case l0 => k_is)
  (case c0 => k_is)
  (case k0 => k_is)
  (case a1 => k_is)
  (case l1 => k_is)
  (case c1 => k_is)
  (case k1 => k_is)
  (case a2 => k_is)
  (case l2 => k_is)
  (case c2 => k_is)
  (case k2 => k_is)
  (case a3 => k_is)
  (case l3 => k_is)
  (case c3 => k_is)
  (case k3 => k_is)
  (case a4 => k_is)
  (case l4 => k_is)
  (case c4 => k_is)
  (case k4 => k_is)
  (case a5 => k_is)
  (case l5 => k_is)
  (case c5 => k_is)
  (case k5 => k_is)
  (case a6 => k_is)
  (case l6 => k_is)
  (case c6 => k_is)
  (case k6 => k_is)
  (case a7 => k_is)
  (case l7 => k_is)
  (case c7 => k_is)
  (case k7 => k_is)
  (case a8 => k_is)
  (case l8 => k_is)
  (case c8 => k_is)
  (case k8 => k_is)
  (case a9 => k_is)
  (case l9 => k_is)
  (case c9 => k_is)
  (case k9 => k_is)
  (case a10 => k_is)
  (case l10 => k_is)
  (case c10 => k_is)
  (case k10 => k_is)
  (case a11 => k_is)
  (case l11 => k_is)
  (case c11 => k_is)
  (case k11 => k_is)
  (case a12 => k_is)
  (case l12 => k_is)
  (case c12 => k_is)
  (case k12 => k_is)
  (case a13 => k_is)
  (case l13 => k_is)
  (case c13 => k_is)
  (case k13 => k_is)
  (case a14 => k_is)
  (case l14 => k_is)
  (case c14 => k_is)
  (case k14 => k_is)
  (case a15 => k_is)
  (case l15 => k_is)
  (case c15 => k_is)
  (case k15 => k_is)
  (case a16 => k_is)
  (case l16 => k_is)
  (case c16 => k_is)
  (case k16 => k_is)
  (case a17 => k_is)
  (case l17 => k_is)
  (case c17 => k_is)
  (case k17 => k_is)
  (case z_abs => k_is)
  (case z_bool => k_is)
  (case z_enumerate => k_is)
  (case z_int => k_is)
  (case z_isinstance => k_is)
  (case z_len => k_is)
  (case z_list => k_is)
  (case z_range => k_is)
  (case z_set => k_is)
  (case z_sorted => k_is)
  (case z_str => k_is)
  (case z_tuple => k_is)
  (case v_MOST_SENTENCE_THINGS => k_is)
  (case v_MOST_TUPLES => k_is)
  (case v_LENGTH_BY_WORD => k_is)
  (case q_LENGTH_BY_WORD => refine' L2.sU (by decide) (by decide) ?qa ?qb; (case qa => k_is); (case qb => exact L2.cY rfl rfl rfl (L2.cY rfl rfl rfl (L2.cY rfl rfl rfl (L2.cY rfl rfl rfl (L2.oS))))))
