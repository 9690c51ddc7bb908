import PyProof.Rows.All
import Wide.All
import OpenK.AllK
import Wide.FinOn
import Lean
import PyProof.EqAt
import PyProof.EqKinds
import PyProof.TupleCall
import PySem.Challenge.RW_sayhall_k10_whole_played
set_option bootstrap.genMatcherCode false
noncomputable section
set_option Elab.async false
set_option linter.all false
set_option maxRecDepth 100000
abbrev zq := List PySem.PyData
abbrev zr := PySem.Str -> Option PySem.Value
abbrev zt := List (PySem.Addr × PySem.Obj)
abbrev zu := PySem.Value -> PySem.Shared -> Prop
namespace L2
open PySem PySem.Spec PyProof.Rows
abbrev Key := Sum Int Str
noncomputable def AL : Key -> Value -> Bool
 | .inl k, v => Value.isInt k v
 | .inr x, v => Value.isStrOf x v
noncomputable def keyH (w : World) : Key -> Int
 | .inl k => hashInt k
 | .inr x => hashStr w x
theorem aE : ∀ {k : Key} {v : Value}, AL k v = true -> (∃ i t, k = Sum.inl i /\ v = Value.int i t) \/ (∃ x t, k = Sum.inr x /\ v = Value.str x t)
 | .inl i, v, h => by
  obtain ⟨t, e⟩ := Value.isInt_shape (k := i) (v := v) h
  exact .inl ⟨i, t, rfl, e⟩
 | .inr x, v, h => by
  obtain ⟨t, e⟩ := Value.isStrOf_shape (x := x) (v := v) h
  exact .inr ⟨x, t, rfl, e⟩
theorem nC (i : Int) (t : Tok) : AL (.inl i) (.int i t) = true := by simp [AL, Value.isInt]
theorem nD (x : Str) (t : Tok) : AL (.inr x) (.str x t) = true := by simp [AL, Value.isStrOf]
theorem u3 (a b : Int) : decide ((Sum.inl a : Key) = Sum.inl b) = (a == b) := by
 by_cases e : a = b
 ·subst e; simp
 ·have h : ¬ (Sum.inl a : Key) = Sum.inl b := fun q => e (Sum.inl.inj q)
  rw [decide_eq_false h]
  exact (beq_eq_false_iff_ne.mpr e).symm
theorem u4 (a b : Str) : decide ((Sum.inr a : Key) = Sum.inr b) = decide (a = b) := by
 by_cases e : a = b
 ·subst e; simp
 ·have h : ¬ (Sum.inr a : Key) = Sum.inr b := fun q => e (Sum.inr.inj q)
  rw [decide_eq_false h, decide_eq_false e]
theorem u5 (a : Int) (b : Str) : decide ((Sum.inl a : Key) = Sum.inr b) = false := decide_eq_false (fun q => nomatch q)
theorem u7 (a : Str) (b : Int) : decide ((Sum.inr a : Key) = Sum.inl b) = false := decide_eq_false (fun q => nomatch q)
noncomputable def zO (prog : Program) (w : World) : PySem.KeyKind prog w Key where
 is := AL
 hash := keyH w
 inj := fun v a b ha hb => by
  rcases aE ha with ⟨i, t, rfl, rfl⟩ | ⟨x, t, rfl, rfl⟩
  ·rcases aE hb with ⟨j, u, rfl, e⟩ | ⟨y, u, rfl, e⟩
   ·injection e with e1 _; rw [e1]
   ·exact nomatch e
  ·rcases aE hb with ⟨j, u, rfl, e⟩ | ⟨y, u, rfl, e⟩
   ·exact nomatch e
   ·injection e with e1 _; rw [e1]
 byValue := fun k v h => by
  rcases aE h with ⟨i, t, rfl, rfl⟩ | ⟨x, t, rfl, rfl⟩ <;> rfl
 pyHash := fun hv h => by
  rcases aE hv with ⟨i, t, rfl, rfl⟩ | ⟨x, t, rfl, rfl⟩
  ·exact wpAny_pyHash_int h
  ·exact wpAny_pyHash_str h
 eqBool := fun hu hv h => by
  rcases aE hu with ⟨i, t, rfl, rfl⟩ | ⟨x, t, rfl, rfl⟩
  ·rcases aE hv with ⟨j, u, rfl, rfl⟩ | ⟨y, u, rfl, rfl⟩
   ·rw [u3] at h; exact wpAny_eqBool_int h
   ·rw [u5] at h; exact SeqAt.EqAt.int_str i t y u _ _ _ _ h
  ·rcases aE hv with ⟨j, u, rfl, rfl⟩ | ⟨y, u, rfl, rfl⟩
   ·rw [u7] at h; exact SeqAt.EqAt.str_int x t j u _ _ _ _ h
   ·rw [u4] at h; exact wpAny_eqBool_str h
 «strs» := fun k x t v h => by
  rcases aE h with ⟨i, u, rfl, e⟩ | ⟨y, u, rfl, e⟩
  ·exact nomatch e
  ·injection e with e1 _
   subst e1
   cases v <;> rfl
theorem jR (prog : Program) (w : World) (i : Int) (t : Tok) : (zO prog w).is (.inl i) (.int i t) = true := nC i t
theorem jS (prog : Program) (w : World) (x : Str) (t : Tok) : (zO prog w).is (.inr x) (.str x t) = true := nD x t
inductive V where
 | non | bl (b : Bool) | int (i : Int) | str (x : Str) | byt (b : Array UInt8) | flt (b : UInt64) | ref (a : Addr) | ty (n : String)
 deriving DecidableEq
noncomputable def RelV : V -> Value -> Prop
 | .non, u => u = Value.none
 | .bl b, u => u = Value.bool b
 | .int i, u => ∃ t, u = Value.int i t
 | .str x, u => ∃ t, u = Value.str x t
 | .byt b, u => ∃ t, u = Value.bytes b t
 | .flt b, u => ∃ t, u = Value.float b t
 | .ref a, u => u = Value.ref a
 | .ty n, u => u = Value.type n
abbrev Vals : List V -> List Value -> Prop := Paired RelV
theorem Vals.length {xs : List V} {us : List Value} (r : Vals xs us) : xs.length = us.length := Paired.length r
theorem Vals.get : ∀ {xs : List V} {us : List Value} {i : Nat} {x : V}, Vals xs us -> xs[i]? = some x -> ∃ u, us[i]? = some u /\ RelV x u
 | _, _, _, _, .nil, e => by simp at e
 | _, _, 0, _, .cons r _, e => by simp at e; subst e; exact ⟨_, rfl, r⟩
 | _, _, i + 1, x, .cons _ t, e => by
  obtain ⟨u, h1, h2⟩ := Vals.get (i := i) (x := x) t (by simpa using e)
  exact ⟨u, by simpa using h1, h2⟩
theorem Vals.append : ∀ {xs ys : List V} {us ws : List Value}, Vals xs us -> Vals ys ws -> Vals (xs ++ ys) (us ++ ws)
 | _, _, _, _, .nil, s => s
 | _, _, _, _, .cons r t, s => .cons r (Vals.append t s)
theorem Vals.take : ∀ {xs : List V} {us : List Value} (n : Nat), Vals xs us -> Vals (xs.take n) (us.take n)
 | _, _, 0, _ => .nil
 | _, _, _ + 1, .nil => .nil
 | _, _, n + 1, .cons r t => .cons r (Vals.take n t)
theorem Vals.drop : ∀ {xs : List V} {us : List Value} (n : Nat), Vals xs us -> Vals (xs.drop n) (us.drop n)
 | _, _, 0, r => r
 | _, _, _ + 1, .nil => .nil
 | _, _, n + 1, .cons _ t => Vals.drop n t
noncomputable def RelO : Option V -> Option Value -> Prop
 | some v, some u => RelV v u
 | none, none => True
 | _, _ => False
noncomputable def KV {κ : Type} : List (κ × V) -> List (κ × Value) -> Prop := Paired fun (p : κ × V) (q : κ × Value) => p.1 = q.1 /\ RelV p.2 q.2
def kV : Key -> V
 | .inl i => .int i
 | .inr x => .str x
inductive HO where
 | lst (xs : List V)
 | tup (xs : List V)
 | dK (kvs : List (Key × V)) | dT (kvs : List (List Key × V))
 | set (S : Int -> Bool) (n : Nat)
 | ins (C dx : Addr) (fs : List (Str × V))
 | own (x : Addr)
 | xd (fs : List (Str × V))
 | met (f x : Addr)
 | rng (lo hi : Int)
 | frz (o : Obj) (u : HO)
 | tbl (ps : Array Value)
 | ext (φ : Heap -> Prop)
abbrev Hp := Addr -> Option HO
noncomputable def upd (H : Hp) (a : Addr) (o : HO) : Hp := fun b => if b = a then some o else H b
theorem aj {H : Hp} {a : Addr} {o : HO} : upd H a o a = some o := by unfold upd; rw [if_pos rfl]
theorem ah {H : Hp} {a b : Addr} {o : HO} (h : b ≠ a) : upd H a o b = H b := by unfold upd; rw [if_neg h]
theorem jd {H : Hp} {a : Addr} {o u : HO} : upd (upd H a o) a u = upd H a u := by
 funext b; unfold upd; split <;> rfl
theorem wd {H : Hp} {a b : Addr} {o u : HO} (h : H a = some o) (h' : H b = some u) (d : o ≠ u) : a ≠ b := by
 intro e; subst e; rw [h] at h'; exact d (Option.some.inj h')
theorem ao {H : Hp} {a b : Addr} {o : HO} (h : H a = some o) (h' : H b = none) : a ≠ b := by
 intro e; subst e; rw [h] at h'; cases h'
section
variable (P : Program) (w : World)
noncomputable def zJ (H : Hp) (h : Heap) (a : Addr) : HO -> Prop
 | .lst xs => xs.length <= sizeLine /\ ∃ (its : List Value) (n : Nat), Vals xs its /\ h.get? a = some { cls := .type "list", data := .seq its.toArray n }
 | .tup xs => xs.length <= sizeLine /\ ∃ its : List Value, Vals xs its /\ IsTup h a its.toArray
 | .dK kvs => kvs.length <= sizeLine /\ (a == sysModules) = false /\ ∃ vs, KV kvs vs /\ h.DictOf (zO P w) a vs
 | .dT kvs => kvs.length <= sizeLine /\ (a == sysModules) = false /\ ∃ xs : List (List Key × Addr × Value),
   Paired (fun (p : List Key × V) (q : List Key × Addr × Value) => p.1 = q.1 /\ H q.2.1 = some (.tup (p.1.map kV)) /\ RelV p.2 q.2.2) kvs xs /\
   ∃ o es ep, h.get? a = some o /\ o.ExactDict /\ o.data = .dict es ep /\ es.toList = xs.map (entryOfKey (tupleKind (zO P w))) /\ (xs.map (·.1)).Nodup
 | .set S n => h.SetOf (intKind P w) a S n
 | .ins C dx fs => H dx = some (.own a) /\ fs.length <= 1000 /\ dx ≠ a /\ h.get? a = some (W.instObj C dx) /\
   ∃ mA, h.Ns1 dx mA /\ (∀ f, RelO (fs.lookup f) (mA f)) /\ PySem.Within mA (fs.map (·.1))
 | .own _ => ∃ o, h.get? a = some o
 | .xd fs => ∃ mA, h.Ns1 a mA /\ ∀ f, RelO (fs.lookup f) (mA f)
 | .rng lo hi => ∃ t u v, h.get? a = some { cls := .type "range", data := .fields #[.int lo t, .int hi u, .int 1 v] }
 | .frz o u => h.get? a = some o /\ zJ H h a u
 | .tbl ps => h.get? a = some { cls := .none, data := .fields ps }
 | .met f x => h.get? a = some (W.methodObj (.ref f) (.ref x))
 | .ext φ => φ h /\ (∃ o, h.get? a = some o) /\ ∀ h1 h2 : Heap, φ h1 -> (∀ o, h1.get? a = some o -> h2.get? a = some o) -> φ h2
noncomputable def HOk (H : Hp) (h : Heap) : Prop := ∀ a o, H a = some o -> zJ P w H h a o
end
section
variable {P : Program} {w : World} {H H' : Hp} {h h' : Heap} {a : Addr} {o : HO}
theorem zJ.lt (x : zJ P w H h a o) : a < h.objs.size := by
 cases o with
 | lst xs => obtain ⟨_, _, _, _, e⟩ := x; exact Heap.lt_size e
 | tup xs => obtain ⟨_, _, _, p⟩ := x; exact p.lt
 | dK kvs => obtain ⟨_, _, _, _, o, _, _, e, _⟩ := x; exact Heap.lt_size e
 | dT kvs => obtain ⟨_, _, _, _, o, _, _, e, _⟩ := x; exact Heap.lt_size e
 | set S n => obtain ⟨o, _, _, _, e, _⟩ := x; exact Heap.lt_size e
 | ins C dx fs => obtain ⟨_, _, _, e, _⟩ := x; exact Heap.lt_size e
 | own y => obtain ⟨_, e⟩ := x; exact Heap.lt_size e
 | xd fs => obtain ⟨_, ⟨_, _, _, e, _⟩, _⟩ := x; exact Heap.lt_size e
 | rng lo hi => obtain ⟨_, _, _, e⟩ := x; exact Heap.lt_size e
 | frz ob u => obtain ⟨e, _⟩ := x; exact Heap.lt_size e
 | tbl ps => exact Heap.lt_size (show h.get? a = some _ from x)
 | met f y => exact Heap.lt_size (show h.get? a = some _ from x)
 | ext φ => obtain ⟨_, ⟨_, e⟩, _⟩ := x; exact Heap.lt_size e
theorem Paired.mapP {α β : Type} {F G : α -> β -> Prop} : ∀ {l₁ : List α} {l₂ : List β}, Paired F l₁ l₂ -> (∀ a b, F a b -> G a b) -> Paired G l₁ l₂
 | _, _, .nil, _ => .nil
 | _, _, .cons r t, f => .cons (f _ _ r) (Paired.mapP t f)
theorem zJ.stay (x : zJ P w H h a o) (k : ∀ b u, (b = a \/ H b = some (.own a)) -> h.get? b = some u -> h'.get? b = some u)
  (ho : ∀ b, H b = some (.own a) -> H' b = some (.own a)) (ht : ∀ b xs, H b = some (.tup xs) -> H' b = some (.tup xs)) : zJ P w H' h' a o := by
 induction o with
 | lst xs => obtain ⟨z, its, n, r, e⟩ := x; exact ⟨z, its, n, r, k _ _ (.inl rfl) e⟩
 | tup xs => obtain ⟨z, its, r, ob, e, c⟩ := x; exact ⟨z, its, r, ob, k _ _ (.inl rfl) e, c⟩
 | dK kvs => obtain ⟨z, y, vs, r, ob, es, ep, e, c⟩ := x; exact ⟨z, y, vs, r, ob, es, ep, k _ _ (.inl rfl) e, c⟩
 | dT kvs =>
  obtain ⟨z, y, xs, r, ob, es, ep, e, c⟩ := x
  exact ⟨z, y, xs, Paired.mapP r fun p q z => ⟨z.1, ht _ _ z.2.1, z.2.2⟩, ob, es, ep, k _ _ (.inl rfl) e, c⟩
 | set S n => obtain ⟨ob, es, ep, t, e, c⟩ := x; exact ⟨ob, es, ep, t, k _ _ (.inl rfl) e, c⟩
 | ins C dx fs =>
  obtain ⟨d, z, ne, e, mA, ⟨od, es, ep, e2, c⟩, r⟩ := x
  exact ⟨ho _ d, z, ne, k _ _ (.inl rfl) e, mA, ⟨od, es, ep, k _ _ (.inr d) e2, c⟩, r⟩
 | own y => obtain ⟨ob, e⟩ := x; exact ⟨ob, k _ _ (.inl rfl) e⟩
 | xd fs => obtain ⟨mA, ⟨od, es, ep, e, c⟩, r⟩ := x; exact ⟨mA, ⟨od, es, ep, k _ _ (.inl rfl) e, c⟩, r⟩
 | rng lo hi => obtain ⟨t, u, v, e⟩ := x; exact ⟨t, u, v, k _ _ (.inl rfl) e⟩
 | frz ob u ih => obtain ⟨e, q⟩ := x; exact ⟨k _ _ (.inl rfl) e, ih q⟩
 | tbl ps =>
  have e : h.get? a = some { cls := .none, data := .fields ps } := x
  show h'.get? a = some { cls := .none, data := .fields ps }
  exact k a _ (.inl rfl) e
 | met f y =>
  have e : h.get? a = some (W.methodObj (.ref f) (.ref y)) := x
  show h'.get? a = some (W.methodObj (.ref f) (.ref y))
  exact k a _ (.inl rfl) e
 | ext φ => obtain ⟨p, ⟨o, e⟩, st⟩ := x; exact ⟨st _ _ p fun o q => k _ _ (.inl rfl) q, ⟨o, k _ _ (.inl rfl) e⟩, st⟩
theorem HOk.lt (x : HOk P w H h) (e : H a = some o) : a < h.objs.size := (x a o e).lt
theorem HOk.fresh (x : HOk P w H h) (e : h.objs.size <= a) : H a = none := by
 cases q : H a with
 | none => rfl
 | some u => exact absurd (Nat.lt_of_lt_of_le (x.lt q) e) (Nat.lt_irrefl _)
theorem HOk.kept (x : HOk P w H h) (k : ∀ b u, h.get? b = some u -> h'.get? b = some u) : HOk P w H h' := fun a o e =>
 (x a o e).stay (fun b u _ q => k b u q) (fun _ q => q) fun _ _ q => q
theorem HOk.laid (x : HOk P w H h) (k : ∀ b u, h.get? b = some u -> h'.get? b = some u) (hp : h.objs.size <= a) (new : zJ P w (upd H a o) h' a o) : HOk P w (upd H a o) h' := fun b u e => by
 have hn := x.fresh hp
 by_cases hb : b = a
 ·subst hb; rw [aj] at e; cases e; exact new
 ·rw [ah hb] at e
  exact (x b u e).stay (fun c v _ q => k c v q) (fun c q => by rw [ah (ao q hn)]; exact q) fun c xs q => by rw [ah (ao q hn)]; exact q
end
noncomputable def Rd (H : Hp) (a : Addr) (u : HO) : Prop := H a = some u \/ ∃ o, H a = some (.frz o u)
theorem Rd.of {H : Hp} {a : Addr} {u : HO} (h : H a = some u) : Rd H a u := .inl h
theorem Rd.ok {P : Program} {w : World} {H : Hp} {h : Heap} {a : Addr} {u : HO} (r : Rd H a u) (x : HOk P w H h) : zJ P w H h a u := by
 rcases r with r | ⟨o, r⟩
 ·exact x a u r
 ·obtain ⟨_, q⟩ := x a _ r
  exact q
noncomputable def Mut : Option HO -> Prop
 | some (.lst _) => True
 | some (.dK _) => True
 | some (.dT _) => True
 | some (.set _ _) => True
 | some (.ins _ _ _) => True
 | some (.ext _) => True
 | _ => False
section
variable {P : Program} {w : World} {H : Hp} {h h' : Heap} {x e : Addr} {o' : HO}
theorem HOk.write (ok : HOk P w H h) (mu : Mut (H x)) (he : e = x \/ H e = some (.own x)) (k : ∀ b u, b ≠ e -> h.get? b = some u -> h'.get? b = some u) (heo : ∃ u, h'.get? e = some u)
  (new : zJ P w (upd H x o') h' x o') : HOk P w (upd H x o') h' := fun b u q => by
 have nown : ∀ c y, H c = some (.own y) -> c ≠ x := fun c y r z => by subst z; rw [r] at mu; exact mu
 have ntup : ∀ c xs, H c = some (.tup xs) -> c ≠ x := fun c xs r z => by subst z; rw [r] at mu; exact mu
 by_cases hb : b = x
 ·subst hb; rw [aj] at q; cases q; exact new
 ·rw [ah hb] at q
  by_cases hbe : b = e
  ·have q' : H b = some (.own x) := by
    rcases he with z | z
    ·exact absurd (hbe.trans z) hb
    ·rw [hbe]; exact z
   rw [q] at q'; cases q'
   obtain ⟨v, hv⟩ := heo
   exact ⟨v, by rw [hbe]; exact hv⟩
  ·refine (ok b u q).stay (fun c v hc r => k c v ?_ r) (fun c r => by rw [ah (nown c b r)]; exact r) fun c xs r => by rw [ah (ntup c xs r)]; exact r
   rcases hc with rfl | hc
   ·exact hbe
   ·rintro rfl
    rcases he with z | z
    ·exact nown c b hc z
    ·rw [hc] at z; cases z; exact hb rfl
end
structure Un (fs ex : List Addr) (H H' : Hp) (h h' : Heap) : Prop where
 keep : ∀ b o, h.get? b = some o -> H b = none -> b ∉ fs -> b ∉ ex -> h'.get? b = some o
 slot : ∀ b o, h.get? b = some o -> H b = none -> b ∈ fs -> b ∉ ex -> ∃ sl, h'.get? b = some { o with slots := sl }
 free : ∀ b o, h.get? b = some o -> H b = none -> b ∉ ex -> H' b = none
 there : ∀ b o, h.get? b = some o -> b ∉ ex -> ∃ o', h'.get? b = some o'
 tups : ∀ b xs, H b = some (.tup xs) -> H' b = some (.tup xs)
 frzs : ∀ b o u, H b = some (.frz o u) -> H' b = some (.frz o u)
 tbls : ∀ b ps, H b = some (.tbl ps) -> ∃ more, H' b = some (.tbl (ps ++ more))
section
variable {fs fs' ex ex' : List Addr} {H H1 H2 : Hp} {h h1 h2 h' : Heap} {a x e : Addr} {o : HO}
theorem Un.any (u : Un fs ex H H1 h h1) {b : Addr} {ob : Obj} (q : h.get? b = some ob) (n : H b = none) (hx : b ∉ ex) : ∃ sl, h1.get? b = some { ob with slots := sl } := by
 by_cases hb : b ∈ fs
 ·exact u.slot b ob q n hb hx
 ·exact ⟨ob.slots, u.keep b ob q n hb hx⟩
theorem Un.trans (a : Un fs ex H H1 h h1) (b : Un fs ex H1 H2 h1 h2) : Un fs ex H H2 h h2 where
 keep := fun c ob q n hc hx => b.keep c ob (a.keep c ob q n hc hx) (a.free c ob q n hx) hc hx
 slot := fun c ob q n hc hx => by
  obtain ⟨sl, e1⟩ := a.slot c ob q n hc hx
  obtain ⟨sl', e2⟩ := b.slot c _ e1 (a.free c ob q n hx) hc hx
  exact ⟨sl', e2⟩
 free := fun c ob q n hx => by
  obtain ⟨o', e1⟩ := a.there c ob q hx
  exact b.free c o' e1 (a.free c ob q n hx) hx
 there := fun c ob q hx => by
  obtain ⟨o', e1⟩ := a.there c ob q hx
  exact b.there c o' e1 hx
 tups := fun c xs q => b.tups c xs (a.tups c xs q)
 frzs := fun c ob xs q => b.frzs c ob xs (a.frzs c ob xs q)
 tbls := fun c ps q => by
  obtain ⟨m1, e1⟩ := a.tbls c ps q
  obtain ⟨m2, e2⟩ := b.tbls c _ e1
  exact ⟨m1 ++ m2, by rw [e2, Array.append_assoc]⟩
theorem Un.kept (k : ∀ b u, h.get? b = some u -> h'.get? b = some u) : Un fs ex H H h h' :=
 ⟨fun b ob q _ _ _ => k b ob q, fun b ob q _ _ _ => ⟨ob.slots, k b ob q⟩, fun _ _ _ n _ => n, fun b ob q _ => ⟨ob, k b ob q⟩, fun _ _ q => q, fun _ _ _ q => q, fun _ ps q => ⟨#[], by rw [q]; simp⟩⟩
theorem Un.refl : Un fs ex H H h h := Un.kept fun _ _ q => q
theorem Un.laid (k : ∀ b u, h.get? b = some u -> h'.get? b = some u) (hp : h.objs.size <= a) (hn : H a = none) : Un fs ex H (upd H a o) h h' where
 keep := fun b u q _ _ _ => k b u q
 slot := fun b u q _ _ _ => ⟨u.slots, k b u q⟩
 free := fun b u q n _ => by rw [ah (Nat.ne_of_lt (Nat.lt_of_lt_of_le (Heap.lt_size q) hp))]; exact n
 there := fun b u q _ => ⟨u, k b u q⟩
 tups := fun b xs q => by rw [ah (ao q hn)]; exact q
 frzs := fun b u xs q => by rw [ah (ao q hn)]; exact q
 tbls := fun b ps q => ⟨#[], by rw [ah (ao q hn), q]; simp⟩
theorem Un.write (mu : Mut (H x)) (he : e = x \/ H e = some (.own x)) (k : ∀ b u, b ≠ e -> h.get? b = some u -> h'.get? b = some u) (heo : ∃ u, h'.get? e = some u) : Un fs ex H (upd H x o) h h' := by
 have hx : ∀ b, H b = none -> b ≠ x := fun b n z => by subst z; rw [n] at mu; exact mu
 have hb : ∀ b, H b = none -> b ≠ e := fun b n z => by
  subst z
  rcases he with r | r
  ·exact hx b n r
  ·rw [n] at r; cases r
 have hm : ∀ b u, H b = some u -> ¬ Mut (some u) -> b ≠ x := fun b u q nm z => by subst z; rw [q] at mu; exact nm mu
 refine ⟨fun b u q n _ _ => k b u (hb b n) q, fun b u q n _ _ => ⟨u.slots, k b u (hb b n) q⟩, fun b u q n _ => by rw [ah (hx b n)]; exact n, fun b u q _ => ?_,
  fun b xs q => by rw [ah (hm b _ q fun z => z)]; exact q, fun b u xs q => by rw [ah (hm b _ q fun z => z)]; exact q, fun b ps q => ⟨#[], by rw [ah (hm b _ q fun z => z), q]; simp⟩⟩
 by_cases hbe : b = e
 ·subst hbe; exact heo
 ·exact ⟨u, k b u hbe q⟩
theorem Un.mono (u : Un fs ex H H1 h h1) (hs : ∀ b ∈ fs, b ∈ fs') (hx : ∀ b ∈ ex, b ∈ ex') : Un fs' ex' H H1 h h1 :=
 ⟨fun b ob q n hb he => u.keep b ob q n (fun z => hb (hs b z)) fun z => he (hx b z), fun _ _ q n _ he => u.any q n fun z => he (hx _ z), fun b ob q n he => u.free b ob q n fun z => he (hx b z), fun b ob q he => u.there b ob q fun z => he (hx b z), u.tups, u.frzs, u.tbls⟩
end
noncomputable def trk (h : Heap) (H : Hp) : List Addr := (List.range h.objs.size).filter fun a => (H a).isSome
noncomputable def hidT (h : Heap) (H : Hp) : Heap := W.hideAll h (trk h H)
theorem nE (h : Heap) (H : Hp) : (hidT h H).objs.size = h.objs.size := W.hideAll_size _ _
theorem oZ {h : Heap} {H : Hp} {b : Addr} {o : Obj} (e : h.get? b = some o) (n : H b = none) : (hidT h H).get? b = some o :=
 W.hideAll_get _ e fun hm => by
  have q : (H b).isSome = true := (List.mem_filter.mp hm).2
  rw [n] at q; simp at q
theorem rf {h : Heap} {H : Hp} {b : Addr} {o : Obj} (e : (hidT h H).get? b = some o) : h.get? b = some o /\ H b = none := by
 have e' : h.get? b = some o := W.of_hideAll (trk h H) e
 refine ⟨e', ?_⟩
 cases q : H b with
 | none => rfl
 | some x =>
  have hm : b ∈ trk h H := List.mem_filter.mpr ⟨List.mem_range.mpr (Heap.lt_size e'), by simp [q]⟩
  have z : (hidT h H).get? b = none := W.hideAll_none (trk h H) hm
  rw [z] at e; cases e
noncomputable def Bp (g h : Heap) (L : Addr) : zt := (List.range h.objs.size).filterMap fun a => if a = L \/ (g.get? a).isSome = true then none else (h.get? a).map fun o => (a, o)
noncomputable def rest (g h : Heap) (L d : Addr) : zt := (Bp g h L).filter fun p => decide (p.1 ≠ d)
structure Mod (K : W.Frag) (mg : zr) (base : Heap) : Prop where
 kin : K.In base
 glob : base.Ns mainGlobals mg
 blt : ∃ mb, base.Ns builtinsNs mb /\ ∀ x : Str, x ≠ "__name__" -> mb x = bootBuiltins x
 nolimit : base.NoLimit
structure Cx where
 prog : Program
 w : World
 K : W.Frag
 mg : Str -> Option Value
 base : Heap
 A : Around
 N : List Str
 s₀ : Shared
 H₀ : Hp
 env : Env
 outer : List Env
 stack : List Env
 ex : List Addr
 fn : Str -> Bool
 calm : Bool
 pn : zt
 xe : Value -> Shared -> Prop
def frs (l : List Env) : List Addr := l.filterMap (·.frame)
abbrev Cx.fs (X : Cx) : List Addr := frs X.outer
noncomputable def Vis (sc : Scope) (x : Str) : Prop := sc.names.lookup x = some .local \/ sc.names.lookup x = some .cell \/ sc.names.lookup x = some .free
noncomputable def Loc (sc : Scope) (x : Str) : Prop := sc.names.lookup x = some .local \/ sc.names.lookup x = some .cell
noncomputable def Look (env : Env) (h : Heap) (m : zr) (x : Str) (u : Value) : Prop :=
 (env.kindOf x = some .local /\ m x = some u) \/ ((env.kindOf x = some .cell \/ env.kindOf x = some .free) /\ ∃ c, env.cells.lookup x = some c /\ h.IsCell c (some u))
structure Cx.Ok (X : Cx) : Prop where
 mod : Mod X.K X.mg X.base
 kind : X.env.scope.kind = .function
 glob : X.env.globals = mainGlobals
 blt : X.env.builtins = builtinsNs
 above : X.s₀.heap.objs.size <= X.env.locals
 inj : ∀ x y c, X.env.cells.lookup x = some c -> X.env.cells.lookup y = some c -> x = y
 has : ∀ x, (X.env.kindOf x = some .cell \/ X.env.kindOf x = some .free) -> ∃ c, X.env.cells.lookup x = some c
 cab : ∀ x c, X.fn x = true -> X.env.cells.lookup x = some c -> X.s₀.heap.objs.size <= c
 hd : X.calm = true -> X.A.handled = none
 frames : X.A.frames = some X.stack
 stk : X.stack = X.outer \/ (X.stack = X.env :: X.outer /\ X.env.frame = some X.env.locals)
 exf : ∀ b ∈ X.ex, b ≠ X.env.locals /\ ∀ x c, X.env.cells.lookup x = some c -> c ≠ b
 bs : ∀ b o, X.base.get? b = some o -> X.s₀.heap.get? b = some o /\ X.H₀ b = none
 bsz : X.base.objs.size <= X.s₀.heap.objs.size
 noex : ∀ b o, X.base.get? b = some o -> b ∉ X.ex
 exfs : ∀ b ∈ X.ex, b ∉ X.fs
 funs : X.s₀.heap.FunFrames X.base X.outer
 frf : ∀ b ∈ X.fs, X.H₀ b = none
structure Inv (X : Cx) (pins : zt) (σ : List (Option V)) (H : Hp) (s : Shared) : Prop where
 ok : X.Ok
 os : s.os = X.s₀.os
 bare : AllBare s.gens
 base : Un X.fs X.ex X.H₀ H X.s₀.heap s.heap
 loc : ∃ m, s.heap.Ns X.env.locals m /\ ∀ (i : Nat) (x : Str) (v : V), X.N[i]? = some x -> σ[i]? = some (some v) -> Vis X.env.scope x -> ∃ u, RelV v u /\ Look X.env s.heap m x u
 cell : ∀ x c, X.env.cells.lookup x = some c -> ∃ v, s.heap.IsCell c v
 free : H X.env.locals = none
 freeC : ∀ x c, X.env.cells.lookup x = some c -> H c = none
 pin : ∀ p ∈ X.pn ++ pins, s.heap.get? p.1 = some p.2 /\ H p.1 = none /\ p.1 ≠ X.env.locals /\ p.1 ∉ X.fs /\ ∀ v, p.2.data ≠ .cell v
 hok : HOk X.prog X.w H s.heap
 len : σ.length = X.N.length
section
variable {X : Cx} {pins : zt} {σ : List (Option V)} {H H' : Hp} {s : Shared} {h' : Heap}
theorem Cx.Ok.nofr (ok : X.Ok) {b : Addr} {o : Obj} (e : X.base.get? b = some o) : b ∉ X.fs := fun hb => by
 have := (ok.funs.mem hb).1
 rw [e] at this; cases this
theorem Inv.bs (I : Inv X pins σ H s) : ∀ b o, X.base.get? b = some o -> s.heap.get? b = some o /\ H b = none := fun b o e =>
 ⟨I.base.keep b o (I.ok.bs b o e).1 (I.ok.bs b o e).2 (I.ok.nofr e) (I.ok.noex b o e), I.base.free b o (I.ok.bs b o e).1 (I.ok.bs b o e).2 (I.ok.noex b o e)⟩
theorem Inv.bk (I : Inv X pins σ H s) : ∀ b o, X.base.get? b = some o -> s.heap.get? b = some o := fun b o e => (I.bs b o e).1
theorem Inv.mod (I : Inv X pins σ H s) : Mod X.K X.mg X.base := I.ok.mod
theorem Inv.kIn (I : Inv X pins σ H s) : X.K.In s.heap := I.ok.mod.kin.keeps I.bk
theorem Inv.fr (I : Inv X pins σ H s) : ∃ m, Fr X.base X.env.locals s.heap m :=
 let ⟨m, hn, _⟩ := I.loc
 ⟨m, hn, I.bk, Nat.le_trans I.ok.bsz I.ok.above⟩
theorem Inv.lt (I : Inv X pins σ H s) : X.env.locals < s.heap.objs.size := let ⟨_, hn, _⟩ := I.loc; hn.lt
theorem Inv.sz (I : Inv X pins σ H s) : X.s₀.heap.objs.size <= s.heap.objs.size := Nat.le_trans I.ok.above (Nat.le_of_lt I.lt)
theorem Inv.nofs (I : Inv X pins σ H s) {a : Addr} (h : s.heap.objs.size <= a) : a ∉ X.fs := fun hb => by
 obtain ⟨_, o, ho, _⟩ := I.ok.funs.mem hb
 exact absurd (Nat.lt_of_lt_of_le (Heap.lt_size ho) (Nat.le_trans I.sz h)) (Nat.lt_irrefl _)
theorem Inv.cne (I : Inv X pins σ H s) : ∀ x c, X.env.cells.lookup x = some c -> c ≠ X.env.locals := fun x c e z => by
 obtain ⟨v, o, ho, hd⟩ := I.cell x c e
 obtain ⟨m, ⟨o', es, ep, ho', hd', _⟩, _⟩ := I.loc
 rw [z, ho'] at ho; cases ho; rw [hd'] at hd; cases hd
theorem Inv.funs (I : Inv X pins σ H s) : s.heap.FunFrames X.base X.outer := by
 have all : ∀ (l : List Env), (∀ b ∈ frs l, b ∈ X.fs) -> X.s₀.heap.FunFrames X.base l -> s.heap.FunFrames X.base l := by
  intro l
  induction l with
  | nil => intro _ _; trivial
  | cons env r ih =>
   intro hs hl
   obtain ⟨hk, ⟨L, o, hf, hn, ho, hd⟩, hr⟩ := hl
   have hL : L ∈ X.fs := hs L (by unfold frs; rw [List.filterMap_cons, hf]; exact List.mem_cons_self)
   obtain ⟨sl, e⟩ := I.base.slot L o ho (I.ok.frf L hL) hL fun z => I.ok.exfs L z hL
   exact ⟨hk, ⟨L, _, hf, hn, e, hd⟩, ih (fun b hb => hs b (by unfold frs; rw [List.filterMap_cons, hf]; exact List.mem_cons_of_mem _ hb)) hr⟩
 exact all X.outer (fun _ hb => hb) I.ok.funs
theorem Inv.stack (I : Inv X pins σ H s) : s.heap.FunFrames X.base X.stack := by
 rcases I.ok.stk with e | ⟨e, hf⟩
 ·rw [e]; exact I.funs
 ·rw [e]
  obtain ⟨m, hn, _⟩ := I.loc
  refine .cons (by rw [I.ok.kind]; decide) hf hn ?_ I.funs
  exact Heap.get?_none_of_le (Nat.le_trans I.ok.bsz I.ok.above)
theorem Inv.stkSub (I : Inv X pins σ H s) : ∀ b ∈ frs X.stack, b ∈ X.env.locals :: X.fs := fun b hb => by
 rcases I.ok.stk with e | ⟨e, hf⟩
 ·rw [e] at hb; exact List.mem_cons_of_mem _ hb
 ·rw [e] at hb
  unfold frs at hb
  rw [List.filterMap_cons, hf] at hb
  exact hb
theorem Inv.stkFree (I : Inv X pins σ H s) : ∀ b ∈ frs X.stack, H b = none := fun b hb => by
 rcases List.mem_cons.mp (I.stkSub b hb) with e | hb
 ·rw [e]; exact I.free
 ·obtain ⟨_, o, ho, _⟩ := I.ok.funs.mem hb
  exact I.base.free b o ho (I.ok.frf b hb) fun z => I.ok.exfs b z hb
theorem Inv.step {g' : Array GenState} {t' : Nat} {d' : Drawn} {ch : List Addr} (I : Inv X pins σ H s)
  (hch : ∀ b ∈ ch, (b ∈ X.ex \/ X.s₀.heap.objs.size <= b) /\ b ≠ X.env.locals /\ (∀ x c, X.env.cells.lookup x = some c -> c ≠ b) /\ ∀ p ∈ X.pn ++ pins, p.1 ≠ b)
  (keep : ∀ b o, b ≠ X.env.locals -> b ∉ X.fs -> b ∉ ch -> s.heap.get? b = some o -> H b = none -> h'.get? b = some o)
  (slot : ∀ b o, b ≠ X.env.locals -> b ∈ X.fs -> b ∉ ch -> s.heap.get? b = some o -> H b = none -> ∃ sl, h'.get? b = some { o with slots := sl }) (free : ∀ b o, b ∉ ch -> s.heap.get? b = some o -> H b = none -> H' b = none)
  (there : ∀ b o, b ∉ ch -> s.heap.get? b = some o -> ∃ o', h'.get? b = some o')
  (tups : ∀ b xs, H b = some (.tup xs) -> H' b = some (.tup xs)) (frzs : ∀ b o u, H b = some (.frz o u) -> H' b = some (.frz o u)) (tbls : ∀ b ps, H b = some (.tbl ps) -> ∃ more, H' b = some (.tbl (ps ++ more)))
  (ns : ∀ m, s.heap.Ns X.env.locals m -> h'.Ns X.env.locals m) (hok : HOk X.prog X.w H' h') (hg : AllBare g') :
  Inv X pins σ H' { s with heap := h', gens := g', drawn := d', toks := t' } := by
 have neL : ∀ b o, X.s₀.heap.get? b = some o -> b ≠ X.env.locals := fun b o e => Nat.ne_of_lt (Nat.lt_of_lt_of_le (Heap.lt_size e) I.ok.above)
 have neC : ∀ b o, X.s₀.heap.get? b = some o -> b ∉ X.ex -> b ∉ ch := fun b o e hx hb => by
  rcases (hch b hb).1 with z | z
  ·exact hx z
  ·exact absurd (Nat.lt_of_lt_of_le (Heap.lt_size e) z) (Nat.lt_irrefl _)
 have cellK : ∀ x c, X.env.cells.lookup x = some c -> ∀ v, s.heap.IsCell c v -> h'.IsCell c v := fun x c e v ⟨o, ho, hd⟩ => by
  have nch : c ∉ ch := fun z => (hch c z).2.2.1 x c e rfl
  by_cases hc : c ∈ X.fs
  ·obtain ⟨sl, q⟩ := slot c o (I.cne x c e) hc nch ho (I.freeC x c e)
   exact ⟨_, q, hd⟩
  ·exact ⟨o, keep c o (I.cne x c e) hc nch ho (I.freeC x c e), hd⟩
 refine ⟨I.ok, I.os, hg, ⟨fun b o e n hb hx => ?_, fun b o e n hb hx => ?_, fun b o e n hx => ?_, fun b o e hx => ?_, fun b xs e => tups b xs (I.base.tups b xs e), fun b o xs e => frzs b o xs (I.base.frzs b o xs e), fun b ps e => ?_⟩, ?_, fun x c e => ?_, ?_, fun x c e => ?_, fun p hp => ?_, hok, I.len⟩
 ·exact keep b o (neL b o e) hb (neC b o e hx) (I.base.keep b o e n hb hx) (I.base.free b o e n hx)
 ·obtain ⟨sl, e1⟩ := I.base.slot b o e n hb hx
  obtain ⟨sl', e2⟩ := slot b _ (neL b o e) hb (neC b o e hx) e1 (I.base.free b o e n hx)
  exact ⟨sl', e2⟩
 ·obtain ⟨o', e1⟩ := I.base.there b o e hx
  exact free b o' (neC b o e hx) e1 (I.base.free b o e n hx)
 ·obtain ⟨o', e1⟩ := I.base.there b o e hx
  exact there b o' (neC b o e hx) e1
 ·obtain ⟨m1, e1⟩ := I.base.tbls b ps e
  obtain ⟨m2, e2⟩ := tbls b _ e1
  exact ⟨m1 ++ m2, by rw [e2, Array.append_assoc]⟩
 ·obtain ⟨m, hn, hl⟩ := I.loc
  refine ⟨m, ns m hn, fun i x v e1 e2 e3 => ?_⟩
  obtain ⟨u, r, l⟩ := hl i x v e1 e2 e3
  refine ⟨u, r, ?_⟩
  rcases l with l | ⟨k, c, e, z⟩
  ·exact .inl l
  ·exact .inr ⟨k, c, e, cellK x c e _ z⟩
 ·obtain ⟨v, z⟩ := I.cell x c e
  exact ⟨v, cellK x c e v z⟩
 ·obtain ⟨m, ⟨o, _, _, ho, _⟩, _⟩ := I.loc
  exact free _ o (fun z => (hch _ z).2.1 rfl) ho I.free
 ·obtain ⟨v, o, ho, hd⟩ := I.cell x c e
  exact free c o (fun z => (hch c z).2.2.1 x c e rfl) ho (I.freeC x c e)
 ·obtain ⟨e, n, ne, nf, d⟩ := I.pin p hp
  have nch : p.1 ∉ ch := fun z => (hch p.1 z).2.2.2 p hp rfl
  exact ⟨keep p.1 p.2 ne nf nch e n, free p.1 p.2 nch e n, ne, nf, d⟩
theorem Inv.un {t' : Nat} (I : Inv X pins σ H s) (u : Un X.fs [] H H' s.heap h') (hok : HOk X.prog X.w H' h') : Inv X pins σ H' { s with heap := h', toks := t' } := by
 obtain ⟨m, ⟨o, es, ep, ho, r⟩, _⟩ := id I.loc
 obtain ⟨sl, hL⟩ := u.any ho I.free (by simp)
 exact I.step (g' := s.gens) (d' := s.drawn) (ch := []) (fun _ z => nomatch z) (fun b o _ hb _ e n => u.keep b o e n hb (by simp)) (fun b o _ hb _ e n => u.slot b o e n hb (by simp)) (fun b o _ e n => u.free b o e n (by simp)) (fun b o _ e => u.there b o e (by simp)) u.tups u.frzs u.tbls (fun m' hm => by
  obtain ⟨o', es', ep', ho', r'⟩ := hm
  rw [ho] at ho'; cases ho'
  exact ⟨_, es', ep', hL, r'⟩) hok I.bare
theorem Inv.call {g' : Array GenState} {t' : Nat} {d' : Drawn} {ch : List Addr} (I : Inv X pins σ H s) (u : Un (frs X.stack) ch H H' s.heap h') (hok : HOk X.prog X.w H' h') (hg : AllBare g')
  (hch : ∀ b ∈ ch, (b ∈ X.ex \/ X.s₀.heap.objs.size <= b) /\ b ≠ X.env.locals /\ (∀ x c, X.env.cells.lookup x = some c -> c ≠ b) /\ ∀ p ∈ X.pn ++ pins, p.1 ≠ b) :
  Inv X pins σ H' { s with heap := h', gens := g', drawn := d', toks := t' } := by
 obtain ⟨m, ⟨o, es, ep, ho, r⟩, _⟩ := id I.loc
 obtain ⟨sl, hL⟩ := u.any ho I.free fun z => (hch _ z).2.1 rfl
 exact I.step (ch := ch) hch (fun b o hL hb hc e n => u.keep b o e n (fun z => (List.mem_cons.mp (I.stkSub b z)).elim hL hb) hc) (fun b o _ _ hc e n => u.any e n hc) (fun b o hc e n => u.free b o e n hc) (fun b o hc e => u.there b o e hc) u.tups u.frzs u.tbls (fun m' hm => by
  obtain ⟨o', es', ep', ho', r'⟩ := hm
  rw [ho] at ho'; cases ho'
  exact ⟨_, es', ep', hL, r'⟩) hok hg
theorem Inv.turned {t' : Nat} {it : Addr} (I : Inv X pins σ H s) (k : ∀ b o, b ≠ it -> s.heap.get? b = some o -> h'.get? b = some o) (hn : H it = none) (hL : it ≠ X.env.locals)
  (h1 : it ∈ X.ex \/ X.s₀.heap.objs.size <= it) (h2 : ∀ x c, X.env.cells.lookup x = some c -> c ≠ it) (h3 : ∀ p ∈ X.pn ++ pins, p.1 ≠ it) : Inv X pins σ H { s with heap := h', toks := t' } := by
 have nit : ∀ b u, H b = some u -> b ≠ it := fun b u e z => by rw [z, hn] at e; cases e
 refine I.step (g' := s.gens) (d' := s.drawn) (ch := [it]) (fun b hb => ?_) (fun b o _ _ hc e _ => k b o (fun z => hc (by simp [z])) e) (fun b o _ _ hc e _ => ⟨o.slots, k b o (fun z => hc (by simp [z])) e⟩) (fun _ _ _ _ n => n)
  (fun b o hc e => ⟨o, k b o (fun z => hc (by simp [z])) e⟩) (fun _ _ e => e) (fun _ _ _ e => e) (fun b ps e => ⟨#[], by rw [e]; simp⟩) (fun m hm => ?_) (fun b u e => ?_) I.bare
 ·have e : b = it := by simpa using hb
  subst e
  exact ⟨h1, hL, h2, h3⟩
 ·obtain ⟨o, es, ep, ho, r⟩ := hm
  exact ⟨o, es, ep, k _ o (Ne.symm hL) ho, r⟩
 ·refine (I.hok b u e).stay (fun c v hc q => k c v ?_ q) (fun _ q => q) fun _ _ q => q
  rcases hc with z | z
  ·rw [z]; exact nit b u e
  ·exact nit c _ z
theorem Inv.tok (I : Inv X pins σ H s) (t : Nat) : Inv X pins σ H { s with toks := t } := I.un (h' := s.heap) (t' := t) Un.refl I.hok
theorem Inv.kept {t' : Nat} (I : Inv X pins σ H s) (k : ∀ b u, s.heap.get? b = some u -> h'.get? b = some u) : Inv X pins σ H { s with heap := h', toks := t' } := I.un (Un.kept k) (I.hok.kept k)
theorem Inv.laid {a : Addr} {o : HO} {t' : Nat} (I : Inv X pins σ H s) (k : ∀ b u, s.heap.get? b = some u -> h'.get? b = some u) (hp : s.heap.objs.size <= a) (new : zJ X.prog X.w (upd H a o) h' a o) :
  Inv X pins σ (upd H a o) { s with heap := h', toks := t' } := I.un (Un.laid k hp (I.hok.fresh hp)) (I.hok.laid k hp new)
theorem Inv.write {x e : Addr} {o : HO} {t' : Nat} (I : Inv X pins σ H s) (mu : Mut (H x)) (he : e = x \/ H e = some (.own x)) (k : ∀ b u, b ≠ e -> s.heap.get? b = some u -> h'.get? b = some u) (heo : ∃ u, h'.get? e = some u)
  (new : zJ X.prog X.w (upd H x o) h' x o) : Inv X pins σ (upd H x o) { s with heap := h', toks := t' } := I.un (Un.write mu he k heo) (I.hok.write mu he k heo new)
theorem Inv.weak {σ' : List (Option V)} (I : Inv X pins σ H s) (hl : σ'.length = σ.length) (w : ∀ (i : Nat) v, σ'[i]? = some (some v) -> σ[i]? = some (some v)) : Inv X pins σ' H s :=
 ⟨I.ok, I.os, I.bare, I.base, let ⟨m, hn, hl'⟩ := I.loc; ⟨m, hn, fun i x v e1 e2 e3 => hl' i x v e1 (w i v e2) e3⟩, I.cell, I.free, I.freeC, I.pin, I.hok, hl.trans I.len⟩
theorem Inv.pins_of {pins' : zt} (I : Inv X pins σ H s) (h : ∀ p ∈ pins', s.heap.get? p.1 = some p.2 /\ H p.1 = none /\ p.1 ≠ X.env.locals /\ p.1 ∉ X.fs /\ ∀ v, p.2.data ≠ .cell v) : Inv X pins' σ H s :=
 ⟨I.ok, I.os, I.bare, I.base, I.loc, I.cell, I.free, I.freeC, fun p hp => (List.mem_append.mp hp).elim (fun z => I.pin p (List.mem_append_left _ z)) (h p), I.hok, I.len⟩
theorem jT {N : List Str} (hN : N.Nodup) {i j : Nat} {x : Str} (a : N[i]? = some x) (b : N[j]? = some x) : i = j := by
 obtain ⟨h1, e1⟩ := List.getElem?_eq_some_iff.mp a
 obtain ⟨h2, e2⟩ := List.getElem?_eq_some_iff.mp b
 exact (List.getElem_inj hN).mp (e1.trans e2.symm)
theorem iz {M : Model} {A : Around} {E : zu} {i : Nat} {x : Str} {v : V} {u : Value} {Q : Unit -> Shared -> Prop} (I : Inv X pins σ H s) (hN : X.N.Nodup) (hi : X.N[i]? = some x) (hx : Loc X.env.scope x) (r : RelV v u)
  (h : ∀ s', Inv X pins (σ.set i (some v)) H s' -> (∃ a, Heap.SameBut a s.heap s'.heap /\ (a = X.env.locals \/ X.env.cells.lookup x = some a)) -> Q () s') (hf : X.fn x = true \/ X.env.scope.names.lookup x = some .local := by first | exact .inl rfl | exact .inr rfl | assumption) : wpAny M A (storeName X.env x u) Q E s := by
 obtain ⟨m, hn, hl⟩ := id I.loc
 have hcls : (X.env.scope.kind == .class || (X.env.scope.kind == .module && X.env.locals != X.env.globals)) = false := by rw [I.ok.kind]; rfl
 have hiσ : i < σ.length := by rw [I.len]; exact (List.getElem?_eq_some_iff.mp hi).1
 have cne := I.cne
 have tracked : ∀ {a : Addr} {h' : Heap}, (∃ o, s.heap.get? a = some o /\ H a = none) -> Heap.SameBut a s.heap h' -> HOk X.prog X.w H h' := fun {a h'} ha hs b ob e => by
  obtain ⟨_, _, hfree⟩ := ha
  refine (I.hok b ob e).stay (fun c w' hc q => (hs.2 c ?_).trans q) (fun _ q => q) fun _ _ q => q
  rintro rfl
  rcases hc with rfl | hc
  ·rw [hfree] at e; cases e
  ·rw [hfree] at hc; cases hc
 rcases hx with hk | hk
 ·refine wpAny_storeName_local hk hn (fun h' hn' hs => ?_) hcls
  obtain ⟨oL, _, _, hoL, _⟩ := id hn
  refine h _ ⟨I.ok, I.os, I.bare, ⟨fun b o e n hb hx => ?_, fun b o e n hb hx => ?_, I.base.free, fun b o e hx => ?_, I.base.tups, I.base.frzs, I.base.tbls⟩, ⟨_, hn', fun j y v' e1 e2 e3 => ?_⟩, fun y c e => ?_, I.free, I.freeC, fun p hp => ?_, tracked ⟨oL, hoL, I.free⟩ hs, by simpa using I.len⟩ ⟨_, hs, .inl rfl⟩
  ·exact (hs.2 b (Nat.ne_of_lt (Nat.lt_of_lt_of_le (Heap.lt_size e) I.ok.above))).trans (I.base.keep b o e n hb hx)
  ·obtain ⟨sl, e1⟩ := I.base.slot b o e n hb hx
   exact ⟨sl, (hs.2 b (Nat.ne_of_lt (Nat.lt_of_lt_of_le (Heap.lt_size e) I.ok.above))).trans e1⟩
  ·obtain ⟨o', e1⟩ := I.base.there b o e hx
   exact ⟨o', (hs.2 b (Nat.ne_of_lt (Nat.lt_of_lt_of_le (Heap.lt_size e) I.ok.above))).trans e1⟩
  ·by_cases hj : j = i
   ·subst hj
    rw [hi] at e1; cases e1
    rw [List.getElem?_set_self hiσ] at e2
    cases e2
    exact ⟨u, r, .inl ⟨hk, by simp⟩⟩
   ·rw [List.getElem?_set_ne (Ne.symm hj)] at e2
    obtain ⟨u', r', q⟩ := hl j y v' e1 e2 e3
    refine ⟨u', r', ?_⟩
    rcases q with ⟨k, e⟩ | ⟨k, c, e, z⟩
    ·refine .inl ⟨k, ?_⟩
     have : y ≠ x := fun e => hj (jT hN e1 (e ▸ hi))
     simp [this, e]
    ·exact .inr ⟨k, c, e, z.sameBut hs (cne y c e)⟩
  ·obtain ⟨w', z⟩ := I.cell y c e
   exact ⟨w', z.sameBut hs (cne y c e)⟩
  ·obtain ⟨e, n, ne, nf, d⟩ := I.pin p hp
   exact ⟨(hs.2 p.1 ne).trans e, n, ne, nf, d⟩
 ·have hfn : X.fn x = true := by
   rcases hf with z | z
   ·exact z
   ·rw [z] at hk; cases hk
  obtain ⟨c, hc⟩ := I.ok.has x (.inl hk)
  obtain ⟨w', z⟩ := I.cell x c hc
  refine wpAny_storeName_cell I.ok.kind hk hc z (fun h' hc' hs => ?_)
  obtain ⟨oc, hoc, hocd⟩ := id z
  refine h { s with heap := h' } ⟨I.ok, I.os, I.bare, ⟨fun b o e n hb hx => ?_, fun b o e n hb hx => ?_, I.base.free, fun b o e hx => ?_, I.base.tups, I.base.frzs, I.base.tbls⟩, ⟨m, hn.sameBut hs (Ne.symm (cne x c hc)), fun j y v' e1 e2 e3 => ?_⟩, fun y c' e => ?_, I.free, I.freeC, fun p hp => ?_, tracked ⟨oc, hoc, I.freeC x c hc⟩ hs, by simpa using I.len⟩ ⟨c, hs, .inr hc⟩
  ·exact (hs.2 b (Nat.ne_of_lt (Nat.lt_of_lt_of_le (Heap.lt_size e) (I.ok.cab x c hfn hc)))).trans (I.base.keep b o e n hb hx)
  ·obtain ⟨sl, e1⟩ := I.base.slot b o e n hb hx
   exact ⟨sl, (hs.2 b (Nat.ne_of_lt (Nat.lt_of_lt_of_le (Heap.lt_size e) (I.ok.cab x c hfn hc)))).trans e1⟩
  ·obtain ⟨o', e1⟩ := I.base.there b o e hx
   exact ⟨o', (hs.2 b (Nat.ne_of_lt (Nat.lt_of_lt_of_le (Heap.lt_size e) (I.ok.cab x c hfn hc)))).trans e1⟩
  ·by_cases hj : j = i
   ·subst hj
    rw [hi] at e1; cases e1
    rw [List.getElem?_set_self hiσ] at e2
    cases e2
    exact ⟨u, r, .inr ⟨.inl hk, c, hc, hc'⟩⟩
   ·rw [List.getElem?_set_ne (Ne.symm hj)] at e2
    obtain ⟨u', r', q⟩ := hl j y v' e1 e2 e3
    refine ⟨u', r', ?_⟩
    rcases q with q | ⟨k, c', e, z'⟩
    ·exact .inl q
    ·refine .inr ⟨k, c', e, z'.sameBut hs ?_⟩
     rintro rfl
     exact hj (jT hN e1 (I.ok.inj _ _ _ e hc ▸ hi))
  ·by_cases hcc : c' = c
   ·subst hcc; exact ⟨_, hc'⟩
   ·obtain ⟨w2, z2⟩ := I.cell y c' e
    exact ⟨w2, z2.sameBut hs hcc⟩
  ·obtain ⟨e, n, ne, nf, d⟩ := I.pin p hp
   refine ⟨(hs.2 p.1 ?_).trans e, n, ne, nf, d⟩
   intro q
   rw [q, hoc] at e
   have q' : oc = p.2 := Option.some.inj e
   exact d w' (by rw [<- q']; exact hocd)
theorem jU {M : Model} {A : Around} {E : zu} {i : Nat} {x : Str} {v : V} {u : Value} {Q : Unit -> Shared -> Prop} (I : Inv X pins σ H s) (hN : X.N.Nodup) (hi : X.N[i]? = some x) (hx : Loc X.env.scope x) (r : RelV v u)
  (h : ∀ s', Inv X pins (σ.set i (some v)) H s' -> Q () s') (hf : X.fn x = true \/ X.env.scope.names.lookup x = some .local := by first | exact .inl rfl | exact .inr rfl | assumption) : wpAny M A (storeName X.env x u) Q E s :=
 iz I hN hi hx r (fun s' I' _ => h s' I') hf
theorem Inv.call' {s' : Shared} {ch : List Addr} (I : Inv X pins σ H s) (ho : s'.os = s.os) (u : Un (frs X.stack) ch H H' s.heap s'.heap) (hok : HOk X.prog X.w H' s'.heap) (hg : AllBare s'.gens)
  (hch : ∀ b ∈ ch, (b ∈ X.ex \/ X.s₀.heap.objs.size <= b) /\ b ≠ X.env.locals /\ (∀ x c, X.env.cells.lookup x = some c -> c ≠ b) /\ ∀ p ∈ X.pn ++ pins, p.1 ≠ b) : Inv X pins σ H' s' := by
 obtain ⟨h', g', d', t', o'⟩ := s'
 have e : o' = s.os := ho
 subst e
 exact I.call (g' := g') (t' := t') (d' := d') u hok hg hch
end
abbrev XK := Value -> Option Addr -> Hp -> Prop
abbrev St := List (Option V)
abbrev VK := V -> Hp -> Prop
abbrev TE := St -> Hp -> VK -> Prop
abbrev TT := St -> Hp -> (Bool -> Hp -> Prop) -> Prop
abbrev TA := St -> Hp -> (List V -> Hp -> Prop) -> Prop
structure Ends where
 nx : St -> Hp -> Prop
 rt : VK
 bk : St -> Hp -> Prop := fun _ _ => False
 ct : St -> Hp -> Prop := fun _ _ => False
abbrev TS := Ends -> St -> Hp -> Prop
noncomputable def EP (X : Cx) (pins : zt) (σ : St) (Q : VK) (u : Value) (s' : Shared) : Prop := ∃ v H', Inv X pins σ H' s' /\ RelV v u /\ Q v H'
noncomputable def TP (X : Cx) (pins : zt) (σ : St) (Q : Bool -> Hp -> Prop) (b : Bool) (s' : Shared) : Prop := ∃ H', Inv X pins σ H' s' /\ Q b H'
noncomputable def AP (X : Cx) (pins : zt) (σ : St) (Q : List V -> Hp -> Prop) (us : List Value) (s' : Shared) : Prop := ∃ vs H', Inv X pins σ H' s' /\ Vals vs us /\ Q vs H'
noncomputable def SP (X : Cx) (pins : zt) (D : Ends) (f : Flow) (s' : Shared) : Prop :=
 match f with
 | .next => ∃ σ' H', Inv X pins σ' H' s' /\ D.nx σ' H'
 | .brk => ∃ σ' H', Inv X pins σ' H' s' /\ D.bk σ' H'
 | .cont => ∃ σ' H', Inv X pins σ' H' s' /\ D.ct σ' H'
 | .ret u => ∃ v σ' H', Inv X pins σ' H' s' /\ RelV v u /\ D.rt v H'
noncomputable def PE (X : Cx) (e : Expr) (t : TE) : Prop :=
 ∀ (pins : zt) (s : Shared) (σ : St) (H : Hp) (Q : VK), Inv X pins σ H s -> t σ H Q -> wpAny (model X.prog X.w) X.A (eval e X.env) (EP X pins σ Q) X.xe s
noncomputable def PT (X : Cx) (e : Expr) (t : TT) : Prop :=
 ∀ (pins : zt) (s : Shared) (σ : St) (H : Hp) (Q : Bool -> Hp -> Prop), Inv X pins σ H s -> t σ H Q -> wpAny (model X.prog X.w) X.A (isTrue e X.env (eval e X.env)) (TP X pins σ Q) X.xe s
noncomputable def PW (X : Cx) (e : Expr) (t : TT) : Prop :=
 ∀ (whole : Sem Value) (pins : zt) (s : Shared) (σ : St) (H : Hp) (Q : Bool -> Hp -> Prop), Inv X pins σ H s -> t σ H Q -> wpAny (model X.prog X.w) X.A (isTrue e X.env whole) (TP X pins σ Q) X.xe s
theorem PW.pt {X : Cx} {e : Expr} {t : TT} (h : PW X e t) : PT X e t := h _
noncomputable def PA (X : Cx) (es : List Expr) (t : TA) : Prop :=
 ∀ (pos : Pos) (pins : zt) (s : Shared) (σ : St) (H : Hp) (Q : List V -> Hp -> Prop), Inv X pins σ H s -> t σ H Q -> wpAny (model X.prog X.w) X.A (spliced (backTo pos (starEach es X.env))) (AP X pins σ Q) X.xe s
noncomputable def PS (X : Cx) (st : Stmt) (t : TS) : Prop :=
 ∀ (pins : zt) (s : Shared) (σ : St) (H : Hp) (D : Ends), Inv X pins σ H s -> t D σ H -> wpAny (model X.prog X.w) X.A (exec st X.env) (SP X pins D) X.xe s
noncomputable def PSs (X : Cx) (st : List Stmt) (t : TS) : Prop :=
 ∀ (pins : zt) (s : Shared) (σ : St) (H : Hp) (D : Ends), Inv X pins σ H s -> t D σ H -> wpAny (model X.prog X.w) X.A (execs st X.env) (SP X pins D) X.xe s
theorem thn {α : Type} {t : Sem α} {Q Q' : α -> Shared -> Prop} {M : Model} {A : Around} {E : zu} {s : Shared} (h : wpAny M A t Q E s) (hQ : ∀ a s, Q a s -> Q' a s) : wpAny M A t Q' E s := wpAny_mono h hQ fun _ _ x => x
section
variable {X : Cx}
theorem bin {a b : Expr} {ta tb : TE} (ha : PE X a ta) (hb : PE X b tb) {pins : zt} {s : Shared} {σ : St} {H : Hp} {R : V -> V -> Hp -> Prop} (I : Inv X pins σ H s) (h : ta σ H fun x H1 => tb σ H1 fun y H2 => R x y H2)
  {α : Type} {Q : α -> Shared -> Prop} {f : Value -> Value -> Sem α}
  (hf : ∀ v u s2 x y H2, Inv X pins σ H2 s2 -> RelV x v -> RelV y u -> R x y H2 -> wpAny (model X.prog X.w) X.A (f v u) Q X.xe s2) :
  wpAny (model X.prog X.w) X.A (eval a X.env) (fun v s₁ => wpAny (model X.prog X.w) X.A (eval b X.env) (fun u s₂ => wpAny (model X.prog X.w) X.A (f v u) Q X.xe s₂) X.xe s₁) X.xe s := by
 refine thn (ha pins s σ H _ I h) fun v s1 ⟨x, H1, I1, r1, q1⟩ => ?_
 refine thn (hb pins s1 σ H1 _ I1 q1) fun u s2 ⟨y, H2, I2, r2, q2⟩ => ?_
 exact hf v u s2 x y H2 I2 r1 r2 q2
noncomputable def tVar (i : Nat) : TE := fun σ H Q => ∃ v, σ[i]? = some (some v) /\ Q v H
def tC (v : V) : TE := fun _ H Q => Q v H
theorem dU {i : Nat} {x : Str} {pos : Pos} (hN : X.N[i]? = some x) (hv : Vis X.env.scope x) (hd : (x == ("__debug__" : Str)) = false := by decide) (hcd : (x == ("__classdict__" : Str)) = false := by decide) : PE X (.Name x pos) (tVar i) := by
 intro pins s σ H Q I h
 obtain ⟨v, e, h⟩ := h
 obtain ⟨m, hn, hl⟩ := I.loc
 obtain ⟨u, r, l⟩ := hl i x v hN e hv
 have fin : EP X pins σ Q u s := ⟨v, H, I, r, h⟩
 rcases l with ⟨hk, hm⟩ | ⟨hk, c, hc, hcell⟩
 ·exact wpAny_Name (wpAny_loadName_local I.ok.kind hk hn hm fin) hd
 ·rcases hk with hk | hk
  ·exact wpAny_Name (wpAny_loadName_cell I.ok.kind hk hc hcell fin) hd
  ·exact wpAny_Name (wpAny_loadName_free I.ok.kind hk hc hcell fin hcd) hd
theorem u9 {i j pos} : PE X (.Constant (.int i) j pos) (tC (.int i)) := fun _ _ _ H _ I h => wpAny_Constant_int ⟨.int i, H, I.tok _, ⟨_, rfl⟩, h⟩
theorem we {b j pos} : PE X (.Constant (.bool b) j pos) (tC (.bl b)) := fun _ _ _ H _ I h => Constant_bool ⟨.bl b, H, I, rfl, h⟩
theorem ua {j pos} : PE X (.Constant .none j pos) (tC .non) := fun _ _ _ H _ I h => Constant_none ⟨.non, H, I, rfl, h⟩
theorem ub {x j pos} : PE X (.Constant (.str x) j pos) (tC (.str x)) := fun _ _ _ H _ I h => Calls.Constant_str ⟨.str x, H, I.tok _, ⟨_, rfl⟩, h⟩
noncomputable def Gl (X : Cx) (x : Str) : Prop := X.env.kindOf x = some .globalImplicit
theorem mF {E : zu} {pins : zt} {s : Shared} {σ : St} {H : Hp} {x : Str} {u : Value} {pos : Pos} {Q : zu} (I : Inv X pins σ H s) (hg : Gl X x) (hm : X.mg x = some u) (h : Q u s)
  (hd : (x == ("__debug__" : Str)) = false := by decide) : wpAny (model X.prog X.w) X.A (eval (.Name x pos) X.env) Q E s :=
 Calls.Name_function_global I.ok.kind hg (Calls.loadGlobal_global (by rw [I.ok.glob]; exact I.mod.glob.keeps I.bk) hm h) hd
theorem gy {E : zu} {pins : zt} {s : Shared} {σ : St} {H : Hp} {x : Str} {u : Value} {pos : Pos} {Q : zu} (I : Inv X pins σ H s) (hg : Gl X x) (hm : X.mg x = none) (hv : bootBuiltins x = some u) (h : Q u s)
  (hn : x ≠ "__name__" := by decide) (hd : (x == ("__debug__" : Str)) = false := by decide) : wpAny (model X.prog X.w) X.A (eval (.Name x pos) X.env) Q E s := by
 obtain ⟨mb, h1, h2⟩ := I.mod.blt
 exact Calls.Name_function_global I.ok.kind hg (Calls.loadGlobal_builtin (by rw [I.ok.glob]; exact I.mod.glob.keeps I.bk) hm (by rw [I.ok.blt]; exact h1.keeps I.bk) ((h2 x hn).trans hv) h) hd
theorem rg {x : Str} {v : V} {u : Value} {pos : Pos} (hg : Gl X x) (hm : X.mg x = some u) (r : RelV v u) (hd : (x == ("__debug__" : Str)) = false := by decide) : PE X (.Name x pos) (tC v) :=
 fun _ _ _ H _ I h => mF I hg hm ⟨v, H, I, r, h⟩ hd
theorem rh {x : Str} {v : V} {u : Value} {pos : Pos} (hg : Gl X x) (hm : X.mg x = none) (hv : bootBuiltins x = some u) (r : RelV v u) (hn : x ≠ "__name__" := by decide) (hd : (x == ("__debug__" : Str)) = false := by decide) : PE X (.Name x pos) (tC v) :=
 fun _ _ _ H _ I h => gy I hg hm hv ⟨v, H, I, r, h⟩ hn hd
variable {a b : Expr} {ta tb : TE} {pos : Pos}
variable {tA tB' : TT} {rest : List Expr}
noncomputable def tOr (t u : TT) : TT := fun σ H Q => t σ H fun c H1 => if c = true then Q true H1 else u σ H1 Q
noncomputable def tNot (t : TT) : TT := fun σ H Q => t σ H fun c H1 => Q (!c) H1
theorem uc (ha : PT X a tA) : PW X (.BoolOp .Or [a] pos) tA := by
 intro wh pins s σ H Q I h
 refine isTrue_or (thn (ha pins s σ H Q I h) fun c s1 e => ?_)
 cases c with
 | false => exact isTrue_or_nil e
 | true => exact e
theorem wg (ha : PT X a tA) (hb : PW X (.BoolOp .Or (b :: rest) pos) tB') : PW X (.BoolOp .Or (a :: b :: rest) pos) (tOr tA tB') := by
 intro wh pins s σ H Q I h
 refine isTrue_or (thn (ha pins s σ H _ I h) fun c s1 ⟨H1, I1, q1⟩ => ?_)
 cases c with
 | true => exact ⟨H1, I1, q1⟩
 | false => exact hb wh pins s1 σ H1 Q I1 q1
theorem ud (ha : PT X a tA) : PT X (.UnaryOp .Not a pos) (tNot tA) := by
 intro pins s σ H Q I h
 exact isTrue_not (ha pins s σ H (fun c H1 => Q (!c) H1) I h)
noncomputable def BH (ta tb : TE) : TE := fun σ H Q => ta σ H fun x H1 => ∃ c, x = .bl c /\ if c = true then tb σ H1 Q else Q (.bl false) H1
noncomputable def BI (ta : TE) : TE := fun σ H Q => ta σ H fun x H1 => ∃ c, x = .bl c /\ Q (.bl (!c)) H1
theorem ue {op} {t : TE} (h : PE X a t) : PE X (.BoolOp op [a] pos) t := fun pins s σ H Q I hw => BoolOp_one (h pins s σ H Q I hw)
theorem uf (ha : PE X a ta) (hb : PE X (.BoolOp .And (b :: rest) pos) tb) : PE X (.BoolOp .And (a :: b :: rest) pos) (BH ta tb) := by
 intro pins s σ H Q I h
 refine BoolOp_and (thn (ha pins s σ H _ I h) fun v s1 ⟨x, H1, I1, r1, q1⟩ => ?_)
 obtain ⟨c, rfl, q1⟩ := q1
 cases r1
 refine wpAny_truthy_bool ?_
 cases c with
 | true => exact hb pins s1 σ H1 Q I1 q1
 | false => exact ⟨.bl false, H1, I1, rfl, q1⟩
theorem ug (ha : PE X a ta) : PE X (.UnaryOp .Not a pos) (BI ta) := by
 intro pins s σ H Q I h
 refine UnaryOp_ (thn (ha pins s σ H _ I h) fun v s1 ⟨x, H1, I1, r1, q1⟩ => ?_)
 obtain ⟨c, rfl, q1⟩ := q1
 cases r1
 exact not_of (wpAny_truthy_bool ⟨.bl (!c), H1, I1, rfl, q1⟩)
noncomputable def tIf (t : TT) (ta tb : TE) : TE := fun σ H Q => t σ H fun c H1 => if c = true then ta σ H1 Q else tb σ H1 Q
theorem p9 {c : Expr} (hc : PT X c tA) (ha : PE X a ta) (hb : PE X b tb) : PE X (.IfExp c a b pos) (tIf tA ta tb) := by
 intro pins s σ H Q I h
 refine wpAny_IfExp (thn (hc pins s σ H _ I h) fun d s1 ⟨H1, I1, q1⟩ => ?_)
 cases d with
 | true => exact ha pins s1 σ H1 Q I1 q1
 | false => exact hb pins s1 σ H1 Q I1 q1
end
noncomputable def SqL (K : W.Frag) (H : Hp) (a : Addr) (xs : List V) : Prop :=
 Rd H a (.lst xs) \/
  ∃ (o : Obj) (its : Array Value) (n : Nat), K.lookup a = some o /\ o.cls = .type "list" /\ o.dict = none /\ o.data = .seq its n /\ its.size <= sizeLine /\ Vals xs its.toList
noncomputable def SqT (K : W.Frag) (H : Hp) (a : Addr) (xs : List V) : Prop :=
 Rd H a (.tup xs) \/
  ∃ (o : Obj) (its : Array Value) (n : Nat), K.lookup a = some o /\ o.cls = .type "tuple" /\ o.data = .seq its n /\ its.size <= sizeLine /\ Vals xs its.toList
noncomputable def SqR (K : W.Frag) (H : Hp) (a : Addr) (xs : List V) : Prop :=
 Rd H a (.lst xs) \/ ∃ (its : Array Value) (n : Nat), K.lookup a = some { cls := .type "list", data := .seq its n } /\ its.size <= sizeLine /\ Vals xs its.toList
noncomputable def absV : Value -> Option V
 | .none => some .non
 | .bool b => some (.bl b)
 | .int i _ => some (.int i)
 | .str x _ => some (.str x)
 | .bytes b _ => some (.byt b)
 | .float b _ => some (.flt b)
 | .ref a => some (.ref a)
 | .type n => some (.ty n)
 | _ => none
theorem RelV.abs {x : V} {u : Value} (r : RelV x u) : absV u = some x := by
 cases x with
 | non => cases r; rfl
 | bl _ => cases r; rfl
 | int _ => obtain ⟨t, rfl⟩ := r; rfl
 | str _ => obtain ⟨t, rfl⟩ := r; rfl
 | byt _ => obtain ⟨t, rfl⟩ := r; rfl
 | flt _ => obtain ⟨t, rfl⟩ := r; rfl
 | ref _ => cases r; rfl
 | ty _ => cases r; rfl
theorem RelV.inj {x y : V} {u : Value} (r : RelV x u) (q : RelV y u) : x = y := Option.some.inj (r.abs.symm.trans q.abs)
theorem Vals.inj : ∀ {xs ys : List V} {us : List Value}, Vals xs us -> Vals ys us -> xs = ys
 | _, _, _, .nil, .nil => rfl
 | _, _, _, .cons r t, .cons r' t' => by rw [r.inj r', Vals.inj t t']
section
variable {X : Cx} {pins : zt} {σ : St} {H : Hp} {s : Shared} {a : Addr} {xs ys : List V}
theorem SqT.of {K : W.Frag} (h : H a = some (.tup xs)) : SqT K H a xs := .inl (.inl h)
theorem Inv.list (I : Inv X pins σ H s) (h : SqL X.K H a xs) : ∃ its : List Value, Vals xs its /\ PlainL s.heap a its.toArray /\ xs.length <= sizeLine := by
 rcases h with h | ⟨o, its, n, hk, hc, hd, hs, hz, r⟩
 ·obtain ⟨z, its, n, r, e⟩ := h.ok I.hok
  exact ⟨its, r, ⟨_, n, e, rfl, rfl, rfl⟩, z⟩
 ·refine ⟨its.toList, r, ⟨o, n, I.kIn a o hk, hc, hd, by simpa using hs⟩, ?_⟩
  have e := r.length
  simp only [Array.length_toList] at e
  lia
theorem Inv.tuple (I : Inv X pins σ H s) (h : SqT X.K H a xs) : ∃ its : List Value, Vals xs its /\ IsTup s.heap a its.toArray /\ xs.length <= sizeLine := by
 rcases h with h | ⟨o, its, n, hk, hc, hs, hz, r⟩
 ·obtain ⟨z, its, r, p⟩ := h.ok I.hok
  exact ⟨its, r, p, z⟩
 ·refine ⟨its.toList, r, ⟨o, I.kIn a o hk, hc, n, by simpa using hs⟩, ?_⟩
  have e := r.length
  simp only [Array.length_toList] at e
  lia
theorem Inv.list_inj (I : Inv X pins σ H s) (h : SqL X.K H a xs) (h' : SqL X.K H a ys) : xs = ys := by
 obtain ⟨its, r, ⟨o, n, e, _, _, d⟩, _⟩ := I.list h
 obtain ⟨its', r', ⟨o', n', e', _, _, d'⟩, _⟩ := I.list h'
 rw [e] at e'; cases e'
 rw [d] at d'
 injection d' with d1 _
 have : its = its' := by simpa using congrArg Array.toList d1
 subst this
 exact r.inj r'
theorem Inv.tuple_inj (I : Inv X pins σ H s) (h : SqT X.K H a xs) (h' : SqT X.K H a ys) : xs = ys := by
 obtain ⟨its, r, ⟨o, e, _, n, d⟩, _⟩ := I.tuple h
 obtain ⟨its', r', ⟨o', e', _, n', d'⟩, _⟩ := I.tuple h'
 rw [e] at e'; cases e'
 rw [d] at d'
 injection d' with d1 _
 have : its = its' := by simpa using congrArg Array.toList d1
 subst this
 exact r.inj r'
end
section
variable {X : Cx} {pins : zt} {σ : St} {H : Hp} {s : Shared} {E : zu}
end
section
variable {X : Cx} {st : Stmt} {rest : List Stmt} {t u : TS} {e : Expr} {te : TE} {pos : Pos}
def BJ : TS := fun D σ H => D.nx σ H
noncomputable def tSeq (t u : TS) : TS := fun D σ H => t { D with nx := u D } σ H
theorem je : PSs X [] BJ := fun _ _ σ H _ I h => wpAny_execs_nil ⟨σ, H, I, h⟩
theorem gz (h1 : PS X st t) (h2 : PSs X rest u) : PSs X (st :: rest) (tSeq t u) := by
 intro pins s σ H D I h
 refine wpAny_execs_cons (thn (h1 pins s σ H { D with nx := u D } I h) fun f s1 q => ?_)
 cases f with
 | next =>
  obtain ⟨σ', H', I', q⟩ := q
  exact h2 pins s1 σ' H' D I' q
 | ret v => exact q
 | brk => exact q
 | cont => exact q
theorem g9 (h1 : PS X st t) : PSs X [st] t := by
 intro pins s σ H D I h
 refine wpAny_execs_cons (thn (h1 pins s σ H D I h) fun f s1 q => ?_)
 cases f with
 | next => exact wpAny_execs_nil q
 | ret v => exact q
 | brk => exact q
 | cont => exact q
theorem Inv.quiet {pins : zt} {σ : St} {H : Hp} {s : Shared} (I : Inv X pins σ H s) : interactive X.env = false := by simp [interactive, I.ok.kind]
noncomputable def Bf (te : TE) : TS := fun D σ H => te σ H fun _ H1 => D.nx σ H1
theorem mG (he : PE X e te) (hs : swapsWith e none pos.line X.env = pure false := by rfl) : PS X (.Expr e pos) (Bf te) := by
 intro pins s σ H D I h
 exact wpAny_Expr_any (thn (he pins s σ H _ I h) fun v s1 ⟨x, H1, I1, r1, q1⟩ => ⟨σ, H1, I1, q1⟩) I.quiet hs
def tRet (te : TE) : TS := fun D σ H => te σ H D.rt
theorem lL (he : PE X e te) : PS X (.Return (some e) pos) (tRet te) := by
 intro pins s σ H D I h
 exact wpAny_Return_some (thn (he pins s σ H _ I h) fun v s1 ⟨x, H1, I1, r1, q1⟩ => ⟨x, σ, H1, I1, r1, q1⟩)
noncomputable def tIfS (c : TT) (t u : TS) : TS := fun D σ H => c σ H fun b H1 => if b = true then t D σ H1 else u D σ H1
theorem pe {c : Expr} {a b : List Stmt} {tc : TT} (hc : PT X c tc) (ha : PSs X a t) (hb : PSs X b u) : PS X (.If c a b pos) (tIfS tc t u) := by
 intro pins s σ H D I h
 refine wpAny_If (thn (hc pins s σ H _ I h) fun d s1 ⟨H1, I1, q1⟩ => ?_)
 cases d with
 | true => exact ha pins s1 σ H1 D I1 q1
 | false => exact hb pins s1 σ H1 D I1 q1
end
abbrev TG := V -> St -> Hp -> (St -> Hp -> Prop) -> Prop
abbrev TGs := List V -> St -> Hp -> (St -> Hp -> Prop) -> Prop
noncomputable def PG (X : Cx) (target : Expr) (t : TG) : Prop :=
 ∀ (pins : zt) (s : Shared) (σ : St) (H : Hp) (v : V) (u : Value) (Q : St -> Hp -> Prop), Inv X pins σ H s -> RelV v u -> t v σ H Q ->
  wpAny (model X.prog X.w) X.A (assign target X.env u) (fun _ s' => ∃ σ' H', Inv X pins σ' H' s' /\ Q σ' H') X.xe s
noncomputable def PGs (X : Cx) (ts : List Expr) (t : TGs) : Prop :=
 ∀ (pins : zt) (s : Shared) (σ : St) (H : Hp) (vs : List V) (us : List Value) (Q : St -> Hp -> Prop), Inv X pins σ H s -> Vals vs us -> t vs σ H Q ->
  wpAny (model X.prog X.w) X.A (assignInOrder ((assignEach ts X.env).map (·.2)) us) (fun _ s' => ∃ σ' H', Inv X pins σ' H' s' /\ Q σ' H') X.xe s
section
variable {X : Cx} {pos : Pos}
noncomputable def Ac (i : Nat) : TG := fun v σ H Q => Q (σ.set i (some v)) H
theorem eJ {i : Nat} {x : Str} (hN : X.N.Nodup) (hi : X.N[i]? = some x) (hx : Loc X.env.scope x) (hf : X.fn x = true \/ X.env.scope.names.lookup x = some .local := by first | exact .inl rfl | exact .inr rfl | assumption) : PG X (.Name x pos) (Ac i) := by
 intro pins s σ H v u Q I r h
 exact wpAny_assign_Name (jU I hN hi hx r (fun s' I' => ⟨_, H, I', h⟩) hf)
def gNil : TGs := fun vs σ H Q => vs = [] /\ Q σ H
noncomputable def Br (t : TG) (u : TGs) : TGs := fun vs σ H Q => ∃ v r, vs = v :: r /\ t v σ H fun σ' H' => u r σ' H' Q
theorem ri : PGs X [] gNil := by
 intro pins s σ H vs us Q I r h
 obtain ⟨e, h⟩ := h
 subst e
 cases r
 exact assignInOrder_nil ⟨σ, H, I, h⟩
theorem jV {e : Expr} {es : List Expr} {t : TG} {u : TGs} (h1 : PG X e t) (h2 : PGs X es u)
  (hs : (assignEach (e :: es) X.env).map (·.2) = assign e X.env :: (assignEach es X.env).map (·.2) := by rfl) : PGs X (e :: es) (Br t u) := by
 intro pins s σ H vs us Q I r h
 obtain ⟨v, vr, e1, h⟩ := h
 subst e1
 cases r with
 | cons r rr =>
  rw [hs]
  refine assignInOrder_cons (thn (h1 pins s σ H _ _ _ I r h) fun _ s1 ⟨σ1, H1, I1, q1⟩ => ?_)
  exact h2 pins s1 σ1 H1 _ _ Q I1 rr q1
noncomputable def gTup (K : W.Frag) (n : Nat) (t : TGs) : TG := fun v σ H Q => ∃ a xs, v = .ref a /\ SqT K H a xs /\ xs.length = n /\ t xs σ H Q
theorem uh {es : List Expr} {k : Nat} {t : TGs} {n : Nat} (hc : X.calm = true) (h : PGs X es t)
  (hn : (assignEach es X.env).length = n := by rfl) (hst : (assignEach es X.env).findIdx? (·.1) = none := by rfl) : PG X (.Tuple es k pos) (gTup X.K n t) := by
 intro pins s σ H v u Q I r hw
 obtain ⟨a, xs, e1, hq, hl, hw⟩ := hw
 subst e1
 cases r
 obtain ⟨its, rv, ht, hz⟩ := I.tuple hq
 refine assign_Tuple_tuple (I.ok.hd hc) ht (by simp [hn, <- hl, rv.length]) hst fun h' hx => ?_
 have I1 : Inv X pins σ H { s with heap := h' } := I.kept (t' := s.toks) fun b o e => hx b o (Nat.ne_of_lt (Heap.lt_size e)) e
 exact h pins _ σ H xs _ Q I1 (by simpa using rv) hw
noncomputable def tAsg (te : TE) (g : TG) : TS := fun D σ H => te σ H fun x H1 => g x σ H1 D.nx
theorem pf {i : Nat} {x : Str} {e : Expr} {te : TE} {pos' : Pos} (hN : X.N.Nodup) (hi : X.N[i]? = some x) (hx : Loc X.env.scope x) (he : PE X e te) (hs : swapsWith e (some (.Name x pos')) pos.line X.env = pure false := by rfl) (hf : X.fn x = true \/ X.env.scope.names.lookup x = some .local := by first | exact .inl rfl | exact .inr rfl | assumption) :
  PS X (.Assign [.Name x pos'] e pos) (tAsg te (Ac i)) := by
 intro pins s σ H D I h
 refine wpAny_Assign_Name (thn (he pins s σ H _ I h) fun v s1 ⟨y, H1, I1, r1, q1⟩ => ?_) hs
 exact jU I1 hN hi hx r1 (fun s2 I2 => ⟨_, H1, I2, q1⟩) hf
end
section
variable {X : Cx} {pos : Pos}
end
structure It where
 go : Nat -> Hp -> Prop
 yld : Nat -> Hp -> V -> Hp -> Prop
 stop : Nat -> Hp -> Prop
noncomputable def FpOk (X : Cx) (pins : zt) (H : Hp) (b : Addr) : Prop :=
 H b = none /\ b ≠ X.env.locals /\ b ∉ X.fs /\ (b ∈ X.ex \/ X.s₀.heap.objs.size <= b) /\ (∀ x c, X.env.cells.lookup x = some c -> c ≠ b) /\ ∀ p ∈ X.pn ++ pins, p.1 ≠ b
theorem Inv.fpOk {X : Cx} {pins : zt} {σ : St} {H H' : Hp} {s : Shared} {b : Addr} (I : Inv X pins σ H s) (hb : s.heap.objs.size <= b) (hn : H' b = none) : FpOk X pins H' b := by
 refine ⟨hn, Nat.ne_of_gt (Nat.lt_of_lt_of_le I.lt hb), I.nofs hb, .inr (Nat.le_trans I.sz hb), fun x c e z => ?_, fun p hp z => ?_⟩
 ·obtain ⟨v, q⟩ := I.cell x c e
  exact absurd (Nat.lt_of_lt_of_le q.lt (by rw [z]; exact hb)) (Nat.lt_irrefl _)
 ·exact absurd (Nat.lt_of_lt_of_le (Heap.lt_size (I.pin p hp).1) (by rw [z]; exact hb)) (Nat.lt_irrefl _)
structure Turn (P : Program) (w : World) (K : W.Frag) (tg : Expr) (J : It) (fp : List Addr) (it : Addr) (tn : Nat -> Heap -> Prop) : Prop where
 mem : it ∈ fp
 obj : ∀ i h, tn i h -> ∀ b ∈ fp, ∃ o, h.get? b = some o /\ ∀ v, o.data ≠ .cell v
 keep : ∀ i h h', tn i h -> (∀ b ∈ fp, ∀ o, h.get? b = some o -> h'.get? b = some o) -> tn i h'
 item : ∀ (X : Cx), X.prog = P -> X.w = w -> X.K = K -> X.calm = true -> ∀ (i : Nat) (pins : zt) (s : Shared) (σ : St) (H : Hp) (E : zu), Inv X pins σ H s -> (∀ b ∈ fp, FpOk X pins H b) -> tn i s.heap -> J.go i H ->
  wpAny (model P w) X.A (pyNext (.ref it)) (fun r s1 => ∃ u, r = some u /\
   wpAny (model P w) X.A (letOwnedTupleGo tg (.ref it) u) (fun _ s2 => ∃ x H', Inv X pins σ H' s2 /\ RelV x u /\ J.yld i H x H' /\ tn (i + 1) s2.heap /\ ∀ b ∈ fp, H' b = none) E s1) E s
 done : ∀ (X : Cx), X.prog = P -> X.w = w -> X.K = K -> X.calm = true -> ∀ (i : Nat) (pins : zt) (s : Shared) (σ : St) (H : Hp) (E : zu), Inv X pins σ H s -> (∀ b ∈ fp, FpOk X pins H b) -> tn i s.heap -> J.stop i H ->
  wpAny (model P w) X.A (pyNext (.ref it)) (fun r s1 => r = none /\ Inv X pins σ H s1) E s
 self : ∀ (A : Around) (i : Nat) (s : Shared) (Q : zu) (E : zu), tn i s.heap -> Q (.ref it) s -> wpAny (model P w) A (pyIter (.ref it)) Q E s
abbrev TI := St -> Hp -> (It -> Hp -> Prop) -> Prop
noncomputable def PIE (X : Cx) (pins : zt) (σ : St) (tg : Expr) (R : It -> Hp -> Prop) (itv : Value) (s2 : Shared) : Prop :=
 ∃ (it : Addr) (fp : List Addr) (tn : Nat -> Heap -> Prop) (J : It) (H' : Hp), itv = .ref it /\ Inv X pins σ H' s2 /\ Turn X.prog X.w X.K tg J fp it tn /\ tn 0 s2.heap /\ (∀ b ∈ fp, FpOk X pins H' b) /\ R J H'
noncomputable def PI (X : Cx) (tg iter : Expr) (wi : TI) : Prop :=
 ∀ (pins : zt) (s : Shared) (σ : St) (H : Hp) (R : It -> Hp -> Prop), Inv X pins σ H s -> wi σ H R ->
  wpAny (model X.prog X.w) X.A (eval iter X.env) (fun v s1 => wpAny (model X.prog X.w) X.A (pyIter v) (PIE X pins σ tg R) X.xe s1) X.xe s
theorem ph {M : Model} {A : Around} {E : zu} {s : Shared} {tg : Expr} {it : Addr} {u : Value} {o : Obj} {n : String} {vs : Array Value} {Q : Unit -> Shared -> Prop} (ho : s.heap.get? it = some o) (hc : o.cls = .type n) (hd : o.data = .fields vs)
    (hn : ["enumerate", "zip", "dict_itemiterator", "dict_reverseitemiterator", "odict_iterator", "itertools.zip_longest", "itertools.pairwise"].contains n = false) (hQ : Q () s) : wpAny M A (letOwnedTupleGo tg (.ref it) u) Q E s := by
  unfold letOwnedTupleGo
  cases tg <;> first
    | exact wpAny_pure hQ
    | (cases u <;> first
        | exact wpAny_pure hQ
        | (refine wpAny_bind (wpAny_load ho ?_)
           rw [hc, hd]
           show wpAny M A (if (["enumerate", "zip", "dict_itemiterator", "dict_reverseitemiterator", "odict_iterator", "itertools.zip_longest", "itertools.pairwise"].contains n && vs[0]? == some (rawInt _)) = true then _ else _) Q E s
           rw [if_neg (by intro h; rw [hn, Bool.false_and] at h; cases h)]
           exact wpAny_pure hQ))
noncomputable def Itl (K : W.Frag) (a : Addr) : It :=
 ⟨fun i H => ∃ xs x, SqL K H a xs /\ xs[i]? = some x, fun i H x H' => H' = H /\ ∀ xs, SqL K H a xs -> xs[i]? = some x, fun i H => ∃ xs, SqL K H a xs /\ xs.length <= i⟩
noncomputable def Itt (K : W.Frag) (a : Addr) : It :=
 ⟨fun i H => ∃ xs x, SqT K H a xs /\ xs[i]? = some x, fun i H x H' => H' = H /\ ∀ xs, SqT K H a xs -> xs[i]? = some x, fun i H => ∃ xs, SqT K H a xs /\ xs.length <= i⟩
noncomputable def Itr (lo : Int) (n : Nat) : It := ⟨fun i _ => i < n, fun i H x H' => H' = H /\ x = .int (lo + i), fun i _ => n <= i⟩
theorem nF {P : Program} {w : World} {K : W.Frag} {tg : Expr} (a it : Addr) : Turn P w K tg (Itl K a) [it] it (fun i h => h.IsListIter it a i) where
 mem := by simp
 obj := fun i h st b hb => by
  have e : b = it := by simpa using hb
  subst e
  obtain ⟨o, e, c, d⟩ := st
  exact ⟨o, e, fun v z => by rw [d] at z; cases z⟩
 keep := fun i h h' st k => st.at fun o e => k it (by simp) o e
 item := by
  intro X hP hw hK hc i pins s σ H E I hf st hg
  subst hP hw hK
  obtain ⟨xs, x, hq, hx⟩ := hg
  obtain ⟨its, rv, p, hz⟩ := I.list hq
  obtain ⟨u, hu, ru⟩ := rv.get hx
  obtain ⟨f0, f1, f2, f3, f4, f5⟩ := hf it (by simp)
  refine wpAny_pyNext_list_item st p.isList (x := u) (by simpa using hu) fun h' st' sb => ?_
  have I1 : Inv X pins σ H { s with heap := h' } := I.turned (t' := s.toks) (fun b o hb e => (sb.2 b hb).trans e) f0 f1 f3 f4 f5
  obtain ⟨o, e, c, d⟩ := id st'
  exact ⟨u, rfl, ph (s := { s with heap := h' }) e c d (by decide) ⟨x, H, I1, ru, ⟨rfl, fun ys hy => by rw [I.list_inj hy hq]; exact hx⟩, st', fun b hb => (hf b hb).1⟩⟩
 done := by
  intro X hP hw hK hc i pins s σ H E I hf st hg
  subst hP hw hK
  obtain ⟨xs, hq, hx⟩ := hg
  obtain ⟨its, rv, p, hz⟩ := I.list hq
  obtain ⟨f0, f1, f2, f3, f4, f5⟩ := hf it (by simp)
  have hl := rv.length
  exact wpAny_pyNext_list_end (I.ok.hd hc) st p.isList (by simp; lia) fun h' eb => ⟨rfl, I.turned (t' := s.toks) (fun b o hb e => eb b o hb e) f0 f1 f3 f4 f5⟩
 self := fun _ _ _ _ _ st h => wpAny_pyIter_listiter st h
theorem lM {P : Program} {w : World} {K : W.Frag} {tg : Expr} (a it : Addr) : Turn P w K tg (Itt K a) [it] it (fun i h => h.IsTupleIter it a i) where
 mem := by simp
 obj := fun i h st b hb => by
  have e : b = it := by simpa using hb
  subst e
  obtain ⟨o, e, c, d⟩ := st
  exact ⟨o, e, fun v z => by rw [d] at z; cases z⟩
 keep := fun i h h' st k => st.at fun o e => k it (by simp) o e
 item := by
  intro X hP hw hK hc i pins s σ H E I hf st hg
  subst hP hw hK
  obtain ⟨xs, x, hq, hx⟩ := hg
  obtain ⟨its, rv, p, hz⟩ := I.tuple hq
  obtain ⟨u, hu, ru⟩ := rv.get hx
  obtain ⟨f0, f1, f2, f3, f4, f5⟩ := hf it (by simp)
  refine wpAny_pyNext_tuple_item st (show s.heap.IsTuple a its.toArray from p) (x := u) (by simpa using hu) fun h' st' sb => ?_
  have I1 : Inv X pins σ H { s with heap := h' } := I.turned (t' := s.toks) (fun b o hb e => (sb.2 b hb).trans e) f0 f1 f3 f4 f5
  obtain ⟨o, e, c, d⟩ := id st'
  exact ⟨u, rfl, ph (s := { s with heap := h' }) e c d (by decide) ⟨x, H, I1, ru, ⟨rfl, fun ys hy => by rw [I.tuple_inj hy hq]; exact hx⟩, st', fun b hb => (hf b hb).1⟩⟩
 done := by
  intro X hP hw hK hc i pins s σ H E I hf st hg
  subst hP hw hK
  obtain ⟨xs, hq, hx⟩ := hg
  obtain ⟨its, rv, p, hz⟩ := I.tuple hq
  obtain ⟨f0, f1, f2, f3, f4, f5⟩ := hf it (by simp)
  have hl := rv.length
  exact wpAny_pyNext_tuple_end (I.ok.hd hc) st (show s.heap.IsTuple a its.toArray from p) (by simp; lia) fun h' eb => ⟨rfl, I.turned (t' := s.toks) (fun b o hb e => eb b o hb e) f0 f1 f3 f4 f5⟩
 self := fun _ _ _ _ _ st h => wpAny_pyIter_tupleiter st h
theorem lN {P : Program} {w : World} {K : W.Frag} {tg : Expr} (it : Addr) (lo : Int) (n : Nat) : Turn P w K tg (Itr lo n) [it] it (fun i h => IsRangeIter h it (lo + (i : Nat) * 1) ((n : Int) - (i : Nat)) 1) where
 mem := by simp
 obj := fun i h st b hb => by
  have e : b = it := by simpa using hb
  subst e
  exact ⟨_, st, fun v z => by
   have z' : Data.fields _ = Data.cell v := z
   cases z'⟩
 keep := fun i h h' st k => k it (by simp) _ st
 item := by
  intro X hP hw hK hc i pins s σ H E I hf st hg
  subst hP hw hK
  obtain ⟨f0, f1, f2, f3, f4, f5⟩ := hf it (by simp)
  have W := Walks.range (prog := X.prog) (w := X.w) (I.ok.hd hc) it lo 1 n
  refine W.item i s _ _ hg st fun v h' tk hv st' kk => ?_
  obtain ⟨t, rfl⟩ := hv
  have I1 : Inv X pins σ H { s with heap := h', toks := tk } := I.turned (fun b o hb e => kk b o (by simpa using hb) e) f0 f1 f3 f4 f5
  refine ⟨_, rfl, ph (s := { s with heap := h', toks := tk }) (n := "range_iterator") st' rfl rfl (by decide) ⟨.int (lo + i), H, I1, ⟨t, ?_⟩, ⟨rfl, rfl⟩, st', fun b hb => (hf b hb).1⟩⟩
  rw [Int.mul_one]
 done := by
  intro X hP hw hK hc i pins s σ H E I hf st hg
  subst hP hw hK
  obtain ⟨f0, f1, f2, f3, f4, f5⟩ := hf it (by simp)
  exact wpAny_pyNext_range_end (I.ok.hd hc) st (by have : n <= i := hg; lia) fun h' eb => ⟨rfl, I.turned (t' := s.toks) (fun b o hb e => eb b o hb e) f0 f1 f3 f4 f5⟩
 self := fun _ _ _ _ _ st h => wpAny_pyIter_rangeiter st h
section
variable {X : Cx} {tg : Expr}
theorem pj {pins : zt} {σ : St} {H : Hp} {s : Shared} {R : It -> Hp -> Prop} {E : zu} {lo hi : Int} {t u v : Tok} {tk : Nat} (I : Inv X pins σ H s) (h1 : -(2 ^ 62) <= lo) (h2 : lo < 2 ^ 62) (h3 : -(2 ^ 62) <= hi) (h4 : hi < 2 ^ 62)
  (q : R (Itr lo (hi - lo).toNat) H) : wpAny (model X.prog X.w) X.A (pyIter (.ref s.heap.objs.size)) (PIE X pins σ tg R) E { s with heap := s.heap.push { cls := .type "range", data := .fields #[.int lo t, .int hi u, .int 1 v] }, toks := tk } := by
 refine wpAny_pyIter_range (IsRange.new ..) (small_one h1 h2 h3 h4) ?_
 have I1 : Inv X pins σ H { s with heap := s.heap.push { cls := .type "range", data := .fields #[.int lo t, .int hi u, .int 1 v] }, toks := tk } := I.kept fun b o e => Heap.get?_push_of_some _ e
 refine ⟨(s.heap.push { cls := .type "range", data := .fields #[.int lo t, .int hi u, .int 1 v] }).objs.size, [(s.heap.push { cls := .type "range", data := .fields #[.int lo t, .int hi u, .int 1 v] }).objs.size], _, _, H, rfl,
  I1.kept (t' := tk) fun b o e => Heap.get?_push_of_some _ e, lN _ lo (hi - lo).toNat, ?_, fun b hb => ?_, q⟩
 ·have e1 : lo + ((0 : Nat) : Int) * 1 = lo := by simp
  have e2 : (((hi - lo).toNat : Nat) : Int) - ((0 : Nat) : Int) = Builtin.Range.rangeSize lo hi 1 := by rw [rangeSize_one]; split <;> lia
  show IsRangeIter _ _ (lo + ((0 : Nat) : Int) * 1) ((((hi - lo).toNat : Nat) : Int) - ((0 : Nat) : Int)) 1
  rw [e1, e2]
  exact Heap.get?_push_size _ rfl
 ·have e : b = (s.heap.push { cls := .type "range", data := .fields #[.int lo t, .int hi u, .int 1 v] }).objs.size := by simpa using hb
  subst e
  exact I1.fpOk (Nat.le_refl _) (I1.hok.fresh (Nat.le_refl _))
noncomputable def BK (ta : TA) : TI := fun σ H R => ta σ H fun vs H1 => ∃ j : Int, vs = [.int j] /\ -(2 ^ 62) <= j /\ j < 2 ^ 62 /\ R (Itr 0 j.toNat) H1
theorem iA {a : Expr} {ta : TA} {p pos : Pos} (hg : Gl X "range") (hm : X.mg "range" = none) (ha : PA X [a] ta) (hs : starEach [a] X.env = [(false, eval a X.env)] := by rfl) : PI X tg (.Call (.Name "range" p) [a] [] pos) (BK ta) := by
 intro pins s σ H R I h
 refine Call_ (gy I hg hm boot_range (callWith_type1 (thn (ha pos pins s σ H _ I h) fun us s1 ⟨vs, H1, I1, r1, q1⟩ => ?_) hs rfl))
 obtain ⟨j, e, q1, q2, q⟩ := q1
 subst e
 cases r1 with
 | cons r rr =>
  cases rr
  obtain ⟨t, rfl⟩ := r
  exact call_range_1 (pj I1 (by lia) (by lia) q1 q2 (by simpa using q))
noncomputable def tFor (wi : TI) (g : TG) (tb : TS) : TS := fun D σ H => wi σ H fun J H1 => ∃ W : Nat -> Nat -> St -> Hp -> Prop, (∃ m, W 0 m σ H1) /\ ∀ i m σ H, W i m σ H ->
 (J.stop i H /\ D.nx σ H) \/ (J.go i H /\ ∃ N : St -> Hp -> Prop, (∀ σ' H', N σ' H' -> ∃ m', m' < m /\ W (i + 1) m' σ' H') /\ ∀ x H', J.yld i H x H' -> g x σ H' fun σ2 H2 => tb { D with nx := N, ct := N, bk := D.nx } σ2 H2)
noncomputable def AB (fp : List Addr) (h : Heap) : zt := fp.filterMap fun b => (h.get? b).map fun o => (b, o)
theorem cE {fp : List Addr} {h : Heap} {b : Addr} {o : Obj} (hb : b ∈ fp) (e : h.get? b = some o) : (b, o) ∈ AB fp h := List.mem_filterMap.mpr ⟨b, hb, by rw [e]; rfl⟩
theorem iB {fp : List Addr} {h : Heap} {p : Addr × Obj} (hp : p ∈ AB fp h) : p.1 ∈ fp /\ h.get? p.1 = some p.2 := by
 obtain ⟨b, hb, e⟩ := List.mem_filterMap.mp hp
 cases q : h.get? b with
 | none => rw [q] at e; cases e
 | some o =>
  rw [q] at e
  have e' : (b, o) = p := Option.some.inj e
  subst e'
  exact ⟨hb, q⟩
theorem Inv.pinned {pins : zt} {σ : St} {H : Hp} {s : Shared} {fp : List Addr} (I : Inv X pins σ H s) (hf : ∀ b ∈ fp, FpOk X pins H b) (ho : ∀ b ∈ fp, ∃ o, s.heap.get? b = some o /\ ∀ v, o.data ≠ .cell v) : Inv X (pins ++ AB fp s.heap) σ H s :=
 I.pins_of fun p hp => (List.mem_append.mp hp).elim (fun z => I.pin p (List.mem_append_right _ z)) fun z => by
  obtain ⟨hb, e⟩ := iB z
  obtain ⟨f0, f1, f2, _⟩ := hf p.1 hb
  obtain ⟨o, e', d⟩ := ho p.1 hb
  rw [e] at e'; cases e'
  exact ⟨e, f0, f1, f2, d⟩
theorem Inv.unpinned {pins pl : zt} {σ : St} {H : Hp} {s : Shared} (I : Inv X (pins ++ pl) σ H s) : Inv X pins σ H s := I.pins_of fun p hp => I.pin p (List.mem_append_right _ (List.mem_append_left _ hp))
theorem pq {iter : Expr} {body : List Stmt} {wi : TI} {g : TG} {tb : TS} {pos : Pos} (hp : PassesOwn (model X.prog X.w) X.A X.env X.xe) (hc : X.calm = true) (hi : PI X tg iter wi) (hg : PG X tg g) (hb : PSs X body tb)
  (hs : ∀ x, foldedSetIterable iter X.env x = pure x := by intro _; rfl) : PS X (.For tg iter body [] pos) (tFor wi g tb) := by
 intro pins s σ H D I h
 refine wpAny_For (thn (hi pins s σ H _ I h) fun v s1 h1 => thn h1 fun itv s2 h2 => ?_) hs
 obtain ⟨it, fp, tn, J, H2, e, I2, T, st2, f2, W, ⟨m0, w0⟩, turn⟩ := h2
 subst e
 have stat : ∀ {H' : Hp}, (∀ b ∈ fp, H' b = none) -> ∀ b ∈ fp, FpOk X pins H' b := fun hn b hb => ⟨hn b hb, (f2 b hb).2⟩
 refine codeAny_forLoop_any (fun n s' => ∃ i σ' H', Inv X pins σ' H' s' /\ tn i s'.heap /\ (∀ b ∈ fp, H' b = none) /\ W i n σ' H') ?_ m0 ⟨0, σ, H2, I2, st2, fun b hb => (f2 b hb).1, w0⟩
 rintro n s3 ⟨i, σ3, H3, I3, st3, fr3, w3⟩
 rcases turn i n σ3 H3 w3 with ⟨stop, qn⟩ | ⟨go, N, hN, step⟩
 ·refine wpAny_passesOwn hp (thn (T.done X rfl rfl rfl hc i pins s3 σ3 H3 X.xe I3 (stat fr3) st3 stop) fun r s4 ⟨hr, I4⟩ => ?_)
  subst hr
  exact wpAny_execs_nil ⟨σ3, H3, I4, qn⟩
 ·refine wpAny_passesOwn hp (thn (T.item X rfl rfl rfl hc i pins s3 σ3 H3 X.xe I3 (stat fr3) st3 go) fun r s4 ⟨u, hr, h4⟩ => ?_)
  subst hr
  refine wpAny_passesOwn hp (thn h4 fun _ s5 ⟨x, H5, I5, r5, y5, st5, fr5⟩ => ?_)
  have I5' := I5.pinned (stat fr5) (T.obj _ _ st5)
  refine wpAny_passesOwn hp (thn (hg _ s5 σ3 H5 x u _ I5' r5 (step x H5 y5)) fun _ s6 ⟨σ6, H6, I6, q6⟩ => ?_)
  refine wpAny_passesOwn hp (thn (hb _ s6 σ6 H6 _ I6 q6) fun f s7 q7 => ?_)
  have again : ∀ {σ7 : St} {H7 : Hp}, Inv X (pins ++ AB fp s5.heap) σ7 H7 s7 -> N σ7 H7 -> ∃ m, m < n /\ ∃ i σ' H', Inv X pins σ' H' s7 /\ tn i s7.heap /\ (∀ b ∈ fp, H' b = none) /\ W i m σ' H' := fun {σ7 H7} I7 n7 => by
   obtain ⟨m', hm, w7⟩ := hN σ7 H7 n7
   refine ⟨m', hm, i + 1, σ7, H7, I7.unpinned, T.keep _ _ _ st5 fun b hb o e => (I7.pin (b, o) (List.mem_append_right _ (List.mem_append_right _ (cE hb e)))).1, fun b hb => ?_, w7⟩
   obtain ⟨o, e, d⟩ := T.obj _ _ st5 b hb
   exact (I7.pin (b, o) (List.mem_append_right _ (List.mem_append_right _ (cE hb e)))).2.1
  cases f with
  | next => obtain ⟨σ7, H7, I7, n7⟩ := q7; exact again I7 n7
  | cont => obtain ⟨σ7, H7, I7, n7⟩ := q7; exact again I7 n7
  | brk => obtain ⟨σ7, H7, I7, q7⟩ := q7; exact ⟨σ7, H7, I7.unpinned, q7⟩
  | ret v => obtain ⟨x7, σ7, H7, I7, r7, q7⟩ := q7; exact ⟨x7, σ7, H7, I7.unpinned, r7, q7⟩
end
abbrev R2 := V -> V -> Hp -> VK -> Prop
noncomputable def OpR (X : Cx) (f : Value -> Value -> Sem Value) (r : R2) : Prop :=
 ∀ (pins : zt) (s : Shared) (σ : St) (H : Hp) (x y : V) (v u : Value) (Q : VK), Inv X pins σ H s -> RelV x v -> RelV y u -> r x y H Q ->
  wpAny (model X.prog X.w) X.A (f v u) (EP X pins σ Q) X.xe s
noncomputable def UnR (X : Cx) (f : Value -> Sem Value) (r : V -> Hp -> VK -> Prop) : Prop :=
 ∀ (pins : zt) (s : Shared) (σ : St) (H : Hp) (x : V) (v : Value) (Q : VK), Inv X pins σ H s -> RelV x v -> r x H Q ->
  wpAny (model X.prog X.w) X.A (f v) (EP X pins σ Q) X.xe s
noncomputable def A7 (X : Cx) (f : Value) (r : List V -> Hp -> VK -> Prop) : Prop :=
 ∀ (pins : zt) (s : Shared) (σ : St) (H : Hp) (xs : List V) (us : List Value) (Q : VK), Inv X pins σ H s -> Vals xs us -> r xs H Q ->
  wpAny (model X.prog X.w) X.A (call f us) (EP X pins σ Q) X.xe s
noncomputable def TruR (X : Cx) (r : V -> Hp -> (Bool -> Hp -> Prop) -> Prop) : Prop :=
 ∀ (pins : zt) (s : Shared) (σ : St) (H : Hp) (x : V) (v : Value) (Q : Bool -> Hp -> Prop), Inv X pins σ H s -> RelV x v -> r x H Q ->
  wpAny (model X.prog X.w) X.A (truthy v) (TP X pins σ Q) X.xe s
noncomputable def tOp (r : R2) (ta tb : TE) : TE := fun σ H Q => ta σ H fun x H1 => tb σ H1 fun y H2 => r x y H2 Q
noncomputable def tUn (r : V -> Hp -> VK -> Prop) (ta : TE) : TE := fun σ H Q => ta σ H fun x H1 => r x H1 Q
noncomputable def rI (C : Int -> Int -> Prop) (g : Int -> Int -> V) : R2 := fun x y H Q => ∃ i j, x = .int i /\ y = .int j /\ C i j /\ Q (g i j) H
noncomputable def rI0 (g : Int -> Int -> V) : R2 := fun x y H Q => ∃ i j, x = .int i /\ y = .int j /\ Q (g i j) H
noncomputable def rU (g : Int -> V) : V -> Hp -> VK -> Prop := fun x H Q => ∃ i, x = .int i /\ Q (g i) H
section
variable {X : Cx} {a b c : Expr} {ta tb tc : TE} {pos : Pos}
theorem binT (ha : PE X a ta) (hb : PE X b tb) {pins : zt} {s : Shared} {σ : St} {H : Hp} {R : V -> V -> Hp -> Prop} (I : Inv X pins σ H s)
  (h : ta σ H fun x H1 => tb σ H1 fun y H2 => R x y H2) {Q : zu} {f : Value -> Value -> Sem Value}
  (hf : ∀ v u s2 x y H2, Inv X pins σ H2 s2 -> RelV x v -> RelV y u -> R x y H2 -> wpAny (model X.prog X.w) X.A (f v u) Q X.xe s2) :
  wpAny (model X.prog X.w) X.A (eval a X.env) (fun v s₁ => wpAny (model X.prog X.w) X.A (eval b X.env) (fun u s₂ => wpAny (model X.prog X.w) X.A (f v u) Q X.xe s₂) X.xe s₁) X.xe s := by
 refine thn (ha pins s σ H _ I h) fun v s1 ⟨x, H1, I1, r1, q1⟩ => ?_
 refine thn (hb pins s1 σ H1 _ I1 q1) fun u s2 ⟨y, H2, I2, r2, q2⟩ => ?_
 exact hf v u s2 x y H2 I2 r1 r2 q2
theorem wj {op : Operator} {r : R2} (ho : OpR X (binaryOp op) r) (ha : PE X a ta) (hb : PE X b tb) : PE X (.BinOp a op b pos) (tOp r ta tb) := by
 intro pins s σ H Q I h
 exact wpAny_BinOp (binT ha hb I h fun v u s2 x y H2 I2 rx ry q => ho pins s2 σ H2 x y v u Q I2 rx ry q)
theorem wk {op : UnaryOp} {r : V -> Hp -> VK -> Prop} (ho : UnR X (unaryOp op) r) (ha : PE X a ta) : PE X (.UnaryOp op a pos) (tUn r ta) := by
 intro pins s σ H Q I h
 exact UnaryOp_ (thn (ha pins s σ H _ I h) fun v s1 ⟨x, H1, I1, r1, q1⟩ => ho pins s1 σ H1 x v Q I1 r1 q1)
theorem opI {f : Value -> Value -> Sem Value} {C : Int -> Int -> Prop} {g : Int -> Int -> Int}
  (rule : ∀ (i j : Int) (t u : Tok) (s : Shared) (Q : zu) (E : zu), C i j -> Q (.int (g i j) s.toks) { s with toks := s.toks + 1 } -> wpAny (model X.prog X.w) X.A (f (.int i t) (.int j u)) Q E s) :
  OpR X f (rI C fun i j => .int (g i j)) := by
 intro pins s σ H x y v u Q I rx ry h
 obtain ⟨i, j, rfl, rfl, hc, q⟩ := h
 obtain ⟨t, rfl⟩ := rx
 obtain ⟨t', rfl⟩ := ry
 exact rule i j t t' s _ _ hc ⟨.int (g i j), H, I.tok _, ⟨_, rfl⟩, q⟩
theorem opI0 {f : Value -> Value -> Sem Value} {g : Int -> Int -> Int}
  (rule : ∀ (i j : Int) (t u : Tok) (s : Shared) (Q : zu) (E : zu), Q (.int (g i j) s.toks) { s with toks := s.toks + 1 } -> wpAny (model X.prog X.w) X.A (f (.int i t) (.int j u)) Q E s) :
  OpR X f (rI0 fun i j => .int (g i j)) := by
 intro pins s σ H x y v u Q I rx ry h
 obtain ⟨i, j, rfl, rfl, q⟩ := h
 obtain ⟨t, rfl⟩ := rx
 obtain ⟨t', rfl⟩ := ry
 exact rule i j t t' s _ _ ⟨.int (g i j), H, I.tok _, ⟨_, rfl⟩, q⟩
theorem opB0 {f : Value -> Value -> Sem Value} {g : Int -> Int -> Bool}
  (rule : ∀ (i j : Int) (t u : Tok) (s : Shared) (Q : zu) (E : zu), Q (.bool (g i j)) s -> wpAny (model X.prog X.w) X.A (f (.int i t) (.int j u)) Q E s) :
  OpR X f (rI0 fun i j => .bl (g i j)) := by
 intro pins s σ H x y v u Q I rx ry h
 obtain ⟨i, j, rfl, rfl, q⟩ := h
 obtain ⟨t, rfl⟩ := rx
 obtain ⟨t', rfl⟩ := ry
 exact rule i j t t' s _ _ ⟨.bl (g i j), H, I, rfl, q⟩
def CDiv (i j : Int) : Prop := 0 < j /\ j < 1073741824
noncomputable def CMul (i j : Int) : Prop := (-(2 ^ 64) < i /\ i < 2 ^ 64) \/ (-(2 ^ 64) < j /\ j < 2 ^ 64)
theorem CMul.ok {i j : Int} (h : CMul i j) : IntMulOk i j := by
 rcases h with ⟨h1, h2⟩ | ⟨h1, h2⟩
 ·exact .of_left (intBits_le_64 h1 h2)
 ·exact .of_right (intBits_le_64 h1 h2)
theorem ui : OpR X (binaryOp .Add) (rI0 fun i j => .int (i + j)) := opI0 fun _ _ _ _ _ _ _ q => add_int q
theorem uj : OpR X (binaryOp .Sub) (rI0 fun i j => .int (i - j)) := opI0 fun _ _ _ _ _ _ _ q => sub_int q
theorem uk : OpR X (binaryOp .Mult) (rI CMul fun i j => .int (i * j)) := opI fun _ _ _ _ _ _ _ hc q => mul_int q hc.ok
theorem rj : OpR X (binaryOp .FloorDiv) (rI CDiv fun i j => .int (i / j)) := opI fun i j _ _ _ _ _ hc q => by
 have h1 : (0 : Int) < j := hc.1
 have h2 : j < 1073741824 := hc.2
 exact floordiv_int (by lia) (by rw [Int.fdiv_eq_ediv_of_nonneg i (by lia)]; exact q) (.inl (PyProof.noPylong_small (by lia)))
theorem um : OpR X (binaryOp .Mod) (rI (fun _ j => 0 < j) fun i j => .int (i % j)) := opI fun i j _ _ _ _ _ hc q => by
 have h1 : (0 : Int) < j := hc
 exact mod_int' (by lia) (by rw [Int.fmod_eq_emod_of_nonneg i (by lia)]; exact q)
theorem unI {f : Value -> Sem Value} {g : Int -> Int}
  (rule : ∀ (i : Int) (t : Tok) (s : Shared) (Q : zu) (E : zu), Q (.int (g i) s.toks) { s with toks := s.toks + 1 } -> wpAny (model X.prog X.w) X.A (f (.int i t)) Q E s) :
  UnR X f (rU fun i => .int (g i)) := by
 intro pins s σ H x v Q I rx h
 obtain ⟨i, rfl, q⟩ := h
 obtain ⟨t, rfl⟩ := rx
 exact rule i t s _ _ ⟨.int (g i), H, I.tok _, ⟨_, rfl⟩, q⟩
theorem uo : UnR X (unaryOp .USub) (rU fun i => .int (-i)) := unI fun _ _ _ _ _ q => neg_int q
end
noncomputable def scal : V -> V -> Bool
 | .non, .non => true | .non, .int _ => true | .int _, .non => true | .non, .bl _ => true | .bl _, .non => true | .non, .str _ => true | .str _, .non => true
 | .int _, .int _ => true | .bl _, .bl _ => true | .str _, .str _ => true | .byt _, .byt _ => true
 | .int _, .str _ => true | .str _, .int _ => true | .bl _, .str _ => true | .str _, .bl _ => true
 | _, _ => false
noncomputable def rEq : R2 := fun x y H Q => scal x y = true /\ Q (.bl (decide (x = y))) H
noncomputable def rNe : R2 := fun x y H Q => scal x y = true /\ Q (.bl (!decide (x = y))) H
theorem mH {i j : Int} : decide (V.int i = V.int j) = (i == j) := by
 rw [Bool.eq_iff_iff]
 simp
theorem pz {i j : Bool} : decide (V.bl i = V.bl j) = (i == j) := by
 rw [Bool.eq_iff_iff]
 simp
theorem mI {i j : Str} : decide (V.str i = V.str j) = (i == j) := by
 rw [Bool.eq_iff_iff]
 simp
theorem mJ {i j : Array UInt8} : decide (V.byt i = V.byt j) = (i.toList == j.toList) := by
 rw [Bool.eq_iff_iff]
 cases i
 cases j
 simp
section
variable {X : Cx} {a b c : Expr} {ta tb tc : TE} {pos : Pos}
theorem aw {pins : zt} {σ : St} {H : Hp} {s : Shared} {Q : VK} {k k' : Bool} (I : Inv X pins σ H s) (q : Q (.bl k) H) (e : k = k') : EP X pins σ Q (.bool k') s := by
 subst e
 exact ⟨.bl k, H, I, rfl, q⟩
theorem pA : OpR X (compareOp .Eq) rEq := by
 intro pins s σ H x y v u Q I rx ry h
 obtain ⟨hs, q⟩ := h
 cases x with
 | non =>
  cases rx
  cases y with
  | non => cases ry; exact PySem.EqNone.eq_none_none (aw I q (by simp))
  | bl j => cases ry; exact PySem.EqNone.eq_none_bool (aw I q (by simp))
  | int j => obtain ⟨t', rfl⟩ := ry; exact PySem.EqNone.eq_none_int (aw I q (by simp))
  | str j => obtain ⟨t', rfl⟩ := ry; exact PySem.EqNone.eq_none_str (aw I q (by simp))
  | _ => exact absurd (show false = true from hs) Bool.false_ne_true
 | bl i =>
  cases rx
  cases y with
  | non => cases ry; exact PySem.EqNone.eq_bool_none (aw I q (by simp))
  | bl j => cases ry; exact eq_bool (aw I q pz)
  | str j => obtain ⟨t', rfl⟩ := ry; exact PySem.EqMixed.eq_bool_str (aw I q (by simp))
  | _ => exact absurd (show false = true from hs) Bool.false_ne_true
 | int i =>
  obtain ⟨t, rfl⟩ := rx
  cases y with
  | non => cases ry; exact PySem.EqNone.eq_int_none (aw I q (by simp))
  | int j => obtain ⟨t', rfl⟩ := ry; exact eq_int (aw I q mH)
  | str j => obtain ⟨t', rfl⟩ := ry; exact PySem.EqMixed.eq_int_str (aw I q (by simp))
  | _ => exact absurd (show false = true from hs) Bool.false_ne_true
 | str i =>
  obtain ⟨t, rfl⟩ := rx
  cases y with
  | non => cases ry; exact PySem.EqNone.eq_str_none (aw I q (by simp))
  | bl j => cases ry; exact PySem.EqMixed.eq_str_bool (aw I q (by simp))
  | int j => obtain ⟨t', rfl⟩ := ry; exact PySem.EqMixed.eq_str_int (aw I q (by simp))
  | str j => obtain ⟨t', rfl⟩ := ry; exact eq_str (aw I q mI)
  | _ => exact absurd (show false = true from hs) Bool.false_ne_true
 | byt i =>
  obtain ⟨t, rfl⟩ := rx
  cases y with
  | byt j => obtain ⟨t', rfl⟩ := ry; exact W.eq_bytes (aw I q mJ)
  | _ => exact absurd (show false = true from hs) Bool.false_ne_true
 | _ => cases y <;> exact absurd (show false = true from hs) Bool.false_ne_true
theorem pB : OpR X (compareOp .NotEq) rNe := by
 intro pins s σ H x y v u Q I rx ry h
 obtain ⟨hs, q⟩ := h
 cases x with
 | non =>
  cases rx
  cases y with
  | non => cases ry; exact PySem.EqNone.ne_none_none (aw I q (by simp))
  | bl j => cases ry; exact PySem.EqNone.ne_none_bool (aw I q (by simp))
  | int j => obtain ⟨t', rfl⟩ := ry; exact PySem.EqNone.ne_none_int (aw I q (by simp))
  | str j => obtain ⟨t', rfl⟩ := ry; exact PySem.EqNone.ne_none_str (aw I q (by simp))
  | _ => exact absurd (show false = true from hs) Bool.false_ne_true
 | bl i =>
  cases rx
  cases y with
  | non => cases ry; exact PySem.EqNone.ne_bool_none (aw I q (by simp))
  | bl j => cases ry; exact ne_bool (aw I q (congrArg not pz))
  | str j => obtain ⟨t', rfl⟩ := ry; exact PySem.EqMixed.ne_bool_str (aw I q (by simp))
  | _ => exact absurd (show false = true from hs) Bool.false_ne_true
 | int i =>
  obtain ⟨t, rfl⟩ := rx
  cases y with
  | non => cases ry; exact PySem.EqNone.ne_int_none (aw I q (by simp))
  | int j => obtain ⟨t', rfl⟩ := ry; exact ne_int (aw I q (congrArg not mH))
  | str j => obtain ⟨t', rfl⟩ := ry; exact PySem.EqMixed.ne_int_str (aw I q (by simp))
  | _ => exact absurd (show false = true from hs) Bool.false_ne_true
 | str i =>
  obtain ⟨t, rfl⟩ := rx
  cases y with
  | non => cases ry; exact PySem.EqNone.ne_str_none (aw I q (by simp))
  | bl j => cases ry; exact PySem.EqMixed.ne_str_bool (aw I q (by simp))
  | int j => obtain ⟨t', rfl⟩ := ry; exact PySem.EqMixed.ne_str_int (aw I q (by simp))
  | str j => obtain ⟨t', rfl⟩ := ry; exact ne_str (aw I q (congrArg not mI))
  | _ => exact absurd (show false = true from hs) Bool.false_ne_true
 | byt i =>
  obtain ⟨t, rfl⟩ := rx
  cases y with
  | byt j => obtain ⟨t', rfl⟩ := ry; exact W.ne_bytes (aw I q (congrArg not mJ))
  | _ => exact absurd (show false = true from hs) Bool.false_ne_true
 | _ => cases y <;> exact absurd (show false = true from hs) Bool.false_ne_true
theorem wm : OpR X (compareOp .Lt) (rI0 fun i j => .bl (decide (i < j))) := opB0 fun _ _ _ _ _ _ _ q => lt_int q
theorem t7 : OpR X (compareOp .LtE) (rI0 fun i j => .bl (decide (i <= j))) := opB0 fun _ _ _ _ _ _ _ q => le_int q
theorem t8 : OpR X (compareOp .Gt) (rI0 fun i j => .bl (decide (j < i))) := opB0 fun _ _ _ _ _ _ _ q => gt_int q
theorem wo : OpR X (compareOp .GtE) (rI0 fun i j => .bl (decide (j <= i))) := opB0 fun _ _ _ _ _ _ _ q => ge_int q
theorem nomark (b : Expr) {op : CmpOp} (h : op ≠ .In := by decide) (h2 : op ≠ .NotIn := by decide) : behindInMarks op b = false := by
 have e1 : (op == CmpOp.In) = false := by cases op <;> first | rfl | exact absurd rfl h
 have e2 : (op == CmpOp.NotIn) = false := by cases op <;> first | rfl | exact absurd rfl h2
 cases b <;> simp [behindInMarks, e1, e2]
theorem rk {op : CmpOp} {r : R2} (ho : OpR X (compareOp op) r) (ha : PE X a ta) (hb : PE X b tb) (hm : behindInMarks op b = false) : PE X (.Compare a [op] [b] pos) (tOp r ta tb) := by
 intro pins s σ H Q I h
 exact wpAny_Compare1 (binT ha hb I h fun v u s2 x y H2 I2 rx ry q => ho pins s2 σ H2 x y v u Q I2 rx ry q) hm
noncomputable def BL (t : TE) : TT := fun σ H Q => t σ H fun x H' => ∃ k, x = .bl k /\ Q k H'
theorem mK {op : CmpOp} {r : R2} (ho : OpR X (compareOp op) r) (ha : PE X a ta) (hb : PE X b tb) (hm : behindInMarks op b = false) : PT X (.Compare a [op] [b] pos) (BL (tOp r ta tb)) := by
 intro pins s σ H Q I h
 refine wpAny_isTrue_Compare1 (thn (ha pins s σ H _ I h) fun v s1 ⟨x, H1, I1, r1, q1⟩ => thn (hb pins s1 σ H1 _ I1 q1) fun u s2 ⟨y, H2, I2, r2, q2⟩ =>
  thn (ho pins s2 σ H2 x y v u _ I2 r1 r2 q2) fun c s3 ⟨z, H3, I3, r3, k, e, q3⟩ => ?_) hm
 subst e
 cases r3
 exact wpAny_truthy_bool ⟨H3, I3, q3⟩
noncomputable def TruV (K : W.Frag) (x : V) (H : Hp) (k : Bool) : Prop :=
 match x with
 | .non => k = false
 | .bl b => k = b
 | .int i => k = (i != 0)
 | .str y => y.length <= sizeLine /\ k = ((y.length : Int) != 0)
 | .byt y => y.size <= sizeLine /\ k = ((y.size : Int) != 0)
 | .ref p => (∃ xs, SqL K H p xs /\ k = !xs.isEmpty) \/ (∃ xs, SqT K H p xs /\ k = !xs.isEmpty) \/ ∃ kvs, H p = some (.dK kvs) /\ k = !kvs.isEmpty
 | _ => False
theorem lO {κ : Type} {kvs : List (κ × V)} {vs : List (κ × Value)} (r : KV kvs vs) : (!vs.isEmpty) = !kvs.isEmpty := by
 cases r <;> rfl
theorem gA {xs : List V} {its : List Value} (r : Vals xs its) : (!its.toArray.isEmpty) = !xs.isEmpty := by
 cases r <;> simp
theorem line63 : (sizeLine : Nat) < 2 ^ 63 := by rw [sizeLine_eq]; decide
theorem uq : TruR X (fun x H Q => ∃ k, TruV X.K x H k /\ Q k H) := by
 intro pins s σ H x v Q I rx h
 obtain ⟨k, e, q⟩ := h
 have hl := line63
 have hs : sizeLine = 16777216 := sizeLine_eq
 cases x with
 | non =>
  cases rx
  have e' : k = false := e
  subst e'
  exact truthy_none ⟨H, I, q⟩
 | bl b =>
  cases rx
  have e' : k = b := e
  subst e'
  exact wpAny_truthy_bool ⟨H, I, q⟩
 | int i =>
  obtain ⟨t, rfl⟩ := rx
  have e' : k = (i != 0) := e
  subst e'
  exact PySem.P.truthy_int ⟨H, I, q⟩
 | str y =>
  obtain ⟨t, rfl⟩ := rx
  obtain ⟨hy, e'⟩ : y.length <= sizeLine /\ k = ((y.length : Int) != 0) := e
  subst e'
  exact PySem.P.truthy_str (by lia) ⟨H, I.tok _, q⟩
 | byt y =>
  obtain ⟨t, rfl⟩ := rx
  obtain ⟨hy, e'⟩ : y.size <= sizeLine /\ k = ((y.size : Int) != 0) := e
  subst e'
  exact W.truthy_bytes (by lia) ⟨H, I.tok _, q⟩
 | ref p =>
  cases rx
  have e' : (∃ xs, SqL X.K H p xs /\ k = !xs.isEmpty) \/ (∃ xs, SqT X.K H p xs /\ k = !xs.isEmpty) \/ ∃ kvs, H p = some (.dK kvs) /\ k = !kvs.isEmpty := e
  rcases e' with ⟨xs, hx, e'⟩ | ⟨xs, hx, e'⟩ | ⟨kvs, hx, e'⟩
  ·subst e'
   obtain ⟨its, r, pl, hz⟩ := I.list hx
   have hlen := r.length
   exact wpAny_truthy_list pl.isList (by simp only [List.size_toArray]; lia) ⟨H, I.tok _, by rw [gA r]; exact q⟩
  ·subst e'
   obtain ⟨its, r, pl, hz⟩ := I.tuple hx
   have hlen := r.length
   exact truthy_tuple pl (by simp only [List.size_toArray]; lia) ⟨H, I.tok _, by rw [gA r]; exact q⟩
  ·subst e'
   obtain ⟨hz, hS, vs, r, m⟩ : kvs.length <= sizeLine /\ (p == sysModules) = false /\ ∃ vs, KV kvs vs /\ s.heap.DictOf (zO X.prog X.w) p vs := I.hok p _ hx
   have hlen : kvs.length = vs.length := Paired.length r
   exact wpAny_truthy_dict hS m (by lia) ⟨H, I.tok _, by rw [lO r]; exact q⟩
 | _ => exact (show False from e).elim
theorem pC (ha : PE X a ta) (he : ∀ whole, isTrue a X.env whole = (do let v <- whole; standAt a.pos; holding [v] (truthy v))) :
  PT X a (fun σ H Q => ta σ H fun x H' => ∃ k, TruV X.K x H' k /\ Q k H') := by
 intro pins s σ H Q I h
 exact isTrue_plain (thn (ha pins s σ H _ I h) fun v s1 ⟨x, H1, I1, r1, q1⟩ => uq pins s1 σ H1 x v Q I1 r1 q1) (he _)
theorem lP : OpR X (binaryOp .Add) (fun x y H Q => ∃ i j, x = .str i /\ y = .str j /\ i.length + j.length <= sizeLine /\ Q (.str (i ++ j)) H) := by
 intro pins s σ H x y v u Q I rx ry h
 obtain ⟨i, j, rfl, rfl, hz, q⟩ := h
 obtain ⟨t, rfl⟩ := rx
 obtain ⟨t', rfl⟩ := ry
 exact add_str (fun t' tk => ⟨.str (i ++ j), H, I.tok _, ⟨_, rfl⟩, q⟩) hz
theorem vals1 {x : V} {us : List Value} (r : Vals [x] us) : ∃ u, us = [u] /\ RelV x u := by
 cases r with
 | cons r1 r2 => cases r2; exact ⟨_, rfl, r1⟩
theorem vals2 {x y : V} {us : List Value} (r : Vals [x, y] us) : ∃ u w', us = [u, w'] /\ RelV x u /\ RelV y w' := by
 cases r with
 | cons r1 r2 =>
  cases r2 with
  | cons r3 r4 => cases r4; exact ⟨_, _, rfl, r1, r3⟩
theorem pE : A7 X (.builtin "abs") (fun xs H Q => ∃ i, xs = [.int i] /\ Q (.int (if i < 0 then -i else i)) H) := by
 intro pins s σ H xs us Q I r h
 obtain ⟨i, rfl, q⟩ := h
 obtain ⟨u, rfl, t, rfl⟩ := vals1 r
 exact call_abs_int fun u tk => ⟨.int (if i < 0 then -i else i), H, I.tok _, ⟨_, rfl⟩, q⟩
end
structure ObjM (h : Heap) (x dx C : Addr) (mA : zr) : Prop where
 obj : h.get? x = some (W.instObj C dx)
 ns : h.Ns1 dx mA
 ne : dx ≠ x
section
variable {prog : Program} {w : World} {A : Around} {E : zu} {s : Shared} {K : W.Frag} {x dx C f : Addr} {mA : zr} {name : Str} {v : Value}
end
theorem RelO.some_of {v : V} {o : Option Value} (r : RelO (some v) o) : ∃ u, o = some u /\ RelV v u := by
 cases o with
 | none => exact (show False from r).elim
 | some u => exact ⟨u, rfl, r⟩
section
variable {P : Program} {w : World} {H H' : Hp} {h h' : Heap} {a C dx : Addr} {fs fs' : List (Str × V)}
end
structure Cls (K : W.Frag) (C : Addr) : Prop where
 pg : W.plainGet K C Str.empty = true
 hd : W.hasDictIn K C = true
 po : W.plainOver K C = true
 sa : W.findIn K (.ref C) "__setattr__" = some (some (.builtin "object.__setattr__"))
structure Con (K : W.Frag) (C : Addr) (f : Str) (v : V) (u : Value) : Prop where
 at_ : W.findIn K (.ref C) f = some (some u)
 rel : RelV v u
 get : W.specialIn K u "__get__" = some none
 cp : W.copiedNames.contains f = false
structure Meth (K : W.Frag) (C : Addr) (m : Str) (f : Addr) : Prop where
 at_ : W.findIn K (.ref C) m = some (some (.ref f))
 fn : W.isFn K (.ref f) = true
 kp : W.keepIn K (.ref f) = true
section
variable {X : Cx} {pins : zt} {σ : St} {H : Hp} {s : Shared} {a C dx : Addr} {fs : List (Str × V)} {f : Str} {v : V} {A : Around} {E : zu}
end
section
variable {X : Cx} {o e value : Expr} {f : Str} {pos pos' tpos : Pos} {ta tv : TE}
end
section
variable {X : Cx} {pins : zt} {σ : St} {H : Hp} {s : Shared} {A : Around} {E : zu} {Q : zu} {c : Value} {b : Bool}
inductive TyOf (K : W.Frag) (H : Hp) : V -> Value -> Prop where
 | non : TyOf K H .non (.type "NoneType")
 | bl (x : Bool) : TyOf K H (.bl x) (.type "bool")
 | int (i : Int) : TyOf K H (.int i) (.type "int")
 | str (x : Str) : TyOf K H (.str x) (.type "str")
 | flt (x : UInt64) : TyOf K H (.flt x) (.type "float")
 | lst {a : Addr} {xs : List V} (e : H a = some (.lst xs)) : TyOf K H (.ref a) (.type "list")
 | frz {a : Addr} {o : Obj} {xs : List V} (e : H a = some (.frz o (.lst xs))) : TyOf K H (.ref a) (.type "list")
 | tup {a : Addr} {xs : List V} (e : H a = some (.tup xs)) : TyOf K H (.ref a) (.type "tuple")
 | dK {a : Addr} {kvs : List (Key × V)} (e : H a = some (.dK kvs)) : TyOf K H (.ref a) (.type "dict")
 | dT {a : Addr} {kvs : List (List Key × V)} (e : H a = some (.dT kvs)) : TyOf K H (.ref a) (.type "dict")
 | ins {a C dx : Addr} {fs : List (Str × V)} (e : H a = some (.ins C dx fs)) (cl : Cls K C) (ha : W.findIn K (.ref C) "__class__" = some (some (.builtin "object.__class__")))
   (hn : W.specialIn K (.builtin "object.__class__") "__get__" = some (some (.builtin "getset_descriptor.__get__"))) (htk : W.takesIn K (.builtin "object.__class__") = some true)
   (hm : W.mroIn K C (.type "object") = some true) : TyOf K H (.ref a) (.ref C)
end
structure Room (k : Nat) (A : Around) : Prop where
 hd : A.handled = none
 dp : A.depth + 3 * k + 5 < recursionLimit
 un : A.units + 16 * k + 200 < cLine
theorem Room.mono {j k : Nat} {A : Around} (r : Room k A) (h : j <= k) : Room j A := ⟨r.hd, by have := r.dp; lia, by have := r.un; lia⟩
theorem Room.deeper {k : Nat} {A : Around} (r : Room (k + 1) A) (env : Env) : Room k (A.deeper env) :=
 ⟨r.hd, by have := r.dp; show A.depth + 1 + 3 * k + 5 < _; lia, by have := r.un; show A.units + 3 + 16 * k + 200 < _; lia⟩
theorem Room.depth {k : Nat} {A : Around} (r : Room k A) : A.depth < recursionLimit := by have := r.dp; lia
theorem Room.units {k : Nat} {A : Around} (r : Room k A) : A.units + 64 < cLine := by have := r.un; lia
def tNil : TA := fun _ H Q => Q [] H
noncomputable def B5 (ta : TE) (tr : TA) : TA := fun σ H Q => ta σ H fun x H1 => tr σ H1 fun xs H2 => Q (x :: xs) H2
section
variable {X : Cx} {e : Expr} {es : List Expr} {te : TE} {t : TA} {pos : Pos}
theorem gB : PA X [] tNil := fun _ _ _ _ H Q I h => Calls.spliced_nil ⟨[], H, I, .nil, h⟩
theorem cF (ha : PE X e te) (hr : PA X es t) (hs : starEach (e :: es) X.env = (false, eval e X.env) :: starEach es X.env := by rfl) : PA X (e :: es) (B5 te t) := by
 intro pos pins s σ H Q I h
 rw [hs]
 show wpAny _ _ (spliced ((false, eval e X.env) :: backTo pos (starEach es X.env))) _ _ s
 refine Calls.spliced_cons (thn (ha pins s σ H _ I h) fun u s1 ⟨x, H1, I1, r1, q1⟩ => ?_)
 exact thn (hr pos pins s1 σ H1 _ I1 q1) fun us s2 ⟨xs, H2, I2, r2, q2⟩ => ⟨x :: xs, H2, I2, .cons r1 r2, q2⟩
noncomputable def tTup (t : TA) : TE := fun σ H Q => t σ H fun xs H1 => xs.length <= sizeLine /\ ∀ p, H1 p = none -> Q (.ref p) (upd H1 p (.tup xs))
noncomputable def tLst (t : TA) : TE := fun σ H Q => t σ H fun xs H1 => xs.length <= sizeLine /\ ∀ p, H1 p = none -> Q (.ref p) (upd H1 p (.lst xs))
theorem ur {x1} (h : PA X es t) : PE X (.Tuple es x1 pos) (tTup t) := by
 intro pins s σ H Q I hq
 refine wpAny_Tuple_spliced (thn (h pos pins s σ H _ I hq) fun us s1 ⟨xs, H1, I1, r, z, q⟩ => ⟨by rw [<- r.length]; exact z, ?_⟩)
 have hf : H1 s1.heap.objs.size = none := I1.hok.fresh (Nat.le_refl _)
 refine ⟨.ref s1.heap.objs.size, upd H1 s1.heap.objs.size (.tup xs), I1.laid (t' := s1.toks) (fun b u e => Heap.get?_push_of_some _ e) (Nat.le_refl _) ?_, rfl, q _ hf⟩
 exact ⟨z, us, r, ⟨_, Heap.get?_push_size _ rfl, rfl, _, rfl⟩⟩
theorem uu (h : PA X es t) : PE X (.List es pos) (tLst t) := by
 intro pins s σ H Q I hq
 refine wpAny_List_spliced (thn (h pos pins s σ H _ I hq) fun us s1 ⟨xs, H1, I1, r, z, q⟩ => ⟨by rw [<- r.length]; exact z, ?_⟩)
 have hf : H1 s1.heap.objs.size = none := I1.hok.fresh (Nat.le_refl _)
 refine ⟨.ref s1.heap.objs.size, upd H1 s1.heap.objs.size (.lst xs), I1.laid (t' := s1.toks) (fun b u e => Heap.get?_push_of_some _ e) (Nat.le_refl _) ?_, rfl, q _ hf⟩
 exact ⟨z, us, 0, r, Heap.get?_push_size _ rfl⟩
end
abbrev Sp := List V -> Hp -> VK -> XK -> Prop
abbrev CXT := List Env -> Hp -> Shared -> XK -> Value -> Shared -> Prop
structure Env0 (P : Program) (w : World) (K : W.Frag) (mg : zr) (base : Heap) (A : Around) (outer : List Env) (s : Shared) (H : Hp) : Prop where
 frames : A.frames = some outer
 mod : Mod K mg base
 bs : ∀ b o, base.get? b = some o -> s.heap.get? b = some o /\ H b = none
 bsz : base.objs.size <= s.heap.objs.size
 funs : s.heap.FunFrames base outer
 frf : ∀ b ∈ frs outer, H b = none
 hok : HOk P w H s.heap
 bare : AllBare s.gens
noncomputable def CE (outer : List Env) (P : Program) (w : World) (H : Hp) (s : Shared) (Q : VK) (u : Value) (s' : Shared) : Prop :=
 ∃ v H', s'.os = s.os /\ AllBare s'.gens /\ Un (frs outer) [] H H' s.heap s'.heap /\ HOk P w H' s'.heap /\ RelV v u /\ Q v H'
noncomputable def CR (CX : CXT) (outer : List Env) (P : Program) (w : World) (H : Hp) (s : Shared) (Q : VK) (E : XK) (r : Result) (s' : Shared) : Prop :=
 match r with
 | .ok (.ret u) => CE outer P w H s Q u s'
 | .ok _ => False
 | .error e => CX outer H s E e s'
structure FnOk (P : Program) (w : World) (K : W.Frag) (mg : zr) (base : Heap) (CX : CXT) (k : Nat) (f : Addr) (fd : FuncData) (ps : List Str) (sp : Sp) : Prop where
 len : ∀ vs H Q E, sp vs H Q E -> vs.length = ps.length
 run : ∀ (A : Around) (outer : List Env) (s : Shared) (H : Hp) (args : Args) (us : List Value) (vs : List V) (Q : VK) (E : XK), Room k A -> Env0 P w K mg base A outer s H -> BindsTo s fd args (ps.zip us) -> Vals vs us -> sp vs H Q E ->
  codeAny (model P w) A (.call (.ref f) args) (CR CX outer P w H s Q E) s
theorem FnOk.imp {P : Program} {w : World} {K : W.Frag} {mg : zr} {base : Heap} {CX : CXT} {k : Nat} {f : Addr} {fd : FuncData} {ps : List Str} {sp sp' : Sp} (F : FnOk P w K mg base CX k f fd ps sp)
  (h : ∀ vs H Q E, sp' vs H Q E -> sp vs H Q E) : FnOk P w K mg base CX k f fd ps sp' :=
 ⟨fun vs H Q E q => F.len vs H Q E (h _ _ _ _ q), fun A outer s H args us vs Q E hr he hb hv hs => F.run A outer s H args us vs Q E hr he hb hv (h _ _ _ _ hs)⟩
section
variable {X : Cx} {pins : zt} {σ : St} {H : Hp} {s s' : Shared}
theorem Inv.env0 (I : Inv X pins σ H s) : Env0 X.prog X.w X.K X.mg X.base X.A X.stack s H :=
 ⟨I.ok.frames, I.ok.mod, I.bs, Nat.le_trans I.ok.bsz I.sz, I.stack, I.stkFree, I.hok, I.bare⟩
theorem Inv.after {Q : VK} {u : Value} (I : Inv X pins σ H s) (h : CE X.stack X.prog X.w H s Q u s') : EP X pins σ Q u s' := by
 obtain ⟨v, H', os, bare, un, hok, r, q⟩ := h
 obtain ⟨hh, g, d, t, os'⟩ := s'
 obtain rfl : os' = s.os := os
 exact ⟨v, H', I.call (h' := hh) (g' := g) (d' := d) (t' := t) (ch := []) un hok bare (fun b z => absurd z (by simp)), r, q⟩
end
noncomputable def Bg (sp : Sp) (dvs : List V) (E : XK) (t : TA) : TE := fun σ H Q => t σ H fun vs H1 => sp (vs ++ dvs) H1 Q E
noncomputable def Binds (K : W.Frag) (fd : FuncData) (ps : List Str) (ds : List Value) : Prop :=
 ∀ (s : Shared) (us : List Value), K.In s.heap -> (us ++ ds).length = ps.length -> BindsTo s fd ⟨us, []⟩ (ps.zip (us ++ ds))
theorem Binds.all {K : W.Frag} {fd : FuncData} {ps : List Str} (h : ∀ us : List Value, us.length = ps.length -> bindArgs fd ⟨us, []⟩ = pure (ps.zip us)) : Binds K fd ps [] := fun s us _ hl => by
 rw [List.append_nil] at hl ⊢
 exact .of_eq (h us hl)
noncomputable def Passes (CX : CXT) (X : Cx) (E : XK) : Prop := ∀ (pins : zt) (σ : St) (H : Hp) (s : Shared) (e : Value) (s' : Shared), Inv X pins σ H s -> CX X.stack H s E e s' -> X.xe e s'
section
variable {X : Cx} {CX : CXT} {k : Nat} {f C : Addr} {fd : FuncData} {ps : List Str} {sp : Sp} {dvs : List V} {ds : List Value} {E : XK} {x m : Str} {p pos apos : Pos} {e o : Expr} {es : List Expr} {ta : TE} {t : TA}
theorem uw {pins : zt} {σ : St} {H : Hp} {s : Shared} {Q : VK} {us : List Value} {vs : List V} (F : FnOk X.prog X.w X.K X.mg X.base CX k f fd ps sp) (hr : Room k X.A) (hb : Binds X.K fd ps ds) (hd : Vals dvs ds) (hx : Passes CX X E)
  (I : Inv X pins σ H s) (r : Vals vs us) (h : sp (vs ++ dvs) H Q E) : wpAny (model X.prog X.w) X.A (call (.ref f) us) (EP X pins σ Q) X.xe s := by
 have r2 : Vals (vs ++ dvs) (us ++ ds) := r.append hd
 have hl : (us ++ ds).length = ps.length := by rw [<- r2.length]; exact F.len _ _ _ _ h
 refine wpAny_call (codeAny_mono (F.run X.A X.stack s H ⟨us, []⟩ (us ++ ds) (vs ++ dvs) Q E hr I.env0 (hb s us I.kIn hl) r2 h) fun r s' hq => ?_)
 cases r with
 | error e => exact hx pins σ H s e s' I hq
 | ok fl =>
  cases fl with
  | ret u => exact I.after hq
  | next => exact False.elim hq
  | brk => exact False.elim hq
  | cont => exact False.elim hq
theorem rl (F : FnOk X.prog X.w X.K X.mg X.base CX k f fd ps sp) (hr : Room k X.A) (hg : Gl X x) (hm : X.mg x = some (.ref f)) (hk : W.keepIn X.K (.ref f) = true) (hb : Binds X.K fd ps ds) (hd : Vals dvs ds) (hx : Passes CX X E)
  (ha : PA X (e :: es) t) (hdb : (x == ("__debug__" : Str)) = false := by decide) (he : starEach (e :: es) X.env = (false, eval e X.env) :: starEach es X.env := by rfl) (hpl : (backTo pos (starEach es X.env)).any (·.1) = false := by rfl) :
  PE X (.Call (.Name x p) (e :: es) [] pos) (Bg sp dvs E t) := by
 intro pins s σ H Q I h
 refine wpAny_Call_Name_kw (mF I hg hm ?_ hdb)
 refine W.callWith_K (h₀ := X.base) I.ok.mod.kin hk (thn (ha pos pins s σ H _ I h) fun us s1 ⟨vs, H1, I1, r, q⟩ => ⟨I1.kIn, ?_⟩) he hpl
 exact uw F hr hb hd hx I1 r q
structure Mk (K : W.Frag) (C f : Addr) : Prop where
 makes : W.makesIn K C = true
 init : W.findIn K (.ref C) "__init__" = some (some (.ref f))
 fn : W.isFn K (.ref f) = true
 kp : W.keepIn K (.ref C) = true
end
section
variable {X : Cx} {CX : CXT} {k : Nat} {f C : Addr} {fd : FuncData} {ps ks : List Str} {sp : Sp} {E : XK} {x m : Str} {p pos apos kpos : Pos} {e o : Expr} {es : List Expr} {kws : List Keyword} {te ta : TE} {t tk : TA} {nm : Option Str}
structure BX (K : W.Frag) (fd : FuncData) (ps ks : List Str) (g : List Value -> List Value -> List Value) (gV : List V -> List V -> List V) : Prop where
 to : ∀ (s : Shared) (us ws : List Value), K.In s.heap -> (g us ws).length = ps.length -> BindsTo s fd ⟨us, ks.zip ws⟩ (ps.zip (g us ws))
 rel : ∀ {vs : List V} {us : List Value} {zs : List V} {ws : List Value}, Vals vs us -> Vals zs ws -> Vals (gV vs zs) (g us ws)
variable {g : List Value -> List Value -> List Value} {gV : List V -> List V -> List V}
end
structure zA (N P : List Str) (sc : Scope) : Prop where
 kind : sc.kind = .function
 co : sc.isCoroutine = false
 gen : sc.isGenerator = false
 nd : N.Nodup
 pre : N.take P.length = P
 par : ∀ x ∈ P, sc.names.lookup x = some .local \/ sc.names.lookup x = some .cell
 nofree : ∀ y ∈ sc.names, y.2 ≠ .free
theorem iC {kindOf : Str -> Option NameKind} {x : Str} : ∀ {binds : List (Str × Value)} {m : zr}, (∀ v, (x, v) ∉ binds) -> bindL kindOf binds m x = m x
 | [], _, _ => rfl
 | (n, v) :: r, m, h => by
  unfold bindL
  rw [iC fun w hw => h w (List.mem_cons_of_mem _ hw)]
  split
  ·have : x ≠ n := by rintro rfl; exact h v List.mem_cons_self
   simp [this]
  ·rfl
theorem iD {kindOf : Str -> Option NameKind} {x : Str} : ∀ {binds : List (Str × Value)} {m : zr}, (∀ v, (x, v) ∉ binds) -> bindC kindOf binds m x = m x
 | [], _, _ => rfl
 | (n, v) :: r, m, h => by
  unfold bindC
  rw [iD fun w hw => h w (List.mem_cons_of_mem _ hw)]
  split
  ·rfl
  ·have : x ≠ n := by rintro rfl; exact h v List.mem_cons_self
   simp [this]
theorem iE {kindOf : Str -> Option NameKind} {x : Str} {v : Value} : ∀ {P : List Str} {vs : List Value} {i : Nat} {m : zr}, P.Nodup -> P[i]? = some x -> vs[i]? = some v -> kindOf x = some .local ->
  bindL kindOf (P.zip vs) m x = some v
 | [], _, _, _, _, h, _, _ => by simp at h
 | _ :: _, [], _, _, _, _, h, _ => by simp at h
 | p :: P, w :: vs, 0, m, nd, h1, h2, hk => by
  simp at h1 h2; subst h1; subst h2
  show bindL kindOf ((p, w) :: P.zip vs) m p = _
  unfold bindL
  rw [iC fun v hv => (List.nodup_cons.mp nd).1 (List.of_mem_zip hv).1, if_pos hk]
  simp
 | p :: P, w :: vs, i + 1, m, nd, h1, h2, hk => by
  show bindL kindOf ((p, w) :: P.zip vs) m x = _
  unfold bindL
  exact iE (i := i) (List.nodup_cons.mp nd).2 (by simpa using h1) (by simpa using h2) hk
theorem iF {kindOf : Str -> Option NameKind} {x : Str} {v : Value} : ∀ {P : List Str} {vs : List Value} {i : Nat} {m : zr}, P.Nodup -> P[i]? = some x -> vs[i]? = some v -> kindOf x ≠ some .local ->
  bindC kindOf (P.zip vs) m x = some v
 | [], _, _, _, _, h, _, _ => by simp at h
 | _ :: _, [], _, _, _, _, h, _ => by simp at h
 | p :: P, w :: vs, 0, m, nd, h1, h2, hk => by
  simp at h1 h2; subst h1; subst h2
  show bindC kindOf ((p, w) :: P.zip vs) m p = _
  unfold bindC
  rw [iD fun v hv => (List.nodup_cons.mp nd).1 (List.of_mem_zip hv).1, if_neg hk]
  simp
 | p :: P, w :: vs, i + 1, m, nd, h1, h2, hk => by
  show bindC kindOf ((p, w) :: P.zip vs) m x = _
  unfold bindC
  exact iF (i := i) (List.nodup_cons.mp nd).2 (by simpa using h1) (by simpa using h2) hk
noncomputable def start (N : List Str) (vs : List V) : St := vs.map some ++ List.replicate (N.length - vs.length) none
noncomputable def cxOf (CX : CXT) (P : Program) (w : World) (K : W.Frag) (mg : zr) (base : Heap) (N : List Str) (qual : Str) (scope : Scope) (f : Addr) (cd : Value) (A : Around) (outer : List Env) (s : Shared) (H : Hp) (E : XK) : Cx where
 prog := P
 w := w
 K := K
 mg := mg
 base := base
 A := A.deeper (envOfC qual scope s.heap.objs.size f cd)
 N := N
 s₀ := s
 H₀ := H
 env := envOfC qual scope s.heap.objs.size f cd
 outer := outer
 stack := envOfC qual scope s.heap.objs.size f cd :: outer
 ex := []
 calm := true
 fn := fun _ => true
 pn := []
 xe := fun e s' => wpAny (model P w) (A.deeper (envOfC qual scope s.heap.objs.size f cd)) (leaving (envOfC qual scope s.heap.objs.size f cd) e) (fun _ s'' => CX outer H s E e s'') (fun e' s'' => CX outer H s E e' s'') s'
theorem jW {sc : Scope} {n : Nat} {x : Str} (h : sc.names.lookup x = some .cell) : ∃ c, (cellsFrom n sc.names []).lookup x = some c := by
 have q := W.cellsFrom_some sc.names n [] (.inl h)
 exact Option.isSome_iff_exists.mp q
theorem nG {CX : CXT} {P : Program} {w : World} {K : W.Frag} {mg : zr} {base : Heap} {N ps : List Str} {qual : Str} {scope : Scope} {f : Addr} {cd : Value} {A : Around} {outer : List Env} {s s1 : Shared} {H : Hp} {E : XK} {us : List Value} {vs : List V}
  (S : zA N ps scope) (hd : A.handled = none) (e0 : Env0 P w K mg base A outer s H) (hl : vs.length = ps.length) (r : Vals vs us)
  (x : InCallC s s.heap.objs.size (bindL (envOfC qual scope s.heap.objs.size f cd).kindOf (ps.zip us) fun _ => none) (cellsFrom (s.heap.objs.size + 1) scope.names []) (bindC (envOfC qual scope s.heap.objs.size f cd).kindOf (ps.zip us) fun _ => none) s1) :
  Inv (cxOf CX P w K mg base N qual scope f cd A outer s H E) [] (start N vs) H s1 := by
 have hpl : ps.length <= N.length := by have := congrArg List.length S.pre; rw [List.length_take] at this; lia
 obtain ⟨h1, tk, rfl, hk⟩ := x.done
 have noA : ∀ b : Addr, b ∉ (cxOf CX P w K mg base N qual scope f cd A outer s H E).ex := fun b z => absurd (show b ∈ ([] : List Addr) from z) (by simp)
 refine ⟨⟨e0.mod, S.kind, rfl, rfl, Nat.le_refl _, fun y z c h1 h2 => ?_, fun y hy => ?_, fun y c _ h => ?_, fun _ => hd, Around.frames_deeper e0.frames, .inr ⟨rfl, rfl⟩, fun b z => absurd z (noA b), e0.bs, e0.bsz, fun b _ _ => noA b, fun b z => absurd z (noA b), e0.funs, e0.frf⟩,
  rfl, e0.bare, Un.kept hk, ⟨_, x.toInCall.ns, fun i y v h1 h2 h3 => ?_⟩, fun y c h => ⟨_, x.cell y c h⟩, e0.hok.fresh (Nat.le_refl _), fun y c h => ?_, fun p hp => absurd (show p ∈ ([] : zt) from hp) (by simp), e0.hok.kept hk, ?_⟩
 ·exact name_of_addr x.apart (PySem.mem_of_lookup h1) (PySem.mem_of_lookup h2)
 ·have hy : scope.names.lookup y = some .cell \/ scope.names.lookup y = some .free := hy
  rcases hy with hy | hy
  ·exact jW hy
  ·exact absurd rfl (S.nofree _ (PySem.mem_of_lookup hy))
 ·exact Nat.le_of_lt (x.above y c (PySem.mem_of_lookup h))
 ·have hi : i < vs.length := by
   unfold start at h2
   by_cases hi : i < vs.length
   ·exact hi
   ·rw [List.getElem?_append_right (by simpa using hi)] at h2
    rw [List.getElem?_replicate] at h2
    split at h2 <;> cases h2
  have ha : vs[i]? = some v := by
   unfold start at h2
   rw [List.getElem?_append_left (by simpa using hi), List.getElem?_map] at h2
   cases e : vs[i]? with
   | none => rw [e] at h2; cases h2
   | some a => rw [e] at h2; cases h2; rfl
  obtain ⟨u, hu, rv⟩ := r.get ha
  have hp : ps[i]? = some y := by
   rw [<- S.pre, List.getElem?_take_of_lt (by lia)]; exact h1
  have ndP : ps.Nodup := by rw [<- S.pre]; exact S.nd.sublist (List.take_sublist _ _)
  refine ⟨u, rv, ?_⟩
  rcases S.par y (List.mem_of_getElem? hp) with k | k
  ·exact .inl ⟨k, iE ndP hp hu k⟩
  ·obtain ⟨c, e⟩ := jW (n := s.heap.objs.size + 1) k
   refine .inr ⟨.inl k, c, e, ?_⟩
   have q := x.cell y c e
   rw [iF ndP hp hu (by show scope.names.lookup y ≠ _; rw [k]; decide)] at q
   exact q
 ·exact e0.hok.fresh (Nat.le_of_lt (x.above y c (PySem.mem_of_lookup h)))
 ·unfold start
  show _ = N.length
  rw [List.length_append, List.length_map, List.length_replicate]
  lia
theorem wq {CX : CXT} {P : Program} {w : World} {K : W.Frag} {mg : zr} {base : Heap} {k : Nat} {f : Addr} {name qual : Str} {params : Arguments} {body : List Stmt} {scope : Scope} {dV kV doc pm cdv ct oc : Value} {an od : Option Addr}
  {osl : Array (Option Value)} {N ps : List Str} {sp : Sp} (lk : K.lookup f = some ⟨oc, od, .func (W.fnOf name qual params body scope dV kV doc pm an cdv ct), osl⟩) (hcd : W.codeIn K cdv qual = true) (S : zA N ps scope)
  (len : ∀ vs H Q E, sp vs H Q E -> vs.length = ps.length)
  (hbody : ∀ (A : Around) (outer : List Env) (s : Shared) (H : Hp) (vs : List V) (Q : VK) (E : XK), Room k (A.deeper (envOfC qual scope s.heap.objs.size f cdv)) -> sp vs H Q E ->
   ∃ t, PSs (cxOf CX P w K mg base N qual scope f cdv A outer s H E) body t /\ t { nx := fun _ H' => Q .non H', rt := Q } (start N vs) H) :
  FnOk P w K mg base CX (k + 1) f (W.fnOf name qual params body scope dV kV doc pm an cdv ct) ps sp := by
 refine ⟨len, fun A outer s H args us vs Q E hr e0 hb r hsp => ?_⟩
 have hl := len _ _ _ _ hsp
 have KX : K.In s.heap := e0.mod.kin.keeps fun b o e => (e0.bs b o e).1
 have lim : s.heap.NoLimit := e0.mod.nolimit.keeps fun b o e => (e0.bs b o e).1
 have hkind : ∀ y ∈ ps.zip us, scope.names.lookup y.1 = some .local \/ (scope.names.lookup y.1 = some .cell /\ ((cellsFrom (s.heap.objs.size + 1) scope.names []).lookup y.1).isSome = true) := fun ⟨n, v⟩ hy => by
  rcases S.par n (List.of_mem_zip hy).1 with q | q
  ·exact .inl q
  ·exact .inr ⟨q, W.cellsFrom_some _ _ _ (.inl q)⟩
 refine codeAny_call_function hr.depth (KX _ _ lk) rfl S.co S.gen rfl (W.codeRec_of KX hcd) (hb _ _ _ _ ?_)
 refine wpAny_newFunctionEnv_cells S.kind hkind fun env he s1 x => ?_
 subst he
 refine ⟨lim.keeps x.toInCall.keep, codeAny_func ?_⟩
 obtain ⟨t, ht, hq⟩ := hbody A outer s H vs Q E (hr.deeper _) hsp
 have I : Inv (cxOf CX P w K mg base N qual scope f cdv A outer s H E) [] (start N vs) H s1 := nG S hr.hd e0 hl r x
 refine wpAny_mono (ht [] s1 (start N vs) H _ I hq) (fun fl s' hs => ?_) fun e s' hs => hs
 have fin : ∀ {σ' : St} {H' : Hp} {v : V} {u : Value}, Inv (cxOf CX P w K mg base N qual scope f cdv A outer s H E) [] σ' H' s' -> RelV v u -> Q v H' -> CE outer P w H s Q u s' :=
  fun {σ' H' v u} J rv q => ⟨v, H', J.os, J.bare, J.base, J.hok, rv, q⟩
 cases fl with
 | ret u =>
  obtain ⟨v, σ', H', J, rv, q⟩ := hs
  exact fin J rv q
 | next =>
  obtain ⟨σ', H', J, q⟩ := hs
  exact fin (v := V.non) (u := Value.none) J rfl q
 | brk =>
  obtain ⟨_, _, _, q⟩ := hs
  exact False.elim q
 | cont =>
  obtain ⟨_, _, _, q⟩ := hs
  exact False.elim q
section
variable {X : Cx} {x : Str} {p pos : Pos} {e : Expr} {es : List Expr} {t : TA} {id T : String} {r : List V -> Hp -> VK -> Prop}
noncomputable def tCB (r : List V -> Hp -> VK -> Prop) (t : TA) : TE := fun σ H Q => t σ H fun vs H1 => r vs H1 Q
theorem gC (hc : A7 X (.builtin id) r) (hg : Gl X x) (hm : X.mg x = none) (hv : bootBuiltins x = some (.builtin id)) (ha : PA X (e :: es) t) (hn : x ≠ "__name__" := by decide) (hdb : (x == ("__debug__" : Str)) = false := by decide)
  (he : starEach (e :: es) X.env = (false, eval e X.env) :: starEach es X.env := by rfl) (hpl : (backTo pos (starEach es X.env)).any (·.1) = false := by rfl) : PE X (.Call (.Name x p) (e :: es) [] pos) (tCB r t) := by
 intro pins s σ H Q I h
 refine wpAny_Call_Name_kw (gy I hg hm hv ?_ hn hdb)
 exact callWith_builtin1 (thn (ha pos pins s σ H _ I h) fun us s1 ⟨vs, H1, I1, r1, q1⟩ => hc pins s1 σ H1 vs us Q I1 r1 q1) he hpl
theorem iG (hc : A7 X (.type T) r) (hg : Gl X x) (hm : X.mg x = none) (hv : bootBuiltins x = some (.type T)) (ha : PA X (e :: es) t) (hn : x ≠ "__name__" := by decide) (hdb : (x == ("__debug__" : Str)) = false := by decide)
  (he : starEach (e :: es) X.env = (false, eval e X.env) :: starEach es X.env := by rfl) (hpl : (backTo pos (starEach es X.env)).any (·.1) = false := by rfl) : PE X (.Call (.Name x p) (e :: es) [] pos) (tCB r t) := by
 intro pins s σ H Q I h
 refine wpAny_Call_Name_kw (gy I hg hm hv ?_ hn hdb)
 exact callWith_type1 (thn (ha pos pins s σ H _ I h) fun us s1 ⟨vs, H1, I1, r1, q1⟩ => hc pins s1 σ H1 vs us Q I1 r1 q1) he hpl
end
end L2
namespace HT
open PySem PyProof.Rows
noncomputable def lexLt : List Int -> List Int -> Bool
 | [], [] => false
 | [], _ :: _ => true
 | _ :: _, [] => false
 | x :: xs, y :: ys => if x = y then lexLt xs ys else decide (x < y)
theorem dW (x y : Int) (xs ys : List Int) : lexLt (x :: xs) (y :: ys) = if x = y then lexLt xs ys else decide (x < y) := rfl
theorem cf : lexLt [] [] = false := rfl
theorem cR (y : Int) (ys : List Int) : lexLt [] (y :: ys) = true := rfl
theorem cS (x : Int) (xs : List Int) : lexLt (x :: xs) [] = false := rfl
theorem jX (A : Around) (s : Shared) (a : Int) (t : Tok) (c : Int) (u : Tok) : ∃ e, SeqAt.EqAt A s (.int a t) (.int c u) e /\ (e = true ↔ a = c) :=
 ⟨(a == c), SeqAt.EqAt.int_int a t c u, by simp⟩
theorem pF (A : Around) (s : Shared) (a : Int) (t : Tok) (c : Int) (u : Tok) (prog : Program) (w : World) (E : zu) (Q : zu) (h : Q (.bool (decide (a < c))) s) :
  wpAny (model prog w) A (richCompare .Lt (.int a t) (.int c u)) Q E s :=
 (lt_int h : wpAny (model prog w) A (compareOp .Lt (.int a t) (.int c u)) Q E s)
section
open PySem.SeqAt
open PySem.AutoSeq1 (wpAny_loadPart')
open PySem.MeetsSeq PySem.MeetsSeq2 PySem.MeetsSeq3
theorem dG (l b : Addr) (items items2 : Array Value) (n n2 : Nat) (dd dd2 : Option Addr) (sl sl2 : Array (Option Value)) (ns ms : List Int) (hi : IntsAre items.toList ns) (hj : IntsAre items2.toList ms) :
  Meets (Builtin.«tuple.__lt__» ⟨[.ref l, .ref b], []⟩)
   (fun _ R s => s.heap.get? l = some { cls := .type "tuple", dict := dd, data := .seq items n, slots := sl } /\ s.heap.get? b = some { cls := .type "tuple", dict := dd2, data := .seq items2 n2, slots := sl2 } /\
    R (.ok (.ret (.bool (lexLt ns ms)))) s) :=
 .of_wp fun prog w A R s h => by
  obtain ⟨hp, g, d, tk, os⟩ := s; obtain ⟨hl, hb, h⟩ := h
  have f2 := AutoSeq1.sub_tuple_tuple
  have z1 : items.size = ns.length := by rw [<- hi.length]; simp
  have z2 : items2.size = ms.length := by rw [<- hj.length]; simp
  wp_walk using wpAny_loadPart' hl, wpAny_loadPart' hb, wpAny_forIn_list _ (fun rest b s' => b.1 = none /\ s' = ⟨hp, g, d, tk, os⟩ /\ ∃ (vs ws : List Value) (ns' ms' : List Int), rest = vs.zip ws /\
   IntsAre vs ns' /\ IntsAre ws ms' /\ ns'.length + items2.size = ms'.length + items.size /\ R (.ok (.ret (.bool (lexLt ns' ms')))) ⟨hp, g, d, tk, os⟩) _
  case turn =>
   rintro ⟨y, x⟩ rest b s' ⟨hb', rfl, vs, ws, ns', ms', hz, hvi, hwi, hlen, hR⟩
   cases hvi with
   | nil => rw [List.zip_nil_left] at hz; cases hz
   | cons a t hvi' =>
    cases hwi with
    | nil => rw [List.zip_nil_right] at hz; cases hz
    | cons c u hwi' =>
     rw [List.zip_cons_cons] at hz
     injection hz with hyx hrest
     injection hyx with hy hx
     subst hy hx
     rw [dW] at hR
     simp only [List.length_cons] at hlen
     obtain ⟨e, he, hiff⟩ := jX A.in1 ⟨hp, g, d, tk, os⟩ a t c u
     refine wpAny_bind (he prog w _ _ ?_)
     cases e with
     | true =>
      rw [if_pos (hiff.mp rfl)] at hR
      wp_walk
      exact ⟨rfl, rfl, _, _, _, _, hrest, hvi', hwi', by lia, hR⟩
     | false =>
      rw [if_neg (fun q => absurd (hiff.mpr q) Bool.false_ne_true)] at hR
      have hri := pF A.in1 ⟨hp, g, d, tk, os⟩ a t c u prog w
      wp_walk using hri
      exact ⟨_, rfl, by simpa using hR⟩
  case fin =>
   rintro ⟨b1, b2⟩ s' ⟨hb', rfl, vs, ws, ns', ms', hz, hvi, hwi, hlen, hR⟩
   simp only at hb'
   subst hb'
   have hv : lexLt ns' ms' = decide (items.size < items2.size) := by
    cases hvi with
    | nil =>
     cases hwi with
     | nil =>
      simp only [List.length_nil] at hlen
      rw [cf]
      exact (decide_eq_false (by lia)).symm
     | cons c u hw =>
      simp only [List.length_nil, List.length_cons] at hlen
      rw [cR]
      exact (decide_eq_true (by lia)).symm
    | cons a t hv =>
     cases hwi with
     | nil =>
      simp only [List.length_nil, List.length_cons] at hlen
      rw [cS]
      exact (decide_eq_false (by lia)).symm
     | cons c u hw =>
      rw [List.zip_cons_cons] at hz
      cases hz
   rw [hv] at hR
   wp_walk
   exact ⟨_, rfl, by simpa [Builtin.Tuple.tupleCompareSizes] using hR⟩
  case h =>
   exact ⟨rfl, rfl, items.toList, items2.toList, ns, ms, rfl, hi, hj, by lia, h⟩
end
section
variable {prog : Program} {w : World} {A : Around} {E : zu} {s : Shared}
theorem lQ {l b : Addr} {items items2 : Array Value} {ns ms : List Int} {Q : zu} (hl : IsTup s.heap l items) (hb : IsTup s.heap b items2) (hi : IntsAre items.toList ns) (hj : IntsAre items2.toList ms)
  (hu : A.units < cLine) (h : Q (.bool (lexLt ns ms)) s) : wpAny (model prog w) A (compareOp .Lt (.ref l) (.ref b)) Q E s := by
 obtain ⟨⟨cls, dd, data, sl⟩, ho, hc, n, hd⟩ := id hl
 obtain ⟨⟨cls2, dd2, data2, sl2⟩, ho2, hc2, n2, hd2⟩ := id hb
 simp only at hc hd hc2 hd2
 subst hc hd hc2 hd2
 exact richCompare_meets_room (op := .Lt) ⟨_, ho, rfl⟩ ⟨_, ho2, rfl⟩ PySem.F.slot_tuple_lt PySem.F.entry_tuple_lt (PySem.F.args_tuple_lt_2 _ _) (dG l b items items2 n n2 dd dd2 sl sl2 ns ms hi hj)
  ⟨ho, ho2, show Value.bool (lexLt ns ms) ≠ Value.notImplemented /\ Q (.bool (lexLt ns ms)) s from ⟨(fun x => nomatch x), h⟩⟩ hu
theorem rm {t b : Addr} {vs ws : List Value} {Q : zu} (ht : IsTup s.heap t vs.toArray) (hb : IsTup s.heap b ws.toArray) (hv : vs ≠ [])
  (h1 : ws = [] -> Q (.ref t) s) (h2 : ws ≠ [] -> Q (.ref s.heap.objs.size) { s with heap := s.heap.push { cls := .type "tuple", data := .seq (vs ++ ws).toArray } })
  (hsz : vs.length + ws.length <= sizeLine) : wpAny (model prog w) A (binaryOp .Add (.ref t) (.ref b)) Q E s := by
 obtain ⟨⟨cls, dd, data, sl⟩, ho, hc, n, hd⟩ := id ht
 obtain ⟨⟨cls2, dd2, data2, sl2⟩, ho2, hc2, n2, hd2⟩ := id hb
 simp only at hc hd hc2 hd2
 subst hc hd hc2 hd2
 have e : vs.toArray ++ ws.toArray = (vs ++ ws).toArray := by simp
 by_cases hw : ws = []
 ·exact concat_meets ⟨_, ho, rfl⟩ ⟨_, ho2, rfl⟩ noFill_tuple_add seq_tuple_add PySem.F.slot_tuple_add PySem.F.entry_tuple_add (PySem.F.args_tuple_add_2 _ _)
   (tuple_addW1 t b vs.toArray ws.toArray n n2 dd dd2 sl sl2 (by simpa using hv) (by simp [hw])) ⟨ho, ho2, h1 hw⟩
 ·refine concat_meets ⟨_, ho, rfl⟩ ⟨_, ho2, rfl⟩ noFill_tuple_add seq_tuple_add PySem.F.slot_tuple_add PySem.F.entry_tuple_add (PySem.F.args_tuple_add_2 _ _)
   (tuple_addW2 t b vs.toArray ws.toArray n n2 dd dd2 sl sl2 (by simpa using hv) (by simpa using hw) (by rw [List.size_toArray, List.size_toArray]; exact hsz)) ⟨ho, ho2, ?_⟩
  rw [e]
  exact h2 hw
noncomputable def sIx (n d : Nat) : Option Int -> Nat
 | none => d
 | some v => if v < 0 then (v + (n : Int)).toNat else min v.toNat n
theorem pG (n d : Nat) : sIx n d none = d := rfl
theorem rn (n d k : Nat) : sIx n d (some (k : Int)) = min k n := by
 show (if (k : Int) < 0 then ((k : Int) + (n : Int)).toNat else min (k : Int).toNat n) = min k n
 rw [if_neg (by lia), Int.toNat_natCast]
theorem ux (n d : Nat) (hd : d <= n) (o : Option Int) : sIx n d o <= n := by
 cases o with
 | none => exact hd
 | some v =>
  show (if v < 0 then (v + (n : Int)).toNat else min v.toNat n) <= n
  by_cases hv : v < 0
  ·rw [if_pos hv]; lia
  ·rw [if_neg hv]; exact Nat.min_le_right _ _
theorem mL (v : Int) (n d : Nat) : (if v < 0 then max (v + (n : Int)) 0 else min v (n : Int)) = ((sIx n d (some v) : Nat) : Int) := by
 show (if v < 0 then max (v + (n : Int)) 0 else min v (n : Int)) = (((if v < 0 then (v + (n : Int)).toNat else min v.toNat n) : Nat) : Int)
 by_cases hv : v < 0
 ·simp only [if_pos hv]; lia
 ·simp only [if_neg hv]; lia
theorem lR (lo hi : Option Int) (n : Nat) : Builtin.Slice.sliceAdjust lo hi 1 (n : Int) = (((sIx n 0 lo : Nat) : Int), ((sIx n n hi : Nat) : Int)) := by
 have h1 : ¬ ((1 : Int) < 0) := by lia
 unfold Builtin.Slice.sliceAdjust
 simp only [h1, if_false]
 refine Prod.ext ?_ ?_
 ·cases lo with
  | none => rfl
  | some v => exact mL v n 0
 ·cases hi with
  | none => rfl
  | some v => exact mL v n n
theorem lS (i j : Nat) : Builtin.Slice.slicePlaces (i : Int) (j : Int) 1 = j - i := by
 unfold Builtin.Slice.slicePlaces
 have h1 : (1 : Int) > 0 := by lia
 simp only [h1, if_true, Int.ediv_one]
 split <;> lia
theorem gE {v : Value} {o : Option Int} {Q : Option Int -> Shared -> Prop} (p : IsPart v o) (h : Q o s) : wpAny (model prog w) A (Builtin.Slice.slicePartIndex v) Q E s := by
 cases p with
 | none => exact slicePart_none h
 | int i t => exact slicePart_int h
theorem cv {sl : Addr} {vl vu : Value} {lo hi : Option Int} {n : Nat} {Q : Int × Int × Nat -> Shared -> Prop} (hs : s.heap.IsSliceOf sl vl vu .none) (pl : IsPart vl lo) (pu : IsPart vu hi)
  (h : Q (((sIx n 0 lo : Nat) : Int), 1, sIx n n hi - sIx n 0 lo) s) : wpAny (model prog w) A (Builtin.Slice.sliceApplied (.ref sl) (pure (n : Int))) Q E s := by
 obtain ⟨os, hos, hcs, hds⟩ := id hs
 unfold Builtin.Slice.sliceApplied Builtin.Slice.sliceFields
 refine wpAny_bind (wpAny_bind (wpAny_field hos hds (x := vl) rfl (wpAny_bind (wpAny_field hos hds (x := vu) rfl (wpAny_bind (wpAny_field hos hds (x := .none) rfl (wpAny_pure ?_)))))))
 refine wpAny_bind (slicePart_none ?_)
 show wpAny _ _ (if ((1 : Int) == 0) = true then _ else _) _ _ s
 rw [if_neg (by decide)]
 refine wpAny_bind (gE pl (wpAny_bind (gE pu (wpAny_bind (wpAny_pure ?_)))))
 show wpAny _ _ (match Builtin.Slice.sliceAdjust lo hi 1 (n : Int) with | (lo, hi) => pure (lo, (1 : Int), Builtin.Slice.slicePlaces lo hi 1)) _ _ s
 rw [lR lo hi n]
 show wpAny _ _ (pure (((sIx n 0 lo : Nat) : Int), (1 : Int), Builtin.Slice.slicePlaces ((sIx n 0 lo : Nat) : Int) ((sIx n n hi : Nat) : Int) 1)) _ _ s
 rw [lS]
 exact wpAny_pure h
theorem pH (xs : Array Value) (i k : Nat) : ((List.range k).filterMap fun (m : Nat) => xs[((i : Int) + (m : Int) * 1).toNat]?).toArray = ((xs.toList.drop i).take k).toArray := by
 have e : (fun (m : Nat) => xs[((i : Int) + (m : Int) * 1).toNat]?) = fun m => xs[i + m]? := by
  funext m
  have : ((i : Int) + (m : Int) * 1).toNat = i + m := by lia
  rw [this]
 rw [e]
 have := pick_run xs i k
 rw [List.filterMap_map] at this
 have e2 : ((fun x => xs[x]?) ∘ fun x => i + x) = fun m => xs[i + m]? := rfl
 rw [e2] at this
 rw [this]
theorem eM {t sl : Addr} {items : Array Value} {vl vu : Value} {lo hi : Option Int} {Q : zu} (ht : IsTup s.heap t items) (hs : s.heap.IsSliceOf sl vl vu .none) (pl : IsPart vl lo) (pu : IsPart vu hi)
  (hw : ¬ (sIx items.size 0 lo = 0 /\ sIx items.size items.size hi = items.size))
  (h : Q (.ref s.heap.objs.size) { s with heap := s.heap.push { cls := .type "tuple", data := .seq ((items.toList.drop (sIx items.size 0 lo)).take (sIx items.size items.size hi - sIx items.size 0 lo)).toArray } })
  (hsz : items.size <= sizeLine) : wpAny (model prog w) A (getItem (.ref t) (.ref sl)) Q E s := by
 have htake : sizeOk (.seq ((items.toList.drop (sIx items.size 0 lo)).take (sIx items.size items.size hi - sIx items.size 0 lo)).toArray) := by
  show ((items.toList.drop (sIx items.size 0 lo)).take (sIx items.size items.size hi - sIx items.size 0 lo)).toArray.size <= sizeLine
  rw [List.size_toArray, List.length_take, List.length_drop, Array.length_toList]
  lia
 have hj : sIx items.size items.size hi <= items.size := ux _ _ (Nat.le_refl _) hi
 obtain ⟨os, hos, hcs, hds⟩ := id hs
 have hTs : s.TypeIs (.ref sl) "slice" := ⟨os, hos, hcs⟩
 unfold getItem
 try with_reducible refine wpAny_holding ?_
 first | refine wpAny_bind (wpAny_pure ?_) | skip
 refine wpAny_bind (wpAny_sequenceKey ht.typeIs (by decide) ?_)
 refine wpAny_bind (wpAny_callSpecial?_slot (name := Str.ofString "__getitem__") ht.typeIs slot_tuple_getitem
  (wpAny_call_entry slot_tuple_getitem ht.typeIs entry_tuple_getitem ?_ (args_tuple_getitem _ _)))
 show wpAny _ _ (Builtin.Tuple.tupleItemsOf (.ref t) >>= _) _ _ s
 refine wpAny_bind (tupleItemsOf_ ht ?_)
 refine wpAny_bind (wpAny_typeOf hTs ?_)
 rw [if_pos (by decide)]
 refine wpAny_bind (cv hs pl pu ?_)
 have hno : ¬ ((((sIx items.size 0 lo : Nat) : Int) == 0 && (1 : Int) == 1 && (sIx items.size items.size hi - sIx items.size 0 lo) == items.size) = true) := by
  intro q
  rw [Bool.and_eq_true, Bool.and_eq_true] at q
  have q1 : ((sIx items.size 0 lo : Nat) : Int) = 0 := eq_of_beq q.1.1
  have q2 : sIx items.size items.size hi - sIx items.size 0 lo = items.size := eq_of_beq q.2
  exact hw ⟨by lia, by lia⟩
 show wpAny _ _ (if (((sIx items.size 0 lo : Nat) : Int) == 0 && (1 : Int) == 1 && (sIx items.size items.size hi - sIx items.size 0 lo) == items.size) = true then _ else _) _ _ s
 rw [if_neg hno, pH]
 first
  | exact wpAny_bind (m := Builtin.Tuple.tupleExact _) (wpAny_newObj_type (wpAny_pure ⟨_, rfl, wpAny_pure h⟩) htake)
  | exact wpAny_bind (m := Builtin.Tuple.tupleExact _) (wpAny_newObj_type (wpAny_bind (wpAny_pure (wpAny_pure ⟨_, rfl, wpAny_pure h⟩))) htake)
  | exact wpAny_bind (wpAny_bind (m := Builtin.Tuple.tupleExact _) (wpAny_newObj_type (wpAny_pure (wpAny_pure ⟨_, rfl, wpAny_pure h⟩)) htake))
  | exact wpAny_bind (wpAny_bind (m := Builtin.Tuple.tupleExact _) (wpAny_newObj_type (wpAny_pure ⟨_, rfl, wpAny_pure h⟩) htake))
end
end HT
namespace L2
open PySem PySem.Spec PyProof.Rows
abbrev TO := St -> Hp -> (Option Int -> Hp -> Prop) -> Prop
noncomputable def PO (X : Cx) (e : Option Expr) (t : TO) : Prop :=
 ∀ (pins : zt) (s : Shared) (σ : St) (H : Hp) (Q : Option Int -> Hp -> Prop), Inv X pins σ H s -> t σ H Q ->
  wpAny (model X.prog X.w) X.A (evalPart e X.env) (fun u s' => ∃ o H', Inv X pins σ H' s' /\ IsPart u o /\ Q o H') X.xe s
def Bq : TO := fun _ H Q => Q none H
noncomputable def BM (t : TE) : TO := fun σ H Q => t σ H fun x H1 => ∃ i, x = .int i /\ Q (some i) H1
theorem dX {ns : List Int} : ∀ {us : List Value}, Vals (ns.map V.int) us -> IntsAre us ns := by
 induction ns with
 | nil => intro us r; rw [List.map_nil] at r; cases r; exact .nil
 | cons n ns ih =>
  intro us r
  rw [List.map_cons] at r
  cases r with
  | cons r1 r2 =>
   obtain ⟨t, e⟩ := r1
   subst e
   exact .cons n t (ih r2)
section
variable {X : Cx} {e : Expr} {te : TE} {lo hi : Option Expr} {tl th : TO} {pos p2 : Pos}
theorem ro : PO X none Bq := by
 intro pins s σ H Q I h
 rw [evalPart_none]
 exact wpAny_pure ⟨none, H, I, .none, h⟩
theorem rp (h : PE X e te) : PO X (some e) (BM te) := by
 intro pins s σ H Q I hw
 rw [evalPart_some]
 refine thn (h pins s σ H _ I hw) fun u s1 ⟨x, H1, I1, r1, q1⟩ => ?_
 obtain ⟨i, rfl, q⟩ := q1
 obtain ⟨t, rfl⟩ := r1
 exact ⟨some i, H1, I1, .int i t, q⟩
noncomputable def SlR (X : Cx) (r : V -> Option Int -> Option Int -> Hp -> VK -> Prop) : Prop :=
 ∀ (pins : zt) (s : Shared) (σ : St) (H : Hp) (x : V) (v vl vu : Value) (lo hi : Option Int) (sl : Addr) (Q : VK), Inv X pins σ H s -> RelV x v -> s.heap.IsSliceOf sl vl vu .none -> IsPart vl lo -> IsPart vu hi -> r x lo hi H Q ->
  ∃ T id, typeLookup (.type T) "__getitem__" = pure (some (.builtin id)) /\ s.TypeIs v T /\ wpAny (model X.prog X.w) X.A (getItem v (.ref sl)) (EP X pins σ Q) X.xe s
theorem SlR.or {r r' : V -> Option Int -> Option Int -> Hp -> VK -> Prop} (h : SlR X r) (h' : SlR X r') : SlR X (fun x lo hi H Q => r x lo hi H Q \/ r' x lo hi H Q) := by
 intro pins s σ H x v vl vu lo hi sl Q I rx hs pl pu q
 rcases q with q | q
 ·exact h pins s σ H x v vl vu lo hi sl Q I rx hs pl pu q
 ·exact h' pins s σ H x v vl vu lo hi sl Q I rx hs pl pu q
noncomputable def tSl (r : V -> Option Int -> Option Int -> Hp -> VK -> Prop) (te : TE) (tl th : TO) : TE := fun σ H Q => te σ H fun x H1 => tl σ H1 fun l H2 => th σ H2 fun u H3 => r x l u H3 Q
theorem pI {r : V -> Option Int -> Option Int -> Hp -> VK -> Prop} (hr : SlR X r) (he : PE X e te) (hl : PO X lo tl) (hu : PO X hi th) : PE X (.Subscript e (.Slice lo hi none p2) pos) (tSl r te tl th) := by
 intro pins s σ H Q I h
 refine Subscript_ (thn (he pins s σ H _ I h) fun v s1 ⟨x, H1, I1, r1, q1⟩ => ?_)
 refine wpAny_Slice (thn (hl pins s1 σ H1 _ I1 q1) fun vl s2 ⟨l, H2, I2, pl, q2⟩ => thn (hu pins s2 σ H2 _ I2 q2) fun vu s3 ⟨u, H3, I3, pu, q3⟩ => ?_)
 rw [evalPart_none]
 refine wpAny_pure ?_
 have I4 : Inv X pins σ H3 { s3 with heap := s3.heap.push { cls := .type "slice", data := .fields #[vl, vu, .none] } } := I3.kept (t' := s3.toks) fun b ob q => Heap.get?_push_of_some _ q
 obtain ⟨T, id, hT, ht, hg⟩ := hr pins { s3 with heap := s3.heap.push { cls := .type "slice", data := .fields #[vl, vu, .none] } } σ H3 x v vl vu l u s3.heap.objs.size Q I4 r1 (Heap.IsSliceOf.new ..) pl pu q3
 show wpAny (model X.prog X.w) X.A (subscriptTail e (.Slice lo hi none p2) v (.ref s3.heap.objs.size)) (EP X pins σ Q) X.xe { s3 with heap := s3.heap.push { cls := .type "slice", data := .fields #[vl, vu, .none] } }
 exact tail_any (ops := [.ref s3.heap.objs.size, v]) ht hT hg (by with_unfolding_all rfl)
noncomputable def cutV (xs : List V) (lo hi : Option Int) : List V := (xs.drop (HT.sIx xs.length 0 lo)).take (HT.sIx xs.length xs.length hi - HT.sIx xs.length 0 lo)
theorem fK (xs : List V) (lo hi : Option Int) : (cutV xs lo hi).length <= xs.length := by
 unfold cutV
 rw [List.length_take, List.length_drop]
 lia
noncomputable def rSlT (K : W.Frag) : V -> Option Int -> Option Int -> Hp -> VK -> Prop := fun x lo hi H Q => ∃ a xs, x = .ref a /\ SqT K H a xs /\
 ¬ (HT.sIx xs.length 0 lo = 0 /\ HT.sIx xs.length xs.length hi = xs.length) /\ ∀ p, H p = none -> Q (.ref p) (upd H p (.tup (cutV xs lo hi)))
theorem uy : SlR X (rSlT X.K) := by
 intro pins s σ H x v vl vu lo hi sl Q I rx hs pl pu h
 obtain ⟨a, xs, rfl, hx, hw, q⟩ := h
 cases rx
 obtain ⟨its, r, ht, hz⟩ := I.tuple hx
 have hlen : its.toArray.size = xs.length := by rw [List.size_toArray]; exact r.length.symm
 refine ⟨"tuple", _, slot_tuple_getitem.lookup, ht.typeIs, ?_⟩
 refine HT.eM ht hs pl pu (by rw [hlen]; exact hw) ?_ (by rw [hlen]; exact hz)
 rw [hlen]
 refine ⟨.ref s.heap.objs.size, _, I.laid (t' := s.toks) (o := .tup (cutV xs lo hi)) (fun b ob q => Heap.get?_push_of_some _ q) (Nat.le_refl _) ?_, rfl, q _ (I.hok.fresh (Nat.le_refl _))⟩
 exact ⟨Nat.le_trans (fK xs lo hi) hz, _, (r.drop (HT.sIx xs.length 0 lo)).take (HT.sIx xs.length xs.length hi - HT.sIx xs.length 0 lo), IsTup.new _ _⟩
noncomputable def BN (K : W.Frag) : R2 := fun x y H Q => ∃ a b xs ys, x = .ref a /\ y = .ref b /\ SqT K H a xs /\ SqT K H b ys /\ xs ≠ [] /\ xs.length + ys.length <= sizeLine /\
 (ys = [] -> Q (.ref a) H) /\ (ys ≠ [] -> ∀ p, H p = none -> Q (.ref p) (upd H p (.tup (xs ++ ys))))
theorem Vals.nil_iff {xs : List V} {us : List Value} (r : Vals xs us) : us = [] ↔ xs = [] := by
 cases r with
 | nil => simp
 | cons _ _ => simp
theorem rq : OpR X (binaryOp .Add) (BN X.K) := by
 intro pins s σ H x y v u Q I rx ry h
 obtain ⟨a, b, xs, ys, rfl, rfl, ha, hb, hx, hz, q1, q2⟩ := h
 cases rx
 cases ry
 obtain ⟨its, r1, p1, _⟩ := I.tuple ha
 obtain ⟨its2, r2, p2, _⟩ := I.tuple hb
 refine HT.rm p1 p2 (fun z => hx (r1.nil_iff.mp z)) (fun z => ⟨.ref a, H, I, rfl, q1 (r2.nil_iff.mp z)⟩) (fun z => ?_) (by rw [<- r1.length, <- r2.length]; exact hz)
 refine ⟨.ref s.heap.objs.size, _, I.laid (t' := s.toks) (o := .tup (xs ++ ys)) (fun b ob q => Heap.get?_push_of_some _ q) (Nat.le_refl _) ?_, rfl, q2 (fun w => z (r2.nil_iff.mpr w)) _ (I.hok.fresh (Nat.le_refl _))⟩
 exact ⟨by rw [List.length_append]; exact hz, _, r1.append r2, IsTup.new _ _⟩
end
noncomputable def ixN (n : Nat) (i : Int) : Option Nat := if 0 <= i then (if i < n then some i.toNat else none) else if -(n : Int) <= i then some (i + n).toNat else none
noncomputable def atI {α : Type} (xs : List α) (i : Int) : Option α := (ixN xs.length i).bind fun j => xs[j]?
theorem rz {n : Nat} {i : Int} {j : Nat} (h : ixN n i = some j) : seqIndex? i n = some j /\ j < n /\ -(n : Int) <= i /\ i < n := by
 unfold ixN at h
 by_cases h0 : 0 <= i
 ·rw [if_pos h0] at h
  by_cases h1 : i < n
  ·rw [if_pos h1] at h
   have e : i.toNat = j := Option.some.inj h
   exact ⟨by rw [seqIndex_of h0 h1, e], by lia, by lia, h1⟩
  ·rw [if_neg h1] at h; cases h
 ·rw [if_neg h0] at h
  by_cases h1 : -(n : Int) <= i
  ·rw [if_pos h1] at h
   have e : (i + n).toNat = j := Option.some.inj h
   exact ⟨by rw [seqIndex_neg (by lia) h1, e], by lia, h1, by lia⟩
  ·rw [if_neg h1] at h; cases h
theorem mM {α : Type} {xs : List α} {i : Int} {v : α} (h : atI xs i = some v) : ∃ j, seqIndex? i xs.length = some j /\ xs[j]? = some v /\ j < xs.length /\ -(xs.length : Int) <= i /\ i < xs.length := by
 unfold atI at h
 cases e : ixN xs.length i with
 | none => rw [e] at h; cases h
 | some j =>
  rw [e] at h
  obtain ⟨h1, h2, h3, h4⟩ := rz e
  exact ⟨j, h1, h, h2, h3, h4⟩
theorem gb {α : Type} {xs : List α} {j : Nat} {v : α} (h : xs[j]? = some v) : atI xs (j : Int) = some v := by
 have hj : j < xs.length := (List.getElem?_eq_some_iff.mp h).1
 have e : ixN xs.length (j : Int) = some j := by
  unfold ixN
  rw [if_pos (by lia), if_pos (by lia)]; simp
 unfold atI; rw [e]; exact h
noncomputable def AV (b : Expr) : Prop := ∀ o i, subscripted b false o i = operate [o, i] (getItem o i)
noncomputable def IxR (X : Cx) (r : R2) : Prop :=
 ∀ (value slice : Expr) (pins : zt) (s : Shared) (σ : St) (H : Hp) (x y : V) (v u : Value) (Q : VK), Inv X pins σ H s -> RelV x v -> RelV y u -> r x y H Q ->
  subscripted slice false v u = operate [v, u] (getItem v u) -> wpAny (model X.prog X.w) X.A (subscriptTail value slice v u) (EP X pins σ Q) X.xe s
noncomputable def MtR (X : Cx) (id : String) (r : V -> List V -> Hp -> VK -> Prop) : Prop :=
 ∀ (pins : zt) (s : Shared) (σ : St) (H : Hp) (x : V) (xs : List V) (v : Value) (us : List Value) (Q : VK), Inv X pins σ H s -> RelV x v -> Vals xs us -> r x xs H Q ->
  wpAny (model X.prog X.w) X.A (call (.builtin id) (v :: us)) (EP X pins σ Q) X.xe s
section
variable {X : Cx} {a b : Expr} {ta tb : TE} {pos : Pos}
theorem IxR.or {r r' : R2} (h : IxR X r) (h' : IxR X r') : IxR X (fun x y H Q => r x y H Q \/ r' x y H Q) := by
 intro value slice pins s σ H x y v u Q I rx ry q hs
 rcases q with q | q
 ·exact h value slice pins s σ H x y v u Q I rx ry q hs
 ·exact h' value slice pins s σ H x y v u Q I rx ry q hs
theorem wt {r : R2} (hr : IxR X r) (ha : PE X a ta) (hb : PE X b tb) (hs : AV b) : PE X (.Subscript a b pos) (tOp r ta tb) := by
 intro pins s σ H Q I h
 exact Subscript_ (binT ha hb I h fun v u s2 x y H2 I2 rx ry q => hr a b pins s2 σ H2 x y v u Q I2 rx ry q (hs _ _))
noncomputable def rIxL (K : W.Frag) : R2 := fun x y H Q => ∃ p xs i v, x = .ref p /\ y = .int i /\ SqL K H p xs /\ atI xs i = some v /\ Q v H
noncomputable def rIxT (K : W.Frag) : R2 := fun x y H Q => ∃ p xs i v, x = .ref p /\ y = .int i /\ SqT K H p xs /\ atI xs i = some v /\ Q v H
theorem rA : IxR X (rIxL X.K) := by
 intro value slice pins s σ H x y v u Q I rx ry h hs
 obtain ⟨p, xs, i, z, rfl, rfl, hq, he, q⟩ := h
 cases rx
 obtain ⟨t, rfl⟩ := ry
 obtain ⟨its, r, pl, hz⟩ := I.list hq
 obtain ⟨j, h1, h2, h3, h4, h5⟩ := mM he
 obtain ⟨w, ew, rw'⟩ := r.get h2
 have hl := r.length
 have hn := line63
 have fin : EP X pins σ Q w s := ⟨z, H, I, rw', q⟩
 by_cases h0 : 0 <= i
 ·have hj : i.toNat = j := by
   rw [seqIndex_of h0 h5] at h1
   exact Option.some.inj h1
  exact item_listR pl.isList h0 (by lia) (by rw [hj]; simpa using ew) fin hs
 ·have hj : (i + (its.toArray.size : Int)).toNat = j := by
   rw [seqIndex_neg (by lia) h4] at h1
   rw [List.size_toArray, <- hl]
   exact Option.some.inj h1
  exact subscriptTail_builtinR (x := w) pl.isList.typeIs slot_list_getitem.lookup
   (wpAny_getItem_list_neg (Q := fun r s' => r = w /\ EP X pins σ Q r s') pl.isList (by lia) (by rw [List.size_toArray] <;> lia) (by lia) (by rw [hj]; simpa using ew) ⟨rfl, fin⟩) hs
theorem uz : IxR X (rIxT X.K) := by
 intro value slice pins s σ H x y v u Q I rx ry h hs
 obtain ⟨p, xs, i, z, rfl, rfl, hq, he, q⟩ := h
 cases rx
 obtain ⟨t, rfl⟩ := ry
 obtain ⟨its, r, pl, hz⟩ := I.tuple hq
 obtain ⟨j, h1, h2, h3, h4, h5⟩ := mM he
 obtain ⟨w, ew, rw'⟩ := r.get h2
 have hl := r.length
 have hn := line63
 have fin : EP X pins σ Q w s := ⟨z, H, I, rw', q⟩
 exact subscriptTail_builtinR (x := w) pl.typeIs slot_tuple_getitem.lookup
  (getItem_tuple (j := j) (Q := fun r s' => r = w /\ EP X pins σ Q r s') pl (by lia) (by lia) (by rw [List.size_toArray, <- hl]; exact h1) (by simpa using ew) ⟨rfl, fin⟩) hs
theorem jf (lo hi : Option Int) (n : Nat) : (sliceBounds lo hi none n).1 = ((HT.sIx n 0 lo : Nat) : Int) /\ (sliceBounds lo hi none n).2.1 = ((HT.sIx n n hi : Nat) : Int) /\ (sliceBounds lo hi none n).2.2 = 1 := by
 refine ⟨?_, ?_, rfl⟩
 ·cases lo with
  | none => simp [sliceBounds, HT.sIx]
  | some i =>
   simp only [sliceBounds, HT.sIx, Option.getD_none, show (1 : Int) > 0 by decide, if_true]
   by_cases h : i < 0
   ·simp only [h, if_true] <;> lia
   ·simp only [h, if_false] <;> lia
 ·cases hi with
  | none => simp [sliceBounds, HT.sIx]
  | some i =>
   simp only [sliceBounds, HT.sIx, Option.getD_none, show (1 : Int) > 0 by decide, if_true]
   by_cases h : i < 0
   ·simp only [h, if_true] <;> lia
   ·simp only [h, if_false] <;> lia
theorem ip (its : List Value) (lo hi : Option Int) : slicePick its.toArray lo hi none = ((its.drop (HT.sIx its.length 0 lo)).take (HT.sIx its.length its.length hi - HT.sIx its.length 0 lo)).toArray := by
 obtain ⟨h1, h2, h3⟩ := jf lo hi its.toArray.size
 unfold slicePick
 rw [h1, h2, h3]
 simp only [sliceRange_one, pick_run, List.size_toArray] <;> rfl
noncomputable def rSlL (K : W.Frag) : V -> Option Int -> Option Int -> Hp -> VK -> Prop := fun x lo hi H Q => ∃ a xs, x = .ref a /\ SqL K H a xs /\ ∀ p, H p = none -> Q (.ref p) (upd H p (.lst (cutV xs lo hi)))
theorem rB : SlR X (rSlL X.K) := by
 intro pins s σ H x v vl vu lo hi sl Q I rx hs pl pu h
 obtain ⟨a, xs, rfl, hx, q⟩ := h
 cases rx
 obtain ⟨its, r, ht, hz⟩ := I.list hx
 have hlen := r.length
 refine ⟨"list", _, slot_list_getitem.lookup, ht.isList.typeIs, ?_⟩
 refine wpAny_getItem_list_slice ht.isList hs pl pu .none (by simp) ?_ (by rw [List.size_toArray] <;> lia)
 rw [ip, <- hlen]
 refine ⟨.ref s.heap.objs.size, _, I.laid (t' := s.toks) (o := .lst (cutV xs lo hi)) (fun b ob q => Heap.get?_push_of_some _ q) (Nat.le_refl _) ?_, rfl, q _ (I.hok.fresh (Nat.le_refl _))⟩
 exact ⟨Nat.le_trans (fK xs lo hi) hz, _, 0, (r.drop (HT.sIx xs.length 0 lo)).take (HT.sIx xs.length xs.length hi - HT.sIx xs.length 0 lo), Heap.get?_push_size _ rfl⟩
theorem eN : A7 X (.builtin "len") (fun xs H Q => ∃ p ys, xs = [.ref p] /\ (SqL X.K H p ys \/ SqT X.K H p ys) /\ Q (.int ys.length) H) := by
 intro pins s σ H xs us Q I r h
 obtain ⟨p, ys, rfl, hq, q⟩ := h
 obtain ⟨u, rfl, rx⟩ := vals1 r
 cases rx
 have hn := line63
 rcases hq with hq | hq
 ·obtain ⟨its, r', pl, hz⟩ := I.list hq
  have hlen := r'.length
  exact Calls.call_len_list pl.isList (by simp only [List.size_toArray] <;> lia) ⟨.int ys.length, H, I.tok _, ⟨s.toks + 1, by rw [List.size_toArray, hlen]⟩, q⟩
 ·obtain ⟨its, r', pl, hz⟩ := I.tuple hq
  have hlen := r'.length
  exact len_tuple pl (by simp only [List.size_toArray] <;> lia) ⟨.int ys.length, H, I.tok _, ⟨s.toks + 1, by rw [List.size_toArray, hlen]⟩, q⟩
theorem eO : A7 X (.type "list") (fun xs H Q => ∃ p ys, xs = [.ref p] /\ (SqL X.K H p ys \/ SqT X.K H p ys) /\ ∀ l, H l = none -> Q (.ref l) (upd H l (.lst ys))) := by
 intro pins s σ H xs us Q I r h
 obtain ⟨p, ys, rfl, hq, q⟩ := h
 obtain ⟨u, rfl, rx⟩ := vals1 r
 cases rx
 have fin : ∀ (its : List Value), Vals ys its -> ys.length <= sizeLine -> ∀ (h' : Heap) (c' : Nat), (∀ b o', s.heap.get? b = some o' -> h'.get? b = some o') ->
   h'.get? s.heap.objs.size = some { cls := .type "list", dict := none, data := .seq its.toArray c', slots := #[] } -> EP X pins σ Q (.ref s.heap.objs.size) { s with heap := h' } := fun its r' hz h' c' kp e =>
  ⟨.ref s.heap.objs.size, _, I.laid (t' := s.toks) kp (Nat.le_refl _) (show zJ X.prog X.w _ h' _ (.lst ys) from ⟨hz, its, c', r', e⟩), rfl, q _ (I.hok.fresh (Nat.le_refl _))⟩
 rcases hq with hq | hq
 ·obtain ⟨its, r', pl, hz⟩ := I.list hq
  have hlen := r'.length
  obtain ⟨o, ho, hc, n, hd⟩ := pl.isList
  exact call_list_seq p (.inl rfl) ho hc hd (fun h' c' kp e => fin its r' hz h' c' kp e) (by simp only [List.size_toArray] <;> lia)
 ·obtain ⟨its, r', pl, hz⟩ := I.tuple hq
  have hlen := r'.length
  obtain ⟨o, ho, hc, n, hd⟩ := pl
  exact call_list_seq p (.inr rfl) ho hc hd (fun h' c' kp e => fin its r' hz h' c' kp e) (by simp only [List.size_toArray] <;> lia)
theorem iq : A7 X (.type "tuple") (fun xs H Q => ∃ p ys, xs = [.ref p] /\ ((SqL X.K H p ys /\ ∀ l, H l = none -> Q (.ref l) (upd H l (.tup ys))) \/ (SqT X.K H p ys /\ Q (.ref p) H))) := by
 intro pins s σ H xs us Q I r h
 obtain ⟨p, ys, rfl, h⟩ := h
 obtain ⟨u, rfl, rx⟩ := vals1 r
 cases rx
 rcases h with ⟨hq, q⟩ | ⟨hq, q⟩
 ·obtain ⟨its, r', pl, hz⟩ := I.list hq
  have hlen := r'.length
  refine call_tuple_list pl.isList (fun h' kp => ?_) (by simp only [List.size_toArray] <;> lia)
  have I1 : Inv X pins σ H { s with heap := h' } := I.kept (t' := s.toks) kp
  have I2 : Inv X pins σ (upd H h'.objs.size (.tup ys)) { s with heap := h'.push { cls := .type "tuple", data := .seq its.toArray } } :=
   I1.laid (t' := s.toks) (fun b o e => Heap.get?_push_of_some _ e) (Nat.le_refl _) (show zJ X.prog X.w _ _ _ (.tup ys) from ⟨hz, its, r', IsTup.new _ _⟩)
  exact ⟨.ref h'.objs.size, _, I2, rfl, q _ (I1.hok.fresh (Nat.le_refl _))⟩
 ·obtain ⟨its, r', pl, hz⟩ := I.tuple hq
  exact call_tuple_same pl ⟨.ref p, H, I, rfl, q⟩
noncomputable def tyV (K : W.Frag) (T : String) (x : V) (H : Hp) : Prop := match x with
 | .str _ => T = "str"
 | .int _ => T = "int"
 | .ref p => (T = "list" /\ ∃ xs, SqL K H p xs) \/ (T = "tuple" /\ ∃ o, K.lookup p = some o /\ o.cls = .type "tuple" /\ o.dict = none) \/
   (T = "dict" /\ ((∃ kvs, H p = some (.dK kvs)) \/ ∃ kvs, H p = some (.dT kvs))) \/ (T = "set" /\ ∃ S n, H p = some (.set S n))
 | _ => False
theorem uA {pins : zt} {σ : St} {H : Hp} {s : Shared} {T : String} {x : V} {v : Value} (I : Inv X pins σ H s) (r : RelV x v) (ty : tyV X.K T x H) :
  s.TypeIs v T /\ ∀ a, v = .ref a -> ∃ ob, s.heap.get? a = some ob /\ ob.dict = none := by
 cases x with
 | str z =>
  obtain ⟨t, rfl⟩ := r
  cases (show T = "str" from ty)
  exact ⟨typeIs_str s z t, fun _ e => nomatch e⟩
 | int i =>
  obtain ⟨t, rfl⟩ := r
  cases (show T = "int" from ty)
  exact ⟨typeIs_int s i t, fun _ e => nomatch e⟩
 | ref p =>
  cases r
  rcases ty with ⟨rfl, xs, hq⟩ | ⟨rfl, o, hk, hc, hd⟩ | ⟨rfl, hk⟩ | ⟨rfl, S, n, hk⟩
  ·obtain ⟨its, _, pl, _⟩ := I.list hq
   refine ⟨pl.isList.typeIs, fun a e => ?_⟩
   cases e
   obtain ⟨o, n, e, c, hd, _⟩ := pl
   exact ⟨o, e, hd⟩
  ·refine ⟨⟨o, I.kIn p o hk, hc⟩, fun a e => ?_⟩
   cases e
   exact ⟨o, I.kIn _ o hk, hd⟩
  ·have z : ∃ o, s.heap.get? p = some o /\ o.ExactDict := by
    rcases hk with ⟨kvs, hk⟩ | ⟨kvs, hk⟩
    ·obtain ⟨_, _, _, _, o, _, _, e, ex, _⟩ := I.hok p _ hk
     exact ⟨o, e, ex⟩
    ·obtain ⟨_, _, _, _, o, _, _, e, ex, _⟩ := I.hok p _ hk
     exact ⟨o, e, ex⟩
   obtain ⟨o, e, ex⟩ := z
   refine ⟨⟨o, e, ex.1⟩, fun a e2 => ?_⟩
   cases e2
   exact ⟨o, e, ex.2.1⟩
  ·obtain ⟨o, _, _, _, e, ex, _⟩ := I.hok p _ hk
   refine ⟨⟨o, e, ex.1⟩, fun a e2 => ?_⟩
   cases e2
   exact ⟨o, e, ex.2.1⟩
 | _ => exact False.elim ty
noncomputable def tBM (K : W.Frag) (T : String) (r : V -> List V -> Hp -> VK -> Prop) (to : TE) (t : TA) : TE := fun σ H Q => to σ H fun x H1 => tyV K T x H1 /\ t σ H1 fun xs H2 => r x xs H2 Q
variable {o e : Expr} {es : List Expr} {to : TE} {t : TA} {name : Str} {apos cpos : Pos} {T id : String} {r : V -> List V -> Hp -> VK -> Prop}
theorem t9 (pa : PlainAttrs T) (slot : Slot T name id) (hty : typeOf (.builtin id) = pure (.type "method_descriptor")) (hm : MtR X id r) (ho : PE X o to) (ha : PA X (e :: es) t)
  (hbase : attributeBase o name X.env (eval o X.env) = eval o X.env := by rfl)
  (hfew : ((backTo cpos (starEach (e :: es) X.env)).all (fun x => !x.1) && (backToKw cpos (keywordEach [] X.env)).all (fun x => x.1.isSome)
   && decide ((e :: es).length + ([] : List Keyword).length + (if ([] : List Keyword).isEmpty then 0 else 1) < 30)) = true := by rfl)
  (hline : (apos.endLine == cpos.line) = true := by rfl) (hs : starEach (e :: es) X.env = (false, eval e X.env) :: starEach es X.env := by rfl) (hplain : (backTo cpos (starEach es X.env)).any (·.1) = false := by rfl) :
  PE X (.Call (.Attribute o name apos) (e :: es) [] cpos) (tBM X.K T r to t) := by
 intro pins s σ H Q I h
 refine wpAny_Call_method_late hbase hfew hline rfl (thn (ho pins s σ H _ I h) fun v s1 ⟨x, H1, I1, r1, ty, q1⟩ => ?_)
 obtain ⟨h1, h2⟩ := uA I1 r1 ty
 refine ⟨T, id, pa, slot, hty, h1, h2, ?_⟩
 have hA := ha cpos pins s1 σ H1 _ I1 q1
 rw [hs] at hA ⊢
 refine Calls.callWith_builtin (by show (false || (backTo cpos (starEach es X.env)).any (·.1)) = false; rw [hplain] <;> rfl) (Calls.evalArgs_plain ?_)
 exact thn hA fun us s2 ⟨vs, H2, I2, r2, q2⟩ => hm pins s2 σ H2 x vs v us Q I2 r1 r2 q2
end
noncomputable def MtM (X : Cx) (id : String) (r : V -> List V -> Hp -> VK -> Prop) : Prop :=
 ∀ (pins : zt) (s : Shared) (σ : St) (H : Hp) (x : V) (xs : List V) (v : Value) (us : List Value) (Q : VK), Inv X pins σ H s -> RelV x v -> Vals xs us -> r x xs H Q ->
  wpAny (model X.prog X.w) X.A (call (.builtin id) (v :: us)) (EP X pins σ Q) X.xe s
theorem Vals.one : ∀ {x : V} {us : List Value}, Vals [x] us -> ∃ u, us = [u] /\ RelV x u
 | _, _, .cons r .nil => ⟨_, rfl, r⟩
theorem Vals.zero : ∀ {us : List Value}, Vals [] us -> us = []
 | _, .nil => rfl
theorem Vals.rep {xs : List V} {us : List Value} (h : Vals xs us) : ∀ k : Nat, Vals (List.replicate k xs).flatten (List.replicate k us).flatten
 | 0 => .nil
 | k + 1 => by
  rw [List.replicate_succ, List.replicate_succ, List.flatten_cons, List.flatten_cons]
  exact Vals.append h (Vals.rep h k)
theorem iH (its : List Value) : ∀ (k : Nat) (acc : List Value),
  List.foldl (fun x1 x2 => x1 ++ x2) acc.toArray (List.replicate k its.toArray) = (acc ++ (List.replicate k its).flatten).toArray
 | 0, acc => by simp
 | k + 1, acc => by
  have e : acc.toArray ++ its.toArray = (acc ++ its).toArray := by simp
  have e2 : (acc ++ its) ++ (List.replicate k its).flatten = acc ++ (List.replicate (k + 1) its).flatten := by
   rw [List.replicate_succ, List.flatten_cons, List.append_assoc]
  rw [<- e2, <- iH its k (acc ++ its), <- e, List.replicate_succ, List.foldl_cons]
section
variable {X : Cx} {pins : zt} {σ : St} {H : Hp} {s : Shared} {l b : Addr} {xs ys zs : List V}
theorem Inv.lset {its its' : List Value} {n : Nat} {f : Array Value -> Array Value} {t' : Nat} (I : Inv X pins σ H s) (hH : H l = some (.lst xs))
  (e : s.heap.get? l = some { cls := .type "list", data := .seq its.toArray n }) (hf : f its.toArray = its'.toArray) (hv : Vals ys its') (hz : ys.length <= sizeLine) :
  Inv X pins σ (upd H l (.lst ys)) { s with heap := s.heap.update l (Obj.mapSeq f), toks := t' } := by
 have q := PySem.IsL.update e f
 rw [hf] at q
 refine I.write (x := l) (e := l) (by rw [hH]; exact trivial) (.inl rfl) (fun b' u hb hu => (Heap.get?_update_other s.heap (Obj.mapSeq f) (Ne.symm hb)).trans hu) ⟨_, q⟩ ?_
 exact ⟨hz, its', _, hv, q⟩
theorem Inv.lnew {its : List Value} {t' : Nat} (I : Inv X pins σ H s) (hv : Vals ys its) (hz : ys.length <= sizeLine) :
  Inv X pins σ (upd H s.heap.objs.size (.lst ys)) { s with heap := s.heap.push { cls := .type "list", data := .seq its.toArray }, toks := t' } :=
 I.laid (fun _ _ q => Heap.get?_push_of_some _ q) (Nat.le_refl _) ⟨hz, its, 0, hv, Heap.get?_push_size _ rfl⟩
theorem Inv.fresh (I : Inv X pins σ H s) : H s.heap.objs.size = none := I.hok.fresh (Nat.le_refl _)
theorem Inv.lstM (I : Inv X pins σ H s) (hH : H l = some (.lst xs)) : xs.length <= sizeLine /\ ∃ (its : List Value) (n : Nat), Vals xs its /\ xs.length = its.length /\ s.heap.get? l = some { cls := .type "list", data := .seq its.toArray n } := by
 obtain ⟨z, its, n, r, e⟩ := I.hok l _ hH
 exact ⟨z, its, n, r, r.length, e⟩
theorem Bh {n : Nat} (h : n <= sizeLine) : Builtin.List.listTooLong n = false := by
 unfold Builtin.List.listTooLong
 exact decide_eq_false (by lia)
end
section
variable {X : Cx}
noncomputable def B6 : V -> List V -> Hp -> VK -> Prop := fun x vs H Q => ∃ l xs y, x = .ref l /\ vs = [y] /\ H l = some (.lst xs) /\ xs.length < sizeLine /\ Q .non (upd H l (.lst (xs ++ [y])))
theorem iI : MtM X "list.append" B6 := by
 intro pins s σ H x vs v us Q I rx rv h
 obtain ⟨l, xs, y, rfl, rfl, hH, hz, q⟩ := h
 cases rx
 obtain ⟨u, rfl, ru⟩ := rv.one
 obtain ⟨z, its, n, r, hl, e⟩ := I.lstM hH
 refine call_meets F.slot_list_append ⟨_, e, rfl⟩ F.entry_list_append (F.args_list_append_2 _ _) (PySem.list_append l its.toArray n u (by rw [List.size_toArray]; lia)) ⟨e, ?_⟩
 refine ⟨.non, _, I.lset (its' := its ++ [u]) hH e (by simp) (r.append (.cons ru .nil)) ?_, rfl, q⟩
 rw [List.length_append, List.length_singleton]
 lia
theorem rC {α : Type} (xs : List α) (k : Nat) : (List.replicate k xs).flatten.length = k * xs.length := by
 induction k with
 | zero => simp
 | succ k ih => rw [List.replicate_succ, List.flatten_cons, List.length_append, ih, Nat.succ_mul, Nat.add_comm]
end
section
variable {prog : Program} {w : World} {A : Around} {E : zu} {s : Shared}
end
section
variable {X : Cx}
end
section
variable {κ : Type} [DecidableEq κ]
noncomputable def valV (kvs : List (κ × V)) (k : κ) : Option V := (kvs.find? fun kv => decide (kv.1 = k)).map (·.2)
noncomputable def putK (kvs : List (κ × V)) (k : κ) (v : V) : List (κ × V) :=
 if (kvs.any fun kv => decide (kv.1 = k)) = true then kvs.map (fun kv => if kv.1 = k then (kv.1, v) else kv) else kvs ++ [(k, v)]
theorem eQ {p : κ × V} {r : List (κ × V)} {k : κ} (e : p.1 = k) : valV (p :: r) k = some p.2 := by simp [valV, List.find?_cons, e]
theorem eS {p : κ × V} {r : List (κ × V)} {k : κ} (e : ¬ p.1 = k) : valV (p :: r) k = valV r k := by simp [valV, List.find?_cons, e]
theorem jY (k : κ) : ∀ kvs : List (κ × V), (kvs.any fun kv => decide (kv.1 = k)) = (valV kvs k).isSome
 | [] => rfl
 | p :: r => by
  rw [List.any_cons]
  by_cases e : p.1 = k
  ·simp only [eQ e, decide_eq_true e, Bool.true_or, Option.isSome_some]
  ·rw [eS e, decide_eq_false e, Bool.false_or]; exact jY k r
theorem fL (kvs : List (κ × V)) (k : κ) (v : V) : (putK kvs k v).length <= kvs.length + 1 := by
 unfold putK
 split
 ·rw [List.length_map]; lia
 ·rw [List.length_append, List.length_cons, List.length_nil]; lia
theorem RelO.isSome_eq {o : Option V} {u : Option Value} (r : RelO o u) : o.isSome = u.isSome := by
 cases o with
 | none => cases u with
  | none => rfl
  | some _ => exact (show False from r).elim
 | some _ => cases u with
  | none => exact (show False from r).elim
  | some _ => rfl
theorem KV.val {kvs : List (κ × V)} {vs : List (κ × Value)} (r : KV kvs vs) (k : κ) : RelO (valV kvs k) (valueAt vs k) := by
 unfold KV at r
 induction r with
 | nil => exact True.intro
 | @cons p q ps qs h t ih =>
  obtain ⟨h1, h2⟩ := h
  by_cases e : p.1 = k
  ·have e' : q.1 = k := h1.symm.trans e
   have b : valueAt (q :: qs) k = some q.2 := by simp [valueAt, List.find?_cons, e']
   rw [eQ e, b]; exact h2
  ·have e' : ¬ q.1 = k := fun z => e (h1.trans z)
   have b : valueAt (q :: qs) k = valueAt qs k := by simp [valueAt, List.find?_cons, e']
   rw [eS e, b]; exact ih
theorem KV.any {kvs : List (κ × V)} {vs : List (κ × Value)} (r : KV kvs vs) (k : κ) : (kvs.any fun kv => decide (kv.1 = k)) = vs.any fun kv => decide (kv.1 = k) := by
 unfold KV at r
 induction r with
 | nil => rfl
 | cons h t ih => rw [List.any_cons, List.any_cons, ih, h.1]
theorem KV.repl {kvs : List (κ × V)} {vs : List (κ × Value)} (r : KV kvs vs) (k : κ) {y : V} {u : Value} (ry : RelV y u) :
  KV (kvs.map fun kv => if kv.1 = k then (kv.1, y) else kv) (vs.map fun kv => if kv.1 = k then (kv.1, u) else kv) := by
 unfold KV at r ⊢
 induction r with
 | nil => exact .nil
 | @cons p q ps qs h t ih =>
  rw [List.map_cons, List.map_cons]
  refine .cons ?_ ih
  obtain ⟨h1, h2⟩ := h
  by_cases e : p.1 = k
  ·rw [if_pos e, if_pos (h1.symm.trans e)]; exact ⟨h1, ry⟩
  ·rw [if_neg e, if_neg (fun z => e (h1.trans z))]; exact ⟨h1, h2⟩
theorem KV.put {kvs : List (κ × V)} {vs : List (κ × Value)} (r : KV kvs vs) (k : κ) {y : V} {u : Value} (ry : RelV y u) : KV (putK kvs k y) (stored vs k u) := by
 unfold putK stored
 rw [r.any k]
 by_cases e : (vs.any fun kv => decide (kv.1 = k)) = true
 ·rw [if_pos e, if_pos e]; exact r.repl k ry
 ·rw [if_neg e, if_neg e]; exact Paired.snoc r ⟨rfl, ry⟩
theorem KV.length {kvs : List (κ × V)} {vs : List (κ × Value)} (r : KV kvs vs) : kvs.length = vs.length := Paired.length r
end
theorem jZ {P : Program} {w : World} {k : Key} {u : Value} (r : RelV (kV k) u) : (zO P w).is k u = true := by
 cases k with
 | inl i => obtain ⟨t, e⟩ := (show ∃ t, u = Value.int i t from r); subst e; exact jR P w i t
 | inr x => obtain ⟨t, e⟩ := (show ∃ t, u = Value.str x t from r); subst e; exact jS P w x t
theorem iJ {P : Program} {w : World} : ∀ {ks : List Key} {us : List Value}, Vals (ks.map kV) us -> ItemsAre (zO P w) ks us
 | [], _, r => by rw [List.map_nil] at r; cases r; exact .nil
 | k :: ks, _, r => by
  rw [List.map_cons] at r
  cases r with
  | cons h t => exact .cons (jZ h) (iJ t)
abbrev KT (H : Hp) : List (List Key × V) -> List (List Key × Addr × Value) -> Prop := Paired fun p q => p.1 = q.1 /\ H q.2.1 = some (.tup (p.1.map kV)) /\ RelV p.2 q.2.2
theorem KT.val {H : Hp} {kvs : List (List Key × V)} {xs : List (List Key × Addr × Value)} (r : KT H kvs xs) (k : List Key) : RelO (valV kvs k) ((atKey xs k).map (·.2)) := by
 induction r with
 | nil => exact True.intro
 | @cons p q ps qs h t ih =>
  obtain ⟨h1, _, h2⟩ := h
  by_cases e : p.1 = k
  ·have e' : q.1 = k := h1.symm.trans e
   have b : atKey (q :: qs) k = some q.2 := by simp [atKey, List.find?_cons, e']
   rw [eQ e, b]; exact h2
  ·have e' : ¬ q.1 = k := fun z => e (h1.trans z)
   have b : atKey (q :: qs) k = atKey qs k := by simp [atKey, List.find?_cons, e']
   rw [eS e, b]; exact ih
theorem KT.repl {H : Hp} {kvs : List (List Key × V)} {xs : List (List Key × Addr × Value)} (r : KT H kvs xs) (k : List Key) {y : V} {u : Value} (ry : RelV y u) :
  KT H (kvs.map fun kv => if kv.1 = k then (kv.1, y) else kv) (xs.map (putAt k u)) := by
 induction r with
 | nil => exact .nil
 | @cons p q ps qs h t ih =>
  rw [List.map_cons, List.map_cons]
  refine .cons ?_ ih
  obtain ⟨h1, h2, h3⟩ := h
  unfold putAt
  by_cases e : p.1 = k
  ·rw [if_pos e, if_pos (h1.symm.trans e)]; exact ⟨h1, h2, ry⟩
  ·rw [if_neg e, if_neg (fun z => e (h1.trans z))]; exact ⟨h1, h2, h3⟩
theorem KT.put {H : Hp} {kvs : List (List Key × V)} {xs : List (List Key × Addr × Value)} (r : KT H kvs xs) (k : List Key) {b : Addr} {y : V} {u : Value} (hb : H b = some (.tup (k.map kV))) (ry : RelV y u) :
  KT H (putK kvs k y) (storedH xs k b u) := by
 have e : (kvs.any fun kv => decide (kv.1 = k)) = (atKey xs k).isSome := by
  rw [jY, (r.val k).isSome_eq, Option.isSome_map]
 unfold putK storedH
 rw [e]
 by_cases q : (atKey xs k).isSome = true
 ·rw [if_pos q, if_pos q]; exact r.repl k ry
 ·rw [if_neg q, if_neg q]; exact Paired.snoc r ⟨rfl, hb, ry⟩
theorem KT.keeps {H H' : Hp} {kvs : List (List Key × V)} {xs : List (List Key × Addr × Value)} (r : KT H kvs xs) (ht : ∀ b ys, H b = some (.tup ys) -> H' b = some (.tup ys)) : KT H' kvs xs :=
 Paired.mapP r fun _ _ z => ⟨z.1, ht _ _ z.2.1, z.2.2⟩
section
variable {P : Program} {w : World} {H : Hp} {h : Heap} {a : Addr}
theorem tj {u : HO} (ok : HOk P w H h) (e : Rd H a u) : zJ P w H h a u := e.ok ok
theorem iK {kvs : List (Key × V)} (ok : HOk P w H h) (e : Rd H a (.dK kvs)) : kvs.length <= sizeLine /\ (a == sysModules) = false /\ ∃ vs, KV kvs vs /\ h.DictOf (zO P w) a vs :=
 show zJ P w H h a (.dK kvs) from tj ok e
theorem wu {kvs : List (Key × V)} (ok : HOk P w H h) (e : H a = some (.dK kvs)) : kvs.length <= sizeLine /\ (a == sysModules) = false /\ ∃ vs, KV kvs vs /\ h.DictOf (zO P w) a vs := iK ok (.inl e)
theorem gF {ks : List Key} (ok : HOk P w H h) (e : H a = some (.tup (ks.map kV))) : (tupleKind (zO P w)).is h ks a := by
 obtain ⟨_, its, r, o, h1, h2, n, h3⟩ := (show zJ P w H h a (.tup (ks.map kV)) from ok a _ e)
 exact ⟨o, its.toArray, n, h1, h2, h3, by simpa using iJ r⟩
theorem ka {kvs : List (List Key × V)} (ok : HOk P w H h) (e : Rd H a (.dT kvs)) : kvs.length <= sizeLine /\ (a == sysModules) = false /\
  ∃ xs, KT H kvs xs /\ h.DictOfH (tupleKind (zO P w)) a xs := by
 obtain ⟨z, y, xs, r, o, es, ep, h1, h2, h3, h4, h5⟩ := (show zJ P w H h a (.dT kvs) from tj ok e)
 refine ⟨z, y, xs, r, o, es, ep, h1, h2, h3, h4, fun x hx => ?_, h5⟩
 have all : ∀ {l : List (List Key × V)} {m : List (List Key × Addr × Value)}, KT H l m -> ∀ x ∈ m, (tupleKind (zO P w)).is h x.1 x.2.1 := by
  intro l m q
  induction q with
  | nil => intro x hx; exact nomatch hx
  | @cons p q ps qs hq t ih =>
   intro x hx
   rcases List.mem_cons.mp hx with e | hx
   ·subst e
    exact gF ok (by rw [<- hq.1]; exact hq.2.1)
   ·exact ih x hx
 exact all r x hx
theorem wx {kvs : List (List Key × V)} (ok : HOk P w H h) (e : H a = some (.dT kvs)) : kvs.length <= sizeLine /\ (a == sysModules) = false /\
  ∃ xs, KT H kvs xs /\ h.DictOfH (tupleKind (zO P w)) a xs := ka ok (.inl e)
end
noncomputable def DGet (H : Hp) (a : Addr) (y : V) (r : Option V) : Prop :=
 (∃ kvs k, Rd H a (.dK kvs) /\ y = kV k /\ r = valV kvs k) \/ ∃ kvs k b, Rd H a (.dT kvs) /\ y = .ref b /\ H b = some (.tup (k.map kV)) /\ r = valV kvs k
noncomputable def DPut (H : Hp) (a : Addr) (y v : V) (H' : Hp) : Prop :=
 (∃ kvs k, H a = some (.dK kvs) /\ y = kV k /\ kvs.length < sizeLine /\ H' = upd H a (.dK (putK kvs k v))) \/
 ∃ kvs k b, H a = some (.dT kvs) /\ y = .ref b /\ H b = some (.tup (k.map kV)) /\ kvs.length < sizeLine /\ H' = upd H a (.dT (putK kvs k v))
theorem DGet.k {H : Hp} {a : Addr} {kvs : List (Key × V)} {k : Key} (e : H a = some (.dK kvs)) : DGet H a (kV k) (valV kvs k) := .inl ⟨kvs, k, .inl e, rfl, rfl⟩
theorem DPut.k {H : Hp} {a : Addr} {kvs : List (Key × V)} {k : Key} {v : V} (e : H a = some (.dK kvs)) (hl : kvs.length < sizeLine) : DPut H a (kV k) v (upd H a (.dK (putK kvs k v))) := .inl ⟨kvs, k, e, rfl, hl, rfl⟩
section
variable {X : Cx} {pins : zt} {σ : St} {H : Hp} {s : Shared} {a : Addr} {y v : V} {u r : Value} {o : Option V} {A : Around} {E : zu}
theorem Inv.big (I : Inv X pins σ H s) : sysModules < s.heap.objs.size := by
 have h : mainGlobals < s.heap.objs.size := (I.mod.glob.keeps I.bk).lt
 exact Nat.lt_trans (by decide) h
theorem nH {Q : zu} (hu : A.units + 1 < cLine) (I : Inv X pins σ H s) (g : DGet H a y (some v)) (ry : RelV y u) (h : ∀ w' s', Inv X pins σ H s' -> RelV v w' -> Q w' s') :
  wpAny (model X.prog X.w) A (getItem (.ref a) u) Q E s := by
 rcases g with ⟨kvs, k, e, ey, l⟩ | ⟨kvs, k, b, e, ey, eb, l⟩
 ·subst ey
  obtain ⟨z, hd, vs, rel, dd⟩ := iK I.hok e
  obtain ⟨w', hw, rw'⟩ := RelO.some_of (v := v) (o := valueAt vs k) (by rw [l]; exact rel.val k)
  exact wpAny_getItem_of (jZ ry) dd.mapOf hw (h w' _ (I.tok _) rw')
 ·subst ey
  cases (show u = Value.ref b from ry)
  obtain ⟨z, hd, xs, rel, dd⟩ := ka I.hok e
  obtain ⟨w', hw, rw'⟩ := RelO.some_of (v := v) (o := (atKey xs k).map (·.2)) (by rw [l]; exact rel.val k)
  obtain ⟨p, hp, hp2⟩ := Option.map_eq_some_iff.mp hw
  refine wpAny_getItem_heap (tupleKind_room_in1 hu) (gF I.hok eb) dd hp ?_
  rw [hp2]
  exact h w' _ (I.tok _) rw'
theorem yO {Q : zu} (hu : A.units + 1 < cLine) (I : Inv X pins σ H s) (g : DGet H a y o) (ry : RelV y u) (h : ∀ s', Inv X pins σ H s' -> Q (.bool o.isSome) s') :
  wpAny (model X.prog X.w) A (compareOp .In u (.ref a)) Q E s := by
 rcases g with ⟨kvs, k, e, ey, l⟩ | ⟨kvs, k, b, e, ey, eb, l⟩
 ·subst ey
  obtain ⟨z, hd, vs, rel, dd⟩ := iK I.hok e
  refine wpAny_in_of (jZ ry) hd dd.mapOf ?_
  rw [<- (rel.val k).isSome_eq, <- l]
  exact h _ (I.tok _)
 ·subst ey
  cases (show u = Value.ref b from ry)
  obtain ⟨z, hd, xs, rel, dd⟩ := ka I.hok e
  refine wpAny_in_heap (tupleKind_room_in1 hu) (gF I.hok eb) hd dd ?_
  have q := (rel.val k).isSome_eq
  rw [Option.isSome_map] at q
  rw [<- q, <- l]
  exact h _ (I.tok _)
theorem rD {Q : zu} (hu : A.units + 1 < cLine) (I : Inv X pins σ H s) (g : DGet H a y o) (ry : RelV y u) (h : ∀ s', Inv X pins σ H s' -> Q (.bool (!o.isSome)) s') :
  wpAny (model X.prog X.w) A (compareOp .NotIn u (.ref a)) Q E s := by
 rcases g with ⟨kvs, k, e, ey, l⟩ | ⟨kvs, k, b, e, ey, eb, l⟩
 ·subst ey
  obtain ⟨z, hd, vs, rel, dd⟩ := iK I.hok e
  refine wpAny_notIn_of (jZ ry) hd dd.mapOf ?_
  rw [<- (rel.val k).isSome_eq, <- l]
  exact h _ (I.tok _)
 ·subst ey
  cases (show u = Value.ref b from ry)
  obtain ⟨z, hd, xs, rel, dd⟩ := ka I.hok e
  refine wpAny_notIn_heap (tupleKind_room_in1 hu) (gF I.hok eb) hd dd ?_
  have q := (rel.val k).isSome_eq
  rw [Option.isSome_map] at q
  rw [<- q, <- l]
  exact h _ (I.tok _)
theorem jg {h' : Heap} {t' : Nat} {ob : HO} (I : Inv X pins σ H s) (mu : Mut (H a)) (hs : Heap.SameBut a s.heap h') (he : ∃ q, h'.get? a = some q) (new : zJ X.prog X.w (upd H a ob) h' a ob) :
  Inv X pins σ (upd H a ob) { s with heap := h', toks := t' } :=
 I.write (x := a) (e := a) mu (.inl rfl) (fun b q hb z => (hs.2 b hb).trans z) he new
theorem uB {P : Program} {w : World} {H' : Hp} {h' : Heap} {kvs : List (Key × V)} {vs : List (Key × Value)} (z : kvs.length <= sizeLine) (hd : (a == sysModules) = false) (rel : KV kvs vs) (dd : h'.DictOf (zO P w) a vs) :
  zJ P w H' h' a (.dK kvs) := ⟨z, hd, vs, rel, dd⟩
theorem nI {H' : Hp} {Q : Unit -> Shared -> Prop} (hu : A.units + 1 < cLine) (I : Inv X pins σ H s) (g : DPut H a y v H') (ry : RelV y u) (rv : RelV v r) (h : ∀ s', Inv X pins σ H' s' -> Q () s') :
  wpAny (model X.prog X.w) A (setItem (.ref a) u r) Q E s := by
 rcases g with ⟨kvs, k, e, ey, l, eH⟩ | ⟨kvs, k, b, e, ey, eb, l, eH⟩
 ·subst ey eH
  obtain ⟨z, hd, vs, rel, dd⟩ := wu I.hok e
  have hz : vs.length <= sizeLine := by rw [<- rel.length]; exact z
  have hl : (putK kvs k v).length <= sizeLine := by have := fL kvs k v; lia
  refine wpAny_setItem_pairs (hsz := hz) (jZ ry) dd fun h' dd' hs => h _ ?_
  have he : ∃ q, h'.get? a = some q := let ⟨q, _, _, hq, _⟩ := dd'; ⟨q, hq⟩
  exact jg I (by rw [e]; exact True.intro) hs he (uB hl hd (rel.put k rv) dd')
 ·subst ey eH
  cases (show u = Value.ref b from ry)
  obtain ⟨z, hd, xs, rel, dd⟩ := wx I.hok e
  have hz : xs.length <= sizeLine := by rw [<- Paired.length rel]; exact z
  have hl : (putK kvs k v).length <= sizeLine := by have := fL kvs k v; lia
  refine wpAny_setItem_heap (hsz := hz) (tupleKind_room_in1 hu) (gF I.hok eb) dd fun h' dd' hs => h _ ?_
  obtain ⟨q, es, ep, hq, h2, h3, h4, _, h5⟩ := dd'
  refine jg I (by rw [e]; exact True.intro) hs ⟨q, hq⟩ ⟨hl, hd, _, (rel.put k eb rv).keeps fun c ys ec => ?_, q, es, ep, hq, h2, h3, h4, h5⟩
  rw [ah (wd ec e (fun z => nomatch z))]
  exact ec
end
section
variable {X : Cx} {pins : zt} {σ : St} {H : Hp} {s : Shared} {a : Addr} {kvs : List (Key × V)} {k : Key} {u : Value} {A : Around} {E : zu}
theorem wy {Q : zu} (I : Inv X pins σ H s) (e : Rd H a (.dK kvs)) (h : ∀ t s', Inv X pins σ H s' -> Q (.int kvs.length t) s') : wpAny (model X.prog X.w) A (call (.builtin "len") [.ref a]) Q E s := by
 obtain ⟨z, hd, vs, rel, dd⟩ := iK I.hok e
 refine call_len_dict hd dd (by rw [<- rel.length]; rw [sizeLine_eq] at z; lia) ?_
 rw [<- rel.length]
 exact h _ _ (I.tok _)
end
noncomputable def NoSl (i : Expr) : Prop := ∀ ov iv, subscripted i false ov iv = operate [ov, iv] (getItem ov iv)
theorem rE {prog : Program} {w : World} {A : Around} {E : zu} {s : Shared} {env : Env} {value slice : Expr} {pos : Pos} {T id : String} {Q : zu}
  (hl : typeLookup (.type T) "__getitem__" = pure (some (.builtin id))) (hs : NoSl slice)
  (h : wpAny (model prog w) A (eval value env) (fun o s₁ => wpAny (model prog w) A (eval slice env) (fun i s₂ => s₂.TypeIs o T /\ wpAny (model prog w) A (getItem o i) Q E s₂) E s₁) E s) :
  wpAny (model prog w) A (eval (.Subscript value slice pos) env) Q E s := by
 refine Subscript_ (wpAny_mono h (fun o s₁ h₁ => wpAny_mono h₁ (fun i s₂ h₂ => ?_) fun _ _ x => x) fun _ _ x => x)
 obtain ⟨hT, h₂⟩ := h₂
 unfold subscriptTail
 refine wpAny_bind ?_
 rw [getitemInPython_of_ne hT.not_modules]
 refine wpAny_bind (wpAny_specialOf hT hl ?_)
 have fin : wpAny (model prog w) A (subscripted slice false o i) (fun r s₃ => wpAny (model prog w) A (letTemporaryGo value o r >>= fun _ => pure r) Q E s₃) E s₂ := by
  rw [hs o i]
  exact wpAny_operating (wpAny_mono h₂ (fun r s₃ h₃ => wpAny_bind (wpAny_letTemporaryGo (wpAny_pure h₃))) fun _ _ x => x)
 first
  | exact wpAny_pure (wpAny_bind fin)
  | exact wpAny_bind (wpAny_pure (wpAny_bind fin))
  | exact wpAny_bind fin
theorem kb {X : Cx} {pins : zt} {σ : St} {H : Hp} {s : Shared} {a : Addr} {y : V} {o : Option V} (I : Inv X pins σ H s) (g : DGet H a y o) : s.TypeIs (.ref a) "dict" := by
 rcases g with ⟨kvs, k, e, _, _⟩ | ⟨kvs, k, b, e, _, _, _⟩
 ·obtain ⟨_, _, vs, _, dd⟩ := iK I.hok e
  exact dd.typeIs
 ·obtain ⟨_, _, xs, _, dd⟩ := ka I.hok e
  exact dd.typeIs
noncomputable def BO (td ty tv : TE) : TS := fun D σ H => tv σ H fun v H1 => td σ H1 fun x H2 => ty σ H2 fun y H3 => ∃ a H4, x = .ref a /\ DPut H3 a y v H4 /\ D.nx σ H4
section
variable {X : Cx} {o i e value : Expr} {pos pos' tpos : Pos} {td ty tv : TE}
theorem rF (hu : X.A.units + 1 < cLine) (ho : PE X o td) (hi : PE X i ty) (hv : PE X value tv) (hs : swapsWith value (some (.Subscript o i pos')) pos.line X.env = pure false) :
  PS X (.Assign [.Subscript o i pos'] value pos) (BO td ty tv) := by
 intro pins s σ H D I h
 refine wpAny_Assign_Subscript (thn (hv pins s σ H _ I h) fun r s1 ⟨v, H1, I1, rv, q1⟩ => thn (ho pins s1 σ H1 _ I1 q1) fun u s2 ⟨x, H2, I2, rx, q2⟩ => thn (hi pins s2 σ H2 _ I2 q2) fun iv s3 ⟨y, H3, I3, ry, a, H4, ex, g, q3⟩ => ?_) hs
 subst ex
 obtain rfl : u = Value.ref a := rx
 exact nI hu I3 g ry rv fun s4 I4 => ⟨σ, H4, I4, q3⟩
end
theorem pJ {P : Program} {w : World} {H : Hp} (h : Heap) (hb : sysModules < h.objs.size) : zJ P w H (h.push { cls := .type "dict", data := .dict #[] }) h.objs.size (.dK []) :=
 ⟨Nat.zero_le _, beq_eq_false_iff_ne.mpr (Ne.symm (Nat.ne_of_lt hb)), [], .nil, Heap.DictOf.new h⟩
noncomputable def BE : TE := fun _ H Q => ∀ p, H p = none -> Q (.ref p) (upd H p (.dK []))
section
variable {X : Cx} {pos : Pos}
theorem pK : PE X (.Dict [] [] pos) BE := fun pins s σ H Q I h =>
 wpAny_Dict_empty ⟨.ref s.heap.objs.size, _, I.laid (a := s.heap.objs.size) (o := .dK []) (t' := s.toks) (fun _ _ q => Heap.get?_push_of_some _ q) (Nat.le_refl _) (pJ s.heap I.big), rfl, h _ (I.hok.fresh (Nat.le_refl _))⟩
end
structure M1 (X : Cx) (o : Expr) (m : Str) (apos : Pos) (e : Expr) (cpos : Pos) : Prop where
 base : attributeBase o m X.env (eval o X.env) = eval o X.env
 few : ((backTo cpos (starEach [e] X.env)).all (fun x => !x.1) && (backToKw cpos (keywordEach [] X.env)).all (fun x => x.1.isSome)
  && decide (([e] : List Expr).length + ([] : List Keyword).length + (if ([] : List Keyword).isEmpty then 0 else 1) < 30)) = true
 line : (apos.endLine == cpos.line) = true
 trees : backTo cpos (starEach [e] X.env) = [(false, eval e X.env)]
structure M2 (X : Cx) (o : Expr) (m : Str) (apos : Pos) (e f : Expr) (cpos : Pos) : Prop where
 base : attributeBase o m X.env (eval o X.env) = eval o X.env
 few : ((backTo cpos (starEach [e, f] X.env)).all (fun x => !x.1) && (backToKw cpos (keywordEach [] X.env)).all (fun x => x.1.isSome)
  && decide (([e, f] : List Expr).length + ([] : List Keyword).length + (if ([] : List Keyword).isEmpty then 0 else 1) < 30)) = true
 line : (apos.endLine == cpos.line) = true
 trees : backTo cpos (starEach [e, f] X.env) = [(false, eval e X.env), (false, eval f X.env)]
section
variable {X : Cx} {pins : zt} {σ : St} {H : Hp} {s : Shared} {a : Addr} {y d : V} {u r : Value} {o : Option V} {A : Around} {E : zu}
end
section
variable {X : Cx} {o e f : Expr} {apos cpos : Pos} {td ty tx : TE}
end
section
variable {X : Cx} {pins : zt} {σ : St} {H : Hp} {s : Shared} {a : Addr} {kvs : List (Key × V)} {A : Around} {E : zu}
end
section
variable {X : Cx} {pins : zt} {σ : St} {H : Hp} {s : Shared} {a : Addr} {y : V} {u : Value} {A : Around} {E : zu}
end
end L2
namespace Att
open PySem PySem.W PySem.Calls PyProof.Rows
theorem g7 {P : Params} {h : Heap} : ∀ (ns : List Int) (vs : List Value), WellAll P h vs (ns.map WData.int) -> IntsAre vs ns := by
 intro ns
 induction ns with
 | nil =>
  intro vs w
  rw [List.map_nil] at w
  cases w
  exact .nil
 | cons n ns ih =>
  intro vs w
  rw [List.map_cons] at w
  cases w with
  | cons a b =>
   cases a
   exact .cons _ _ (ih _ b)
theorem nJ {l : OpenLaw} {n : Nat} (hn : l.most = some n) {P : Params} {h : Heap} {args : List WData} {vals : List Value}
  (hpre : l.row.toRowW.claim.pre args = true) (hwl : WellAll P h vals args) :
  ∃ a vs ns, vals = [Value.ref a] /\ args = [WData.list (ns.map WData.int)] /\ h.get? a = some { cls := .type "list", data := .seq vs.toArray } /\ IntsAre vs ns /\ ns.length <= n := by
 have hsh : WShape.hasAll [] args [.list .int] = true := (pre_splitW hpre).1
 have hc : l.pre.holds [] { args := args } = true := (pre_splitW hpre).2
 obtain ⟨d, r, rfl, h1, h2⟩ := hasAllW_cons hsh
 obtain rfl := hasAllW_nil h2
 obtain ⟨xs, rfl, h3⟩ := hasW_list h1
 obtain ⟨ns, rfl⟩ := items_int h3
 have hlen : ns.length <= n := by
  unfold OpenLaw.pre at hc
  have h4 : (WTm.not (.lt (.lit (.int (n : Int))) (.len (.arg 0)))).holds [] { args := [.list (ns.map .int)] } = true := by
   have h4 := (holds_andW hc).1
   rw [hn] at h4
   exact h4
  have h5 := condW_of h4 (w_not (w_lt w_lit (w_len_list (w_arg rfl))))
  rw [List.length_map] at h5
  refine Nat.le_of_not_lt fun q => ?_
  have q' : (n : Int) < ((ns.length : Nat) : Int) := by lia
  first
   | (rw [decide_eq_true q'] at h5; exact absurd h5 (by decide))
   | (simp at h5; lia)
 cases hwl with
 | cons w1 w2 =>
  cases w2
  cases w1 with
  | list ho hall => exact ⟨_, _, ns, rfl, rfl, ho, g7 ns _ hall, hlen⟩
theorem nK (l : OpenLaw) (args : List WData) : l.row.toRowW.claim.post args (.bool true) args = true :=
 postW_of (r := l.row.toRowW) (X := (true == true))
  (show WShape.has [] (.bool true) .bool = true by first | rfl | decide | simp [WShape.has, WShape.arms, WShape.armsAll])
  (show (WTm.eq .res (.lit (.bool true))).value [] { args := args, res := some (.bool true), after := args } = some (.bool (true == true)) from w_eq_bool (w_res rfl) w_lit) rfl
theorem kc {l : OpenLaw} {n : Nat} {q : Program} {loose : List Str} {XP : (Str -> Option Value) -> Heap -> Prop} {YP : World -> Heap -> Prop} {d : DefRec}
  (hn : l.most = some n) (hdf : d.params.defaults = [])
  (call : ∀ (w : World) (s₀ s₁ : Shared) (mg mb : zr) (fa : Addr) (o : Obj) (pm cd doc : Value) (a : Addr) (vs : List Value) (ns : List Int),
   Ground q loose [] XP w s₀ mg mb s₁.heap -> YP w s₁.heap ->
   s₁.heap.get? fa = some o -> o.data = .func (docDef d.name d.params d.body d.scope pm cd doc) -> s₁.heap.CodeRec cd d.name -> mg d.name = some (.ref fa) ->
   s₁.heap.get? a = some { cls := .type "list", data := .seq vs.toArray } -> IntsAre vs ns -> ns.length <= n -> s₁.gens = #[] ->
   codeAny (model l.prog w) callerA (.call (.ref fa) ⟨[.ref a], []⟩) (fun r s' => r = .ok (.ret (.bool true)) /\ OldK s₁.heap s'.heap /\ s'.os = s₁.os /\ AllBare s'.gens) s₁) :
  WalkO q loose XP YP l.row.toRowW d [] (fun f vs => PySem.call f vs) := by
 intro w s₀ s₁ mg mb G Y fa o pm cd doc dV kV ho hd hcd hD hmg hg args vals as hpre hlay hrd hwl hlo
 obtain rfl : dV = .none := Dflts.none hD hdf
 obtain rfl : kV = .none := Dflts.noKw hD
 obtain ⟨a, vs, ns, rfl, rfl, hobj, hints, hlen⟩ := nJ hn hpre hwl
 refine enter_call (codeAny_mono (call w s₀ s₁ mg mb fa o pm cd doc a vs ns G Y ho (fd_plain hd) hcd hmg hobj hints hlen hg) fun r s' hq => ?_)
 obtain ⟨rfl, h2, h3, h4⟩ := hq
 exact ⟨.inl ⟨.bool true, .bool true, [], rfl, fun _ => rfl, .bool true, nK l _, fun _ => ⟨List.Pairwise.nil, fun _ hm => (nomatch hm)⟩⟩, h2, h3, h4⟩
section
variable {prog : Program} {w : World} {A : Around} {E : zu} {s : Shared} {K : Frag}
end
end Att
namespace L2
open PySem PySem.Spec PyProof.Rows
theorem fw : ∀ {vs : List Value} {ns : List Int}, IntsAre vs ns -> Vals (ns.map V.int) vs
 | _, _, .nil => .nil
 | _, _, .cons n t h => .cons ⟨t, rfl⟩ (fw h)
noncomputable def Only (H : Hp) : Prop := ∀ b, H b = none \/ ∃ o xs, H b = some (.frz o (.lst xs))
theorem pL {P : Program} {w : World} {K : W.Frag} {mg mb : zr} {CX : CXT} {k : Nat} {fa a : Addr} {fd : FuncData} {x : Str} {sp : Sp} {s₁ : Shared} {vs : List Value} {ns : List Int}
  (KX : K.In s₁.heap) (hns : s₁.heap.Ns mainGlobals mg) (hb : s₁.heap.Ns builtinsNs mb) (hbb : ∀ x : Str, x ≠ "__name__" -> mb x = bootBuiltins x) (hlim : s₁.heap.NoLimit) (hg : s₁.gens = #[])
  (ha : s₁.heap.get? a = some { cls := .type "list", data := .seq vs.toArray }) (hi : IntsAre vs ns) (hl : ns.length <= sizeLine) (hr : Room k callerA)
  (F : ∀ base : Heap, K.In base -> base.Ns mainGlobals mg -> FnOk P w K mg base CX k fa fd [x] sp) (hbind : ∀ (s : Shared) (u : Value), BindsTo s fd ⟨[u], []⟩ [(x, u)])
  (hsp : ∀ H : Hp, Only H -> SqR K H a (ns.map V.int) -> sp [.ref a] H (fun v _ => v = .bl true) fun _ _ _ => False)
  (hCX : ∀ H e s', CX [] H s₁ (fun _ _ _ => False) e s' -> False) :
  codeAny (model P w) callerA (.call (.ref fa) ⟨[.ref a], []⟩) (fun r s' => r = .ok (.ret (.bool true)) /\ OldK s₁.heap s'.heap /\ s'.os = s₁.os /\ AllBare s'.gens) s₁ := by
 have rv := fw hi
 have lenV := hi.length
 have core : ∀ H : Hp, Only H -> SqR K H a (ns.map V.int) -> HOk P w H s₁.heap -> (∀ b, H b ≠ none -> b = a) -> (H a ≠ none -> K.lookup a = none) ->
   codeAny (model P w) callerA (.call (.ref fa) ⟨[.ref a], []⟩) (fun r s' => r = .ok (.ret (.bool true)) /\ OldK s₁.heap s'.heap /\ s'.os = s₁.os /\ AllBare s'.gens) s₁ := by
  intro H hO hS hok hA hK
  have base_of : ∀ {b : Addr} {o : Obj}, s₁.heap.get? b = some o -> H b = none -> (hidT s₁.heap H).get? b = some o := fun e n => oZ e n
  have noA : ∀ {b : Addr} {o : Obj} {es : Array DictEntry} {ep : Nat}, s₁.heap.get? b = some o -> o.data = .dict es ep -> H b = none := fun {b o es ep} e d => by
   cases q : H b with
   | none => rfl
   | some u =>
    have e' : b = a := hA b (by rw [q]; simp)
    subst e'
    rw [ha] at e; cases e
    have d' : Data.seq vs.toArray _ = Data.dict es ep := d
    cases d'
  have nsK : ∀ {b : Addr} {m : zr}, s₁.heap.Ns b m -> (hidT s₁.heap H).Ns b m := fun {b m} ⟨o, es, ep, e, d, r⟩ => ⟨o, es, ep, base_of e (noA e d), d, r⟩
  have hKb : K.In (hidT s₁.heap H) := fun b o e => base_of (KX b o e) (by
   cases q : H b with
   | none => rfl
   | some u =>
    have e' : b = a := hA b (by rw [q]; simp)
    subst e'
    rw [hK (by rw [q]; simp)] at e; cases e)
  have hM : Mod K mg (hidT s₁.heap H) := ⟨hKb, nsK hns, ⟨mb, nsK hb, hbb⟩, let ⟨mc, h1, h2⟩ := hlim; ⟨mc, nsK h1, h2⟩⟩
  have e0 : Env0 P w K mg (hidT s₁.heap H) callerA [] s₁ H := ⟨rfl, hM, fun b o e => rf e, Nat.le_of_eq (nE _ _), trivial, fun b hb => absurd (show b ∈ ([] : List Addr) from hb) (by simp), hok, .of_eq hg⟩
  refine codeAny_mono ((F _ hKb (nsK hns)).run callerA [] s₁ H ⟨[.ref a], []⟩ [.ref a] [.ref a] _ _ hr e0 (hbind s₁ (.ref a)) (.cons rfl .nil) (hsp H hO hS)) fun r s' h => ?_
  cases r with
  | error e => exact (hCX H e s' h).elim
  | ok fl =>
   cases fl with
   | next => exact False.elim h
   | brk => exact False.elim h
   | cont => exact False.elim h
   | ret u =>
    obtain ⟨v, H', os, bare, un, hok', r', q⟩ := h
    have q' : v = .bl true := q
    subst q'
    obtain rfl : u = Value.bool true := r'
    refine ⟨rfl, OldK.of_keep fun b o e => ?_, os, bare⟩
    cases q : H b with
    | none => exact un.keep b o e q (by intro z; exact absurd (show b ∈ ([] : List Addr) from z) (by simp)) (by simp)
    | some u =>
     rcases hO b with z | ⟨ob, xs, z⟩
     ·rw [q] at z; cases z
     ·have z2 := un.frzs b ob _ z
      obtain ⟨e1, _⟩ := hok b _ z
      obtain ⟨e2, _⟩ := hok' b _ z2
      rw [e] at e1; cases e1
      exact e2
 cases hk : K.lookup a with
 | some o =>
  have e := KX a o hk
  rw [ha] at e
  cases e
  refine core (fun _ => none) (fun _ => .inl rfl) (.inr ⟨vs.toArray, _, hk, by rw [List.size_toArray, lenV]; exact hl, by simpa using rv⟩) (fun b u z => by have z' : (none : Option HO) = some u := z; cases z') (fun b z => absurd rfl z) fun z => absurd rfl z
 | none =>
  refine core (fun b => if b = a then some (.frz { cls := .type "list", data := .seq vs.toArray } (.lst (ns.map V.int))) else none) (fun b => ?_) (.inl (.inr ⟨{ cls := .type "list", data := .seq vs.toArray }, if_pos rfl⟩)) (fun b u z => ?_) (fun b z => ?_) fun _ => hk
  ·by_cases hb : b = a
   ·exact .inr ⟨_, _, if_pos hb⟩
   ·exact .inl (if_neg hb)
  ·by_cases hb : b = a
   ·have z' := (if_pos hb).symm.trans z
    cases z'
    subst hb
    exact ⟨ha, by rw [List.length_map]; exact hl, vs, _, rv, ha⟩
   ·have z' := (if_neg hb).symm.trans z
    cases z'
  ·by_cases hb : b = a
   ·exact hb
   ·exact absurd (if_neg hb) z
theorem rG {l : W.OpenLaw} {n k : Nat} {q : Program} {loose : List Str} {XP : (Str -> Option Value) -> Heap -> Prop} {YP : World -> Heap -> Prop} {d : DefRec} {K : Params -> W.Frag} {CX : World -> CXT} {sp : World -> Sp} {x : Str}
  (hn : l.most = some n) (hn2 : n <= sizeLine) (hdf : d.params.defaults = []) (hr : Room k callerA)
  (hY : ∀ (w : World) (h : Heap), YP w h -> (K w.params).In h)
  (F : ∀ (w : World) (mg : zr) (fa : Addr) (h : Heap), (K w.params).In h -> h.Ns mainGlobals mg -> mg d.name = some (.ref fa) ->
   ∃ fd : FuncData, (∀ (s : Shared) (u : Value), BindsTo s fd ⟨[u], []⟩ [(x, u)]) /\
    ∀ base : Heap, (K w.params).In base -> base.Ns mainGlobals mg -> FnOk l.prog w (K w.params) mg base (CX w) k fa fd [x] (sp w))
  (hsp : ∀ (w : World) (H : Hp) (a : Addr) (ns : List Int), ns.length <= n -> Only H -> SqR (K w.params) H a (ns.map V.int) -> sp w [.ref a] H (fun v _ => v = .bl true) fun _ _ _ => False)
  (hCX : ∀ (w : World) (H : Hp) (s : Shared) (e : Value) (s' : Shared), CX w [] H s (fun _ _ _ => False) e s' -> False) :
  W.WalkO q loose XP YP l.row.toRowW d [] (fun f vs => PySem.call f vs) := by
 refine Att.kc hn hdf fun w s₀ s₁ mg mb fa o pm cd doc a vs ns G Y ho hd hcd hmg hobj hints hlen hg => ?_
 have KX := hY w _ Y
 obtain ⟨fd, hb, hF⟩ := F w mg fa _ KX G.T.g hmg
 exact pL KX G.T.g G.T.b G.T.builtins G.T.nolimit hg hobj hints (Nat.le_trans hlen hn2) hr hF hb (fun H hO hS => hsp w H a ns hlen hO hS) fun H e s' => hCX w H s₁ e s'
noncomputable def A4 (s : Stmt) : Arguments := match s with
 | .FunctionDef _ a _ _ _ _ _ _ _ _ => a
 | _ => { posonlyargs := [], args := [], vararg := none, kwonlyargs := [], kw_defaults := [], kwarg := none, defaults := [] }
noncomputable def zT (s : Stmt) : List Stmt := match s with
 | .FunctionDef _ _ b _ _ _ _ _ _ _ => b
 | _ => []
noncomputable def zw (s : Stmt) : Scope := match s with
 | .FunctionDef _ _ _ _ _ _ sc _ _ _ => sc
 | _ => { kind := .function, names := [], isGenerator := false, isCoroutine := false }
abbrev E0 : XK := fun _ _ _ => False
structure Fun (K : W.Frag) (x qual : Str) (st : Stmt) (f : Addr) (fd : FuncData) : Prop where
 ex : ∃ (oc : Value) (od : Option Addr) (kV doc pm : Value) (an : Option Addr) (cdv ct : Value) (osl : Array (Option Value)),
  fd = W.fnOf x qual (A4 st) (zT st) (zw st) .none kV doc pm an cdv ct /\ K.lookup f = some ⟨oc, od, .func fd, osl⟩ /\ W.codeIn K cdv qual = true
 kp : W.keepIn K (.ref f) = true
section
variable {P : Program} {w : World} {K : W.Frag} {mg : zr} {base : Heap}
theorem Fun.binds {x qual : Str} {st : Stmt} {f : Addr} {fd : FuncData} {ps : List Str} (F : Fun K x qual st f fd)
  (h : ∀ (kV doc pm : Value) (an : Option Addr) (cdv ct : Value) (us : List Value), us.length = ps.length -> bindArgs (W.fnOf x qual (A4 st) (zT st) (zw st) .none kV doc pm an cdv ct) ⟨us, []⟩ = pure (ps.zip us)) : Binds K fd ps [] := by
 obtain ⟨oc, od, kV, doc, pm, an, cdv, ct, osl, rfl, lk, hcd⟩ := F.ex
 exact .all (h kV doc pm an cdv ct)
theorem uC {x qual : Str} {st : Stmt} {f : Addr} {oc : Value} {od an : Option Addr} {osl : Array (Option Value)} {kV doc pm cdv ct : Value} (l : K.lookup f = some ⟨oc, od, .func (W.fnOf x qual (A4 st) (zT st) (zw st) .none kV doc pm an cdv ct), osl⟩)
  (c : W.codeIn K cdv qual = true) (k : W.keepIn K (.ref f) = true) : Fun K x qual st f (W.fnOf x qual (A4 st) (zT st) (zw st) .none kV doc pm an cdv ct) := ⟨⟨oc, od, kV, doc, pm, an, cdv, ct, osl, rfl, l, c⟩, k⟩
end
section
variable {X : Cx}
theorem pv (i : Nat) {x : Str} {pos : Pos} (hN : X.N[i]? = some x := by rfl) (hv : Vis X.env.scope x := by first | exact Or.inl rfl | exact Or.inr (Or.inl rfl) | exact Or.inr (Or.inr rfl)) (hd : (x == ("__debug__" : Str)) = false := by decide)
  (hcd : (x == ("__classdict__" : Str)) = false := by decide) : PE X (.Name x pos) (tVar i) := dU hN hv hd hcd
end
noncomputable def Same (H H' : Hp) : Prop := ∀ b o, H b = some o -> H' b = some o
theorem Same.refl (H : Hp) : Same H H := fun _ _ h => h
theorem Same.trans {H H1 H2 : Hp} (a : Same H H1) (b : Same H1 H2) : Same H H2 := fun c o h => b c o (a c o h)
theorem Same.free {H H' : Hp} (e : Same H H') {l : Addr} (h : H' l = Option.none) : H l = Option.none := by
 cases q : H l with
 | none => rfl
 | some o =>
  rw [e l o q] at h
  cases h
section
variable {X : Cx}
end
section
variable {κ : Type} [DecidableEq κ]
theorem mN : ∀ {l : List κ} {k : κ}, l.Nodup -> ¬ k ∈ l -> (l ++ [k]).Nodup
 | [], k, _, _ => by simp
 | a :: r, k, h, hk => by
  obtain ⟨h1, h2⟩ := List.nodup_cons.mp h
  show (a :: (r ++ [k])).Nodup
  refine List.nodup_cons.mpr ⟨fun m => ?_, mN h2 fun m => hk (List.mem_cons.mpr (Or.inr m))⟩
  rcases List.mem_append.mp m with q | q
  ·exact h1 q
  ·exact hk (List.mem_cons.mpr (Or.inl (List.mem_singleton.mp q).symm))
end
end L2
set_option maxHeartbeats 4000000
namespace L2
open PySem PySem.Spec PyProof.Rows
section
variable {fs ex : List Addr} {H H' : Hp} {h h1 h2 : Heap}
end
theorem dY {env : Env} : ∀ (names : List (Str × NameKind)) (cs : List (Str × Addr)), (∀ y ∈ names, y.2 = .free -> ∃ c, env.cells.lookup y.1 = some c) -> (∀ x c, cs.lookup x = some c -> env.cells.lookup x = some c) ->
  ∃ cl : List (Str × Addr), (forIn names cs fun (y : Str × NameKind) (r : List (Str × Addr)) => if (y.2 == NameKind.free) = true then (do let a <- cellOf env y.1; pure (ForInStep.yield ((y.1, a) :: r)) : Sem _) else pure (ForInStep.yield r)) = (pure cl : Sem _) /\
   (∀ x c, cl.lookup x = some c -> env.cells.lookup x = some c) /\ (∀ x c, cs.lookup x = some c -> ∃ c', cl.lookup x = some c') /\ ∀ y ∈ names, y.2 = .free -> ∃ c, cl.lookup y.1 = some c
 | [], cs, _, h2 => ⟨cs, rfl, h2, fun x c e => ⟨c, e⟩, fun y hy => absurd hy (by simp)⟩
 | (n, k) :: r, cs, h1, h2 => by
  have hr : ∀ y ∈ r, y.2 = .free -> ∃ c, env.cells.lookup y.1 = some c := fun y hy => h1 y (List.mem_cons_of_mem _ hy)
  by_cases hk : k = .free
  ·obtain ⟨c, hc⟩ := h1 (n, k) (List.mem_cons_self ..) hk
   have h2' : ∀ x d, ((n, c) :: cs).lookup x = some d -> env.cells.lookup x = some d := fun x d e => by
    rw [List.lookup_cons] at e
    cases q : x == n with
    | true =>
     rw [q] at e
     have : x = n := by simpa using q
     subst this
     simp only [Option.some.injEq] at e
     subst e
     exact hc
    | false => rw [q] at e; exact h2 x d e
   obtain ⟨cl, e1, e2, e3, e4⟩ := dY r ((n, c) :: cs) hr h2'
   have hn : ∃ c', cl.lookup n = some c' := e3 n c (by simp)
   refine ⟨cl, ?_, e2, fun x d e => ?_, fun y hy hf => ?_⟩
   ·subst hk
    rw [List.forIn_cons]
    simp only [beq_self_eq_true, if_true]
    have ec : cellOf env n = pure c := by unfold cellOf; rw [hc]
    rw [ec]
    simp only [pure_bind]
    exact e1
   ·by_cases q : x = n
    ·subst q; exact hn
    ·exact e3 x d (by rw [List.lookup_cons, show (x == n) = false by simpa using q]; exact e)
   ·rcases List.mem_cons.mp hy with z | z
    ·subst z; exact hn
    ·exact e4 y z hf
  ·obtain ⟨cl, e1, e2, e3, e4⟩ := dY r cs hr h2
   refine ⟨cl, ?_, e2, e3, fun y hy hf => ?_⟩
   ·rw [List.forIn_cons]
    have hb : (k == NameKind.free) = false := by simpa using hk
    simp only [hb, Bool.false_eq_true, if_false, pure_bind]
    exact e1
   ·rcases List.mem_cons.mp hy with z | z
    ·subst z; exact absurd hf hk
    ·exact e4 y z hf
theorem lT {scope : Scope} {env : Env} (h : ∀ y ∈ scope.names, y.2 = .free -> ∃ c, env.cells.lookup y.1 = some c) :
  ∃ cl : List (Str × Addr), closureFor scope env = pure cl /\ (∀ x c, cl.lookup x = some c -> env.cells.lookup x = some c) /\ ∀ y ∈ scope.names, y.2 = .free -> ∃ c, cl.lookup y.1 = some c := by
 obtain ⟨cl, e1, e2, _, e4⟩ := dY (env := env) scope.names [] h (fun x c e => by simp at e)
 refine ⟨cl, ?_, e2, e4⟩
 unfold closureFor
 exact (bind_pure _).trans e1
noncomputable def zH (X : Cx) (N : List Str) (scope : Scope) (cl : List (Str × Addr)) (C : Addr) (ex : List Addr) (s : Shared) (H : Hp) : Cx :=
 { X with N := N, s₀ := s, H₀ := H, env := compEnvC scope cl C X.env, outer := X.stack, ex := ex, fn := fun _ => false, pn := [], xe := fun _ _ => False }
structure A8 (X : Cx) (own : List Str) (F : List Nat) (N : List Str) (scope : Scope) : Prop where
 kind : scope.kind = .function
 nocell : ∀ y ∈ scope.names, y.2 ≠ .cell
 loc : ∀ y ∈ scope.names, y.2 = .local -> scope.names.lookup y.1 = some .local
 fkind : X.env.scope.kind = .function
 free : ∀ y ∈ scope.names, y.2 = .free -> X.env.kindOf y.1 = some .cell \/ X.env.kindOf y.1 = some .free
 names : ∀ (i : Nat) x, N[i]? = some x -> (i < own.length \/ ∃ j, F[i - own.length]? = some j /\ X.N[j]? = some x /\ Vis X.env.scope x /\ ∀ k, (relabel scope X.env).names.lookup x = some k -> k = .cell \/ k = .free)
 len : N.length = own.length + F.length
noncomputable def rho (n : Nat) (F : List Nat) (σ : St) : St := List.replicate n none ++ F.map fun j => (σ[j]?).join
theorem jh (n : Nat) (F : List Nat) (σ : St) : (rho n F σ).length = n + F.length := by simp [rho]
theorem mO {n : Nat} {F : List Nat} {σ : St} {i : Nat} {v : V} (h : (rho n F σ)[i]? = some (some v)) : n <= i /\ ∃ j, F[i - n]? = some j /\ σ[j]? = some (some v) := by
 unfold rho at h
 by_cases hi : i < n
 ·rw [List.getElem?_append_left (by simpa using hi), List.getElem?_replicate] at h
  simp [hi] at h
 ·rw [List.getElem?_append_right (by simpa using hi), List.length_replicate, List.getElem?_map] at h
  refine ⟨Nat.le_of_not_lt hi, ?_⟩
  cases e : F[i - n]? with
  | none => rw [e] at h; cases h
  | some j =>
   rw [e] at h
   simp only [Option.map_some, Option.some.injEq] at h
   refine ⟨j, rfl, ?_⟩
   cases q : σ[j]? with
   | none => rw [q] at h; cases h
   | some o => rw [q] at h; simp only [Option.join] at h; rw [show o = some v from h]
theorem aW {env : Env} {x : Str} {k : NameKind} : ∀ {names : List (Str × NameKind)}, (names.map fun (n, k) => if (k == NameKind.free && env.scope.kind == .function && env.kindOf n == some .cell) then (n, NameKind.cell) else (n, k)).lookup x = some k ->
  ∃ k', (x, k') ∈ names /\ (k = k' \/ (k = .cell /\ k' = .free))
 | [], h => by simp at h
 | (n, k') :: r, h => by
  rw [List.map_cons] at h
  by_cases hc : (k' == NameKind.free && env.scope.kind == .function && env.kindOf n == some .cell) = true
  ·simp only [hc, if_true] at h
   rw [List.lookup_cons] at h
   cases q : x == n with
   | true =>
    rw [q] at h
    have : x = n := by simpa using q
    subst this
    refine ⟨k', List.mem_cons_self .., .inr ⟨?_, ?_⟩⟩
    ·simpa using h.symm
    ·simp only [Bool.and_eq_true, beq_iff_eq] at hc
     exact hc.1.1
   | false =>
    rw [q] at h
    obtain ⟨k2, h1, h2⟩ := aW h
    exact ⟨k2, List.mem_cons_of_mem _ h1, h2⟩
  ·simp only [hc, Bool.false_eq_true, if_false] at h
   rw [List.lookup_cons] at h
   cases q : x == n with
   | true =>
    rw [q] at h
    have : x = n := by simpa using q
    subst this
    refine ⟨k', List.mem_cons_self .., .inl ?_⟩
    simpa using h.symm
   | false =>
    rw [q] at h
    obtain ⟨k2, h1, h2⟩ := aW h
    exact ⟨k2, List.mem_cons_of_mem _ h1, h2⟩
section
variable {X : Cx} {pins : zt} {σ : St} {H : Hp} {s : Shared} {own N : List Str} {F : List Nat} {scope : Scope} {cl : List (Str × Addr)} {fp : List Addr}
theorem rH (S : A8 X own F N scope) (I : Inv X pins σ H s) (hf : ∀ b ∈ fp, FpOk X pins H b) (c1 : ∀ x c, cl.lookup x = some c -> X.env.cells.lookup x = some c) (c2 : ∀ y ∈ scope.names, y.2 = .free -> ∃ c, cl.lookup y.1 = some c)
  {C : Addr} (hC : s.heap.objs.size <= C) (hfp : ∀ b ∈ fp, b < s.heap.objs.size) : (zH X N scope cl C fp s H).Ok where
 mod := I.ok.mod
 kind := S.kind
 glob := I.ok.glob
 blt := I.ok.blt
 above := hC
 inj := fun x y c e1 e2 => I.ok.inj x y c (c1 x c e1) (c1 y c e2)
 has := fun x hx => by
  rcases hx with e | e
  ·obtain ⟨k', hm, hk⟩ := aW (env := X.env) (names := scope.names) e
   rcases hk with z | ⟨_, z⟩
   ·exact absurd z.symm (S.nocell _ hm)
   ·exact c2 _ hm z
  ·obtain ⟨k', hm, hk⟩ := aW (env := X.env) (names := scope.names) e
   rcases hk with z | ⟨z, _⟩
   ·exact c2 _ hm z.symm
   ·cases z
 cab := fun x c h _ => absurd h (by simp [zH])
 hd := I.ok.hd
 frames := I.ok.frames
 stk := .inl rfl
 exf := fun b hb => ⟨Nat.ne_of_lt (Nat.lt_of_lt_of_le (hfp b hb) hC), fun x c e => (hf b hb).2.2.2.2.1 x c (c1 x c e)⟩
 bs := I.bs
 bsz := Nat.le_trans I.ok.bsz I.sz
 noex := fun b o e hb => by
  rcases (hf b hb).2.2.2.1 with z | z
  ·exact I.ok.noex b o e z
  ·exact absurd (Nat.lt_of_lt_of_le (Nat.lt_of_lt_of_le (Heap.lt_size e) I.ok.bsz) z) (Nat.lt_irrefl _)
 exfs := fun b hb z => by
  rcases List.mem_cons.mp (I.stkSub b z) with q | q
  ·exact (hf b hb).2.1 q
  ·exact (hf b hb).2.2.1 q
 funs := I.stack
 frf := I.stkFree
theorem pM (S : A8 X own F N scope) (I : Inv X pins σ H s) (hf : ∀ b ∈ fp, FpOk X pins H b) (c1 : ∀ x c, cl.lookup x = some c -> X.env.cells.lookup x = some c) (c2 : ∀ y ∈ scope.names, y.2 = .free -> ∃ c, cl.lookup y.1 = some c)
  {C : Addr} (hC : s.heap.objs.size <= C) (hfp : ∀ b ∈ fp, b < s.heap.objs.size) {h' : Heap} {m : zr} {tk : Nat} (k : ∀ b o, s.heap.get? b = some o -> h'.get? b = some o) (hn : h'.Ns C m) :
  Inv (zH X N scope cl C fp s H) [] (rho own.length F σ) H { s with heap := h', toks := tk } := by
 have fresh : H C = none := I.hok.fresh hC
 refine ⟨rH S I hf c1 c2 hC hfp, rfl, I.bare, Un.kept k, ⟨m, hn, fun i x v e1 e2 e3 => ?_⟩, fun x c e => ?_, fresh, fun x c e => I.freeC x c (c1 x c e), fun p hp => absurd (show p ∈ ([] : zt) from hp) (by simp), I.hok.kept k, ?_⟩
 ·obtain ⟨hi, j, q1, q2⟩ := mO e2
  rcases S.names i x e1 with z | ⟨j', z1, z2, z3, z4⟩
  ·exact absurd hi (Nat.not_le.mpr z)
  ·rw [q1] at z1
   cases z1
   obtain ⟨m0, _, hl⟩ := I.loc
   obtain ⟨u, r, l⟩ := hl j x v z2 q2 z3
   refine ⟨u, r, ?_⟩
   have vis : ∀ k, (relabel scope X.env).names.lookup x = some k -> k = .cell \/ k = .free := z4
   obtain ⟨k2, hk2, hkc⟩ : ∃ k2, (relabel scope X.env).names.lookup x = some k2 /\ (k2 = .cell \/ k2 = .free) := by
    rcases e3 with z | z | z
    ·exact ⟨_, z, vis _ z⟩
    ·exact ⟨_, z, vis _ z⟩
    ·exact ⟨_, z, vis _ z⟩
   obtain ⟨k', hm, hk⟩ := aW (env := X.env) (names := scope.names) hk2
   have hfree : k' = .free := by
    rcases hk with q | ⟨_, q⟩
    ·rcases hkc with y | y
     ·exact absurd (q.symm.trans y) (S.nocell _ hm)
     ·exact q.symm.trans y
    ·exact q
   obtain ⟨c, hc⟩ := c2 _ hm hfree
   refine .inr ⟨?_, c, hc, ?_⟩
   ·rcases hkc with y | y
    ·subst y; exact .inl hk2
    ·subst y; exact .inr hk2
   ·have hx := S.free _ hm hfree
    rcases l with ⟨q, _⟩ | ⟨_, c', e', ic⟩
    ·rcases hx with y | y
     ·rw [q] at y; cases y
     ·rw [q] at y; cases y
    ·have : c' = c := Option.some.inj (e'.symm.trans (c1 _ _ hc))
     subst this
     obtain ⟨o, ho, hd⟩ := ic
     exact ⟨o, k _ _ ho, hd⟩
 ·obtain ⟨v, o, ho, hd⟩ := I.cell x c (c1 x c e)
  exact ⟨v, o, k _ _ ho, hd⟩
 ·show (rho own.length F σ).length = N.length
  rw [jh, S.len]
end
noncomputable def AZ (n : Nat) (F : List Nat) (wi : TI) (g : TG) (tc : TT) (te : TE) : TE := fun σ H Q => wi σ H fun J H1 =>
 ∃ W : Nat -> Nat -> List V -> Hp -> Prop, (∃ m, W 0 m [] H1) /\ ∀ i m ys H2, W i m ys H2 ->
  (J.stop i H2 /\ ∀ D, H2 D = none -> Q (.ref D) (upd H2 D (.lst ys))) \/
  (J.go i H2 /\ ∀ x H3, J.yld i H2 x H3 -> g x (rho n F σ) H3 fun ρ H4 => tc ρ H4 fun b H5 =>
   if b = true then te ρ H5 fun v H6 => ys.length < sizeLine /\ ∃ m', m' < m /\ W (i + 1) m' (ys ++ [v]) H6 else ∃ m', m' < m /\ W (i + 1) m' ys H5)
def tYes : TT := fun _ H Q => Q true H
theorem HOk.track {P : Program} {w : World} {H : Hp} {h : Heap} {a : Addr} {o : HO} (x : HOk P w H h) (hn : H a = none) (new : zJ P w (upd H a o) h a o) : HOk P w (upd H a o) h := fun b u e => by
 by_cases hb : b = a
 ·subst hb
  rw [aj] at e
  cases e
  exact new
 ·rw [ah hb] at e
  refine (x b u e).stay (fun _ _ _ q => q) (fun c q => ?_) fun c xs q => ?_
  ·rw [ah (ao q hn)]; exact q
  ·rw [ah (ao q hn)]; exact q
section
variable {prog : Program} {w : World} {A : Around} {R : Result -> Shared -> Prop} {s : Shared}
abbrev B7 (ifs : List Expr) (env : Env) : Sem Bool := forIn ifs true fun c r => if r = true then do let ok <- isTrue c env (eval c env); pure (ForInStep.yield ok) else pure (ForInStep.yield r)
theorem nL {elt tg iter : Expr} {ifs : List Expr} {scope : Scope} {pos : Pos} {it acc : Value} {env : Env} (W : Nat -> Shared -> Prop)
  (turn : ∀ n s, W n s -> wpAny (model prog w) A (pyNext it) (fun r s1 => match r with
   | none => R (.ok .next) s1
   | some v => wpAny (model prog w) A (letOwnedTupleGo tg it v) (fun _ s2 => wpAny (model prog w) A (assign tg env v) (fun _ s3 => wpAny (model prog w) A (B7 ifs env) (fun ok s4 =>
     if ok = true then wpAny (model prog w) A (eval elt env) (fun x s5 => wpAny (model prog w) A (call (.builtin "list.append") [acc, x]) (fun _ s6 => ∃ m, m < n /\ W m s6) (fun _ _ => False) s5) (fun _ _ => False) s4
     else ∃ m, m < n /\ W m s4) (fun _ _ => False) s3) (fun _ _ => False) s2) (fun _ _ => False) s1) (fun _ _ => False) s)
  (n : Nat) (h : W n s) : codeAny (model prog w) A (.compLoop (.ListComp elt [⟨tg, iter, ifs, 0⟩] scope pos) 0 it acc env) R s := by
 have no : ∀ {α : Type} {m : Sem α} {Q : α -> Shared -> Prop} {E : zu} {s : Shared}, wpAny (model prog w) A m Q (fun _ _ => False) s -> wpAny (model prog w) A m Q E s := fun z => wpAny_mono z (fun _ _ q => q) fun _ _ q => q.elim
 refine codeAny_loop rfl W (fun n s hI => ?_) n h
 show wpAny _ A ((compTurn (.ListComp elt [⟨tg, iter, ifs, 0⟩] scope pos) 0 it acc env).onRaise (fun x => do noteFrame x env; theTreesLotGoes x)) _ _ s
 refine wpAny_noted ?_
 rw [compTurn_list]
 refine wpAny_bind (wpAny_standAt (wpAny_bind (wpAny_mono (turn n s hI) (fun r s1 h1 => ?_) fun _ _ q => q.elim)))
 cases r with
 | none => exact wpAny_pure h1
 | some v =>
  refine wpAny_bind (wpAny_mono h1 (fun _ s2 h2 => ?_) fun _ _ q => q.elim)
  refine wpAny_bind (wpAny_mono h2 (fun _ s3 h3 => ?_) fun _ _ q => q.elim)
  refine wpAny_bind (wpAny_mono h3 (fun ok s4 h4 => ?_) fun _ _ q => q.elim)
  cases ok with
  | false => exact wpAny_pure ⟨rfl, h4⟩
  | true =>
   refine wpAny_bind (wpAny_bind (wpAny_mono h4 (fun x s5 h5 => ?_) fun _ _ q => q.elim))
   exact wpAny_bind (wpAny_mono h5 (fun _ s6 h6 => wpAny_pure (wpAny_pure ⟨rfl, h6⟩)) fun _ _ q => q.elim)
end
noncomputable def Stays (n : Nat) (F : List Nat) (g : TG) : Prop := ∀ x σ H Q, g x (rho n F σ) H Q -> g x (rho n F σ) H fun ρ' H' => (ρ'.length = (rho n F σ).length /\ ∀ (j : Nat) v, (rho n F σ)[j]? = some (some v) -> ρ'[j]? = some (some v)) /\ Q ρ' H'
theorem gG {n i : Nat} {F : List Nat} (h : i < n) : Stays n F (Ac i) := fun x σ H Q q => by
 refine ⟨⟨by simp, fun j v e => ?_⟩, q⟩
 have := (mO e).1
 rw [List.getElem?_set_ne (by lia)]
 exact e
section
variable {X : Cx} {own N : List Str} {F : List Nat} {scope : Scope} {tg elt iter : Expr} {wi : TI} {g : TG} {tc : TT} {te : TE} {pos : Pos} {ifs : List Expr}
noncomputable def PTs (X : Cx) (ifs : List Expr) (tc : TT) : Prop :=
 ∀ (pins : zt) (s : Shared) (σ : St) (H : Hp) (Q : Bool -> Hp -> Prop), Inv X pins σ H s -> tc σ H Q -> wpAny (model X.prog X.w) X.A (B7 ifs X.env) (TP X pins σ Q) X.xe s
theorem rJ : PTs X [] tYes := fun pins s σ H Q I h => wpAny_tests_nil ⟨H, I, h⟩
theorem rK {c : Expr} (hc : PT X c tc) : PTs X [c] tc := fun pins s σ H Q I h => wpAny_tests_one (hc pins s σ H Q I h)
structure Beside (X : Cx) (pins : zt) (H : Hp) (C : Addr) : Prop where
 hn : H C = none
 hL : C ≠ X.env.locals
 h1 : C ∈ X.ex \/ X.s₀.heap.objs.size <= C
 h2 : ∀ x c, X.env.cells.lookup x = some c -> c ≠ C
 h3 : ∀ p ∈ X.pn ++ pins, p.1 ≠ C
theorem Inv.beside {X : Cx} {pins : zt} {σ : St} {H : Hp} {s : Shared} {C : Addr} {h' : Heap} (I : Inv X pins σ H s) (B : Beside X pins H C) (hs : Heap.SameBut C s.heap h') : Inv X pins σ H { s with heap := h' } :=
 I.turned (t' := s.toks) (fun b o hb e => (hs.2 b hb).trans e) B.hn B.hL B.h1 B.h2 B.h3
theorem iL {pins : zt} {s : Shared} {σ : St} {H : Hp} {Fin : List V -> Hp -> Prop} {use : Option (Value -> Sem Unit)} {Qv : zu} {cpos : Pos} (S : A8 X own F N scope) (hcm : X.calm = true) (hi : PI X tg iter wi) (hg : ∀ cl C ex s H, PG (zH X N scope cl C ex s H) tg g)
  (ht : ∀ cl C ex s H, PTs (zH X N scope cl C ex s H) ifs tc) (he : ∀ cl C ex s H, PE (zH X N scope cl C ex s H) elt te) (hgw : Stays own.length F g) (hs : ∀ x, foldedSetIterable iter X.env x = pure x) (I : Inv X pins σ H s)
  (h : wi σ H fun J H1 => ∃ W : Nat -> Nat -> List V -> Hp -> Prop, (∃ m, W 0 m [] H1) /\ ∀ i m ys H2, W i m ys H2 -> (J.stop i H2 /\ Fin ys H2) \/
   (J.go i H2 /\ ∀ x H3, J.yld i H2 x H3 -> g x (rho own.length F σ) H3 fun ρ H4 => tc ρ H4 fun b H5 => if b = true then te ρ H5 fun v H6 => ys.length < sizeLine /\ ∃ m', m' < m /\ W (i + 1) m' (ys ++ [v]) H6 else ∃ m', m' < m /\ W (i + 1) m' ys H5))
  (fin : ∀ D C ys H' s', Fin ys H' -> H' D = none -> Inv X pins σ (upd H' D (.lst ys)) s' -> Beside X pins (upd H' D (.lst ys)) C -> (∃ m, s'.heap.Ns C m) -> compPost (model X.prog X.w) X.A X.xe use Qv (.ref D) C (.ok .next) s') :
  wpAny (model X.prog X.w) X.A (comprehension (.ListComp elt [⟨tg, iter, ifs, 0⟩] scope pos) scope X.env cpos (newList []) false (eval iter X.env) use) Qv X.xe s := by
 obtain ⟨cl, hcl, c1, c2⟩ := lT (scope := scope) (env := X.env) fun y hy hf => I.ok.has _ (S.free y hy hf)
 refine wpAny_comprehension_free (use := use) rfl hs hcl S.kind S.loc (thn (hi pins s σ H _ I h) fun x s1 h1 => thn h1 fun itv s2 h2 => ?_)
 obtain ⟨it, fp, tn, J, H2, e, I2, T, st2, f2, W, ⟨m0, w0⟩, turn⟩ := h2
 subst e
 refine wpAny_newObj_type (wpAny_newFunctionEnv S.nocell (fun y hy => absurd hy (by simp)) (fun h4 hns hsb => ?_) S.kind)
 dsimp only at hns hsb ⊢
 generalize eP : s2.heap.push { cls := .type "list", dict := none, data := .seq ([] : List Value).toArray } = hp3 at hns hsb ⊢
 have hD : hp3.objs.size = s2.heap.objs.size + 1 := by rw [<- eP, Heap.size_push]
 generalize eD : s2.heap.objs.size = D at hD ⊢
 generalize eC : hp3.objs.size = C at hns hsb hD ⊢
 have k23 : ∀ b o, s2.heap.get? b = some o -> hp3.get? b = some o := fun b o q => by rw [<- eP]; exact Heap.get?_push_of_some _ q
 have ltD : ∀ {b : Addr} {o : Obj}, s2.heap.get? b = some o -> b < D := fun {b o} q => by rw [<- eD]; exact Heap.lt_size q
 have k34 : ∀ b o, hp3.get? b = some o -> h4.get? b = some o := fun b o q => hsb.extBut b o (Nat.ne_of_lt (by rw [<- eC]; exact Heap.lt_size q)) (Heap.get?_push_of_some _ q)
 have oD3 : hp3.get? D = some { cls := .type "list", dict := none, data := .seq ([] : List Value).toArray } := by rw [<- eP, <- eD]; exact Heap.get?_push_size _ rfl
 have I3 : Inv X pins σ H2 { s2 with heap := hp3 } := I2.kept (t' := s2.toks) k23
 have fD : FpOk X pins H2 D := I2.fpOk (by rw [eD]; exact Nat.le_refl _) (I2.hok.fresh (by rw [eD]; exact Nat.le_refl _))
 have f3 : ∀ b ∈ D :: fp, FpOk X pins H2 b := fun b hb => by
  rcases List.mem_cons.mp hb with z | z
  ·subst z; exact fD
  ·exact f2 b z
 have ltf : ∀ b ∈ fp, b < D := fun b hb => by
  obtain ⟨o, q, _⟩ := T.obj _ _ st2 b hb
  exact ltD q
 have lt3 : ∀ b ∈ D :: fp, b < ({ s2 with heap := hp3 } : Shared).heap.objs.size := fun b hb => by
  show b < hp3.objs.size
  rw [eC, hD]
  rcases List.mem_cons.mp hb with z | z
  ·subst z; exact Nat.lt_succ_self _
  ·exact Nat.lt_succ_of_lt (ltf b z)
 have I4 := pM (N := N) S I3 f3 c1 c2 (C := C) (by show hp3.objs.size <= C; lia) lt3 (h' := h4) (tk := s2.toks + ([] : List (Str × Value)).length) k34 hns
 generalize eX : zH X N scope cl C (D :: fp) { s2 with heap := hp3 } H2 = X' at I4
 have hX'loc : X'.env.locals = C := by rw [<- eX]; rfl
 have hX'fs : X'.fs = frs X.stack := by rw [<- eX]; rfl
 have nfD : D ∉ X'.fs := fun z => by
  rw [hX'fs] at z
  rcases List.mem_cons.mp (I2.stkSub D z) with q | q
  ·exact fD.2.1 q
  ·exact fD.2.2.1 q
 have nLD : D ≠ X'.env.locals := by rw [hX'loc, hD]; exact Nat.ne_of_lt (Nat.lt_succ_self _)
 have pinD : ∀ {H' : Hp} {s' : Shared} {σ' : St} {pl : zt} {its : List Value} {k : Nat}, Inv X' pl σ' H' s' -> H' D = none -> s'.heap.get? D = some { cls := .type "list", data := .seq its.toArray k } ->
   Inv X' [(D, { cls := .type "list", data := .seq its.toArray k })] σ' H' s' := fun {H' s' σ' pl its k} J hn q => J.pins_of fun p hp => by
  have : p = (D, { cls := .type "list", data := .seq its.toArray k }) := by simpa using hp
  subst this
  exact ⟨q, hn, nLD, nfD, fun v z => by cases z⟩
 have stat : ∀ {H' : Hp} {its : List Value} {k : Nat}, (∀ b ∈ fp, H' b = none) -> ∀ b ∈ fp, FpOk X' [(D, { cls := .type "list", data := .seq its.toArray k })] H' b := fun {H' its k} hn b hb => by
  refine ⟨hn b hb, ?_, fun z => ?_, .inl ?_, fun x c q => ?_, fun p hp => ?_⟩
  ·rw [hX'loc, hD]; exact Nat.ne_of_lt (Nat.lt_succ_of_lt (ltf b hb))
  ·rw [hX'fs] at z
   rcases List.mem_cons.mp (I2.stkSub b z) with q | q
   ·exact (f2 b hb).2.1 q
   ·exact (f2 b hb).2.2.1 q
  ·rw [<- eX]; exact List.mem_cons_of_mem _ hb
  ·rw [<- eX] at q
   exact (f2 b hb).2.2.2.2.1 x c (c1 x c q)
  ·have hpn : X'.pn = [] := by rw [<- eX]; rfl
   rw [hpn] at hp
   have : p = (D, { cls := .type "list", data := .seq its.toArray k }) := by simpa using hp
   subst this
   exact fun z => Nat.lt_irrefl b (Nat.lt_of_lt_of_eq (ltf b hb) z)
 let Wn : Nat -> Shared -> Prop := fun n s' => ∃ i ys its k H', Inv X' [(D, { cls := .type "list", data := .seq (List.toArray its) k })] (rho own.length F σ) H' s' /\ Vals ys its /\ ys.length <= sizeLine /\ tn i s'.heap /\ (∀ b ∈ fp, H' b = none) /\ W i n ys H'
 have start : Wn m0 { s2 with heap := h4, toks := s2.toks + ([] : List (Str × Value)).length } :=
  ⟨0, [], [], 0, H2, pinD I4 fD.1 (k34 _ _ oD3), .nil, Nat.zero_le _, T.keep _ _ _ st2 (fun b _ o q => k34 b o (k23 b o q)), fun b hb => (f2 b hb).1, w0⟩
 have loop : ∀ s' : Shared, Wn m0 s' -> codeAny (model X.prog X.w) X.A (.compLoop (.ListComp elt [⟨tg, iter, ifs, 0⟩] scope pos) 0 (.ref it) (.ref D) X'.env) (compPost (model X.prog X.w) X.A X.xe use Qv (.ref D) C) s' := by
  intro s' hs'
  refine nL Wn ?_ m0 hs'
  rintro n s5 ⟨i, ys, its, k, H5, I5, rv5, z5, st5, fr5, w5⟩
  have ePr : X'.prog = X.prog := by rw [<- eX]; rfl
  have ew : X'.w = X.w := by rw [<- eX]; rfl
  have eK : X'.K = X.K := by rw [<- eX]; rfl
  have eA : X'.A = X.A := by rw [<- eX]; rfl
  have ecm : X'.calm = true := by rw [<- eX]; exact hcm
  have exe : X'.xe = fun _ _ => False := by rw [<- eX]; rfl
  rcases turn i n ys H5 w5 with ⟨stop, qn⟩ | ⟨go, step⟩
  ·have td := T.done X' ePr ew eK ecm i _ s5 _ H5 (fun _ _ => False) I5 (stat fr5) st5 stop
   rw [eA] at td
   refine thn td fun r s6 ⟨hr, I6⟩ => ?_
   subst hr
   show compPost (model X.prog X.w) X.A X.xe use Qv (.ref D) C (.ok .next) s6
   obtain ⟨m6, hn6, _⟩ := I6.loc
   have oD6 := (I6.pin (D, { cls := .type "list", data := .seq its.toArray k }) (List.mem_append_right _ (List.mem_cons_self ..))).1
   have nD6 : H5 D = none := (I6.pin (D, { cls := .type "list", data := .seq its.toArray k }) (List.mem_append_right _ (List.mem_cons_self ..))).2.1
   have nC6 : H5 C = none := by rw [<- hX'loc]; exact I6.free
   have u6 : Un (frs X.stack) (D :: fp) H2 H5 hp3 s6.heap := by
    have := I6.base
    rw [hX'fs] at this
    rw [<- eX] at this
    exact this
   have hok7 : HOk X.prog X.w H5 s6.heap := by
    have := I6.hok
    rw [ePr, ew] at this
    exact this
   have neD : ∀ {b : Addr} {o : Obj}, s2.heap.get? b = some o -> b ≠ D := fun {b o} q => Nat.ne_of_lt (ltD q)
   have nin : ∀ {b : Addr} {o : Obj}, s2.heap.get? b = some o -> b ∉ fp -> b ∉ D :: fp := fun {b o} q hb z => by
    rcases List.mem_cons.mp z with y | y
    ·exact neD q y
    ·exact hb y
   have u8 : Un (frs X.stack) fp H2 (upd H5 D (.lst ys)) s2.heap s6.heap :=
    ⟨fun b o q n x y => u6.keep b o (k23 b o q) n x (nin q y), fun b o q n x y => u6.slot b o (k23 b o q) n x (nin q y), fun b o q n y => by rw [ah (neD q)]; exact u6.free b o (k23 b o q) n (nin q y),
     fun b o q y => u6.there b o (k23 b o q) (nin q y), fun b xs q => by
      have q' := u6.tups b xs q
      rw [ah (ao q' nD6)]; exact q', fun b o u q => by
      have q' := u6.frzs b o u q
      rw [ah (ao q' nD6)]; exact q', fun b ps q => by
      obtain ⟨more, q'⟩ := u6.tbls b ps q
      exact ⟨more, by rw [ah (ao q' nD6)]; exact q'⟩⟩
   have hos : s6.os = s2.os := by
    have := I6.os
    rw [<- eX] at this
    exact this
   have J : Inv X pins σ (upd H5 D (.lst ys)) s6 :=
    I2.call' (s' := s6) (ch := fp) hos u8 (hok7.track nD6 ⟨z5, its, k, rv5, oD6⟩) I6.bare fun b hb => ⟨(f2 b hb).2.2.2.1, (f2 b hb).2.1, (f2 b hb).2.2.2.2.1, (f2 b hb).2.2.2.2.2⟩
   have fC : FpOk X pins (upd H5 D (.lst ys)) C := I2.fpOk (by rw [eD, hD]; exact Nat.le_succ _) (by rw [ah (by rw [hD]; exact Nat.ne_of_gt (Nat.lt_succ_self _))]; exact nC6)
   exact fin D C ys H5 s6 qn nD6 J ⟨fC.1, fC.2.1, fC.2.2.2.1, fC.2.2.2.2.1, fC.2.2.2.2.2⟩ ⟨m6, by rw [<- hX'loc]; exact hn6⟩
  ·have ti := T.item X' ePr ew eK ecm i _ s5 _ H5 (fun _ _ => False) I5 (stat fr5) st5 go
   rw [eA] at ti
   refine thn ti fun r s6 ⟨u, hr, h6⟩ => ?_
   subst hr
   refine thn h6 fun _ s7 ⟨x, H7, I7, r7, y7, st7, fr7⟩ => ?_
   have I7' := I7.pinned (stat fr7) (T.obj _ _ st7)
   have hg' : PG X' tg g := by rw [<- eX]; exact hg _ _ _ _ _
   have ht' : PTs X' ifs tc := by rw [<- eX]; exact ht _ _ _ _ _
   have he' : PE X' elt te := by rw [<- eX]; exact he _ _ _ _ _
   have sg := hg' _ s7 _ H7 x u _ I7' r7 (hgw x σ H7 _ (step x H7 y7))
   rw [ePr, ew, eA, exe] at sg
   refine thn sg fun _ s8 ⟨ρ8, H8, I8, q8', q8⟩ => ?_
   have stt := ht' _ s8 ρ8 H8 _ I8 q8
   rw [ePr, ew, eA, exe] at stt
   refine thn stt fun ok s9 ⟨H9, I9, q9⟩ => ?_
   have hw8 : ρ8.length = (rho own.length F σ).length /\ ∀ (j : Nat) v, (rho own.length F σ)[j]? = some (some v) -> ρ8[j]? = some (some v) := q8'
   have onward : ∀ {s' : Shared} {ρ : St} {H' : Hp} {ys' : List V} {its' : List Value} {k' : Nat}, ρ.length = (rho own.length F σ).length -> (∀ (j : Nat) v, (rho own.length F σ)[j]? = some (some v) -> ρ[j]? = some (some v)) ->
     Inv X' (AB fp s7.heap) ρ H' s' -> H' D = none -> s'.heap.get? D = some { cls := .type "list", data := .seq its'.toArray k' } -> Vals ys' its' -> ys'.length <= sizeLine -> (∃ m', m' < n /\ W (i + 1) m' ys' H') -> ∃ m, m < n /\ Wn m s' :=
    fun {s' ρ H' ys' its' k'} hl hw J hn ho rv hz ⟨m', hm, w'⟩ => by
     refine ⟨m', hm, i + 1, ys', its', k', H', (pinD J hn ho).weak hl.symm hw, rv, hz, T.keep _ _ _ st7 fun b hb o e => (J.pin (b, o) (List.mem_append_right _ (cE hb e))).1, fun b hb => ?_, w'⟩
     obtain ⟨o, e, _⟩ := T.obj _ _ st7 b hb
     exact (J.pin (b, o) (List.mem_append_right _ (cE hb e))).2.1
   have noD : ∀ {ρ : St} {H' : Hp} {s' : Shared}, Inv X' ([(D, { cls := .type "list", data := .seq its.toArray k })] ++ AB fp s7.heap) ρ H' s' -> Inv X' (AB fp s7.heap) ρ H' s' /\ H' D = none /\ s'.heap.get? D = some { cls := .type "list", data := .seq its.toArray k } :=
    fun {ρ H' s'} J => by
     have pD := J.pin (D, { cls := .type "list", data := .seq its.toArray k }) (List.mem_append_right _ (List.mem_append_left _ (List.mem_cons_self ..)))
     exact ⟨J.pins_of fun p hp => J.pin p (List.mem_append_right _ (List.mem_append_right _ hp)), pD.2.1, pD.1⟩
   cases ok with
   | false =>
    obtain ⟨J, n9, o9⟩ := noD I9
    have q9' : ∃ m', m' < n /\ W (i + 1) m' ys H9 := by simpa using q9
    show ∃ m, m < n /\ Wn m s9
    exact onward hw8.1 hw8.2 J n9 o9 rv5 z5 q9'
   | true =>
    have q9' : te ρ8 H9 fun v H6 => ys.length < sizeLine /\ ∃ m', m' < n /\ W (i + 1) m' (ys ++ [v]) H6 := by simpa using q9
    have se := he' _ s9 ρ8 H9 _ I9 q9'
    rw [ePr, ew, eA, exe] at se
    refine thn se fun uv s10 ⟨v, H10, I10, rv, hz, qm⟩ => ?_
    obtain ⟨J, n10, o10⟩ := noD I10
    have hlen := rv5.length
    refine call_meets PySem.F.slot_list_append ⟨_, o10, rfl⟩ PySem.F.entry_list_append (PySem.F.args_list_append_2 _ _) (PySem.list_append D its.toArray k uv (by rw [List.size_toArray]; lia)) ⟨o10, ?_⟩
    have oN := PySem.IsL.update o10 (·.push uv)
    rw [show its.toArray.push uv = (its ++ [uv]).toArray by simp] at oN
    have kN : ∀ b o, b ≠ D -> s10.heap.get? b = some o -> (s10.heap.update D (Obj.mapSeq (·.push uv))).get? b = some o := fun b o hb q => (Heap.get?_update_other _ _ (Ne.symm hb)).trans q
    have JN := J.turned (t' := s10.toks) (it := D) kN n10 nLD (.inl (by rw [<- eX]; exact List.mem_cons_self ..)) (fun x c q => by
     rw [<- eX] at q
     exact fD.2.2.2.2.1 x c (c1 x c q)) (fun p hp => by
     have hpn : X'.pn = [] := by rw [<- eX]; rfl
     rw [hpn] at hp
     exact Nat.ne_of_lt (ltf p.1 (iB (by simpa using hp)).1))
    refine onward hw8.1 hw8.2 JN n10 (its' := its ++ [uv]) oN (rv5.append (.cons rv .nil)) (by rw [List.length_append, List.length_singleton]; lia) qm
 have fin := loop _ start
 rw [show X'.env = compEnvC scope cl C X.env by rw [<- eX]; rfl] at fin
 exact codeAny_compStart_list fin (T.self X.A 0 _ _ _ (T.keep _ _ _ st2 (fun b _ o q => k34 b o (k23 b o q))) fin)
theorem rL (S : A8 X own F N scope) (hcm : X.calm = true) (hi : PI X tg iter wi) (hg : ∀ cl C ex s H, PG (zH X N scope cl C ex s H) tg g) (ht : ∀ cl C ex s H, PTs (zH X N scope cl C ex s H) ifs tc)
  (he : ∀ cl C ex s H, PE (zH X N scope cl C ex s H) elt te) (hgw : Stays own.length F g) (hs : ∀ x, foldedSetIterable iter X.env x = pure x := by intro _; rfl) : PE X (.ListComp elt [⟨tg, iter, ifs, 0⟩] scope pos) (AZ own.length F wi g tc te) := by
 intro pins s σ H Q I h
 rw [eval_ListComp]
 refine iL (use := none) (Fin := fun ys H2 => ∀ D, H2 D = none -> Q (.ref D) (upd H2 D (.lst ys))) S hcm hi hg ht he hgw hs I h fun D C ys H' s' q hD J B ⟨m, hn⟩ => ?_
 exact ⟨m, hn, fun h' hs' => ⟨.ref D, _, J.beside B hs', rfl, q D hD⟩⟩
theorem rM {i : Nat} {y : Str} {py spos : Pos} (S : A8 X own F N scope) (hcm : X.calm = true) (hi : PI X tg iter wi) (hg : ∀ cl C ex s H, PG (zH X N scope cl C ex s H) tg g) (ht : ∀ cl C ex s H, PTs (zH X N scope cl C ex s H) ifs tc)
  (he : ∀ cl C ex s H, PE (zH X N scope cl C ex s H) elt te) (hgw : Stays own.length F g) (hN : X.N.Nodup) (hy : X.N[i]? = some y) (hl : X.env.scope.names.lookup y = some .local)
  (hsw : swapsWith (.ListComp elt [⟨tg, iter, ifs, 0⟩] scope pos) (some (.Name y py)) spos.line X.env = pure true) (hs : ∀ x, foldedSetIterable iter X.env x = pure x := by intro _; rfl) :
  PS X (.Assign [.Name y py] (.ListComp elt [⟨tg, iter, ifs, 0⟩] scope pos) spos) (tAsg (AZ own.length F wi g tc te) (Ac i)) := by
 intro pins s σ H D0 I h
 rw [exec_Assign_Name_used _ _ _ _ hsw]
 refine wpAny_bind (wpAny_standAt (wpAny_bind ?_))
 show wpAny _ X.A (do let _ <- comprehension (.ListComp elt [⟨tg, iter, ifs, 0⟩] scope pos) scope X.env _ (newList []) false (eval iter X.env) (some (assign (.Name y py) X.env))) _ _ s
 refine wpAny_bind (wpAny_mono (iL (use := some (assign (.Name y py) X.env)) (Qv := fun _ s' => SP X pins D0 .next s') (Fin := fun ys H2 => ∀ D, H2 D = none -> D0.nx (σ.set i (some (.ref D))) (upd H2 D (.lst ys))) S hcm hi hg ht he hgw hs I h fun D C ys H' s' q hD J B ⟨m, hn⟩ => ?_)
  (fun _ s' hq => wpAny_pure (wpAny_pure hq)) fun _ _ z => z)
 show wpAny _ X.A (assign (.Name y py) X.env (.ref D)) _ _ s'
 refine wpAny_assign_Name (iz J hN hy (.inl hl) (v := .ref D) rfl (fun s2 J2 ⟨a, sb, ha⟩ => ?_) (.inr hl))
 have hCa : C ≠ a := by
  rcases ha with z | z
  ·subst z; exact B.hL
  ·exact (B.h2 _ _ z).symm
 exact ⟨m, hn.sameBut sb hCa, fun h' hs' => ⟨_, _, J2.beside ⟨B.hn, B.hL, B.h1, B.h2, B.h3⟩ hs', q D hD⟩⟩
end
abbrev TuT (H : Hp) (a : Addr) (xs : List V) : Prop := H a = some (.tup xs)
noncomputable def keyD : Key -> PyData
 | .inl i => .int i
 | .inr x => .str x
mutual
inductive Dt (K : W.Frag) (H : Hp) : V -> PyData -> Prop
 | non : Dt K H .non .none
 | bl (b : Bool) : Dt K H (.bl b) (.bool b)
 | int (i : Int) : Dt K H (.int i) (.int i)
 | str (x : Str) : Dt K H (.str x) (.str x)
 | lst {a : Addr} {xs : List V} {ds : zq} : SqR K H a xs -> Dts K H xs ds -> Dt K H (.ref a) (.list ds)
 | tup {a : Addr} {xs : List V} {ds : zq} : TuT H a xs -> Dts K H xs ds -> Dt K H (.ref a) (.tuple ds)
 | dct {a : Addr} {kvs : List (Key × V)} {es : List (PyData × PyData)} : H a = some (.dK kvs) -> Des K H kvs es -> Dt K H (.ref a) (.dict es)
inductive Dts (K : W.Frag) (H : Hp) : List V -> zq -> Prop
 | nil : Dts K H [] []
 | cons {x : V} {xs : List V} {d : PyData} {ds : zq} : Dt K H x d -> Dts K H xs ds -> Dts K H (x :: xs) (d :: ds)
inductive Des (K : W.Frag) (H : Hp) : List (Key × V) -> List (PyData × PyData) -> Prop
 | nil : Des K H [] []
 | cons {k : Key} {v : V} {kvs : List (Key × V)} {d : PyData} {es : List (PyData × PyData)} : Dt K H v d -> Des K H kvs es -> Des K H ((k, v) :: kvs) ((keyD k, d) :: es)
end
theorem Same.tup {K : W.Frag} {H H' : Hp} {a : Addr} {xs : List V} (e : Same H H') (h : TuT H a xs) : SqT K H' a xs := .of (e _ _ h)
theorem Same.rd {H H' : Hp} {a : Addr} {u : HO} (e : Same H H') (h : Rd H a u) : Rd H' a u := by
 rcases h with h | ⟨o, h⟩
 ·exact .inl (e _ _ h)
 ·exact .inr ⟨o, e _ _ h⟩
theorem Same.sqr {K : W.Frag} {H H' : Hp} {a : Addr} {xs : List V} (e : Same H H') (h : SqR K H a xs) : SqR K H' a xs := by
 rcases h with h | h
 ·exact .inl (e.rd h)
 ·exact .inr h
theorem SqR.sq {K : W.Frag} {H : Hp} {a : Addr} {xs : List V} (h : SqR K H a xs) : SqL K H a xs := by
 rcases h with h | ⟨its, n, h1, h2, h3⟩
 ·exact .inl h
 ·exact .inr ⟨_, its, n, h1, rfl, rfl, rfl, h2, h3⟩
theorem SqR.of {K : W.Frag} {H : Hp} {a : Addr} {xs : List V} (h : H a = some (.lst xs)) : SqR K H a xs := .inl (.inl h)
section
variable {K : W.Frag} {H H' : Hp}
mutual
theorem Dt.mono (e : Same H H') : ∀ {v : V} {d : PyData}, Dt K H v d -> Dt K H' v d
 | _, _, .non => .non
 | _, _, .bl b => .bl b
 | _, _, .int i => .int i
 | _, _, .str x => .str x
 | _, _, .lst q r => .lst (e.sqr q) (Dts.mono e r)
 | _, _, .tup q r => .tup (e _ _ q) (Dts.mono e r)
 | _, _, .dct q r => .dct (e _ _ q) (Des.mono e r)
theorem Dts.mono (e : Same H H') : ∀ {vs : List V} {ds : zq}, Dts K H vs ds -> Dts K H' vs ds
 | _, _, .nil => .nil
 | _, _, .cons x r => .cons (Dt.mono e x) (Dts.mono e r)
theorem Des.mono (e : Same H H') : ∀ {vs : List (Key × V)} {ds : List (PyData × PyData)}, Des K H vs ds -> Des K H' vs ds
 | _, _, .nil => .nil
 | _, _, .cons x r => .cons (Dt.mono e x) (Des.mono e r)
end
theorem Dts.len : ∀ {vs : List V} {ds : zq}, Dts K H vs ds -> vs.length = ds.length
 | _, _, .nil => rfl
 | _, _, .cons _ r => by rw [List.length_cons, List.length_cons, Dts.len r]
theorem Dts.append : ∀ {vs ws : List V} {ds es : zq}, Dts K H vs ds -> Dts K H ws es -> Dts K H (vs ++ ws) (ds ++ es)
 | _, _, _, _, .nil, s => s
 | _, _, _, _, .cons x r, s => .cons x (Dts.append r s)
theorem Dts.get : ∀ {vs : List V} {ds : zq} {i : Nat} {v : V}, Dts K H vs ds -> vs[i]? = some v -> ∃ d, ds[i]? = some d /\ Dt K H v d
 | _, _, _, _, .nil, e => by simp at e
 | _, _, 0, _, .cons x _, e => by simp at e; subst e; exact ⟨_, rfl, x⟩
 | _, _, i + 1, v, .cons _ r, e => by
  obtain ⟨d, h1, h2⟩ := Dts.get (i := i) (v := v) r (by simpa using e)
  exact ⟨d, by simpa using h1, h2⟩
theorem Dts.get' : ∀ {vs : List V} {ds : zq} {i : Nat} {d : PyData}, Dts K H vs ds -> ds[i]? = some d -> ∃ v, vs[i]? = some v /\ Dt K H v d
 | _, _, _, _, .nil, e => by simp at e
 | _, _, 0, _, .cons x _, e => by simp at e; subst e; exact ⟨_, rfl, x⟩
 | _, _, i + 1, d, .cons _ r, e => by
  obtain ⟨v, h1, h2⟩ := Dts.get' (i := i) (d := d) r (by simpa using e)
  exact ⟨v, by simpa using h1, h2⟩
theorem Dts.take : ∀ {vs : List V} {ds : zq} (n : Nat), Dts K H vs ds -> Dts K H (vs.take n) (ds.take n)
 | _, _, 0, _ => .nil
 | _, _, _ + 1, .nil => .nil
 | _, _, n + 1, .cons x r => .cons x (Dts.take n r)
theorem Dts.drop : ∀ {vs : List V} {ds : zq} (n : Nat), Dts K H vs ds -> Dts K H (vs.drop n) (ds.drop n)
 | _, _, 0, h => h
 | _, _, _ + 1, .nil => .nil
 | _, _, n + 1, .cons _ r => Dts.drop n r
theorem Dts.ints : ∀ (ns : List Int), Dts K H (ns.map V.int) (ns.map PyData.int)
 | [] => .nil
 | n :: r => .cons (.int n) (Dts.ints r)
theorem Dts.rep {v : V} {d : PyData} (h : Dt K H v d) : ∀ n, Dts K H (List.replicate n v) (List.replicate n d)
 | 0 => .nil
 | n + 1 => by rw [List.replicate_succ, List.replicate_succ]; exact .cons h (Dts.rep h n)
theorem Dts.reps {vs : List V} {ds : zq} (h : Dts K H vs ds) : ∀ n, Dts K H (List.replicate n vs).flatten (List.replicate n ds).flatten
 | 0 => .nil
 | n + 1 => by rw [List.replicate_succ, List.replicate_succ, List.flatten_cons, List.flatten_cons]; exact h.append (Dts.reps h n)
end
section
variable {X : Cx} {pins : zt} {σ : St} {H : Hp} {s : Shared}
mutual
theorem Dt.reads (I : Inv X pins σ H s) : ∀ {v : V} {d : PyData} {u : Value}, Dt X.K H v d -> d.canLay0 = true -> RelV v u -> ∃ as, Reads s.heap u d as
 | _, _, u, .non, _, r => by cases (show u = Value.none from r); exact ⟨_, Reads.none⟩
 | _, _, u, .bl b, _, r => by cases (show u = Value.bool b from r); exact ⟨_, Reads.bool b⟩
 | _, _, u, .int i, _, r => by obtain ⟨t, e⟩ := (show ∃ t, u = Value.int i t from r); cases e; exact ⟨_, Reads.int i t⟩
 | _, _, u, .str x, _, r => by obtain ⟨t, e⟩ := (show ∃ t, u = Value.str x t from r); cases e; exact ⟨_, Reads.str x t⟩
 | _, _, u, .lst (a := a) q z, c, r => by
  cases (show u = Value.ref a from r)
  obtain ⟨its, rv, ⟨o, n, h1, h2, _, h4⟩, _⟩ := I.list (SqR.sq q)
  obtain ⟨as, ra⟩ := Dts.reads I z (show PyData.canLayAll0 _ = true from c) rv
  exact ⟨_, reads_list_at h1 h2 h4 (by simpa using ra)⟩
 | _, _, u, .tup (a := a) q z, c, r => by
  cases (show u = Value.ref a from r)
  obtain ⟨its, rv, ⟨o, h1, h2, n, h4⟩, _⟩ := I.tuple (.of q)
  obtain ⟨as, ra⟩ := Dts.reads I z (show PyData.canLayAll0 _ = true from c) rv
  exact ⟨_, reads_tuple_at h1 h2 h4 (by simpa using ra)⟩
 | _, _, u, .dct q z, c, r => by exact absurd c (by simp [PyData.canLay0])
theorem Dts.reads (I : Inv X pins σ H s) : ∀ {vs : List V} {ds : zq} {us : List Value}, Dts X.K H vs ds -> PyData.canLayAll0 ds = true -> Vals vs us -> ∃ as, ReadsAll s.heap us ds as
 | _, _, _, .nil, _, .nil => ⟨_, ReadsAll.nil⟩
 | _, _, _, .cons x z, c, .cons r rs => by
  have c' := Bool.and_eq_true_iff.mp (show (PyData.canLay0 _ && PyData.canLayAll0 _) = true from c)
  obtain ⟨as, h1⟩ := Dt.reads I x c'.1 r
  obtain ⟨bs, h2⟩ := Dts.reads I z c'.2 rs
  exact ⟨_, ReadsAll.cons h1 h2⟩
end
end
theorem gH {α β : Type} {F : α -> β -> Prop} : ∀ {xs : List α} {ys : List β} {i : Nat} {x : α}, Paired F xs ys -> xs[i]? = some x -> ∃ y, ys[i]? = some y /\ F x y
 | _, _, _, _, .nil, e => by simp at e
 | _, _, 0, _, .cons r _, e => by simp at e; subst e; exact ⟨_, rfl, r⟩
 | _, _, i + 1, x, .cons _ t, e => by
  obtain ⟨u, h1, h2⟩ := gH (i := i) (x := x) t (by simpa using e)
  exact ⟨u, by simpa using h1, h2⟩
theorem fM : ∀ {xs : List V} {us : List Value}, xs.length = us.length -> (∀ (j : Nat) x u, xs[j]? = some x -> us[j]? = some u -> RelV x u) -> Vals xs us
 | [], [], _, _ => .nil
 | [], _ :: _, h, _ => by simp at h
 | _ :: _, [], h, _ => by simp at h
 | x :: xs, u :: us, h, k => .cons (k 0 x u rfl rfl) (fM (by simpa using h) fun j y v e1 e2 => k (j + 1) y v (by simpa using e1) (by simpa using e2))
section
variable {X : Cx}
noncomputable def rEqD (K : W.Frag) (neg : Bool) : R2 := fun x y H Q => ∃ d e, Dt K H x d /\ Dt K H y e /\ SeqAt.shaped d = true /\ SeqAt.shaped e = true /\ Q (.bl (if neg then !PyData.eqv d e else PyData.eqv d e)) H
theorem uD (hu : X.A.units + 64 < cLine) : OpR X (compareOp .Eq) (rEqD X.K false) := by
 intro pins s σ H x y v u Q I rx ry h
 obtain ⟨d, e, hd, he, sd, se, q⟩ := h
 obtain ⟨as, ra⟩ := hd.reads I (SeqAt.canLay_of_shaped sd) rx
 obtain ⟨bs, rb⟩ := he.reads I (SeqAt.canLay_of_shaped se) ry
 exact eq_dataH ra rb sd se hu ⟨.bl (PyData.eqv d e), H, I, rfl, q⟩
theorem uE (hu : X.A.units + 64 < cLine) : OpR X (compareOp .NotEq) (rEqD X.K true) := by
 intro pins s σ H x y v u Q I rx ry h
 obtain ⟨d, e, hd, he, sd, se, q⟩ := h
 obtain ⟨as, ra⟩ := hd.reads I (SeqAt.canLay_of_shaped sd) rx
 obtain ⟨bs, rb⟩ := he.reads I (SeqAt.canLay_of_shaped se) ry
 exact ne_dataH ra rb sd se hu ⟨.bl (!PyData.eqv d e), H, I, rfl, q⟩
theorem ji : A7 X (.builtin "sorted") (fun xs H Q => ∃ a ns, xs = [.ref a] /\ SqL X.K H a (ns.map V.int) /\ ns.length < 64 /\ ∀ (ns' : List Int) p, ns'.Perm ns -> ns'.Pairwise (· <= ·) -> H p = none -> Q (.ref p) (upd H p (.lst (ns'.map V.int)))) := by
 intro pins s σ H xs us Q I r h
 obtain ⟨a, ns, rfl, hq, h64, q⟩ := h
 obtain ⟨u, rfl, r1⟩ := vals1 r
 cases r1
 obtain ⟨its, rv, pl, hz⟩ := I.list hq
 have hI := dX rv
 have hl : its.length < 64 := by rw [<- rv.length, List.length_map]; exact h64
 refine sorted_ints pl.isList hI hl fun out ns' a1 a2 a3 => ?_
 obtain ⟨e, he⟩ := sortedAll_at s.heap its out
 refine ⟨.ref (s.heap.objs.size + 1), _, I.laid (t' := s.toks) (fun _ _ => sortedAll_old) (Nat.le_succ _) ?_, rfl, q ns' _ a2 a3 (I.hok.fresh (Nat.le_succ _))⟩
 refine ⟨?_, out.toList, e, fw a1, he⟩
 rw [List.length_map, a2.length_eq]
 exact Nat.le_trans (Nat.le_of_lt h64) (by decide)
end
end L2
namespace L2
open PySem PySem.Spec PyProof.Rows
theorem zJ.obj {P : Program} {w : World} {H : Hp} {h : Heap} {a : Addr} {o : HO} (x : zJ P w H h a o) : ∃ ob, h.get? a = some ob := by
 cases o with
 | lst xs => obtain ⟨_, _, _, _, e⟩ := x; exact ⟨_, e⟩
 | tup xs => obtain ⟨_, _, _, o, e, _⟩ := x; exact ⟨_, e⟩
 | dK kvs => obtain ⟨_, _, _, _, o, _, _, e, _⟩ := x; exact ⟨_, e⟩
 | dT kvs => obtain ⟨_, _, _, _, o, _, _, e, _⟩ := x; exact ⟨_, e⟩
 | set S n => obtain ⟨o, _, _, _, e, _⟩ := x; exact ⟨_, e⟩
 | ins C dx fs => obtain ⟨_, _, _, e, _⟩ := x; exact ⟨_, e⟩
 | own y => exact x
 | xd fs => obtain ⟨_, ⟨_, _, _, e, _⟩, _⟩ := x; exact ⟨_, e⟩
 | rng lo hi => obtain ⟨_, _, _, e⟩ := x; exact ⟨_, e⟩
 | frz ob u => obtain ⟨e, _⟩ := x; exact ⟨_, e⟩
 | tbl ps => exact ⟨_, x⟩
 | met f y => exact ⟨_, x⟩
 | ext φ => obtain ⟨_, e, _⟩ := x; exact e
structure Flew (P : Program) (w : World) (outer : List Env) (H : Hp) (s : Shared) (H' : Hp) (ea : Addr) (C : Value) (s' : Shared) : Prop where
 os : s'.os = s.os
 bare : AllBare s'.gens
 un : Un (frs outer) [] H H' s.heap s'.heap
 hok : HOk P w H' s'.heap
 frf : ∀ b ∈ frs outer, H' b = none
 fly : ∃ B t, Heap.FlyingW B outer ea C (.ref t) s'.heap /\ ∀ b o, s'.heap.get? b = some o -> b ∉ frs outer -> ((∃ o', s.heap.get? b = some o') \/ H' b ≠ none) -> B.get? b = some o
noncomputable def CXe (P : Program) (w : World) : CXT := fun outer H s E e s' => ∃ ea C H', e = .ref ea /\ Flew P w outer H s H' ea C s' /\ E C none H'
theorem HOk.stays {P : Program} {w : World} {H : Hp} {h1 h2 : Heap} (x : HOk P w H h1) (hk : ∀ b o u, H b = some u -> h1.get? b = some o -> h2.get? b = some o) : HOk P w H h2 := fun a o e => by
 refine (x a o e).stay (fun c q hc e' => ?_) (fun _ q => q) fun _ _ q => q
 rcases hc with z | z
 ·subst z; exact hk _ _ _ e e'
 ·exact hk _ _ _ z e'
section
variable {P : Program} {w : World} {outer : List Env} {H H' : Hp} {s s' : Shared} {ea : Addr} {C : Value}
theorem Flew.step (F : Flew P w outer H s H' ea C s') {B h2 : Heap} (kB : ∀ b o, s'.heap.get? b = some o -> b ∉ frs outer -> ((∃ o', s.heap.get? b = some o') \/ H' b ≠ none) -> B.get? b = some o)
  (fr : s'.heap.FunFrames B outer) (st : B.StaysIn h2) (up : s'.heap.UpToSlots h2) : Un (frs outer) [] H H' s.heap h2 /\ HOk P w H' h2 := by
 have sl : ∀ b o, b ∈ frs outer -> s'.heap.get? b = some o -> ∃ l, h2.get? b = some { o with slots := l } := fun b o hb e => by
  obtain ⟨_, o', e', nf⟩ := fr.mem hb
  rw [e] at e'
  cases e'
  exact up b o e nf
 refine ⟨⟨fun b o e n hb hx => ?_, fun b o e n hb hx => ?_, F.un.free, fun b o e hx => ?_, F.un.tups, F.un.frzs, F.un.tbls⟩, F.hok.stays fun b o u e e' => ?_⟩
 ·exact st b o (kB b o (F.un.keep b o e n hb hx) hb (.inl ⟨_, e⟩))
 ·obtain ⟨l, q⟩ := F.un.slot b o e n hb hx
  obtain ⟨l', q'⟩ := sl b _ hb q
  exact ⟨l', q'⟩
 ·obtain ⟨o', q⟩ := F.un.there b o e hx
  by_cases hb : b ∈ frs outer
  ·obtain ⟨l, q'⟩ := sl b _ hb q
   exact ⟨_, q'⟩
  ·exact ⟨o', st b o' (kB b o' q hb (.inl ⟨_, e⟩))⟩
 ·refine st b o (kB b o e' (fun z => ?_) (.inr (by rw [e]; simp)))
  rw [F.frf b z] at e
  cases e
end
section
variable {P : Program} {w : World} {K : W.Frag} {mg : zr} {base : Heap} {N : List Str} {qual : Str} {scope : Scope} {f : Addr} {cd : Value} {A : Around} {outer : List Env} {s0 : Shared} {H0 : Hp} {E : XK}
abbrev cxE (P : Program) (w : World) (K : W.Frag) (mg : zr) (base : Heap) (N : List Str) (qual : Str) (scope : Scope) (f : Addr) (cd : Value) (A : Around) (outer : List Env) (s0 : Shared) (H0 : Hp) (E : XK) : Cx :=
 cxOf (CXe P w) P w K mg base N qual scope f cd A outer s0 H0 E
theorem pN {en : Env} {L : Addr} (h : en.frame = some L) {b : Addr} : b ∈ frs (en :: outer) ↔ b = L \/ b ∈ frs outer := by
 unfold frs
 rw [List.filterMap_cons, h]
 exact List.mem_cons
theorem zM : Passes (CXe P w) (cxE P w K mg base N qual scope f cd A outer s0 H0 E) E := by
 intro pins σ H s e s' I h
 obtain ⟨ea, C, H', rfl, F, q⟩ := h
 have F : Flew P w (envOfC qual scope s0.heap.objs.size f cd :: outer) H s H' ea C s' := F
 have hfr : (A.deeper (envOfC qual scope s0.heap.objs.size f cd)).frames = some (envOfC qual scope s0.heap.objs.size f cd :: outer) := I.ok.frames
 have un0 : Un (frs outer) [] H0 H s0.heap s.heap := I.base
 have eos : s.os = s0.os := I.os
 have fc : ∀ {b : Addr}, b ∈ frs (envOfC qual scope s0.heap.objs.size f cd :: outer) ↔ b = s0.heap.objs.size \/ b ∈ frs outer := fun {b} => pN rfl
 obtain ⟨B, t, fl, kB⟩ := F.fly
 show wpAny (model P w) (A.deeper (envOfC qual scope s0.heap.objs.size f cd)) (leaving (envOfC qual scope s0.heap.objs.size f cd) (.ref ea)) _ _ s'
 refine wpAny_leaves_onW hfr rfl fl fun h2 fl2 up => ?_
 obtain ⟨u2, ok2⟩ := F.step kB fl.2.2.1 fl2.1 up
 have out0 : ∀ b o, s0.heap.get? b = some o -> b ∉ frs outer -> b ∉ frs (envOfC qual scope s0.heap.objs.size f cd :: outer) := fun b o e hb z => by
  rcases fc.mp z with y | y
  ·exact absurd (Heap.lt_size e) (by rw [y]; exact Nat.lt_irrefl _)
  ·exact hb y
 have un1 : Un (frs (envOfC qual scope s0.heap.objs.size f cd :: outer)) [] H0 H s0.heap s.heap := un0.mono (fun b hb => fc.mpr (.inr hb)) fun b hb => hb
 have un2 := un1.trans u2
 refine ⟨ea, C, H', rfl, ⟨F.os.trans eos, F.bare, ⟨fun b o e n hb hx' => un2.keep b o e n (out0 b o e hb) hx', fun b o e n hb hx' => un2.slot b o e n (fc.mpr (.inr hb)) hx', un2.free, un2.there, un2.tups, un2.frzs, un2.tbls⟩, ok2, fun b hb => F.frf b (fc.mpr (.inr hb)), B, t, fl2, fun b o e hb hc => ?_⟩, q⟩
 have inB : ∀ o', s'.heap.get? b = some o' -> b ∉ frs (envOfC qual scope s0.heap.objs.size f cd :: outer) -> ((∃ o1, s.heap.get? b = some o1) \/ H' b ≠ none) -> B.get? b = some o := fun o' e' hb' hc' => by
  have e2 := kB b o' e' hb' hc'
  have e3 : some o = some o' := e.symm.trans (fl2.1 b o' e2)
  rw [Option.some.inj e3]
  exact e2
 rcases hc with ⟨o0, e0⟩ | z
 ·obtain ⟨o1, e1⟩ := un0.there b o0 e0 (by simp)
  obtain ⟨o2, e2⟩ := F.un.there b o1 e1 (by simp)
  exact inB o2 e2 (out0 b o0 e0 hb) (.inl ⟨_, e1⟩)
 ·cases e1 : H' b with
  | none => exact absurd e1 z
  | some u =>
   obtain ⟨o', z'⟩ := (F.hok b u e1).obj
   refine inB o' z' (fun y => ?_) (.inr z)
   rw [F.frf b y] at e1
   cases e1
end
section
variable {P : Program} {w : World} {K : W.Frag} {mg : zr} {base : Heap}
theorem Fun.okE {x qual : Str} {st : Stmt} {f : Addr} {fd : FuncData} {N ps : List Str} {k : Nat} {sp : Sp} (F : Fun K x qual st f fd) (S : zA N ps (zw st)) (len : ∀ vs H Q E, sp vs H Q E -> vs.length = ps.length)
  (hbody : ∀ (cdv : Value) (A : Around) (outer : List Env) (s : Shared) (H : Hp) (vs : List V) (Q : VK) (E : XK), Room k (A.deeper (envOfC qual (zw st) s.heap.objs.size f cdv)) -> sp vs H Q E ->
   ∃ t, PSs (cxE P w K mg base N qual (zw st) f cdv A outer s H E) (zT st) t /\ t { nx := fun _ H' => Q .non H', rt := Q } (start N vs) H) : FnOk P w K mg base (CXe P w) (k + 1) f fd ps sp := by
 obtain ⟨oc, od, kV, doc, pm, an, cdv, ct, osl, rfl, lk, hcd⟩ := F.ex
 exact wq lk hcd S len fun A outer s H vs Q E hr hsp => hbody cdv A outer s H vs Q E hr hsp
end
section
variable {X : Cx} {x : Str} {C : Addr} {B newId initId : String} {bmB : List Value} {E : XK} {t : TA} {e : Expr} {es : List Expr} {np cpos pos : Pos}
end
noncomputable def excO (ea : Addr) (C : Value) : HO := .ext fun h => ∃ o, h.get? ea = some o /\ o.cls = C
theorem Inv.track {X : Cx} {pins : zt} {σ σ1 : St} {H H1 : Hp} {s s1 : Shared} {a : Addr} {o : HO} (I : Inv X pins σ H s) (I1 : Inv X pins σ1 H1 s1) (ha : s1.heap.get? a = none) (hn : H a = none)
  (new : zJ X.prog X.w (upd H a o) s.heap a o) : Inv X pins σ (upd H a o) s := by
 have ne : ∀ {b : Addr} {ob : Obj}, s1.heap.get? b = some ob -> b ≠ a := fun {b ob} e z => by
  subst z
  rw [ha] at e
  cases e
 refine ⟨I.ok, I.os, I.bare, ⟨I.base.keep, I.base.slot, fun b ob e n x => ?_, I.base.there, fun b xs e => ?_, fun b ob u e => ?_, fun b ps e => ?_⟩, I.loc, I.cell, ?_, fun x c e => ?_, fun p hp => ?_, I.hok.track hn new, I.len⟩
 ·obtain ⟨o1, e1⟩ := I1.base.there b ob e x
  rw [ah (ne e1)]
  exact I.base.free b ob e n x
 ·have q := I.base.tups b xs e
  rw [ah (ao q hn)]
  exact q
 ·have q := I.base.frzs b ob u e
  rw [ah (ao q hn)]
  exact q
 ·obtain ⟨m, q⟩ := I.base.tbls b ps e
  exact ⟨m, by rw [ah (ao q hn)]; exact q⟩
 ·obtain ⟨m, ⟨ob, _, _, e, _⟩, _⟩ := I1.loc
  rw [ah (ne e)]
  exact I.free
 ·obtain ⟨v, ob, e1, _⟩ := I1.cell x c e
  rw [ah (ne e1)]
  exact I.freeC x c e
 ·obtain ⟨e1, e2, e3, e4, e5⟩ := I.pin p hp
  exact ⟨e1, by rw [ah (ne (I1.pin p hp).1)]; exact e2, e3, e4, e5⟩
section
variable {X : Cx} {k : Nat} {f : Addr} {fd : FuncData} {ps : List Str} {sp : Sp} {dvs : List V} {ds : List Value} {x : Str} {p pos pos' : Pos} {e : Expr} {es : List Expr} {t : TA}
end
section
variable {X : Cx} {body suite : List Stmt} {b0 : Stmt} {tb : XK -> TS} {th : TS} {c : Str} {Cc : Value} {cp hp pos : Pos}
end
noncomputable def Ai (N : List Str) (x : Str) : Option Nat := N.findIdx? (fun y => y == x)
section
variable {X : Cx} {a b c : Expr} {ta tb tc : TE} {pos : Pos}
theorem cG {N : List Str} {x : Str} {i : Nat} (h : Ai N x = some i) : N[i]? = some x := by
 unfold Ai at h
 obtain ⟨hi, hp, _⟩ := List.findIdx?_eq_some_iff_getElem.mp h
 have : N[i] = x := by simpa using hp
 rw [List.getElem?_eq_getElem hi, this]
noncomputable def BY : R2 := fun x y H Q => match x, y with
 | .int i, .int j => Q (.int (i + j)) H
 | .str i, .str j => i.length + j.length <= sizeLine /\ Q (.str (i ++ j)) H
 | .ref a, .ref b => ∃ xs zs, H a = some (.lst xs) /\ H b = some (.lst zs) /\ xs.length + zs.length <= sizeLine /\ ∀ p, H p = none -> Q (.ref p) (upd H p (.lst (xs ++ zs)))
 | _, _ => False
noncomputable def rEqM (K : W.Frag) (neg : Bool) : R2 := fun x y H Q => match x, y with
 | .int i, .int j => Q (.bl (if neg then !decide (i = j) else decide (i = j))) H
 | .bl i, .bl j => Q (.bl (if neg then !decide (i = j) else decide (i = j))) H
 | .str i, .str j => Q (.bl (if neg then !decide (i = j) else decide (i = j))) H
 | x, y => rEqD K neg x y H Q
theorem dI (i j : Int) : decide (V.int i = V.int j) = decide (i = j) := by by_cases h : i = j <;> simp [h]
theorem dB (i j : Bool) : decide (V.bl i = V.bl j) = decide (i = j) := by by_cases h : i = j <;> simp [h]
theorem dS (i j : Str) : decide (V.str i = V.str j) = decide (i = j) := by by_cases h : i = j <;> simp [h]
theorem pO (hu : X.A.units + 64 < cLine) : OpR X (compareOp .Eq) (rEqM X.K false) := by
 intro pins s σ H x y v u Q I rx ry h
 unfold rEqM at h
 split at h
 next i j => exact pA pins s σ H _ _ v u Q I rx ry ⟨rfl, by rw [dI]; exact h⟩
 next i j => exact pA pins s σ H _ _ v u Q I rx ry ⟨rfl, by rw [dB]; exact h⟩
 next i j => exact pA pins s σ H _ _ v u Q I rx ry ⟨rfl, by rw [dS]; exact h⟩
 next => exact uD hu pins s σ H _ _ v u Q I rx ry h
theorem uF (hu : X.A.units + 64 < cLine) : OpR X (compareOp .NotEq) (rEqM X.K true) := by
 intro pins s σ H x y v u Q I rx ry h
 unfold rEqM at h
 split at h
 next i j => exact pB pins s σ H _ _ v u Q I rx ry ⟨rfl, by rw [dI]; exact h⟩
 next i j => exact pB pins s σ H _ _ v u Q I rx ry ⟨rfl, by rw [dB]; exact h⟩
 next i j => exact pB pins s σ H _ _ v u Q I rx ry ⟨rfl, by rw [dS]; exact h⟩
 next => exact uE hu pins s σ H _ _ v u Q I rx ry h
noncomputable def rIxM (K : W.Frag) : R2 := fun x y H Q => match x, y with
 | .ref p, .int i => ∃ xs v, (SqL K H p xs \/ SqT K H p xs) /\ atI xs i = some v /\ Q v H
 | _, _ => False
theorem yP : IxR X (rIxM X.K) := by
 intro value slice pins s σ H x y v u Q I rx ry h hs
 unfold rIxM at h
 split at h
 next p i =>
  obtain ⟨xs, w', h1, h2, h3⟩ := h
  rcases h1 with h1 | h1
  ·exact rA value slice pins s σ H _ _ v u Q I rx ry ⟨p, xs, i, w', rfl, rfl, h1, h2, h3⟩ hs
  ·exact uz value slice pins s σ H _ _ v u Q I rx ry ⟨p, xs, i, w', rfl, rfl, h1, h2, h3⟩ hs
 next => exact h.elim
end
end L2
namespace HT
open PySem PyProof.Rows
section
variable {prog : Program} {w : World} {A : Around} {E : zu} {s : Shared}
theorem eT {t sl : Addr} {items : Array Value} {vl vu : Value} {lo hi : Option Int} {Q : zu} (ht : IsTup s.heap t items) (hs : s.heap.IsSliceOf sl vl vu .none) (pl : IsPart vl lo) (pu : IsPart vu hi)
  (hw : sIx items.size 0 lo = 0 /\ sIx items.size items.size hi = items.size) (h : Q (.ref t) s) : wpAny (model prog w) A (getItem (.ref t) (.ref sl)) Q E s := by
 obtain ⟨o1, ho1, hc1, _⟩ := id hs
 have hT1 : s.TypeIs (.ref sl) "slice" := ⟨o1, ho1, hc1⟩
 unfold getItem
 try with_reducible refine wpAny_holding ?_
 first | refine wpAny_bind (wpAny_pure ?_) | skip
 refine wpAny_bind (wpAny_sequenceKey ht.typeIs (by decide) ?_)
 refine wpAny_bind (wpAny_callSpecial?_slot (name := Str.ofString "__getitem__") ht.typeIs slot_tuple_getitem (wpAny_call_entry slot_tuple_getitem ht.typeIs entry_tuple_getitem ?_ (args_tuple_getitem _ _)))
 show wpAny _ _ (Builtin.Tuple.tupleItemsOf (.ref t) >>= _) _ _ s
 refine wpAny_bind (tupleItemsOf_ ht (wpAny_bind (wpAny_typeOf hT1 ?_)))
 rw [if_pos (by decide)]
 refine wpAny_bind (cv hs pl pu ?_)
 rw [hw.1, hw.2]
 show wpAny _ _ (if ((((0 : Nat) : Int) == 0 && (1 : Int) == 1 && items.size - 0 == items.size) = true) then _ else _) _ _ s
 rw [if_pos (by simp)]
 refine wpAny_bind ?_
 unfold Builtin.Tuple.tupleIsExact
 refine wpAny_bind (wpAny_typeOf ht.typeIs (wpAny_pure ?_))
 rw [if_pos (by decide)]
 exact wpAny_bind (wpAny_rule (wpAny_pure ⟨_, rfl, wpAny_pure h⟩))
end
end HT
namespace L2
open PySem PySem.Spec PyProof.Rows
section
variable {X : Cx}
theorem ay {H : Hp} {p : Addr} {o : HO} (h : H p = none) : Same H (upd H p o) := fun b u e => by rw [ah (ao e h)]; exact e
end
structure Def (P : Program) (w : World) (K : W.Frag) (mg : zr) (base : Heap) (CX : CXT) (x : Str) (k : Nat) (f : Addr) (fd : FuncData) (ps : List Str) (sp : Sp) : Prop where
 ok : FnOk P w K mg base CX k f fd ps sp
 at_ : mg x = some (.ref f)
 kp : W.keepIn K (.ref f) = true
 bd : Binds K fd ps []
section
variable {X : Cx} {CX : CXT} {k j : Nat} {f : Addr} {fd : FuncData} {ps : List Str} {sp : Sp} {E : XK} {x : Str} {p pos pos' : Pos} {e : Expr} {es : List Expr} {t : TA} {te : TE}
theorem gI (D : Def X.prog X.w X.K X.mg X.base CX x k f fd ps sp) (hr : Room j X.A) (hx : Passes CX X E) (ha : PA X (e :: es) t) (hg : Gl X x := by rfl) (hk : k <= j := by decide) (hdb : (x == ("__debug__" : Str)) = false := by decide)
  (he : starEach (e :: es) X.env = (false, eval e X.env) :: starEach es X.env := by rfl) (hpl : (backTo pos (starEach es X.env)).any (·.1) = false := by rfl) : PE X (.Call (.Name x p) (e :: es) [] pos) (Bg sp [] E t) :=
 rl D.ok (hr.mono hk) hg D.at_ D.kp D.bd .nil hx ha hdb he hpl
end
noncomputable def tyD : PyData -> String
 | .none => "NoneType"
 | .bool _ => "bool"
 | .int _ => "int"
 | .str _ => "str"
 | .list _ => "list"
 | .tuple _ => "tuple"
 | .dict _ => "dict"
noncomputable def isiD (T : String) : PyData -> Bool
 | .bool _ => T == "bool" || T == "int"
 | d => T == tyD d
noncomputable def kitT (T : String) : Bool := T == "int" || T == "bool" || T == "str" || T == "list" || T == "tuple"
theorem rN {K : W.Frag} {T : String} {d : PyData} (hT : kitT T = true) (hd : ∀ kvs, d ≠ .dict kvs) : W.kitOne K (.type (tyD d)) (.type T) = some (isiD T d) := by
 unfold kitT at hT
 simp only [Bool.or_eq_true, beq_iff_eq] at hT
 rcases hT with (((h | h) | h) | h) | h <;> subst h <;> cases d <;> first | rfl | decide +kernel | exact absurd rfl (hd _)
section
variable {X : Cx}
theorem nM : A7 X (.builtin "isinstance") (fun xs H Q => ∃ x d T, xs = [x, .ty T] /\ kitT T = true /\ Dt X.K H x d /\ (∀ kvs, d ≠ .dict kvs) /\ Q (.bl (isiD T d)) H) := by
 intro pins s σ H xs us Q I r h
 obtain ⟨x, d, T, rfl, hT, hd, hnd, q⟩ := h
 obtain ⟨u, w', rfl, r1, r2⟩ := vals2 r
 cases (show w' = Value.type T from r2)
 have e := rN (K := X.K) hT hnd
 cases hd with
 | non => cases (show u = Value.none from r1); exact W.kia_one W.kitx_none I.kIn True.intro e (fun z => nomatch z) fun tk => ⟨.bl _, H, I.tok tk, rfl, q⟩
 | bl y => cases (show u = Value.bool y from r1); exact W.kia_one W.kitx_bool I.kIn True.intro e (fun z => nomatch z) fun tk => ⟨.bl _, H, I.tok tk, rfl, q⟩
 | int i => obtain ⟨t, z⟩ := (show ∃ t, u = Value.int i t from r1); cases z; exact W.kia_one W.kitx_int I.kIn True.intro e (fun z => nomatch z) fun tk => ⟨.bl _, H, I.tok tk, rfl, q⟩
 | str y => obtain ⟨t, z⟩ := (show ∃ t, u = Value.str y t from r1); cases z; exact W.kia_one W.kitx_str I.kIn True.intro e (fun z => nomatch z) fun tk => ⟨.bl _, H, I.tok tk, rfl, q⟩
 | @lst a xs ds hq _ =>
  cases (show u = Value.ref a from r1)
  obtain ⟨its, rv, ⟨o, n, h1, h2, _⟩, _⟩ := I.list (SqR.sq hq)
  exact W.kia_one W.kitx_list I.kIn ⟨o, h1, h2⟩ e (fun z => nomatch z) fun tk => ⟨.bl _, H, I.tok tk, rfl, q⟩
 | @tup a xs ds hq _ =>
  cases (show u = Value.ref a from r1)
  obtain ⟨its, rv, ⟨o, h1, h2, _⟩, _⟩ := I.tuple (.of hq)
  exact W.kia_one W.kitx_tuple I.kIn ⟨o, h1, h2⟩ e (fun z => nomatch z) fun tk => ⟨.bl _, H, I.tok tk, rfl, q⟩
 | dct _ _ => exact absurd rfl (hnd _)
theorem wz {x : Str} {T : String} {pos : Pos} (hm : X.mg x = none) (hv : bootBuiltins x = some (.type T)) (hg : Gl X x := by rfl) (hn : x ≠ "__name__" := by decide) (hd : (x == ("__debug__" : Str)) = false := by decide) : PE X (.Name x pos) (tC (.ty T)) := rh hg hm hv rfl hn hd
end
section
variable {P : Program} {w : World} {K : W.Frag} {mg : zr} {base : Heap} {CX : CXT} {N : List Str} {q : Str} {sc : Scope} {f : Addr} {cd : Value} {A : Around} {o : List Env} {s : Shared} {H : Hp} {E : XK} {X : Cx} {cl : List (Str × Addr)} {C : Addr} {ex : List Addr} {ea : Addr}
end
noncomputable def Ite (K : W.Frag) (a : Addr) : It :=
 ⟨fun i H => ∃ xs x, SqL K H a xs /\ xs[i]? = some x, fun i H x H' => ∃ p y, x = .ref p /\ H p = none /\ H' = upd H p (.tup [.int i, y]) /\ ∀ xs, SqL K H a xs -> xs[i]? = some y, fun i H => ∃ xs, SqL K H a xs /\ xs.length <= i⟩
theorem nN {P : Program} {w : World} {K : W.Frag} {ts : List Expr} {tk : Nat} {tp : Pos} (a e it : Addr) (hne : e ≠ it) : Turn P w K (.Tuple ts tk tp) (Ite K a) [e, it] e (fun i h => (∃ old, IsEnum h e it (i : Int) old) /\ h.IsListIter it a i) where
 mem := by simp
 obj := fun i h st b hb => by
  obtain ⟨⟨old, he⟩, o, ho, _, hd⟩ := st
  rcases List.mem_cons.mp hb with z | z
  ·subst z; exact ⟨_, he, fun v z => by cases z⟩
  ·have : b = it := by simpa using z
   subst this
   exact ⟨o, ho, fun v z => by rw [hd] at z; cases z⟩
 keep := fun i h h' st k => ⟨let ⟨old, he⟩ := st.1; ⟨old, k e (by simp) _ he⟩, st.2.at fun o q => k it (by simp) o q⟩
 item := by
  intro X hP hw hK hc i pins s σ H E I hf st hg
  subst hP hw hK
  obtain ⟨⟨old, he⟩, hit⟩ := st
  obtain ⟨xs, x, hq, hx⟩ := hg
  obtain ⟨its, rv, p, hz⟩ := I.list hq
  obtain ⟨u, hu, ru⟩ := rv.get hx
  refine wpAny_pyNext_enum_item he hit p.isList (x := u) (by simpa using hu) hne fun h' out hit' tup sz kp => ⟨_, rfl, ?_⟩
  refine wpAny_letOwnedTupleGo_enum out fun h2 he2 sb => ?_
  have fe := hf e (by simp)
  have fi := hf it (by simp)
  have ltE : e < s.heap.objs.size := Heap.lt_size he
  have ltI : it < s.heap.objs.size := let ⟨o, ho, _⟩ := hit; Heap.lt_size ho
  have k2 : ∀ b o, b ≠ e -> b ≠ it -> s.heap.get? b = some o -> h2.get? b = some o := fun b o h1 h2' q => (sb.2 b h1).trans (kp b o h1 h2' q)
  have tup2 : h2.get? s.heap.objs.size = some { cls := .type "tuple", data := .seq #[.int i s.toks, u] } := (sb.2 _ (Nat.ne_of_gt ltE)).trans tup
  have fr : H s.heap.objs.size = none := I.hok.fresh (Nat.le_refl _)
  have hok2 : HOk X.prog X.w H h2 := I.hok.stays fun b o v q q' => k2 b o (fun z => by subst z; rw [fe.1] at q; cases q) (fun z => by subst z; rw [fi.1] at q; cases q) q'
  have u1 : Un (frs X.stack) [e, it] H H s.heap h2 := ⟨fun b o q _ _ hx => k2 b o (fun z => hx (by rw [z]; simp)) (fun z => hx (by rw [z]; simp)) q, fun b o q _ _ hx => ⟨o.slots, k2 b o (fun z => hx (by rw [z]; simp)) (fun z => hx (by rw [z]; simp)) q⟩, fun _ _ _ n _ => n,
   fun b o q hx => ⟨o, k2 b o (fun z => hx (by rw [z]; simp)) (fun z => hx (by rw [z]; simp)) q⟩, fun _ _ q => q, fun _ _ _ q => q, fun _ ps q => ⟨#[], by rw [q]; simp⟩⟩
  have I2 : Inv X pins σ H { s with heap := h2, toks := s.toks + 1 } := I.call' (s' := { s with heap := h2, toks := s.toks + 1 }) (ch := [e, it]) rfl u1 hok2 I.bare fun b hb => by
   have fb := hf b hb
   exact ⟨fb.2.2.2.1, fb.2.1, fb.2.2.2.2.1, fb.2.2.2.2.2⟩
  have I3 : Inv X pins σ (upd H s.heap.objs.size (.tup [.int i, x])) { s with heap := h2, toks := s.toks + 1 } := I2.track I (Heap.get?_none_of_le (Nat.le_refl _)) fr ⟨by show 2 <= sizeLine; decide, [.int i s.toks, u], .cons ⟨_, rfl⟩ (.cons ru .nil), ⟨_, tup2, rfl, _, rfl⟩⟩
  refine ⟨.ref s.heap.objs.size, _, I3, rfl, ⟨_, x, rfl, fr, rfl, fun ys hy => by rw [I.list_inj hy hq]; exact hx⟩, ⟨⟨_, he2⟩, ?_⟩, fun b hb => ?_⟩
  ·exact hit'.at fun o q => (sb.2 it (Ne.symm hne)).trans q
  ·have : b < s.heap.objs.size := by
    rcases List.mem_cons.mp hb with z | z
    ·subst z; exact ltE
    ·have : b = it := by simpa using z
     subst this; exact ltI
   rw [ah (Nat.ne_of_lt this)]
   exact (hf b hb).1
 done := by
  intro X hP hw hK hc i pins s σ H E I hf st hg
  subst hP hw hK
  obtain ⟨⟨old, he⟩, hit⟩ := st
  obtain ⟨xs, hq, hx⟩ := hg
  obtain ⟨its, rv, p, hz⟩ := I.list hq
  obtain ⟨f0, f1, f2, f3, f4, f5⟩ := hf it (by simp)
  have hl := rv.length
  exact wpAny_pyNext_enum_end (I.ok.hd hc) he hit p.isList (by simp; lia) fun h' eb => ⟨rfl, I.turned (t' := s.toks) (fun b o hb e => eb b o hb e) f0 f1 f3 f4 f5⟩
 self := fun _ _ _ _ _ st h => let ⟨⟨_, he⟩, _⟩ := st; wpAny_pyIter_enum he h
section
variable {X : Cx} {ts : List Expr} {tk : Nat} {tp : Pos}
noncomputable def BP (K : W.Frag) (ta : TA) : TI := fun σ H R => ta σ H fun vs H1 => ∃ a, vs = [.ref a] /\ (∃ xs, SqL K H1 a xs) /\ R (Ite K a) H1
theorem rO {l : Expr} {ta : TA} {p pos : Pos} (hm : X.mg "enumerate" = none) (ha : PA X [l] ta) (hg : Gl X "enumerate" := by rfl) (hs : starEach [l] X.env = [(false, eval l X.env)] := by rfl) : PI X (.Tuple ts tk tp) (.Call (.Name "enumerate" p) [l] [] pos) (BP X.K ta) := by
 intro pins s σ H R I h
 refine Call_ (gy I hg hm boot_enumerate (callWith_type1 (thn (ha pos pins s σ H _ I h) fun us s1 ⟨vs, H1, I1, r1, q1⟩ => ?_) hs rfl))
 obtain ⟨a, e, ⟨xs, hq⟩, q⟩ := q1
 subst e
 obtain ⟨u, rfl, r⟩ := vals1 r1
 cases r
 obtain ⟨its, rv, pl, hz⟩ := I1.list hq
 refine call_enumerate_list pl.isList fun h' he hit hsz kp => wpAny_pyIter_enum he ?_
 have I2 : Inv X pins σ H1 { s1 with heap := h' } := I1.kept (t' := s1.toks) kp
 refine ⟨s1.heap.objs.size + 1, [s1.heap.objs.size + 1, s1.heap.objs.size], _, _, H1, rfl, I2, nN a _ _ (Nat.succ_ne_self _), ⟨⟨_, he⟩, hit⟩, fun b hb => ?_, q⟩
 have hb' : s1.heap.objs.size <= b := by
  rcases List.mem_cons.mp hb with z | z
  ·rw [z]; exact Nat.le_succ _
  ·have : b = s1.heap.objs.size := by simpa using z
   rw [this]; exact Nat.le_refl _
 exact I1.fpOk hb' (I1.hok.fresh hb')
noncomputable def iSeq (K : W.Frag) (tl : TE) : TI := fun σ H R => tl σ H fun x H1 => ∃ a, x = .ref a /\ (((∃ xs, SqL K H1 a xs) /\ R (Itl K a) H1) \/ ((∃ xs, SqT K H1 a xs) /\ R (Itt K a) H1))
theorem pP {tg l : Expr} {tl : TE} (hl : PE X l tl) : PI X tg l (iSeq X.K tl) := by
 intro pins s σ H R I h
 refine thn (hl pins s σ H _ I h) fun v s1 ⟨x, H1, I1, r1, q1⟩ => ?_
 obtain ⟨a, e, q⟩ := q1
 subst e
 cases r1
 have fp : ∀ b ∈ [s1.heap.objs.size], FpOk X pins H1 b := fun b hb => by
  have e : b = s1.heap.objs.size := by simpa using hb
  subst e
  exact I1.fpOk (Nat.le_refl _) (I1.hok.fresh (Nat.le_refl _))
 rcases q with ⟨⟨xs, hq⟩, q⟩ | ⟨⟨xs, hq⟩, q⟩
 ·obtain ⟨its, rv, p, hz⟩ := I1.list hq
  exact wpAny_pyIter_list p.isList ⟨s1.heap.objs.size, [s1.heap.objs.size], _, _, H1, rfl, I1.kept (t' := s1.toks) (fun b o e => Heap.get?_push_of_some _ e), nF a _, ⟨_, Heap.get?_push_size _ rfl, rfl, rfl⟩, fp, q⟩
 ·obtain ⟨its, rv, p, hz⟩ := I1.tuple hq
  exact wpAny_pyIter_tuple (show s1.heap.IsTuple a its.toArray from p) ⟨s1.heap.objs.size, [s1.heap.objs.size], _, _, H1, rfl, I1.kept (t' := s1.toks) (fun b o e => Heap.get?_push_of_some _ e), lM a _, ⟨_, Heap.get?_push_size _ rfl, rfl, rfl⟩, fp, q⟩
end
section
variable {X : Cx}
noncomputable def rIxD : R2 := fun x y H Q => ∃ a v, x = .ref a /\ DGet H a y (some v) /\ Q v H
theorem rP (hu : X.A.units + 1 < cLine) : IxR X rIxD := by
 intro value slice pins s σ H x y v u Q I rx ry h hs
 obtain ⟨a, w', rfl, g, q⟩ := h
 cases rx
 exact tail_any (kb I g) PySem.F.slot_dict_getitem.lookup (nH hu I g ry fun r s' I' rr => ⟨w', H, I', rr, q⟩) hs
noncomputable def rIxA (K : W.Frag) : R2 := fun x y H Q => rIxM K x y H Q \/ rIxD x y H Q
theorem yQ (hu : X.A.units + 1 < cLine) : IxR X (rIxA X.K) := yP.or (rP hu)
end
noncomputable def zF (scope : Scope) : List Str := (scope.names.filter fun y => y.2 == .free).map (·.1)
noncomputable def Ar (N : List Str) (scope : Scope) : List Nat := (zF scope).filterMap (Ai N)
noncomputable def Ak (N : List Str) (sc : Scope) (x : Str) (scope : Scope) : Bool :=
 scope.kind == .function && sc.kind == .function && (scope.names.all fun y => y.2 != .cell && (y.2 != .local || scope.names.lookup y.1 == some .local) && (y.2 != .free || (sc.names.lookup y.1 == some .cell || sc.names.lookup y.1 == some .free))) &&
 ((zF scope).all fun y => (Ai N y).isSome && y != x && scope.names.lookup y == some .free) && decide (x :: zF scope).Nodup && scope.names.lookup x == some .local
theorem dH {α β : Type} {f : α -> Option β} : ∀ {l : List α} {i : Nat} {x : α}, (∀ a ∈ l, (f a).isSome = true) -> l[i]? = some x -> (l.filterMap f)[i]? = f x
 | [], _, _, _, e => by simp at e
 | a :: r, i, x, h, e => by
  have ha := h a (List.mem_cons_self ..)
  obtain ⟨b, hb⟩ := Option.isSome_iff_exists.mp ha
  rw [List.filterMap_cons, hb]
  cases i with
  | zero => simp at e; subst e; simp [hb]
  | succ i =>
   simp only [List.getElem?_cons_succ] at e ⊢
   exact dH (fun a ha => h a (List.mem_cons_of_mem _ ha)) e
theorem dJ {α β : Type} {f : α -> Option β} : ∀ {l : List α}, (∀ a ∈ l, (f a).isSome = true) -> (l.filterMap f).length = l.length
 | [], _ => rfl
 | a :: r, h => by
  obtain ⟨b, hb⟩ := Option.isSome_iff_exists.mp (h a (List.mem_cons_self ..))
  rw [List.filterMap_cons, hb, List.length_cons, List.length_cons, dJ fun a ha => h a (List.mem_cons_of_mem _ ha)]
theorem eU {env : Env} {x : Str} : ∀ {names : List (Str × NameKind)} {k : NameKind}, names.lookup x = some .free -> (names.map fun (n, k) => if (k == NameKind.free && env.scope.kind == .function && env.kindOf n == some .cell) then (n, NameKind.cell) else (n, k)).lookup x = some k -> k = .cell \/ k = .free
 | [], _, h, _ => by simp at h
 | (n, k') :: r, k, h, e => by
  rw [List.map_cons] at e
  rw [List.lookup_cons] at h
  cases q : x == n with
  | true =>
   rw [q] at h
   have hk : k' = .free := Option.some.inj h
   subst hk
   split at e
   next n2 k2 heq =>
    simp only [Prod.mk.injEq] at heq
    obtain ⟨rfl, rfl⟩ := heq
    rw [apply_ite (fun z : Str × NameKind => List.lookup x (z :: _))] at e
    split at e
    ·rw [List.lookup_cons, q] at e; exact .inl (Option.some.inj e).symm
    ·rw [List.lookup_cons, q] at e; exact .inr (Option.some.inj e).symm
  | false =>
   rw [q] at h
   refine eU (env := env) (names := r) h ?_
   split at e
   next n2 k2 heq =>
    simp only [Prod.mk.injEq] at heq
    obtain ⟨rfl, rfl⟩ := heq
    rw [apply_ite (fun z : Str × NameKind => List.lookup x (z :: _))] at e
    split at e
    ·rw [List.lookup_cons, q] at e; exact e
    ·rw [List.lookup_cons, q] at e; exact e
section
variable {X : Cx} {N0 : List Str} {sc0 scope : Scope} {x : Str}
theorem gJ (hN : X.N = N0) (hsc : X.env.scope = sc0) (h : Ak N0 sc0 x scope = true) : A8 X [x] (Ar N0 scope) (x :: zF scope) scope /\ (x :: zF scope).Nodup := by
 unfold Ak at h
 simp only [Bool.and_eq_true, beq_iff_eq, List.all_eq_true, bne_iff_ne, ne_eq, Bool.or_eq_true, decide_eq_true_eq] at h
 obtain ⟨⟨⟨⟨⟨h1, h2⟩, h3⟩, h4⟩, h5⟩, h6⟩ := h
 have all : ∀ y ∈ zF scope, (Ai N0 y).isSome = true := fun y hy => (h4 y hy).1.1
 refine ⟨⟨h1, fun y hy => (h3 y hy).1.1, fun y hy e => ?_, by rw [hsc]; exact h2, fun y hy e => ?_, fun i y e => ?_, ?_⟩, h5⟩
 ·rcases (h3 y hy).1.2 with z | z
  ·exact absurd e z
  ·exact z
 ·rcases (h3 y hy).2 with z | z
  ·exact absurd e z
  ·show X.env.scope.names.lookup y.1 = _ \/ X.env.scope.names.lookup y.1 = _
   rw [hsc]; exact z
 ·cases i with
  | zero => exact .inl (by simp)
  | succ i =>
   simp only [List.getElem?_cons_succ] at e
   have hy := List.mem_of_getElem? e
   obtain ⟨j, hj⟩ := Option.isSome_iff_exists.mp (all y hy)
   have hfree := (h4 y hy).2
   refine .inr ⟨j, ?_, by rw [hN]; exact cG hj, ?_, fun k hk => eU hfree hk⟩
   ·show (Ar N0 scope)[i + 1 - 1]? = some j
    rw [Nat.add_sub_cancel]
    unfold Ar
    rw [dH all e, hj]
   ·have := (h3 (y, .free) (PySem.mem_of_lookup hfree)).2
    rcases this with z | z
    ·exact absurd rfl z
    ·show X.env.scope.names.lookup y = some .local \/ X.env.scope.names.lookup y = some .cell \/ X.env.scope.names.lookup y = some .free
     rw [hsc]
     rcases z with z | z
     ·exact .inr (.inl z)
     ·exact .inr (.inr z)
 ·show (x :: zF scope).length = 1 + (Ar N0 scope).length
  rw [List.length_cons, Ar, dJ all]
  lia
variable {elt iter : Expr} {wi : TI} {tc : TT} {te : TE} {pos px : Pos} {ifs : List Expr}
theorem iM {l : List Str} : Ai (x :: l) x = some 0 := by simp [Ai, List.findIdx?_cons]
theorem pQ (hok : Ak N0 sc0 x scope = true) (hi : PI X (.Name x px) iter wi) (ht : ∀ cl C ex s H, PTs (zH X (x :: zF scope) scope cl C ex s H) ifs tc) (he : ∀ cl C ex s H, PE (zH X (x :: zF scope) scope cl C ex s H) elt te) (hN : X.N = N0 := by rfl) (hsc : X.env.scope = sc0 := by rfl)
  (hcm : X.calm = true := by rfl) (hs : ∀ x, foldedSetIterable iter X.env x = pure x := by intro _; rfl) : PE X (.ListComp elt [⟨.Name x px, iter, ifs, 0⟩] scope pos) (AZ 1 (Ar N0 scope) wi (Ac 0) tc te) := by
 obtain ⟨S, nd⟩ := gJ hN hsc hok
 have hl : scope.names.lookup x = some .local := by
  unfold Ak at hok
  simp only [Bool.and_eq_true, beq_iff_eq] at hok
  exact hok.2
 exact rL S hcm hi (fun cl C ex s H => eJ nd (cG iM) (.inl (lookup_relabel_local hl)) (.inr (lookup_relabel_local hl))) ht he (gG Nat.one_pos) hs
theorem pR {i : Nat} {y : Str} {py spos : Pos} (hok : Ak N0 sc0 x scope = true) (hi : PI X (.Name x px) iter wi) (ht : ∀ cl C ex s H, PTs (zH X (x :: zF scope) scope cl C ex s H) ifs tc) (he : ∀ cl C ex s H, PE (zH X (x :: zF scope) scope cl C ex s H) elt te)
  (hy : Ai X.N y = some i) (hNd : X.N.Nodup) (hN : X.N = N0 := by rfl) (hsc : X.env.scope = sc0 := by rfl) (hcm : X.calm = true := by rfl) (hl : X.env.scope.names.lookup y = some .local := by rfl)
  (hsw : swapsWith (.ListComp elt [⟨.Name x px, iter, ifs, 0⟩] scope pos) (some (.Name y py)) spos.line X.env = pure true := by rfl) (hs : ∀ x, foldedSetIterable iter X.env x = pure x := by intro _; rfl) :
  PS X (.Assign [.Name y py] (.ListComp elt [⟨.Name x px, iter, ifs, 0⟩] scope pos) spos) (tAsg (AZ 1 (Ar N0 scope) wi (Ac 0) tc te) (Ac i)) := by
 obtain ⟨S, nd⟩ := gJ hN hsc hok
 have hl' : scope.names.lookup x = some .local := by
  unfold Ak at hok
  simp only [Bool.and_eq_true, beq_iff_eq] at hok
  exact hok.2
 exact rM S hcm hi (fun cl C ex s H => eJ nd (cG iM) (.inl (lookup_relabel_local hl')) (.inr (lookup_relabel_local hl'))) ht he (gG Nat.one_pos) hNd (cG hy) hl hsw hs
end
abbrev TJ := St -> Hp -> Str -> (Str -> Hp -> Prop) -> Prop
section
variable {X : Cx} {es : List Expr} {t : TJ} {pos : Pos}
end
inductive SD where
 | sh (d : PyData)
 | ol (ds : zq)
 | od (es : List (PyData × PyData))
 | ex (x : Str)
noncomputable def SD.owned : SD -> Prop
 | .ol _ => True
 | .od _ => True
 | _ => False
noncomputable def SD.toSh : SD -> Option PyData
 | .sh d => some d
 | .ol ds => some (.list ds)
 | .od es => some (.dict es)
 | .ex _ => none
abbrev DEnv := List (Option SD)
inductive Out (α : Type) where
 | ok (a : α)
 | exc (x : Str)
 | bad
noncomputable def Out.bind {α β : Type} (x : Out α) (f : α -> Out β) : Out β := match x with
 | .ok a => f a
 | .exc x => .exc x
 | .bad => .bad
@[simp] theorem Out.bind_ok {α β : Type} (a : α) (f : α -> Out β) : (Out.ok a).bind f = f a := rfl
@[simp] theorem Out.bind_exc {α β : Type} (x : Str) (f : α -> Out β) : (Out.exc x).bind f = .exc x := rfl
@[simp] theorem Out.bind_bad {α β : Type} (f : α -> Out β) : (Out.bad : Out α).bind f = .bad := rfl
class Tabs where
 ts : List Addr
 qual : Str
variable [Tabs]
noncomputable def BQ (c : Addr) (q : Str) : HO := .ext fun h => h.CodeRec (.ref c) q
noncomputable def AC (H : Hp) : Prop := ∀ P ∈ Tabs.ts, ∃ ps, H P = some (.tbl ps) /\ TriplesOk ps.toList /\ ∀ pos c, codeAmong pos ps.toList = some c -> ∃ c', c = .ref c' /\ H c' = some (BQ c' Tabs.qual)
structure Aj (H H' : Hp) : Prop where
 at_ : ∀ b o, H b = some o -> (∀ ps, o ≠ .tbl ps) -> H' b = some o
 nn : ∀ b, H b ≠ none -> H' b ≠ none
 ok : AC H -> AC H'
theorem Aj.of_same {H H' : Hp} (s : Same H H') : Aj H H' where
 at_ := fun b o e _ => s b o e
 nn := fun b h => by
  cases q : H b with
  | none => exact absurd q h
  | some o => rw [s b o q]; simp
 ok := fun t P hP => let ⟨ps, e, t1, t2⟩ := t P hP; ⟨ps, s _ _ e, t1, fun pos c hc => let ⟨c', e1, e2⟩ := t2 pos c hc; ⟨c', e1, s _ _ e2⟩⟩
theorem Aj.refl (H : Hp) : Aj H H := ⟨fun _ _ e _ => e, fun _ h => h, id⟩
theorem Aj.trans {H H1 H2 : Hp} (a : Aj H H1) (b : Aj H1 H2) : Aj H H2 := ⟨fun c o e n => b.at_ c o (a.at_ c o e n) n, fun c h => b.nn c (a.nn c h), fun t => b.ok (a.ok t)⟩
theorem Aj.free {H H' : Hp} (s : Aj H H') {l : Addr} (h : H' l = Option.none) : H l = Option.none := by
 cases q : H l with
 | none => rfl
 | some o => exact absurd h (s.nn l (by rw [q]; simp))
def NoT (G : Hp) : Prop := ∀ b ps, G b ≠ some (.tbl ps)
theorem NoT.upd {G : Hp} {p : Addr} {o : HO} (n : NoT G) (ho : ∀ ps, o ≠ .tbl ps) : NoT (upd G p o) := fun b ps z => by
 by_cases hb : b = p
 ·subst hb; rw [aj] at z; exact ho ps (Option.some.inj z)
 ·rw [ah hb] at z; exact n b ps z
structure Grow (G H G' H' : Hp) : Prop where
 hh : Aj H H'
 gg : Same G G'
 gh : Same G' H'
 nb : ∀ b, H b ≠ none -> G' b = G b
 nt : NoT G -> NoT G'
section
variable {G H G1 H1 G2 H2 G' H' : Hp} {p b : Addr} {o : HO}
theorem Grow.refl (h : Same G H) : Grow G H G H := ⟨.refl _, .refl _, h, fun _ _ => rfl, id⟩
theorem Grow.trans (a : Grow G H G1 H1) (c : Grow G1 H1 G2 H2) : Grow G H G2 H2 :=
 ⟨a.hh.trans c.hh, a.gg.trans c.gg, c.gh, fun b h => (c.nb b (a.hh.nn b h)).trans (a.nb b h), fun n => c.nt (a.nt n)⟩
theorem Grow.laid (h : Same G H) (hp : H p = none) (ho : ∀ ps, o ≠ .tbl ps := by intro _ z; cases z) : Grow G H (upd G p o) (upd H p o) where
 hh := .of_same (ay hp)
 nt := fun n => n.upd ho
 gg := ay (h.free hp)
 gh := fun b u e => by
  by_cases z : b = p
  ·subst z; rw [aj] at e ⊢; exact e
  ·rw [ah z] at e ⊢; exact h b u e
 nb := fun b hb => ah (fun z => hb (z ▸ hp))
theorem Grow.laidO (h : Same G H) (hp : H p = none) : Grow G H G (upd H p o) := ⟨.of_same (ay hp), .refl _, h.trans (ay hp), fun _ _ => rfl, id⟩
end
noncomputable def VR (K : W.Frag) (mg : zr) (G H : Hp) (v : V) : SD -> Prop
 | .sh d => Dt K G v d
 | .ol ds => ∃ a xs, v = .ref a /\ G a = none /\ H a = some (.lst xs) /\ Dts K G xs ds
 | .od es => ∃ a kvs, v = .ref a /\ G a = none /\ H a = some (.dK kvs) /\ Des K G kvs es
 | .ex x => ∃ a C, v = .ref a /\ mg x = some C /\ H a = some (excO a C)
structure Rel (K : W.Frag) (mg : zr) (G0 H0 G H : Hp) (σ : St) (δ : DEnv) : Prop where
 g : Grow G0 H0 G H
 len : δ.length = σ.length
 sl : ∀ (i : Nat) sd, δ[i]? = some (some sd) -> ∃ v, σ[i]? = some (some v) /\ VR K mg G H v sd
 fr : ∀ (i : Nat) sd a, δ[i]? = some (some sd) -> sd.owned -> σ[i]? = some (some (.ref a)) -> H0 a = none
 ap : ∀ (i j : Nat) sd te a, δ[i]? = some (some sd) -> δ[j]? = some (some te) -> sd.owned -> te.owned -> σ[i]? = some (some (.ref a)) -> σ[j]? = some (some (.ref a)) -> i = j
 tb : AC H0
 n0 : NoT G0
noncomputable def VN (K : W.Frag) (mg : zr) (H G' H' : Hp) (v : V) (r : SD) : Prop := VR K mg G' H' v r /\ (r.owned -> ∀ a, v = .ref a -> H a = none)
noncomputable def RR (K : W.Frag) (mg : zr) (H0 G H : Hp) (σ : St) (δ : DEnv) (v : V) (r : SD) : Prop :=
 VR K mg G H v r /\ (r.owned -> ∀ a, v = .ref a -> H0 a = none /\ ∀ (i : Nat) sd, δ[i]? = some (some sd) -> sd.owned -> σ[i]? ≠ some (some (.ref a)))
section
variable {K : W.Frag} {mg : zr} {G0 H0 G H G' H' : Hp} {σ : St} {δ : DEnv} {v : V} {r sd : SD} {i : Nat} {p a : Addr} {o : HO}
theorem VR.grow (g : Grow G H G' H') (h : VR K mg G H v r) : VR K mg G' H' v r := by
 cases r with
 | sh d => exact Dt.mono g.gg h
 | ol ds =>
  obtain ⟨a, xs, rfl, h1, h2, h3⟩ := h
  exact ⟨a, xs, rfl, (g.nb a (by rw [h2]; simp)).trans h1, g.hh.at_ _ _ h2 (by intro _ z; cases z), h3.mono g.gg⟩
 | od es =>
  obtain ⟨a, xs, rfl, h1, h2, h3⟩ := h
  exact ⟨a, xs, rfl, (g.nb a (by rw [h2]; simp)).trans h1, g.hh.at_ _ _ h2 (by intro _ z; cases z), h3.mono g.gg⟩
 | ex x =>
  obtain ⟨a, C, rfl, h1, h2⟩ := h
  exact ⟨a, C, rfl, h1, g.hh.at_ _ _ h2 (by intro _ z; cases z)⟩
theorem VR.own (h : VR K mg G H v r) (ho : r.owned) : ∃ a, v = .ref a /\ G a = none /\ H a ≠ none := by
 cases r with
 | sh d => exact ho.elim
 | ol ds => obtain ⟨a, xs, rfl, h1, h2, h3⟩ := h; exact ⟨a, rfl, h1, by rw [h2]; simp⟩
 | od es => obtain ⟨a, xs, rfl, h1, h2, h3⟩ := h; exact ⟨a, rfl, h1, by rw [h2]; simp⟩
 | ex x => exact ho.elim
theorem Rel.grow (R : Rel K mg G0 H0 G H σ δ) (g : Grow G H G' H') : Rel K mg G0 H0 G' H' σ δ :=
 ⟨R.g.trans g, R.len, fun i sd e => let ⟨v, h1, h2⟩ := R.sl i sd e; ⟨v, h1, h2.grow g⟩, R.fr, R.ap, R.tb, R.n0⟩
theorem Rel.own_ne (R : Rel K mg G0 H0 G H σ δ) (e : δ[i]? = some (some sd)) (ho : sd.owned) (hs : σ[i]? = some (some (.ref a))) : G a = none /\ H a ≠ none := by
 obtain ⟨v, h1, h2⟩ := R.sl i sd e
 obtain ⟨b, rfl, h3, h4⟩ := h2.own ho
 rw [hs] at h1
 cases h1
 exact ⟨h3, h4⟩
theorem RR.of_new (R : Rel K mg G0 H0 G H σ δ) (n : VN K mg H G' H' v r) : RR K mg H0 G' H' σ δ v r :=
 ⟨n.1, fun ho a e => ⟨R.g.hh.free (n.2 ho a e), fun i sd h1 h2 h3 => (R.own_ne h1 h2 h3).2 (n.2 ho a e)⟩⟩
theorem RR.new (n : RR K mg H0 G H σ δ v r) : VN K mg H0 G H v r := ⟨n.1, fun ho a e => (n.2 ho a e).1⟩
theorem RR.sh {d : PyData} (h : Dt K G v d) : RR K mg H0 G H σ δ v (.sh d) := ⟨h, fun z => z.elim⟩
theorem Rel.pub (R : Rel K mg G0 H0 G H σ δ) (hG : G p = none) (hH : H p = some o) (h0 : H0 p = none) (hn : ∀ (i : Nat) sd, δ[i]? = some (some sd) -> sd.owned -> σ[i]? ≠ some (some (.ref p))) (ho : ∀ ps, o ≠ .tbl ps := by intro _ z; cases z) : Rel K mg G0 H0 (upd G p o) H σ δ where
 tb := R.tb
 n0 := R.n0
 g := ⟨R.g.hh, R.g.gg.trans (ay hG), fun b u e => by
   by_cases z : b = p
   ·subst z; rw [aj] at e; rw [hH]; exact e
   ·rw [ah z] at e; exact R.g.gh b u e, fun b hb => (ah (fun z => hb (by rw [z]; exact h0))).trans (R.g.nb b hb), fun n => (R.g.nt n).upd ho⟩
 len := R.len
 sl := fun i sd e => by
  obtain ⟨v, h1, h2⟩ := R.sl i sd e
  refine ⟨v, h1, ?_⟩
  have s : Same G (upd G p o) := ay hG
  cases sd with
  | sh d => exact Dt.mono s h2
  | ol ds =>
   obtain ⟨a, xs, rfl, q1, q2, q3⟩ := h2
   exact ⟨a, xs, rfl, (ah fun z => hn i _ e trivial (by rw [<- z]; exact h1)).trans q1, q2, q3.mono s⟩
  | od ds =>
   obtain ⟨a, xs, rfl, q1, q2, q3⟩ := h2
   exact ⟨a, xs, rfl, (ah fun z => hn i _ e trivial (by rw [<- z]; exact h1)).trans q1, q2, q3.mono s⟩
  | ex x => exact h2
 fr := R.fr
 ap := R.ap
theorem RR.share {d : PyData} (R : Rel K mg G0 H0 G H σ δ) (h : RR K mg H0 G H σ δ v r) (e : r.toSh = some d) : ∃ G', Rel K mg G0 H0 G' H σ δ /\ Same G G' /\ Dt K G' v d := by
 cases r with
 | sh d' => cases e; exact ⟨G, R, .refl _, h.1⟩
 | ol ds =>
  cases e
  obtain ⟨⟨a, xs, rfl, h1, h2, h3⟩, hf⟩ := h
  obtain ⟨f1, f2⟩ := hf trivial a rfl
  exact ⟨_, R.pub h1 h2 f1 f2, ay h1, .lst (.of aj) (h3.mono (ay h1))⟩
 | od es =>
  cases e
  obtain ⟨⟨a, xs, rfl, h1, h2, h3⟩, hf⟩ := h
  obtain ⟨f1, f2⟩ := hf trivial a rfl
  exact ⟨_, R.pub h1 h2 f1 f2, ay h1, .dct aj (h3.mono (ay h1))⟩
 | ex x => cases e
theorem aB {α : Type} {l : List α} {i j : Nat} {x y : α} (h : (l.set i x)[j]? = some y) : (j = i /\ y = x) \/ (j ≠ i /\ l[j]? = some y) := by
 by_cases z : j = i
 ·subst z
  by_cases hl : j < l.length
  ·rw [List.getElem?_set_self hl] at h
   exact .inl ⟨rfl, (Option.some.inj h).symm⟩
  ·rw [List.getElem?_eq_none (by rw [List.length_set]; lia)] at h
   cases h
 ·rw [List.getElem?_set_ne (Ne.symm z)] at h
  exact .inr ⟨z, h⟩
theorem Rel.store (R : Rel K mg G0 H0 G H σ δ) (hi : i < σ.length) (h : RR K mg H0 G H σ (δ.set i none) v r) : Rel K mg G0 H0 G H (σ.set i (some v)) (δ.set i (some r)) where
 tb := R.tb
 n0 := R.n0
 g := R.g
 len := by rw [List.length_set, List.length_set]; exact R.len
 sl := fun j sd e => by
  rcases aB e with ⟨rfl, z⟩ | ⟨hj, e'⟩
  ·cases z
   exact ⟨v, List.getElem?_set_self hi, h.1⟩
  ·obtain ⟨w, h1, h2⟩ := R.sl j sd e'
   exact ⟨w, by rw [List.getElem?_set_ne (Ne.symm hj)]; exact h1, h2⟩
 fr := fun j sd a e ho hs => by
  rcases aB e with ⟨rfl, z⟩ | ⟨hj, e'⟩
  ·cases z
   rw [List.getElem?_set_self hi] at hs
   cases hs
   exact (h.2 ho a rfl).1
  ·rw [List.getElem?_set_ne (Ne.symm hj)] at hs
   exact R.fr j sd a e' ho hs
 ap := fun j k sd te a e1 e2 h1 h2 s1 s2 => by
  have key : ∀ {m n : Nat} {sm sn : SD}, (δ.set i (some r))[m]? = some (some sm) -> δ[n]? = some (some sn) -> n ≠ i -> m = i -> sm.owned -> sn.owned -> (σ.set i (some v))[m]? = some (some (.ref a)) -> σ[n]? = some (some (.ref a)) -> False := fun {m n sm sn} f1 f2 hk hj g1 g2 t1 t2 => by
   subst hj
   rcases aB f1 with ⟨_, z⟩ | ⟨z, _⟩
   ·cases z
    rw [List.getElem?_set_self hi] at t1
    cases t1
    exact (h.2 g1 a rfl).2 n sn (by rw [List.getElem?_set_ne (Ne.symm hk)]; exact f2) g2 t2
   ·exact z rfl
  rcases aB e1 with ⟨z1, _⟩ | ⟨z1, q1⟩
  ·rcases aB e2 with ⟨z2, _⟩ | ⟨z2, q2⟩
   ·rw [z1, z2]
   ·rw [List.getElem?_set_ne (Ne.symm z2)] at s2
    exact (key e1 q2 z2 z1 h1 h2 s1 s2).elim
  ·rw [List.getElem?_set_ne (Ne.symm z1)] at s1
   rcases aB e2 with ⟨z2, _⟩ | ⟨z2, q2⟩
   ·exact (key e2 q1 z1 z2 h2 h1 s2 s1).elim
   ·rw [List.getElem?_set_ne (Ne.symm z2)] at s2
    exact R.ap j k sd te a q1 q2 h1 h2 s1 s2
theorem RR.less {k : Nat} (h : RR K mg H0 G H σ δ v r) : RR K mg H0 G H σ (δ.set k none) v r :=
 ⟨h.1, fun ho a e => ⟨(h.2 ho a e).1, fun i sd q h2 => by
  rcases aB q with ⟨_, z⟩ | ⟨_, z⟩
  ·cases z
  ·exact (h.2 ho a e).2 i sd z h2⟩⟩
theorem Rel.forget (R : Rel K mg G0 H0 G H σ δ) (i : Nat) : Rel K mg G0 H0 G H σ (δ.set i none) where
 tb := R.tb
 n0 := R.n0
 g := R.g
 len := by rw [List.length_set]; exact R.len
 sl := fun j sd e => by
  rcases aB e with ⟨_, z⟩ | ⟨_, z⟩
  ·cases z
  ·exact R.sl j sd z
 fr := fun j sd a e ho hs => by
  rcases aB e with ⟨_, z⟩ | ⟨_, z⟩
  ·cases z
  ·exact R.fr j sd a z ho hs
 ap := fun j k sd te a e1 e2 h1 h2 s1 s2 => by
  rcases aB e1 with ⟨_, z⟩ | ⟨_, z1⟩
  ·cases z
  ·rcases aB e2 with ⟨_, z⟩ | ⟨_, z2⟩
   ·cases z
   ·exact R.ap j k sd te a z1 z2 h1 h2 s1 s2
theorem gK {α : Type} {l : List α} {i : Nat} {x : α} (h : l[i]? = some x) : l.set i x = l := by
 apply List.ext_getElem?
 intro j
 by_cases z : i = j
 ·subst z
  rw [List.getElem?_set_self (List.getElem?_eq_some_iff.mp h).1, h]
 ·rw [List.getElem?_set_ne z]
theorem Rel.at_ (R : Rel K mg G0 H0 G H σ δ) (e : δ[i]? = some (some r)) : ∃ v, σ[i]? = some (some v) /\ RR K mg H0 G H σ (δ.set i none) v r := by
 obtain ⟨v, h1, h2⟩ := R.sl i r e
 refine ⟨v, h1, h2, fun ho a ea => ⟨R.fr i r a e ho (ea ▸ h1), fun j sd q hs z => ?_⟩⟩
 rcases aB q with ⟨_, y⟩ | ⟨hj, y⟩
 ·cases y
 ·exact hj (R.ap i j r sd a e y ho hs (ea ▸ h1) z).symm
theorem Rel.share {d : PyData} (R : Rel K mg G0 H0 G H σ δ) (e : δ[i]? = some (some r)) (ed : r.toSh = some d) : ∃ G' v, Rel K mg G0 H0 G' H σ (δ.set i (some (.sh d))) /\ Same G G' /\ σ[i]? = some (some v) /\ Dt K G' v d := by
 obtain ⟨v, h1, h2⟩ := R.at_ e
 obtain ⟨G', R', s, hd⟩ := h2.share (R.forget i) ed
 have hi : i < σ.length := (List.getElem?_eq_some_iff.mp h1).1
 have R2 := R'.store hi (r := .sh d) (v := v) (RR.sh hd)
 rw [gK h1, List.set_set] at R2
 exact ⟨G', v, R2, s, h1, hd⟩
theorem Rel.write (R : Rel K mg G0 H0 G H σ δ) (e : δ[i]? = some (some r)) (ho : r.owned) (hs : σ[i]? = some (some (.ref a))) {r' : SD} (hr : VR K mg G (upd H a o) (.ref a) r') (hm : Mut (H a)) (hx : ∀ C, H a ≠ some (excO a C)) : Rel K mg G0 H0 G (upd H a o) σ (δ.set i (some r')) where
 g := by
  have h0 := R.fr i r a e ho hs
  have hG := (R.own_ne e ho hs).1
  have kin : (∃ xs, H a = some (.lst xs)) \/ (∃ xs, H a = some (.dK xs)) := by
   obtain ⟨v, h1, h2⟩ := R.sl i r e
   rw [hs] at h1
   cases h1
   cases r with
   | sh d => exact ho.elim
   | ol ds => obtain ⟨b, xs, e1, _, e2, _⟩ := h2; cases e1; exact .inl ⟨_, e2⟩
   | od ds => obtain ⟨b, xs, e1, _, e2, _⟩ := h2; cases e1; exact .inr ⟨_, e2⟩
   | ex x => exact ho.elim
  have nT : ∀ {b : Addr} {u : HO}, H b = some u -> ((∃ ps, u = .tbl ps) \/ (∃ φ, u = .ext φ)) -> b ≠ a := fun {b u} q z w => by
   subst w
   rcases kin with ⟨xs, k⟩ | ⟨xs, k⟩
   ·rw [k] at q; cases q; rcases z with ⟨_, z⟩ | ⟨_, z⟩ <;> cases z
   ·rw [k] at q; cases q; rcases z with ⟨_, z⟩ | ⟨_, z⟩ <;> cases z
  refine ⟨⟨fun b u q n => ?_, fun b q => ?_, fun t P hP => ?_⟩, R.g.gg, fun b u q => ?_, R.g.nb, R.g.nt⟩
  ·rw [ah (ao q h0)]; exact R.g.hh.at_ b u q n
  ·rw [ah (fun z => q (by rw [z]; exact h0))]; exact R.g.hh.nn b q
  ·obtain ⟨ps, e1, t1, t2⟩ := R.g.hh.ok t P hP
   refine ⟨ps, (ah (nT e1 (.inl ⟨_, rfl⟩))).trans e1, t1, fun pos c hc => ?_⟩
   obtain ⟨c', e2, e3⟩ := t2 pos c hc
   exact ⟨c', e2, (ah (nT e3 (.inr ⟨_, rfl⟩))).trans e3⟩
  ·rw [ah (ao q hG)]; exact R.g.gh b u q
 tb := R.tb
 n0 := R.n0
 len := by rw [List.length_set]; exact R.len
 sl := fun j sd q => by
  rcases aB q with ⟨rfl, z⟩ | ⟨hj, q⟩
  ·cases z
   exact ⟨_, hs, hr⟩
  ·obtain ⟨v, h1, h2⟩ := R.sl j sd q
   refine ⟨v, h1, ?_⟩
   have ne : ∀ b, sd.owned -> v = .ref b -> b ≠ a := fun b hb ev z => by
    subst ev z
    exact hj (R.ap i j r sd b e q ho hb hs h1).symm
   cases sd with
   | sh d => exact h2
   | ol ds =>
    obtain ⟨b, xs, rfl, q1, q2, q3⟩ := h2
    exact ⟨b, xs, rfl, q1, (ah (ne b trivial rfl)).trans q2, q3⟩
   | od ds =>
    obtain ⟨b, xs, rfl, q1, q2, q3⟩ := h2
    exact ⟨b, xs, rfl, q1, (ah (ne b trivial rfl)).trans q2, q3⟩
   | ex x =>
    obtain ⟨b, C, rfl, q1, q2⟩ := h2
    exact ⟨b, C, rfl, q1, (ah fun z => hx C (by rw [<- z]; exact q2)).trans q2⟩
 fr := fun j sd b q hb hs' => by
  rcases aB q with ⟨rfl, _⟩ | ⟨_, q⟩
  ·rw [hs] at hs'
   cases hs'
   exact R.fr _ r _ e ho hs
  ·exact R.fr j sd b q hb hs'
 ap := fun j k sd te b q1 q2 h1 h2 s1 s2 => by
  rcases aB q1 with ⟨z1, _⟩ | ⟨z1, y1⟩
  ·rcases aB q2 with ⟨z2, _⟩ | ⟨z2, y2⟩
   ·rw [z1, z2]
   ·rw [z1] at s1
    rw [z1]
    exact R.ap i k r te b e y2 ho h2 s1 s2
  ·rcases aB q2 with ⟨z2, _⟩ | ⟨z2, y2⟩
   ·rw [z2] at s2
    rw [z2]
    exact R.ap j i sd r b y1 e h1 ho s1 s2
   ·exact R.ap j k sd te b y1 y2 h1 h2 s1 s2
theorem Rel.tabs (R : Rel K mg G0 H0 G H σ δ) : AC H := R.g.hh.ok R.tb
theorem Rel.noT (R : Rel K mg G0 H0 G H σ δ) : NoT G := R.g.nt R.n0
end
section
variable (K : W.Frag) (mg : zr) (E : XK)
abbrev DE := DEnv -> Out (SD × DEnv)
abbrev DD := DEnv -> Out (PyData × DEnv)
abbrev DA := DEnv -> Out (zq × DEnv)
abbrev DT := DEnv -> Out (Bool × DEnv)
noncomputable def PoX (H0 : Hp) (x : Str) : Prop := ∀ H' C, Aj H0 H' -> mg x = some C -> E C none H'
noncomputable def PoE (G0 H0 G : Hp) (σ : St) (Q : VK) : Out (SD × DEnv) -> Prop
 | .ok p => ∀ v H' G', Rel K mg G0 H0 G' H' σ p.2 -> Same G G' -> RR K mg H0 G' H' σ p.2 v p.1 -> Q v H'
 | .exc x => PoX mg E H0 x
 | .bad => False
noncomputable def tE (f : DE) : TE := fun σ H Q => ∃ G0 H0 G δ, Rel K mg G0 H0 G H σ δ /\ PoE K mg E G0 H0 G σ Q (f δ)
noncomputable def PoD (G0 H0 G : Hp) (σ : St) (Q : VK) : Out (PyData × DEnv) -> Prop
 | .ok p => ∀ v H' G', Rel K mg G0 H0 G' H' σ p.2 -> Same G G' -> Dt K G' v p.1 -> Q v H'
 | .exc x => PoX mg E H0 x
 | .bad => False
noncomputable def PoA (G0 H0 G : Hp) (σ : St) (Q : List V -> Hp -> Prop) : Out (zq × DEnv) -> Prop
 | .ok p => ∀ vs H' G', Rel K mg G0 H0 G' H' σ p.2 -> Same G G' -> Dts K G' vs p.1 -> Q vs H'
 | .exc x => PoX mg E H0 x
 | .bad => False
noncomputable def tA (f : DA) : TA := fun σ H Q => ∃ G0 H0 G δ, Rel K mg G0 H0 G H σ δ /\ PoA K mg E G0 H0 G σ Q (f δ)
noncomputable def PoT (G0 H0 G : Hp) (σ : St) (Q : Bool -> Hp -> Prop) : Out (Bool × DEnv) -> Prop
 | .ok p => ∀ H' G', Rel K mg G0 H0 G' H' σ p.2 -> Same G G' -> Q p.1 H'
 | .exc x => PoX mg E H0 x
 | .bad => False
noncomputable def tT (f : DT) : TT := fun σ H Q => ∃ G0 H0 G δ, Rel K mg G0 H0 G H σ δ /\ PoT K mg E G0 H0 G σ Q (f δ)
end
noncomputable def vE (f : DE) : DD := fun δ => (f δ).bind fun p => match p.1.toSh with
 | some d => .ok (d, p.2)
 | none => .bad
section
variable {X : Cx}
theorem PE.weak {e : Expr} {t t' : TE} (h : PE X e t) (k : ∀ σ H Q, t' σ H Q -> t σ H Q) : PE X e t' := fun pins s σ H Q I q => h pins s σ H Q I (k σ H Q q)
theorem PT.weak {e : Expr} {t t' : TT} (h : PT X e t) (k : ∀ σ H Q, t' σ H Q -> t σ H Q) : PT X e t' := fun pins s σ H Q I q => h pins s σ H Q I (k σ H Q q)
theorem PW.weak {e : Expr} {t t' : TT} (h : PW X e t) (k : ∀ σ H Q, t' σ H Q -> t σ H Q) : PW X e t' := fun wh pins s σ H Q I q => h wh pins s σ H Q I (k σ H Q q)
theorem PS.weak {e : Stmt} {t t' : TS} (h : PS X e t) (k : ∀ D σ H, t' D σ H -> t D σ H) : PS X e t' := fun pins s σ H D I q => h pins s σ H D I (k D σ H q)
theorem PSs.weak {e : List Stmt} {t t' : TS} (h : PSs X e t) (k : ∀ D σ H, t' D σ H -> t D σ H) : PSs X e t' := fun pins s σ H D I q => h pins s σ H D I (k D σ H q)
theorem PI.weak {tg e : Expr} {t t' : TI} (h : PI X tg e t) (k : ∀ σ H Q, t' σ H Q -> t σ H Q) : PI X tg e t' := fun pins s σ H Q I q => h pins s σ H Q I (k σ H Q q)
end
section
variable {K : W.Frag} {mg : zr} {E : XK} {G0 H0 G H : Hp} {σ : St} {δ : DEnv}
theorem rQ {f : DE} {Q : VK} (R : Rel K mg G0 H0 G H σ δ) (h : PoD K mg E G0 H0 G σ Q (vE f δ)) : tE K mg E f σ H Q := by
 refine ⟨G0, H0, G, δ, R, ?_⟩
 unfold vE at h
 cases e : f δ with
 | ok p =>
  rw [e, Out.bind_ok] at h
  intro v H' G' R' s rr
  cases e2 : p.1.toSh with
  | none => rw [e2] at h; exact h.elim
  | some d =>
   rw [e2] at h
   obtain ⟨G2, R2, s2, hd⟩ := rr.share R' e2
   exact h v H' G2 R2 (s.trans s2) hd
 | exc x => rw [e] at h; exact h
 | bad => rw [e] at h; exact h
end
abbrev SE (X : Cx) (E : XK) (e : Expr) (f : DE) : Prop := PE X e (tE X.K X.mg E f)
abbrev ST (X : Cx) (E : XK) (e : Expr) (f : DT) : Prop := PT X e (tT X.K X.mg E f)
mutual
noncomputable def zy : PyData -> Bool
 | .list _ => false
 | .dict _ => false
 | .tuple ds => zx ds
 | _ => true
noncomputable def zx : zq -> Bool
 | [] => true
 | d :: ds => zy d && zx ds
end
noncomputable def SD.pure : SD -> Bool
 | .sh d => zy d
 | .ol ds => zx ds
 | .od es => zx (es.map (·.2))
 | .ex _ => false
noncomputable def hid (l : List Addr) (G : Hp) : Hp := fun b => if b ∈ l then none else G b
noncomputable def Muts (l : List Addr) (G : Hp) : Prop := ∀ b ∈ l, (∃ xs, G b = some (.lst xs)) \/ ∃ kvs, G b = some (.dK kvs)
theorem rR {l : List Addr} {G : Hp} {a : Addr} {xs : List V} (hl : Muts l G) (h : TuT G a xs) : TuT (hid l G) a xs := by
 unfold TuT hid
 rw [if_neg]
 ·exact h
 ·intro z
  rcases hl a z with ⟨xs, q⟩ | ⟨kvs, q⟩
  ·rw [h] at q; cases q
  ·rw [h] at q; cases q
section
variable {K : W.Frag} {l : List Addr} {G : Hp}
mutual
theorem Dt.hid (hl : Muts l G) : ∀ {v : V} {d : PyData}, Dt K G v d -> zy d = true -> Dt K (hid l G) v d
 | _, _, .non, _ => .non
 | _, _, .bl b, _ => .bl b
 | _, _, .int i, _ => .int i
 | _, _, .str x, _ => .str x
 | _, _, .lst q r, h => by exact absurd h (by simp [zy])
 | _, _, .tup q r, h => .tup (rR hl q) (Dts.hid hl r (by simpa [zy] using h))
 | _, _, .dct q r, h => by exact absurd h (by simp [zy])
theorem Dts.hid (hl : Muts l G) : ∀ {vs : List V} {ds : zq}, Dts K G vs ds -> zx ds = true -> Dts K (hid l G) vs ds
 | _, _, .nil, _ => .nil
 | _, _, .cons x r, h => by
  have h' := Bool.and_eq_true_iff.mp (by simpa [zx] using h)
  exact .cons (Dt.hid hl x h'.1) (Dts.hid hl r h'.2)
end
theorem Des.hid (hl : Muts l G) : ∀ {vs : List (Key × V)} {ds : List (PyData × PyData)}, Des K G vs ds -> zx (ds.map (·.2)) = true -> Des K (hid l G) vs ds
 | _, _, .nil, _ => .nil
 | _, _, .cons x r, h => by
  have h' := Bool.and_eq_true_iff.mp (by simpa [zx] using h)
  exact .cons (Dt.hid hl x h'.1) (Des.hid hl r (by simpa using h'.2))
end
inductive Opd where
 | nm (i : Nat)
 | ex (f : DE)
noncomputable def zY (i : Nat) (δ : DEnv) : DEnv := match δ[i]? with
 | some (some (.ol ds)) => δ.set i (some (.sh (.list ds)))
 | some (some (.od es)) => δ.set i (some (.sh (.dict es)))
 | _ => δ
noncomputable def zC : List Nat -> DEnv -> DEnv
 | [], δ => δ
 | i :: r, δ => zC r (zY i δ)
section
variable {K : W.Frag} {mg : zr} {G0 H0 G H : Hp} {σ : St} {δ : DEnv}
structure Lent (G G1 : Hp) (l : List Addr) : Prop where
 ext : Same G G1
 mu : Muts l G1
 new : ∀ b ∈ l, G b = none
 old : ∀ b, b ∉ l -> G1 b = G b
theorem Lent.refl : Lent G G [] := ⟨.refl _, fun b h => absurd h (by simp), fun b h => absurd h (by simp), fun _ _ => rfl⟩
theorem Lent.trans {G1 G2 : Hp} {l1 l2 : List Addr} (a : Lent G G1 l1) (b : Lent G1 G2 l2) : Lent G G2 (l1 ++ l2) where
 ext := a.ext.trans b.ext
 mu := fun c h => by
  rcases List.mem_append.mp h with z | z
  ·rcases a.mu c z with ⟨xs, q⟩ | ⟨xs, q⟩
   ·exact .inl ⟨xs, b.ext _ _ q⟩
   ·exact .inr ⟨xs, b.ext _ _ q⟩
  ·exact b.mu c z
 new := fun c h => by
  rcases List.mem_append.mp h with z | z
  ·exact a.new c z
  ·exact a.ext.free (b.new c z)
 old := fun c h => by
  have h1 : c ∉ l1 := fun z => h (List.mem_append_left _ z)
  have h2 : c ∉ l2 := fun z => h (List.mem_append_right _ z)
  rw [b.old c h2, a.old c h1]
theorem Rel.rel1 (R : Rel K mg G0 H0 G H σ δ) (i : Nat) : ∃ G1 l, Rel K mg G0 H0 G1 H σ (zY i δ) /\ Lent G G1 l := by
 unfold zY
 split
 next ds e =>
  obtain ⟨v, h1, ⟨a, xs, rfl, q1, q2, q3⟩, hf⟩ := R.at_ e
  obtain ⟨f1, f2⟩ := hf trivial a rfl
  have hi : i < σ.length := (List.getElem?_eq_some_iff.mp h1).1
  have R2 := ((R.forget i).pub q1 q2 f1 f2).store hi (r := .sh (.list ds)) (v := .ref a) (RR.sh (.lst (.of aj) (q3.mono (ay q1))))
  rw [gK h1, List.set_set] at R2
  refine ⟨_, [a], R2, ay q1, fun b hb => ?_, fun b hb => ?_, fun b hb => ah fun z => hb (by simp [z])⟩
  ·have : b = a := by simpa using hb
   subst this
   exact .inl ⟨xs, aj⟩
  ·have : b = a := by simpa using hb
   subst this
   exact q1
 next ds e =>
  obtain ⟨v, h1, ⟨a, xs, rfl, q1, q2, q3⟩, hf⟩ := R.at_ e
  obtain ⟨f1, f2⟩ := hf trivial a rfl
  have hi : i < σ.length := (List.getElem?_eq_some_iff.mp h1).1
  have R2 := ((R.forget i).pub q1 q2 f1 f2).store hi (r := .sh (.dict ds)) (v := .ref a) (RR.sh (.dct aj (q3.mono (ay q1))))
  rw [gK h1, List.set_set] at R2
  refine ⟨_, [a], R2, ay q1, fun b hb => ?_, fun b hb => ?_, fun b hb => ah fun z => hb (by simp [z])⟩
  ·have : b = a := by simpa using hb
   subst this
   exact .inr ⟨xs, aj⟩
  ·have : b = a := by simpa using hb
   subst this
   exact q1
 next => exact ⟨G, [], R, .refl⟩
theorem Rel.relA : ∀ (is : List Nat) {G : Hp} {δ : DEnv}, Rel K mg G0 H0 G H σ δ -> ∃ G1 l, Rel K mg G0 H0 G1 H σ (zC is δ) /\ Lent G G1 l
 | [], G, δ, R => ⟨G, [], R, .refl⟩
 | i :: r, G, δ, R => by
  obtain ⟨G1, l1, R1, L1⟩ := R.rel1 i
  obtain ⟨G2, l2, R2, L2⟩ := Rel.relA r R1
  exact ⟨G2, _, R2, L1.trans L2⟩
theorem Lent.back {G1 G' H' : Hp} {l : List Addr} {v : V} {r : SD} (L : Lent G G1 l) (R : Rel K mg G0 H0 G H σ δ) (R1 : Same G1 H) (g : Grow G1 H G' H') (n : VN K mg H G' H' v r) (hp : r.pure = true) :
  ∃ G2, Grow G H G2 H' /\ VN K mg H G2 H' v r := by
 have mu : Muts l G' := fun b hb => by
  rcases L.mu b hb with ⟨xs, q⟩ | ⟨xs, q⟩
  ·exact .inl ⟨xs, g.gg _ _ q⟩
  ·exact .inr ⟨xs, g.gg _ _ q⟩
 have nl : ∀ b ∈ l, H b ≠ none := fun b hb => by
  rcases L.mu b hb with ⟨xs, q⟩ | ⟨xs, q⟩
  ·rw [R1 _ _ q]; simp
  ·rw [R1 _ _ q]; simp
 refine ⟨hid l G', ⟨g.hh, fun b o e => ?_, fun b o e => ?_, fun b hb => ?_, fun nt b ps z => ?_⟩, ?_, n.2⟩
 ·unfold hid
  rw [if_neg fun z => by rw [L.new b z] at e; cases e]
  exact g.gg _ _ (L.ext _ _ e)
 ·unfold hid at e
  split at e
  ·cases e
  ·exact g.gh _ _ e
 ·unfold hid
  split
  next z => exact (L.new b z).symm
  next z => rw [g.nb b hb, L.old b z]
 ·have n1 : NoT G1 := fun c qs y => by
   by_cases hc : c ∈ l
   ·rcases L.mu c hc with ⟨xs, q⟩ | ⟨xs, q⟩ <;> (rw [y] at q; cases q)
   ·rw [L.old c hc] at y; exact nt c qs y
  unfold hid at z
  split at z
  ·cases z
  ·exact g.nt n1 b ps z
 ·cases r with
  | sh d => exact Dt.hid mu n.1 hp
  | ol ds =>
   obtain ⟨a, xs, rfl, h1, h2, h3⟩ := n.1
   exact ⟨a, xs, rfl, by unfold hid; split <;> first | rfl | exact h1, h2, h3.hid mu hp⟩
  | od ds =>
   obtain ⟨a, xs, rfl, h1, h2, h3⟩ := n.1
   exact ⟨a, xs, rfl, by unfold hid; split <;> first | rfl | exact h1, h2, h3.hid mu hp⟩
  | ex x => cases hp
end
noncomputable def fin2 (o : Option SD) (δ1 δ2 : DEnv) : Out (SD × DEnv) := match o with
 | some r => .ok (r, if r.pure = true then δ1 else δ2)
 | none => .bad
noncomputable def evO : List Opd -> DEnv -> Out (List (Sum PyData Nat) × DEnv)
 | [], δ => .ok ([], δ)
 | .nm i :: r, δ => match δ[i]? with
  | some (some _) => (evO r δ).bind fun q => .ok (.inr i :: q.1, q.2)
  | _ => .bad
 | .ex f :: r, δ => (vE f δ).bind fun p => (evO r p.2).bind fun q => .ok (.inl p.1 :: q.1, q.2)
noncomputable def zD : List (Sum PyData Nat) -> List Nat
 | [] => []
 | .inl _ :: r => zD r
 | .inr i :: r => i :: zD r
noncomputable def B0 (δ : DEnv) (i : Nat) : Option PyData := match δ[i]? with
 | some (some (.sh d)) => some d
 | _ => none
noncomputable def A0 (δ : DEnv) : List (Sum PyData Nat) -> Option zq
 | [] => some []
 | .inl d :: r => (A0 δ r).map (d :: ·)
 | .inr i :: r => (B0 δ i).bind fun d => (A0 δ r).map (d :: ·)
noncomputable def opds (ops : List Opd) (δ : DEnv) : Out (zq × DEnv × DEnv) := (evO ops δ).bind fun p =>
 match A0 (zC (zD p.1) p.2) p.1 with
 | some ds => .ok (ds, p.2, zC (zD p.1) p.2)
 | none => .bad
noncomputable def eOp (o : zq -> Option SD) (ops : List Opd) : DE := fun δ => (opds ops δ).bind fun p => fin2 (o p.1) p.2.1 p.2.2
section
variable (K : W.Frag) (mg : zr) (E : XK)
noncomputable def tO : Opd -> TE
 | .nm i => tVar i
 | .ex f => tE K mg E f
noncomputable def tOs : List Opd -> TA
 | [] => tNil
 | o :: r => B5 (tO K mg E o) (tOs r)
inductive OV (G : Hp) (σ : St) : List V -> List (Sum PyData Nat) -> Prop
 | nil : OV G σ [] []
 | dat {v : V} {d : PyData} {vs : List V} {r : List (Sum PyData Nat)} : Dt K G v d -> OV G σ vs r -> OV G σ (v :: vs) (.inl d :: r)
 | nam {v : V} {i : Nat} {vs : List V} {r : List (Sum PyData Nat)} : σ[i]? = some (some v) -> OV G σ vs r -> OV G σ (v :: vs) (.inr i :: r)
end
section
variable {K : W.Frag} {mg : zr} {E : XK} {G0 H0 G H : Hp} {σ : St} {δ : DEnv}
theorem OV.mono {G' : Hp} (s : Same G G') : ∀ {vs : List V} {r : List (Sum PyData Nat)}, OV K G σ vs r -> OV K G' σ vs r
 | _, _, .nil => .nil
 | _, _, .dat h t => .dat (h.mono s) (OV.mono s t)
 | _, _, .nam h t => .nam h (OV.mono s t)
theorem OV.view (R : Rel K mg G0 H0 G H σ δ) : ∀ {vs : List V} {r : List (Sum PyData Nat)} {ds : zq}, OV K G σ vs r -> A0 δ r = some ds -> Dts K G vs ds
 | _, _, _, .nil, e => by cases e; exact .nil
 | _, _, _, .dat (r := r) h t, e => by
  simp only [A0, Option.map_eq_some_iff] at e
  obtain ⟨ds', e1, rfl⟩ := e
  exact .cons h (OV.view R t e1)
 | _, _, _, .nam (i := i) (v := v) h t, e => by
  simp only [A0, Option.bind_eq_some_iff, Option.map_eq_some_iff] at e
  obtain ⟨d, e1, ds', e2, rfl⟩ := e
  refine .cons ?_ (OV.view R t e2)
  unfold B0 at e1
  split at e1
  next d' q =>
   cases e1
   obtain ⟨w, h1, h2⟩ := R.sl i _ q
   rw [h] at h1
   cases h1
   exact h2
  next => cases e1
theorem cU {P : List V -> Hp -> Prop} : ∀ (ops : List Opd) {G H : Hp} {δ : DEnv}, Rel K mg G0 H0 G H σ δ ->
  (match evO ops δ with
   | .ok p => ∀ vs H' G', Rel K mg G0 H0 G' H' σ p.2 -> Same G G' -> OV K G' σ vs p.1 -> P vs H'
   | .exc x => PoX mg E H0 x
   | .bad => False) -> tOs K mg E ops σ H P
 | [], G, H, δ, R, h => h [] H G R (.refl _) .nil
 | .nm i :: r, G, H, δ, R, h => by
  unfold evO at h
  split at h
  next p e =>
   split at e
   next sd q =>
    obtain ⟨v, hv, _⟩ := R.sl i _ q
    refine ⟨v, hv, cU (P := fun xs H2 => P (v :: xs) H2) r R ?_⟩
    cases e1 : evO r δ with
    | ok q1 =>
     rw [e1, Out.bind_ok] at e
     cases e
     exact fun vs H' G' R' s o => h (v :: vs) H' G' R' s (.nam hv o)
    | exc x => rw [e1] at e; cases e
    | bad => rw [e1] at e; cases e
   next => cases e
  next x e =>
   split at e
   next sd q =>
    obtain ⟨v, hv, _⟩ := R.sl i _ q
    refine ⟨v, hv, cU (P := fun xs H2 => P (v :: xs) H2) r R ?_⟩
    cases e1 : evO r δ with
    | ok q1 => rw [e1] at e; cases e
    | exc y => rw [e1] at e; cases e; exact h
    | bad => rw [e1] at e; cases e
   next => cases e
  next => exact h.elim
 | .ex f :: r, G, H, δ, R, h => by
  show tE K mg E f σ H fun x H1 => tOs K mg E r σ H1 fun xs H2 => P (x :: xs) H2
  refine rQ R ?_
  unfold evO at h
  cases e1 : vE f δ with
  | ok p =>
   rw [e1, Out.bind_ok] at h
   intro v H1 G1 R1 s1 hd
   refine cU (P := fun xs H2 => P (v :: xs) H2) r R1 ?_
   cases e2 : evO r p.2 with
   | ok q =>
    rw [e2, Out.bind_ok] at h
    exact fun vs H2 G2 R2 s2 o => h (v :: vs) H2 G2 R2 (s1.trans s2) (.dat (hd.mono s2) o)
   | exc x => rw [e2] at h; exact h
   | bad => rw [e2] at h; exact h
  | exc x => rw [e1] at h; exact h
  | bad => rw [e1] at h; exact h
end
noncomputable def zN (K : W.Frag) (mg : zr) (o : zq -> Option SD) (r : List V -> Hp -> VK -> Prop) : Prop :=
 ∀ (G H : Hp) (vs : List V) (ds : zq) (res : SD) (Q : VK), Same G H -> Dts K G vs ds -> o ds = some res -> (∀ v H' G', Grow G H G' H' -> VN K mg H G' H' v res -> Q v H') -> r vs H Q
section
variable {K : W.Frag} {mg : zr} {E : XK}
theorem g8 {o : zq -> Option SD} {r : List V -> Hp -> VK -> Prop} {ops : List Opd} {σ : St} {H : Hp} {Q : VK} (hs : zN K mg o r) (h : tE K mg E (eOp o ops) σ H Q) : tOs K mg E ops σ H fun vs H1 => r vs H1 Q := by
 obtain ⟨G0, H0, G, δ, R, m⟩ := h
 refine cU ops R ?_
 unfold eOp opds at m
 cases e1 : evO ops δ with
 | ok p =>
  rw [e1, Out.bind_ok] at m
  intro vs H1 G1 R1 s1 ov
  cases e2 : A0 (zC (zD p.1) p.2) p.1 with
  | none => rw [e2] at m; exact m.elim
  | some ds =>
   rw [e2, Out.bind_ok] at m
   cases e3 : o ds with
   | none => rw [e3] at m; exact m.elim
   | some res =>
    rw [e3] at m
    obtain ⟨G2, l, R2, L⟩ := R1.relA (zD p.1)
    refine hs G2 H1 vs ds res Q R2.g.gh ((ov.mono L.ext).view R2 e2) e3 fun v H2 G3 gr vn => ?_
    by_cases hp : res.pure = true
    ·obtain ⟨G4, gr4, vn4⟩ := L.back R1 R2.g.gh gr vn hp
     have m' : PoE K mg E G0 H0 G σ Q (.ok (res, p.2)) := by simpa [fin2, hp] using m
     exact m' v H2 G4 (R1.grow gr4) (s1.trans gr4.gg) (RR.of_new R1 vn4)
    ·have m' : PoE K mg E G0 H0 G σ Q (.ok (res, zC (zD p.1) p.2)) := by simpa [fin2, hp] using m
     exact m' v H2 G3 (R2.grow gr) ((s1.trans L.ext).trans gr.gg) (RR.of_new R2 vn)
 | exc x => rw [e1] at m; exact m
 | bad => rw [e1] at m; exact m
theorem ke {H G' H' : Hp} {v : V} {d : PyData} (h : Dt K G' v d) : VN K mg H G' H' v (.sh d) := ⟨h, fun z => z.elim⟩
theorem fN {G H : Hp} {p : Addr} {xs : List V} {ds : zq} (hg : Same G H) (hp : H p = none) (h : Dts K G xs ds) : VN K mg H G (upd H p (.lst xs)) (.ref p) (.ol ds) :=
 ⟨⟨p, xs, rfl, hg.free hp, aj, h⟩, fun _ a e => by cases e; exact hp⟩
theorem wA {G H : Hp} {p : Addr} {xs : List (Key × V)} {ds : List (PyData × PyData)} (hg : Same G H) (hp : H p = none) (h : Des K G xs ds) : VN K mg H G (upd H p (.dK xs)) (.ref p) (.od ds) :=
 ⟨⟨p, xs, rfl, hg.free hp, aj, h⟩, fun _ a e => by cases e; exact hp⟩
theorem jj {G H : Hp} {p : Addr} {xs : List V} {ds : zq} (hg : Same G H) (hp : H p = none) (h : Dts K G xs ds) : VN K mg H (upd G p (.tup xs)) (upd H p (.tup xs)) (.ref p) (.sh (.tuple ds)) :=
 ke (.tup aj (h.mono (ay (hg.free hp))))
theorem ans {G H : Hp} {Q : VK} {v : V} {d : PyData} (k : ∀ v H' G', Grow G H G' H' -> VN K mg H G' H' v (.sh d) -> Q v H') (hg : Same G H) (h : Dt K G v d) : Q v H := k v H G (.refl hg) (ke h)
end
abbrev SO (X : Cx) (E : XK) (e : Expr) (o : Opd) : Prop := PE X e (tO X.K X.mg E o)
noncomputable def SOs (X : Cx) (E : XK) : List Expr -> List Opd -> Prop
 | [], [] => True
 | e :: es, o :: os => SO X E e o /\ SOs X E es os
 | _, _ => False
section
variable {X : Cx} {E : XK} {a b e : Expr} {es : List Expr} {oa ob : Opd} {ops : List Opd} {f : DE} {pos : Pos}
theorem ae (i : Nat) {x : Str} (hN : X.N[i]? = some x := by rfl) (hv : Vis X.env.scope x := by first | exact Or.inl rfl | exact Or.inr (Or.inl rfl) | exact Or.inr (Or.inr rfl)) (hd : (x == ("__debug__" : Str)) = false := by decide)
  (hcd : (x == ("__classdict__" : Str)) = false := by decide) : SO X E (.Name x pos) (.nm i) := dU hN hv hd hcd
theorem ab (h : SE X E e f) : SO X E e (.ex f) := h
theorem ag : PA X [] (tOs X.K X.mg E []) := gB
theorem aa (he : SO X E e oa) (hr : PA X es (tOs X.K X.mg E ops)) (hs : starEach (e :: es) X.env = (false, eval e X.env) :: starEach es X.env := by rfl) : PA X (e :: es) (tOs X.K X.mg E (oa :: ops)) := cF he hr hs
noncomputable def l2 (r : R2) : List V -> Hp -> VK -> Prop := fun vs H Q => match vs with
 | [x, y] => r x y H Q
 | _ => False
noncomputable def l1 (r : V -> Hp -> VK -> Prop) : List V -> Hp -> VK -> Prop := fun vs H Q => match vs with
 | [x] => r x H Q
 | _ => False
theorem gL {op : Operator} {r : R2} {o : zq -> Option SD} (ho : OpR X (binaryOp op) r) (hs : zN X.K X.mg o (l2 r)) (ha : SO X E a oa) (hb : SO X E b ob) : SE X E (.BinOp a op b pos) (eOp o [oa, ob]) :=
 (wj ho ha hb).weak fun _ _ _ h => g8 hs h
theorem wB {op : UnaryOp} {r : V -> Hp -> VK -> Prop} {o : zq -> Option SD} (ho : UnR X (unaryOp op) r) (hs : zN X.K X.mg o (l1 r)) (ha : SO X E a oa) : SE X E (.UnaryOp op a pos) (eOp o [oa]) :=
 (wk ho ha).weak fun _ _ _ h => g8 hs h
theorem fx {op : CmpOp} {r : R2} {o : zq -> Option SD} (ho : OpR X (compareOp op) r) (hs : zN X.K X.mg o (l2 r)) (ha : SO X E a oa) (hb : SO X E b ob) (hm : behindInMarks op b = false) : SE X E (.Compare a [op] [b] pos) (eOp o [oa, ob]) :=
 (rk ho ha hb hm).weak fun _ _ _ h => g8 hs h
theorem wC {r : R2} {o : zq -> Option SD} (hr : IxR X r) (hs : zN X.K X.mg o (l2 r)) (ha : SO X E a oa) (hb : SO X E b ob) (hp : AV b) : SE X E (.Subscript a b pos) (eOp o [oa, ob]) :=
 (wt hr ha hb hp).weak fun _ _ _ h => g8 hs h
theorem eW {x : Str} {p : Pos} {id : String} {r : List V -> Hp -> VK -> Prop} {o : zq -> Option SD} (hc : A7 X (.builtin id) r) (hs : zN X.K X.mg o r) (hm : X.mg x = none) (hv : bootBuiltins x = some (.builtin id)) (ha : PA X (e :: es) (tOs X.K X.mg E ops)) (hg : Gl X x := by rfl)
  (hn : x ≠ "__name__" := by decide) (hdb : (x == ("__debug__" : Str)) = false := by decide) (hst : starEach (e :: es) X.env = (false, eval e X.env) :: starEach es X.env := by rfl) (hpl : (backTo pos (starEach es X.env)).any (·.1) = false := by rfl) :
  SE X E (.Call (.Name x p) (e :: es) [] pos) (eOp o ops) := (gC hc hg hm hv ha hn hdb hst hpl).weak fun _ _ _ h => g8 hs h
theorem kf {x : Str} {p : Pos} {T : String} {r : List V -> Hp -> VK -> Prop} {o : zq -> Option SD} (hc : A7 X (.type T) r) (hs : zN X.K X.mg o r) (hm : X.mg x = none) (hv : bootBuiltins x = some (.type T)) (ha : PA X (e :: es) (tOs X.K X.mg E ops)) (hg : Gl X x := by rfl)
  (hn : x ≠ "__name__" := by decide) (hdb : (x == ("__debug__" : Str)) = false := by decide) (hst : starEach (e :: es) X.env = (false, eval e X.env) :: starEach es X.env := by rfl) (hpl : (backTo pos (starEach es X.env)).any (·.1) = false := by rfl) :
  SE X E (.Call (.Name x p) (e :: es) [] pos) (eOp o ops) := (iG hc hg hm hv ha hn hdb hst hpl).weak fun _ _ _ h => g8 hs h
end
def eC (d : PyData) : DE := fun δ => .ok (.sh d, δ)
noncomputable def eV (i : Nat) : DE := fun δ => match δ[i]? with
 | some (some (.sh d)) => .ok (.sh d, δ)
 | some (some (.ol ds)) => .ok (.sh (.list ds), δ.set i (some (.sh (.list ds))))
 | some (some (.od ds)) => .ok (.sh (.dict ds), δ.set i (some (.sh (.dict ds))))
 | _ => .bad
noncomputable def dTup (ds : zq) : Option SD := if ds.length <= sizeLine then some (.sh (.tuple ds)) else none
noncomputable def dLst (ds : zq) : Option SD := if ds.length <= sizeLine then some (.ol ds) else none
def B4 : DE := fun δ => .ok (.od [], δ)
section
variable {X : Cx} {E : XK} {pos : Pos} {es : List Expr} {ops : List Opd}
theorem af {i : Int} {j : Nat} : SE X E (.Constant (.int i) j pos) (eC (.int i)) := u9.weak fun σ H Q ⟨G0, H0, G, δ, R, m⟩ => m _ H G R (.refl _) (RR.sh (.int i))
theorem cw {i : Bool} {j : Nat} : SE X E (.Constant (.bool i) j pos) (eC (.bool i)) := we.weak fun σ H Q ⟨G0, H0, G, δ, R, m⟩ => m _ H G R (.refl _) (RR.sh (.bl i))
theorem bh {i : Str} {j : Nat} : SE X E (.Constant (.str i) j pos) (eC (.str i)) := ub.weak fun σ H Q ⟨G0, H0, G, δ, R, m⟩ => m _ H G R (.refl _) (RR.sh (.str i))
theorem pS {j : Nat} : SE X E (.Constant .none j pos) (eC .none) := ua.weak fun σ H Q ⟨G0, H0, G, δ, R, m⟩ => m _ H G R (.refl _) (RR.sh .non)
theorem w_V {K : W.Frag} {mg : zr} {i : Nat} {σ : St} {H : Hp} {Q : VK} (h : tE K mg E (eV i) σ H Q) : tVar i σ H Q := by
 obtain ⟨G0, H0, G, δ, R, m⟩ := h
 unfold eV at m
 split at m
 next d e =>
  obtain ⟨v, h1, h2⟩ := R.sl i _ e
  exact ⟨v, h1, m v H G R (.refl _) (RR.sh h2)⟩
 next ds e =>
  obtain ⟨G', v, R', s, h1, hd⟩ := R.share e rfl
  exact ⟨v, h1, m v H G' R' s (RR.sh hd)⟩
 next ds e =>
  obtain ⟨G', v, R', s, h1, hd⟩ := R.share e rfl
  exact ⟨v, h1, m v H G' R' s (RR.sh hd)⟩
 next => exact m.elim
theorem nO (i : Nat) {x : Str} (hN : X.N[i]? = some x := by rfl) (hv : Vis X.env.scope x := by first | exact Or.inl rfl | exact Or.inr (Or.inl rfl) | exact Or.inr (Or.inr rfl)) (hd : (x == ("__debug__" : Str)) = false := by decide)
  (hcd : (x == ("__classdict__" : Str)) = false := by decide) : SE X E (.Name x pos) (eV i) := (dU hN hv hd hcd).weak fun _ _ _ h => w_V h
theorem mP {x : Str} {v : V} {u : Value} {d : PyData} (hm : X.mg x = some u) (r : RelV v u) (hd : ∀ G, Dt X.K G v d) (hg : Gl X x := by rfl) (hdb : (x == ("__debug__" : Str)) = false := by decide) : SE X E (.Name x pos) (eC d) :=
 (rg hg hm r hdb).weak fun σ H Q ⟨G0, H0, G, δ, R, m⟩ => m _ H G R (.refl _) (RR.sh (hd G))
theorem bC {k : Nat} (h : PA X es (tOs X.K X.mg E ops)) : SE X E (.Tuple es k pos) (eOp dTup ops) := (ur h).weak fun σ H Q q => by
 refine g8 (r := fun xs H1 Q => xs.length <= sizeLine /\ ∀ p, H1 p = none -> Q (.ref p) (upd H1 p (.tup xs))) (fun G H vs ds res Q hg hd ho k => ?_) q
 unfold dTup at ho
 split at ho
 ·cases ho
  exact ⟨by rw [hd.len]; assumption, fun p hp => k _ _ _ (.laid hg hp) (jj hg hp hd)⟩
 ·cases ho
theorem bD (h : PA X es (tOs X.K X.mg E ops)) : SE X E (.List es pos) (eOp dLst ops) := (uu h).weak fun σ H Q q => by
 refine g8 (r := fun xs H1 Q => xs.length <= sizeLine /\ ∀ p, H1 p = none -> Q (.ref p) (upd H1 p (.lst xs))) (fun G H vs ds res Q hg hd ho k => ?_) q
 unfold dLst at ho
 split at ho
 ·cases ho
  exact ⟨by rw [hd.len]; assumption, fun p hp => k _ _ _ (.laidO hg hp) (fN hg hp hd)⟩
 ·cases ho
theorem pT : SE X E (.Dict [] [] pos) B4 := pK.weak fun σ H Q ⟨G0, H0, G, δ, R, m⟩ p hp =>
 m _ _ G (R.grow (.laidO R.g.gh hp)) (.refl _) (RR.of_new R (wA R.g.gh hp .nil))
end
end L2
namespace L2
open PySem PySem.Spec PyProof.Rows
variable [Tabs]
section
variable {K : W.Frag} {G : Hp}
theorem dts1 {vs : List V} {a : PyData} (h : Dts K G vs [a]) : ∃ x, vs = [x] /\ Dt K G x a := by
 cases h with
 | cons h1 t => cases t; exact ⟨_, rfl, h1⟩
theorem dts2 {vs : List V} {a b : PyData} (h : Dts K G vs [a, b]) : ∃ x y, vs = [x, y] /\ Dt K G x a /\ Dt K G y b := by
 cases h with
 | cons h1 t =>
  obtain ⟨y, rfl, h2⟩ := dts1 t
  exact ⟨_, y, rfl, h1, h2⟩
end
theorem Inv.lstR {X : Cx} {pins : zt} {σ : St} {H : Hp} {s : Shared} {l : Addr} {xs : List V} (I : Inv X pins σ H s) (h : SqR X.K H l xs) :
  xs.length <= sizeLine /\ ∃ (its : List Value) (n : Nat), Vals xs its /\ xs.length = its.length /\ s.heap.get? l = some { cls := .type "list", data := .seq its.toArray n } := by
 rcases h with h | ⟨its, n, h1, h2, h3⟩
 ·obtain ⟨z, its, n, r, e⟩ := h.ok I.hok
  exact ⟨z, its, n, r, r.length, e⟩
 ·exact ⟨by rw [h3.length, Array.length_toList]; exact h2, its.toList, n, h3, h3.length, by simpa using I.kIn _ _ h1⟩
section
variable {X : Cx}
noncomputable def Bs (K : W.Frag) : R2 := fun x y H Q => ∃ l b xs zs, x = .ref l /\ y = .ref b /\ SqR K H l xs /\ SqR K H b zs /\ xs.length + zs.length <= sizeLine /\ ∀ p, H p = none -> Q (.ref p) (upd H p (.lst (xs ++ zs)))
theorem rS : OpR X (binaryOp .Add) (Bs X.K) := by
 intro pins s σ H x y v u Q I rx ry h
 obtain ⟨l, b, xs, zs, rfl, rfl, hH, hB, hz, q⟩ := h
 cases rx
 cases ry
 obtain ⟨z, its, n, r, hl, e⟩ := I.lstR hH
 obtain ⟨z2, its2, n2, r2, hl2, e2⟩ := I.lstR hB
 refine PySem.P.add_list e e2 ?_ (by rw [List.size_toArray, List.size_toArray]; lia)
 rw [show its.toArray ++ its2.toArray = (its ++ its2).toArray by simp]
 exact ⟨.ref _, _, I.lnew (t' := s.toks) (r.append r2) (by rw [List.length_append]; lia), rfl, q _ I.fresh⟩
noncomputable def Bt (K : W.Frag) : R2 := fun x y H Q => ∃ a b xs ys, x = .ref a /\ y = .ref b /\ SqT K H a xs /\ SqT K H b ys /\ xs.length + ys.length <= sizeLine /\
 (xs = [] -> Q (.ref b) H) /\ (xs ≠ [] -> ys = [] -> Q (.ref a) H) /\ (xs ≠ [] -> ys ≠ [] -> ∀ p, H p = none -> Q (.ref p) (upd H p (.tup (xs ++ ys))))
theorem rT : OpR X (binaryOp .Add) (Bt X.K) := by
 intro pins s σ H x y v u Q I rx ry h
 obtain ⟨a, b, xs, ys, rfl, rfl, ha, hb, hz, q1, q2, q3⟩ := h
 by_cases hx : xs = []
 ·subst hx
  cases rx
  cases ry
  obtain ⟨its, r1, ⟨⟨c1, d1, dt1, sl1⟩, ho1, hc1, n1, hd1⟩, _⟩ := I.tuple ha
  obtain ⟨its2, r2, ⟨⟨c2, d2, dt2, sl2⟩, ho2, hc2, n2, hd2⟩, _⟩ := I.tuple hb
  simp only at hc1 hd1 hc2 hd2
  subst hc1 hd1 hc2 hd2
  have e : its = [] := r1.zero
  subst e
  exact concat_meets ⟨_, ho1, rfl⟩ ⟨_, ho2, rfl⟩ noFill_tuple_add seq_tuple_add PySem.F.slot_tuple_add PySem.F.entry_tuple_add (PySem.F.args_tuple_add_2 _ _) (tuple_addW0 a b #[] its2.toArray n1 n2 d1 d2 sl1 sl2 rfl) ⟨ho1, ho2, ⟨.ref b, H, I, rfl, q1 rfl⟩⟩
 ·exact rq pins s σ H _ _ v u Q I rx ry ⟨a, b, xs, ys, rfl, rfl, ha, hb, hx, hz, q2 hx, q3 hx⟩
noncomputable def Bi (K : W.Frag) : R2 := fun x y H Q => match x, y with
 | .int i, .int j => Q (.int (i + j)) H
 | .str i, .str j => i.length + j.length <= sizeLine /\ Q (.str (i ++ j)) H
 | x, y => Bs K x y H Q \/ Bt K x y H Q
theorem rV : OpR X (binaryOp .Add) (Bi X.K) := by
 intro pins s σ H x y v u Q I rx ry h
 unfold Bi at h
 split at h
 next i j => exact ui pins s σ H _ _ v u Q I rx ry ⟨i, j, rfl, rfl, h⟩
 next i j => exact lP pins s σ H _ _ v u Q I rx ry ⟨i, j, rfl, rfl, h.1, h.2⟩
 next =>
  rcases h with h | h
  ·exact rS pins s σ H _ _ v u Q I rx ry h
  ·exact rT pins s σ H _ _ v u Q I rx ry h
end
noncomputable def dAdd : zq -> Option SD
 | [.int i, .int j] => some (.sh (.int (i + j)))
 | [.str x, .str y] => if x.length + y.length <= sizeLine then some (.sh (.str (x ++ y))) else none
 | [.list xs, .list ys] => if xs.length + ys.length <= sizeLine then some (.ol (xs ++ ys)) else none
 | [.tuple xs, .tuple ys] => if xs.length + ys.length <= sizeLine then some (.sh (.tuple (xs ++ ys))) else none
 | _ => none
theorem Dts.nil_iff {K : W.Frag} {G : Hp} {vs : List V} {ds : zq} (h : Dts K G vs ds) : vs = [] ↔ ds = [] := by
 cases h <;> simp
section
variable {K : W.Frag} {mg : zr}
theorem wD : zN K mg dAdd (l2 (Bi K)) := by
 intro G H vs ds res Q hg hd ho k
 unfold dAdd at ho
 split at ho
 next i j =>
  cases ho
  obtain ⟨x, y, rfl, h1, h2⟩ := dts2 hd
  cases h1
  cases h2
  exact ans k hg (.int _)
 next x y =>
  split at ho
  next hz =>
   cases ho
   obtain ⟨x, y, rfl, h1, h2⟩ := dts2 hd
   cases h1
   cases h2
   exact ⟨hz, ans k hg (.str _)⟩
  next => cases ho
 next xs ys =>
  split at ho
  next hz =>
   cases ho
   obtain ⟨x, y, rfl, h1, h2⟩ := dts2 hd
   cases h1 with
   | lst q1 r1 =>
    cases h2 with
    | lst q2 r2 =>
     refine .inl ⟨_, _, _, _, rfl, rfl, hg.sqr q1, hg.sqr q2, by rw [r1.len, r2.len]; exact hz, fun p hp => ?_⟩
     exact k _ _ _ (.laidO hg hp) (fN hg hp (r1.append r2))
  next => cases ho
 next xs ys =>
  split at ho
  next hz =>
   cases ho
   obtain ⟨x, y, rfl, h1, h2⟩ := dts2 hd
   cases h1 with
   | tup q1 r1 =>
    cases h2 with
    | tup q2 r2 =>
     refine .inr ⟨_, _, _, _, rfl, rfl, hg.tup q1, hg.tup q2, by rw [r1.len, r2.len]; exact hz, fun e => ?_, fun e e2 => ?_, fun e e2 p hp => ?_⟩
     ·have e' := r1.nil_iff.mp e
      subst e'
      exact ans k hg (.tup q2 r2)
     ·have e' := r2.nil_iff.mp e2
      subst e'
      exact ans k hg (by rw [List.append_nil]; exact .tup q1 r1)
     ·exact k _ _ _ (.laid hg hp) (jj hg hp (r1.append r2))
  next => cases ho
 next => cases ho
end
section
variable {X : Cx} {E : XK} {a b e : Expr} {oa ob : Opd} {pos : Pos}
theorem aR (ha : SO X E a oa) (hb : SO X E b ob) : SE X E (.BinOp a .Add b pos) (eOp dAdd [oa, ob]) := gL rV wD ha hb
end
noncomputable def dI2 (C : Int -> Int -> Bool) (g : Int -> Int -> PyData) : zq -> Option SD
 | [.int i, .int j] => if C i j = true then some (.sh (g i j)) else none
 | _ => none
theorem wF {K : W.Frag} {mg : zr} {C : Int -> Int -> Bool} {D : Int -> Int -> Prop} {g : Int -> Int -> PyData} {gv : Int -> Int -> V} (hC : ∀ i j, C i j = true -> D i j) (hv : ∀ i j G, Dt K G (gv i j) (g i j)) : zN K mg (dI2 C g) (l2 (rI D gv)) := by
 intro G H vs ds res Q hg hd ho k
 unfold dI2 at ho
 split at ho
 next i j =>
  split at ho
  next hc =>
   cases ho
   obtain ⟨x, y, rfl, h1, h2⟩ := dts2 hd
   cases h1
   cases h2
   exact ⟨i, j, rfl, rfl, hC i j hc, ans k hg (hv i j G)⟩
  next => cases ho
 next => cases ho
noncomputable def dI0 (g : Int -> Int -> PyData) : zq -> Option SD
 | [.int i, .int j] => some (.sh (g i j))
 | _ => none
theorem lU {K : W.Frag} {mg : zr} {g : Int -> Int -> PyData} {gv : Int -> Int -> V} (hv : ∀ i j G, Dt K G (gv i j) (g i j)) : zN K mg (dI0 g) (l2 (rI0 gv)) := by
 intro G H vs ds res Q hg hd ho k
 unfold dI0 at ho
 split at ho
 next i j =>
  cases ho
  obtain ⟨x, y, rfl, h1, h2⟩ := dts2 hd
  cases h1
  cases h2
  exact ⟨i, j, rfl, rfl, ans k hg (hv i j G)⟩
 next => cases ho
def dSub := dI0 fun i j => .int (i - j)
noncomputable def B8 := dI2 (fun i j => decide (0 < j /\ j < 1073741824)) fun i j => .int (i / j)
noncomputable def dMod := dI2 (fun i j => decide (0 < j)) fun i j => .int (i % j)
def dLt := dI0 fun i j => .bool (decide (i < j))
def dLe := dI0 fun i j => .bool (decide (i <= j))
def dGt := dI0 fun i j => .bool (decide (j < i))
def dGe := dI0 fun i j => .bool (decide (j <= i))
noncomputable def dNeg : zq -> Option SD
 | [.int i] => some (.sh (.int (-i)))
 | _ => none
theorem wG {K : W.Frag} {mg : zr} : zN K mg dNeg (l1 (rU fun i => .int (-i))) := by
 intro G H vs ds res Q hg hd ho k
 unfold dNeg at ho
 split at ho
 next i =>
  cases ho
  obtain ⟨x, rfl, h1⟩ := dts1 hd
  cases h1
  exact ⟨i, rfl, ans k hg (.int _)⟩
 next => cases ho
section
variable {X : Cx} {E : XK} {a b e : Expr} {oa ob : Opd} {pos : Pos}
theorem lV (ha : SO X E a oa) (hb : SO X E b ob) : SE X E (.BinOp a .Sub b pos) (eOp dSub [oa, ob]) := gL uj (lU fun _ _ _ => .int _) ha hb
theorem rW (ha : SO X E a oa) (hb : SO X E b ob) : SE X E (.BinOp a .FloorDiv b pos) (eOp B8 [oa, ob]) := gL rj (wF (fun i j h => (of_decide_eq_true h : 0 < j /\ j < 1073741824)) fun _ _ _ => .int _) ha hb
theorem jk (ha : SO X E a oa) (hb : SO X E b ob) : SE X E (.BinOp a .Mod b pos) (eOp dMod [oa, ob]) := gL um (wF (fun _ _ h => of_decide_eq_true h) fun _ _ _ => .int _) ha hb
theorem tm (ha : SO X E a oa) (hb : SO X E b ob) : SE X E (.Compare a [.LtE] [b] pos) (eOp dLe [oa, ob]) := fx t7 (lU fun _ _ _ => .bl _) ha hb (nomark _)
theorem wH (ha : SO X E a oa) (hb : SO X E b ob) : SE X E (.Compare a [.Gt] [b] pos) (eOp dGt [oa, ob]) := fx t8 (lU fun _ _ _ => .bl _) ha hb (nomark _)
theorem tq (ha : SO X E a oa) (hb : SO X E b ob) : SE X E (.Compare a [.GtE] [b] pos) (eOp dGe [oa, ob]) := fx wo (lU fun _ _ _ => .bl _) ha hb (nomark _)
theorem pU (ha : SO X E a oa) : SE X E (.UnaryOp .USub a pos) (eOp dNeg [oa]) := wB uo wG ha
end
noncomputable def Bu (K : W.Frag) : R2 := fun x y H Q => ∃ l k xs, x = .ref l /\ y = .int k /\ SqR K H l xs /\ 0 <= k /\ k < 2 ^ 63 /\ xs.length * k.toNat <= sizeLine /\ ∀ p, H p = none -> Q (.ref p) (upd H p (.lst (List.replicate k.toNat xs).flatten))
section
variable {X : Cx}
theorem rX : OpR X (binaryOp .Mult) (Bu X.K) := by
 intro pins s σ H x y v u Q I rx ry h
 obtain ⟨l, k, xs, rfl, rfl, hH, h1, h2, hz, q⟩ := h
 cases rx
 obtain ⟨t, rfl⟩ := ry
 obtain ⟨z, its, n, r, hl, e⟩ := I.lstR hH
 have hlen : its.toArray.size * k.toNat <= sizeLine := by rw [List.size_toArray, <- hl]; exact hz
 have hcap : ¬ its.toArray.size * k.toNat > (2 ^ 63 - 1) / 8 := by
  have : (sizeLine : Nat) <= (2 ^ 63 - 1) / 8 := by decide
  lia
 have hfit : ¬ (!Builtin.List.listFitsIndex k) = true := by
  rw [fitsIndex_both (by lia) h2]
  exact Bool.false_ne_true
 have hlong : ¬ Builtin.List.listTooLong (its.toArray.size * k.toNat) = true := by
  rw [Bh hlen]
  exact Bool.false_ne_true
 have hnew : List.foldl (fun x1 x2 => x1 ++ x2) #[] (List.replicate (if its.toArray.isEmpty = true then 0 else k.toNat) its.toArray) = (List.replicate k.toNat its).flatten.toArray := by
  have f0 : ∀ m : Nat, List.foldl (fun x1 x2 => x1 ++ x2) #[] (List.replicate m its.toArray) = (List.replicate m its).flatten.toArray := fun m => by simpa using iH its m []
  rw [f0]
  cases its with
  | nil => simp
  | cons a r' => rw [if_neg (by simp)]
 refine wpAny_binaryOp_repeat_ref (T := "list") (U := "int") (by decide) ⟨_, e, rfl⟩ (fun s' => typeIs_int s' k t) noFill_list_mul PySem.F.fills_int_mul PySem.F.slot_int_rmul repeat_list PySem.F.slot_int_index.lookup
  (call_meets PySem.F.slot_int_rmul (typeIs_int s k t) PySem.F.entry_int_rmul (PySem.F.args_int_rmul_2 _ _) (int___rmul___int_list k t l its.toArray n)
   ⟨e, rfl, ⟨_, e, rfl⟩, call_meets PySem.F.slot_list_mul ⟨_, e, rfl⟩ PySem.F.entry_list_mul (PySem.F.args_list_mul_2 _ _) (AutoListH.list___mul___list_int_3 l its.toArray n k t hfit hcap hlong) ⟨e, ?_⟩⟩)
 rw [hnew]
 exact ⟨.ref _, _, I.lnew (t' := s.toks) (r.rep k.toNat) (by rw [rC, Nat.mul_comm]; exact hz), rfl, q _ I.fresh⟩
noncomputable def Bv : R2 := fun x y H Q => ∃ z k, x = .str z /\ y = .int k /\ ((k = 0 /\ Q (.str Str.empty) H) \/ (k = 1 /\ Q (.str z) H))
theorem rY : OpR X (binaryOp .Mult) Bv := by
 intro pins s σ H x y v u Q I rx ry h
 obtain ⟨z, k, rfl, rfl, h⟩ := h
 obtain ⟨t, rfl⟩ := rx
 obtain ⟨t', rfl⟩ := ry
 rcases h with ⟨rfl, q⟩ | ⟨rfl, q⟩
 ·exact PySem.P.mul_str_none (by decide) (by decide) ⟨.str _, H, I.tok _, ⟨_, rfl⟩, q⟩
 ·refine PySem.P.mul_str (by decide) (fun _ h => by simp at h) (fun _ h => by simp at h) ?_
  rw [if_neg (by decide), if_pos (by simp)]
  exact ⟨.str z, H, I, ⟨_, rfl⟩, q⟩
noncomputable def Bj (K : W.Frag) : R2 := fun x y H Q => match x, y with
 | .int i, .int j => CMul i j /\ Q (.int (i * j)) H
 | x, y => Bu K x y H Q \/ Bv x y H Q
theorem rZ : OpR X (binaryOp .Mult) (Bj X.K) := by
 intro pins s σ H x y v u Q I rx ry h
 unfold Bj at h
 split at h
 next i j => exact uk pins s σ H _ _ v u Q I rx ry ⟨i, j, rfl, rfl, h⟩
 next =>
  rcases h with h | h
  ·exact rX pins s σ H _ _ v u Q I rx ry h
  ·exact rY pins s σ H _ _ v u Q I rx ry h
end
noncomputable def cMul (i j : Int) : Bool := decide ((-(2 ^ 64) < i /\ i < 2 ^ 64) \/ (-(2 ^ 64) < j /\ j < 2 ^ 64))
noncomputable def dMul : zq -> Option SD
 | [.int i, .int j] => if cMul i j = true then some (.sh (.int (i * j))) else none
 | [.list xs, .int k] => if 0 <= k /\ k < 2 ^ 63 /\ xs.length * k.toNat <= sizeLine then some (.ol (List.replicate k.toNat xs).flatten) else none
 | [.str z, .int k] => if k = 0 then some (.sh (.str Str.empty)) else if k = 1 then some (.sh (.str z)) else none
 | _ => none
theorem wI {K : W.Frag} {mg : zr} : zN K mg dMul (l2 (Bj K)) := by
 intro G H vs ds res Q hg hd ho k
 unfold dMul at ho
 split at ho
 next i j =>
  split at ho
  next hc =>
   cases ho
   obtain ⟨x, y, rfl, h1, h2⟩ := dts2 hd
   cases h1
   cases h2
   exact ⟨(of_decide_eq_true hc : (-(2 ^ 64) < i /\ i < 2 ^ 64) \/ (-(2 ^ 64) < j /\ j < 2 ^ 64)), ans k hg (.int _)⟩
  next => cases ho
 next xs n =>
  split at ho
  next hc =>
   cases ho
   obtain ⟨x, y, rfl, h1, h2⟩ := dts2 hd
   cases h2
   cases h1 with
   | lst q1 r1 =>
    refine .inl ⟨_, n, _, rfl, rfl, hg.sqr q1, hc.1, hc.2.1, by rw [r1.len]; exact hc.2.2, fun p hp => ?_⟩
    exact k _ _ _ (.laidO hg hp) (fN hg hp (r1.reps _))
  next => cases ho
 next z n =>
  obtain ⟨x, y, rfl, h1, h2⟩ := dts2 hd
  cases h1
  cases h2
  split at ho
  next e => cases ho; exact .inr ⟨z, n, rfl, rfl, .inl ⟨e, ans k hg (.str _)⟩⟩
  next =>
   split at ho
   next e => cases ho; exact .inr ⟨z, n, rfl, rfl, .inr ⟨e, ans k hg (.str _)⟩⟩
   next => cases ho
 next => cases ho
noncomputable def dEqB : PyData -> PyData -> Option Bool
 | .int i, .int j => some (decide (i = j))
 | .bool i, .bool j => some (decide (i = j))
 | .str i, .str j => some (decide (i = j))
 | x, y => if SeqAt.shaped x = true /\ SeqAt.shaped y = true then some (PyData.eqv x y) else none
noncomputable def dEq : zq -> Option SD
 | [x, y] => (dEqB x y).map fun b => .sh (.bool b)
 | _ => none
noncomputable def dNe : zq -> Option SD
 | [x, y] => (dEqB x y).map fun b => .sh (.bool !b)
 | _ => none
theorem mQ {K : W.Frag} {neg : Bool} {G H : Hp} {x y : V} {dx dy : PyData} {b : Bool} {Q : VK} (hg : Same G H) (h1 : Dt K G x dx) (h2 : Dt K G y dy) (e : dEqB dx dy = some b) (q : Q (.bl (if neg then !b else b)) H) : rEqM K neg x y H Q := by
 unfold dEqB at e
 split at e
 next i j => cases e; cases h1; cases h2; exact q
 next i j => cases e; cases h1; cases h2; exact q
 next i j => cases e; cases h1; cases h2; exact q
 next n1 n2 n3 =>
  split at e
  next hs =>
   cases e
   have h1' := h1.mono hg
   have h2' := h2.mono hg
   unfold rEqM
   split
   next i j => cases h1; cases h2; exact (n1 _ _ rfl rfl).elim
   next i j => cases h1; cases h2; exact (n2 _ _ rfl rfl).elim
   next i j => cases h1; cases h2; exact (n3 _ _ rfl rfl).elim
   next => exact ⟨dx, dy, h1', h2', hs.1, hs.2, q⟩
  next => cases e
theorem wJ {K : W.Frag} {mg : zr} : zN K mg dEq (l2 (rEqM K false)) := by
 intro G H vs ds res Q hg hd ho k
 unfold dEq at ho
 split at ho
 next x y =>
  obtain ⟨b, e, rfl⟩ := Option.map_eq_some_iff.mp ho
  obtain ⟨v, u, rfl, h1, h2⟩ := dts2 hd
  exact mQ hg h1 h2 e (ans k hg (.bl _))
 next => cases ho
theorem yR {K : W.Frag} {mg : zr} : zN K mg dNe (l2 (rEqM K true)) := by
 intro G H vs ds res Q hg hd ho k
 unfold dNe at ho
 split at ho
 next x y =>
  obtain ⟨b, e, rfl⟩ := Option.map_eq_some_iff.mp ho
  obtain ⟨v, u, rfl, h1, h2⟩ := dts2 hd
  exact mQ hg h1 h2 e (ans k hg (.bl _))
 next => cases ho
noncomputable def zU : PyData -> Option Key
 | .int i => some (.inl i)
 | .str x => some (.inr x)
 | _ => none
theorem cH (k : Key) : zU (keyD k) = some k := by cases k <;> rfl
noncomputable def AR (es : List (PyData × PyData)) (k : Key) : Option PyData := (es.find? fun p => decide (zU p.1 = some k)).map (·.2)
noncomputable def AS : PyData -> PyData -> Option PyData
 | .list xs, .int i => atI xs i
 | .tuple xs, .int i => atI xs i
 | .dict es, k => (zU k).bind (AR es)
 | _, _ => none
noncomputable def dIdx : zq -> Option SD
 | [x, y] => (AS x y).map .sh
 | _ => none
theorem Dts.atI {K : W.Frag} {G : Hp} {vs : List V} {ds : zq} {i : Int} {d : PyData} (h : Dts K G vs ds) (e : L2.atI ds i = some d) : ∃ v, L2.atI vs i = some v /\ Dt K G v d := by
 unfold L2.atI at e ⊢
 rw [h.len]
 obtain ⟨j, e1, e2⟩ := Option.bind_eq_some_iff.mp e
 obtain ⟨v, h1, h2⟩ := h.get' e2
 exact ⟨v, by rw [e1]; exact h1, h2⟩
theorem Des.find {K : W.Frag} {G : Hp} {k : Key} : ∀ {kvs : List (Key × V)} {es : List (PyData × PyData)} {d : PyData}, Des K G kvs es -> AR es k = some d -> ∃ v, valV kvs k = some v /\ Dt K G v d
 | _, _, _, .nil, e => by cases e
 | _, _, d, .cons (k := j) (v := v) (d := d') x r, e => by
  unfold AR at e
  rw [List.find?_cons] at e
  by_cases hk : j = k
  ·subst hk
   simp only [cH, decide_true, if_true, Option.map_some, Option.some.injEq] at e
   subst e
   exact ⟨v, eQ rfl, x⟩
  ·have : ¬ (zU (keyD j) = some k) := by rw [cH]; simpa using hk
   simp only [this, decide_false] at e
   obtain ⟨u, h1, h2⟩ := Des.find r e
   exact ⟨u, by rw [eS hk]; exact h1, h2⟩
theorem pV {K : W.Frag} {G : Hp} {y : V} {dy : PyData} {k : Key} (h : Dt K G y dy) (e : zU dy = some k) : y = kV k := by
 cases h <;> simp [zU] at e <;> subst e <;> rfl
theorem wK {K : W.Frag} {mg : zr} : zN K mg dIdx (l2 (rIxA K)) := by
 intro G H vs ds res Q hg hd ho k
 unfold dIdx at ho
 split at ho
 next x y =>
  obtain ⟨d, e, rfl⟩ := Option.map_eq_some_iff.mp ho
  obtain ⟨v, u, rfl, h1, h2⟩ := dts2 hd
  unfold AS at e
  split at e
  next xs i =>
   cases h2
   cases h1 with
   | lst q1 r1 =>
    obtain ⟨w, e1, e2⟩ := r1.atI e
    exact .inl ⟨_, w, .inl (hg.sqr q1).sq, e1, ans k hg e2⟩
  next xs i =>
   cases h2
   cases h1 with
   | tup q1 r1 =>
    obtain ⟨w, e1, e2⟩ := r1.atI e
    exact .inl ⟨_, w, .inr (hg.tup q1), e1, ans k hg e2⟩
  next es y' =>
   obtain ⟨kk, e1, e2⟩ := Option.bind_eq_some_iff.mp e
   have := pV h2 e1
   subst this
   cases h1 with
   | dct q1 r1 =>
    obtain ⟨w, e3, e4⟩ := r1.find e2
    exact .inr ⟨_, w, rfl, .inl ⟨_, kk, Rd.of (hg _ _ q1), rfl, e3.symm⟩, ans k hg e4⟩
  next => cases e
 next => cases ho
noncomputable def cutD (xs : zq) (lo hi : Option Int) : zq := (xs.drop (HT.sIx xs.length 0 lo)).take (HT.sIx xs.length xs.length hi - HT.sIx xs.length 0 lo)
theorem Dts.cut {K : W.Frag} {G : Hp} {vs : List V} {ds : zq} (h : Dts K G vs ds) (lo hi : Option Int) : Dts K G (cutV vs lo hi) (cutD ds lo hi) := by
 unfold cutV cutD
 rw [h.len]
 exact (h.drop _).take _
section
variable {X : Cx} {E : XK} {a b e : Expr} {es : List Expr} {oa ob : Opd} {ops : List Opd} {pos : Pos}
theorem cI (ha : SO X E a oa) (hb : SO X E b ob) : SE X E (.BinOp a .Mult b pos) (eOp dMul [oa, ob]) := gL rZ wI ha hb
theorem iN (hu : X.A.units + 64 < cLine) (ha : SO X E a oa) (hb : SO X E b ob) : SE X E (.Compare a [.Eq] [b] pos) (eOp dEq [oa, ob]) := fx (pO hu) wJ ha hb (nomark _)
theorem az (hu : X.A.units + 64 < cLine) (ha : SO X E a oa) (hb : SO X E b ob) (hp : AV b := by intro _ _; rfl) : SE X E (.Subscript a b pos) (eOp dIdx [oa, ob]) := wC (yQ (by lia)) wK ha hb hp
end
section
variable {X : Cx}
noncomputable def rSlS (K : W.Frag) : V -> Option Int -> Option Int -> Hp -> VK -> Prop := fun x lo hi H Q => ∃ a xs, x = .ref a /\ SqT K H a xs /\ (cutV xs lo hi = xs -> Q (.ref a) H) /\ ∀ p, H p = none -> Q (.ref p) (upd H p (.tup (cutV xs lo hi)))
theorem sf : SlR X (rSlS X.K) := by
 intro pins s σ H x v vl vu lo hi sl Q I rx hs pl pu h
 obtain ⟨a, xs, rfl, hx, q1, q2⟩ := h
 by_cases hw : HT.sIx xs.length 0 lo = 0 /\ HT.sIx xs.length xs.length hi = xs.length
 ·cases rx
  obtain ⟨its, r, ht, hz⟩ := I.tuple hx
  have hlen : its.toArray.size = xs.length := by rw [List.size_toArray]; exact r.length.symm
  refine ⟨"tuple", _, slot_tuple_getitem.lookup, ht.typeIs, ?_⟩
  refine HT.eT ht hs pl pu (by rw [hlen]; exact hw) ⟨.ref a, H, I, rfl, q1 ?_⟩
  unfold cutV
  rw [hw.1, hw.2]
  simp
 ·exact uy pins s σ H _ v vl vu lo hi sl Q I rx hs pl pu ⟨a, xs, rfl, hx, hw, q2⟩
noncomputable def rSlD (K : W.Frag) : V -> Option Int -> Option Int -> Hp -> VK -> Prop := fun x lo hi H Q => rSlL K x lo hi H Q \/ rSlS K x lo hi H Q
theorem yS : SlR X (rSlD X.K) := rB.or sf
end
noncomputable def slD (x : PyData) (lo hi : Option Int) : Option SD := match x with
 | .list xs => some (.ol (cutD xs lo hi))
 | .tuple xs => some (.sh (.tuple (cutD xs lo hi)))
 | _ => none
theorem yT {K : W.Frag} {mg : zr} {G H : Hp} {x : V} {d : PyData} {lo hi : Option Int} {res : SD} {Q : VK} (hg : Same G H) (hd : Dt K G x d) (ho : slD d lo hi = some res)
  (k : ∀ v H' G', Grow G H G' H' -> VN K mg H G' H' v res -> Q v H') : rSlD K x lo hi H Q := by
 unfold slD at ho
 split at ho
 next xs =>
  cases ho
  cases hd with
  | lst q r => exact .inl ⟨_, _, rfl, (hg.sqr q).sq, fun p hp => k _ _ _ (.laidO hg hp) (fN hg hp (r.cut lo hi))⟩
 next xs =>
  cases ho
  cases hd with
  | tup q r =>
   refine .inr ⟨_, _, rfl, hg.tup q, fun e => ?_, fun p hp => k _ _ _ (.laid hg hp) (jj hg hp (r.cut lo hi))⟩
   have r' := r.cut lo hi
   rw [e] at r'
   exact ans k hg (.tup q r')
 next => cases ho
noncomputable def dSlL : zq -> Option SD
 | [x, .int l] => slD x (some l) none
 | _ => none
section
variable {X : Cx} {E : XK} {e l h : Expr} {oe ol oh : Opd} {pos p2 : Pos}
theorem uG (he : SO X E e oe) (hl : SO X E l ol) : SE X E (.Subscript e (.Slice (some l) none none p2) pos) (eOp dSlL [oe, ol]) :=
 (pI yS he (rp hl) ro).weak fun σ H Q q => by
  refine g8 (r := fun vs H1 Q => match vs with | [x, y] => ∃ i, y = .int i /\ rSlD X.K x (some i) none H1 Q | _ => False) (fun G H vs ds res Q hg hd ho k => ?_) q
  unfold dSlL at ho
  split at ho
  next x l =>
   obtain ⟨v, u, rfl, h1, h2⟩ := dts2 hd
   cases h2
   exact ⟨l, rfl, yT hg h1 ho k⟩
  next => cases ho
end
section
variable {X : Cx} {E : XK} {e k : Expr} {oe ok : Opd} {pos p2 : Pos}
end
noncomputable def dLen : zq -> Option SD
 | [.list xs] => some (.sh (.int xs.length))
 | [.tuple xs] => some (.sh (.int xs.length))
 | [.dict es] => some (.sh (.int es.length))
 | _ => none
theorem Des.len {K : W.Frag} {G : Hp} : ∀ {kvs : List (Key × V)} {es : List (PyData × PyData)}, Des K G kvs es -> kvs.length = es.length
 | _, _, .nil => rfl
 | _, _, .cons _ r => by rw [List.length_cons, List.length_cons, Des.len r]
noncomputable def Bw (K : W.Frag) : List V -> Hp -> VK -> Prop := fun xs H Q => ∃ a n, xs = [.ref a] /\ ((∃ ys, SqL K H a ys /\ n = ys.length) \/ (∃ ys, SqT K H a ys /\ n = ys.length) \/ ∃ kvs, Rd H a (.dK kvs) /\ n = kvs.length) /\ Q (.int (n : Int)) H
theorem nP {X : Cx} : A7 X (.builtin "len") (Bw X.K) := by
 intro pins s σ H xs us Q I r h
 obtain ⟨a, n, rfl, h, q⟩ := h
 rcases h with ⟨ys, h, rfl⟩ | ⟨ys, h, rfl⟩ | ⟨kvs, h, rfl⟩
 ·exact eN pins s σ H _ us Q I r ⟨a, ys, rfl, .inl h, q⟩
 ·exact eN pins s σ H _ us Q I r ⟨a, ys, rfl, .inr h, q⟩
 ·obtain ⟨u, rfl, ru⟩ := vals1 r
  cases ru
  exact wy I h fun t s' I' => ⟨.int kvs.length, H, I', ⟨t, rfl⟩, q⟩
theorem wL {K : W.Frag} {mg : zr} : zN K mg dLen (Bw K) := by
 intro G H vs ds res Q hg hd ho k
 unfold dLen at ho
 split at ho
 next xs =>
  cases ho
  obtain ⟨x, rfl, h1⟩ := dts1 hd
  cases h1 with
  | lst q r => exact ⟨_, _, rfl, .inl ⟨_, (hg.sqr q).sq, rfl⟩, by rw [r.len]; exact ans k hg (.int _)⟩
 next xs =>
  cases ho
  obtain ⟨x, rfl, h1⟩ := dts1 hd
  cases h1 with
  | tup q r => exact ⟨_, _, rfl, .inr (.inl ⟨_, hg.tup q, rfl⟩), by rw [r.len]; exact ans k hg (.int _)⟩
 next xs =>
  cases ho
  obtain ⟨x, rfl, h1⟩ := dts1 hd
  cases h1 with
  | dct q r => exact ⟨_, _, rfl, .inr (.inr ⟨_, Rd.of (hg _ _ q), rfl⟩), by rw [r.len]; exact ans k hg (.int _)⟩
 next => cases ho
noncomputable def dAbs : zq -> Option SD
 | [.int i] => some (.sh (.int (if i < 0 then -i else i)))
 | _ => none
theorem wM {K : W.Frag} {mg : zr} : zN K mg dAbs (fun xs H Q => ∃ i, xs = [.int i] /\ Q (.int (if i < 0 then -i else i)) H) := by
 intro G H vs ds res Q hg hd ho k
 unfold dAbs at ho
 split at ho
 next i =>
  cases ho
  obtain ⟨x, rfl, h1⟩ := dts1 hd
  cases h1
  exact ⟨i, rfl, ans k hg (.int _)⟩
 next => cases ho
noncomputable def As : zq -> Option SD
 | [.list xs] => some (.ol xs)
 | [.tuple xs] => some (.ol xs)
 | [.dict es] => some (.ol (es.map (·.1)))
 | _ => none
theorem Des.keys {K : W.Frag} {G : Hp} : ∀ {kvs : List (Key × V)} {es : List (PyData × PyData)}, Des K G kvs es -> Dts K G (kvs.map fun kv => kV kv.1) (es.map (·.1))
 | _, _, .nil => .nil
 | _, _, .cons (k := k) _ r => by
  rw [List.map_cons, List.map_cons]
  refine .cons ?_ (Des.keys r)
  cases k with
  | inl i => exact .int i
  | inr x => exact .str x
theorem kg {X : Cx} (hc : X.calm = true) : A7 X (.type "list") (fun xs H Q => ∃ a kvs, xs = [.ref a] /\ Rd H a (.dK kvs) /\ ∀ p, H p = none -> Q (.ref p) (upd H p (.lst (kvs.map fun kv => kV kv.1)))) := by
 intro pins s σ H xs us Q I r h
 obtain ⟨a, kvs, rfl, ha, q⟩ := h
 obtain ⟨u, rfl, r1⟩ := vals1 r
 cases r1
 obtain ⟨hz, hsm, vs, kv, dd⟩ := (show zJ X.prog X.w H s.heap a (.dK kvs) from ha.ok I.hok)
 obtain ⟨od, es, ep, dr⟩ := dd
 have da : s.heap.DictAt (zO X.prog X.w) a vs ep := ⟨od, es, dr⟩
 have hlen : kvs.length = vs.length := Paired.length kv
 refine W.kdl_call (W.kdl_dict hsm) (I.ok.hd hc) da (by lia) fun h' tk acc' c' hk ho hi => ?_
 refine ⟨.ref s.heap.objs.size, _, I.laid (t' := tk) hk (Nat.le_refl _) ?_, rfl, q _ (I.hok.fresh (Nat.le_refl _))⟩
 refine ⟨by rw [List.length_map]; exact hz, acc'.toList, c', ?_, by simpa using ho⟩
 refine fM (by rw [List.length_map, hlen, <- hi.1]; simp) fun j x u e1 e2 => ?_
 rw [List.getElem?_map] at e1
 cases e3 : kvs[j]? with
 | none => rw [e3] at e1; cases e1
 | some kv1 =>
  rw [e3] at e1
  simp only [Option.map_some, Option.some.injEq] at e1
  subst e1
  obtain ⟨k, x, e4, hk⟩ := hi.2 j u (by rw [<- Array.getElem?_toList]; exact e2)
  obtain ⟨q1, e5, ek, _⟩ := gH kv e3
  rw [e4] at e5
  cases e5
  rw [ek]
  rcases aE hk with ⟨i, t, rfl, rfl⟩ | ⟨y, t, rfl, rfl⟩
  ·exact ⟨t, rfl⟩
  ·exact ⟨t, rfl⟩
noncomputable def Bk (K : W.Frag) : List V -> Hp -> VK -> Prop := fun xs H Q => ∃ a ys, xs = [.ref a] /\ (SqL K H a ys \/ SqT K H a ys \/ ∃ kvs, Rd H a (.dK kvs) /\ ys = kvs.map fun kv => kV kv.1) /\ ∀ p, H p = none -> Q (.ref p) (upd H p (.lst ys))
theorem lW {X : Cx} (hc : X.calm = true) : A7 X (.type "list") (Bk X.K) := by
 intro pins s σ H xs us Q I r h
 obtain ⟨a, ys, rfl, h, q⟩ := h
 rcases h with h | h | ⟨kvs, h, rfl⟩
 ·exact eO pins s σ H _ us Q I r ⟨a, ys, rfl, .inl h, q⟩
 ·exact eO pins s σ H _ us Q I r ⟨a, ys, rfl, .inr h, q⟩
 ·exact kg hc pins s σ H _ us Q I r ⟨a, kvs, rfl, h, q⟩
theorem uH {K : W.Frag} {mg : zr} : zN K mg As (Bk K) := by
 intro G H vs ds res Q hg hd ho k
 unfold As at ho
 split at ho
 next xs =>
  cases ho
  obtain ⟨x, rfl, h1⟩ := dts1 hd
  cases h1 with
  | lst q r => exact ⟨_, _, rfl, .inl ((hg.sqr q).sq), fun p hp => k _ _ _ (.laidO hg hp) (fN hg hp r)⟩
 next xs =>
  cases ho
  obtain ⟨x, rfl, h1⟩ := dts1 hd
  cases h1 with
  | tup q r => exact ⟨_, _, rfl, .inr (.inl (hg.tup q)), fun p hp => k _ _ _ (.laidO hg hp) (fN hg hp r)⟩
 next xs =>
  cases ho
  obtain ⟨x, rfl, h1⟩ := dts1 hd
  cases h1 with
  | dct q r => exact ⟨_, _, rfl, .inr (.inr ⟨_, Rd.of (hg _ _ q), rfl⟩), fun p hp => k _ _ _ (.laidO hg hp) (fN hg hp r.keys)⟩
 next => cases ho
noncomputable def Al : zq -> Option SD
 | [.list xs] => some (.sh (.tuple xs))
 | [.tuple xs] => some (.sh (.tuple xs))
 | _ => none
theorem si {K : W.Frag} {mg : zr} : zN K mg Al (fun xs H Q => ∃ p ys, xs = [.ref p] /\ ((SqL K H p ys /\ ∀ l, H l = none -> Q (.ref l) (upd H l (.tup ys))) \/ (SqT K H p ys /\ Q (.ref p) H))) := by
 intro G H vs ds res Q hg hd ho k
 unfold Al at ho
 split at ho
 next xs =>
  cases ho
  obtain ⟨x, rfl, h1⟩ := dts1 hd
  cases h1 with
  | lst q r => exact ⟨_, _, rfl, .inl ⟨(hg.sqr q).sq, fun p hp => k _ _ _ (.laid hg hp) (jj hg hp r)⟩⟩
 next xs =>
  cases ho
  obtain ⟨x, rfl, h1⟩ := dts1 hd
  cases h1 with
  | tup q r => exact ⟨_, _, rfl, .inr ⟨hg.tup q, ans k hg (.tup q r)⟩⟩
 next => cases ho
noncomputable def A1 : zq -> Option (List Int)
 | [] => some []
 | .int i :: r => (A1 r).map (i :: ·)
 | _ :: _ => none
theorem gM {K : W.Frag} {G : Hp} : ∀ {vs : List V} {ds : zq} {ns : List Int}, Dts K G vs ds -> A1 ds = some ns -> vs = ns.map V.int
 | _, _, _, .nil, e => by cases e; rfl
 | _, _, _, .cons (d := d) h r, e => by
  cases d with
  | int i =>
   simp only [A1, Option.map_eq_some_iff] at e
   obtain ⟨ns, e1, rfl⟩ := e
   cases h
   rw [gM r e1, List.map_cons]
  | _ => cases e
noncomputable def insI (x : Int) : List Int -> List Int
 | [] => [x]
 | y :: r => if x <= y then x :: y :: r else y :: insI x r
noncomputable def Aa : List Int -> List Int
 | [] => []
 | x :: r => insI x (Aa r)
theorem fy (x : Int) : ∀ l, (insI x l).Perm (x :: l)
 | [] => .refl _
 | y :: r => by
  unfold insI
  split
  ·exact .refl _
  ·exact ((fy x r).cons y).trans (.swap x y r)
theorem bO : ∀ l, (Aa l).Perm l
 | [] => .refl _
 | x :: r => (fy x _).trans ((bO r).cons x)
theorem iO (x : Int) : ∀ l, l.Pairwise (· <= ·) -> (insI x l).Pairwise (· <= ·)
 | [], _ => by simp [insI]
 | y :: r, h => by
  obtain ⟨h1, h2⟩ := List.pairwise_cons.mp h
  unfold insI
  split
  next hxy => exact List.pairwise_cons.mpr ⟨fun z hz => by
    rcases List.mem_cons.mp hz with e | e
    ·rw [e]; exact hxy
    ·exact Int.le_trans hxy (h1 z e), h⟩
  next hxy => exact List.pairwise_cons.mpr ⟨fun z hz => by
    rcases List.mem_cons.mp ((fy x r).mem_iff.mp hz) with e | e
    ·rw [e]; lia
    ·exact h1 z e, iO x r h2⟩
theorem dZ : ∀ l, (Aa l).Pairwise (· <= ·)
 | [] => .nil
 | x :: r => iO x _ (dZ r)
theorem pW {r l : List Int} (hp : r.Perm l) (hr : r.Pairwise (· <= ·)) : r = Aa l :=
 (hp.trans (bO l).symm).eq_of_pairwise (le := (· <= ·)) (fun a b _ _ h1 h2 => Int.le_antisymm h1 h2) hr (dZ l)
noncomputable def AM : zq -> Option SD
 | [.list xs] => if xs.length < 64 then (A1 xs).map fun ns => .ol ((Aa ns).map PyData.int) else none
 | _ => none
noncomputable def BF (K : W.Frag) : List V -> Hp -> VK -> Prop := fun xs H Q => ∃ a ns, xs = [.ref a] /\ SqL K H a (ns.map V.int) /\ ns.length < 64 /\ ∀ (ns' : List Int) p, ns'.Perm ns -> ns'.Pairwise (· <= ·) -> H p = none -> Q (.ref p) (upd H p (.lst (ns'.map V.int)))
theorem sj {K : W.Frag} {mg : zr} : zN K mg AM (BF K) := by
 intro G H vs ds res Q hg hd ho k
 unfold AM at ho
 split at ho
 next xs =>
  split at ho
  next hl =>
   obtain ⟨ns, e, rfl⟩ := Option.map_eq_some_iff.mp ho
   obtain ⟨x, rfl, h1⟩ := dts1 hd
   cases h1 with
   | lst q r =>
    have e2 := gM r e
    subst e2
    have hlen := r.len
    rw [List.length_map] at hlen
    refine ⟨_, ns, rfl, (hg.sqr q).sq, by lia, fun ns' p h1 h2 hp => ?_⟩
    rw [pW h1 h2]
    exact k _ _ _ (.laidO hg hp) (fN hg hp (Dts.ints _))
  next => cases ho
 next => cases ho
noncomputable def dIsi (T : String) : zq -> Option SD
 | [.dict _] => none
 | [d] => some (.sh (.bool (isiD T d)))
 | _ => none
section
variable {X : Cx} {E : XK} {a e : Expr} {oa : Opd} {ops : List Opd} {pos p q : Pos}
theorem cg (hm : X.mg "len" = none) (ha : SO X E a oa) (hg : Gl X "len" := by rfl) (hst : starEach [a] X.env = [(false, eval a X.env)] := by rfl) : SE X E (.Call (.Name "len" p) [a] [] pos) (eOp dLen [oa]) :=
 eW nP wL hm PySem.boot_len (aa ha ag hst) hg (by decide) (by decide) hst rfl
theorem jl (hm : X.mg "abs" = none) (hb : bootBuiltins "abs" = some (.builtin "abs")) (ha : SO X E a oa) (hg : Gl X "abs" := by rfl) (hst : starEach [a] X.env = [(false, eval a X.env)] := by rfl) : SE X E (.Call (.Name "abs" p) [a] [] pos) (eOp dAbs [oa]) :=
 eW pE wM hm hb (aa ha ag hst) hg (by decide) (by decide) hst rfl
theorem pX (hm : X.mg "sorted" = none) (hb : bootBuiltins "sorted" = some (.builtin "sorted")) (ha : SO X E a oa) (hg : Gl X "sorted" := by rfl) (hst : starEach [a] X.env = [(false, eval a X.env)] := by rfl) : SE X E (.Call (.Name "sorted" p) [a] [] pos) (eOp AM [oa]) :=
 eW ji sj hm hb (aa ha ag hst) hg (by decide) (by decide) hst rfl
theorem gc (hc : X.calm = true) (hm : X.mg "list" = none) (hb : bootBuiltins "list" = some (.type "list")) (ha : SO X E a oa) (hg : Gl X "list" := by rfl) (hst : starEach [a] X.env = [(false, eval a X.env)] := by rfl) : SE X E (.Call (.Name "list" p) [a] [] pos) (eOp As [oa]) :=
 kf (lW hc) uH hm hb (aa ha ag hst) hg (by decide) (by decide) hst rfl
theorem gN (hm : X.mg "tuple" = none) (hb : bootBuiltins "tuple" = some (.type "tuple")) (ha : SO X E a oa) (hg : Gl X "tuple" := by rfl) (hst : starEach [a] X.env = [(false, eval a X.env)] := by rfl) : SE X E (.Call (.Name "tuple" p) [a] [] pos) (eOp Al [oa]) :=
 kf iq si hm hb (aa ha ag hst) hg (by decide) (by decide) hst rfl
theorem bP {x : Str} (T : String) (hm : X.mg "isinstance" = none) (hm2 : X.mg x = none) (hv : bootBuiltins x = some (.type T)) (hT : kitT T = true) (hb : bootBuiltins "isinstance" = some (.builtin "isinstance")) (ha : SO X E a oa) (hg : Gl X "isinstance" := by rfl) (hg2 : Gl X x := by rfl)
  (hst : starEach [a, .Name x q] X.env = [(false, eval a X.env), (false, eval (.Name x q) X.env)] := by rfl) (hst2 : starEach [.Name x q] X.env = [(false, eval (.Name x q) X.env)] := by rfl) (hn : x ≠ "__name__" := by decide) (hd : (x == ("__debug__" : Str)) = false := by decide) :
  SE X E (.Call (.Name "isinstance" p) [a, .Name x q] [] pos) (eOp (dIsi T) [oa]) := by
 refine (gC nM hg hm hb (cF ha (cF (wz hm2 hv hg2 hn hd) gB hst2) (by rw [hst, hst2])) (by decide) (by decide) (by rw [hst, hst2]) (by rw [hst2]; rfl)).weak fun σ H Q h => ?_
 refine g8 (r := fun vs H1 Q => ∃ x d T', vs ++ [V.ty T] = [x, .ty T'] /\ kitT T' = true /\ Dt X.K H1 x d /\ (∀ kvs, d ≠ .dict kvs) /\ Q (.bl (isiD T' d)) H1) (fun G H vs ds res Q hgg hdd ho k => ?_) h
 unfold dIsi at ho
 split at ho
 next => cases ho
 next d hne =>
  cases ho
  obtain ⟨v, rfl, h1⟩ := dts1 hdd
  exact ⟨v, d, T, rfl, hT, h1.mono hgg, fun kvs z => hne kvs z, ans k hgg (.bl _)⟩
 next => cases ho
end
noncomputable def Ae : PyData -> Option Bool
 | .none => some false
 | .bool b => some b
 | .int i => some (i != 0)
 | .str y => if y.length <= sizeLine then some ((y.length : Int) != 0) else none
 | .list xs => some (!xs.isEmpty)
 | .tuple xs => some (!xs.isEmpty)
 | .dict es => some (!es.isEmpty)
noncomputable def tstO (o : Opd) : DT := fun δ => (opds [o] δ).bind fun p => match p.1 with
 | [d] => (match Ae d with
  | some b => .ok (b, p.2.1)
  | none => .bad)
 | _ => .bad
noncomputable def tstV (f : DE) : DT := fun δ => (f δ).bind fun p => match p.1 with
 | .sh (.bool b) => .ok (b, p.2)
 | _ => .bad
noncomputable def zR (f : DT) : DT := fun δ => (f δ).bind fun p => .ok (!p.1, p.2)
noncomputable def Au (f g : DT) : DT := fun δ => (f δ).bind fun p => if p.1 = true then .ok (true, p.2) else g p.2
abbrev SW (X : Cx) (E : XK) (e : Expr) (f : DT) : Prop := PW X e (tT X.K X.mg E f)
section
variable {K : W.Frag} {mg : zr} {E : XK} {G0 H0 G H : Hp} {σ : St} {δ : DEnv}
theorem nQ {x : V} {d : PyData} {b : Bool} (hg : Same G H) (h : Dt K G x d) (e : Ae d = some b) : TruV K x H b := by
 cases h with
 | non => cases e; rfl
 | bl k => cases e; rfl
 | int i => cases e; rfl
 | str y =>
  have e' : (if y.length <= sizeLine then some ((y.length : Int) != 0) else none) = some b := e
  split at e'
  next hy => cases e'; exact ⟨hy, rfl⟩
  next => cases e'
 | lst q r =>
  cases e
  refine .inl ⟨_, (hg.sqr q).sq, ?_⟩
  cases r <;> rfl
 | tup q r =>
  cases e
  refine .inr (.inl ⟨_, hg.tup q, ?_⟩)
  cases r <;> rfl
 | dct q r =>
  cases e
  refine .inr (.inr ⟨_, hg _ _ q, ?_⟩)
  cases r <;> rfl
theorem yU {f : DE} {Q : Bool -> Hp -> Prop} (h : tT K mg E (tstV f) σ H Q) : tE K mg E f σ H fun x H' => ∃ k, x = .bl k /\ Q k H' := by
 obtain ⟨G0, H0, G, δ, R, m⟩ := h
 refine ⟨G0, H0, G, δ, R, ?_⟩
 unfold tstV at m
 cases e : f δ with
 | ok p =>
  rw [e, Out.bind_ok] at m
  intro v H' G' R' s rr
  split at m
  next b q =>
   rw [q] at rr
   have := rr.1
   cases this
   exact ⟨b, rfl, m H' G' R' s⟩
  next => exact m.elim
 | exc x => rw [e] at m; exact m
 | bad => rw [e] at m; exact m
end
section
variable {X : Cx} {E : XK} {a b c e : Expr} {oa ob : Opd} {f g h : DE} {tf tg : DT} {pos : Pos} {rest : List Expr}
theorem eY (ha : SO X E a oa) (he : ∀ whole, isTrue a X.env whole = (do let v <- whole; standAt a.pos; holding [v] (truthy v)) := by intro _; rfl) : ST X E a (tstO oa) :=
 (pC ha he).weak fun σ H Q ⟨G0, H0, G, δ, R, m⟩ => by
  have key : tOs X.K X.mg E [oa] σ H fun vs H1 => ∃ x k, vs = [x] /\ TruV X.K x H1 k /\ Q k H1 := by
   refine cU [oa] R ?_
   unfold tstO opds at m
   cases e1 : evO [oa] δ with
   | ok p =>
    rw [e1, Out.bind_ok] at m
    intro vs H1 G1 R1 s1 ov
    cases e2 : A0 (zC (zD p.1) p.2) p.1 with
    | none => rw [e2] at m; exact m.elim
    | some ds =>
     rw [e2, Out.bind_ok] at m
     obtain ⟨G2, l, R2, L⟩ := R1.relA (zD p.1)
     have hd := (ov.mono L.ext).view R2 e2
     dsimp only at m
     split at m
     next d =>
      obtain ⟨x, rfl, h1⟩ := dts1 hd
      cases e3 : Ae d with
      | none => rw [e3] at m; exact m.elim
      | some k =>
       rw [e3] at m
       exact ⟨x, k, rfl, nQ R2.g.gh h1 e3, m H1 G1 R1 s1⟩
     next => exact m.elim
   | exc x => rw [e1] at m; exact m
   | bad => rw [e1] at m; exact m
  have mono : ∀ {t : Opd} {P P' : V -> Hp -> Prop}, (∀ v H, P v H -> P' v H) -> tO X.K X.mg E t σ H P -> tO X.K X.mg E t σ H P' := fun {t P P'} hp q => by
   cases t with
   | nm i => obtain ⟨v, h1, h2⟩ := q; exact ⟨v, h1, hp _ _ h2⟩
   | ex f =>
    obtain ⟨G0, H0, G, δ, R, m⟩ := q
    refine ⟨G0, H0, G, δ, R, ?_⟩
    cases e : f δ with
    | ok p => rw [e] at m; exact fun v H' G' R' s rr => hp _ _ (m v H' G' R' s rr)
    | exc x => rw [e] at m; exact m
    | bad => rw [e] at m; exact m
  exact mono (fun v H1 ⟨x, k, ex, h1, h2⟩ => by cases ex; exact ⟨k, h1, h2⟩) key
theorem pY (h : SW X E e tf) : ST X E e tf := PW.pt h
theorem e7 {op : CmpOp} {r : R2} {o : zq -> Option SD} (ho : OpR X (compareOp op) r) (hs : zN X.K X.mg o (l2 r)) (ha : SO X E a oa) (hb : SO X E b ob) (hm : behindInMarks op b = false) : ST X E (.Compare a [op] [b] pos) (tstV (eOp o [oa, ob])) :=
 (mK ho ha hb hm).weak fun _ _ _ h => g8 hs (yU h)
theorem wN (ha : SO X E a oa) (hb : SO X E b ob) : ST X E (.Compare a [.Lt] [b] pos) (tstV (eOp dLt [oa, ob])) := e7 wm (lU fun _ _ _ => .bl _) ha hb (nomark _)
theorem wO (ha : SO X E a oa) (hb : SO X E b ob) : ST X E (.Compare a [.LtE] [b] pos) (tstV (eOp dLe [oa, ob])) := e7 t7 (lU fun _ _ _ => .bl _) ha hb (nomark _)
theorem pZ (ha : SO X E a oa) (hb : SO X E b ob) : ST X E (.Compare a [.Gt] [b] pos) (tstV (eOp dGt [oa, ob])) := e7 t8 (lU fun _ _ _ => .bl _) ha hb (nomark _)
theorem eZ (hu : X.A.units + 64 < cLine) (ha : SO X E a oa) (hb : SO X E b ob) : ST X E (.Compare a [.Eq] [b] pos) (tstV (eOp dEq [oa, ob])) := e7 (pO hu) wJ ha hb (nomark _)
theorem iP (hu : X.A.units + 64 < cLine) (ha : SO X E a oa) (hb : SO X E b ob) : ST X E (.Compare a [.NotEq] [b] pos) (tstV (eOp dNe [oa, ob])) := e7 (uF hu) yR ha hb (nomark _)
theorem w_not {K : W.Frag} {mg : zr} {σ : St} {H : Hp} {Q : Bool -> Hp -> Prop} (q : tT K mg E (zR tf) σ H Q) : tNot (tT K mg E tf) σ H Q := by
 obtain ⟨G0, H0, G, δ, R, m⟩ := q
 refine ⟨G0, H0, G, δ, R, ?_⟩
 unfold zR at m
 cases e : tf δ with
 | ok p => rw [e, Out.bind_ok] at m; exact fun H' G' R' s => m H' G' R' s
 | exc x => rw [e] at m; exact m
 | bad => rw [e] at m; exact m
theorem bp (ha : ST X E a tf) : ST X E (.UnaryOp .Not a pos) (zR tf) := (ud ha).weak fun _ _ _ q => w_not q
theorem yV {K : W.Frag} {mg : zr} {σ : St} {H : Hp} {Q : Bool -> Hp -> Prop} (q : tT K mg E (Au tf tg) σ H Q) : tOr (tT K mg E tf) (tT K mg E tg) σ H Q := by
 obtain ⟨G0, H0, G, δ, R, m⟩ := q
 refine ⟨G0, H0, G, δ, R, ?_⟩
 unfold Au at m
 cases e : tf δ with
 | ok p =>
  rw [e, Out.bind_ok] at m
  intro H' G' R' s
  split
  next hb => rw [if_pos hb] at m; exact m H' G' R' s
  next hb =>
   rw [if_neg hb] at m
   refine ⟨G0, H0, G', p.2, R', ?_⟩
   cases e2 : tg p.2 with
   | ok q => rw [e2] at m; exact fun H2 G2 R2 s2 => m H2 G2 R2 (s.trans s2)
   | exc x => rw [e2] at m; exact m
   | bad => rw [e2] at m; exact m
 | exc x => rw [e] at m; exact m
 | bad => rw [e] at m; exact m
theorem gO (ha : ST X E a tf) : SW X E (.BoolOp .Or [a] pos) tf := uc ha
theorem iQ (ha : ST X E a tf) (hb : SW X E (.BoolOp .Or (b :: rest) pos) tg) : SW X E (.BoolOp .Or (a :: b :: rest) pos) (Au tf tg) := (wg ha hb).weak fun _ _ _ q => yV q
end
noncomputable def eNot (f : DE) : DE := fun δ => (f δ).bind fun p => match p.1 with
 | .sh (.bool b) => .ok (.sh (.bool !b), p.2)
 | _ => .bad
noncomputable def eAnd (f g : DE) : DE := fun δ => (f δ).bind fun p => match p.1 with
 | .sh (.bool b) => if b = true then g p.2 else .ok (.sh (.bool false), p.2)
 | _ => .bad
noncomputable def eIf (t : DT) (f g : DE) : DE := fun δ => (t δ).bind fun p => if p.1 = true then f p.2 else g p.2
section
variable {K : W.Frag} {mg : zr} {E : XK} {G0 H0 G G1 H : Hp} {σ : St} {δ : DEnv}
theorem PoE.mono {Q : VK} {x : Out (SD × DEnv)} (s : Same G G1) (h : PoE K mg E G0 H0 G σ Q x) : PoE K mg E G0 H0 G1 σ Q x := by
 cases x with
 | ok p => exact fun v H' G' R' s' rr => h v H' G' R' (s.trans s') rr
 | exc x => exact h
 | bad => exact h
end
section
variable {X : Cx} {E : XK} {a b c e : Expr} {f g : DE} {tf : DT} {pos : Pos} {rest : List Expr}
theorem q4 (ha : SE X E a f) : SE X E (.UnaryOp .Not a pos) (eNot f) := (ug ha).weak fun σ H Q ⟨G0, H0, G, δ, R, m⟩ => by
 refine ⟨G0, H0, G, δ, R, ?_⟩
 unfold eNot at m
 cases e : f δ with
 | ok p =>
  rw [e, Out.bind_ok] at m
  intro v H' G' R' s rr
  split at m
  next b q =>
   rw [q] at rr
   have := rr.1
   cases this
   exact ⟨b, rfl, m _ H' G' R' s (RR.sh (.bl _))⟩
  next => exact m.elim
 | exc x => rw [e] at m; exact m
 | bad => rw [e] at m; exact m
theorem fz {op : BoolOp} (ha : SE X E a f) : SE X E (.BoolOp op [a] pos) f := ue ha
theorem cV (ha : SE X E a f) (hb : SE X E (.BoolOp .And (b :: rest) pos) g) : SE X E (.BoolOp .And (a :: b :: rest) pos) (eAnd f g) := (uf ha hb).weak fun σ H Q ⟨G0, H0, G, δ, R, m⟩ => by
 refine ⟨G0, H0, G, δ, R, ?_⟩
 unfold eAnd at m
 cases e : f δ with
 | ok p =>
  rw [e, Out.bind_ok] at m
  intro v H' G' R' s rr
  split at m
  next b q =>
   rw [q] at rr
   have := rr.1
   cases this
   refine ⟨b, rfl, ?_⟩
   split
   next hb => rw [if_pos hb] at m; exact ⟨G0, H0, G', p.2, R', m.mono s⟩
   next hb => rw [if_neg hb] at m; exact m _ H' G' R' s (RR.sh (.bl _))
  next => exact m.elim
 | exc x => rw [e] at m; exact m
 | bad => rw [e] at m; exact m
theorem kh (hc : ST X E c tf) (ha : SE X E a f) (hb : SE X E b g) : SE X E (.IfExp c a b pos) (eIf tf f g) := (p9 hc ha hb).weak fun σ H Q ⟨G0, H0, G, δ, R, m⟩ => by
 refine ⟨G0, H0, G, δ, R, ?_⟩
 unfold eIf at m
 cases e : tf δ with
 | ok p =>
  rw [e, Out.bind_ok] at m
  intro H' G' R' s
  split
  next hb => rw [if_pos hb] at m; exact ⟨G0, H0, G', p.2, R', m.mono s⟩
  next hb => rw [if_neg hb] at m; exact ⟨G0, H0, G', p.2, R', m.mono s⟩
 | exc x => rw [e] at m; exact m
 | bad => rw [e] at m; exact m
end
inductive SOut where
 | nx (δ : DEnv)
 | rt (r : SD)
 | bk (δ : DEnv)
 | ct (δ : DEnv)
 | exc (x : Str)
 | bad
abbrev DS := DEnv -> SOut
noncomputable def PoS (K : W.Frag) (mg : zr) (E : XK) (G0 H0 G : Hp) (D : Ends) : SOut -> Prop
 | .nx δ' => ∀ σ' H' G', Rel K mg G0 H0 G' H' σ' δ' -> Same G G' -> D.nx σ' H'
 | .bk δ' => ∀ σ' H' G', Rel K mg G0 H0 G' H' σ' δ' -> Same G G' -> D.bk σ' H'
 | .ct δ' => ∀ σ' H' G', Rel K mg G0 H0 G' H' σ' δ' -> Same G G' -> D.ct σ' H'
 | .rt r => ∀ v H' G', Grow G0 H0 G' H' -> VN K mg H0 G' H' v r -> D.rt v H'
 | .exc x => PoX mg E H0 x
 | .bad => False
noncomputable def tS (K : W.Frag) (mg : zr) (E : XK) (f : DS) : TS := fun D σ H => ∃ G0 H0 G δ, Rel K mg G0 H0 G H σ δ /\ PoS K mg E G0 H0 G D (f δ)
abbrev S1 (X : Cx) (E : XK) (st : Stmt) (f : DS) : Prop := PS X st (tS X.K X.mg E f)
abbrev SS (X : Cx) (E : XK) (st : List Stmt) (f : DS) : Prop := PSs X st (tS X.K X.mg E f)
theorem PoS.mono {K : W.Frag} {mg : zr} {E : XK} {G0 H0 G G1 : Hp} {D : Ends} {x : SOut} (s : Same G G1) (h : PoS K mg E G0 H0 G D x) : PoS K mg E G0 H0 G1 D x := by
 cases x with
 | nx δ => exact fun σ' H' G' R' s' => h σ' H' G' R' (s.trans s')
 | bk δ => exact fun σ' H' G' R' s' => h σ' H' G' R' (s.trans s')
 | ct δ => exact fun σ' H' G' R' s' => h σ' H' G' R' (s.trans s')
 | rt r => exact h
 | exc x => exact h
 | bad => exact h
def zK : DS := fun δ => .nx δ
noncomputable def sSeq (f g : DS) : DS := fun δ => match f δ with
 | .nx δ' => g δ'
 | r => r
noncomputable def sAsg (i : Nat) (f : DE) : DS := fun δ => match f δ with
 | .ok p => if i < p.2.length then .nx (p.2.set i (some p.1)) else .bad
 | .exc x => .exc x
 | .bad => .bad
noncomputable def sRet (f : DE) : DS := fun δ => match f δ with
 | .ok p => .rt p.1
 | .exc x => .exc x
 | .bad => .bad
noncomputable def sIf (t : DT) (f g : DS) : DS := fun δ => match t δ with
 | .ok p => if p.1 = true then f p.2 else g p.2
 | .exc x => .exc x
 | .bad => .bad
section
variable {X : Cx} {E : XK} {st : Stmt} {rest body body2 : List Stmt} {f g : DS} {e c : Expr} {fe : DE} {tf : DT} {pos pos' : Pos} {x : Str} {i : Nat}
theorem aO : SS X E [] zK := je.weak fun D σ H ⟨G0, H0, G, δ, R, m⟩ => m σ H G R (.refl _)
theorem ak (h1 : S1 X E st f) (h2 : SS X E rest g) : SS X E (st :: rest) (sSeq f g) := (gz h1 h2).weak fun D σ H ⟨G0, H0, G, δ, R, m⟩ => by
 refine ⟨G0, H0, G, δ, R, ?_⟩
 unfold sSeq at m
 cases e : f δ with
 | nx δ' => rw [e] at m; exact fun σ' H' G' R' s => ⟨G0, H0, G', δ', R', m.mono s⟩
 | bk δ => rw [e] at m; exact m
 | ct δ => rw [e] at m; exact m
 | rt r => rw [e] at m; exact m
 | exc x => rw [e] at m; exact m
 | bad => rw [e] at m; exact m
theorem ai (h1 : S1 X E st f) : SS X E [st] f := g9 h1
theorem tu {K : W.Frag} {mg : zr} {D : Ends} {σ : St} {H : Hp} (q : tS K mg E (sAsg i fe) D σ H) : tAsg (tE K mg E fe) (Ac i) D σ H := by
 obtain ⟨G0, H0, G, δ, R, m⟩ := q
 refine ⟨G0, H0, G, δ, R, ?_⟩
 unfold sAsg at m
 cases e : fe δ with
 | ok p =>
  rw [e] at m
  dsimp only at m
  intro v H' G' R' s rr
  split at m
  next hi => exact m _ H' G' (R'.store (by rw [<- R'.len]; exact hi) rr.less) s
  next => exact m.elim
 | exc x => rw [e] at m; exact m
 | bad => rw [e] at m; exact m
theorem bE (i : Nat) (hN : X.N.Nodup) (he : SE X E e fe) (hi : X.N[i]? = some x := by rfl) (hx : Loc X.env.scope x := by first | exact Or.inl rfl | exact Or.inr rfl) (hs : swapsWith e (some (.Name x pos')) pos.line X.env = pure false := by rfl)
  (hf : X.fn x = true \/ X.env.scope.names.lookup x = some .local := by first | exact .inl rfl | exact .inr rfl | assumption) : S1 X E (.Assign [.Name x pos'] e pos) (sAsg i fe) := (pf hN hi hx he hs hf).weak fun _ _ _ q => tu q
theorem aq (he : SE X E e fe) : S1 X E (.Return (some e) pos) (sRet fe) := (lL he).weak fun D σ H ⟨G0, H0, G, δ, R, m⟩ => by
 refine ⟨G0, H0, G, δ, R, ?_⟩
 unfold sRet at m
 cases e : fe δ with
 | ok p => rw [e] at m; exact fun v H' G' R' s rr => m v H' G' R'.g rr.new
 | exc x => rw [e] at m; exact m
 | bad => rw [e] at m; exact m
theorem b9 (hc : ST X E c tf) (ha : SS X E body f) (hb : SS X E body2 g) : S1 X E (.If c body body2 pos) (sIf tf f g) := (pe hc ha hb).weak fun D σ H ⟨G0, H0, G, δ, R, m⟩ => by
 refine ⟨G0, H0, G, δ, R, ?_⟩
 unfold sIf at m
 cases e : tf δ with
 | ok p =>
  rw [e] at m
  dsimp only at m
  intro H' G' R' s
  split
  next hb => rw [if_pos hb] at m; exact ⟨G0, H0, G', p.2, R', m.mono s⟩
  next hb => rw [if_neg hb] at m; exact ⟨G0, H0, G', p.2, R', m.mono s⟩
 | exc x => rw [e] at m; exact m
 | bad => rw [e] at m; exact m
end
noncomputable def AH (K : W.Frag) (J : It) (G : Hp) (ds : zq) : Prop := ∀ (i : Nat) (G1 H1 : Hp), Same G G1 -> Same G1 H1 ->
 (∀ d, ds[i]? = some d -> J.go i H1 /\ ∀ x H2, J.yld i H1 x H2 -> ∃ G2, Grow G1 H1 G2 H2 /\ Dt K G2 x d) /\ (ds.length <= i -> J.stop i H1)
noncomputable def PoI (K : W.Frag) (mg : zr) (E : XK) (G0 H0 G : Hp) (σ : St) (Q : It -> Hp -> Prop) : Out (zq × DEnv) -> Prop
 | .ok p => ∀ J H' G', Rel K mg G0 H0 G' H' σ p.2 -> Same G G' -> AH K J G' p.1 -> Q J H'
 | .exc x => PoX mg E H0 x
 | .bad => False
noncomputable def tI (K : W.Frag) (mg : zr) (E : XK) (f : DA) : TI := fun σ H Q => ∃ G0 H0 G δ, Rel K mg G0 H0 G H σ δ /\ PoI K mg E G0 H0 G σ Q (f δ)
abbrev SI (X : Cx) (E : XK) (tg iter : Expr) (f : DA) : Prop := PI X tg iter (tI X.K X.mg E f)
noncomputable def Av (f : DE) : DA := fun δ => (vE f δ).bind fun p => match p.1 with
 | .list xs => .ok (xs, p.2)
 | .tuple xs => .ok (xs, p.2)
 | _ => .bad
noncomputable def rngI (lo : Int) (n : Nat) : zq := (List.range n).map fun (k : Nat) => .int (lo + (k : Int))
noncomputable def rngB (i : Int) : Bool := decide (-(2 ^ 62) <= i /\ i < 2 ^ 62)
noncomputable def itR1 (ops : List Opd) : DA := fun δ => (opds ops δ).bind fun p => match p.1 with
 | [.int j] => if rngB j = true then .ok (rngI 0 j.toNat, p.2.1) else .bad
 | _ => .bad
noncomputable def Ag : Nat -> zq -> zq
 | _, [] => []
 | k, d :: r => .tuple [.int (k : Int), d] :: Ag (k + 1) r
noncomputable def AW (f : DE) : DA := fun δ => (vE f δ).bind fun p => match p.1 with
 | .list xs => .ok (Ag 0 xs, p.2)
 | _ => .bad
theorem iR : ∀ (ds : zq) (k i : Nat), (Ag k ds)[i]? = (ds[i]?).map fun d => .tuple [.int ((k + i : Nat) : Int), d]
 | [], _, _ => by simp [Ag]
 | d :: r, k, 0 => by simp [Ag]
 | d :: r, k, i + 1 => by
  simp only [Ag, List.getElem?_cons_succ]
  rw [iR r (k + 1) i, show k + 1 + i = k + (i + 1) by lia]
theorem iS : ∀ (ds : zq) (k : Nat), (Ag k ds).length = ds.length
 | [], _ => rfl
 | d :: r, k => by rw [Ag, List.length_cons, List.length_cons, iS r]
section
variable {K : W.Frag} {G : Hp} {a : Addr} {xs : List V} {ds : zq}
theorem gP (q : SqR K G a xs) (r : Dts K G xs ds) : AH K (Itl K a) G ds := fun i G1 H1 s1 s2 => by
 have q' : SqL K H1 a xs := ((s1.trans s2).sqr q).sq
 refine ⟨fun d e => ?_, fun h => ⟨xs, q', by rw [r.len]; exact h⟩⟩
 obtain ⟨v, e1, e2⟩ := r.get' e
 refine ⟨⟨xs, v, q', e1⟩, fun x H2 ⟨eH, hx⟩ => ?_⟩
 subst eH
 have := hx xs q'
 rw [e1] at this
 cases this
 exact ⟨G1, .refl s2, e2.mono s1⟩
theorem iT (q : TuT G a xs) (r : Dts K G xs ds) : AH K (Itt K a) G ds := fun i G1 H1 s1 s2 => by
 have q' : SqT K H1 a xs := (s1.trans s2).tup q
 refine ⟨fun d e => ?_, fun h => ⟨xs, q', by rw [r.len]; exact h⟩⟩
 obtain ⟨v, e1, e2⟩ := r.get' e
 refine ⟨⟨xs, v, q', e1⟩, fun x H2 ⟨eH, hx⟩ => ?_⟩
 subst eH
 have := hx xs q'
 rw [e1] at this
 cases this
 exact ⟨G1, .refl s2, e2.mono s1⟩
theorem cx (lo : Int) (n : Nat) : (rngI lo n).length = n := by simp [rngI]
theorem fO (lo : Int) (n : Nat) : AH K (Itr lo n) G (rngI lo n) := fun i G1 H1 s1 s2 => by
 refine ⟨fun d e => ?_, fun h => by rw [cx] at h; exact h⟩
 have hi : i < n := by
  have := (List.getElem?_eq_some_iff.mp e).1
  rwa [cx] at this
 refine ⟨hi, fun x H2 ⟨eH, hx⟩ => ?_⟩
 subst eH hx
 unfold rngI at e
 rw [List.getElem?_map, List.getElem?_range hi] at e
 cases e
 exact ⟨G1, .refl s2, .int _⟩
theorem lX (q : SqR K G a xs) (r : Dts K G xs ds) : AH K (Ite K a) G (Ag 0 ds) := fun i G1 H1 s1 s2 => by
 have q' : SqL K H1 a xs := ((s1.trans s2).sqr q).sq
 refine ⟨fun d e => ?_, fun h => ⟨xs, q', by rw [r.len]; rw [iS] at h; exact h⟩⟩
 rw [iR] at e
 obtain ⟨d0, e0, rfl⟩ := Option.map_eq_some_iff.mp e
 obtain ⟨v, e1, e2⟩ := r.get' e0
 refine ⟨⟨xs, v, q', e1⟩, fun x H2 ⟨p, y, ex, hp, eH, hy⟩ => ?_⟩
 subst ex eH
 have := hy xs q'
 rw [e1] at this
 cases this
 refine ⟨_, .laid s2 hp, .tup aj (.cons ?_ (.cons (e2.mono (s1.trans (ay (s2.free hp)))) .nil))⟩
 rw [Nat.zero_add]
 exact .int _
end
section
variable {X : Cx} {E : XK} {tg l a b : Expr} {f : DE} {oa ob : Opd} {ops : List Opd} {p pos : Pos}
theorem jm (hl : SE X E l f) : SI X E tg l (Av f) := (pP hl).weak fun σ H Q ⟨G0, H0, G, δ, R, m⟩ => by
 refine rQ R ?_
 unfold Av at m
 cases e : vE f δ with
 | ok p =>
  rw [e, Out.bind_ok] at m
  intro v H' G' R' s hd
  split at m
  next xs q =>
   rw [q] at hd
   cases hd with
   | lst q r => exact ⟨_, rfl, .inl ⟨⟨_, (R'.g.gh.sqr q).sq⟩, m _ H' G' R' s (gP q r)⟩⟩
  next xs q =>
   rw [q] at hd
   cases hd with
   | tup q r => exact ⟨_, rfl, .inr ⟨⟨_, R'.g.gh.tup q⟩, m _ H' G' R' s (iT q r)⟩⟩
  next => exact m.elim
 | exc x => rw [e] at m; exact m
 | bad => rw [e] at m; exact m
theorem q5 {P : List V -> Hp -> Prop} {K : W.Frag} {mg : zr} {G0 H0 G H : Hp} {σ : St} {δ : DEnv} (R : Rel K mg G0 H0 G H σ δ)
  (h : match opds ops δ with
   | .ok p => ∀ vs H' G' G1, Rel K mg G0 H0 G' H' σ p.2.1 -> Same G G' -> Same G1 H' -> Dts K G1 vs p.1 -> P vs H'
   | .exc x => PoX mg E H0 x
   | .bad => False) : tOs K mg E ops σ H P := by
 refine cU ops R ?_
 unfold opds at h
 cases e1 : evO ops δ with
 | ok p =>
  rw [e1, Out.bind_ok] at h
  intro vs H1 G1 R1 s1 ov
  cases e2 : A0 (zC (zD p.1) p.2) p.1 with
  | none => rw [e2] at h; exact h.elim
  | some ds =>
   rw [e2] at h
   obtain ⟨G2, l, R2, L⟩ := R1.relA (zD p.1)
   exact h vs H1 G1 G2 R1 s1 R2.g.gh ((ov.mono L.ext).view R2 e2)
 | exc x => rw [e1] at h; exact h
 | bad => rw [e1] at h; exact h
theorem nR (hm : X.mg "range" = none) (ha : SO X E a oa) (hg : Gl X "range" := by rfl) (hs : starEach [a] X.env = [(false, eval a X.env)] := by rfl) : SI X E tg (.Call (.Name "range" p) [a] [] pos) (itR1 [oa]) :=
 (iA hg hm (aa ha ag hs) hs).weak fun σ H Q ⟨G0, H0, G, δ, R, m⟩ => by
  refine q5 R ?_
  unfold itR1 at m
  cases e : opds [oa] δ with
  | ok q =>
   rw [e, Out.bind_ok] at m
   intro vs H' G' G1 R' s s1 hd
   split at m
   next j ej =>
    rw [ej] at hd
    obtain ⟨v, rfl, h1⟩ := dts1 hd
    cases h1
    split at m
    next hj =>
     have hj := of_decide_eq_true hj
     exact ⟨j, rfl, hj.1, hj.2, m _ H' G' R' s (fO 0 j.toNat)⟩
    next => exact m.elim
   next => exact m.elim
  | exc x => rw [e] at m; exact m
  | bad => rw [e] at m; exact m
theorem sk {ts : List Expr} {tk : Nat} {tp : Pos} (hm : X.mg "enumerate" = none) (hl : SE X E l f) (hg : Gl X "enumerate" := by rfl) (hs : starEach [l] X.env = [(false, eval l X.env)] := by rfl) : SI X E (.Tuple ts tk tp) (.Call (.Name "enumerate" p) [l] [] pos) (AW f) :=
 (rO hm (cF hl gB hs) hg hs).weak fun σ H Q ⟨G0, H0, G, δ, R, m⟩ => by
  refine rQ R ?_
  unfold AW at m
  cases e : vE f δ with
  | ok p =>
   rw [e, Out.bind_ok] at m
   intro v H' G' R' s hd
   split at m
   next xs q =>
    rw [q] at hd
    cases hd with
    | lst q r => exact ⟨_, rfl, ⟨_, (R'.g.gh.sqr q).sq⟩, m _ H' G' R' s (lX q r)⟩
   next => exact m.elim
  | exc x => rw [e] at m; exact m
  | bad => rw [e] at m; exact m
end
abbrev DG := PyData -> DEnv -> Option DEnv
noncomputable def TgS (K : W.Frag) (mg : zr) (g : TG) (k : DG) : Prop := ∀ (G0 H0 G H : Hp) (σ : St) (δ δ' : DEnv) (v : V) (d : PyData) (Q : St -> Hp -> Prop),
 Rel K mg G0 H0 G H σ δ -> Dt K G v d -> k d δ = some δ' -> (∀ σ', Rel K mg G0 H0 G H σ' δ' -> Q σ' H) -> g v σ H Q
noncomputable def kN (i : Nat) : DG := fun d δ => if i < δ.length then some (δ.set i (some (.sh d))) else none
noncomputable def kNs : List Nat -> zq -> DEnv -> Option DEnv
 | [], [], δ => some δ
 | i :: is, d :: ds, δ => (kN i d δ).bind (kNs is ds)
 | _, _, _ => none
noncomputable def kTup (is : List Nat) : DG := fun d δ => match d with
 | .tuple ds => kNs is ds δ
 | _ => none
noncomputable def AX : List Nat -> TGs
 | [] => gNil
 | i :: is => Br (Ac i) (AX is)
section
variable {K : W.Frag} {mg : zr}
theorem ff (i : Nat) : TgS K mg (Ac i) (kN i) := fun G0 H0 G H σ δ δ' v d Q R hd e k => by
 unfold kN at e
 split at e
 next hi =>
  cases e
  exact k _ (R.store (by rw [<- R.len]; exact hi) (RR.sh hd))
 next => cases e
theorem kj : ∀ (is : List Nat) {G0 H0 G H : Hp} {σ : St} {δ δ' : DEnv} {vs : List V} {ds : zq} {Q : St -> Hp -> Prop},
  Rel K mg G0 H0 G H σ δ -> Dts K G vs ds -> kNs is ds δ = some δ' -> (∀ σ', Rel K mg G0 H0 G H σ' δ' -> Q σ' H) -> AX is vs σ H Q
 | [], G0, H0, G, H, σ, δ, δ', vs, ds, Q, R, hd, e, k => by
  cases hd with
  | nil => cases e; exact ⟨rfl, k σ R⟩
  | cons _ _ => cases e
 | i :: is, G0, H0, G, H, σ, δ, δ', vs, ds, Q, R, hd, e, k => by
  cases hd with
  | nil => cases e
  | cons h1 t =>
   obtain ⟨δ1, e1, e2⟩ := Option.bind_eq_some_iff.mp e
   exact ⟨_, _, rfl, ff i G0 H0 G H σ δ δ1 _ _ _ R h1 e1 fun σ1 R1 => kj is R1 t e2 k⟩
theorem uI (is : List Nat) : TgS K mg (gTup K is.length (AX is)) (kTup is) := fun G0 H0 G H σ δ δ' v d Q R hd e k => by
 unfold kTup at e
 split at e
 next ds =>
  cases hd with
  | tup q r =>
   have hl : ∀ (is : List Nat) (ds : zq) (δ δ' : DEnv), kNs is ds δ = some δ' -> ds.length = is.length := fun is => by
    induction is with
    | nil => intro ds δ δ' e; cases ds with | nil => rfl | cons _ _ => cases e
    | cons i is ih =>
     intro ds δ δ' e
     cases ds with
     | nil => cases e
     | cons d ds =>
      obtain ⟨δ1, _, e2⟩ := Option.bind_eq_some_iff.mp e
      rw [List.length_cons, List.length_cons, ih ds δ1 δ' e2]
   exact ⟨_, _, rfl, R.g.gh.tup q, by rw [r.len]; exact hl is ds δ δ' e, kj is R r e k⟩
 next => cases e
end
section
variable {X : Cx} {x y : Str} {px py pt : Pos} {kt : Nat}
theorem qa (i : Nat) (hN : X.N.Nodup) (hi : X.N[i]? = some x := by rfl) (hx : Loc X.env.scope x := by first | exact Or.inl rfl | exact Or.inr rfl) (hf : X.fn x = true \/ X.env.scope.names.lookup x = some .local := by first | exact .inl rfl | exact .inr rfl | assumption) : PG X (.Name x px) (Ac i) := eJ hN hi hx hf
theorem yW (i j : Nat) (hc : X.calm = true) (hN : X.N.Nodup) (hi : X.N[i]? = some x := by rfl) (hj : X.N[j]? = some y := by rfl) (hx : Loc X.env.scope x := by first | exact Or.inl rfl | exact Or.inr rfl) (hy : Loc X.env.scope y := by first | exact Or.inl rfl | exact Or.inr rfl)
  (hf : X.fn x = true \/ X.env.scope.names.lookup x = some .local := by first | exact .inl rfl | exact .inr rfl | assumption) (hf2 : X.fn y = true \/ X.env.scope.names.lookup y = some .local := by first | exact .inl rfl | exact .inr rfl | assumption) :
  PG X (.Tuple [.Name x px, .Name y py] kt pt) (gTup X.K [i, j].length (AX [i, j])) := uh hc (jV (eJ hN hi hx hf) (jV (eJ hN hj hy hf2) ri))
end
noncomputable def forL (k : DG) (fb : DS) : zq -> DEnv -> SOut
 | [], δ => .nx δ
 | d :: ds, δ => match k d δ with
  | none => .bad
  | some δ1 => match fb δ1 with
   | .nx δ2 => forL k fb ds δ2
   | .ct δ2 => forL k fb ds δ2
   | .bk δ2 => .nx δ2
   | .rt r => .rt r
   | .exc x => .exc x
   | .bad => .bad
noncomputable def sFor (fi : DA) (k : DG) (fb : DS) : DS := fun δ => match fi δ with
 | .ok p => forL k fb p.1 p.2
 | .exc x => .exc x
 | .bad => .bad
theorem wQ {K : W.Frag} {mg : zr} {E : XK} {fi : DA} {k : DG} {g : TG} {fb : DS} {D : Ends} {σ : St} {H : Hp} (hk : TgS K mg g k) (q : tS K mg E (sFor fi k fb) D σ H) : tFor (tI K mg E fi) g (tS K mg E fb) D σ H := by
 obtain ⟨G0, H0, G, δ, R, m⟩ := q
 refine ⟨G0, H0, G, δ, R, ?_⟩
 unfold sFor at m
 cases e : fi δ with
 | exc x => rw [e] at m; exact m
 | bad => rw [e] at m; exact m
 | ok p =>
  rw [e] at m
  dsimp only at m
  intro J H1 G1 R1 s1 W
  refine ⟨fun i mm σ2 H2 => ∃ G2 δ2, Rel K mg G0 H0 G2 H2 σ2 δ2 /\ Same G1 G2 /\ i + mm = p.1.length /\ PoS K mg E G0 H0 G2 D (forL k fb (p.1.drop i) δ2), ⟨p.1.length, G1, p.2, R1, .refl _, Nat.zero_add _, m.mono s1⟩, ?_⟩
  rintro i mm σ2 H2 ⟨G2, δ2, R2, s2, him, m2⟩
  obtain ⟨w1, w2⟩ := W i G2 H2 s2 R2.g.gh
  cases hd : p.1[i]? with
  | none =>
   have hi : p.1.length <= i := List.getElem?_eq_none_iff.mp hd
   refine .inl ⟨w2 hi, ?_⟩
   rw [List.drop_eq_nil_of_le hi] at m2
   exact m2 σ2 H2 G2 R2 (.refl _)
  | some d =>
   have hi : i < p.1.length := (List.getElem?_eq_some_iff.mp hd).1
   obtain ⟨go, yl⟩ := w1 d hd
   have ed : p.1.drop i = d :: p.1.drop (i + 1) := by
    rw [List.drop_eq_getElem_cons hi]
    congr 1
    exact Option.some.inj ((List.getElem?_eq_getElem hi).symm.trans hd)
   rw [ed] at m2
   unfold forL at m2
   refine .inr ⟨go, fun σ3 H3 => ∃ G3 δ3, Rel K mg G0 H0 G3 H3 σ3 δ3 /\ Same G1 G3 /\ PoS K mg E G0 H0 G3 D (forL k fb (p.1.drop (i + 1)) δ3), fun σ3 H3 ⟨G3, δ3, R3, s3, m3⟩ => ⟨mm - 1, by lia, G3, δ3, R3, s3, by lia, m3⟩, fun x H3 hy => ?_⟩
   obtain ⟨G3, g3, dx⟩ := yl x H3 hy
   have R3 := R2.grow g3
   cases ek : k d δ2 with
   | none => rw [ek] at m2; exact m2.elim
   | some δ3 =>
    rw [ek] at m2
    dsimp only at m2
    refine hk G0 H0 G3 H3 σ2 δ2 δ3 x d _ R3 dx ek fun σ4 R4 => ⟨G0, H0, G3, δ3, R4, ?_⟩
    have s23 := g3.gg
    cases eb : fb δ3 with
    | nx δ4 => rw [eb] at m2; exact fun σ' H' G' R' s => ⟨G', δ4, R', (s2.trans s23).trans s, m2.mono (s23.trans s)⟩
    | ct δ4 => rw [eb] at m2; exact fun σ' H' G' R' s => ⟨G', δ4, R', (s2.trans s23).trans s, m2.mono (s23.trans s)⟩
    | bk δ4 => rw [eb] at m2; exact fun σ' H' G' R' s => m2 σ' H' G' R' (s23.trans s)
    | rt r => rw [eb] at m2; exact m2
    | exc x => rw [eb] at m2; exact m2
    | bad => rw [eb] at m2; exact m2
section
variable {X : Cx} {E : XK} {tg iter e c : Expr} {body : List Stmt} {fi : DA} {k : DG} {g : TG} {fb : DS} {fe : DE} {pos : Pos}
theorem gQ (hp : PassesOwn (model X.prog X.w) X.A X.env X.xe) (hc : X.calm = true) (hi : SI X E tg iter fi) (hg : PG X tg g) (hk : TgS X.K X.mg g k) (hb : SS X E body fb) (hs : ∀ x, foldedSetIterable iter X.env x = pure x := by intro _; rfl) : S1 X E (.For tg iter body [] pos) (sFor fi k fb) :=
 (pq hp hc hi hg hb hs).weak fun _ _ _ q => wQ hk q
end
section
variable {X : Cx} {E : XK} {tg e : Expr} {k : DG} {g : TG} {fe : DE} {pos : Pos}
end
noncomputable def isOl (δ : DEnv) (i : Nat) : Option zq := match δ[i]? with
 | some (some (.ol ds)) => some ds
 | _ => none
noncomputable def isOd (δ : DEnv) (i : Nat) : Option (List (PyData × PyData)) := match δ[i]? with
 | some (some (.od ds)) => some ds
 | _ => none
theorem jn {δ : DEnv} {i : Nat} {ds : zq} (h : isOl δ i = some ds) : δ[i]? = some (some (.ol ds)) := by
 unfold isOl at h
 split at h
 next q => cases h; exact q
 next => cases h
theorem jo {δ : DEnv} {i : Nat} {ds : List (PyData × PyData)} (h : isOd δ i = some ds) : δ[i]? = some (some (.od ds)) := by
 unfold isOd at h
 split at h
 next q => cases h; exact q
 next => cases h
noncomputable def sMut (up : zq -> zq -> Option zq) (i : Nat) (o : Opd) : DS := fun δ => match isOl δ i with
 | none => .bad
 | some _ => match opds [o] δ with
  | .ok p => (match isOl p.2.2 i with
   | none => .bad
   | some ds => match up ds p.1 with
    | some ds' => .nx (p.2.2.set i (some (.ol ds')))
    | none => .bad)
  | .exc x => .exc x
  | .bad => .bad
noncomputable def Aw (ds : zq) : zq -> Option zq
 | [d] => if ds.length < sizeLine then some (ds ++ [d]) else none
 | _ => none
noncomputable def putD (es : List (PyData × PyData)) (k : Key) (d : PyData) : List (PyData × PyData) :=
 if (es.any fun p => decide (zU p.1 = some k)) = true then es.map (fun p => if zU p.1 = some k then (p.1, d) else p) else es ++ [(keyD k, d)]
theorem Des.any {K : W.Frag} {G : Hp} {k : Key} : ∀ {kvs : List (Key × V)} {es : List (PyData × PyData)}, Des K G kvs es -> (kvs.any fun kv => decide (kv.1 = k)) = es.any fun p => decide (zU p.1 = some k)
 | _, _, .nil => rfl
 | _, _, .cons (k := j) _ r => by
  rw [List.any_cons, List.any_cons, Des.any r, cH]
  congr 1
  by_cases h : j = k <;> simp [h]
theorem Des.snoc {K : W.Frag} {G : Hp} {k : Key} {v : V} {d : PyData} (hd : Dt K G v d) : ∀ {kvs : List (Key × V)} {es : List (PyData × PyData)}, Des K G kvs es -> Des K G (kvs ++ [(k, v)]) (es ++ [(keyD k, d)])
 | _, _, .nil => .cons hd .nil
 | _, _, .cons x r => .cons x (Des.snoc hd r)
theorem Des.repl {K : W.Frag} {G : Hp} {k : Key} {v : V} {d : PyData} (hd : Dt K G v d) : ∀ {kvs : List (Key × V)} {es : List (PyData × PyData)}, Des K G kvs es -> Des K G (kvs.map fun kv => if kv.1 = k then (kv.1, v) else kv) (es.map fun p => if zU p.1 = some k then (p.1, d) else p)
 | _, _, .nil => .nil
 | _, _, .cons (k := j) (v := u) (d := d') x r => by
  rw [List.map_cons, List.map_cons]
  dsimp only
  rw [cH]
  by_cases h : j = k
  ·subst h
   rw [if_pos rfl, if_pos rfl]
   exact .cons hd (Des.repl hd r)
  ·rw [if_neg h, if_neg (by simpa using h)]
   exact .cons x (Des.repl hd r)
theorem Des.put {K : W.Frag} {G : Hp} {k : Key} {v : V} {d : PyData} {kvs : List (Key × V)} {es : List (PyData × PyData)} (h : Des K G kvs es) (hd : Dt K G v d) : Des K G (putK kvs k v) (putD es k d) := by
 unfold putK putD
 rw [h.any]
 split
 ·exact h.repl hd
 ·exact h.snoc hd
noncomputable def sPut (i : Nat) (ov ok : Opd) : DS := fun δ => match isOd δ i with
 | none => .bad
 | some _ => match opds [ov, ok] δ with
  | .ok p => (match isOd p.2.2 i, p.1 with
   | some es, [d, k] => (match zU k with
    | some k => if es.length < sizeLine then .nx (p.2.2.set i (some (.od (putD es k d)))) else .bad
    | none => .bad)
   | _, _ => .bad)
  | .exc x => .exc x
  | .bad => .bad
section
variable {K : W.Frag} {mg : zr} {E : XK} {G0 H0 G H : Hp} {σ : St} {δ : DEnv}
theorem fg {ops : List Opd} {P : List V -> Hp -> Prop} (R : Rel K mg G0 H0 G H σ δ)
  (h : match opds ops δ with
   | .ok p => ∀ vs H' G', Rel K mg G0 H0 G' H' σ p.2.2 -> Same G G' -> Dts K G' vs p.1 -> P vs H'
   | .exc x => PoX mg E H0 x
   | .bad => False) : tOs K mg E ops σ H P := by
 refine cU ops R ?_
 unfold opds at h
 cases e1 : evO ops δ with
 | ok p =>
  rw [e1, Out.bind_ok] at h
  intro vs H1 G1 R1 s1 ov
  cases e2 : A0 (zC (zD p.1) p.2) p.1 with
  | none => rw [e2] at h; exact h.elim
  | some ds =>
   rw [e2] at h
   obtain ⟨G2, l, R2, L⟩ := R1.relA (zD p.1)
   exact h vs H1 G2 R2 (s1.trans L.ext) ((ov.mono L.ext).view R2 e2)
 | exc x => rw [e1] at h; exact h
 | bad => rw [e1] at h; exact h
theorem fh {t : Opd} {P P' : V -> Hp -> Prop} (hp : ∀ v H, P v H -> P' v H) (q : tO K mg E t σ H P) : tO K mg E t σ H P' := by
 cases t with
 | nm i => obtain ⟨v, h1, h2⟩ := q; exact ⟨v, h1, hp _ _ h2⟩
 | ex f =>
  obtain ⟨G0, H0, G, δ, R, m⟩ := q
  refine ⟨G0, H0, G, δ, R, ?_⟩
  cases e : f δ with
  | ok p => rw [e] at m; exact fun v H' G' R' s rr => hp _ _ (m v H' G' R' s rr)
  | exc x => rw [e] at m; exact m
  | bad => rw [e] at m; exact m
end
noncomputable def MutS (K : W.Frag) (up : zq -> zq -> Option zq) (r : V -> List V -> Hp -> VK -> Prop) : Prop :=
 ∀ (G H : Hp) (a : Addr) (xs : List V) (ds ds' : zq) (vs : List V) (es : zq) (Q : VK), Same G H -> H a = some (.lst xs) -> Dts K G xs ds -> Dts K G vs es -> up ds es = some ds' -> (∀ v xs', Dts K G xs' ds' -> Q v (upd H a (.lst xs'))) -> r (.ref a) vs H Q
theorem tw {K : W.Frag} : MutS K Aw B6 := fun G H a xs ds ds' vs es Q hg ha hx hv e k => by
 unfold Aw at e
 split at e
 next d =>
  split at e
  next hl =>
   cases e
   obtain ⟨y, rfl, hy⟩ := dts1 hv
   exact ⟨a, xs, y, rfl, rfl, ha, by rw [hx.len]; exact hl, k _ _ (hx.append (.cons hy .nil))⟩
  next => cases e
 next => cases e
theorem tD {K : W.Frag} {mg : zr} {E : XK} {up : zq -> zq -> Option zq} {r : V -> List V -> Hp -> VK -> Prop} {i : Nat} {o : Opd} {D : Ends} {σ : St} {H : Hp} (hm : MutS K up r) (q : tS K mg E (sMut up i o) D σ H) :
  Bf (tBM K "list" r (tVar i) (tOs K mg E [o])) D σ H := by
 obtain ⟨G0, H0, G, δ, R, m⟩ := q
 unfold sMut at m
 cases e0 : isOl δ i with
 | none => rw [e0] at m; exact m.elim
 | some ds0 =>
  rw [e0] at m
  dsimp only at m
  obtain ⟨v, h1, ⟨a, xs, rfl, q1, q2, q3⟩, _⟩ := R.at_ (jn e0)
  refine ⟨.ref a, h1, .inl ⟨rfl, xs, .inl (.inl q2)⟩, ?_⟩
  refine fg R ?_
  cases e1 : opds [o] δ with
  | ok p =>
   rw [e1] at m
   dsimp only at m
   intro vs H1 G1 R1 s1 hd
   cases e2 : isOl p.2.2 i with
   | none => rw [e2] at m; exact m.elim
   | some ds =>
    rw [e2] at m
    dsimp only at m
    obtain ⟨u, g1, ⟨b, ys, rfl, y1, y2, y3⟩, _⟩ := R1.at_ (jn e2)
    rw [h1] at g1
    cases g1
    cases e3 : up ds p.1 with
    | none => rw [e3] at m; exact m.elim
    | some ds' =>
     rw [e3] at m
     refine hm G1 H1 a ys ds ds' vs p.1 _ R1.g.gh y2 y3 hd e3 fun v xs' hx => ?_
     exact m σ _ G1 (R1.write (jn e2) trivial h1 ⟨a, xs', rfl, y1, aj, hx⟩ (by rw [y2]; trivial) (fun C z => by rw [y2] at z; cases z)) s1
  | exc x => rw [e1] at m; exact m
  | bad => rw [e1] at m; exact m
section
variable {X : Cx} {E : XK} {e k v : Expr} {o ov ok : Opd} {x : Str} {px apos cpos pos tpos : Pos}
theorem qb (i : Nat) (he : SO X E e o) (hN : X.N[i]? = some x := by rfl) (hv : Vis X.env.scope x := by first | exact Or.inl rfl | exact Or.inr (Or.inl rfl) | exact Or.inr (Or.inr rfl)) (hd : (x == ("__debug__" : Str)) = false := by decide) (hcd : (x == ("__classdict__" : Str)) = false := by decide)
  (hs : swapsWith (.Call (.Attribute (.Name x px) "append" apos) [e] [] cpos) none pos.line X.env = pure false := by rfl) (hst : starEach [e] X.env = [(false, eval e X.env)] := by rfl)
  (hbase : attributeBase (.Name x px) "append" X.env (eval (.Name x px) X.env) = eval (.Name x px) X.env := by rfl)
  (hfew : ((backTo cpos (starEach [e] X.env)).all (fun x => !x.1) && (backToKw cpos (keywordEach [] X.env)).all (fun x => x.1.isSome) && decide (([e] : List Expr).length + ([] : List Keyword).length + (if ([] : List Keyword).isEmpty then 0 else 1) < 30)) = true := by rfl)
  (hline : (apos.endLine == cpos.line) = true := by rfl) : S1 X E (.Expr (.Call (.Attribute (.Name x px) "append" apos) [e] [] cpos) pos) (sMut Aw i o) :=
 (mG (t9 PySem.F.plainAttrs_list PySem.F.slot_list_append PySem.F.type_list_append iI (dU hN hv hd hcd) (aa he ag hst) hbase hfew hline hst rfl) hs).weak fun _ _ _ q => tD tw q
theorem uJ (i : Nat) (hu : X.A.units + 64 < cLine) (hval : SO X E v ov) (hk : SO X E k ok) (hN : X.N[i]? = some x := by rfl) (hv : Vis X.env.scope x := by first | exact Or.inl rfl | exact Or.inr (Or.inl rfl) | exact Or.inr (Or.inr rfl)) (hd : (x == ("__debug__" : Str)) = false := by decide)
  (hcd : (x == ("__classdict__" : Str)) = false := by decide) (hs : swapsWith v (some (.Subscript (.Name x px) k tpos)) pos.line X.env = pure false := by rfl) : S1 X E (.Assign [.Subscript (.Name x px) k tpos] v pos) (sPut i ov ok) :=
 (rF (by lia) (dU hN hv hd hcd) hk hval hs).weak fun D σ H ⟨G0, H0, G, δ, R, m⟩ => by
  unfold sPut at m
  cases e0 : isOd δ i with
  | none => rw [e0] at m; exact m.elim
  | some ds0 =>
   rw [e0] at m
   dsimp only at m
   obtain ⟨w, h1, ⟨a, xs, rfl, q1, q2, q3⟩, _⟩ := R.at_ (jo e0)
   have key : tOs X.K X.mg E [ov, ok] σ H fun vs H1 => ∃ y z, vs = [y, z] /\ ∃ a' H4, V.ref a = .ref a' /\ DPut H1 a' z y H4 /\ D.nx σ H4 := by
    refine fg R ?_
    cases e1 : opds [ov, ok] δ with
    | ok p =>
     rw [e1] at m
     dsimp only at m
     intro vs H1 G1 R1 s1 hdd
     split at m
     next es d k' e2 e3 =>
      rw [e3] at hdd
      obtain ⟨y, z, rfl, hy, hz⟩ := dts2 hdd
      obtain ⟨u, g1, ⟨b, ys, rfl, y1, y2, y3⟩, _⟩ := R1.at_ (jo e2)
      rw [h1] at g1
      cases g1
      split at m
      next kk ek =>
       split at m
       next hl =>
        have := pV hz ek
        subst this
        refine ⟨y, _, rfl, a, _, rfl, DPut.k y2 (by rw [y3.len]; exact hl), ?_⟩
        exact m σ _ G1 (R1.write (jo e2) trivial h1 ⟨a, _, rfl, y1, aj, y3.put hy⟩ (by rw [y2]; trivial) (fun C z => by rw [y2] at z; cases z)) s1
       next => exact m.elim
      next => exact m.elim
     next => exact m.elim
    | exc x => rw [e1] at m; exact m
    | bad => rw [e1] at m; exact m
   refine fh (fun y H1 q => ?_) key
   refine ⟨.ref a, h1, ?_⟩
   exact fh (fun z H2 ⟨y', z', ee, a', H4, e4, hp, hn⟩ => by cases ee; exact ⟨a', H4, e4, hp, hn⟩) q
end
section
variable {K : W.Frag} {mg : zr} {E : XK} {G0 H0 G H : Hp} {σ : St} {δ : DEnv}
theorem gR {ops : List Opd} {P : List V -> Hp -> Prop} (R : Rel K mg G0 H0 G H σ δ)
  (h : match opds ops δ with
   | .ok p => ∀ vs H' G' G2 l, Rel K mg G0 H0 G' H' σ p.2.1 -> Same G G' -> Rel K mg G0 H0 G2 H' σ p.2.2 -> Lent G' G2 l -> Dts K G2 vs p.1 -> P vs H'
   | .exc x => PoX mg E H0 x
   | .bad => False) : tOs K mg E ops σ H P := by
 refine cU ops R ?_
 unfold opds at h
 cases e1 : evO ops δ with
 | ok p =>
  rw [e1, Out.bind_ok] at h
  intro vs H1 G1 R1 s1 ov
  cases e2 : A0 (zC (zD p.1) p.2) p.1 with
  | none => rw [e2] at h; exact h.elim
  | some ds =>
   rw [e2] at h
   obtain ⟨G2, l, R2, L⟩ := R1.relA (zD p.1)
   exact h vs H1 G1 G2 l R1 s1 R2 L ((ov.mono L.ext).view R2 e2)
 | exc x => rw [e1] at h; exact h
 | bad => rw [e1] at h; exact h
end
noncomputable def PoF (K : W.Frag) (mg : zr) (G H : Hp) (Q : VK) (E : XK) : Out SD -> Prop
 | .ok r => ∀ v H' G', Grow G H G' H' -> VN K mg H G' H' v r -> Q v H'
 | .exc x => PoX mg E H x
 | .bad => False
noncomputable def spD (K : W.Frag) (mg : zr) (φ : zq -> Out SD) : Sp := fun vs H Q E => ∃ G ds, (Same G H /\ NoT G /\ AC H) /\ Dts K G vs ds /\ PoF K mg G H Q E (φ ds)
noncomputable def zG (φ : zq -> Out SD) (ops : List Opd) : DE := fun δ => (opds ops δ).bind fun p => (φ p.1).bind fun r => .ok (r, if r.pure = true then p.2.1 else p.2.2)
theorem uK {K : W.Frag} {mg : zr} {E : XK} {φ : zq -> Out SD} {ops : List Opd} {σ : St} {H : Hp} {Q : VK} (h : tE K mg E (zG φ ops) σ H Q) : Bg (spD K mg φ) [] E (tOs K mg E ops) σ H Q := by
 obtain ⟨G0, H0, G, δ, R, m⟩ := h
 refine gR R ?_
 unfold zG at m
 cases e : opds ops δ with
 | ok p =>
  rw [e, Out.bind_ok] at m
  intro vs H1 G1 G2 l R1 s1 R2 L hd
  rw [List.append_nil]
  refine ⟨G2, p.1, ⟨R2.g.gh, R2.noT, R2.tabs⟩, hd, ?_⟩
  cases e2 : φ p.1 with
  | ok r =>
   rw [e2, Out.bind_ok] at m
   intro v H2 G3 gr vn
   by_cases hp : r.pure = true
   ·rw [if_pos hp] at m
    obtain ⟨G4, gr4, vn4⟩ := L.back R1 R2.g.gh gr vn hp
    exact m v H2 G4 (R1.grow gr4) (s1.trans gr4.gg) (RR.of_new R1 vn4)
   ·rw [if_neg hp] at m
    exact m v H2 G3 (R2.grow gr) ((s1.trans L.ext).trans gr.gg) (RR.of_new R2 vn)
  | exc x => rw [e2] at m; exact fun H' C s hC => m H' C (R1.g.hh.trans s) hC
  | bad => rw [e2] at m; exact m
 | exc x => rw [e] at m; exact m
 | bad => rw [e] at m; exact m
abbrev DefD (P : Program) (w : World) (K : W.Frag) (mg : zr) (base : Heap) (x : Str) (k : Nat) (φ : zq -> Out SD) : Prop := ∃ (f : Addr) (fd : FuncData) (ps : List Str), Def P w K mg base (CXe P w) x k f fd ps (spD K mg φ)
section
variable {X : Cx} {E : XK} {x : Str} {k j : Nat} {φ : zq -> Out SD} {e : Expr} {es : List Expr} {ops : List Opd} {p pos : Pos}
theorem ar (D : DefD X.prog X.w X.K X.mg X.base x k φ) (hr : Room j X.A) (hx : Passes (CXe X.prog X.w) X E) (ha : PA X (e :: es) (tOs X.K X.mg E ops)) (hk : k <= j := by decide) (hg : Gl X x := by rfl) (hdb : (x == ("__debug__" : Str)) = false := by decide)
  (he : starEach (e :: es) X.env = (false, eval e X.env) :: starEach es X.env := by rfl) (hpl : (backTo pos (starEach es X.env)).any (·.1) = false := by rfl) : SE X E (.Call (.Name x p) (e :: es) [] pos) (zG φ ops) := by
 obtain ⟨f, fd, ps, D⟩ := D
 exact (gI D hr hx ha hg hk hdb he hpl).weak fun _ _ _ h => uK h
end
theorem e8 {X : Cx} {P : Program} {w : World} : Passes (CXe P w) X E0 := fun _ _ _ _ _ _ _ ⟨_, _, _, _, _, z⟩ => z.elim
noncomputable def start0 (n m : Nat) (ds : zq) : DEnv := ds.map (fun d => some (.sh d)) ++ List.replicate (n - m) none
noncomputable def runB (n m : Nat) (f : DS) (ds : zq) : Out SD := if ds.length = m then (match f (start0 n m ds) with
 | .nx _ => .ok (.sh .none)
 | .rt r => .ok r
 | .exc x => .exc x
 | _ => .bad) else .bad
theorem nU {K : W.Frag} {mg : zr} {G H : Hp} {vs : List V} {ds : zq} {N : List Str} {m : Nat} (hg : Same G H /\ NoT G /\ AC H) (hd : Dts K G vs ds) (hm : ds.length = m) : Rel K mg G H G H (start N vs) (start0 N.length m ds) where
 g := .refl hg.1
 tb := hg.2.2
 n0 := hg.2.1
 len := by unfold start start0; simp only [List.length_append, List.length_map, List.length_replicate]; rw [hd.len, hm]
 sl := fun i sd e => by
  unfold start0 at e
  by_cases hi : i < ds.length
  ·rw [List.getElem?_append_left (by simpa using hi), List.getElem?_map] at e
   cases e2 : ds[i]? with
   | none => rw [e2] at e; cases e
   | some d =>
    rw [e2] at e
    cases e
    obtain ⟨v, h1, h2⟩ := hd.get' e2
    refine ⟨v, ?_, h2⟩
    unfold start
    rw [List.getElem?_append_left (by rw [List.length_map, hd.len]; exact hi), List.getElem?_map, h1]
    rfl
  ·rw [List.getElem?_append_right (by simpa using hi), List.getElem?_replicate] at e
   split at e <;> cases e
 fr := fun i sd a e ho => by
  unfold start0 at e
  by_cases hi : i < ds.length
  ·rw [List.getElem?_append_left (by simpa using hi), List.getElem?_map] at e
   cases e2 : ds[i]? with
   | none => rw [e2] at e; cases e
   | some d => rw [e2] at e; cases e; exact ho.elim
  ·rw [List.getElem?_append_right (by simpa using hi), List.getElem?_replicate] at e
   split at e <;> cases e
 ap := fun i j sd te a e _ ho => by
  unfold start0 at e
  by_cases hi : i < ds.length
  ·rw [List.getElem?_append_left (by simpa using hi), List.getElem?_map] at e
   cases e2 : ds[i]? with
   | none => rw [e2] at e; cases e
   | some d => rw [e2] at e; cases e; exact ho.elim
  ·rw [List.getElem?_append_right (by simpa using hi), List.getElem?_replicate] at e
   split at e <;> cases e
theorem kl {n m : Nat} {f : DS} {ds : zq} (h : runB n m f ds ≠ .bad) : ds.length = m := by
 unfold runB at h
 split at h
 next e => exact e
 next => exact absurd rfl h
theorem aI {P : Program} {w : World} {K : W.Frag} {mg : zr} {base : Heap} {x qual : Str} {st : Stmt} {f : Addr} {fd : FuncData} {N ps : List Str} {k : Nat} {fb : DS} (F : Fun K x qual st f fd) (S : zA N ps (zw st))
  (body : ∀ (cdv : Value) (A : Around) (outer : List Env) (s : Shared) (H : Hp) (E : XK), Room k (A.deeper (envOfC qual (zw st) s.heap.objs.size f cdv)) -> SS (cxE P w K mg base N qual (zw st) f cdv A outer s H E) E (zT st) fb) :
  FnOk P w K mg base (CXe P w) (k + 1) f fd ps (spD K mg (runB N.length ps.length fb)) := by
 refine F.okE S (fun vs H Q E h => ?_) fun cdv A outer s H vs Q E hr h => ?_
 ·obtain ⟨G, ds, hg, hd, m⟩ := h
  rw [hd.len]
  exact kl fun z => by rw [z] at m; exact m
 ·obtain ⟨G, ds, hg, hd, m⟩ := h
  refine ⟨_, body cdv A outer s H E hr, G, H, G, start0 N.length ps.length ds, ?_, ?_⟩
  ·exact nU hg hd (kl fun z => by rw [z] at m; exact m)
  ·unfold runB at m
   split at m
   next hl =>
    cases e : fb (start0 N.length ps.length ds) with
    | nx δ => rw [e] at m; exact fun σ' H' G' R' s' => m .non H' G' R'.g (ke .non)
    | rt r => rw [e] at m; exact fun v H' G' g vn => m v H' G' g vn
    | exc x => rw [e] at m; exact m
    | bk δ => rw [e] at m; exact m.elim
    | ct δ => rw [e] at m; exact m.elim
    | bad => rw [e] at m; exact m.elim
   next => exact m.elim
noncomputable def PoC (K : W.Frag) (mg : zr) (E : XK) (G0 H0 G : Hp) (σ : St) (Q : It -> Hp -> Prop) : Out (zq × DEnv × DEnv) -> Prop
 | .ok p => ∀ J H' G' G2 l, Rel K mg G0 H0 G' H' σ p.2.1 -> Same G G' -> Rel K mg G0 H0 G2 H' σ p.2.2 -> Lent G' G2 l -> AH K J G2 p.1 -> Q J H'
 | .exc x => PoX mg E H0 x
 | .bad => False
abbrev DC := DEnv -> Out (zq × DEnv × DEnv)
noncomputable def tIC (K : W.Frag) (mg : zr) (E : XK) (f : DC) : TI := fun σ H Q => ∃ G0 H0 G δ, Rel K mg G0 H0 G H σ δ /\ PoC K mg E G0 H0 G σ Q (f δ)
noncomputable def AU (o : Opd) : DC := fun δ => (opds [o] δ).bind fun p => match p.1 with
 | [.list xs] => .ok (xs, p.2.1, p.2.2)
 | [.tuple xs] => .ok (xs, p.2.1, p.2.2)
 | _ => .bad
noncomputable def icR1 (o : Opd) : DC := fun δ => (opds [o] δ).bind fun p => match p.1 with
 | [.int j] => if rngB j = true then .ok (rngI 0 j.toNat, p.2.1, p.2.2) else .bad
 | _ => .bad
abbrev SIC (X : Cx) (E : XK) (tg iter : Expr) (f : DC) : Prop := PI X tg iter (tIC X.K X.mg E f)
section
variable {X : Cx} {E : XK} {tg l a b : Expr} {o oa ob : Opd} {p pos : Pos}
theorem jq (hl : SO X E l o) : SIC X E tg l (AU o) := (pP hl).weak fun σ H Q ⟨G0, H0, G, δ, R, m⟩ => by
 have key : tOs X.K X.mg E [o] σ H fun vs H1 => ∃ x, vs = [x] /\ ∃ a, x = .ref a /\ (((∃ xs, SqL X.K H1 a xs) /\ Q (Itl X.K a) H1) \/ ((∃ xs, SqT X.K H1 a xs) /\ Q (Itt X.K a) H1)) := by
  refine gR R ?_
  unfold AU at m
  cases e : opds [o] δ with
  | ok p =>
   rw [e, Out.bind_ok] at m
   intro vs H1 G1 G2 l R1 s1 R2 L hd
   split at m
   next xs q =>
    rw [q] at hd
    obtain ⟨x, rfl, h1⟩ := dts1 hd
    cases h1 with
    | lst q r => exact ⟨_, rfl, _, rfl, .inl ⟨⟨_, (R2.g.gh.sqr q).sq⟩, m _ H1 G1 G2 l R1 s1 R2 L (gP q r)⟩⟩
   next xs q =>
    rw [q] at hd
    obtain ⟨x, rfl, h1⟩ := dts1 hd
    cases h1 with
    | tup q r => exact ⟨_, rfl, _, rfl, .inr ⟨⟨_, R2.g.gh.tup q⟩, m _ H1 G1 G2 l R1 s1 R2 L (iT q r)⟩⟩
   next => exact m.elim
  | exc x => rw [e] at m; exact m
  | bad => rw [e] at m; exact m
 exact fh (fun v H1 ⟨x, ex, q⟩ => by cases ex; exact q) key
theorem gS (hm : X.mg "range" = none) (ha : SO X E a oa) (hg : Gl X "range" := by rfl) (hs : starEach [a] X.env = [(false, eval a X.env)] := by rfl) : SIC X E tg (.Call (.Name "range" p) [a] [] pos) (icR1 oa) :=
 (iA hg hm (aa ha ag hs) hs).weak fun σ H Q ⟨G0, H0, G, δ, R, m⟩ => by
  refine gR R ?_
  unfold icR1 at m
  cases e : opds [oa] δ with
  | ok q =>
   rw [e, Out.bind_ok] at m
   intro vs H1 G1 G2 l R1 s1 R2 L hd
   split at m
   next j ej =>
    rw [ej] at hd
    obtain ⟨v, rfl, h1⟩ := dts1 hd
    cases h1
    split at m
    next hj =>
     have hj := of_decide_eq_true hj
     exact ⟨j, rfl, hj.1, hj.2, m _ H1 G1 G2 l R1 s1 R2 L (fO 0 j.toNat)⟩
    next => exact m.elim
   next => exact m.elim
  | exc x => rw [e] at m; exact m
  | bad => rw [e] at m; exact m
end
noncomputable def rhoD (F : List Nat) (δ : DEnv) : DEnv := none :: F.map fun j => (δ[j]?).join
noncomputable def Ab (ρ : DEnv) (tc : DT) (te : DE) : zq -> Option zq
 | [] => some []
 | d :: ds => match tc (ρ.set 0 (some (.sh d))) with
  | .ok p => if p.1 = true then (match vE te p.2 with
    | .ok q => (Ab ρ tc te ds).map (q.1 :: ·)
    | _ => none) else Ab ρ tc te ds
  | _ => none
def A6 : DT := fun δ => .ok (true, δ)
noncomputable def Am (F : List Nat) (fc : DC) (tc : DT) (te : DE) : DE := fun δ => (fc δ).bind fun p => if p.1.length <= sizeLine then (match Ab (rhoD F (zC F p.2.2)) tc te p.1 with
 | some ys => .ok (.ol ys, if zx ys = true then p.2.1 else zC F p.2.2)
 | none => .bad) else .bad
theorem nV {i j : Nat} {δ : DEnv} {sd : SD} (h : (zY i δ)[j]? = some (some sd)) : (j = i /\ ¬ sd.owned) \/ (δ[j]? = some (some sd)) := by
 unfold zY at h
 split at h
 ·rcases aB h with ⟨z, e⟩ | ⟨_, e⟩
  ·cases e; exact .inl ⟨z, fun h => h⟩
  ·exact .inr e
 ·rcases aB h with ⟨z, e⟩ | ⟨_, e⟩
  ·cases e; exact .inl ⟨z, fun h => h⟩
  ·exact .inr e
 ·exact .inr h
theorem km {i : Nat} {δ : DEnv} {sd : SD} (h : (zY i δ)[i]? = some (some sd)) : ¬ sd.owned := by
 unfold zY at h
 split at h
 ·rcases aB h with ⟨_, e⟩ | ⟨z, _⟩
  ·cases e; exact fun h => h
  ·exact absurd rfl z
 ·rcases aB h with ⟨_, e⟩ | ⟨z, _⟩
  ·cases e; exact fun h => h
  ·exact absurd rfl z
 next n1 n2 =>
  intro ho
  cases sd with
  | sh d => exact ho
  | ol ds => exact n1 ds h
  | od ds => exact n2 ds h
  | ex x => exact ho
theorem fP : ∀ (is : List Nat) {δ : DEnv} {j : Nat}, (∀ sd, δ[j]? = some (some sd) -> ¬ sd.owned) -> ∀ sd, (zC is δ)[j]? = some (some sd) -> ¬ sd.owned
 | [], _, _, h, sd, e => h sd e
 | i :: r, δ, j, h, sd, e => fP r (δ := zY i δ) (fun sd' e' => by
   rcases nV e' with ⟨_, z⟩ | z
   ·exact z
   ·exact h sd' z) sd e
theorem gT : ∀ (is : List Nat) {δ : DEnv} {j : Nat} {sd : SD}, j ∈ is -> (zC is δ)[j]? = some (some sd) -> ¬ sd.owned
 | [], _, _, _, h, _ => absurd h (by simp)
 | i :: r, δ, j, sd, h, e => by
  rcases List.mem_cons.mp h with z | z
  ·subst z
   exact fP r (δ := zY j δ) (fun sd' e' => km e') sd e
  ·exact gT r z e
theorem iU {α : Type} {o : Option (Option α)} {a : α} (h : o.join = some a) : o = some (some a) := by
 cases o with
 | none => cases h
 | some b => cases b with
  | none => cases h
  | some c => cases h; rfl
theorem so {K : W.Frag} {mg : zr} {G0 H0 G H G1 H1 : Hp} {σ : St} {δ : DEnv} {F : List Nat} (R : Rel K mg G0 H0 G H σ δ) (ho : ∀ j ∈ F, ∀ sd, δ[j]? = some (some sd) -> ¬ sd.owned) (g : Grow G H G1 H1) : Rel K mg G H G1 H1 (rho 1 F σ) (rhoD F δ) := by
 have get : ∀ (i : Nat) sd, (rhoD F δ)[i]? = some (some sd) -> ∃ k j, i = k + 1 /\ F[k]? = some j /\ δ[j]? = some (some sd) := fun i sd e => by
  unfold rhoD at e
  cases i with
  | zero => cases e
  | succ k =>
   rw [List.getElem?_cons_succ, List.getElem?_map] at e
   cases e2 : F[k]? with
   | none => rw [e2] at e; cases e
   | some j =>
    rw [e2] at e
    exact ⟨k, j, rfl, e2, iU (Option.some.inj e)⟩
 refine ⟨g, ?_, fun i sd e => ?_, fun i sd a e h => ?_, fun i j sd te a e _ h => ?_, R.tabs, R.noT⟩
 ·rw [jh]; simp [rhoD]; omega
 ·obtain ⟨k, j, rfl, e1, e2⟩ := get i sd e
  obtain ⟨v, h1, h2⟩ := R.sl j sd e2
  refine ⟨v, ?_, h2.grow g⟩
  unfold rho
  rw [List.getElem?_append_right (by simp), List.getElem?_map]
  simp only [List.length_replicate, Nat.add_sub_cancel, e1, Option.map_some, h1, Option.join_some]
 ·obtain ⟨k, j, rfl, e1, e2⟩ := get i sd e
  exact absurd h (ho j (List.mem_of_getElem? e1) sd e2)
 ·obtain ⟨k, j, rfl, e1, e2⟩ := get i sd e
  exact absurd h (ho j (List.mem_of_getElem? e1) sd e2)
theorem qc {K : W.Frag} {mg : zr} {E : XK} {F : List Nat} {fc : DC} {tc : DT} {te : DE} {σ : St} {H : Hp} {Q : VK} (h : tE K mg E (Am F fc tc te) σ H Q) : AZ 1 F (tIC K mg E fc) (Ac 0) (tT K mg E0 tc) (tE K mg E0 te) σ H Q := by
 obtain ⟨G0, H0, G, δ, R, m⟩ := h
 refine ⟨G0, H0, G, δ, R, ?_⟩
 unfold Am at m
 cases e : fc δ with
 | exc x => rw [e] at m; exact m
 | bad => rw [e] at m; exact m
 | ok p =>
  rw [e, Out.bind_ok] at m
  intro J H1 G1 G2 l R1 s1 R2 L W
  split at m
  next hsz =>
   obtain ⟨G3, l3, R3, L3⟩ := R2.relA F
   have L13 := L.trans L3
   have ho : ∀ j ∈ F, ∀ sd, (zC F p.2.2)[j]? = some (some sd) -> ¬ sd.owned := fun j hj sd e => gT F hj e
   generalize hρ : rhoD F (zC F p.2.2) = ρ at m
   cases ec : Ab ρ tc te p.1 with
   | none => rw [ec] at m; exact m.elim
   | some total =>
    rw [ec] at m
    dsimp only at m
    refine ⟨fun i mm ys H2 => ∃ G4 es rest, Grow G3 H1 G4 H2 /\ Dts K G4 ys es /\ i + mm = p.1.length /\ ys.length <= i /\ Ab ρ tc te (p.1.drop i) = some rest /\ es ++ rest = total, ⟨p.1.length, G3, [], total, .refl R3.g.gh, .nil, Nat.zero_add _, Nat.le_refl _, ec, rfl⟩, ?_⟩
    rintro i mm ys H2 ⟨G4, es, rest, g4, hys, him, hyl, hc, ht⟩
    obtain ⟨w1, w2⟩ := W i G4 H2 (L3.ext.trans g4.gg) g4.gh
    cases hd : p.1[i]? with
    | none =>
     have hi : p.1.length <= i := List.getElem?_eq_none_iff.mp hd
     refine .inl ⟨w2 hi, fun D hD => ?_⟩
     rw [List.drop_eq_nil_of_le hi] at hc
     cases hc
     rw [List.append_nil] at ht
     subst ht
     have gD : Grow G3 H1 G4 (upd H2 D (.lst ys)) := g4.trans (.laidO g4.gh hD)
     have vn : VN K mg H1 G4 (upd H2 D (.lst ys)) (.ref D) (.ol es) := ⟨⟨D, ys, rfl, g4.gh.free hD, aj, hys⟩, fun _ a ea => by cases ea; exact g4.hh.free hD⟩
     by_cases hp : zx es = true
     ·rw [if_pos hp] at m
      obtain ⟨G5, gr5, vn5⟩ := L13.back R1 R3.g.gh gD vn hp
      exact m _ _ G5 (R1.grow gr5) (s1.trans gr5.gg) (RR.of_new R1 vn5)
     ·rw [if_neg hp] at m
      exact m _ _ G4 (R3.grow gD) ((s1.trans L13.ext).trans g4.gg) (RR.of_new R3 vn)
    | some d =>
     have hi : i < p.1.length := (List.getElem?_eq_some_iff.mp hd).1
     obtain ⟨go, yl⟩ := w1 d hd
     have ed : p.1.drop i = d :: p.1.drop (i + 1) := by
      rw [List.drop_eq_getElem_cons hi]
      congr 1
      exact Option.some.inj ((List.getElem?_eq_getElem hi).symm.trans hd)
     rw [ed] at hc
     unfold Ab at hc
     refine .inr ⟨go, fun x H3 hy => ?_⟩
     obtain ⟨G5, g5, dx⟩ := yl x H3 hy
     have g35 := g4.trans g5
     have Rr := so (F := F) R3 ho g35
     rw [hρ] at Rr
     have hz : 0 < (rho 1 F σ).length := by rw [jh]; omega
     have Rs := Rr.store hz (r := .sh d) (v := x) (RR.sh dx)
     show tT K mg E0 tc ((rho 1 F σ).set 0 (some x)) H3 _
     refine ⟨G3, H1, G5, ρ.set 0 (some (.sh d)), Rs, ?_⟩
     cases e1 : tc (ρ.set 0 (some (.sh d))) with
     | exc y => rw [e1] at hc; cases hc
     | bad => rw [e1] at hc; cases hc
     | ok q =>
      rw [e1] at hc
      dsimp only at hc
      intro H6 G6 R6 s6
      split
      next hb =>
       rw [if_pos hb] at hc
       refine rQ R6 ?_
       cases e2 : vE te q.2 with
       | exc y => rw [e2] at hc; cases hc
       | bad => rw [e2] at hc; cases hc
       | ok u =>
        rw [e2] at hc
        dsimp only at hc
        obtain ⟨rest', er, rfl⟩ := Option.map_eq_some_iff.mp hc
        intro v H7 G7 R7 s7 hv
        refine ⟨by omega, mm - 1, by omega, G7, es ++ [u.1], rest', R7.g, ?_, by omega, by rw [List.length_append, List.length_singleton]; omega, er, by rw [List.append_assoc]; exact ht⟩
        exact (hys.mono ((g5.gg.trans s6).trans s7)).append (.cons hv .nil)
      next hb =>
       rw [if_neg hb] at hc
       exact ⟨mm - 1, by omega, G6, es, rest, R6.g, hys.mono (g5.gg.trans s6), by omega, by omega, hc, ht⟩
  next => exact m.elim
section
variable {X : Cx} {E : XK} {N0 : List Str} {sc0 scope : Scope} {x y : Str} {elt iter : Expr} {ifs : List Expr} {fc : DC} {tc : DT} {te : DE} {pos px py spos : Pos} {F : List Nat}
theorem gd : PTs X [] (tT X.K X.mg E A6) := fun pins s σ H Q I ⟨G0, H0, G, δ, R, m⟩ => rJ pins s σ H Q I (m H G R (.refl _))
theorem gf (hok : Ak N0 sc0 x scope = true) (hF : Ar N0 scope = F) (hi : SIC X E (.Name x px) iter fc) (ht : ∀ cl C ex s H, PTs (zH X (x :: zF scope) scope cl C ex s H) ifs (tT X.K X.mg E0 tc)) (he : ∀ cl C ex s H, PE (zH X (x :: zF scope) scope cl C ex s H) elt (tE X.K X.mg E0 te)) (hN : X.N = N0 := by rfl)
  (hsc : X.env.scope = sc0 := by rfl) (hcm : X.calm = true := by rfl) (hs : ∀ x, foldedSetIterable iter X.env x = pure x := by intro _; rfl) : SE X E (.ListComp elt [⟨.Name x px, iter, ifs, 0⟩] scope pos) (Am F fc tc te) := by
 subst hF
 exact (pQ hok hi ht he hN hsc hcm hs).weak fun _ _ _ h => qc h
theorem sr (i : Nat) (hNd : X.N.Nodup) (hok : Ak N0 sc0 x scope = true) (hF : Ar N0 scope = F) (hi : SIC X E (.Name x px) iter fc) (ht : ∀ cl C ex s H, PTs (zH X (x :: zF scope) scope cl C ex s H) ifs (tT X.K X.mg E0 tc)) (he : ∀ cl C ex s H, PE (zH X (x :: zF scope) scope cl C ex s H) elt (tE X.K X.mg E0 te))
  (hy : Ai X.N y = some i := by rfl) (hN : X.N = N0 := by rfl) (hsc : X.env.scope = sc0 := by rfl) (hcm : X.calm = true := by rfl) (hl : X.env.scope.names.lookup y = some .local := by rfl)
  (hsw : swapsWith (.ListComp elt [⟨.Name x px, iter, ifs, 0⟩] scope pos) (some (.Name y py)) spos.line X.env = pure true := by rfl) (hs : ∀ x, foldedSetIterable iter X.env x = pure x := by intro _; rfl) :
  S1 X E (.Assign [.Name y py] (.ListComp elt [⟨.Name x px, iter, ifs, 0⟩] scope pos) spos) (sAsg i (Am F fc tc te)) := by
 subst hF
 exact (pR hok hi ht he hy hNd hN hsc hcm hl hsw hs).weak fun D σ H q => by
  have q' : tE X.K X.mg E (Am (Ar N0 scope) fc tc te) σ H fun x H1 => Ac i x σ H1 D.nx := tu q
  exact qc q'
end
section
variable {K : W.Frag} {mg : zr} {ck : DEnv -> Bool} {m : Nat}
end
section
variable {X : Cx} {E : XK} {x : Str} {C : Addr} {B newId initId : String} {bmB : List Value} {t : TA} {e : Expr} {es : List Expr} {np cpos pos : Pos} {ck : DEnv -> Bool}
end
section
variable {K : W.Frag} {mg : zr} {G0 H0 G H H' : Hp} {σ : St} {δ : DEnv} {i : Nat} {v : V}
end
section
variable {K : W.Frag} {mg : zr} {E : XK} {φ : zq -> Out SD} {ops : List Opd} {cat : Str -> Bool} {h : DS} {Cc : Value} {D : Ends} {σ : St} {H : Hp} {i : Nat}
end
section
variable {X : Cx} {E : XK} {x c n : Str} {k j i : Nat} {φ : zq -> Out SD} {e : Expr} {es : List Expr} {ops : List Opd} {p pos pos' cp hp tpos : Pos} {cat : Str -> Bool} {h : DS} {Cc : Value} {b0 : Stmt} {suite : List Stmt}
end
end L2
namespace PySem.W
open PySem PySem.Spec PySem.Calls PyProof.Rows
end PySem.W
namespace L2
open PySem PySem.Spec PyProof.Rows
variable [Tabs]
section
variable {X : Cx} {E : XK} {x n : Str} {cat : Str -> Bool} {p q r pos : Pos}
end
section
variable {X : Cx} {E : XK} {x : Str} {pos : Pos} {c : Int}
theorem mR (h : ∃ t, X.mg x = some (.int c t)) (hg : Gl X x := by rfl) (hdb : (x == ("__debug__" : Str)) = false := by decide) : SE X E (.Name x pos) (eC (.int c)) := by
 obtain ⟨t, h⟩ := h
 exact mP h (v := .int c) ⟨t, rfl⟩ (fun _ => .int c) hg hdb
end
section
variable {P : Program} {w : World} {K : W.Frag} {mg : zr} {base h : Heap} {x : Str} {st : Stmt} {f : Addr} {fd : FuncData}
structure zP (K : W.Frag) (mg : zr) (x : Str) (st : Stmt) (f : Addr) (fd : FuncData) : Prop where
 fn : Fun K x x st f fd
 at_ : mg x = some (.ref f)
theorem au {oc : Value} {od an : Option Addr} {osl : Array (Option Value)} {kV doc pm cdv ct : Value} (X : K.In h) (G : h.Ns mainGlobals mg) (a : W.nsIn K mainGlobals x = some (some (.ref f)))
  (l : K.lookup f = some ⟨oc, od, .func (W.fnOf x x (A4 st) (zT st) (zw st) .none kV doc pm an cdv ct), osl⟩) (c : W.codeIn K cdv x = true) (k : W.keepIn K (.ref f) = true) : zP K mg x st f (W.fnOf x x (A4 st) (zT st) (zw st) .none kV doc pm an cdv ct) :=
 ⟨uC l c k, W.mg_of X G a⟩
theorem aJ {ps : List Str} {k : Nat} {φ : zq -> Out SD} (A : zP K mg x st f fd) (ok : FnOk P w K mg base (CXe P w) k f fd ps (spD K mg φ))
  (b : ∀ (kV doc pm : Value) (an : Option Addr) (cdv ct : Value) (us : List Value), us.length = ps.length -> bindArgs (W.fnOf x x (A4 st) (zT st) (zw st) .none kV doc pm an cdv ct) ⟨us, []⟩ = pure (ps.zip us)) : DefD P w K mg base x k φ :=
 ⟨f, fd, ps, ok, A.at_, A.fn.kp, A.fn.binds b⟩
end
noncomputable def B9 (K : W.Frag) : Sp := fun vs H Q _ => ∃ (a : Addr) (ns : List Int), vs = [.ref a] /\ SqR K H a (ns.map V.int) /\ ns.length <= 63 /\ AC H /\ ∀ H', Q (.bl true) H'
theorem su {K : W.Frag} {H : Hp} {a : Addr} {ns : List Int} (hs : SqR K H a (ns.map V.int)) : ∃ G, Same G H /\ NoT G /\ SqR K G a (ns.map V.int) := by
 refine ⟨fun b => match H b with | some (.tbl _) => none | o => o, fun b o e => ?_, fun b ps z => ?_, ?_⟩
 ·dsimp only at e
  split at e
  ·cases e
  ·exact e
 ·dsimp only at z
  split at z
  ·cases z
  ·rename_i h; exact h ps z
 ·rcases hs with (h | ⟨o, h⟩) | h
  ·exact .inl (.inl (by dsimp only; rw [h]))
  ·exact .inl (.inr ⟨o, by dsimp only; rw [h]⟩)
  ·exact .inr h
theorem nW {K : W.Frag} {mg : zr} {φ : zq -> Out SD} (hφ : ∀ ns : List Int, ns.length <= 63 -> φ [.list (ns.map PyData.int)] = .ok (.sh (.bool true))) (vs : List V) (H : Hp) (Q : VK) (E : XK) (h : B9 K vs H Q E) : spD K mg φ vs H Q E := by
 obtain ⟨a, ns, rfl, hs, hl, tb, q⟩ := h
 obtain ⟨G, g1, g2, g3⟩ := su hs
 refine ⟨G, [.list (ns.map .int)], ⟨g1, g2, tb⟩, .cons (.lst g3 (Dts.ints ns)) .nil, ?_⟩
 rw [hφ ns hl]
 intro v H' G' _ vn
 have := vn.1
 cases this
 exact q H'
theorem nX {P : Program} {w : World} (outer : List Env) (H : Hp) (s : Shared) (e : Value) (s' : Shared) (h : CXe P w outer H s (fun _ _ _ => False) e s') : False := by
 obtain ⟨_, _, _, _, _, z⟩ := h
 exact z
@[simp ↓] theorem wR {α : Type} {c : Prop} [Decidable c] (a : α) : (if c then a else a) = a := by split <;> rfl
noncomputable def shOf : SD × DEnv -> Out (PyData × DEnv)
 | (.sh d, δ) => .ok (d, δ)
 | (.ol ds, δ) => .ok (.list ds, δ)
 | (.od es, δ) => .ok (.dict es, δ)
 | (.ex _, _) => .bad
@[simp] theorem xV (d : PyData) (δ : DEnv) : shOf (.sh d, δ) = .ok (d, δ) := rfl
@[simp] theorem xW (d : zq) (δ : DEnv) : shOf (.ol d, δ) = .ok (.list d, δ) := rfl
@[simp] theorem xX (d : List (PyData × PyData)) (δ : DEnv) : shOf (.od d, δ) = .ok (.dict d, δ) := rfl
@[simp] theorem wU (f : DE) (δ : DEnv) : vE f δ = (f δ).bind shOf := by
 unfold vE
 cases f δ with
 | ok p => obtain ⟨r, δ'⟩ := p; cases r <;> rfl
 | exc x => rfl
 | bad => rfl
@[simp] theorem xY (δ : DEnv) : evO [] δ = .ok ([], δ) := rfl
@[simp] theorem yX (i : Nat) (r : List Opd) (δ : DEnv) : evO (.nm i :: r) δ = match δ[i]? with
  | some (some _) => (evO r δ).bind fun q => .ok (.inr i :: q.1, q.2)
  | _ => .bad := by rw [evO] <;> rfl
@[simp] theorem yY (f : DE) (r : List Opd) (δ : DEnv) : evO (.ex f :: r) δ = (vE f δ).bind fun p => (evO r p.2).bind fun q => .ok (.inl p.1 :: q.1, q.2) := by rw [evO]
@[simp] theorem uL : zD [] = [] := rfl
@[simp] theorem wV (d : PyData) (r : List (Sum PyData Nat)) : zD (.inl d :: r) = zD r := rfl
@[simp] theorem wW (i : Nat) (r : List (Sum PyData Nat)) : zD (.inr i :: r) = i :: zD r := rfl
@[simp] theorem uM (δ : DEnv) : zC [] δ = δ := rfl
@[simp] theorem tF (i : Nat) (r : List Nat) (δ : DEnv) : zC (i :: r) δ = zC r (zY i δ) := rfl
@[simp] theorem vC (i : Nat) (δ : DEnv) : zY i δ = match δ[i]? with
 | some (some (.ol ds)) => δ.set i (some (.sh (.list ds)))
 | some (some (.od es)) => δ.set i (some (.sh (.dict es)))
 | _ => δ := rfl
@[simp] theorem wX (δ : DEnv) (i : Nat) : B0 δ i = match δ[i]? with
 | some (some (.sh d)) => some d
 | _ => none := rfl
@[simp] theorem vD (δ : DEnv) : A0 δ [] = some [] := rfl
@[simp] theorem xZ (δ : DEnv) (d : PyData) (r : List (Sum PyData Nat)) : A0 δ (.inl d :: r) = (A0 δ r).map (d :: ·) := rfl
@[simp] theorem y0 (δ : DEnv) (i : Nat) (r : List (Sum PyData Nat)) : A0 δ (.inr i :: r) = (B0 δ i).bind fun d => (A0 δ r).map (d :: ·) := rfl
noncomputable def Bx (p : List (Sum PyData Nat) × DEnv) : Out (zq × DEnv × DEnv) := match A0 (zC (zD p.1) p.2) p.1 with
 | some ds => .ok (ds, p.2, zC (zD p.1) p.2)
 | none => .bad
@[simp] theorem wY (l : List (Sum PyData Nat)) (δ : DEnv) : Bx (l, δ) = match A0 (zC (zD l) δ) l with
 | some ds => .ok (ds, δ, zC (zD l) δ)
 | none => .bad := rfl
@[simp] theorem y4 (ops : List Opd) (δ : DEnv) : opds ops δ = (evO ops δ).bind Bx := rfl
@[simp] theorem yZ (o : zq -> Option SD) (ops : List Opd) (δ : DEnv) : eOp o ops δ = (opds ops δ).bind fun p => fin2 (o p.1) p.2.1 p.2.2 := rfl
@[simp] theorem vF (r : SD) (δ1 δ2 : DEnv) : fin2 (some r) δ1 δ2 = .ok (r, if r.pure = true then δ1 else δ2) := rfl
@[simp] theorem vG (δ1 δ2 : DEnv) : fin2 none δ1 δ2 = .bad := rfl
@[simp] theorem y6 (d : PyData) : (SD.sh d).pure = zy d := rfl
@[simp] theorem y8 (d : zq) : (SD.ol d).pure = zx d := rfl
@[simp] theorem y9 (d : List (PyData × PyData)) : (SD.od d).pure = zx (d.map (·.2)) := rfl
@[simp] theorem vH (i : Int) : zy (.int i) = true := by simp [zy]
@[simp] theorem uN (i : Bool) : zy (.bool i) = true := by simp [zy]
@[simp] theorem vI (i : Str) : zy (.str i) = true := by simp [zy]
@[simp] theorem uO : zy .none = true := by simp [zy]
@[simp] theorem uP (l : zq) : zy (.list l) = false := by simp [zy]
@[simp] theorem uQ (l : List (PyData × PyData)) : zy (.dict l) = false := by simp [zy]
@[simp] theorem cW (l : zq) : zy (.tuple l) = zx l := by simp [zy]
@[simp] theorem lY : zx [] = true := by simp [zx]
@[simp] theorem ko (d : PyData) (l : zq) : zx (d :: l) = (zy d && zx l) := by simp [zx]
@[simp] theorem cX (l : List Int) : zx (l.map PyData.int) = true := by induction l <;> simp_all
@[simp] theorem r9 (l r : zq) : zx (l ++ r) = (zx l && zx r) := by induction l <;> simp_all [Bool.and_assoc]
@[simp] theorem zm (d : PyData) (δ : DEnv) : eC d δ = .ok (.sh d, δ) := rfl
@[simp] theorem zo (i : Nat) (δ : DEnv) : eV i δ = match δ[i]? with
 | some (some (.sh d)) => .ok (.sh d, δ)
 | some (some (.ol ds)) => .ok (.sh (.list ds), δ.set i (some (.sh (.list ds))))
 | some (some (.od ds)) => .ok (.sh (.dict ds), δ.set i (some (.sh (.dict ds))))
 | _ => .bad := rfl
@[simp] theorem vJ (δ : DEnv) : B4 δ = .ok (.od [], δ) := rfl
@[simp] theorem wZ (i j : Int) : dAdd [.int i, .int j] = some (.sh (.int (i + j))) := rfl
@[simp] theorem vK (x y : zq) : dAdd [.list x, .list y] = if x.length + y.length <= sizeLine then some (.ol (x ++ y)) else none := rfl
@[simp] theorem uR (x y : zq) : dAdd [.tuple x, .tuple y] = if x.length + y.length <= sizeLine then some (.sh (.tuple (x ++ y))) else none := rfl
@[simp] theorem x6 (x y : Str) : dAdd [.str x, .str y] = if x.length + y.length <= sizeLine then some (.sh (.str (x ++ y))) else none := rfl
@[simp] theorem x9 (i j : Int) : dSub [.int i, .int j] = some (.sh (.int (i - j))) := rfl
@[simp] theorem vL (i j : Int) : B8 [.int i, .int j] = if 0 < j /\ j < 1073741824 then some (.sh (.int (i / j))) else none := by simp [B8, dI2]
@[simp] theorem xa (i j : Int) : dMod [.int i, .int j] = if 0 < j then some (.sh (.int (i % j))) else none := by simp [dMod, dI2]
@[simp] theorem ya (i j : Int) : dLt [.int i, .int j] = some (.sh (.bool (decide (i < j)))) := rfl
@[simp] theorem yc (i j : Int) : dLe [.int i, .int j] = some (.sh (.bool (decide (i <= j)))) := rfl
@[simp] theorem yd (i j : Int) : dGt [.int i, .int j] = some (.sh (.bool (decide (j < i)))) := rfl
@[simp] theorem ye (i j : Int) : dGe [.int i, .int j] = some (.sh (.bool (decide (j <= i)))) := rfl
@[simp] theorem xb (i : Int) : dNeg [.int i] = some (.sh (.int (-i))) := rfl
@[simp] theorem xc (i j : Int) : dMul [.int i, .int j] = if cMul i j = true then some (.sh (.int (i * j))) else none := rfl
@[simp] theorem vM (xs : zq) (k : Int) : dMul [.list xs, .int k] = if 0 <= k /\ k < 2 ^ 63 /\ xs.length * k.toNat <= sizeLine then some (.ol (List.replicate k.toNat xs).flatten) else none := rfl
@[simp] theorem z9 (x y : PyData) : dEq [x, y] = (dEqB x y).map fun b => .sh (.bool b) := rfl
@[simp] theorem za (x y : PyData) : dNe [x, y] = (dEqB x y).map fun b => .sh (.bool !b) := rfl
@[simp] theorem xf (i j : Int) : dEqB (.int i) (.int j) = some (decide (i = j)) := rfl
@[simp] theorem vN (i j : Bool) : dEqB (.bool i) (.bool j) = some (decide (i = j)) := rfl
@[simp] theorem xg (i j : Str) : dEqB (.str i) (.str j) = some (decide (i = j)) := rfl
@[simp] theorem vO (x y : zq) : dEqB (.list x) (.list y) = if SeqAt.shaped (.list x) = true /\ SeqAt.shaped (.list y) = true then some (PyData.eqv (.list x) (.list y)) else none := rfl
@[simp] theorem uS (x y : zq) : dEqB (.tuple x) (.tuple y) = if SeqAt.shaped (.tuple x) = true /\ SeqAt.shaped (.tuple y) = true then some (PyData.eqv (.tuple x) (.tuple y)) else none := rfl
@[simp] theorem yf (x y : PyData) : dIdx [x, y] = (AS x y).map .sh := rfl
@[simp] theorem uT (xs : zq) (i : Int) : AS (.list xs) (.int i) = atI xs i := rfl
@[simp] theorem tG (xs : zq) (i : Int) : AS (.tuple xs) (.int i) = atI xs i := rfl
@[simp] theorem tH (es : List (PyData × PyData)) (i : Int) : AS (.dict es) (.int i) = AR es (.inl i) := rfl
@[simp] theorem yg (x : PyData) (i : Int) : dSlL [x, .int i] = slD x (some i) none := rfl
@[simp] theorem xh (xs : zq) (lo hi : Option Int) : slD (.list xs) lo hi = some (.ol (cutD xs lo hi)) := rfl
@[simp] theorem vP (xs : zq) (lo hi : Option Int) : slD (.tuple xs) lo hi = some (.sh (.tuple (cutD xs lo hi))) := rfl
@[simp] theorem vQ (xs : zq) : dLen [.list xs] = some (.sh (.int xs.length)) := rfl
@[simp] theorem uU (xs : zq) : dLen [.tuple xs] = some (.sh (.int xs.length)) := rfl
@[simp] theorem vR (xs : List (PyData × PyData)) : dLen [.dict xs] = some (.sh (.int xs.length)) := rfl
@[simp] theorem xi (i : Int) : dAbs [.int i] = some (.sh (.int (if i < 0 then -i else i))) := rfl
@[simp] theorem uV (xs : zq) : As [.list xs] = some (.ol xs) := rfl
@[simp] theorem tJ (xs : zq) : As [.tuple xs] = some (.ol xs) := rfl
@[simp] theorem uW (xs : List (PyData × PyData)) : As [.dict xs] = some (.ol (xs.map (·.1))) := rfl
@[simp] theorem tK (xs : zq) : Al [.list xs] = some (.sh (.tuple xs)) := rfl
@[simp] theorem sv (xs : zq) : Al [.tuple xs] = some (.sh (.tuple xs)) := rfl
@[simp] theorem yh (xs : zq) : dTup xs = if xs.length <= sizeLine then some (.sh (.tuple xs)) else none := rfl
@[simp] theorem yi (xs : zq) : dLst xs = if xs.length <= sizeLine then some (.ol xs) else none := rfl
@[simp] theorem vS (xs : zq) : AM [.list xs] = if xs.length < 64 then (A1 xs).map fun ns => .ol ((Aa ns).map PyData.int) else none := rfl
@[simp] theorem kq : ∀ ns : List Int, A1 (ns.map PyData.int) = some ns
 | [] => rfl
 | n :: r => by simp [A1, kq r]
@[simp] theorem vT (T : String) : dIsi T [.none] = some (.sh (.bool (isiD T .none))) := rfl
@[simp] theorem vU (T : String) (b : Bool) : dIsi T [.bool b] = some (.sh (.bool (isiD T (.bool b)))) := rfl
@[simp] theorem xj (T : String) (i : Int) : dIsi T [.int i] = some (.sh (.bool (isiD T (.int i)))) := rfl
@[simp] theorem xk (T : String) (i : Str) : dIsi T [.str i] = some (.sh (.bool (isiD T (.str i)))) := rfl
@[simp] theorem vV (T : String) (i : zq) : dIsi T [.list i] = some (.sh (.bool (isiD T (.list i)))) := rfl
@[simp] theorem uX (T : String) (i : zq) : dIsi T [.tuple i] = some (.sh (.bool (isiD T (.tuple i)))) := rfl
@[simp] theorem xl {n : Nat} (h : n <= 1000000) : n <= sizeLine := Nat.le_trans h (by decide)
@[simp] theorem tL (b : Bool) : Ae (.bool b) = some b := rfl
@[simp] theorem uY (b : Int) : Ae (.int b) = some (b != 0) := rfl
@[simp] theorem tM (b : zq) : Ae (.list b) = some (!b.isEmpty) := rfl
@[simp] theorem sy (b : zq) : Ae (.tuple b) = some (!b.isEmpty) := rfl
@[simp] theorem tN : Ae .none = some false := rfl
noncomputable def truO (p : zq × DEnv × DEnv) : Out (Bool × DEnv) := match p.1 with
 | [d] => (match Ae d with
  | some b => .ok (b, p.2.1)
  | none => .bad)
 | _ => .bad
@[simp] theorem yj (d : PyData) (δ1 δ2 : DEnv) : truO ([d], δ1, δ2) = match Ae d with
  | some b => .ok (b, δ1)
  | none => .bad := rfl
@[simp] theorem ym (o : Opd) (δ : DEnv) : tstO o δ = (opds [o] δ).bind truO := rfl
noncomputable def truV (p : SD × DEnv) : Out (Bool × DEnv) := match p.1 with
 | .sh (.bool b) => .ok (b, p.2)
 | _ => .bad
@[simp] theorem zb (b : Bool) (δ : DEnv) : truV (.sh (.bool b), δ) = .ok (b, δ) := rfl
@[simp] theorem yn (f : DE) (δ : DEnv) : tstV f δ = (f δ).bind truV := rfl
@[simp] theorem vW (f : DT) (δ : DEnv) : zR f δ = (f δ).bind fun p => .ok (!p.1, p.2) := rfl
@[simp] theorem xm (f g : DT) (δ : DEnv) : Au f g δ = (f δ).bind fun p => if p.1 = true then .ok (true, p.2) else g p.2 := rfl
@[simp] theorem vX (δ : DEnv) : A6 δ = .ok (true, δ) := rfl
@[simp] theorem yo (f : DE) (δ : DEnv) : eNot f δ = (f δ).bind fun p => (truV p).bind fun q => .ok (.sh (.bool !q.1), q.2) := by
 unfold eNot
 congr 1
 funext p
 obtain ⟨r, δ'⟩ := p
 cases r with
 | sh d => cases d <;> rfl
 | _ => rfl
@[simp] theorem yq (f g : DE) (δ : DEnv) : eAnd f g δ = (f δ).bind fun p => (truV p).bind fun q => if q.1 = true then g q.2 else .ok (.sh (.bool false), q.2) := by
 unfold eAnd
 congr 1
 funext p
 obtain ⟨r, δ'⟩ := p
 cases r with
 | sh d => cases d <;> rfl
 | _ => rfl
@[simp] theorem zc (t : DT) (f g : DE) (δ : DEnv) : eIf t f g δ = (t δ).bind fun p => if p.1 = true then f p.2 else g p.2 := rfl
@[simp] theorem xn (φ : zq -> Out SD) (ops : List Opd) (δ : DEnv) : zG φ ops δ = (opds ops δ).bind fun p => (φ p.1).bind fun r => .ok (r, if r.pure = true then p.2.1 else p.2.2) := rfl
noncomputable def SOut.andThen (x : SOut) (g : DS) : SOut := match x with
 | .nx δ => g δ
 | r => r
@[simp] theorem uZ (δ : DEnv) (g : DS) : (SOut.nx δ).andThen g = g δ := rfl
@[simp] theorem v5 (r : SD) (g : DS) : (SOut.rt r).andThen g = .rt r := rfl
@[simp] theorem v7 (δ : DEnv) (g : DS) : (SOut.bk δ).andThen g = .bk δ := rfl
@[simp] theorem v8 (δ : DEnv) (g : DS) : (SOut.ct δ).andThen g = .ct δ := rfl
@[simp] theorem tP (x : Str) (g : DS) : (SOut.exc x).andThen g = .exc x := rfl
@[simp] theorem tQ (g : DS) : SOut.bad.andThen g = .bad := rfl
@[simp] theorem yr (f g : DS) (δ : DEnv) : sSeq f g δ = (f δ).andThen g := rfl
noncomputable def Out.elimS {α : Type} (x : Out α) (f : α -> SOut) : SOut := match x with
 | .ok a => f a
 | .exc x => .exc x
 | .bad => .bad
@[simp] theorem xq {α : Type} (a : α) (f : α -> SOut) : (Out.ok a).elimS f = f a := rfl
@[simp] theorem vY {α : Type} (x : Str) (f : α -> SOut) : (Out.exc x : Out α).elimS f = .exc x := rfl
@[simp] theorem vZ {α : Type} (f : α -> SOut) : (Out.bad : Out α).elimS f = .bad := rfl
@[simp] theorem xr (δ : DEnv) : zK δ = .nx δ := rfl
@[simp] theorem yt (i : Nat) (f : DE) (δ : DEnv) : sAsg i f δ = (f δ).elimS fun p => if i < p.2.length then .nx (p.2.set i (some p.1)) else .bad := by unfold sAsg; cases f δ <;> rfl
@[simp] theorem yu (f : DE) (δ : DEnv) : sRet f δ = (f δ).elimS fun p => .rt p.1 := by unfold sRet; cases f δ <;> rfl
@[simp] theorem zd (t : DT) (f g : DS) (δ : DEnv) : sIf t f g δ = (t δ).elimS fun p => if p.1 = true then f p.2 else g p.2 := by unfold sIf; cases t δ <;> rfl
@[simp] theorem yv (fi : DA) (k : DG) (fb : DS) (δ : DEnv) : sFor fi k fb δ = (fi δ).elimS fun p => forL k fb p.1 p.2 := by unfold sFor; cases fi δ <;> rfl
@[simp] theorem xt (k : DG) (fb : DS) (δ : DEnv) : forL k fb [] δ = .nx δ := rfl
noncomputable def SOut.turn (x : SOut) (g : DS) : SOut := match x with
 | .nx δ => g δ
 | .ct δ => g δ
 | .bk δ => .nx δ
 | .rt r => .rt r
 | .exc x => .exc x
 | .bad => .bad
@[simp] theorem sA (δ : DEnv) (g : DS) : (SOut.nx δ).turn g = g δ := rfl
@[simp] theorem yx (r : SD) (g : DS) : (SOut.rt r).turn g = .rt r := rfl
@[simp] theorem yz (δ : DEnv) (g : DS) : (SOut.bk δ).turn g = .nx δ := rfl
@[simp] theorem yA (δ : DEnv) (g : DS) : (SOut.ct δ).turn g = g δ := rfl
@[simp] theorem xu (x : Str) (g : DS) : (SOut.exc x).turn g = .exc x := rfl
@[simp] theorem xv (g : DS) : SOut.bad.turn g = .bad := rfl
theorem cy (k : DG) (fb : DS) (d : PyData) (ds : zq) (δ : DEnv) : forL k fb (d :: ds) δ = match k d δ with
  | none => .bad
  | some δ1 => (fb δ1).turn (forL k fb ds) := by
 rw [forL]
 cases k d δ with
 | none => rfl
 | some δ1 => simp only; cases fb δ1 <;> rfl
@[simp] theorem zp (i : Nat) (d : PyData) (δ : DEnv) : kN i d δ = if i < δ.length then some (δ.set i (some (.sh d))) else none := rfl
@[simp] theorem yB (is : List Nat) (ds : zq) (δ : DEnv) : kTup is (.tuple ds) δ = kNs is ds δ := rfl
@[simp] theorem yC (δ : DEnv) : kNs [] [] δ = some δ := rfl
@[simp] theorem xw (i : Nat) (is : List Nat) (d : PyData) (ds : zq) (δ : DEnv) : kNs (i :: is) (d :: ds) δ = (kN i d δ).bind (kNs is ds) := rfl
noncomputable def seqI (p : PyData × DEnv) : Out (zq × DEnv) := match p.1 with
 | .list xs => .ok (xs, p.2)
 | .tuple xs => .ok (xs, p.2)
 | _ => .bad
@[simp] theorem w4 (xs : zq) (δ : DEnv) : seqI (.list xs, δ) = .ok (xs, δ) := rfl
@[simp] theorem v9 (xs : zq) (δ : DEnv) : seqI (.tuple xs, δ) = .ok (xs, δ) := rfl
@[simp] theorem kr (f : DE) (δ : DEnv) : Av f δ = (vE f δ).bind seqI := rfl
noncomputable def By (p : PyData × DEnv) : Out (zq × DEnv) := match p.1 with
 | .list xs => .ok (Ag 0 xs, p.2)
 | _ => .bad
@[simp] theorem va (xs : zq) (δ : DEnv) : By (.list xs, δ) = .ok (Ag 0 xs, δ) := rfl
@[simp] theorem w6 (f : DE) (δ : DEnv) : AW f δ = (vE f δ).bind By := rfl
noncomputable def r1I (p : zq × DEnv × DEnv) : Out (zq × DEnv) := match p.1 with
 | [.int j] => if rngB j = true then .ok (rngI 0 j.toNat, p.2.1) else .bad
 | _ => .bad
@[simp] theorem ze (j : Int) (δ1 δ2 : DEnv) : r1I ([.int j], δ1, δ2) = if rngB j = true then .ok (rngI 0 j.toNat, δ1) else .bad := rfl
@[simp] theorem yD (ops : List Opd) (δ : DEnv) : itR1 ops δ = (opds ops δ).bind r1I := rfl
noncomputable def seqC (p : zq × DEnv × DEnv) : Out (zq × DEnv × DEnv) := match p.1 with
 | [.list xs] => .ok (xs, p.2.1, p.2.2)
 | [.tuple xs] => .ok (xs, p.2.1, p.2.2)
 | _ => .bad
@[simp] theorem w8 (xs : zq) (δ1 δ2 : DEnv) : seqC ([.list xs], δ1, δ2) = .ok (xs, δ1, δ2) := rfl
@[simp] theorem vb (xs : zq) (δ1 δ2 : DEnv) : seqC ([.tuple xs], δ1, δ2) = .ok (xs, δ1, δ2) := rfl
@[simp] theorem xx (o : Opd) (δ : DEnv) : AU o δ = (opds [o] δ).bind seqC := rfl
noncomputable def r1C (p : zq × DEnv × DEnv) : Out (zq × DEnv × DEnv) := match p.1 with
 | [.int j] => if rngB j = true then .ok (rngI 0 j.toNat, p.2.1, p.2.2) else .bad
 | _ => .bad
@[simp] theorem zf (j : Int) (δ1 δ2 : DEnv) : r1C ([.int j], δ1, δ2) = if rngB j = true then .ok (rngI 0 j.toNat, δ1, δ2) else .bad := rfl
@[simp] theorem yE (o : Opd) (δ : DEnv) : icR1 o δ = (opds [o] δ).bind r1C := rfl
@[simp] theorem yF (δ : DEnv) (i : Nat) : isOl δ i = match δ[i]? with
 | some (some (.ol ds)) => some ds
 | _ => none := rfl
@[simp] theorem yG (δ : DEnv) (i : Nat) : isOd δ i = match δ[i]? with
 | some (some (.od ds)) => some ds
 | _ => none := rfl
@[simp] theorem yH (up : zq -> zq -> Option zq) (i : Nat) (o : Opd) (δ : DEnv) : sMut up i o δ = match isOl δ i with
 | none => .bad
 | some _ => (opds [o] δ).elimS fun p => match isOl p.2.2 i with
   | none => .bad
   | some ds => match up ds p.1 with
    | some ds' => .nx (p.2.2.set i (some (.ol ds')))
    | none => .bad := by unfold sMut; cases isOl δ i <;> first | rfl | (simp only; cases opds [o] δ <;> rfl)
@[simp] theorem xy (ds : zq) (d : PyData) : Aw ds [d] = if ds.length < sizeLine then some (ds ++ [d]) else none := rfl
noncomputable def putP (i : Nat) (p : zq × DEnv × DEnv) : SOut := match isOd p.2.2 i, p.1 with
   | some es, [d, k] => (match zU k with
    | some k => if es.length < sizeLine then .nx (p.2.2.set i (some (.od (putD es k d)))) else .bad
    | none => .bad)
   | _, _ => .bad
@[simp] theorem xA (i : Nat) (d : PyData) (k : Int) (δ1 δ2 : DEnv) : putP i ([d, .int k], δ1, δ2) = match isOd δ2 i with
  | some es => if es.length < sizeLine then .nx (δ2.set i (some (.od (putD es (.inl k) d)))) else .bad
  | none => .bad := by
 unfold putP
 cases isOd δ2 i <;> rfl
@[simp] theorem yI (i : Nat) (ov ok : Opd) (δ : DEnv) : sPut i ov ok δ = match isOd δ i with
 | none => .bad
 | some _ => (opds [ov, ok] δ).elimS (putP i) := by unfold sPut; cases isOd δ i <;> first | rfl | (simp only; cases opds [ov, ok] δ <;> rfl)
noncomputable def SOut.fin (x : SOut) : Out SD := match x with
 | .nx _ => .ok (.sh .none)
 | .rt r => .ok r
 | .exc x => .exc x
 | _ => .bad
@[simp] theorem zg (δ : DEnv) : (SOut.nx δ).fin = .ok (.sh .none) := rfl
@[simp] theorem zh (r : SD) : (SOut.rt r).fin = .ok r := rfl
@[simp] theorem yJ (x : Str) : (SOut.exc x).fin = .exc x := rfl
@[simp] theorem yK (n m : Nat) (f : DS) (ds : zq) : runB n m f ds = if ds.length = m then (f (start0 n m ds)).fin else .bad := rfl
@[simp] theorem w9 (n m : Nat) (ds : zq) : start0 n m ds = ds.map (fun d => some (.sh d)) ++ List.replicate (n - m) none := rfl
@[simp] theorem xB (F : List Nat) (fc : DC) (tc : DT) (te : DE) (δ : DEnv) : Am F fc tc te δ = (fc δ).bind fun p => if p.1.length <= sizeLine then (match Ab (rhoD F (zC F p.2.2)) tc te p.1 with
 | some ys => .ok (.ol ys, if zx ys = true then p.2.1 else zC F p.2.2)
 | none => .bad) else .bad := rfl
@[simp] theorem yL (F : List Nat) (δ : DEnv) : rhoD F δ = none :: F.map fun j => (δ[j]?).join := rfl
theorem fA {ρ : DEnv} {tc : DT} {te : DE} {b : PyData -> Bool} {y : PyData -> PyData} : ∀ {ds : zq}, (∀ d ∈ ds, ∃ ρ', tc (ρ.set 0 (some (.sh d))) = .ok (b d, ρ') /\ (b d = true -> ∃ ρ'', vE te ρ' = .ok (y d, ρ''))) -> Ab ρ tc te ds = some ((ds.filter b).map y)
 | [], _ => rfl
 | d :: ds, h => by
  obtain ⟨ρ', h1, h2⟩ := h d (List.mem_cons_self ..)
  have ih := fA (ds := ds) fun d' hd => h d' (List.mem_cons_of_mem _ hd)
  rw [Ab, h1]
  dsimp only
  cases hb : b d with
  | true =>
   obtain ⟨ρ'', h3⟩ := h2 hb
   rw [if_pos rfl, h3, ih, List.filter_cons, if_pos hb]
   rfl
  | false => rw [if_neg Bool.false_ne_true, ih, List.filter_cons, if_neg (by rw [hb]; exact Bool.false_ne_true)]
theorem dw {ρ : DEnv} {te : DE} {y : PyData -> PyData} {ds : zq} (h : ∀ d ∈ ds, ∃ ρ'', vE te (ρ.set 0 (some (.sh d))) = .ok (y d, ρ'')) : Ab ρ A6 te ds = some (ds.map y) := by
 have := fA (ρ := ρ) (tc := A6) (te := te) (b := fun _ => true) (y := y) (ds := ds) fun d hd => ⟨_, rfl, fun _ => h d hd⟩
 rw [this]
 congr 2
 exact List.filter_eq_self.mpr fun _ _ => rfl
noncomputable def zL (n : Nat) (d : PyData) : Prop := d.canLay0 = true /\ d.depth <= n
theorem zL.mono {n m : Nat} {d : PyData} (h : zL n d) (e : n <= m) : zL m d := ⟨h.1, Nat.le_trans h.2 e⟩
theorem ku (n : Nat) (i : Int) : zL n (.int i) := ⟨by simp [PyData.canLay0], by simp [PyData.depth]⟩
theorem bj (n : Nat) (s : Str) (h : PyData.strOk s = true) : zL n (.str s) := ⟨by simpa [PyData.canLay0] using h, by simp [PyData.depth]⟩
theorem gU {n : Nat} : ∀ {xs : zq}, (∀ x ∈ xs, zL n x) -> PyData.canLayAll0 xs = true /\ PyData.depthAll xs <= n
 | [], _ => ⟨by simp [PyData.canLayAll0], by simp [PyData.depthAll]⟩
 | x :: r, h => by
  obtain ⟨h1, h2⟩ := gU (n := n) (xs := r) fun y hy => h y (List.mem_cons_of_mem _ hy)
  obtain ⟨g1, g2⟩ := h x (List.mem_cons_self ..)
  exact ⟨by simp [PyData.canLayAll0, g1, h1], by simp only [PyData.depthAll]; lia⟩
theorem aS {n : Nat} {xs : zq} (h : ∀ x ∈ xs, zL n x) : zL (n + 1) (.list xs) := by
 obtain ⟨h1, h2⟩ := gU h
 exact ⟨by simpa [PyData.canLay0] using h1, by simp only [PyData.depth]; lia⟩
theorem gW {n : Nat} {xs : zq} (h : ∀ x ∈ xs, zL n x) : zL (n + 1) (.tuple xs) := by
 obtain ⟨h1, h2⟩ := gU h
 exact ⟨by simpa [PyData.canLay0] using h1, by simp only [PyData.depth]; lia⟩
theorem kx {n : Nat} {xs : zq} (h : zL n (.tuple xs)) : ∀ x ∈ xs, zL n x := by
 obtain ⟨h1, h2⟩ := h
 have h1' : PyData.canLayAll0 xs = true := by simpa [PyData.canLay0] using h1
 simp only [PyData.depth] at h2
 intro x hx
 have : ∀ {ys : zq}, PyData.canLayAll0 ys = true -> x ∈ ys -> x.canLay0 = true /\ x.depth <= PyData.depthAll ys := fun {ys} c m => by
  induction ys with
  | nil => cases m
  | cons y r ih =>
   simp only [PyData.canLayAll0, Bool.and_eq_true] at c
   simp only [PyData.depthAll]
   rcases List.mem_cons.mp m with z | z
   ·subst z; exact ⟨c.1, by lia⟩
   ·obtain ⟨a, b⟩ := ih c.2 z; exact ⟨a, by lia⟩
 obtain ⟨a, b⟩ := this h1' hx
 exact ⟨a, by lia⟩
theorem zL.shaped {n : Nat} {d : PyData} (h : zL n d) (hn : n <= 64) : SeqAt.shaped d = true := by
 unfold SeqAt.shaped
 rw [h.1, Bool.true_and]
 exact decide_eq_true (Nat.le_trans h.2 hn)
theorem zL.nd {n : Nat} {d : PyData} (h : zL n d) : ∀ es, d ≠ .dict es := fun es e => by
 subst e
 have := h.1
 simp [PyData.canLay0] at this
theorem fB (n : Nat) (ns : List Int) : ∀ x ∈ ns.map PyData.int, zL n x := fun x hx => by
 obtain ⟨i, _, rfl⟩ := List.mem_map.mp hx
 exact ku n i
mutual
theorem ky : ∀ d : PyData, d.canLay0 = true -> PyData.eqv d d = true
 | .none, _ => by simp [PyData.eqv]
 | .bool b, _ => by simp [PyData.eqv]
 | .int i, _ => by simp [PyData.eqv]
 | .str x, _ => by simp [PyData.eqv]
 | .list xs, h => by simp only [PyData.eqv]; exact cY xs (by simpa [PyData.canLay0] using h)
 | .tuple xs, h => by simp only [PyData.eqv]; exact cY xs (by simpa [PyData.canLay0] using h)
 | .dict _, h => by simp [PyData.canLay0] at h
theorem cY : ∀ ds : zq, PyData.canLayAll0 ds = true -> PyData.eqvAll ds ds = true
 | [], _ => by simp [PyData.eqvAll]
 | d :: r, h => by
  have h' := Bool.and_eq_true_iff.mp (by simpa [PyData.canLayAll0] using h)
  simp only [PyData.eqvAll, Bool.and_eq_true]
  exact ⟨ky d h'.1, cY r h'.2⟩
end
theorem jr (xs : zq) : PyData.eqv (.list xs) (.list []) = xs.isEmpty := by
 simp only [PyData.eqv]
 cases xs <;> simp [PyData.eqvAll]
theorem aK {n : Nat} (h : n <= 1000) : n <= sizeLine := Nat.le_trans h (by decide)
theorem gi {n : Nat} (h : n <= 1000) : n < sizeLine := Nat.lt_of_le_of_lt h (by decide)
theorem vc {α : Type} {xs : List α} {i : Int} (h0 : 0 <= i) (h1 : i < xs.length) : atI xs i = some (xs[i.toNat]'(by lia)) := by
 unfold atI ixN
 rw [if_pos h0, if_pos h1]
 exact List.getElem?_eq_getElem (by lia)
theorem mS {i : Int} (h0 : -1000000 <= i) (h1 : i <= 1000000) : rngB i = true := by
 unfold rngB
 exact decide_eq_true ⟨by lia, by lia⟩
def isWh : PyData -> Bool
 | .int _ => true
 | _ => false
theorem xC {d : PyData} (h : ∀ es, d ≠ .dict es) : (isiD "int" d && !isiD "bool" d) = isWh d := by
 cases d <;> first | rfl | exact absurd rfl (h _)
theorem gj {d : PyData} (T : String) (h : ∀ es, d ≠ .dict es) : dIsi T [d] = some (.sh (.bool (isiD T d))) := by
 cases d <;> first | rfl | exact absurd rfl (h _)
def absI (p : Int) : Int := if p < 0 then -p else p
noncomputable def Ax (many : Int) : Int -> zq -> Option Int
 | last, [] => some last
 | last, .int p :: r => if absI p <= last \/ many < absI p then none else Ax many (absI p) r
 | _, _ :: _ => none
noncomputable def AD (many : Int) : PyData -> Bool
 | .tuple ds => (Ax many 0 ds).isSome
 | _ => false
noncomputable def Ba (ns : List Int) (k : Int) : Int := if k < ns.length then ns.getD k.toNat 0 else if ns = [] then 0 else ns.getD (k % ns.length).toNat 0 * 31 + k
noncomputable def An (ns : List Int) (k : Int) : Int := (Ba ns k + 7919 * k + 1) * 48271 % 2147483647
noncomputable def mixZ (ns : List Int) (k m : Int) : Int := (An ns k * An ns k + 7 * An ns k + k) % 2147483629 % m
theorem nY (ns : List Int) (k : Int) : 0 <= An ns k := Int.emod_nonneg _ (by decide)
theorem nZ (ns : List Int) (k : Int) : An ns k < 2147483647 := Int.emod_lt_of_pos _ (by decide)
theorem bU (ns : List Int) (k : Int) {m : Int} (h : 0 < m) : 0 <= mixZ ns k m := Int.emod_nonneg _ (by lia)
theorem bV (ns : List Int) (k : Int) {m : Int} (h : 0 < m) : mixZ ns k m < m := Int.emod_lt_of_pos _ h
theorem js {i j : Int} (h0 : -1000000000000 <= j) (h1 : j <= 1000000000000) : cMul i j = true := by
 unfold cMul
 exact decide_eq_true (.inr ⟨by lia, by lia⟩)
theorem jt {i j : Int} (h0 : -1000000000000 <= i) (h1 : i <= 1000000000000) : cMul i j = true := by
 unfold cMul
 exact decide_eq_true (.inl ⟨by lia, by lia⟩)
abbrev scr (ns : List Int) : PyData := .list (ns.map PyData.int)
theorem fj {ns : List Int} {i : Int} (h0 : 0 <= i) (h1 : i < ns.length) : atI (ns.map PyData.int) i = some (.int (ns.getD i.toNat 0)) := by
 rw [vc h0 (by simpa using h1)]
 simp only [List.getElem_map]
 rw [List.getD_eq_getElem?_getD, List.getElem?_eq_getElem (by lia)]
 rfl
theorem kA {k : DG} {fb : DS} (inv : Nat -> DEnv -> Prop) : ∀ (ds : zq) (j : Nat) (δ : DEnv), inv j δ -> (∀ i d δ, ds[i]? = some d -> inv (j + i) δ -> ∃ δ1, k d δ = some δ1 /\ ∃ δ2, fb δ1 = .nx δ2 /\ inv (j + i + 1) δ2) -> ∃ δ', forL k fb ds δ = .nx δ' /\ inv (j + ds.length) δ'
 | [], j, δ, h0, _ => ⟨δ, rfl, h0⟩
 | d :: r, j, δ, h0, hs => by
  obtain ⟨δ1, e1, δ2, e2, h2⟩ := hs 0 d δ rfl h0
  obtain ⟨δ', e3, h3⟩ := kA inv r (j + 1) δ2 h2 fun i d' δ3 e h => by
   have := hs (i + 1) d' δ3 (by simpa using e) (by rw [show j + (i + 1) = j + 1 + i by lia]; exact h)
   rwa [show j + (i + 1) + 1 = j + 1 + i + 1 by lia] at this
  refine ⟨δ', ?_, by rw [List.length_cons, show j + (r.length + 1) = j + 1 + r.length by lia]; exact h3⟩
  rw [cy, e1]
  simp only [e2, sA]
  exact e3
theorem lZ {k : DG} {fb : DS} {lo : Int} {n : Nat} {δ : DEnv} (inv : Nat -> DEnv -> Prop) (h0 : inv 0 δ) (hs : ∀ i δ, i < n -> inv i δ -> ∃ δ1, k (.int (lo + i)) δ = some δ1 /\ ∃ δ2, fb δ1 = .nx δ2 /\ inv (i + 1) δ2) : ∃ δ', forL k fb (rngI lo n) δ = .nx δ' /\ inv n δ' := by
 obtain ⟨δ', e, h⟩ := kA (k := k) (fb := fb) inv (rngI lo n) 0 δ h0 fun i d δ e h => by
  have hi : i < n := by have := (List.getElem?_eq_some_iff.mp e).1; rwa [cx] at this
  unfold rngI at e
  rw [List.getElem?_map, List.getElem?_range hi] at e
  cases e
  rw [Nat.zero_add] at h ⊢
  exact hs i δ hi h
 exact ⟨δ', e, by rw [cx, Nat.zero_add] at h; exact h⟩
noncomputable def encP (ps : List (Int × Int)) : List (PyData × PyData) := ps.map fun p => (.int p.1, .int p.2)
noncomputable def putZ (ps : List (Int × Int)) (t v : Int) : List (Int × Int) := if (ps.any fun p => decide (p.1 = t)) = true then ps.map (fun p => if p.1 = t then (p.1, v) else p) else ps ++ [(t, v)]
noncomputable def valZ (ps : List (Int × Int)) (t : Int) : Option Int := (ps.find? fun p => decide (p.1 = t)).map (·.2)
def Ay (ps : List (Int × Int)) : List Int := ps.map (·.1)
@[simp] theorem wa (ps : List (Int × Int)) : (encP ps).map (·.1) = (Ay ps).map PyData.int := by
 unfold encP Ay; rw [List.map_map, List.map_map]; rfl
@[simp] theorem xD (ps : List (Int × Int)) : (encP ps).length = ps.length := by unfold encP; rw [List.length_map]
@[simp] theorem wb (ps : List (Int × Int)) : (Ay ps).length = ps.length := by unfold Ay; rw [List.length_map]
@[simp] theorem xE : encP [] = [] := rfl
theorem kC (t : Int) : ∀ ps : List (Int × Int), ((encP ps).any fun p => decide (zU p.1 = some (.inl t))) = ps.any fun p => decide (p.1 = t)
 | [] => rfl
 | p :: r => by
  have ih := kC t r
  unfold encP at ih ⊢
  rw [List.map_cons, List.any_cons, List.any_cons, ih]
  congr 1
  simp [zU]
theorem qd (ps : List (Int × Int)) (t v : Int) : putD (encP ps) (.inl t) (.int v) = encP (putZ ps t v) := by
 unfold putD putZ
 rw [kC]
 split
 ·unfold encP
  rw [List.map_map, List.map_map]
  apply List.map_congr_left
  intro p _
  simp only [Function.comp]
  by_cases h : p.1 = t
  ·simp [zU, h]
  ·simp [zU, h]
 ·simp [encP, keyD]
theorem iV (t : Int) : ∀ ps : List (Int × Int), AR (encP ps) (.inl t) = (valZ ps t).map PyData.int
 | [] => rfl
 | p :: r => by
  have ih := iV t r
  unfold AR valZ encP at ih ⊢
  rw [List.map_cons, List.find?_cons, List.find?_cons]
  by_cases h : p.1 = t
  ·simp [zU, h]
  ·simp only [zU, h, Option.some.injEq, Sum.inl.injEq, decide_false]
   exact ih
theorem o4 (ps : List (Int × Int)) (t v : Int) : ((putZ ps t v).map (·.1)) = if t ∈ ps.map (·.1) then ps.map (·.1) else ps.map (·.1) ++ [t] := by
 have e : (ps.any fun p => decide (p.1 = t)) = true ↔ t ∈ ps.map (·.1) := by
  rw [List.any_eq_true, List.mem_map]
  constructor
  ·rintro ⟨p, h1, h2⟩; exact ⟨p, h1, of_decide_eq_true h2⟩
  ·rintro ⟨p, h1, h2⟩; exact ⟨p, h1, decide_eq_true h2⟩
 unfold putZ
 by_cases h : t ∈ ps.map (·.1)
 ·rw [if_pos (e.mpr h), if_pos h, List.map_map]
  apply List.map_congr_left
  intro p _
  simp only [Function.comp]
  split <;> rfl
 ·rw [if_neg (fun z => h (e.mp z)), if_neg h]
  simp
theorem o5 {ps : List (Int × Int)} {t v : Int} {Q : Int -> Prop} (h : ∀ p ∈ ps, Q p.2) (hv : Q v) : ∀ p ∈ putZ ps t v, Q p.2 := by
 unfold putZ
 split
 ·intro p hp
  obtain ⟨q, hq, rfl⟩ := List.mem_map.mp hp
  split
  ·exact hv
  ·exact h q hq
 ·intro p hp
  rcases List.mem_append.mp hp with z | z
  ·exact h p z
  ·simp at z; rw [z]; exact hv
theorem mT {ps : List (Int × Int)} {t : Int} (h : t ∈ ps.map (·.1)) : ∃ v, valZ ps t = some v /\ ∃ p ∈ ps, p.2 = v := by
 obtain ⟨p, hp, rfl⟩ := List.mem_map.mp h
 unfold valZ
 cases e : ps.find? fun q => decide (q.1 = p.1) with
 | none =>
  have := List.find?_eq_none.mp e p hp
  simp at this
 | some q => exact ⟨q.2, rfl, q, List.mem_of_find?_eq_some e, rfl⟩
structure AE (many : Int) (s : List Int) : Prop where
 rise : (s.map absI).Pairwise (· < ·)
 low : ∀ p ∈ s, 1 <= absI p /\ absI p <= many
noncomputable def encS (s : List Int) : PyData := .tuple (s.map PyData.int)
def zv (ss : List (List Int)) : zq := ss.map encS
@[simp] theorem m4 (s : List Int) : zy (encS s) = true := by unfold encS; rw [cW]; exact cX s
@[simp] theorem aL (ss : List (List Int)) : zx (zv ss) = true := by
 unfold zv
 induction ss with
 | nil => exact lY
 | cons s r ih => rw [List.map_cons, ko, m4, ih]; rfl
@[simp] theorem dz (ss : List (List Int)) : (zv ss).length = ss.length := by unfold zv; rw [List.length_map]
theorem gX {many : Int} : ∀ (s : List Int) (last : Int), (Ax many last (s.map PyData.int)).isSome = true ↔ (s.map absI).Pairwise (· < ·) /\ ∀ p ∈ s, last < absI p /\ absI p <= many
 | [], last => by simp [Ax]
 | p :: r, last => by
  simp only [List.map_cons, Ax]
  split
  next h =>
   constructor
   ·intro z; simp at z
   ·rintro ⟨_, z⟩
    have := z p (List.mem_cons_self ..)
    lia
  next h =>
   rw [gX r (absI p)]
   simp only [List.pairwise_cons, List.mem_map, forall_exists_index, and_imp, forall_apply_eq_imp_iff₂, List.mem_cons, forall_eq_or_imp]
   constructor
   ·rintro ⟨h1, h2⟩
    exact ⟨⟨fun q hq => (h2 q hq).1, h1⟩, by lia, fun q hq => ⟨by have := (h2 q hq).1; lia, (h2 q hq).2⟩⟩
   ·rintro ⟨⟨h1, h2⟩, h3, h4⟩
    exact ⟨h2, fun q hq => ⟨h1 q hq, (h4 q hq).2⟩⟩
theorem o6 {many : Int} {s : List Int} : AD many (encS s) = true ↔ AE many s := by
 show (Ax many 0 (s.map PyData.int)).isSome = true ↔ _
 rw [gX]
 constructor
 ·rintro ⟨h1, h2⟩; exact ⟨h1, fun p hp => ⟨by have := (h2 p hp).1; lia, (h2 p hp).2⟩⟩
 ·rintro ⟨h1, h2⟩; exact ⟨h1, fun p hp => ⟨by have := (h2 p hp).1; lia, (h2 p hp).2⟩⟩
noncomputable def zE (ns : List Int) (at_ many : Int) : Nat -> List (Int × Int)
 | 0 => []
 | n + 1 => putZ (zE ns at_ many n) (1 + mixZ ns (at_ + 1 + n) many) (1 - 2 * (mixZ ns (at_ + 1 + n) (2 * many) / many))
noncomputable def A3 (ns : List Int) (at_ : Int) : Int := [1, 2, 2, 3, 3, 3, 0].getD (mixZ ns at_ 7).toNat 0
noncomputable def sayZ (ns : List Int) (at_ many : Int) : List Int := (Aa (Ay (zE ns at_ many (A3 ns at_).toNat))).map fun t => t * (valZ (zE ns at_ many (A3 ns at_).toNat) t).getD 0
theorem kD (ns : List Int) (at_ : Int) : 0 <= A3 ns at_ /\ A3 ns at_ <= 3 := by
 have h1 := bU ns at_ (m := 7) (by decide)
 have h2 := bV ns at_ (m := 7) (by decide)
 unfold A3
 generalize mixZ ns at_ 7 = x at h1 h2
 have : x = 0 \/ x = 1 \/ x = 2 \/ x = 3 \/ x = 4 \/ x = 5 \/ x = 6 := by lia
 rcases this with h | h | h | h | h | h | h <;> subst h <;> decide
theorem dA {ns : List Int} {at_ many : Int} (hm : 0 < many) : ∀ n, (((zE ns at_ many n).map (·.1)).Nodup /\ (∀ t ∈ (zE ns at_ many n).map (·.1), 1 <= t /\ t <= many) /\ (∀ p ∈ zE ns at_ many n, p.2 = 1 \/ p.2 = -1) /\ (zE ns at_ many n).length <= n)
 | 0 => by simp [zE]
 | n + 1 => by
  obtain ⟨h1, h2, h3, h4⟩ := dA hm n
  have a1 := bU ns (at_ + 1 + n) hm
  have a2 := bV ns (at_ + 1 + n) hm
  have b1 := bU ns (at_ + 1 + n) (m := 2 * many) (by lia)
  have b2 := bV ns (at_ + 1 + n) (m := 2 * many) (by lia)
  have hv : (1 - 2 * (mixZ ns (at_ + 1 + n) (2 * many) / many)) = 1 \/ (1 - 2 * (mixZ ns (at_ + 1 + n) (2 * many) / many)) = -1 := by
   have c1 : 0 <= mixZ ns (at_ + 1 + n) (2 * many) / many := Int.ediv_nonneg b1 (by lia)
   have c2 : mixZ ns (at_ + 1 + n) (2 * many) / many < 2 := Int.ediv_lt_of_lt_mul hm (by lia)
   lia
  have hk := o4 (zE ns at_ many n) (1 + mixZ ns (at_ + 1 + n) many) (1 - 2 * (mixZ ns (at_ + 1 + n) (2 * many) / many))
  have hl : ∀ (ps : List (Int × Int)) t v, (putZ ps t v).length <= ps.length + 1 := fun ps t v => by
   unfold putZ; split <;> simp
  refine ⟨?_, ?_, o5 (Q := fun z => z = 1 \/ z = -1) h3 hv, ?_⟩
  ·rw [zE, hk]
   split
   ·exact h1
   next hn => exact mN h1 hn
  ·rw [zE, hk]
   split
   ·exact h2
   ·intro t ht
    rcases List.mem_append.mp ht with z | z
    ·exact h2 t z
    ·simp at z; lia
  ·rw [zE]
   have := hl (zE ns at_ many n) (1 + mixZ ns (at_ + 1 + n) many) (1 - 2 * (mixZ ns (at_ + 1 + n) (2 * many) / many))
   lia
theorem sC {ns : List Int} {at_ many : Int} (hm : 0 < many) : AE many (sayZ ns at_ many) /\ (sayZ ns at_ many).length <= 3 := by
 obtain ⟨h1, h2, h3, h4⟩ := dA (ns := ns) (at_ := at_) hm (A3 ns at_).toNat
 have hs := kD ns at_
 unfold sayZ Ay
 generalize zE ns at_ many (A3 ns at_).toNat = ps at h1 h2 h3 h4
 have hp := bO (ps.map (·.1))
 have hr := dZ (ps.map (·.1))
 have hab : ∀ t ∈ Aa (ps.map (·.1)), absI (t * (valZ ps t).getD 0) = t /\ 1 <= t /\ t <= many := fun t ht => by
  have ht' := hp.mem_iff.mp ht
  obtain ⟨v, e, p, hpp, rfl⟩ := mT ht'
  have := h2 t ht'
  rw [e]
  simp only [Option.getD_some]
  refine ⟨?_, this⟩
  rcases h3 p hpp with z | z <;> rw [z] <;> unfold absI <;> split <;> lia
 refine ⟨⟨?_, fun q hq => ?_⟩, ?_⟩
 ·rw [List.map_map]
  have e : (Aa (ps.map (·.1))).map (absI ∘ fun t => t * (valZ ps t).getD 0) = Aa (ps.map (·.1)) := by
   conv => rhs; rw [<- List.map_id (Aa (ps.map (·.1)))]
   exact List.map_congr_left fun t ht => (hab t ht).1
  rw [e]
  have hn : (Aa (ps.map (·.1))).Nodup := hp.nodup_iff.mpr h1
  exact (hr.and hn).imp fun ⟨a, b⟩ => by lia
 ·obtain ⟨t, ht, rfl⟩ := List.mem_map.mp hq
  obtain ⟨e, a⟩ := hab t ht
  rw [e]; exact a
 ·rw [List.length_map, hp.length_eq, List.length_map]; lia
noncomputable def AN (ns : List Int) (at_ many most : Int) : List (List Int) := (List.range (mixZ ns at_ (most + 1)).toNat).map fun (k : Nat) => sayZ ns (at_ + 1 + 4 * (k : Int)) many
theorem qe {ns : List Int} {at_ many most : Int} (hm : 0 < many) : ∀ s ∈ AN ns at_ many most, AE many s := fun s hs => by
 obtain ⟨k, _, rfl⟩ := List.mem_map.mp hs
 exact (sC hm).1
theorem o7 {ns : List Int} {at_ many most : Int} (h : 0 <= most) : (AN ns at_ many most).length <= most.toNat := by
 have := bV ns at_ (m := most + 1) (by lia)
 have := bU ns at_ (m := most + 1) (by lia)
 unfold AN
 rw [List.length_map, List.length_range]
 lia
end L2
namespace L2
open PySem PySem.W PyProof.Rows
noncomputable def wpL (lt : Nat -> Nat -> Bool) (n : Nat) {α : Type} : KasT α -> (α -> Prop) -> Prop
 | .ret a, Q => Q a
 | .ask i j k, Q => i < n /\ j < n /\ wpL lt n (k (lt i j)) Q
theorem cz {lt : Nat -> Nat -> Bool} {n : Nat} {α β : Type} {f : α -> KasT β} {Q : β -> Prop} : ∀ (t : KasT α), wpL lt n t (fun a => wpL lt n (f a) Q) -> wpL lt n (t.bind f) Q
 | .ret _, h => h
 | .ask _ _ k, h => ⟨h.1, h.2.1, cz (k _) h.2.2⟩
theorem mU {lt : Nat -> Nat -> Bool} {n : Nat} {α : Type} {cmp : Nat -> Nat -> (Bool -> Shared -> Prop) -> Shared -> Prop} {s : Shared} (hc : ∀ i j C, i < n -> j < n -> C (lt i j) s -> cmp i j C s) {Q : α -> Shared -> Prop} :
  ∀ (t : KasT α), wpL lt n t (fun a => Q a s) -> t.kasWp cmp Q s
 | .ret _, h => h
 | .ask i j k, h => hc i j _ h.1 h.2.1 (mU hc (k _) h.2.2)
section
variable {lt : Nat -> Nat -> Bool} {n : Nat} (tr : ∀ i j k, lt j i = false -> lt k j = false -> lt k i = false) (as : ∀ i j, lt i j = true -> lt j i = false)
noncomputable def Rises (lt : Nat -> Nat -> Bool) (p : Array Nat) (k : Nat) : Prop := ∀ i j, i <= j -> j < k -> lt (p.getD j 0) (p.getD i 0) = false
noncomputable def Falls (lt : Nat -> Nat -> Bool) (p : Array Nat) (k : Nat) : Prop := ∀ i j, i <= j -> j < k -> lt (p.getD i 0) (p.getD j 0) = false
structure Tab (n : Nat) (p : Array Nat) : Prop where
 size : p.size = n
 perm : p.Perm (List.range n).toArray
theorem Tab.low {p : Array Nat} (h : Tab n p) {i : Nat} (hi : i < n) : p.getD i 0 < n := by
 have hs : i < p.size := by rw [h.size]; exact hi
 have e : p.getD i 0 = p[i] := by simp [Array.getD, hs]
 have hm : p[i] ∈ p := Array.getElem_mem hs
 have := h.perm.mem_iff.mp hm
 rw [e]
 simpa using this
theorem aM {p : Array Nat} {i j : Nat} (hj : j <= p.size) (k : Nat) : (kas_rev p i j).getD k 0 = if i <= k /\ k < j then p.getD (i + j - 1 - k) 0 else p.getD k 0 := by
 have e := getElem?_mirror_all (i := i) hj k
 unfold kas_rev
 simp only [Array.getD_eq_getD_getElem?]
 rw [e]
 split <;> rfl
theorem fQ {p : Array Nat} {src d : Nat} (hs : src < p.size) (hd : d <= src) (k : Nat) : (bubble p src d).getD k 0 = if k = src - d then p.getD src 0 else if src - d < k /\ k <= src then p.getD (k - 1) 0 else p.getD k 0 := by
 have e := getElem?_bubble hs d hd k
 simp only [Array.getD_eq_getD_getElem?]
 rw [e]
 repeat' split
 all_goals rfl
theorem Tab.rev {p : Array Nat} (h : Tab n p) (i j : Nat) : Tab n (kas_rev p i j) := ⟨by unfold kas_rev; rw [mirror_size]; exact h.size, (mirror_perm _ _ _ _).trans h.perm⟩
theorem Tab.bub {p : Array Nat} (h : Tab n p) (i j : Nat) : Tab n (bubble p i j) := ⟨by rw [bubble_size]; exact h.size, (bubble_perm _ _ _).trans h.perm⟩
theorem Falls.rev {p : Array Nat} {k : Nat} (h : Falls lt p k) (hk : k <= p.size) : Rises lt (kas_rev p 0 k) k := fun i j hij hj => by
 rw [aM hk, aM hk, if_pos ⟨Nat.zero_le _, hj⟩, if_pos ⟨Nat.zero_le _, by lia⟩]
 exact h _ _ (by lia) (by lia)
include tr
theorem Rises.more {p : Array Nat} {k : Nat} (h : Rises lt p k) (hk : 1 <= k) (e : lt (p.getD k 0) (p.getD (k - 1) 0) = false) (ir : lt (p.getD k 0) (p.getD k 0) = false) : Rises lt p (k + 1) := fun i j hij hj => by
 by_cases hj' : j < k
 ·exact h i j hij hj'
 ·have : j = k := by lia
  subst this
  by_cases hi : i = j
  ·subst hi; exact ir
  ·exact tr _ _ _ (h i (j - 1) (by lia) (by lia)) e
theorem Falls.more {p : Array Nat} {k : Nat} (h : Falls lt p k) (hk : 1 <= k) (e : lt (p.getD (k - 1) 0) (p.getD k 0) = false) (ir : lt (p.getD k 0) (p.getD k 0) = false) : Falls lt p (k + 1) := fun i j hij hj => by
 by_cases hj' : j < k
 ·exact h i j hij hj'
 ·have : j = k := by lia
  subst this
  by_cases hi : i = j
  ·subst hi; exact ir
  ·exact tr _ _ _ e (h i (j - 1) (by lia) (by lia))
include as
theorem irr (i : Nat) : lt i i = false := by
 cases h : lt i i with
 | false => rfl
 | true => exact (as i i h).symm ▸ h ▸ rfl
theorem m5 {p : Array Nat} (T : Tab n p) {Q : Nat -> Prop} : ∀ (f k : Nat), 1 <= k -> k + f <= n -> Rises lt p k -> (∀ m, k <= m -> m <= k + f -> Rises lt p m -> (m < k + f -> lt (p.getD m 0) (p.getD (m - 1) 0) = true) -> Q m) -> wpL lt n (kas_asc p f k) Q
 | 0, k, h1, h2, hr, hq => hq k (Nat.le_refl _) (by lia) hr (fun z => by lia)
 | f + 1, k, h1, h2, hr, hq => by
  refine ⟨T.low (by lia), T.low (by lia), ?_⟩
  dsimp only
  by_cases hc : lt (p.getD k 0) (p.getD (k - 1) 0) = true
  ·rw [if_pos hc]
   exact hq k (Nat.le_refl _) (by lia) hr fun _ => hc
  ·rw [if_neg hc]
   have hc' : lt (p.getD k 0) (p.getD (k - 1) 0) = false := by simpa using hc
   exact m5 T f (k + 1) (by lia) (by lia) (hr.more tr h1 hc' (irr tr as _)) fun m a1 a2 a3 a4 => hq m (by lia) (by lia) a3 fun z => a4 (by lia)
noncomputable def Alike (lt : Nat -> Nat -> Bool) (p : Array Nat) (k q : Nat) : Prop := q + 1 <= k /\ ∀ i j, k - (q + 1) <= i -> i < k -> k - (q + 1) <= j -> j < k -> lt (p.getD i 0) (p.getD j 0) = false
theorem Alike.rev {p : Array Nat} {k q : Nat} (h : Alike lt p k q) (hf : Falls lt p k) (hk : k <= p.size) : Falls lt (kas_rev p (k - (q + 1)) k) k := fun i j hij hj => by
 have hq := h.1
 have key : ∀ x, x < k -> ∃ y, y < k /\ (kas_rev p (k - (q + 1)) k).getD x 0 = p.getD y 0 /\ ((k - (q + 1) <= x /\ k - (q + 1) <= y) \/ (x < k - (q + 1) /\ y = x)) := fun x hx => by
  rw [aM hk]
  by_cases hc : k - (q + 1) <= x /\ x < k
  ·rw [if_pos hc]; exact ⟨_, by lia, rfl, .inl ⟨hc.1, by lia⟩⟩
  ·rw [if_neg hc]; exact ⟨x, hx, rfl, .inr ⟨by lia, rfl⟩⟩
 obtain ⟨a, ha, ea, ca⟩ := key i (by lia)
 obtain ⟨b, hb, eb, cb⟩ := key j hj
 rw [ea, eb]
 rcases ca with ca | ca
 ·rcases cb with cb | cb
  ·exact h.2 a b ca.2 ha cb.2 hb
  ·lia
 ·exact hf a b (by rcases cb with cb | cb <;> lia) hb
theorem gm {Q : Array Nat × Nat × Nat -> Prop} : ∀ (f : Nat) (p : Array Nat) (k q : Nat), Tab n p -> 1 <= k -> k + f <= n -> Falls lt p k -> Alike lt p k q -> (∀ p' m q', Tab n p' -> 1 <= m -> m <= n -> Falls lt p' m -> Alike lt p' m q' -> Q (p', m, q')) -> wpL lt n (kas_desc f p k q) Q
 | 0, p, k, q, T, h1, h2, hf, ha, hq => hq p k q T h1 (by lia) hf ha
 | f + 1, p, k, q, T, h1, h2, hf, ha, hq => by
  refine ⟨T.low (by lia), T.low (by lia), ?_⟩
  dsimp only
  have hsz := T.size
  by_cases hc : lt (p.getD k 0) (p.getD (k - 1) 0) = true
  ·rw [if_pos hc]
   have one : ∀ p' : Array Nat, Alike lt p' (k + 1) 0 := fun p' => ⟨by lia, fun i j a1 a2 a3 a4 => by
    have : i = j := by lia
    subst this
    exact irr tr as _⟩
   by_cases hqp : q > 0
   ·rw [if_pos hqp]
    have hr := ha.rev tr as hf (by lia)
    have hq1 := ha.1
    have e1 : (kas_rev p (k - (q + 1)) k).getD k 0 = p.getD k 0 := by rw [aM (by lia), if_neg (by lia)]
    have e2 : (kas_rev p (k - (q + 1)) k).getD (k - 1) 0 = p.getD (k - (q + 1)) 0 := by rw [aM (by lia), if_pos (by lia)]; congr 1; lia
    refine gm f _ (k + 1) 0 (T.rev _ _) (by lia) (by lia) (hr.more tr h1 ?_ (irr tr as _)) (one _) hq
    rw [e1, e2]
    exact tr _ _ _ (as _ _ hc) (ha.2 _ _ (by lia) (by lia) (by lia) (by lia))
   ·rw [if_neg hqp]
    exact gm f p (k + 1) 0 T (by lia) (by lia) (hf.more tr h1 (as _ _ hc) (irr tr as _)) (one _) hq
  ·rw [if_neg hc]
   have hc' : lt (p.getD k 0) (p.getD (k - 1) 0) = false := by simpa using hc
   refine ⟨T.low (by lia), T.low (by lia), ?_⟩
   dsimp only
   by_cases hd : lt (p.getD (k - 1) 0) (p.getD k 0) = true
   ·rw [if_pos hd]
    exact hq p k q T h1 (by lia) hf ha
   ·rw [if_neg hd]
    have hd' : lt (p.getD (k - 1) 0) (p.getD k 0) = false := by simpa using hd
    refine gm f p (k + 1) (q + 1) T (by lia) (by lia) (hf.more tr h1 hd' (irr tr as _)) ⟨by have := ha.1; lia, fun i j a1 a2 a3 a4 => ?_⟩ hq
    have hq1 := ha.1
    by_cases hi : i < k
    ·by_cases hj : j < k
     ·exact ha.2 i j (by lia) hi (by lia) hj
     ·have : j = k := by lia
      subst this
      exact tr _ _ _ hd' (ha.2 i (j - 1) (by lia) hi (by lia) (by lia))
    ·have : i = k := by lia
     subst this
     by_cases hj : j < i
     ·exact tr _ _ _ (ha.2 (i - 1) j (by lia) (by lia) (by lia) hj) hc'
     ·have : j = i := by lia
      subst this
      exact irr tr as _
theorem mV {p : Array Nat} (T : Tab n p) {k : Nat} (h1 : 1 <= k) (h2 : k <= n) (hf : Falls lt p k) {Q : Nat × Array Nat -> Prop} (hq : ∀ m p', Tab n p' -> 1 <= m -> m <= n -> Rises lt p' m -> Q (m, p')) : wpL lt n (kas_tail3 k n p) Q := by
 have hsz := T.size
 exact cz _ (m5 tr as (T.rev 0 k) (n - k) k h1 (by lia) (hf.rev (by lia)) fun m a1 a2 a3 _ => hq m _ (T.rev 0 k) (by lia) (by lia) a3)
theorem fR {p : Array Nat} (T : Tab n p) {k : Nat} (h1 : 1 <= k) (h2 : k + 1 <= n) (hf : Falls lt p (k + 1)) {Q : Nat × Array Nat -> Prop} (hq : ∀ m p', Tab n p' -> 1 <= m -> m <= n -> Rises lt p' m -> Q (m, p')) : wpL lt n (kas_descPart k n p) Q := by
 refine cz _ (gm tr as (n - (k + 1)) p (k + 1) 0 T (by lia) (by lia) hf ⟨by lia, fun i j a1 a2 a3 a4 => ?_⟩ fun p' m q' T' m1 m2 f' al => ?_)
 ·have : i = j := by lia
  subst this
  exact irr tr as _
 ·show wpL lt n (if q' > 0 then kas_tail3 m n (kas_rev p' (m - (q' + 1)) m) else kas_tail3 m n p') Q
  have hsz := T'.size
  split
  ·exact mV tr as (T'.rev _ _) m1 m2 (al.rev tr as f' (by lia)) hq
  ·exact mV tr as T' m1 m2 f' hq
theorem qf {p : Array Nat} (T : Tab n p) (h1 : 1 <= n) {Q : Nat × Array Nat -> Prop} (hq : ∀ m p', Tab n p' -> 1 <= m -> m <= n -> Rises lt p' m -> Q (m, p')) : wpL lt n (kas_count n p) Q := by
 have hsz := T.size
 refine cz _ (m5 tr as T (n - 1) 1 (Nat.le_refl _) (by lia) (fun i j a1 a2 => ?_) fun m a1 a2 a3 a4 => ?_)
 ·have : i = j := by lia
  subst this
  exact irr tr as _
 ·show wpL lt n (if (m == n) = true then KasT.ret (m, p) else if m > 1 then KasT.ask (p.getD 0 0) (p.getD (m - 1) 0) fun c => if c = true then KasT.ret (m, p) else kas_descPart m n (kas_rev p 0 m) else kas_descPart m n p) Q
  by_cases e1 : (m == n) = true
  ·rw [if_pos e1]; exact hq m p T a1 (by lia) a3
  ·rw [if_neg e1]
   have hne : m ≠ n := by simpa using e1
   have hlt := a4 (by lia)
   by_cases e2 : m > 1
   ·rw [if_pos e2]
    refine ⟨T.low (by lia), T.low (by lia), ?_⟩
    dsimp only
    by_cases hc : lt (p.getD 0 0) (p.getD (m - 1) 0) = true
    ·rw [if_pos hc]; exact hq m p T a1 (by lia) a3
    ·rw [if_neg hc]
     have hc' : lt (p.getD 0 0) (p.getD (m - 1) 0) = false := by simpa using hc
     have same : ∀ i j, i < m -> j < m -> lt (p.getD i 0) (p.getD j 0) = false := fun i j hi hj =>
      tr _ _ _ (tr _ _ _ (a3 j (m - 1) (by lia) (by lia)) hc') (a3 0 i (by lia) hi)
     refine fR tr as (T.rev 0 m) a1 (by lia) (Falls.more tr (fun i j b1 b2 => ?_) a1 ?_ (irr tr as _)) hq
     ·rw [aM (by lia), aM (by lia), if_pos (by lia), if_pos (by lia)]
      exact same _ _ (by lia) (by lia)
     ·rw [aM (by lia), aM (by lia), if_pos (by lia), if_neg (by lia)]
      exact tr _ _ _ (as _ _ hlt) (same _ _ (by lia) (by lia))
   ·rw [if_neg e2]
    have : m = 1 := by lia
    subst this
    exact fR tr as T (Nat.le_refl _) (by lia) (Falls.more tr (fun i j b1 b2 => by
     have : i = j := by lia
     subst this
     exact irr tr as _) (Nat.le_refl _) (as _ _ hlt) (irr tr as _)) hq
theorem gY {p : Array Nat} (T : Tab n p) {k : Nat} (hk : k < n) (hr : Rises lt p k) {Q : Nat -> Prop} (hq : ∀ l, l <= k -> (∀ i, i < l -> lt (p.getD k 0) (p.getD i 0) = false) -> (∀ i, l <= i -> i < k -> lt (p.getD k 0) (p.getD i 0) = true) -> Q l) :
  ∀ (f l r : Nat), l <= r -> r <= k -> r - l <= f -> (∀ i, i < l -> lt (p.getD k 0) (p.getD i 0) = false) -> (∀ i, r <= i -> i < k -> lt (p.getD k 0) (p.getD i 0) = true) -> wpL lt n (kas_place p k f l r) Q
 | 0, l, r, h1, h2, h3, ha, hb => by
  have : l = r := by lia
  subst this
  exact hq l h2 ha hb
 | f + 1, l, r, h1, h2, h3, ha, hb => by
  show wpL lt n (if l ≥ r then KasT.ret l else KasT.ask (p.getD k 0) (p.getD ((l + r) / 2) 0) fun c => if c = true then kas_place p k f l ((l + r) / 2) else kas_place p k f ((l + r) / 2 + 1) r) Q
  by_cases hlr : l ≥ r
  ·rw [if_pos hlr]
   have : l = r := by lia
   subst this
   exact hq l h2 ha hb
  ·rw [if_neg hlr]
   refine ⟨T.low hk, T.low (by lia), ?_⟩
   dsimp only
   by_cases hc : lt (p.getD k 0) (p.getD ((l + r) / 2) 0) = true
   ·rw [if_pos hc]
    refine gY T hk hr hq f l ((l + r) / 2) (by lia) (by lia) (by lia) ha fun i a1 a2 => ?_
    cases e : lt (p.getD k 0) (p.getD i 0) with
    | true => rfl
    | false =>
     have := tr _ _ _ (hr ((l + r) / 2) i a1 a2) e
     rw [hc] at this
     cases this
   ·rw [if_neg hc]
    have hc' : lt (p.getD k 0) (p.getD ((l + r) / 2) 0) = false := by simpa using hc
    exact gY T hk hr hq f ((l + r) / 2 + 1) r (by lia) h2 (by lia) (fun i a1 => tr _ _ _ (hr i ((l + r) / 2) (by lia) (by lia)) hc') hb
theorem qg {Q : Array Nat -> Prop} (hq : ∀ p, Tab n p -> Rises lt p n -> Q p) : ∀ (f : Nat) (p : Array Nat) (k : Nat), Tab n p -> k + f = n -> Rises lt p k -> wpL lt n (kas_bin f p k) Q
  | 0, p, k, T, h, hr => hq p T (by have : k = n := by lia
                                    exact this ▸ hr)
  | f + 1, p, k, T, h, hr => by
    have hsz := T.size
    refine cz _ (gY tr as T (by lia) hr (fun l hl ha hb => ?_) k 0 k (Nat.zero_le _) (Nat.le_refl _) (by lia) (fun i z => by lia) fun i a1 a2 => by lia)
    refine qg hq f _ (k + 1) (T.bub _ _) (by lia) fun i j hij hj => ?_
    have hkl : k - (k - l) = l := by lia
    rw [fQ (by lia) (by lia), fQ (by lia) (by lia), hkl]
    by_cases hj1 : j = l
    · rw [if_pos hj1]
      by_cases hi1 : i = l
      · rw [if_pos hi1]; exact irr tr as _
      · rw [if_neg hi1, if_neg (by lia)]
        exact ha i (by lia)
    · rw [if_neg hj1]
      by_cases hi1 : i = l
      · rw [if_pos hi1, if_pos (by lia)]
        exact as _ _ (hb (j - 1) (by lia) (by lia))
      · rw [if_neg hi1]
        by_cases hj2 : l < j /\ j <= k
        · rw [if_pos hj2]
          by_cases hi2 : l < i /\ i <= k
          · rw [if_pos hi2]; exact hr _ _ (by lia) (by lia)
          · rw [if_neg hi2]; exact hr _ _ (by lia) (by lia)
        · rw [if_neg hj2, if_neg (by lia)]
          exact hr _ _ hij (by lia)
theorem sD (h1 : 1 <= n) {Q : Array Nat -> Prop} (hq : ∀ p, Tab n p -> Rises lt p n -> Q p) : wpL lt n (kas_sort n) Q := by
 have T0 : Tab n (List.range n).toArray := ⟨by simp, .refl _⟩
 refine cz _ (qf tr as T0 h1 fun m p T m1 m2 hr => ?_)
 show wpL lt n (if m < n then kas_bin (n - max m 1) p (max m 1) else KasT.ret p) Q
 by_cases h : m < n
 ·rw [if_pos h]
  have e : max m 1 = m := by lia
  rw [e]
  exact qg tr as hq (n - m) p m T (by lia) hr
 ·rw [if_neg h]
  have : m = n := by lia
  subst this
  exact hq p T hr
end
open PySem.Spec
open HT (lexLt)
section
open PySem.SeqAt
open PySem.AutoSeq1 (wpAny_loadPart')
open PySem.MeetsSeq PySem.MeetsSeq2 PySem.MeetsSeq3
end
section
variable {prog : Program} {w : World} {A : Around} {E : zu} {s : Shared}
end
end L2
namespace Sy
def absI (p : Int) : Int := if p < 0 then -p else p
noncomputable def litOn (c : List Int) (p : Int) : Bool := decide (c.getD (absI p - 1).toNat 0 = if 0 < p then 1 else 0)
noncomputable def sayOn (c : List Int) (s : List Int) : Bool := s.any (litOn c)
noncomputable def fitsB (ss : List (List Int)) (c : List Int) : Bool := ss.all (sayOn c)
structure AE (many : Int) (s : List Int) : Prop where
 rise : (s.map absI).Pairwise (· < ·)
 low : ∀ p ∈ s, 1 <= absI p /\ absI p <= many
structure CaseOk (n : Nat) (c : List Int) : Prop where
 len : c.length = n
 bit : ∀ x ∈ c, x = 0 \/ x = 1
noncomputable def allC : Nat -> List (List Int)
 | 0 => [[]]
 | n + 1 => (allC n).flatMap fun c => [c ++ [0], c ++ [1]]
noncomputable def Bl : Nat -> List (List Int)
 | 0 => [[]]
 | n + 1 => (Bl n).map (· ++ [0]) ++ (Bl n).map (· ++ [1])
noncomputable def lexB : List Int -> List Int -> Bool
 | [], [] => false
 | [], _ :: _ => true
 | _ :: _, [] => false
 | x :: xs, y :: ys => if x = y then lexB xs ys else decide (x < y)
theorem gZ : ∀ a b, lexB a b = false -> lexB b a = false -> a = b
 | [], [], _, _ => rfl
 | [], _ :: _, h, _ => by simp [lexB] at h
 | _ :: _, [], _, h => by simp [lexB] at h
 | x :: xs, y :: ys, h1, h2 => by
  by_cases e : x = y
  ·subst e
   simp only [lexB, if_true] at h1 h2
   rw [gZ xs ys h1 h2]
  ·simp only [lexB, if_neg e, if_neg (fun z => e (Eq.symm z)), decide_eq_false_iff_not] at h1 h2
   lia
theorem e9 : ∀ a b, lexB a b = true -> lexB b a = false
 | [], [], h => by simp [lexB] at h
 | [], _ :: _, _ => rfl
 | _ :: _, [], h => by simp [lexB] at h
 | x :: xs, y :: ys, h => by
  by_cases e : x = y
  ·subst e
   simp only [lexB, if_true] at h ⊢
   exact e9 xs ys h
  ·simp only [lexB, if_neg e, if_neg (fun z => e (Eq.symm z)), decide_eq_true_eq, decide_eq_false_iff_not] at h ⊢
   lia
theorem ju : ∀ a b c, lexB b a = false -> lexB c b = false -> lexB c a = false
 | [], [], c, _, h => h
 | [], _ :: _, [], _, h => by simp [lexB] at h
 | [], _ :: _, _ :: _, _, _ => rfl
 | _ :: _, [], _, h, _ => by simp [lexB] at h
 | _ :: _, _ :: _, [], _, h => by simp [lexB] at h
 | x :: xs, y :: ys, z :: zs, h1, h2 => by
  by_cases e1 : y = x
  ·subst e1
   simp only [lexB, if_true] at h1
   by_cases e2 : z = y
   ·subst e2
    simp only [lexB, if_true] at h2 ⊢
    exact ju xs ys zs h1 h2
   ·simp only [lexB, if_neg e2] at h2 ⊢
    exact h2
  ·simp only [lexB, if_neg e1, decide_eq_false_iff_not] at h1
   by_cases e2 : z = y
   ·subst e2
    simp only [lexB, if_neg e1, decide_eq_false_iff_not]
    exact h1
   ·simp only [lexB, if_neg e2, decide_eq_false_iff_not] at h2
    have e3 : ¬ z = x := by lia
    simp only [lexB, if_neg e3, decide_eq_false_iff_not]
    lia
end Sy
namespace L2
open PySem PySem.Spec PyProof.Rows
variable [Tabs]
noncomputable def A5 : zq -> Option (List Bool)
 | [] => some []
 | .bool i :: r => (A5 r).map (i :: ·)
 | _ :: _ => none
theorem iW {K : W.Frag} {G : Hp} : ∀ {vs : List V} {ds : zq} {bs : List Bool}, Dts K G vs ds -> A5 ds = some bs -> vs = bs.map V.bl
 | _, _, _, .nil, e => by cases e; rfl
 | _, _, _, .cons (d := d) h r, e => by
  cases d with
  | bool i =>
   simp only [A5, Option.map_eq_some_iff] at e
   obtain ⟨ns, e1, rfl⟩ := e
   cases h
   rw [iW r e1, List.map_cons]
  | _ => cases e
theorem fS : ∀ {bs : List Bool} {us : List Value}, Vals (bs.map V.bl) us -> LSm.BoolsAre us bs
 | [], _, r => by cases r; exact .nil
 | b :: bs, _, r => by
  rw [List.map_cons] at r
  cases r with
  | cons h t =>
   cases (show _ = Value.bool b from h)
   exact .cons b (fS t)
section
variable {X : Cx}
noncomputable def Bn (K : W.Frag) (f : List Bool -> Bool) : List V -> Hp -> VK -> Prop := fun xs H Q => ∃ a bs, xs = [.ref a] /\ SqL K H a (bs.map V.bl) /\ Q (.bl (f bs)) H
theorem o8 (hc : X.calm = true) : A7 X (.builtin "all") (Bn X.K fun bs => bs.all id) := by
 intro pins s σ H xs us Q I r h
 obtain ⟨l, bs, rfl, hq, q⟩ := h
 obtain ⟨u, rfl, r1⟩ := vals1 r
 cases r1
 obtain ⟨vs, rv, pl, hz⟩ := I.list hq
 have hb := fS rv
 have hl := pl.isList
 have hlt : l < s.heap.objs.size := by obtain ⟨_, e, _⟩ := id hl; exact Heap.lt_size e
 refine call_all_walk (wpAny_pyIter_list hl ?_)
 refine ⟨s.heap.objs.size, [s.heap.objs.size, l], [s.heap.objs.size], vs.toArray.size, _, _, fun i => (bs[i]?).getD true, rfl, Walks.list (A := X.A.in1) (I.ok.hd hc) _ l (Nat.ne_of_lt hlt) vs.toArray,
  ⟨⟨_, Heap.get?_push_size _ rfl, rfl, rfl⟩, hl.push _⟩, fun i v s' Q' E' hP hQ => ?_, fun h' tk hk => ?_⟩
 ·obtain ⟨b, e, rfl⟩ := hb.get i v (by simpa using hP)
  simp only [e, Option.getD_some] at hQ
  exact wpAny_truthy_bool hQ
 ·have e : ((List.range vs.toArray.size).all fun i => (bs[i]?).getD true) = bs.all id := by
   rw [List.size_toArray, hb.length]; exact LSm.range_all bs
  rw [e]
  exact ⟨.bl _, H, I.kept (t' := tk) (LSm.kept_iter hk), rfl, q⟩
end
noncomputable def dAll : zq -> Option SD
 | [.list xs] => (A5 xs).map fun bs => .sh (.bool (bs.all id))
 | _ => none
section
variable {K : W.Frag} {mg : zr}
theorem xF : zN K mg dAll (Bn K fun bs => bs.all id) := by
 intro G H vs ds res Q hg hd ho k
 unfold dAll at ho
 split at ho
 next xs =>
  obtain ⟨bs, e, rfl⟩ := Option.map_eq_some_iff.mp ho
  obtain ⟨x, rfl, h1⟩ := dts1 hd
  cases h1 with
  | lst q r =>
   have e2 := iW r e
   subst e2
   exact ⟨_, bs, rfl, (hg.sqr q).sq, ans k hg (.bl _)⟩
 next => cases ho
end
section
variable {X : Cx}
noncomputable def rInD (K : W.Frag) (neg : Bool) : R2 := fun x y H Q => ∃ d xs, (Dt K H y (.list xs) \/ Dt K H y (.tuple xs)) /\ Dt K H x d /\ SeqAt.shaped d = true /\ SeqAt.shaped (.list xs) = true /\ Q (.bl (if neg then !(xs.any fun y => PyData.eqv y d) else xs.any fun y => PyData.eqv y d)) H
theorem vd (hu : X.A.units + 64 < cLine) : OpR X (compareOp .In) (rInD X.K false) := by
 intro pins s σ H x y v u Q I rx ry h
 obtain ⟨d, xs, hy, hx, sd, sl, q⟩ := h
 have cl := SeqAt.canLay_of_shaped sl
 have hdp := SeqAt.depth_of_shaped sl
 have hr : X.A.units + 1 + min (PyData.depthAll xs) d.depth < cLine := by
  have h2 : min (PyData.depthAll xs) d.depth <= PyData.depthAll xs := Nat.min_le_left _ _
  simp only [PyData.depth] at hdp
  lia
 obtain ⟨as, ra⟩ := hx.reads I (SeqAt.canLay_of_shaped sd) rx
 rcases hy with hy | hy
 ·obtain ⟨bs, rb⟩ := hy.reads I cl ry
  exact SeqAt.in_list_reads rb ra cl (SeqAt.canLay_of_shaped sd) hr ⟨.bl _, H, I, rfl, q⟩
 ·obtain ⟨bs, rb⟩ := hy.reads I cl ry
  exact SeqAt.in_tuple_reads rb ra cl (SeqAt.canLay_of_shaped sd) hr ⟨.bl _, H, I, rfl, q⟩
theorem og (hu : X.A.units + 64 < cLine) : OpR X (compareOp .NotIn) (rInD X.K true) := by
 intro pins s σ H x y v u Q I rx ry h
 obtain ⟨d, xs, hy, hx, sd, sl, q⟩ := h
 have cl := SeqAt.canLay_of_shaped sl
 have hdp := SeqAt.depth_of_shaped sl
 have hr : X.A.units + 1 + min (PyData.depthAll xs) d.depth < cLine := by
  have h2 : min (PyData.depthAll xs) d.depth <= PyData.depthAll xs := Nat.min_le_left _ _
  simp only [PyData.depth] at hdp
  lia
 obtain ⟨as, ra⟩ := hx.reads I (SeqAt.canLay_of_shaped sd) rx
 rcases hy with hy | hy
 ·obtain ⟨bs, rb⟩ := hy.reads I cl ry
  exact SeqAt.notIn_list_reads rb ra cl (SeqAt.canLay_of_shaped sd) hr ⟨.bl _, H, I, rfl, q⟩
 ·obtain ⟨bs, rb⟩ := hy.reads I cl ry
  exact SeqAt.notIn_tuple_reads rb ra cl (SeqAt.canLay_of_shaped sd) hr ⟨.bl _, H, I, rfl, q⟩
end
noncomputable def inB (d : PyData) : PyData -> Option Bool
 | .list xs => if SeqAt.shaped d = true /\ SeqAt.shaped (.list xs) = true then some (xs.any fun y => PyData.eqv y d) else none
 | .tuple xs => if SeqAt.shaped d = true /\ SeqAt.shaped (.list xs) = true then some (xs.any fun y => PyData.eqv y d) else none
 | _ => none
noncomputable def dIn : zq -> Option SD
 | [x, y] => (inB x y).map fun b => .sh (.bool b)
 | _ => none
section
variable {K : W.Frag} {mg : zr}
theorem ve {neg : Bool} {G H : Hp} {x y : V} {dx dy : PyData} {b : Bool} {Q : VK} (hg : Same G H) (h1 : Dt K G x dx) (h2 : Dt K G y dy) (e : inB dx dy = some b) (q : Q (.bl (if neg then !b else b)) H) : rInD K neg x y H Q := by
 have h1' := h1.mono hg
 have h2' := h2.mono hg
 unfold inB at e
 split at e
 next xs =>
  split at e
  next hs => cases e; exact ⟨dx, xs, .inl h2', h1', hs.1, hs.2, q⟩
  next => cases e
 next xs =>
  split at e
  next hs => cases e; exact ⟨dx, xs, .inr h2', h1', hs.1, hs.2, q⟩
  next => cases e
 next => cases e
end
section
variable {X : Cx}
noncomputable def flat4 : V -> Bool
 | .non => true | .bl _ => true | .int _ => true | .str _ => true | .ref _ => true | _ => false
noncomputable def rIs (neg : Bool) : R2 := fun x y H Q => flat4 x = true /\ (y = .non \/ ∃ c, y = .bl c) /\ Q (.bl (if neg then !decide (x = y) else decide (x = y))) H
theorem vf {x y : V} {v u : Value} (rx : RelV x v) (ry : RelV y u) (f : flat4 x = true) (hy : y = .non \/ ∃ c, y = .bl c) : plainIs v u = true /\ (v == u) = decide (x = y) := by
 rcases hy with rfl | ⟨c, rfl⟩
 ·cases ry
  cases x <;> first | (cases f; done) | skip
  ·cases rx; exact ⟨rfl, by simp⟩
  ·cases rx; exact ⟨rfl, by simp⟩
  ·obtain ⟨t, rfl⟩ := rx; exact ⟨rfl, by simp⟩
  ·obtain ⟨t, rfl⟩ := rx; exact ⟨rfl, by simp⟩
  ·cases rx; exact ⟨rfl, by simp⟩
 ·cases ry
  cases x <;> first | (cases f; done) | skip
  ·cases rx; exact ⟨rfl, by simp⟩
  ·cases rx; exact ⟨rfl, by simp [Bool.beq_eq_decide_eq]⟩
  ·obtain ⟨t, rfl⟩ := rx; exact ⟨rfl, by simp⟩
  ·obtain ⟨t, rfl⟩ := rx; exact ⟨rfl, by simp⟩
  ·cases rx; exact ⟨rfl, by simp⟩
theorem xG : OpR X (compareOp .Is) (rIs false) := by
 intro pins s σ H x y v u Q I rx ry h
 obtain ⟨f, hy, q⟩ := h
 obtain ⟨h1, h2⟩ := vf rx ry f hy
 exact wpAny_is_plain h1 (by rw [h2]; exact ⟨.bl _, H, I, rfl, q⟩)
end
noncomputable def isB : PyData -> PyData -> Option Bool
 | .none, .none => some true
 | _, .none => some false
 | .bool b, .bool c => some (decide (b = c))
 | _, .bool _ => some false
 | _, _ => none
noncomputable def dIs : zq -> Option SD
 | [x, y] => (isB x y).map fun b => .sh (.bool b)
 | _ => none
section
variable {K : W.Frag} {mg : zr}
theorem vg {neg : Bool} {G H : Hp} {x y : V} {dx dy : PyData} {b : Bool} {Q : VK} (h1 : Dt K G x dx) (h2 : Dt K G y dy) (e : isB dx dy = some b) (q : Q (.bl (if neg then !b else b)) H) : rIs neg x y H Q := by
 unfold isB at e
 split at e
 next => cases e; cases h1; cases h2; exact ⟨rfl, .inl rfl, q⟩
 next hn =>
  cases e
  cases h2
  refine ⟨by cases h1 <;> rfl, .inl rfl, ?_⟩
  have : decide (x = V.non) = false := by
   cases h1 <;> first | rfl | exact (hn rfl).elim
  rw [this]; exact q
 next b c =>
  cases e; cases h1; cases h2
  refine ⟨rfl, .inr ⟨_, rfl⟩, ?_⟩
  rw [dB]; exact q
 next c hn =>
  cases e
  cases h2
  refine ⟨by cases h1 <;> rfl, .inr ⟨_, rfl⟩, ?_⟩
  have : decide (x = V.bl c) = false := by
   cases h1 <;> first | rfl | exact (hn _ rfl).elim
  rw [this]; exact q
 next => cases e
theorem zi : zN K mg dIs (l2 (rIs false)) := by
 intro G H vs ds res Q hg hd ho k
 unfold dIs at ho
 split at ho
 next x y =>
  obtain ⟨b, e, rfl⟩ := Option.map_eq_some_iff.mp ho
  obtain ⟨v, u, rfl, h1, h2⟩ := dts2 hd
  exact vg h1 h2 e (ans k hg (.bl _))
 next => cases ho
end
section
variable {X : Cx} {E : XK} {a b e : Expr} {oa ob : Opd} {pos p : Pos}
theorem xH (ha : SO X E a oa) (hb : SO X E b ob) : SE X E (.Compare a [.Is] [b] pos) (eOp dIs [oa, ob]) := fx xG zi ha hb (nomark _)
theorem vh (hm : X.mg "all" = none) (hb : bootBuiltins "all" = some (.builtin "all")) (ha : SO X E a oa) (hc : X.calm = true := by rfl) (hg : Gl X "all" := by rfl) (hst : starEach [a] X.env = [(false, eval a X.env)] := by rfl) : SE X E (.Call (.Name "all" p) [a] [] pos) (eOp dAll [oa]) :=
 eW (o8 hc) xF hm hb (aa ha ag hst) hg (by decide) (by decide) hst rfl
end
theorem kE : ∀ a b : List Int, HT.lexLt a b = Sy.lexB a b
 | [], [] => rfl
 | [], _ :: _ => rfl
 | _ :: _, [] => rfl
 | x :: xs, y :: ys => by rw [HT.dW, Sy.lexB, kE xs ys]
section
variable {X : Cx}
noncomputable def ltOf (nss : List (List Int)) (i j : Nat) : Bool := Sy.lexB (nss.getD i []) (nss.getD j [])
end
noncomputable def encL (ns : List Int) : PyData := .list (ns.map PyData.int)
noncomputable def Bb : zq -> Option (List (List Int))
 | [] => some []
 | .list ds :: r => (A1 ds).bind fun ns => (Bb r).map (ns :: ·)
 | _ :: _ => none
theorem bq : ∀ ns : List Int, A1 (ns.map PyData.int) = some ns
 | [] => rfl
 | n :: r => by simp [A1, bq r]
theorem oi : ∀ nss : List (List Int), Bb (nss.map encL) = some nss
 | [] => rfl
 | n :: r => by
  have h := oi r
  rw [List.map_cons, encL, Bb, bq]
  show (Bb (r.map encL)).map (n :: ·) = _
  rw [h]; rfl
theorem iX : ∀ {ds : zq} {ns : List Int}, A1 ds = some ns -> ds = ns.map PyData.int
 | [], _, e => by cases e; rfl
 | d :: r, _, e => by
  cases d with
  | int i =>
   simp only [A1, Option.map_eq_some_iff] at e
   obtain ⟨ns, e1, rfl⟩ := e
   rw [List.map_cons, <- iX e1]
  | _ => cases e
noncomputable def insL (x : List Int) : List (List Int) -> List (List Int)
 | [] => [x]
 | y :: r => if Sy.lexB y x = true then y :: insL x r else x :: y :: r
noncomputable def zV : List (List Int) -> List (List Int)
 | [] => []
 | x :: r => insL x (zV r)
theorem fE (x : List Int) : ∀ l, (insL x l).Perm (x :: l)
 | [] => .refl _
 | y :: r => by
  unfold insL
  split
  ·exact ((fE x r).cons y).trans (.swap x y r)
  ·exact .refl _
theorem br : ∀ l, (zV l).Perm l
 | [] => .refl _
 | x :: r => (fE x _).trans ((br r).cons x)
theorem iY (x : List Int) : ∀ l, l.Pairwise (fun a b => Sy.lexB b a = false) -> (insL x l).Pairwise (fun a b => Sy.lexB b a = false)
 | [], _ => by simp [insL]
 | y :: r, h => by
  obtain ⟨h1, h2⟩ := List.pairwise_cons.mp h
  unfold insL
  split
  next hxy => exact List.pairwise_cons.mpr ⟨fun z hz => by
    rcases List.mem_cons.mp ((fE x r).mem_iff.mp hz) with e | e
    ·rw [e]; exact Sy.e9 _ _ hxy
    ·exact h1 z e, iY x r h2⟩
  next hxy =>
   have hxy' : Sy.lexB y x = false := by simpa using hxy
   exact List.pairwise_cons.mpr ⟨fun z hz => by
    rcases List.mem_cons.mp hz with e | e
    ·rw [e]; exact hxy'
    ·exact Sy.ju _ _ _ hxy' (h1 z e), h⟩
theorem ef : ∀ l, (zV l).Pairwise (fun a b => Sy.lexB b a = false)
 | [] => .nil
 | x :: r => iY x _ (ef r)
theorem kF {r l : List (List Int)} (hp : r.Perm l) (hr : r.Pairwise (fun a b => Sy.lexB b a = false)) : r = zV l :=
 (hp.trans (br l).symm).eq_of_pairwise (le := fun a b => Sy.lexB b a = false) (fun a b _ _ h1 h2 => Sy.gZ a b h2 h1) hr (ef l)
theorem m7 {nss : List (List Int)} {p : Array Nat} (T : Tab nss.length p) (R : Rises (ltOf nss) p nss.length) : p.toList.map (fun i => nss.getD i []) = zV nss := by
 refine kF ?_ ?_
 ·have hp : p.toList.Perm (List.range nss.length) := by
   have := T.perm.toList
   simpa using this
  refine (hp.map fun i => nss.getD i []).trans ?_
  have : (List.range nss.length).map (fun i => nss.getD i []) = nss := by
   apply List.ext_getElem?
   intro j
   rw [List.getElem?_map]
   by_cases hj : j < nss.length
   ·rw [List.getElem?_range hj, Option.map_some, List.getD_eq_getElem?_getD, List.getElem?_eq_getElem hj]; rfl
   ·rw [List.getElem?_eq_none (by simpa using hj), List.getElem?_eq_none (by lia)]; rfl
  rw [this]
 ·rw [List.pairwise_map]
  rw [List.pairwise_iff_getElem]
  intro i j hi hj hij
  have hs := T.size
  have hj' : j < p.size := by simpa using hj
  have hi' : i < p.size := by simpa using hi
  have := R i j (Nat.le_of_lt hij) (by lia)
  unfold ltOf at this
  simpa [Array.getD, hi', hj'] using this
section
variable {X : Cx} {E : XK} {a b e : Expr} {oa ob : Opd} {pos p : Pos}
end
@[simp] theorem tR : A5 [] = some [] := rfl
@[simp] theorem sE (b : Bool) (r : zq) : A5 (.bool b :: r) = (A5 r).map (b :: ·) := rfl
@[simp] theorem mW (xs : zq) : dAll [.list xs] = (A5 xs).map fun bs => .sh (.bool (bs.all id)) := rfl
@[simp] theorem zj (x y : PyData) : dIn [x, y] = (inB x y).map fun b => .sh (.bool b) := rfl
@[simp] theorem xI (x : PyData) (xs : zq) : inB x (.list xs) = if SeqAt.shaped x = true /\ SeqAt.shaped (.list xs) = true then some (xs.any fun y => PyData.eqv y x) else none := rfl
@[simp] theorem wc (x : PyData) (xs : zq) : inB x (.tuple xs) = if SeqAt.shaped x = true /\ SeqAt.shaped (.list xs) = true then some (xs.any fun y => PyData.eqv y x) else none := rfl
@[simp] theorem zk (x y : PyData) : dIs [x, y] = (isB x y).map fun b => .sh (.bool b) := rfl
@[simp] theorem xJ (b c : Bool) : isB (.bool b) (.bool c) = some (decide (b = c)) := rfl
@[simp] theorem xK : isB .none .none = some true := rfl
end L2
namespace L2
open PySem PySem.Spec PySem.W PyProof.Rows
open HT (lexLt)
noncomputable def Bo (κ : SortKind) : Prop := κ = tuples' true \/ κ = general' \/ κ = oneType'
section
variable {prog : Program} {w : World} {A : Around} {E : zu} {s : Shared}
theorem kG {Q : Bool -> Shared -> Prop} {b fin : Bool} {vs : List Value} {ns : List Int} (hv : IntsAre vs ns) : ∀ {ws : List Value} {ms : List Int} (i : Nat), IntsAre ws ms ->
  (∀ ns' ms' : List Int, (ns' = [] \/ ms' = []) -> ns'.length + ms.length = ms'.length + ns.length -> fin = lexLt ns' ms') -> Q (lexLt ns ms) s -> KatLex prog w A b fin Q (vs.zip ws) i s := by
 induction hv with
 | nil =>
  intro ws ms i hw hf q
  rw [List.zip_nil_left]
  refine kat_nil ?_
  rw [hf [] ms (.inl rfl) (by simp)]
  exact q
 | @cons a t vs ns hv ih =>
  intro ws ms i hw hf q
  cases hw with
  | nil =>
   rw [List.zip_nil_right]
   refine kat_nil ?_
   rw [hf (a :: ns) [] (.inr rfl) (by simp)]
   exact q
  | cons c u hw =>
   rw [List.zip_cons_cons]
   refine kat_cons ?_
   obtain ⟨e, he, hiff⟩ := HT.jX A s a t c u
   refine he prog w _ _ ?_
   rw [HT.dW] at q
   cases e with
   | true =>
    rw [if_pos (hiff.mp rfl)] at q
    exact kat_yes (ih (i + 1) hw (fun ns' ms' h1 h2 => hf ns' ms' h1 (by simp only [List.length_cons]; lia)) q)
   | false =>
    rw [if_neg (fun z => absurd (hiff.mpr z) Bool.false_ne_true)] at q
    refine kat_no ?_
    cases (b && i == 0) with
    | true => exact oneLt_int q
    | false => exact kat_one _ _ (lt_int q)
theorem m8 {κ : SortKind} {l b : Addr} {its its2 : Array Value} {ns ms : List Int} {Q : Bool -> Shared -> Prop} (hκ : Bo κ) (hu : A.units < cLine) (hl : IsTup s.heap l its) (hb : IsTup s.heap b its2) (hi : IntsAre its.toList ns) (hj : IntsAre its2.toList ms)
  (h : Q (lexLt ns ms) s) : wpAny (model prog w) A (keyLt' κ (.ref l) (.ref b)) Q E s := by
 rcases hκ with rfl | rfl | rfl
 ·obtain ⟨o, ho, hc, n, hd⟩ := id hl
  obtain ⟨o2, ho2, hc2, n2, hd2⟩ := id hb
  have z1 : its.size = ns.length := by rw [<- hi.length]; simp
  have z2 : its2.size = ms.length := by rw [<- hj.length]; simp
  refine kat_lt ho hd ho2 hd2 (kG hi 0 hj (fun ns' ms' h1 h2 => ?_) h)
  rcases h1 with rfl | rfl
  ·cases ms' with
   | nil => simp only [List.length_nil] at h2; rw [HT.cf]; exact decide_eq_false (by lia)
   | cons y r => simp only [List.length_nil, List.length_cons] at h2; rw [HT.cR]; exact decide_eq_true (by lia)
  ·cases ns' with
   | nil => simp only [List.length_nil] at h2; rw [HT.cf]; exact decide_eq_false (by lia)
   | cons y r => simp only [List.length_nil, List.length_cons] at h2; rw [HT.cS]; exact decide_eq_false (by lia)
 ·show wpAny (model prog w) A (oneLt' false (.ref l) (.ref b)) Q E s
  exact kat_one _ _ (HT.lQ hl hb hi hj hu h)
 ·rw [keyLt'_oneType, oneLt'_eq]
  simp only [if_true]
  obtain ⟨⟨cls, dd, data, sl⟩, ho, hc, n, hd⟩ := id hl
  obtain ⟨⟨cls2, dd2, data2, sl2⟩, ho2, hc2, n2, hd2⟩ := id hb
  simp only at hc hd hc2 hd2
  subst hc hd hc2 hd2
  refine wpAny_bind (wpAny_cRoomFor hu ?_)
  refine wpAny_bind (wpAny_callSpecialIfBound?_slot ⟨_, ho, rfl⟩ PySem.F.slot_tuple_lt (call_meets PySem.F.slot_tuple_lt ⟨_, ho, rfl⟩ PySem.F.entry_tuple_lt (PySem.F.args_tuple_lt_2 _ _) (HT.dG l b its its2 n n2 dd dd2 sl sl2 ns ms hi hj) ⟨ho, ho2, ?_⟩))
  exact wpAny_truthy_bool h
noncomputable def Aq (h : Heap) : List Value -> List (List Int) -> Prop
 | [], [] => True
 | v :: vs, ns :: nss => (∃ a its, v = .ref a /\ IsTup h a its /\ IntsAre its.toList ns) /\ Aq h vs nss
 | _, _ => False
theorem fT {M : Model} : ∀ (vs : List Value) (nss : List (List Int)) {Q : List (Option Value) -> Shared -> Prop}, Aq s.heap vs nss -> (∀ os : List (Option Value), os.length = vs.length -> (∀ o ∈ os, ∀ v, o = some v -> ∃ i t, v = .int i t) -> Q os s) -> wpAny M A (vs.mapM firstOfTuple') Q E s
 | [], _, _, _, h => by rw [List.mapM_nil]; exact wpAny_pure (h [] rfl (by simp))
 | _ :: _, [], _, t, _ => t.elim
 | v :: vs, ns :: nss, Q, t, h => by
  obtain ⟨⟨a, its, rfl, ⟨o, ho, hc, n, hd⟩, hi⟩, t⟩ := t
  rw [List.mapM_cons]
  refine wpAny_bind ?_
  rw [kas_first_eq]
  refine wpAny_bind (Looks.here (show Looks M s.heap (typeOf (.ref a)) o.cls from (Looks.ld ho).andThen .now) ?_)
  rw [hc, if_neg (by first | decide | simp)]
  refine wpAny_bind (listItems_at ho hd (wpAny_pure ?_))
  refine wpAny_bind (fT vs nss t fun os hl ho' => wpAny_pure (h _ (by simp [hl]) fun o hm v e => ?_))
  rcases List.mem_cons.mp hm with z | z
  ·subst z
   cases its with
   | mk l =>
    cases hi with
    | nil => simp at e
    | cons i t _ => simp at e; exact ⟨i, t, e.symm⟩
  ·exact ho' o z v e
theorem hJ {M : Model} : ∀ (vs : List Value) (nss : List (List Int)), Aq s.heap vs nss -> ∀ v ∈ vs, Looks M s.heap (typeOf v) (.type "tuple")
 | [], _, _, v, hv => by cases hv
 | _ :: _, [], t, _, _ => t.elim
 | v :: vs, ns :: nss, t, u, hu => by
  obtain ⟨⟨a, its, rfl, ⟨o, ho, hc, n, hd⟩, hi⟩, t⟩ := t
  rcases List.mem_cons.mp hu with rfl | hu
  ·exact hc ▸ (Looks.ld ho).andThen .now
  ·exact hJ vs nss t u hu
theorem kH {M : Model} {T : Value} {Q : Option Value -> Shared -> Prop} {vs : List Value} (hne : vs ≠ []) (hT : ∀ v ∈ vs, Looks M s.heap (typeOf v) T) (hT2 : (T == T) = true) (h : Q (some T) s) : wpAny M A (oneTypeOnly' vs.toArray) Q E s := by
 rw [oneTypeOnly'_eq, List.mapM_toArray, map_eq_pure_bind]
 refine wpAny_bind (wpAny_bind (kas_mapM (r := T) _ (fun v hv Q' hq => (hT v hv).here hq) (wpAny_pure ?_)))
 have hall : ((List.map (fun _ => T) vs).toArray.all fun x => x == T) = true := by
  simp only [List.all_toArray, List.all_map, List.all_eq_true]
  intro _ _
  exact hT2
 have h0 : (List.map (fun _ => T) vs).toArray[0]? = some T := by
  cases vs with
  | nil => exact absurd rfl hne
  | cons v r => simp
 rw [h0]
 simp only [hall, if_true]
 exact wpAny_pure h
theorem oj {vs : List Value} {nss : List (List Int)} {M : Model} {Q : SortKind -> Shared -> Prop} (t : Aq s.heap vs nss) (hne : vs ≠ []) (h : ∀ κ, Bo κ -> Q κ s) : wpAny M A (keyKind' vs.toArray) Q E s := by
 rw [kat_kind_eq, List.mapM_toArray, map_eq_pure_bind]
 refine wpAny_bind (wpAny_bind (fT vs nss t fun os hl hos => wpAny_pure ?_))
 by_cases ha : (os.toArray.all (·.isSome)) = true
 ·rw [if_pos ha]
  refine wpAny_bind (wpAny_rule ?_)
  have e : os.toArray.filterMap id = (os.filterMap id).toArray := by simp
  rw [e]
  refine wpAny_bind (kH (T := .type "int") ?_ (fun v hv => ?_) rfl (wpAny_pure (h _ (.inl rfl))))
  ·intro z
   cases os with
   | nil => simp at hl; exact hne (List.length_eq_zero_iff.mp hl.symm)
   | cons o r =>
    cases o with
    | none => simp at ha
    | some v => simp at z
  ·obtain ⟨o, ho, e2⟩ := List.mem_filterMap.mp hv
   obtain ⟨i, t, rfl⟩ := hos o ho v e2
   exact fun A Q E s' _ q => wpAny_pure q
 ·rw [if_neg ha]
  by_cases h0 : (os.toArray[0]?.bind id).isSome = true
  ·rw [if_pos h0]
   exact wpAny_pure (h _ (.inr (.inl rfl)))
  ·rw [if_neg h0]
   refine wpAny_bind (kH hne (hJ vs nss t) rfl ?_)
   exact wpAny_pure (h _ (.inr (.inr rfl)))
theorem iu {a : Addr} {vs : List Value} {n : Nat} {nss : List (List Int)} {lt : Nat -> Nat -> Bool} {P : PySem.Fin -> Shared -> Prop} (ho : s.heap.get? a = some (seqObj "list" vs.toArray n)) (h64 : vs.length < 64)
  (tr : ∀ i j k, lt j i = false -> lt k j = false -> lt k i = false) (as : ∀ i j, lt i j = true -> lt j i = false)
  (hT : ∀ h' : Heap, (∀ b o, b ≠ a -> s.heap.get? b = some o -> h'.get? b = some o) -> Aq h' vs nss)
  (hc : ∀ κ, Bo κ -> ∀ h' : Heap, (∀ b o, b ≠ a -> s.heap.get? b = some o -> h'.get? b = some o) -> ∀ i j (C : Bool -> Shared -> Prop), i < vs.length -> j < vs.length -> C (lt i j) { s with heap := h' } ->
   wpAny (model prog w) A (keyLt' κ (vs.getD i Value.none) (vs.getD j Value.none)) C (fun _ _ => False) { s with heap := h' })
  (h : ∀ p : Array Nat, Tab vs.length p -> Rises lt p vs.length -> P (.done (.ret .none)) { s with heap := sortedHeap s.heap a vs (List.toArray (p.toList.map fun i => vs.getD i Value.none)) }) :
  wpAny (model prog w) A (Builtin.«list.sort» ⟨[.ref a], []⟩) P E s := by
 rw [list_sort_plain]
 have ha : a < s.heap.objs.size := Heap.lt_size ho
 refine wpAny_bind (listItems_at ho rfl ?_)
 refine wpAny_bind (listUpdate_at ho rfl ?_ (by rw [List.size_toArray, sizeLine_eq]; lia) (Nat.zero_le _))
 obtain ⟨e1, ho1⟩ : ∃ e1, (s.heap.update a (Obj.mapSeq fun _ => #[])).get? a = some (seqObj "list" #[] e1) := ⟨_, get?_update_seq ho (fun _ => #[])⟩
 refine wpAny_bind (seqEpoch_at ho1 rfl ?_)
 refine wpAny_bind (wpAny_newTuple ?_ (by show vs.length <= _; rw [sizeLine_eq]; lia))
 refine wpAny_bind (wpAny_newList ?_ (Nat.zero_le _))
 refine wpAny_holding ?_
 have ho6 : (((s.heap.update a (Obj.mapSeq fun _ => #[])).push (seqObj "tuple" vs.toArray 0)).push (seqObj "list" #[] 0)).get? a = some (seqObj "list" #[] e1) := by
  rw [Heap.get?_push_ne _ _ _ (by rw [size_push', Heap.size_update]; exact Nat.ne_of_lt (Nat.lt_succ_of_lt ha)), Heap.get?_push_ne _ _ _ (by rw [Heap.size_update]; exact Nat.ne_of_lt ha)]
  exact ho1
 have keep : ∀ b o, b ≠ a -> s.heap.get? b = some o -> (((s.heap.update a (Obj.mapSeq fun _ => (#[] : Array Value))).push (seqObj "tuple" vs.toArray 0)).push (seqObj "list" #[] 0)).get? b = some o := fun b o hb q =>
  Heap.get?_push_of_some _ (Heap.get?_push_of_some _ (by rw [Heap.get?_update_ne _ _ _ _ hb]; exact q))
 show wpAny (model prog w) A _ P E { s with heap := ((s.heap.update a (Obj.mapSeq fun _ => #[])).push (seqObj "tuple" vs.toArray 0)).push (seqObj "list" #[] 0) }
 dsimp only
 by_cases h2 : vs.length < 2
 ·have h2' : vs.toArray.size < 2 := by rw [List.size_toArray]; exact h2
  rw [if_pos h2', if_pos h2']
  refine wpAny_bind (wpAny_pure ?_)
  rw [StateT.run_pure]
  refine wpAny_bind (wpAny_pure ?_)
  dsimp only
  refine wpAny_bind (seqEpoch_at ho6 rfl ?_)
  refine wpAny_bind (listUpdate_at ho6 rfl ?_ (Nat.zero_le _) (by rw [Array.size_map]; show (pairsOf vs).size <= _; rw [pairsOf_size, sizeLine_eq]; lia))
  simp only [bne_self_eq_false, Bool.false_eq_true, if_false]
  have hp := h (List.range vs.length).toArray ⟨by simp, .refl _⟩ (fun i j hij hj => by
   have : i = j := by lia
   subst this
   exact irr tr as _)
  have e : List.toArray (((List.range vs.length).toArray).toList.map fun i => vs.getD i Value.none) = (arrOf (SortSt.mk' general' (vs.toArray.zip vs.toArray) #[] 7 none)).map (·.2) := by
   show _ = (pairsOf vs).map (·.2)
   have e2 := congrArg (fun a => Array.map (·.2) a) (kas_range (pairsOf vs))
   simp only [pairsOf_size] at e2
   rw [<- e2, Array.map_map]
   apply Array.toList_inj.mp
   rw [Array.toList_map]
   exact List.map_congr_left fun i _ => by show _ = (kas_item (pairsOf vs) i).2; rw [kas_item_eq]
  rw [e] at hp
  exact wpAny_pure hp
 ·have hn2 : ¬ vs.toArray.size < 2 := by rw [List.size_toArray]; lia
  rw [if_neg hn2, if_neg hn2]
  refine wpAny_bind (oj (s := { s with heap := ((s.heap.update a (Obj.mapSeq fun _ => (#[] : Array Value))).push (seqObj "tuple" vs.toArray 0)).push (seqObj "list" #[] 0) }) (hT _ keep) (fun z => by rw [z] at h2; exact h2 (by decide)) fun κ hκ => ?_)
  have est : SortSt.mk' κ (vs.toArray.zip vs.toArray) #[] 7 none = kas_st κ (pairsOf vs) (List.toArray (List.range vs.length)) := by
   have e := kas_range (pairsOf vs)
   rw [pairsOf_size] at e
   show SortSt.mk' κ (pairsOf vs) #[] 7 none = SortSt.mk' κ ((List.toArray (List.range vs.length)).map (kas_item (pairsOf vs))) #[] 7 none
   rw [e]
  have ask : (kas_sort vs.length).kasWp (kas_ask prog w A κ vs) (fun p s' => s' = { s with heap := ((s.heap.update a (Obj.mapSeq fun _ => (#[] : Array Value))).push (seqObj "tuple" vs.toArray 0)).push (seqObj "list" #[] 0) } /\ Tab vs.length p /\ Rises lt p vs.length) { s with heap := ((s.heap.update a (Obj.mapSeq fun _ => (#[] : Array Value))).push (seqObj "tuple" vs.toArray 0)).push (seqObj "list" #[] 0) } :=
   mU (lt := lt) (n := vs.length) (fun i j C hi hj q => hc κ hκ _ keep i j C hi hj q) _ (sD tr as (by lia) fun p T R => ⟨rfl, T, R⟩)
  rw [kas_ask_eq] at ask
  have run := kas_runs (E := E) (Q := fun _ st' s' => ∃ p : Array Nat, arrOf st' = p.map (kas_item (pairsOf vs)) /\ failedOf st' = none /\ s' = { s with heap := ((s.heap.update a (Obj.mapSeq fun _ => (#[] : Array Value))).push (seqObj "tuple" vs.toArray 0)).push (seqObj "list" #[] 0) } /\ Tab vs.length p /\ Rises lt p vs.length)
   (by lia) h64 (fun p' st' s' a1 a2 a3 a4 => ⟨p', a2, a3, a4⟩) ask
  rw [<- est] at run
  refine wpAny_bind (wpAny_mono run ?_ fun _ _ e => e)
  rintro ⟨⟨⟩, st'⟩ s' ⟨p, har, hf, rfl, T, R⟩
  dsimp only
  have hout : (arrOf st').map (·.2) = List.toArray (p.toList.map fun i => vs.getD i Value.none) := by
   apply Array.toList_inj.mp
   rw [har, Array.map_map, Array.toList_map]
   exact List.map_congr_left fun i _ => by show (kas_item (pairsOf vs) i).2 = _; rw [kas_item_eq]
  have hsz : (List.toArray (p.toList.map fun i => vs.getD i Value.none)).size = vs.length := by rw [List.size_toArray, List.length_map, Array.length_toList, T.size]
  rw [hout]
  refine wpAny_bind (seqEpoch_at ho6 rfl ?_)
  refine wpAny_bind (listUpdate_at ho6 rfl ?_ (Nat.zero_le _) (Nat.le_trans (Nat.le_of_eq hsz) (by rw [sizeLine_eq]; lia)))
  rw [hf]
  simp only [bne_self_eq_false, Bool.false_eq_true, if_false]
  exact wpAny_pure (h p T R)
end
end L2
namespace L2
open PySem PySem.Spec PyProof.Rows
variable [Tabs]
theorem fU {h : Heap} : ∀ {vs : List Value} {nss : List (List Int)}, vs.length = nss.length -> (∀ i, i < vs.length -> ∃ b its ns, vs[i]? = some (.ref b) /\ nss[i]? = some ns /\ IsTup h b its /\ IntsAre its.toList ns) -> Aq h vs nss
 | [], [], _, _ => trivial
 | [], _ :: _, e, _ => by simp at e
 | _ :: _, [], e, _ => by simp at e
 | v :: vs, ns :: nss, e, k => by
  obtain ⟨b, its, ns', e1, e2, h1, h2⟩ := k 0 (by simp)
  simp at e1 e2
  subst e1 e2
  exact ⟨⟨b, its, rfl, h1, h2⟩, fU (by simpa using e) fun i hi => by
   obtain ⟨b, its, ns, e1, e2, h1, h2⟩ := k (i + 1) (by simpa using hi)
   exact ⟨b, its, ns, by simpa using e1, by simpa using e2, h1, h2⟩⟩
section
variable {X : Cx}
end
noncomputable def encT (ns : List Int) : PyData := .tuple (ns.map PyData.int)
noncomputable def AI : zq -> Option (List (List Int))
 | [] => some []
 | .tuple ds :: r => (A1 ds).bind fun ns => (AI r).map (ns :: ·)
 | _ :: _ => none
theorem iZ : ∀ nss : List (List Int), AI (nss.map encT) = some nss
 | [] => rfl
 | n :: r => by
  have h := iZ r
  rw [List.map_cons, encT, AI, bq]
  show (AI (r.map encT)).map (n :: ·) = _
  rw [h]; rfl
theorem kI : ∀ {ds : zq} {nss : List (List Int)}, AI ds = some nss -> ds = nss.map encT
 | [], _, e => by cases e; rfl
 | d :: r, _, e => by
  cases d with
  | tuple xs =>
   simp only [AI, Option.bind_eq_some_iff, Option.map_eq_some_iff] at e
   obtain ⟨ns, e1, ms, e2, rfl⟩ := e
   rw [List.map_cons, <- kI e2, encT, <- iX e1]
  | _ => cases e
section
variable {X : Cx} {E : XK} {a b e : Expr} {oa ob : Opd} {pos p : Pos}
end
section
variable {X : Cx}
end
section
variable {X : Cx} {E : XK} {a b e : Expr} {oa ob : Opd} {pos p : Pos}
end
section
variable {prog : Program} {w : World} {A : Around} {E : zu} {s : Shared}
end
section
variable {X : Cx}
end
section
variable {X : Cx} {E : XK} {a b e : Expr} {oa ob : Opd} {pos p : Pos}
end
open PySem.W
structure BR (X : Cx) (a : Str) (F : List Nat) (N : List Str) (scope : Scope) : Prop where
 kind : scope.kind = .function
 co : scope.isCoroutine = false
 gen : scope.isGenerator = false
 nocell : ∀ y ∈ scope.names, y.2 ≠ .cell
 arg : scope.names.lookup a = some .local
 free : ∀ y ∈ scope.names, y.2 = .free -> X.env.kindOf y.1 = some .cell \/ X.env.kindOf y.1 = some .free
 n0 : N[0]? = some a
 names : ∀ (i : Nat) x, N[i + 1]? = some x -> ∃ j, F[i]? = some j /\ X.N[j]? = some x /\ Vis X.env.scope x /\ scope.names.lookup x = some .free
 len : N.length = 1 + F.length
section
variable {X : Cx} {pins : zt} {σ : St} {H : Hp} {s : Shared} {N : List Str} {F : List Nat} {scope : Scope} {cl : List (Str × Addr)} {A : Around} {a qual : Str} {f c' : Addr} {v : V} {u : Value}
end
section
variable {X : Cx} {pins : zt} {σ : St} {N : List Str} {F : List Nat} {scope : Scope} {cl : List (Str × Addr)} {a : Str} {f c' l : Addr} {params : Arguments} {body : Expr} {pm ctv : Value} {of : Obj} {te : TE} {vs : List V} {Q : VK} {W : Nat -> Option (V × Int) -> Hp -> Prop}
end
structure LamK (K : W.Frag) (cdv : Value) (c P : Addr) : Prop where
 cd : cdv = .ref c
 hd : codeHdIn K c P = true
 mem : P ∈ Tabs.ts
section
variable {X : Cx} {E : XK} {N : List Str} {F : List Nat} {scope : Scope} {a : Str} {params : Arguments} {body e : Expr} {te : DE} {o : Opd} {c P : Addr} {p pos lp cp k1 k2 : Pos} {j k : Nat}
end
end L2
namespace L2
open PySem PySem.Spec PyProof.Rows
variable [Tabs]
section
variable {X : Cx} {N0 : List Str} {sc0 scope : Scope} {x y : Str}
variable {elt iter : Expr} {fc : DC} {tc : DT} {te : DE} {pos px py pt spos : Pos} {ifs : List Expr} {E : XK} {F : List Nat} {kt : Nat}
end
section
variable {X : Cx} {E : XK} {l : Expr} {o : Opd} {p pos : Pos} {ts : List Expr} {tk : Nat} {tp : Pos}
end
open PySem.W
end L2
namespace L2
open PySem PySem.Spec PyProof.Rows
variable [Tabs]
section
variable {X : Cx} {pins : zt} {σ : St} {H : Hp} {s : Shared} {a : Addr} {o : Obj} {u : HO}
end
section
variable {K : W.Frag} {mg : zr} {G0 H0 G H : Hp} {σ : St} {δ : DEnv} {a : Addr} {o2 : HO}
end
section
variable {X : Cx} {E : XK} {N0 : List Str} {sc0 scope : Scope} {x d : Str} {elt : Expr} {ifs : List Expr} {tc : DT} {te : DE} {pos px pd : Pos} {F : List Nat}
end
end L2
namespace L2
open PySem PySem.Spec PyProof.Rows
section
variable {prog : Program} {w : World} {A : Around} {E : zu} {s : Shared} {a kS : Addr} {vs : List Value} {ns kz : List Int} {keys : Array Value} {e e1 : Nat} {P : PySem.Fin -> Shared -> Prop}
end
variable [Tabs]
noncomputable def inB2 (d : PyData) : PyData -> Option Bool
 | .dict es => (zU d).map fun k => es.any fun p => decide (zU p.1 = some k)
 | y => inB d y
noncomputable def dIn2 : zq -> Option SD
 | [x, y] => (inB2 x y).map fun b => .sh (.bool b)
 | _ => none
noncomputable def AF : zq -> Option SD
 | [x, y] => (inB2 x y).map fun b => .sh (.bool !b)
 | _ => none
noncomputable def B1 (K : W.Frag) (neg : Bool) : R2 := fun x y H Q => rInD K neg x y H Q \/ ∃ a o, y = .ref a /\ DGet H a x o /\ Q (.bl (if neg then !o.isSome else o.isSome)) H
section
variable {X : Cx}
theorem mX (hu : X.A.units + 64 < cLine) : OpR X (compareOp .In) (B1 X.K false) := by
 intro pins s σ H x y v u Q I rx ry h
 rcases h with h | ⟨a, o, rfl, g, q⟩
 ·exact vd hu pins s σ H x y v u Q I rx ry h
 ·cases ry
  exact yO (by lia) I g rx fun s' I' => ⟨.bl _, H, I', rfl, q⟩
theorem m9 (hu : X.A.units + 64 < cLine) : OpR X (compareOp .NotIn) (B1 X.K true) := by
 intro pins s σ H x y v u Q I rx ry h
 rcases h with h | ⟨a, o, rfl, g, q⟩
 ·exact og hu pins s σ H x y v u Q I rx ry h
 ·cases ry
  exact rD (by lia) I g rx fun s' I' => ⟨.bl _, H, I', rfl, q⟩
end
section
variable {K : W.Frag} {mg : zr}
theorem mY {neg : Bool} {G H : Hp} {x y : V} {dx dy : PyData} {b : Bool} {Q : VK} (hg : Same G H) (h1 : Dt K G x dx) (h2 : Dt K G y dy) (e : inB2 dx dy = some b) (q : Q (.bl (if neg then !b else b)) H) : B1 K neg x y H Q := by
 unfold inB2 at e
 split at e
 next es =>
  obtain ⟨k, ek, rfl⟩ := Option.map_eq_some_iff.mp e
  cases h2 with
  | dct hd hdes =>
   rename_i a kvs
   have ex : x = kV k := by
    cases h1 with
    | int i => cases ek; rfl
    | str z => cases ek; rfl
    | non => cases ek
    | bl z => cases ek
    | lst _ _ => cases ek
    | tup _ _ => cases ek
    | dct _ _ => cases ek
   subst ex
   refine .inr ⟨a, valV kvs k, rfl, DGet.k (hg _ _ hd), ?_⟩
   have e2 : (valV kvs k).isSome = es.any fun p => decide (zU p.1 = some k) := by
    rw [<- hdes.any]
    unfold valV
    rw [Option.isSome_map, Bool.eq_iff_iff, List.find?_isSome, List.any_eq_true]
   rw [e2]
   exact q
 next => exact .inl (ve hg h1 h2 e q)
theorem tU : zN K mg dIn2 (l2 (B1 K false)) := by
 intro G H vs ds res Q hg hd ho k
 unfold dIn2 at ho
 split at ho
 next x y =>
  obtain ⟨b, e, rfl⟩ := Option.map_eq_some_iff.mp ho
  obtain ⟨v, u, rfl, h1, h2⟩ := dts2 hd
  exact mY hg h1 h2 e (ans k hg (.bl _))
 next => cases ho
theorem qh : zN K mg AF (l2 (B1 K true)) := by
 intro G H vs ds res Q hg hd ho k
 unfold AF at ho
 split at ho
 next x y =>
  obtain ⟨b, e, rfl⟩ := Option.map_eq_some_iff.mp ho
  obtain ⟨v, u, rfl, h1, h2⟩ := dts2 hd
  exact mY hg h1 h2 e (ans k hg (.bl _))
 next => cases ho
end
section
variable {X : Cx} {E : XK} {a b : Expr} {oa ob : Opd} {pos : Pos}
theorem vi (hu : X.A.units + 64 < cLine) (ha : SO X E a oa) (hb : SO X E b ob) (hm : behindInMarks .In b = false := by rfl) : SE X E (.Compare a [.In] [b] pos) (eOp dIn2 [oa, ob]) := fx (mX hu) tU ha hb hm
theorem vj (hu : X.A.units + 64 < cLine) (ha : SO X E a oa) (hb : SO X E b ob) (hm : behindInMarks .In b = false := by rfl) : ST X E (.Compare a [.In] [b] pos) (tstV (eOp dIn2 [oa, ob])) := e7 (mX hu) tU ha hb hm
theorem om (hu : X.A.units + 64 < cLine) (ha : SO X E a oa) (hb : SO X E b ob) (hm : behindInMarks .NotIn b = false := by rfl) : ST X E (.Compare a [.NotIn] [b] pos) (tstV (eOp AF [oa, ob])) := e7 (m9 hu) qh ha hb hm
end
section
variable {X : Cx} {E : XK} {e : Expr} {o : Opd} {p pos pk kp : Pos}
end
section
variable {X : Cx} {E : XK} {a b : Expr} {oa ob : Opd} {p p2 pos pos2 : Pos}
end
theorem sF {P : Program} {w : World} {K : W.Frag} {mg : zr} {base : Heap} {k : Nat} {f : Addr} {fd : FuncData} (ps : List Str) : FnOk P w K mg base (CXe P w) k f fd ps (spD K mg fun _ => .bad) :=
 ⟨fun vs H Q E h => let ⟨_, _, _, _, m⟩ := h; m.elim, fun A outer s H args us vs Q E _ _ _ _ h => let ⟨_, _, _, _, m⟩ := h; m.elim⟩
structure LamQ (K : W.Frag) (qn : Str) (cdv : Value) (c P : Addr) : Prop where
 k : LamK K cdv c P
 q : qn ++ ".<locals>." ++ "<lambda>" = Tabs.qual
section
variable {X : Cx} {E : XK} {F : List Nat} {scope sc0 : Scope} {N0 : List Str} {a qn : Str} {params : Arguments} {body e : Expr} {te : DE} {o : Opd} {c P : Addr} {p pos lp cp k1 k2 : Pos} {j k : Nat}
end
end L2
namespace L2
open PySem PySem.Spec PyProof.Rows
structure BZ (X : Cx) (x : Str) (F : List Nat) (N : List Str) (scope : Scope) : Prop where
 kind : scope.kind = .function
 c1 : ∀ n cl, cellsFrom n scope.names cl = (x, n) :: cl
 c2 : ∀ h, pushCells h scope.names = h.push { cls := .type "cell", data := .cell none }
 only : ∀ y ∈ scope.names, y.2 = .cell -> y.1 = x
 loc : ∀ y ∈ scope.names, y.2 = .local -> scope.names.lookup y.1 = some .local
 fkind : X.env.scope.kind = .function
 free : ∀ y ∈ scope.names, y.2 = .free -> X.env.kindOf y.1 = some .cell \/ X.env.kindOf y.1 = some .free
 names : ∀ (i : Nat) y, N[i]? = some y -> (i < 1 \/ (y ≠ x /\ ∃ j, F[i - 1]? = some j /\ X.N[j]? = some y /\ Vis X.env.scope y /\ ∀ k, (relabel scope X.env).names.lookup y = some k -> k = .cell \/ k = .free))
 len : N.length = 1 + F.length
section
variable {X : Cx} {pins : zt} {σ : St} {H : Hp} {s : Shared} {N : List Str} {F : List Nat} {scope : Scope} {cl : List (Str × Addr)} {fp : List Addr} {x : Str}
end
section
variable {X : Cx} {x xo : Str} {N : List Str} {F : List Nat} {scope : Scope} {tg elt iter : Expr} {wi : TI} {g : TG} {tc : TT} {te : TE} {pos : Pos} {ifs : List Expr}
end
variable [Tabs]
section
variable {X : Cx} {E : XK} {N0 : List Str} {sc0 scope : Scope} {x : Str} {elt iter : Expr} {ifs : List Expr} {fc : DC} {tc : DT} {te : DE} {pos px : Pos} {F : List Nat}
end
structure C0 (s p : Addr) (G H G' H' : Hp) : Prop where
 at_ : ∀ b o, b ≠ s -> b ≠ p -> H b = some o -> H' b = some o
 gg : Same G G'
 gh : Same G' H'
 nb : ∀ b, H b ≠ none -> G' b = G b
 nt : NoT G -> NoT G'
section
variable {X : Cx} {E : XK} {e k v : Expr} {o ov ok : Opd} {x : Str} {px apos cpos pos tpos : Pos}
end
section
variable {X : Cx} {E : XK} {e : Expr} {o : Opd} {x : Str} {px apos cpos : Pos}
end
def sBad : DS := fun _ => .bad
@[simp] theorem yM (δ : DEnv) : sBad δ = .bad := rfl
section
variable {X : Cx} {E : XK} {e : Expr} {st : Stmt} {sts : List Stmt}
theorem hU : S1 X E st sBad := fun _ _ _ _ _ _ ⟨_, _, _, _, _, m⟩ => m.elim
end
section
variable {X : Cx} {E : XK} {e k v : Expr} {o ov ok : Opd} {x : Str} {px apos cpos pos tpos : Pos}
end
noncomputable def Bz (w : World) : List DictEntry -> List (Key × Int) -> Prop
 | [], [] => True
 | e :: es, p :: r => AL p.1 e.key = true /\ e.hash = keyH w p.1 /\ (∃ t, e.val = .int p.2 t) /\ Bz w es r
 | _, _ => False
structure DctK (w : World) (K : W.Frag) (a : Addr) (kd : List (Key × Int)) : Prop where
 nsys : (a == sysModules) = false
 nd : (kd.map (·.1)).Nodup
 obj : ∃ es n, K.lookup a = some { cls := .type "dict", data := .dict es n } /\ Bz w es.toList kd
section
variable {X : Cx} {E : XK} {e k v : Expr} {o ov ok : Opd} {x : Str} {px apos cpos pos tpos : Pos}
theorem jv {c : Str} (h : ∃ t, X.mg x = some (.str c t)) (hg : Gl X x := by rfl) (hdb : (x == ("__debug__" : Str)) = false := by decide) : SE X E (.Name x pos) (eC (.str c)) := by
 obtain ⟨t, h⟩ := h
 exact mP h (v := .str c) ⟨t, rfl⟩ (fun _ => .str c) hg hdb
end
section
variable {X : Cx} {E : XK} {e a k v : Expr} {o oa ov ok : Opd} {x : Str} {p px apos cpos pos tpos : Pos}
end
@[simp] theorem xM (i : Nat) (d : PyData) (k : Str) (δ1 δ2 : DEnv) : putP i ([d, .str k], δ1, δ2) = match isOd δ2 i with
  | some es => if es.length < sizeLine then .nx (δ2.set i (some (.od (putD es (.inr k) d)))) else .bad
  | none => .bad := by
 unfold putP
 cases isOd δ2 i <;> rfl
end L2
namespace L2
open PySem PySem.Spec PyProof.Rows
abbrev Rise (l : List Nat) : Prop := l.Pairwise (· < ·)
structure LowB (xs : Array Nat) (j r : Nat) : Prop where
 le : r <= xs.size
 lo : ∀ i x, i < r -> xs[i]? = some x -> x < j
 hi : ∀ i x, r <= i -> xs[i]? = some x -> j <= x
theorem dC {xs : Array Nat} (h : Rise xs.toList) {i k x y : Nat} (hik : i < k) (hx : xs[i]? = some x) (hy : xs[k]? = some y) : x < y := by
 rw [<- Array.getElem?_toList] at hx hy
 obtain ⟨h1, e1⟩ := List.getElem?_eq_some_iff.mp hx
 obtain ⟨h2, e2⟩ := List.getElem?_eq_some_iff.mp hy
 have := List.pairwise_iff_getElem.mp h i k h1 h2 hik
 rw [e1, e2] at this
 exact this
theorem hV {xs : Array Nat} {j : Nat} (h : Rise xs.toList) : ∀ (fuel lo hi : Nat), hi <= xs.size -> lo <= hi -> hi - lo <= fuel -> (∀ i x, i < lo -> xs[i]? = some x -> x < j) -> (∀ i x, hi <= i -> xs[i]? = some x -> j <= x) -> LowB xs j (SetTable.below.go xs j fuel lo hi)
 | 0, lo, hi, h1, h2, h3, h4, h5 => by
  have e : lo = hi := by lia
  subst e
  exact ⟨h1, h4, h5⟩
 | fuel + 1, lo, hi, h1, h2, h3, h4, h5 => by
  unfold SetTable.below.go
  split
  next hlt =>
   have hm : (lo + hi) / 2 < xs.size := by lia
   have em : xs[(lo + hi) / 2]? = some xs[(lo + hi) / 2] := Array.getElem?_eq_getElem hm
   have eg : xs.getD ((lo + hi) / 2) j = xs[(lo + hi) / 2] := by simp [Array.getD, hm]
   dsimp only
   rw [eg]
   split
   next hc =>
    refine hV h fuel _ hi h1 (by lia) (by lia) (fun i x hi' hx => ?_) h5
    rcases Nat.lt_or_ge i ((lo + hi) / 2) with z | z
    ·exact Nat.lt_trans (dC h z hx em) hc
    ·have : i = (lo + hi) / 2 := by lia
     subst this
     rw [em] at hx
     cases hx
     exact hc
   next hc =>
    refine hV h fuel lo _ (by lia) (by lia) (by lia) h4 (fun i x hi' hx => ?_)
    rcases Nat.lt_or_ge ((lo + hi) / 2) i with z | z
    ·exact Nat.le_trans (Nat.le_of_not_lt hc) (Nat.le_of_lt (dC h z em hx))
    ·have : i = (lo + hi) / 2 := by lia
     subst this
     rw [em] at hx
     cases hx
     exact Nat.le_of_not_lt hc
  next hlt =>
   have e : lo = hi := by lia
   subst e
   exact ⟨h1, h4, h5⟩
theorem cZ {xs : Array Nat} (h : Rise xs.toList) (j : Nat) : LowB xs j (SetTable.below xs j) := by
 unfold SetTable.below
 exact hV h _ 0 _ (Nat.le_refl _) (Nat.zero_le _) (by lia) (fun i x hi => by lia) fun i x hi hx => by
  rw [Array.getElem?_eq_none (by lia)] at hx
  cases hx
theorem LowB.uniq {xs : Array Nat} {j r r' : Nat} (a : LowB xs j r) (b : LowB xs j r') : r = r' := by
 rcases Nat.lt_trichotomy r r' with z | z | z
 ·have hr : r < xs.size := by have := b.le; lia
  have e := Array.getElem?_eq_getElem hr
  have h1 := a.hi r _ (Nat.le_refl _) e
  have h2 := b.lo r _ z e
  lia
 ·exact z
 ·have hr : r' < xs.size := by have := a.le; lia
  have e := Array.getElem?_eq_getElem hr
  have h1 := b.hi r' _ (Nat.le_refl _) e
  have h2 := a.lo r' _ z e
  lia
theorem kJ {xs : Array Nat} (h : Rise xs.toList) {j : Nat} (hj : j ∉ xs.toList) : Rise (SetTable.insertAt xs (SetTable.below xs j) j).toList := by
 have b := cZ h j
 rw [SetTable.toList_insertAt]
 generalize SetTable.below xs j = r at b
 rw [<- List.take_append_drop r xs.toList] at h
 obtain ⟨h1, h2, h3⟩ := List.pairwise_append.mp h
 have lo : ∀ x ∈ xs.toList.take r, x < j := fun x hx => by
  obtain ⟨i, hi, e⟩ := List.getElem_of_mem hx
  rw [List.length_take] at hi
  rw [List.getElem_take] at e
  exact b.lo i x (by lia) (by rw [<- Array.getElem?_toList, List.getElem?_eq_getElem (by lia), e])
 have hi : ∀ x ∈ xs.toList.drop r, j < x := fun x hx => by
  obtain ⟨i, hi, e⟩ := List.getElem_of_mem hx
  rw [List.length_drop] at hi
  rw [List.getElem_drop] at e
  have := b.hi (r + i) x (by lia) (by rw [<- Array.getElem?_toList, List.getElem?_eq_getElem (by lia), e])
  have hne : x ≠ j := fun z => hj (z ▸ List.mem_of_mem_drop hx)
  lia
 refine List.pairwise_append.mpr ⟨h1, List.pairwise_cons.mpr ⟨hi, h2⟩, fun x hx y hy => ?_⟩
 rcases List.mem_cons.mp hy with z | z
 ·subst z; exact lo x hx
 ·exact h3 x hx y z
structure TabS (led : Bool) (t : SetTable) : Prop where
 rise : Rise t.place.toList
 dum : t.dummies = #[]
 led : t.led = led
theorem vk {led : Bool} {t : SetTable} (h : TabS led t) {j : Nat} (hj : j ∉ t.place.toList) : TabS led (t.put j).1 := by
 refine ⟨kJ h.rise hj, ?_, h.led⟩
 show (if SetTable.has t.dummies j then SetTable.eraseAt t.dummies (SetTable.below t.dummies j) else t.dummies) = #[]
 have : SetTable.has t.dummies j = false := by
  rw [h.dum]
  unfold SetTable.has
  simp
 rw [this]
 exact h.dum
theorem ma (g : Nat -> Option Nat) (hg : ∀ a b, g a = some b -> b = a) : ∀ l : List Nat, (l.filterMap g).Sublist l
 | [] => List.Sublist.slnil
 | a :: r => by
  rw [List.filterMap_cons]
  cases e : g a with
  | none => exact (ma g hg r).cons _
  | some b =>
   have := hg a b e
   subst this
   exact (ma g hg r).cons₂ _
theorem sG {mask finger moves : Nat} {led plain : Bool} {hashes : Array Int} {t : SetTable} {order : Array Nat} (e : SetTable.laid mask finger moves led plain hashes = some (t, order)) : TabS led t := by
 unfold SetTable.laid at e
 cases ho : SetTable.layClean mask hashes with
 | none => rw [ho] at e; cases e
 | some owner =>
  rw [ho] at e
  cases e
  refine ⟨?_, rfl, rfl⟩
  show Rise (((List.range (mask + 1)).filterMap fun j => (owner.getD j none).map (j, ·)).map (·.1)).toArray.toList
  rw [List.toList_toArray, List.map_filterMap]
  refine List.Pairwise.sublist ?_ (List.pairwise_lt_range (n := mask + 1))
  exact ma _ (fun a b hb => by
   cases hg : owner.getD a none with
   | none => rw [hg] at hb; cases hb
   | some v => rw [hg] at hb; cases hb; rfl) _
noncomputable def txt (w : World) : Bool := w.params.followText "set-order"
section
variable {prog : Program} {w : World} {A : Around} {E : zu} {s : Shared}
end
section
variable {prog : Program} {w : World} {A : Around} {R : Result -> Shared -> Prop} {I : Addr} {fp wr : List Addr} {G : Array GenState -> Array GenState -> Prop} {n : Nat} {P : Nat -> Value -> Prop} {St : Nat -> Shared -> Prop}
end
section
variable {prog : Program} {w : World} {A : Around} {E : zu} {s : Shared}
abbrev zW (w : World) : Obj := { cls := .type "set", dict := none, data := .set #[] 0 (.fresh 0 0 (!txt w)) }
theorem sH (a : Value) {Q : zu} (h : Q (.ref s.heap.objs.size) { s with heap := s.heap.push (zW w) }) :
  codeAny (model prog w) A (.call (.builtin "set.__new__") ⟨[.type "set", a], []⟩) (wants Q E) s := by
 refine codeAny_of_tree ?_
 show wpAny (model prog w) A.in1 (do checkBuiltinCall "set.__new__" ⟨[.type "set", a], []⟩; again (.builtin "set.__new__" ⟨[.type "set", a], []⟩)) _ _ s
 refine wpAny_bind (wpAny_of_eq (PySem.F.newCall_set_1 a) (wpAny_pure ⟨plainId_quiet PySem.F.plain_set_new _, codeAny_builtin PySem.F.entry_set_new ?_⟩))
 rw [Around.under_plainId PySem.F.plain_set_new]
 unfold Builtin.«set.__new__»
 unfold Builtin.Frozenset.newClass
 have hs := sub_set_self
 obtain ⟨h0, g0, d0, k0, o0⟩ := s
 dsimp only
 wp_walk
 refine wpAny_askSetting ?_
 refine wpAny_pure ?_
 dsimp only [newObj]
 exact wpAny_bind (wpAny_alloc (wpAny_pure (wpAny_pure h)))
end
section
variable {prog : Program} {w : World} {A : Around} {E : zu} {s : Shared}
end
theorem dc : Slot "set_iterator" "__next__" "set_iterator.__next__" :=
 .of (owner := "set_iterator") (n := "__next__") (by rw [typeLookup_type, builtinLookup_eq_fast]; kernel_rfl) (by decide +kernel) (by decide +kernel) (by decide +kernel) (by first | exact .inl (by decide +kernel) | exact .inr (by decide +kernel)) (by rw [isSubtype_type]; kernel_rfl)
theorem oo : entryFor table "set_iterator.__next__" = some Builtin.«set_iterator.__next__» := entryFor_of_tree (by kernel_rfl)
theorem qi (a : Value) : argsOk "set_iterator.__next__" ⟨[a], []⟩ := by
 unfold argsOk
 kernel_rfl
theorem kK : entryFor table "set.__iter__" = some Builtin.«frozenset.__iter__» := entryFor_alias (id' := "frozenset.__iter__") (by kernel_rfl) rfl (by decide +kernel) (by kernel_rfl)
section
variable {prog : Program} {w : World} {A : Around} {E : zu} {s : Shared}
noncomputable def IsSI (h : Heap) (I S : Addr) (first : Value) (i n ep : Nat) : Prop := ∃ o, h.get? I = some o /\ o.cls = .type "set_iterator" /\ o.data = .fields #[first, .int i 0, .ref S, .int n 0, .int ep 0]
theorem IsSI.ty {I S : Addr} {first : Value} {i n ep : Nat} (x : IsSI s.heap I S first i n ep) : s.TypeIs (.ref I) "set_iterator" := let ⟨o, h, c, _⟩ := x; ⟨o, h, c⟩
noncomputable def Ah (h : Heap) (S : Addr) (es : Array (Int × Value)) (ep : Nat) (t : SetTable) : Prop := ∃ o, h.get? S = some o /\ o.data = .set es ep t /\ t.fits es.size = true
theorem dD {Q : Bool -> Shared -> Prop} (h : Q (txt w) s) : wpAny (model prog w) A setsByText Q E s := by
 unfold setsByText
 exact wpAny_bind (wpAny_askSetting (wpAny_pure h))
theorem dM {S : Addr} {slot i ep : Nat} {es : Array (Int × Value)} {t : SetTable} {Q : Option (Value × Nat) -> Shared -> Prop} (y : Ah s.heap S es ep t) (ht : txt w = false) (hp : t.plain = true \/ es.size <= 1) (hl : t.led = true)
  (fin : Q (match es[SetTable.below t.place slot]?, t.place[SetTable.below t.place slot]? with
   | some (_, x), some j => some (x, j + 1)
   | _, _ => none) s) : wpAny (model prog w) A (setNext S slot i ep) Q E s := by
 obtain ⟨os, hos, hds, hf⟩ := y
 unfold setNext
 refine wpAny_bind (wpAny_setState_of hos hds hf ?_)
 dsimp only
 refine wpAny_bind (dD ?_)
 rw [ht]
 simp only [Bool.false_eq_true, if_false]
 have hdr : ¬ (!t.plain && decide (es.size > 1)) = true := by
  rcases hp with z | z
  ·simp [z]
  ·simp; intro; omega
 have hdr2 : ¬ (!t.led && !es.isEmpty) = true := by simp [hl]
 show wpAny (model prog w) A (if (!t.plain && decide (es.size > 1)) = true then _ else _) _ _ _
 rw [if_neg hdr]
 refine wpAny_bind ?_
 show wpAny (model prog w) A ((if (!t.led && !es.isEmpty) = true then unsupported "set:maker-not-led" else pure PUnit.unit) : Sem PUnit) _ _ _
 rw [if_neg hdr2]
 exact wpAny_pure (wpAny_pure fin)
theorem fk {S : Addr} {slot i ep : Nat} {es : Array (Int × Value)} {t : SetTable} {Q : Option (Value × Nat) -> Shared -> Prop} (y : Ah s.heap S es ep t) (ht : txt w = true)
  (fin : Q (((pickOrder (w.params.setOrder S ep) es)[i]?).map fun e => (e.2, slot)) s) : wpAny (model prog w) A (setNext S slot i ep) Q E s := by
 obtain ⟨os, hos, hds, hf⟩ := y
 unfold setNext
 refine wpAny_bind (wpAny_setState_of hos hds hf ?_)
 dsimp only
 refine wpAny_bind (dD ?_)
 rw [ht]
 simp only [if_true, bne_self_eq_false, Bool.false_eq_true, if_false]
 unfold setWalk
 refine wpAny_bind (wpAny_bind (wpAny_setState_of hos hds hf ?_))
 dsimp only
 refine wpAny_bind (dD ?_)
 rw [ht]
 simp only [if_true]
 exact wpAny_bind (wpAny_askSetting (wpAny_pure (wpAny_pure fin)))
theorem gp {I S : Addr} {first : Value} {i n ep : Nat} {es : Array (Int × Value)} {t : SetTable} {Q : Option Value -> Shared -> Prop} (x : IsSI s.heap I S first i n ep) (y : Ah s.heap S es ep t) (hn : n = es.size)
  (body : wpAny (model prog w) A.in1 (match first with
   | .int slot _ => do
    match <- setNext S slot.toNat i ep with
    | some (x, next) =>
     setField (.ref I) 0 (rawInt next)
     setField (.ref I) 1 (rawInt ((i : Int) + 1))
     ret x
    | none => setField (.ref I) 2 .none; raiseNew (<- newExc (.type "StopIteration") [])
   | _ => do
    let some places <- seqItems? first | unsupported "internal:set_iterator"
    match places[i]? with
    | some (.int place _) =>
     let x <- setNextDrawn S place.toNat ep
     setField (.ref I) 1 (rawInt ((i : Int) + 1))
     ret x
    | some _ => unsupported "internal:set_iterator"
    | none => setField (.ref I) 0 (rawInt 0); setField (.ref I) 2 .none; raiseNew (<- newExc (.type "StopIteration") []))
   (fun f s1 => ∃ v, f = .done (.ret v) /\ Q (some v) s1) (fun e s1 => wpAny (model prog w) A (do if <- isInstance e (.type "StopIteration") then pure none else throw e) Q E s1) s) :
  wpAny (model prog w) A (pyNext (.ref I)) Q E s := by
 subst hn
 obtain ⟨o, ho, hc, hd⟩ := id x
 obtain ⟨os, hos, hds, hf⟩ := y
 unfold pyNext
 refine wpAny_bind (wpAny_attempt (wpAny_callSpecial?_slot (name := Str.ofString "__next__") x.ty dc (wpAny_call_entry dc x.ty oo ?_ (qi _))))
 unfold Builtin.«set_iterator.__next__»
 unfold slotArgs
 simp only [List.isEmpty_nil, Bool.not_true, Bool.false_eq_true, if_false, List.length_nil, bne_self_eq_false]
 refine wpAny_bind (wpAny_pure ?_)
 refine wpAny_bind (wpAny_fieldsOf ho hd ?_)
 dsimp only
 refine wpAny_bind (wpAny_setEntries_of hos hds hf ?_)
 rw [if_neg (by simp)]
 simp only [Int.toNat_natCast]
 exact wpAny_mono body (fun f s1 ⟨v, e, q⟩ => ⟨v, e, wpAny_pure q⟩) fun _ _ q => q
theorem Ah.keep {h h' : Heap} {S : Addr} {es : Array (Int × Value)} {ep : Nat} {t : SetTable} (y : Ah h S es ep t) (k : ∀ o, h.get? S = some o -> h'.get? S = some o) : Ah h' S es ep t := let ⟨o, ho, r⟩ := y; ⟨o, k o ho, r⟩
theorem cJ {h : Heap} {I : Addr} {o : Obj} {vs : Array Value} (ho : h.get? I = some o) (hd : o.data = .fields vs) (j : Nat) (x : Value) :
  ∃ o', (h.update I (Obj.mapFields (·.setIfInBounds j x))).get? I = some o' /\ o'.cls = o.cls /\ o'.data = .fields (vs.setIfInBounds j x) :=
 ⟨_, Heap.get?_update_self _ ho (Obj.isFreed_of_fields (Obj.data_mapFields hd _)), Obj.cls_mapFields .., Obj.data_mapFields hd _⟩
theorem kL {I S : Addr} {slot i n ep nx : Nat} {v : Value} {es : Array (Int × Value)} {t : SetTable} {Q : Option Value -> Shared -> Prop} (x : IsSI s.heap I S (.int slot 0) i n ep) (y : Ah s.heap S es ep t) (hn : n = es.size)
  (nxt : ∀ (Q' : Option (Value × Nat) -> Shared -> Prop) (E' : zu), Q' (some (v, nx)) s -> wpAny (model prog w) A.in1 (setNext S slot i ep) Q' E' s)
  (fin : ∀ h', IsSI h' I S (.int nx 0) (i + 1) n ep -> Heap.SameBut I s.heap h' -> Q (some v) { s with heap := h' }) : wpAny (model prog w) A (pyNext (.ref I)) Q E s := by
 refine gp x y hn ?_
 obtain ⟨o, ho, hc, hd⟩ := x
 dsimp only
 refine wpAny_bind (nxt _ _ ?_)
 dsimp only
 obtain ⟨o1, ho1, hc1, hd1⟩ := cJ ho hd 0 (rawInt (nx : Int))
 obtain ⟨o2, ho2, hc2, hd2⟩ := cJ ho1 hd1 1 (rawInt ((i : Int) + 1))
 refine wpAny_bind (wpAny_setField ho hd (by simp) ?_)
 refine wpAny_bind (wpAny_setField ho1 hd1 (by simp) ?_)
 refine wpAny_pure ⟨v, rfl, fin _ ⟨o2, ho2, hc2.trans (hc1.trans hc), ?_⟩ ((Heap.SameBut.update s.heap I _).trans (Heap.SameBut.update _ I _))⟩
 rw [hd2]
 simp [rawInt]
theorem mZ {I : Addr} {o : Obj} {vs : Array Value} {Q : Option Value -> Shared -> Prop} (hh : A.handled = none) (ho : s.heap.get? I = some o) (hd : o.data = .fields vs) (hz : 2 < vs.size)
  (fin : ∀ h', Heap.ExtBut I s.heap h' -> Q none { s with heap := h' }) :
  wpAny (model prog w) A.in1 (do setField (.ref I) 2 .none; raiseNew (<- newExc (.type "StopIteration") []) : Sem PySem.Fin) (fun f s1 => ∃ v, f = .done (.ret v) /\ Q (some v) s1) (fun e s1 => wpAny (model prog w) A (do if <- isInstance e (.type "StopIteration") then pure none else throw e) Q E s1) s := by
 refine wpAny_bind (wpAny_setField ho hd hz ?_)
 refine wpAny_bind ?_
 simp only [newExc, newTuple]
 refine wpAny_bind (wpAny_newObj_type ?_ (by size_fits))
 refine wpAny_bind (m := firstArgMember _ _) (wpAny_of_eq (a := Value.none) (by first | rfl | (simp only [firstArgMember]; rfl)) ?_)
 refine wpAny_newObj_type ?_ (by size_fits)
 simp only [raiseNew]
 refine wpAny_bind (wpAny_handled ?_)
 rw [show A.in1.handled = none from hh]
 refine wpAny_bind (wpAny_pure (wpAny_throw ?_))
 refine wpAny_bind (wpAny_isInstance (T := "StopIteration") (b := true) ⟨_, Heap.get?_push_size _ rfl, rfl⟩ isSubtype_stop ?_)
 exact wpAny_pure (fin _ (((Heap.SameBut.update ..).extBut.push _).push _))
theorem n4 {I S : Addr} {slot i n ep : Nat} {es : Array (Int × Value)} {t : SetTable} {Q : Option Value -> Shared -> Prop} (hh : A.handled = none) (x : IsSI s.heap I S (.int slot 0) i n ep) (y : Ah s.heap S es ep t) (hn : n = es.size)
  (nxt : ∀ (Q' : Option (Value × Nat) -> Shared -> Prop) (E' : zu), Q' none s -> wpAny (model prog w) A.in1 (setNext S slot i ep) Q' E' s)
  (fin : ∀ h', Heap.ExtBut I s.heap h' -> Q none { s with heap := h' }) : wpAny (model prog w) A (pyNext (.ref I)) Q E s := by
 refine gp x y hn ?_
 obtain ⟨o, ho, hc, hd⟩ := x
 dsimp only
 refine wpAny_bind (nxt _ _ ?_)
 dsimp only
 exact mZ hh ho hd (by simp) fin
theorem md {I S T : Addr} {i n ep p : Nat} {e : Int × Value} {places : Array Value} {tn : Nat} {ot : Obj} {tp : Tok} {es : Array (Int × Value)} {t : SetTable} {Q : Option Value -> Shared -> Prop} (x : IsSI s.heap I S (.ref T) i n ep) (y : Ah s.heap S es ep t) (hn : n = es.size)
  (hT : s.heap.get? T = some ot) (hTd : ot.data = .seq places tn) (hp : places[i]? = some (.int p tp)) (he : es[p]? = some e)
  (fin : ∀ h', IsSI h' I S (.ref T) (i + 1) n ep -> Heap.SameBut I s.heap h' -> Q (some e.2) { s with heap := h' }) : wpAny (model prog w) A (pyNext (.ref I)) Q E s := by
 refine gp x y hn ?_
 obtain ⟨o, ho, hc, hd⟩ := x
 obtain ⟨os, hos, hds, hf⟩ := y
 dsimp only
 refine wpAny_bind (wpAny_seqItems hT hTd ?_)
 dsimp only
 rw [hp]
 dsimp only
 unfold setNextDrawn
 refine wpAny_bind (wpAny_bind (wpAny_setState_of hos hds hf ?_))
 simp only [bne_self_eq_false, Bool.false_eq_true, if_false, Int.toNat_natCast, he]
 refine wpAny_pure ?_
 obtain ⟨o2, ho2, hc2, hd2⟩ := cJ ho hd 1 (rawInt ((i : Int) + 1))
 refine wpAny_bind (wpAny_setField ho hd (by simp) ?_)
 refine wpAny_pure ⟨e.2, rfl, fin _ ⟨o2, ho2, hc2.trans hc, ?_⟩ (Heap.SameBut.update s.heap I _)⟩
 rw [hd2]
 simp [rawInt]
theorem oq {I S T : Addr} {i n ep : Nat} {places : Array Value} {tn : Nat} {ot : Obj} {es : Array (Int × Value)} {t : SetTable} {Q : Option Value -> Shared -> Prop} (hh : A.handled = none) (x : IsSI s.heap I S (.ref T) i n ep) (y : Ah s.heap S es ep t) (hn : n = es.size)
  (hT : s.heap.get? T = some ot) (hTd : ot.data = .seq places tn) (hp : places[i]? = none)
  (fin : ∀ h', Heap.ExtBut I s.heap h' -> Q none { s with heap := h' }) : wpAny (model prog w) A (pyNext (.ref I)) Q E s := by
 refine gp x y hn ?_
 obtain ⟨o, ho, hc, hd⟩ := x
 dsimp only
 refine wpAny_bind (wpAny_seqItems hT hTd ?_)
 dsimp only
 rw [hp]
 dsimp only
 obtain ⟨o1, ho1, hc1, hd1⟩ := cJ ho hd 0 (rawInt 0)
 refine wpAny_bind (wpAny_setField ho hd (by simp) ?_)
 refine mZ (s := { s with heap := s.heap.update I (Obj.mapFields (·.setIfInBounds 0 (rawInt 0))) }) hh ho1 hd1 (by simp) fun h' eb => fin h' fun b o' hb e => ?_
 refine eb b o' hb ?_
 exact (Heap.get?_update_other _ _ (Ne.symm hb)).trans e
end
theorem kM : Slot "set_iterator" "__iter__" "set_iterator.__iter__" :=
 .of (owner := "set_iterator") (n := "__iter__") (by rw [typeLookup_type, builtinLookup_eq_fast]; kernel_rfl) (by decide +kernel) (by decide +kernel) (by decide +kernel) (by first | exact .inl (by decide +kernel) | exact .inr (by decide +kernel)) (by rw [isSubtype_type]; kernel_rfl)
theorem ou : entryFor table "set_iterator.__iter__" = some Builtin.«dict_keyiterator.__iter__» := entryFor_alias (id' := "dict_keyiterator.__iter__") (by kernel_rfl) rfl (by decide +kernel) (by kernel_rfl)
theorem qj (a : Value) : argsOk "set_iterator.__iter__" ⟨[a], []⟩ := by
 unfold argsOk
 kernel_rfl
theorem n5 {α : Type} {l : List α} {k : Nat} (h : k < l.length) : ([l[k]] ++ l.eraseIdx k).Perm l := by
 rw [List.eraseIdx_eq_take_drop_succ]
 have e : l = l.take k ++ l[k] :: l.drop (k + 1) := by rw [List.getElem_cons_drop h, List.take_append_drop]
 conv => rhs; rw [e]
 rw [List.singleton_append]
 exact List.perm_middle.symm
theorem n6 {α : Type} (next : Nat -> Nat) : ∀ (fuel k : Nat) (left : List α) (out : Array α), left.length <= fuel -> ((pickOrder.go next fuel k left out).toList).Perm (out.toList ++ left)
 | 0, k, left, out, h => by
  have : left = [] := List.eq_nil_of_length_eq_zero (by lia)
  subst this
  unfold pickOrder.go
  simp
 | fuel + 1, k, left, out, h => by
  unfold pickOrder.go
  split
  next x e =>
   obtain ⟨hx, ex⟩ := List.getElem?_eq_some_iff.mp e
   have ih := n6 next fuel (k + 1) (left.eraseIdx (next k % left.length)) (out.push x) (by rw [List.length_eraseIdx]; split <;> lia)
   refine ih.trans ?_
   rw [Array.toList_push, List.append_assoc]
   refine List.Perm.append_left _ ?_
   rw [<- ex]
   exact n5 hx
  next e =>
   have : left = [] := by
    rcases left with _ | ⟨a, r⟩
    ·rfl
    ·exfalso
     rw [List.getElem?_eq_none_iff] at e
     have := Nat.mod_lt (next k) (show 0 < (a :: r).length by simp)
     lia
   subst this
   simp
theorem fF {α : Type} (next : Nat -> Nat) (xs : Array α) : (pickOrder next xs).toList.Perm xs.toList := by
 unfold pickOrder
 have := n6 next xs.size 0 xs.toList #[] (by simp)
 simpa using this
section
variable {prog : Program} {w : World} {A : Around} {E : zu} {s : Shared}
theorem jw {I S : Addr} {first : Value} {i n ep : Nat} {Q : zu} (x : IsSI s.heap I S first i n ep) (h : Q (.ref I) s) : wpAny (model prog w) A (pyIter (.ref I)) Q E s := by
 refine wpAny_pyIter_slot x.ty kM (wpAny_call_entry kM x.ty ou ?_ (qj _))
 show wpAny (model prog w) _ (ret (Value.ref I)) _ _ s
 exact wpAny_pure ⟨_, rfl, "set_iterator", _, x.ty, dc.lookup, h⟩
theorem IsSI.keep {h h' : Heap} {I S : Addr} {first : Value} {i n ep : Nat} (x : IsSI h I S first i n ep) (k : ∀ o, h.get? I = some o -> h'.get? I = some o) : IsSI h' I S first i n ep := let ⟨o, ho, r⟩ := x; ⟨o, k o ho, r⟩
theorem ox {t : SetTable} {n : Nat} (h : t.fits n = true) : t.place.size = n := by
 simp only [SetTable.fits, Bool.and_eq_true, beq_iff_eq] at h
 exact h.1
theorem me (hh : A.handled = none) {I S : Addr} (hne : S ≠ I) {es : Array (Int × Value)} {ep : Nat} {t : SetTable} (hf : t.fits es.size = true) (ht : txt w = false) (hp : t.plain = true \/ es.size <= 1) (hl : t.led = true) (hr : Rise t.place.toList) :
  WalksS prog w A I [I, S] [I] (fun a b => b = a) es.size (fun i v => (es.toList.map (·.2))[i]? = some v) (fun i s => ∃ slot, IsSI s.heap I S (.int ((slot : Nat) : Int) 0) i es.size ep /\ LowB t.place slot i /\ Ah s.heap S es ep t) where
 sub := fun b hb => by simp at hb; simp [hb]
 grefl := fun _ => rfl
 gtrans := fun _ _ _ h1 h2 => h2.trans h1
 frame := fun i s h' tk ⟨slot, x, l, y⟩ _ k => ⟨slot, x.keep fun o e => k I (by simp) o e, l, y.keep fun o e => k S (by simp) o e⟩
 item := fun i s Q E hi ⟨slot, x, l, y⟩ fin => by
  have hps := ox hf
  have ei : es[i]? = some es[i] := Array.getElem?_eq_getElem hi
  have ej : t.place[i]? = some (t.place[i]'(by lia)) := Array.getElem?_eq_getElem (by lia)
  have hb : SetTable.below t.place slot = i := (cZ hr slot).uniq l
  generalize hj : t.place[i]'(by lia) = j at ej
  refine kL (nx := j + 1) (v := es[i].2) x y rfl (fun Q' E' q => dM y ht hp hl (by rw [hb, ei, ej]; exact q)) fun h' x' sb => ?_
  refine fin _ _ (by rw [List.getElem?_map, Array.getElem?_toList, ei]; rfl) ⟨j + 1, x', ⟨by lia, fun k z hk hz => ?_, fun k z hk hz => ?_⟩, y.keep fun o e => by rw [sb.2 S hne]; exact e⟩ ⟨fun b o hb e => ?_, rfl, rfl, rfl, Nat.le_refl _⟩
  ·rcases Nat.lt_or_ge k i with c | c
   ·have := dC hr c hz ej
    lia
   ·have : k = i := by lia
    subst this
    rw [ej] at hz
    cases hz
    lia
  ·have := dC hr (show i < k by lia) ej hz
   lia
  ·show h'.get? b = some o
   rw [sb.2 b (fun c => hb (by simp [c]))]
   exact e
 done := fun s Q E ⟨slot, x, l, y⟩ fin => by
  have hb : SetTable.below t.place slot = es.size := (cZ hr slot).uniq l
  have en : es[es.size]? = none := Array.getElem?_eq_none (Nat.le_refl _)
  refine n4 hh x y rfl (fun Q' E' q => dM y ht hp hl (by rw [hb, en]; exact q)) fun h' eb => ?_
  exact fin _ ⟨fun b o hb e => eb b o (fun c => hb (by simp [c])) e, rfl, rfl, rfl, Nat.le_refl _⟩
 self := fun i s Q E ⟨slot, x, l, y⟩ q => jw x q
theorem oz (hh : A.handled = none) {I S : Addr} (hne : S ≠ I) {es : Array (Int × Value)} {ep : Nat} {t : SetTable} (ht : txt w = true) :
  WalksS prog w A I [I, S] [I] (fun a b => b = a) es.size (fun i v => ((pickOrder (w.params.setOrder S ep) es).toList.map (·.2))[i]? = some v) (fun i s => IsSI s.heap I S (.int ((0 : Nat) : Int) 0) i es.size ep /\ Ah s.heap S es ep t) where
 sub := fun b hb => by simp at hb; simp [hb]
 grefl := fun _ => rfl
 gtrans := fun _ _ _ h1 h2 => h2.trans h1
 frame := fun i s h' tk ⟨x, y⟩ _ k => ⟨x.keep fun o e => k I (by simp) o e, y.keep fun o e => k S (by simp) o e⟩
 item := fun i s Q E hi ⟨x, y⟩ fin => by
  have hsz : (pickOrder (w.params.setOrder S ep) es).size = es.size := by
   have := (fF (w.params.setOrder S ep) es).length_eq
   simpa using this
  have ei : (pickOrder (w.params.setOrder S ep) es)[i]? = some ((pickOrder (w.params.setOrder S ep) es)[i]'(by lia)) := Array.getElem?_eq_getElem (by lia)
  generalize (pickOrder (w.params.setOrder S ep) es)[i]'(by lia) = e0 at ei
  refine kL (nx := 0) (v := e0.2) x y rfl (fun Q' E' q => fk y ht (by rw [ei]; exact q)) fun h' x' sb => ?_
  refine fin _ _ (by rw [List.getElem?_map, Array.getElem?_toList, ei]; rfl) ⟨x', y.keep fun o e => by rw [sb.2 S hne]; exact e⟩ ⟨fun b o hb e => ?_, rfl, rfl, rfl, Nat.le_refl _⟩
  show h'.get? b = some o
  rw [sb.2 b (fun c => hb (by simp [c]))]
  exact e
 done := fun s Q E ⟨x, y⟩ fin => by
  have hsz : (pickOrder (w.params.setOrder S ep) es).size = es.size := by
   have := (fF (w.params.setOrder S ep) es).length_eq
   simpa using this
  have en : (pickOrder (w.params.setOrder S ep) es)[es.size]? = none := Array.getElem?_eq_none (by lia)
  refine n4 hh x y rfl (fun Q' E' q => fk y ht (by rw [en]; exact q)) fun h' eb => ?_
  exact fin _ ⟨fun b o hb e => eb b o (fun c => hb (by simp [c])) e, rfl, rfl, rfl, Nat.le_refl _⟩
 self := fun i s Q E ⟨x, y⟩ q => jw x q
noncomputable def rawP (l : List Nat) : List Value := l.map fun (i : Nat) => rawInt (i : Int)
theorem mf (hh : A.handled = none) {I S T : Addr} (hne : S ≠ I) (hnT : T ≠ I) {es : Array (Int × Value)} {ep : Nat} {t : SetTable} {l : List Nat} (hl : l.Perm (List.range es.size)) :
  WalksS prog w A I [I, S, T] [I] (fun a b => b = a) es.size (fun i v => ∃ p e, l[i]? = some p /\ es[p]? = some e /\ v = e.2) (fun i s => IsSI s.heap I S (.ref T) i es.size ep /\ Ah s.heap S es ep t /\ ∃ o tn, s.heap.get? T = some o /\ o.data = .seq (rawP l).toArray tn) where
 sub := fun b hb => by simp at hb; simp [hb]
 grefl := fun _ => rfl
 gtrans := fun _ _ _ h1 h2 => h2.trans h1
 frame := fun i s h' tk ⟨x, y, o, tn, z, zz⟩ _ k => ⟨x.keep fun o e => k I (by simp) o e, y.keep fun o e => k S (by simp) o e, o, tn, k T (by simp) o z, zz⟩
 item := fun i s Q E hi ⟨x, y, o, tn, z, zz⟩ fin => by
  have hlen : l.length = es.size := by simpa using hl.length_eq
  have el : l[i]? = some (l[i]'(by lia)) := List.getElem?_eq_getElem (by lia)
  generalize l[i]'(by lia) = p at el
  have hp : p < es.size := by simpa using hl.mem_iff.mp (List.mem_of_getElem? el)
  have ee : es[p]? = some es[p] := Array.getElem?_eq_getElem hp
  have ep' : (rawP l).toArray[i]? = some (.int (p : Int) 0) := by
   rw [List.getElem?_toArray]
   unfold rawP
   rw [List.getElem?_map, el]
   rfl
  refine md x y rfl z zz ep' ee fun h' x' sb => ?_
  refine fin _ _ ⟨p, es[p], el, ee, rfl⟩ ⟨x', y.keep fun o e => by rw [sb.2 S hne]; exact e, o, tn, by show h'.get? T = some o; rw [sb.2 T hnT]; exact z, zz⟩ ⟨fun b o hb e => ?_, rfl, rfl, rfl, Nat.le_refl _⟩
  show h'.get? b = some o
  rw [sb.2 b (fun c => hb (by simp [c]))]
  exact e
 done := fun s Q E ⟨x, y, o, tn, z, zz⟩ fin => by
  have hlen : l.length = es.size := by simpa using hl.length_eq
  have en : (rawP l).toArray[es.size]? = none := by
   rw [List.getElem?_toArray]
   unfold rawP
   rw [List.getElem?_map, List.getElem?_eq_none (by lia)]
   rfl
  refine oq hh x y rfl z zz en fun h' eb => ?_
  exact fin _ ⟨fun b o hb e => eb b o (fun c => hb (by simp [c])) e, rfl, rfl, rfl, Nat.le_refl _⟩
 self := fun i s Q E ⟨x, y, _⟩ q => jw x q
end
section
variable {prog : Program} {w : World} {A : Around} {E : zu} {s : Shared}
theorem oA {src : Source} {n : Nat} {Q : Nat -> Shared -> Prop} (hn : n ≠ 0) (h : ∀ k d, k < n -> Q k { s with drawn := d }) : wpAny (model prog w) A (choose src n) Q E s :=
 fun _ _ _ => ⟨hn, h _ _ (Nat.mod_lt _ (Nat.pos_of_ne_zero hn))⟩
theorem n8 {α : Type} : ∀ (n : Nat) (xs : List α) (s : Shared) (Q : List α -> Shared -> Prop), xs.length <= n -> (∀ l d, l.Perm xs -> Q l { s with drawn := d }) -> wpAny (model prog w) A (drawOrder n xs) Q E s
 | 0, xs, s, Q, h, fin => by
  have : xs = [] := List.eq_nil_of_length_eq_zero (by lia)
  subst this
  exact wpAny_pure (fin [] s.drawn (List.Perm.refl _))
 | n + 1, [], s, Q, h, fin => wpAny_pure (fin [] s.drawn (List.Perm.refl _))
 | n + 1, x :: r, s, Q, h, fin => by
  unfold drawOrder
  refine wpAny_bind (oA (by simp) fun k d hk => ?_)
  have e : (x :: r)[k]? = some ((x :: r)[k]) := List.getElem?_eq_getElem hk
  rw [e]
  dsimp only
  have hl : ((x :: r).eraseIdx k).length <= n := by
   rw [List.length_eraseIdx]
   split <;> simp at h ⊢ <;> lia
  refine wpAny_bind (n8 n _ _ _ hl fun l d' hp => ?_)
  exact wpAny_pure (fin _ d' ((List.Perm.cons _ hp).trans (n5 hk)))
theorem qk (es : Array (Int × Value)) (t : SetTable) (a : Addr) {o : Obj} {ep : Nat} {Q : Bool -> Shared -> Prop} (ho : s.heap.get? a = some o) (hd : o.data = .set es ep t) (hf : t.fits es.size = true) (h : Q (!txt w && (!t.plain && decide (es.size > 1))) s) : wpAny (model prog w) A (setDrawn a) Q E s := by
 unfold setDrawn
 refine wpAny_bind (wpAny_setState_of ho hd hf ?_)
 dsimp only
 exact wpAny_bind (dD (wpAny_pure h))
end
abbrev nilL : Obj := { cls := .type "list", data := .seq ([] : List Value).toArray }
section
variable {prog : Program} {w : World} {A : Around} {E : zu} {s : Shared}
theorem kO : isSubtype (.type "set") (.type "set") = pure true := by rw [isSubtype_type]; kernel_rfl
theorem mh {vs : List Value} {acc : Array Value} {P : Nat -> Value -> Prop} (hP : ∀ i v, P i v -> vs[i]? = some v) (h : ItemsOf P acc vs.length) : acc.toList = vs := by
 apply List.ext_getElem?
 intro i
 by_cases hi : i < acc.size
 ·have e : acc[i]? = some acc[i] := Array.getElem?_eq_getElem hi
  rw [Array.getElem?_toList, e, hP i _ (h.2 i _ e)]
 ·rw [List.getElem?_eq_none (by simpa using hi), List.getElem?_eq_none (by rw [<- h.1]; omega)]
theorem ql {S : Addr} {Q : Bool -> Shared -> Prop} (hT : s.TypeIs (.ref S) "set") (h : Q false s) : wpAny (model prog w) A (Builtin.List.listLengthHint (.ref S)) Q E s := by
 unfold Builtin.List.listLengthHint
 refine wpAny_bind (wpAny_specialOf hT PySem.F.slot_set_len.lookup ?_)
 generalize hq : ("set.__len__" : String) = nm
 wp_delta
 rw [show splitId nm = some ("set", "__len__") from by subst hq; decide +kernel]
 subst hq
 refine wpAny_bind (wpAny_isInstance (b := true) hT kO ?_)
 rw [if_neg (show ¬ (!true) = true by decide)]
 split
 next =>
  refine wpAny_bind (wpAny_typeOf hT ?_)
  exact wpAny_pure h
 next hc => exact absurd (by decide +kernel) hc
end
variable [Tabs]
theorem Inv.same {X : Cx} {pins : zt} {σ : List (Option V)} {H : Hp} {s s' : Shared} (I : Inv X pins σ H s) (h1 : s'.heap = s.heap) (h2 : s'.gens = s.gens) (h3 : s'.os = s.os) : Inv X pins σ H s' := by
 obtain ⟨a1, a2, a3, a4, a5, a6, a7, a8, a9, a10, a11⟩ := I
 exact ⟨a1, h3 ▸ a2, h2 ▸ a3, h1 ▸ a4, h1 ▸ a5, h1 ▸ a6, a7, a8, h1 ▸ a9, h1 ▸ a10, a11⟩
section
variable {X : Cx} {pins : zt} {σ : List (Option V)} {H : Hp} {s : Shared}
end
section
variable {X : Cx} {E : XK} {a : Expr} {oa : Opd} {p1 p2 pos1 pos2 : Pos}
end
section
variable {X : Cx} {E : XK} {a : Expr} {oa : Opd} {pos p : Pos}
end
end L2
namespace L2
open PySem PySem.Spec PyProof.Rows
noncomputable def adv (m : Nat) (p : SetTable.Probe) : SetTable.Probe :=
 if p.more > 0 then { p with j := p.j + 1, more := p.more - 1 } else
 { p with j := (SetTable.leap m p.i p.perturb).1, more := SetTable.runEnd m (SetTable.leap m p.i p.perturb).1 - (SetTable.leap m p.i p.perturb).1, i := (SetTable.leap m p.i p.perturb).1, perturb := (SetTable.leap m p.i p.perturb).2 }
theorem hW (t : SetTable) (p : SetTable.Probe) : t.advance p = adv t.mask p := by
 unfold SetTable.advance adv
 split <;> rfl
noncomputable def atL (m : Nat) (q : Nat × Nat) : SetTable.Probe := { j := q.1, more := SetTable.runEnd m q.1 - q.1, i := q.1, perturb := q.2, dummy := none }
noncomputable def pt (m : Nat) (h : Int) : Nat -> SetTable.Probe
 | 0 => atL m (SetTable.bits h % (m + 1), SetTable.bits h)
 | n + 1 => adv m (pt m h n)
abbrev sl (m : Nat) (h : Int) (n : Nat) : Nat := (pt m h n).j
theorem oB (m i : Nat) : SetTable.runEnd m i - i <= 9 := by
 unfold SetTable.runEnd
 split <;> lia
theorem bN (m i : Nat) : i <= SetTable.runEnd m i := by
 unfold SetTable.runEnd
 split <;> lia
theorem oC {m i : Nat} (h : i <= m) : SetTable.runEnd m i <= m := by
 unfold SetTable.runEnd
 split <;> lia
theorem sI (m i p : Nat) : (SetTable.leap m i p).1 <= m := Nat.le_of_lt_succ (Nat.mod_lt _ (Nat.succ_pos m))
theorem qo (m : Nat) (h : Int) : ∀ n, (pt m h n).i <= m /\ (pt m h n).j + (pt m h n).more = SetTable.runEnd m (pt m h n).i /\ (pt m h n).dummy = none
 | 0 => ⟨Nat.le_of_lt_succ (Nat.mod_lt _ (Nat.succ_pos m)), by
   show SetTable.bits h % (m + 1) + (SetTable.runEnd m (SetTable.bits h % (m + 1)) - SetTable.bits h % (m + 1)) = SetTable.runEnd m (SetTable.bits h % (m + 1))
   have := bN m (SetTable.bits h % (m + 1))
   lia, rfl⟩
 | n + 1 => by
  obtain ⟨h1, h2, h3⟩ := qo m h n
  show (adv m (pt m h n)).i <= m /\ (adv m (pt m h n)).j + (adv m (pt m h n)).more = SetTable.runEnd m (adv m (pt m h n)).i /\ (adv m (pt m h n)).dummy = none
  unfold adv
  split
  next hm => exact ⟨h1, by dsimp only; lia, h3⟩
  next hm =>
   refine ⟨sI _ _ _, ?_, h3⟩
   dsimp only
   have := bN m (SetTable.leap m (pt m h n).i (pt m h n).perturb).1
   lia
theorem kP (m : Nat) (h : Int) (n : Nat) : sl m h n <= m := by
 obtain ⟨h1, h2, _⟩ := qo m h n
 have := oC h1
 show (pt m h n).j <= m
 lia
theorem mi {m : Nat} {h : Int} {n : Nat} {q : Nat × Nat} (e : pt m h n = atL m q) : ∀ c, c <= SetTable.runEnd m q.1 - q.1 -> pt m h (n + c) = { atL m q with j := q.1 + c, more := SetTable.runEnd m q.1 - q.1 - c }
 | 0, _ => e
 | c + 1, hc => by
  show adv m (pt m h (n + c)) = _
  rw [mi e c (by lia)]
  unfold adv
  rw [if_pos (show SetTable.runEnd m q.1 - q.1 - c > 0 by lia)]
  rfl
theorem nc {m : Nat} {h : Int} {n : Nat} {q : Nat × Nat} (e : pt m h n = atL m q) : pt m h (n + (SetTable.runEnd m q.1 - q.1) + 1) = atL m (SetTable.leap m q.1 q.2) := by
 show adv m (pt m h (n + (SetTable.runEnd m q.1 - q.1))) = _
 rw [mi e _ (Nat.le_refl _)]
 unfold adv
 rw [if_neg (show ¬ SetTable.runEnd m q.1 - q.1 - (SetTable.runEnd m q.1 - q.1) > 0 by lia)]
 rfl
noncomputable def lp (m : Nat) (h : Int) : Nat -> Nat × Nat
 | 0 => (SetTable.bits h % (m + 1), SetTable.bits h)
 | k + 1 => SetTable.leap m (lp m h k).1 (lp m h k).2
theorem tV (m : Nat) (h : Int) : ∀ k, ∃ n, n <= 10 * k /\ pt m h n = atL m (lp m h k)
 | 0 => ⟨0, Nat.le_refl _, rfl⟩
 | k + 1 => by
  obtain ⟨n, hn, e⟩ := tV m h k
  refine ⟨_, ?_, nc e⟩
  have := oB m (lp m h k).1
  lia
theorem ng (m : Nat) (h : Int) : ∀ k, (lp m h k).2 = SetTable.bits h / 32 ^ k
 | 0 => by simp [lp]
 | k + 1 => by
  show (lp m h k).2 / 32 = _
  rw [ng m h k, Nat.div_div_eq_div_mul, Nat.pow_succ]
theorem sJ (h : Int) : SetTable.bits h < 2 ^ 64 := by
 unfold SetTable.bits
 have h1 := Int.emod_nonneg h (show (2 ^ 64 : Int) ≠ 0 by decide)
 have h2 := Int.emod_lt_of_pos h (show (0 : Int) < 2 ^ 64 by decide)
 have e : (2 ^ 64 : Int) = 18446744073709551616 := by decide
 rw [e] at h1 h2 ⊢
 lia
def lcg (m i : Nat) : Nat := (i * 5 + 1) % (m + 1)
noncomputable def itr (m : Nat) : Nat -> Nat -> Nat
 | 0, i => i
 | k + 1, i => lcg m (itr m k i)
theorem nh (m : Nat) (h : Int) : ∀ k, (lp m h (13 + k)).1 = itr m k (lp m h 13).1
 | 0 => rfl
 | k + 1 => by
  have hp : (lp m h (13 + k)).2 = 0 := by
   rw [ng]
   apply Nat.div_eq_of_lt
   refine Nat.lt_of_lt_of_le (sJ h) (Nat.le_trans (show 2 ^ 64 <= 32 ^ 13 by decide) (Nat.pow_le_pow_right (by decide) (Nat.le_add_right _ _)))
  show ((lp m h (13 + k)).1 * 5 + 1 + (lp m h (13 + k)).2 / 32) % (m + 1) = lcg m (itr m k (lp m h 13).1)
  rw [hp, nh m h k]
  rfl
noncomputable def orb (m : Nat) : Nat -> Nat -> List Nat
 | 0, _ => []
 | k + 1, i => i :: orb m k (lcg m i)
def A2 (m j : Nat) : Nat := (orb m (m + 1) 0).idxOf j
noncomputable def Full (m : Nat) : Prop := ∀ i, i < m + 1 -> A2 m i < m + 1 /\ A2 m (lcg m i) = (A2 m i + 1) % (m + 1) /\ (orb m (m + 1) 0)[A2 m i]? = some i
instance (m : Nat) : Decidable (Full m) := by unfold Full; exact inferInstance
theorem full7 : Full 7 := by decide +kernel
theorem full31 : Full 31 := by decide +kernel
theorem full127 : Full 127 := by decide +kernel
theorem qp {m i : Nat} (h : i < m + 1) : ∀ k, itr m k i < m + 1
 | 0 => h
 | k + 1 => Nat.mod_lt _ (Nat.succ_pos m)
theorem qq {m : Nat} (F : Full m) {i : Nat} (h : i < m + 1) : ∀ k, A2 m (itr m k i) = (A2 m i + k) % (m + 1)
 | 0 => (Nat.mod_eq_of_lt (F i h).1).symm
 | k + 1 => by
  show A2 m (lcg m (itr m k i)) = _
  rw [(F _ (qp h k)).2.1, qq F h k, Nat.mod_add_mod, Nat.add_assoc]
theorem BU {m : Nat} (F : Full m) {i j : Nat} (hi : i < m + 1) (hj : j < m + 1) : ∃ k, k <= m /\ itr m k i = j := by
 refine ⟨(A2 m j + (m + 1 - A2 m i)) % (m + 1), Nat.le_of_lt_succ (Nat.mod_lt _ (Nat.succ_pos m)), ?_⟩
 have a := (F i hi).1
 have b := (F j hj).1
 have e : A2 m (itr m ((A2 m j + (m + 1 - A2 m i)) % (m + 1)) i) = A2 m j := by
  rw [qq F hi, Nat.add_mod_mod, show A2 m i + (A2 m j + (m + 1 - A2 m i)) = A2 m j + (m + 1) by lia, Nat.add_mod_right]
  exact Nat.mod_eq_of_lt b
 have h1 := (F _ (qp hi ((A2 m j + (m + 1 - A2 m i)) % (m + 1)))).2.2
 rw [e, (F j hj).2.2] at h1
 exact (Option.some.inj h1).symm
def Msk (m : Nat) : Prop := m = 7 \/ m = 31 \/ m = 127
theorem Msk.full {m : Nat} (h : Msk m) : Full m := by
 rcases h with rfl | rfl | rfl
 ·exact full7
 ·exact full31
 ·exact full127
theorem xN (m : Nat) (h : Int) : ∀ k, (lp m h k).1 < m + 1
 | 0 => Nat.mod_lt _ (Nat.succ_pos m)
 | k + 1 => Nat.mod_lt _ (Nat.succ_pos m)
theorem kQ {m : Nat} (M : Msk m) (h : Int) {j : Nat} (hj : j <= m) : ∃ k, k <= 13 + m /\ (lp m h k).1 = j := by
 obtain ⟨k, hk, e⟩ := BU M.full (xN m h 13) (Nat.lt_succ_of_le hj)
 exact ⟨13 + k, by lia, (nh m h k).trans e⟩
theorem cover {m : Nat} (M : Msk m) (h : Int) {j : Nat} (hj : j <= m) : ∃ n, n < 10 * SetTable.turns m /\ sl m h n = j := by
 obtain ⟨k, hk, e⟩ := kQ M h hj
 obtain ⟨n, hn, en⟩ := tV m h k
 refine ⟨n, ?_, ?_⟩
 ·unfold SetTable.turns
  lia
 ·show (pt m h n).j = j
  rw [en]
  exact e
theorem BG {P : Nat -> Prop} [DecidablePred P] : ∀ n, P n -> ∃ k, k <= n /\ P k /\ ∀ c, c < k -> ¬ P c := by
 intro n
 induction n using Nat.strongRecOn with
 | _ n ih =>
  intro h
  by_cases z : ∃ c, c < n /\ P c
  ·obtain ⟨c, hc, pc⟩ := z
   obtain ⟨k, hk, r⟩ := ih c hc pc
   exact ⟨k, by lia, r⟩
  ·exact ⟨n, Nat.le_refl _, h, fun c hc pc => z ⟨c, hc, pc⟩⟩
theorem jx {α : Type} [DecidableEq α] : ∀ (l l' : List α), l.Nodup -> (∀ x ∈ l, x ∈ l') -> l.length <= l'.length
 | [], _, _, _ => Nat.zero_le _
 | a :: r, l', hn, hs => by
  rw [List.nodup_cons] at hn
  have ih := jx r (l'.erase a) hn.2 fun x hx => (List.mem_erase_of_ne (fun e : x = a => hn.1 (e ▸ hx))).mpr (hs x (List.mem_cons_of_mem _ hx))
  have ha : a ∈ l' := hs a List.mem_cons_self
  have := List.length_erase_of_mem ha
  have : 0 < l'.length := List.length_pos_of_mem ha
  rw [List.length_cons]
  lia
theorem mj {l : List Nat} (h : Rise l) : l.Nodup := List.Pairwise.imp (fun h => Nat.ne_of_lt h) h
theorem oD {l : List Nat} {m : Nat} (h : l.length <= m) : ∃ j, j <= m /\ j ∉ l := by
 by_cases z : ∃ j, j <= m /\ j ∉ l
 ·exact z
 ·exfalso
  have := jx (List.range (m + 1)) l List.nodup_range fun x hx => by
   by_cases y : x ∈ l
   ·exact y
   ·exact absurd ⟨x, by simpa [Nat.lt_succ_iff] using hx, y⟩ z
  rw [List.length_range] at this
  lia
theorem dE {t : SetTable} (h : Rise t.place.toList) {i j : Nat} (e : t.place[i]? = some j) : t.slot j = .live i := by
 have b := cZ h j
 have hi : i < t.place.size := (Array.getElem?_eq_some_iff.mp e).1
 have hr : SetTable.below t.place j = i := b.uniq ⟨Nat.le_of_lt hi, fun k x hk hx => dC h hk hx e, fun k x hk hx => by
  rcases Nat.lt_or_ge i k with z | z
  ·exact Nat.le_of_lt (dC h z e hx)
  ·have : k = i := by lia
   subst this
   rw [e] at hx
   cases hx
   exact Nat.le_refl _⟩
 unfold SetTable.slot
 dsimp only
 rw [hr, e]
 simp
theorem qr {t : SetTable} (hd : t.dummies = #[]) {j : Nat} (e : j ∉ t.place.toList) : t.slot j = .empty := by
 unfold SetTable.slot
 dsimp only
 rw [if_neg (fun z => by
  have z := eq_of_beq z
  exact e (by rw [<- Array.getElem?_toList] at z; exact List.mem_of_getElem? z)), hd]
 have : SetTable.has #[] j = false := by
  unfold SetTable.has
  simp
 rw [this]
 rfl
theorem qt {t : SetTable} {j : Nat} (h : j ∈ t.place.toList) : ∃ i : Nat, t.place[i]? = some j := by
 obtain ⟨i, hi, e⟩ := List.getElem_of_mem h
 exact ⟨i, by rw [<- Array.getElem?_toList, List.getElem?_eq_getElem hi, e]⟩
theorem j1 {t : SetTable} (hR : Rise t.place.toList) (hd : t.dummies = #[]) {hashAt : Nat -> Int} {h : Int} {n0 : Nat} (hE : sl t.mask h n0 ∉ t.place.toList) (hL : ∀ k, k < n0 -> sl t.mask h k ∈ t.place.toList) :
  ∀ (fuel n : Nat), n <= n0 -> n0 - n < fuel ->
   (∃ (k i : Nat), n <= k /\ k < n0 /\ t.place[i]? = some (sl t.mask h k) /\ hashAt i = h /\ SetTable.probe.go t hashAt h fuel (pt t.mask h n) = some (.candidate (sl t.mask h k) i (pt t.mask h (k + 1))) /\ ∀ (c i' : Nat), n <= c -> c < k -> t.place[i']? = some (sl t.mask h c) -> hashAt i' ≠ h)
   \/ (SetTable.probe.go t hashAt h fuel (pt t.mask h n) = some (.empty (sl t.mask h n0) none) /\ ∀ (c i' : Nat), n <= c -> c < n0 -> t.place[i']? = some (sl t.mask h c) -> hashAt i' ≠ h)
 | 0, n, _, h2 => by lia
 | fuel + 1, n, h1, h2 => by
  rcases Nat.lt_or_ge n n0 with z | z
  ·obtain ⟨i, ei⟩ := qt (hL n z)
   have es := dE hR ei
   have uniq : ∀ i' : Nat, t.place[i']? = some (sl t.mask h n) -> i' = i := fun i' e' => by
    have := (dE hR e').symm.trans es
    injection this
   by_cases c : hashAt i = h
   ·refine .inl ⟨n, i, Nat.le_refl _, z, ei, c, ?_, fun c' i' a b => by lia⟩
    unfold SetTable.probe.go
    rw [show t.slot (pt t.mask h n).j = .live i from es]
    dsimp only
    rw [if_pos (by simp [c]), hW]
    rfl
   ·have step : SetTable.probe.go t hashAt h (fuel + 1) (pt t.mask h n) = SetTable.probe.go t hashAt h fuel (pt t.mask h (n + 1)) := by
     rw [SetTable.probe.go]
     rw [show t.slot (pt t.mask h n).j = .live i from es]
     dsimp only
     rw [if_neg (by simp [c]), hW]
     rfl
    rw [step]
    have here : ∀ i' : Nat, t.place[i']? = some (sl t.mask h n) -> hashAt i' ≠ h := fun i' e' => by rw [uniq i' e']; exact c
    rcases j1 hR hd hE hL fuel (n + 1) z (by lia) with ⟨k, i2, a1, a2, a3, a4, a5, a6⟩ | ⟨a1, a2⟩
    ·refine .inl ⟨k, i2, by lia, a2, a3, a4, a5, fun c' i' b1 b2 b3 => ?_⟩
     rcases Nat.eq_or_lt_of_le b1 with q | q
     ·subst q; exact here i' b3
     ·exact a6 c' i' q b2 b3
    ·refine .inr ⟨a1, fun c' i' b1 b2 b3 => ?_⟩
     rcases Nat.eq_or_lt_of_le b1 with q | q
     ·subst q; exact here i' b3
     ·exact a2 c' i' q b2 b3
  ·have : n = n0 := by lia
   subst this
   refine .inr ⟨?_, fun c i' a b => by lia⟩
   unfold SetTable.probe.go
   rw [show t.slot (pt t.mask h n).j = .empty from qr hd hE]
   dsimp only
   rw [(qo t.mask h n).2.2]
structure HTab (led : Bool) (t : SetTable) (es : Array (Int × Value)) : Prop where
 tab : TabS led t
 msk : Msk t.mask
 sz : t.place.size = es.size
 room : es.size < t.mask
 inn : ∀ j ∈ t.place.toList, j <= t.mask
 way : ∀ (i j : Nat) (e : Int × Value), t.place[i]? = some j -> es[i]? = some e -> ∃ n, sl t.mask e.1 n = j /\ ∀ k, k < n -> sl t.mask e.1 k ∈ t.place.toList
theorem HTab.fits {led : Bool} {t : SetTable} {es : Array (Int × Value)} (x : HTab led t es) : t.fits es.size = true := by
 unfold SetTable.fits SetTable.fill
 rw [x.sz, x.tab.dum]
 have := x.room
 simp
 lia
theorem HTab.first {led : Bool} {t : SetTable} {es : Array (Int × Value)} (x : HTab led t es) (h : Int) : ∃ n0, n0 < 10 * SetTable.turns t.mask /\ sl t.mask h n0 ∉ t.place.toList /\ ∀ k, k < n0 -> sl t.mask h k ∈ t.place.toList := by
 obtain ⟨j, hj, hn⟩ := oD (l := t.place.toList) (m := t.mask) (by have := x.room; have := x.sz; simp; lia)
 obtain ⟨n, h1, h2⟩ := cover x.msk h hj
 obtain ⟨k, h3, h4, h5⟩ := BG (P := fun n => sl t.mask h n ∉ t.place.toList) n (by rw [h2]; exact hn)
 exact ⟨k, by lia, h4, fun c hc => Classical.not_not.mp (h5 c hc)⟩
theorem kR {α : Type} {xs : Array α} {p : Nat} {x : α} (hp : p <= xs.size) (i : Nat) : (SetTable.insertAt xs p x)[i]? = if i < p then xs[i]? else if i = p then some x else xs[i - 1]? := by
 rw [<- Array.getElem?_toList, SetTable.toList_insertAt]
 have hl : (xs.toList.take p).length = p := by rw [List.length_take, Array.length_toList]; lia
 split
 next c => rw [List.getElem?_append_left (by lia), List.getElem?_take, if_pos c, Array.getElem?_toList]
 next c =>
  rw [List.getElem?_append_right (by lia), hl]
  split
  next d => subst d; simp
  next d =>
   obtain ⟨k, rfl⟩ : ∃ k, i = p + k + 1 := ⟨i - p - 1, by lia⟩
   rw [show p + k + 1 - p = k + 1 by lia, List.getElem?_cons_succ, List.getElem?_drop, Array.getElem?_toList]
   rfl
theorem fG {α : Type} (xs : Array α) {p : Nat} (hp : p <= xs.size) (x : α) : (SetTable.insertAt xs p x).size = xs.size + 1 := by
 rw [<- Array.length_toList, SetTable.toList_insertAt]
 simp
 lia
theorem qu {α : Type} (xs : Array α) (p : Nat) (x y : α) : y ∈ (SetTable.insertAt xs p x).toList ↔ y = x \/ y ∈ xs.toList := by
 rw [SetTable.toList_insertAt, List.mem_append, List.mem_cons]
 constructor
 ·rintro (h | h | h)
  ·exact .inr (List.mem_of_mem_take h)
  ·exact .inl h
  ·exact .inr (List.mem_of_mem_drop h)
 ·rintro (h | h)
  ·exact .inr (.inl h)
  ·rw [<- List.take_append_drop p xs.toList, List.mem_append] at h
   rcases h with h | h
   ·exact .inl h
   ·exact .inr (.inr h)
theorem oE {α : Type} (xs : Array α) (p : Nat) (x : α) : (SetTable.insertAt xs p x).toList.Perm (xs.toList ++ [x]) := by
 rw [SetTable.toList_insertAt]
 refine List.perm_middle.trans ?_
 rw [List.take_append_drop]
 exact (List.perm_append_singleton x xs.toList).symm
theorem HTab.put {led : Bool} {t : SetTable} {es : Array (Int × Value)} (x : HTab led t es) {h : Int} {v : Value} {n0 : Nat} (hE : sl t.mask h n0 ∉ t.place.toList) (hL : ∀ k, k < n0 -> sl t.mask h k ∈ t.place.toList) (hr : es.size + 1 < t.mask) :
  HTab led (t.put (sl t.mask h n0)).1 (SetTable.insertAt es (SetTable.below t.place (sl t.mask h n0)) (h, v)) := by
 have hp : SetTable.below t.place (sl t.mask h n0) <= t.place.size := (cZ x.tab.rise _).le
 have hp2 : SetTable.below t.place (sl t.mask h n0) <= es.size := by rw [<- x.sz]; exact hp
 have hm : ∀ y, y ∈ (t.put (sl t.mask h n0)).1.place.toList ↔ y = sl t.mask h n0 \/ y ∈ t.place.toList := fun y => qu _ _ _ _
 refine ⟨vk x.tab hE, x.msk, ?_, ?_, fun j hj => ?_, fun i j e e1 e2 => ?_⟩
 ·show (SetTable.insertAt t.place _ _).size = _
  rw [fG _ hp, fG _ hp2, x.sz]
 ·rw [fG _ hp2]
  exact hr
 ·rcases (hm j).mp hj with z | z
  ·rw [z]; exact kP _ _ _
  ·exact x.inn j z
 ·have e1 : (SetTable.insertAt t.place (SetTable.below t.place (sl t.mask h n0)) (sl t.mask h n0))[i]? = some j := e1
  rw [kR hp] at e1
  rw [kR hp2] at e2
  have old : ∀ i' : Nat, t.place[i']? = some j -> es[i']? = some e -> ∃ n, sl (t.put (sl t.mask h n0)).1.mask e.1 n = j /\ ∀ k, k < n -> sl (t.put (sl t.mask h n0)).1.mask e.1 k ∈ (t.put (sl t.mask h n0)).1.place.toList := fun i' a b => by
   obtain ⟨n, n1, n2⟩ := x.way i' j e a b
   exact ⟨n, n1, fun k hk => (hm _).mpr (.inr (n2 k hk))⟩
  split at e1
  next c => rw [if_pos c] at e2; exact old i e1 e2
  next c =>
   rw [if_neg c] at e2
   split at e1
   next d =>
    rw [if_pos d] at e2
    cases e1
    cases e2
    exact ⟨n0, rfl, fun k hk => (hm _).mpr (.inr (hL k hk))⟩
   next d => rw [if_neg d] at e2; exact old _ e1 e2
abbrev Occ (owner : Array (Option Nat)) (j : Nat) : Prop := ∃ u : Nat, owner[j]? = some (some u)
theorem kT {m : Nat} {owner : Array (Option Nat)} (hsz : owner.size = m + 1) {h : Int} : ∀ (fuel k0 k1 n : Nat), pt m h n = atL m (lp m h k0) -> (∀ c, c < n -> Occ owner (sl m h c)) -> k0 <= k1 -> k1 - k0 < fuel -> owner[(lp m h k1).1]? = some none ->
  ∃ n', SetTable.layClean.free m owner fuel (lp m h k0).1 (lp m h k0).2 = some (sl m h n') /\ owner[sl m h n']? = some none /\ ∀ c, c < n' -> Occ owner (sl m h c)
 | 0, k0, k1, n, _, _, _, h4, _ => by lia
 | fuel + 1, k0, k1, n, e, ho, hk, hf, hn => by
  have run := mi e
  have hin : ∀ c, c < SetTable.runEnd m (lp m h k0).1 + 1 - (lp m h k0).1 -> sl m h (n + c) = (lp m h k0).1 + c := fun c hc => by
   show (pt m h (n + c)).j = _
   rw [run c (by have := bN m (lp m h k0).1; lia)]
  have occ : ∀ j, j <= m -> (owner.getD j (some 0)).isNone = false -> Occ owner j := fun j hj hq => by
   have e1 : owner[j]? = some owner[j] := Array.getElem?_eq_getElem (by lia)
   have e2 : owner.getD j (some 0) = owner[j] := by simp [Array.getD, show j < owner.size by lia]
   rw [e2] at hq
   cases z : owner[j] with
   | none => rw [z] at hq; cases hq
   | some u => exact ⟨u, by rw [e1, z]⟩
  unfold SetTable.layClean.free
  cases hfd : (List.range (SetTable.runEnd m (lp m h k0).1 + 1 - (lp m h k0).1)).find? fun k => (owner.getD ((lp m h k0).1 + k) (some 0)).isNone with
  | some k =>
   dsimp only
   obtain ⟨h1, h2, h3⟩ := List.find?_range_eq_some.mp hfd
   have hk' := List.mem_range.mp h2
   refine ⟨n + k, by rw [hin k hk'], ?_, fun c hc => ?_⟩
   ·rw [hin k hk']
    have hj : (lp m h k0).1 + k <= m := by rw [<- hin k hk']; exact kP _ _ _
    have e1 : owner[(lp m h k0).1 + k]? = some owner[(lp m h k0).1 + k] := Array.getElem?_eq_getElem (by lia)
    have e2 : owner.getD ((lp m h k0).1 + k) (some 0) = owner[(lp m h k0).1 + k] := by simp [Array.getD, show (lp m h k0).1 + k < owner.size by lia]
    rw [e2] at h1
    rw [e1, Option.isNone_iff_eq_none.mp h1]
   ·rcases Nat.lt_or_ge c n with z | z
    ·exact ho c z
    ·obtain ⟨d, rfl⟩ : ∃ d, c = n + d := ⟨c - n, by lia⟩
     have hd : d < SetTable.runEnd m (lp m h k0).1 + 1 - (lp m h k0).1 := by lia
     rw [hin d hd]
     have := h3 d (by lia)
     refine occ _ (by rw [<- hin d hd]; exact kP _ _ _) ?_
     simpa using this
  | none =>
   dsimp only
   have hall := List.find?_range_eq_none.mp hfd
   have hall' : ∀ d, d < SetTable.runEnd m (lp m h k0).1 + 1 - (lp m h k0).1 -> Occ owner (sl m h (n + d)) := fun d hd => by
    rw [hin d hd]
    refine occ _ (by rw [<- hin d hd]; exact kP _ _ _) ?_
    simpa using hall d hd
   have hne : k0 ≠ k1 := fun z => by
    subst z
    obtain ⟨u, eu⟩ := hall' 0 (by have := bN m (lp m h k0).1; lia)
    rw [hin 0 (by have := bN m (lp m h k0).1; lia)] at eu
    rw [Nat.add_zero, hn] at eu
    cases eu
   refine kT hsz fuel (k0 + 1) k1 (n + (SetTable.runEnd m (lp m h k0).1 - (lp m h k0).1) + 1) (nc e) (fun c hc => ?_) (by lia) (by lia) hn
   rcases Nat.lt_or_ge c n with z | z
   ·exact ho c z
   ·obtain ⟨d, rfl⟩ : ∃ d, c = n + d := ⟨c - n, by lia⟩
    exact hall' d (by have := bN m (lp m h k0).1; lia)
structure Own (m : Nat) (hs : List Int) (owner : Array (Option Nat)) (k : Nat) : Prop where
 size : owner.size = m + 1
 way : ∀ (j v : Nat), owner[j]? = some (some v) -> v < k /\ ∃ (h : Int) (n : Nat), hs[v]? = some h /\ sl m h n = j /\ ∀ c, c < n -> Occ owner (sl m h c)
 all : ∀ v, v < k -> ∃ j : Nat, owner[j]? = some (some v)
 inj : ∀ (j j' v : Nat), owner[j]? = some (some v) -> owner[j']? = some (some v) -> j = j'
theorem Own.free {m : Nat} {hs : List Int} {owner : Array (Option Nat)} {k : Nat} (x : Own m hs owner k) (hk : k <= m) : ∃ j : Nat, j <= m /\ owner[j]? = some none := by
 by_cases z : ∃ j : Nat, j <= m /\ owner[j]? = some none
 ·exact z
 ·exfalso
  have occ : ∀ j (hj : j < owner.size), ∃ v, owner[j]? = some (some v) := fun j hj => by
   have e1 : owner[j]? = some owner[j] := Array.getElem?_eq_getElem hj
   cases q : owner[j] with
   | none => exact absurd ⟨j, by have := x.size; lia, by rw [e1, q]⟩ z
   | some u => exact ⟨u, by rw [e1, q]⟩
  have nd : owner.toList.Nodup := by
   refine List.pairwise_iff_getElem.mpr fun i j hi hj hij e => ?_
   have hi' : i < owner.size := by simpa using hi
   have hj' : j < owner.size := by simpa using hj
   obtain ⟨v, ev⟩ := occ i hi'
   obtain ⟨u, eu⟩ := occ j hj'
   have a1 : owner.toList[i]? = some (some v) := by rw [Array.getElem?_toList]; exact ev
   have a2 : owner.toList[j]? = some (some u) := by rw [Array.getElem?_toList]; exact eu
   rw [List.getElem?_eq_getElem hi] at a1
   rw [List.getElem?_eq_getElem hj, <- e] at a2
   have : v = u := by
    have := a1.symm.trans a2
    simpa using this
   subst this
   have := x.inj i j v ev eu
   lia
  have := jx owner.toList ((List.range k).map some) nd fun y hy => by
   obtain ⟨i, hi, e⟩ := List.getElem_of_mem hy
   obtain ⟨v, ev⟩ := occ i (by simpa using hi)
   have hv := (x.way i v ev).1
   have : y = some v := by
    rw [<- Array.getElem?_toList, List.getElem?_eq_getElem hi, e] at ev
    exact Option.some.inj ev
   subst this
   exact List.mem_map.mpr ⟨v, List.mem_range.mpr hv, rfl⟩
  rw [List.length_map, List.length_range, Array.length_toList, x.size] at this
  lia
theorem Own.step {m : Nat} (M : Msk m) {hs : List Int} {owner : Array (Option Nat)} {k : Nat} (x : Own m hs owner k) (hk : k <= m) {h : Int} (eh : hs[k]? = some h) :
  ∃ j, SetTable.layClean.free m owner (SetTable.turns m) (SetTable.bits h % (m + 1)) (SetTable.bits h) = some j /\ Own m hs (owner.setIfInBounds j (some k)) (k + 1) := by
 obtain ⟨j0, hj0, e0⟩ := x.free hk
 obtain ⟨k1, hk1, e1⟩ := kQ M h hj0
 obtain ⟨n, f1, f2, f3⟩ := kT x.size (h := h) (SetTable.turns m) 0 k1 0 rfl (fun c hc => by lia) (Nat.zero_le _) (by unfold SetTable.turns; lia) (by rw [e1]; exact e0)
 refine ⟨sl m h n, f1, ?_⟩
 have hs' : sl m h n < owner.size := by have := kP m h n; have := x.size; lia
 have get : ∀ j : Nat, (owner.setIfInBounds (sl m h n) (some k))[j]? = if sl m h n = j then some (some k) else owner[j]? := fun j => by
  rw [Array.getElem?_setIfInBounds]
  split
  next z => subst z; simp [hs']
  next z => rfl
 have more : ∀ j, Occ owner j -> Occ (owner.setIfInBounds (sl m h n) (some k)) j := fun j ⟨u, eu⟩ => by
  rw [Occ, get]
  split
  ·exact ⟨k, rfl⟩
  ·exact ⟨u, eu⟩
 refine ⟨by simp [x.size], fun j v e => ?_, fun v hv => ?_, fun j j' v e e' => ?_⟩
 ·rw [get] at e
  split at e
  next z =>
   cases e
   exact ⟨Nat.lt_succ_self _, h, n, eh, z, fun c hc => more _ (f3 c hc)⟩
  next z =>
   obtain ⟨a, h', n', b1, b2, b3⟩ := x.way j v e
   exact ⟨Nat.lt_succ_of_lt a, h', n', b1, b2, fun c hc => more _ (b3 c hc)⟩
 ·rcases Nat.lt_or_ge v k with z | z
  ·obtain ⟨j, e⟩ := x.all v z
   refine ⟨j, ?_⟩
   rw [get]
   split
   next q => subst q; rw [f2] at e; cases e
   next => exact e
  ·have : v = k := by lia
   subst this
   exact ⟨sl m h n, by rw [get, if_pos rfl]⟩
 ·rw [get] at e e'
  split at e
  next z =>
   cases e
   split at e'
   next z' => exact z.symm.trans z'
   next z' => have := (x.way j' k e').1; lia
  next z =>
   split at e'
   next z' =>
    cases e'
    have := (x.way j k e).1
    lia
   next z' => exact x.inj j j' v e e'
theorem kU {m : Nat} (M : Msk m) (hs : List Int) (hm : hs.length <= m) : ∀ (rest : List Int) (owner : Array (Option Nat)) (k : Nat), hs.drop k = rest -> k + rest.length = hs.length -> Own m hs owner k ->
  ∃ owner', rest.foldl (fun (acc : Option (Array (Option Nat) × Nat)) h => do
   let (owner, k) <- acc
   let j <- SetTable.layClean.free m owner (SetTable.turns m) (SetTable.bits h % (m + 1)) (SetTable.bits h)
   pure (owner.setIfInBounds j (some k), k + 1)) (some (owner, k)) = some (owner', hs.length) /\ Own m hs owner' hs.length
 | [], owner, k, e, hl, x => by
  have : k = hs.length := by simpa using hl
  subst this
  exact ⟨owner, rfl, x⟩
 | h :: rest, owner, k, e, hl, x => by
  have eh : hs[k]? = some h := by
   have : (hs.drop k)[0]? = some h := by rw [e]; rfl
   rw [List.getElem?_drop] at this
   exact this
  rw [List.length_cons] at hl
  obtain ⟨j, f, x'⟩ := x.step M (by lia) eh
  obtain ⟨o', a, b⟩ := kU M hs hm rest _ (k + 1) (by rw [<- List.drop_drop, e]; rfl) (by lia) x'
  refine ⟨o', ?_, b⟩
  rw [List.foldl_cons]
  show List.foldl _ (do
   let j <- SetTable.layClean.free m owner (SetTable.turns m) (SetTable.bits h % (m + 1)) (SetTable.bits h)
   pure (owner.setIfInBounds j (some k), k + 1)) rest = _
  rw [f]
  exact a
theorem oF {m : Nat} (M : Msk m) (hs : Array Int) (hm : hs.size <= m) : ∃ owner, SetTable.layClean m hs = some owner /\ Own m hs.toList owner hs.size := by
 have nne : ∀ (j v : Nat), ¬ (Array.replicate (m + 1) (none : Option Nat))[j]? = some (some v) := fun j v e => by
  rw [Array.getElem?_replicate] at e
  split at e
  ·cases e
  ·cases e
 obtain ⟨o', a, b⟩ := kU M hs.toList (by simpa using hm) hs.toList (Array.replicate (m + 1) none) 0 rfl (by simp) ⟨by simp, fun j v e => absurd e (nne j v), fun v hv => by lia, fun j j' v e e' => absurd e (nne j v)⟩
 refine ⟨o', ?_, by simpa using b⟩
 unfold SetTable.layClean
 rw [<- Array.foldl_toList, a]
 rfl
noncomputable def zX (m : Nat) (owner : Array (Option Nat)) : List (Nat × Nat) := (List.range (m + 1)).filterMap fun j => (owner.getD j none).map (j, ·)
theorem qv {m : Nat} {owner : Array (Option Nat)} (hs : owner.size = m + 1) {j v : Nat} : (j, v) ∈ zX m owner ↔ owner[j]? = some (some v) := by
 unfold zX
 rw [List.mem_filterMap]
 constructor
 ·rintro ⟨a, ha, e⟩
  have hb : a < owner.size := by rw [hs]; simpa using ha
  have e2 : owner.getD a none = owner[a] := by simp [Array.getD, hb]
  rw [e2] at e
  cases q : owner[a] with
  | none => rw [q] at e; cases e
  | some u =>
   rw [q] at e
   cases e
   rw [Array.getElem?_eq_getElem hb, q]
 ·intro e
  obtain ⟨hj, ej⟩ := Array.getElem?_eq_some_iff.mp e
  refine ⟨j, by rw [List.mem_range]; lia, ?_⟩
  have e2 : owner.getD j none = owner[j] := by simp [Array.getD, hj]
  rw [e2, ej]
  rfl
theorem oG {l : List (Nat × Nat)} {i j v : Nat} (h1 : (l.map (·.1))[i]? = some j) (h2 : (l.map (·.2))[i]? = some v) : (j, v) ∈ l := by
 rw [List.getElem?_map] at h1 h2
 cases e : l[i]? with
 | none => rw [e] at h1; cases h1
 | some p =>
  rw [e] at h1 h2
  have a : p.1 = j := Option.some.inj h1
  have b : p.2 = v := Option.some.inj h2
  rw [<- a, <- b]
  exact List.mem_of_getElem? e
theorem oH {m finger moves : Nat} {led plain : Bool} (M : Msk m) {es : Array (Int × Value)} (hm : es.size < m) :
  ∃ t order, SetTable.laid m finger moves led plain (es.map (·.1)) = some (t, order) /\ (order.filterMap (es[·]?)).size = es.size /\ (order.filterMap (es[·]?)).toList.Perm es.toList /\ HTab led t (order.filterMap (es[·]?)) /\ t.mask = m /\ t.plain = plain := by
 obtain ⟨owner, e1, x⟩ := oF M (es.map (·.1)) (by simp; lia)
 rw [Array.size_map] at x
 have el : SetTable.laid m finger moves led plain (es.map (·.1)) = some ({ mask := m, place := ((zX m owner).map (·.1)).toArray, dummies := #[], finger, led, moves, plain }, ((zX m owner).map (·.2)).toArray) := by
  unfold SetTable.laid
  rw [e1]
  rfl
 have tab := sG el
 have hmem : ∀ j v, (j, v) ∈ zX m owner ↔ owner[j]? = some (some v) := fun j v => qv x.size
 have o1 : ∀ v ∈ (zX m owner).map (·.2), v < es.size := fun v hv => by
  obtain ⟨⟨j, u⟩, hp, rfl⟩ := List.mem_map.mp hv
  exact (x.way j u ((hmem j u).mp hp)).1
 have nd1 : (zX m owner).Nodup := by
  have : ((zX m owner).map (·.1)).Nodup := by
   have h := mj tab.rise
   simpa using h
  exact List.Pairwise.imp (fun {a b} h (e : a = b) => h (congrArg (·.1) e)) (List.pairwise_map.mp this)
 have o2 : ((zX m owner).map (·.2)).Nodup := by
  refine List.pairwise_map.mpr (List.Pairwise.imp_of_mem (R := fun a b => a ≠ b) (fun {a b} ha hb hne e => ?_) nd1)
  obtain ⟨j, v⟩ := a
  obtain ⟨j', v'⟩ := b
  dsimp only at e
  subst e
  have := x.inj j j' v ((hmem _ _).mp ha) ((hmem _ _).mp hb)
  subst this
  exact hne rfl
 have o3 : ((zX m owner).map (·.2)).Perm (List.range es.size) := (List.perm_ext_iff_of_nodup o2 List.nodup_range).mpr fun v => by
  rw [List.mem_range]
  refine ⟨o1 v, fun hv => ?_⟩
  obtain ⟨j, e⟩ := x.all v hv
  exact List.mem_map.mpr ⟨(j, v), (hmem j v).mpr e, rfl⟩
 have fm : ((((zX m owner).map (·.2)).toArray.filterMap (es[·]?))).toList = ((zX m owner).map (·.2)).map fun v => es[v]?.getD (0, .none) := by
  rw [Array.toList_filterMap, List.toList_toArray]
  have : ∀ l : List Nat, (∀ v ∈ l, v < es.size) -> l.filterMap (es[·]?) = l.map fun v => es[v]?.getD (0, .none) := by
   intro l
   induction l with
   | nil => intro _; rfl
   | cons a r ih =>
    intro h
    have ha := h a List.mem_cons_self
    rw [List.filterMap_cons, Array.getElem?_eq_getElem ha, List.map_cons, ih fun v hv => h v (List.mem_cons_of_mem _ hv)]
    simp [ha]
  exact this _ o1
 have perm : ((((zX m owner).map (·.2)).toArray.filterMap (es[·]?))).toList.Perm es.toList := by
  rw [fm]
  refine (o3.map _).trans ?_
  have : (List.range es.size).map (fun p => es[p]?.getD (0, .none)) = es.toList := by
   apply List.ext_getElem?
   intro k
   rw [List.getElem?_map]
   by_cases hk : k < es.size
   ·rw [List.getElem?_range hk]
    simp [hk]
   ·rw [List.getElem?_eq_none (by simpa using hk), List.getElem?_eq_none (by simpa using hk)]
    rfl
  rw [this]
 have size : ((((zX m owner).map (·.2)).toArray.filterMap (es[·]?))).size = es.size := by
  have := perm.length_eq
  simpa using this
 have occ : ∀ j, Occ owner j -> j ∈ ((zX m owner).map (·.1)) := fun j ⟨u, eu⟩ => List.mem_map.mpr ⟨(j, u), (hmem j u).mpr eu, rfl⟩
 refine ⟨_, _, el, size, perm, ⟨tab, M, ?_, by rw [size]; exact hm, fun j hj => ?_, fun i j e a b => ?_⟩, rfl, rfl⟩
 ·show ((zX m owner).map (·.1)).toArray.size = _
  rw [size]
  have := o3.length_eq
  rw [List.length_range] at this
  simpa using this
 ·have hj : j ∈ ((zX m owner).map (·.1)).toArray.toList := hj
  rw [List.toList_toArray] at hj
  obtain ⟨⟨j', u⟩, hp, rfl⟩ := List.mem_map.mp hj
  have := (Array.getElem?_eq_some_iff.mp ((hmem j' u).mp hp)).1
  rw [x.size] at this
  exact Nat.le_of_lt_succ this
 ·have a : ((zX m owner).map (·.1))[i]? = some j := by
   have a : ((zX m owner).map (·.1)).toArray[i]? = some j := a
   rwa [List.getElem?_toArray] at a
  rw [<- Array.getElem?_toList, fm, List.getElem?_map] at b
  cases q : ((zX m owner).map (·.2))[i]? with
  | none => rw [q] at b; cases b
  | some v =>
   rw [q] at b
   have hv := o1 v (List.mem_of_getElem? q)
   have ee : es[v]?.getD (0, .none) = e := Option.some.inj b
   obtain ⟨_, h, n, b1, b2, b3⟩ := x.way j v ((hmem j v).mp (oG a q))
   have hh : h = e.1 := by
    rw [Array.getElem?_toList, Array.getElem?_map, Array.getElem?_eq_getElem hv] at b1
    rw [Array.getElem?_eq_getElem hv] at ee
    have : es[v].1 = h := Option.some.inj b1
    rw [<- this, <- ee]
    rfl
   subst hh
   refine ⟨n, b2, fun k hk => ?_⟩
   show _ ∈ ((zX m owner).map (·.1)).toArray.toList
   rw [List.toList_toArray]
   exact occ _ (b3 k hk)
noncomputable def TupI (h : Heap) (ks : List Int) (a : Addr) : Prop := ∃ o items n, h.get? a = some o /\ o.cls = .type "tuple" /\ o.data = .seq items n /\ IntsAre items.toList ks
noncomputable def hT (ks : List Int) : Int := reduceHash (Builtin.Tuple.tupleHashOf (ks.map hashInt))
section
variable {prog : Program} {w : World} {A : Around} {E : zu} {s : Shared}
theorem Be (prog : Program) (w : World) {vs : List Value} {ks : List Int} (h : IntsAre vs ks) : ItemsAre (intKind prog w) ks vs := by
 induction h with
 | nil => exact .nil
 | cons n t _ ih => exact .cons (intKind_is _ _ _ _) ih
theorem TupI.key (prog : Program) (w : World) {h : Heap} {ks : List Int} {a : Addr} (x : TupI h ks a) : IsTupleKey (intKind prog w) h ks a := let ⟨o, items, n, h1, h2, h3, h4⟩ := x; ⟨o, items, n, h1, h2, h3, Be prog w h4⟩
theorem TupI.ty {ks : List Int} {a : Addr} (x : TupI s.heap ks a) : s.TypeIs (.ref a) "tuple" := let ⟨o, _, _, ho, hc, _⟩ := x; ⟨o, ho, hc⟩
theorem TupI.keep {h h' : Heap} {ks : List Int} {a : Addr} (x : TupI h ks a) (k : ∀ o, h.get? a = some o -> h'.get? a = some o) : TupI h' ks a := let ⟨o, i, n, ho, r⟩ := x; ⟨o, i, n, k o ho, r⟩
theorem qw {ks : List Int} {a : Addr} {Q : Int -> Shared -> Prop} (hu : A.units < cLine) (x : TupI s.heap ks a) (h : Q (hT ks) { s with toks := s.toks + (ks.length + 1) }) : wpAny (model prog w) A (pyHash (.ref a)) Q E s :=
 wpAny_pyHash_tuple hu (x.key prog w) h
theorem oI (d : Nat) (k : Int) (t : Tok) : ofAClassStatement d (.int k t) = pure false := by unfold ofAClassStatement; rfl
theorem j2 {ks : List Int} {a : Addr} {Q : Bool -> Shared -> Prop} (x : TupI s.heap ks a) (h : Q false s) : wpAny (model prog w) A (ofAClassStatement 8 (.ref a)) Q E s := by
 have hT := x.ty
 obtain ⟨o, items, n, ho, hc, hd, hi⟩ := x
 unfold ofAClassStatement
 refine wpAny_bind (wpAny_typeOf hT ?_)
 dsimp only
 rw [if_pos (show (("tuple" : String) == "tuple") = true from rfl)]
 refine wpAny_bind (wpAny_pure ?_)
 rw [if_neg (show ¬ (!true) = true by decide)]
 refine wpAny_bind (wpAny_seqItems ho hd ?_)
 dsimp only
 refine wpAny_bind ?_
 refine forIn_array_ _ (fun rest r s' => r.1 = none /\ s' = s /\ ∃ ns, IntsAre rest ns) _ ?_ ?_ _ _ ⟨rfl, rfl, ks, hi⟩
 ·rintro v rest r s' ⟨hr, rfl, ns, hall⟩
  cases hall with
  | cons k t hr' =>
   rw [oI]
   refine wpAny_bind (wpAny_pure ?_)
   simp only [Bool.false_eq_true, if_false]
   exact wpAny_pure ⟨rfl, rfl, _, hr'⟩
 ·rintro ⟨r1, r2⟩ s' ⟨hr, rfl, _⟩
  simp only at hr
  subst hr
  exact wpAny_pure h
theorem sL (d : Nat) (k : Int) (t : Tok) : hashByValue d (.int k t) = pure true := by cases d <;> rfl
theorem sM {ks : List Int} {a : Addr} {Q : Bool -> Shared -> Prop} (x : TupI s.heap ks a) (h : Q true s) : wpAny (model prog w) A (hashByValue 8 (.ref a)) Q E s := by
 have hT := x.ty
 obtain ⟨o, items, n, ho, hc, hd, hi⟩ := x
 unfold hashByValue
 refine wpAny_bind (wpAny_specialOf hT F.slot_tuple_hash.lookup ?_)
 dsimp only
 refine wpAny_bind (wpAny_seqItems ho hd ?_)
 dsimp only [Option.getD]
 refine wpAny_bind ?_
 refine forIn_array_ _ (fun rest r s' => r.1 = none /\ s' = s /\ ∃ ns, IntsAre rest ns) _ ?_ ?_ _ _ ⟨rfl, rfl, ks, hi⟩
 ·rintro v rest r s' ⟨hr, rfl, ns, hall⟩
  cases hall with
  | cons k t hr' =>
   rw [sL]
   refine wpAny_bind (wpAny_pure ?_)
   simp only [Bool.not_true, Bool.false_eq_true, if_false]
   exact wpAny_pure ⟨rfl, rfl, _, hr'⟩
 ·rintro ⟨r1, r2⟩ s' ⟨hr, rfl, _⟩
  simp only at hr
  subst hr
  exact wpAny_pure h
theorem qx {ks : List Int} {b : Addr} {stored : List Value} {Q : Bool -> Shared -> Prop} (x : TupI s.heap ks b) (hs : ∀ v ∈ stored, ∃ c ms, v = .ref c /\ TupI s.heap ms c) (h : Q false s) : wpAny (model prog w) A (searchCouldBeSeen (.ref b) stored) Q E s := by
 unfold searchCouldBeSeen
 refine wpAny_bind ?_
 refine wpAny_forIn_list _ (fun rest r s' => r.1 = none /\ s' = s /\ ∀ v ∈ rest, ∃ c ms, v = .ref c /\ TupI s.heap ms c) _ ?_ ?_ _ _ ⟨rfl, rfl, hs⟩
 ·rintro v rest r s' ⟨hr, rfl, hall⟩
  obtain ⟨c, ms, rfl, y⟩ := hall v List.mem_cons_self
  have rest' : ∀ v ∈ rest, ∃ c ms, v = .ref c /\ TupI s'.heap ms c := fun v hv => hall v (List.mem_cons_of_mem _ hv)
  dsimp only
  split
  next => exact wpAny_pure ⟨rfl, rfl, rest'⟩
  next =>
   refine wpAny_bind (wpAny_eqIsQuiet_tuple (x.key prog w) ?_)
   simp only [Bool.not_true, Bool.false_eq_true, if_false]
   refine wpAny_bind (wpAny_eqIsQuiet_tuple (y.key prog w) ?_)
   simp only [Bool.not_true, Bool.false_eq_true, if_false]
   refine wpAny_bind (j2 x ?_)
   simp only [Bool.false_eq_true, if_false]
   refine wpAny_bind (j2 y ?_)
   simp only [Bool.false_eq_true, if_false]
   exact wpAny_pure ⟨rfl, rfl, rest'⟩
 ·rintro ⟨r1, r2⟩ s' ⟨hr, rfl, _⟩
  simp only at hr
  subst hr
  exact wpAny_pure h
abbrev entT (κ : Addr -> List Int) (b : Addr) : Int × Value := (hT (κ b), .ref b)
theorem j3 {a : Addr} {o : Obj} {es : Array (Int × Value)} {ep : Nat} {t : SetTable} {led : Bool} {κ : Addr -> List Int} {L : List Addr} {b : Addr} (hu : A.units < cLine) (ho : s.heap.get? a = some o) (hd : o.data = .set es ep t) (x : HTab led t es) (hp : es.toList.Perm (L.map (entT κ)))
  (tb : TupI s.heap (κ b) b) (tl : ∀ c ∈ L, TupI s.heap (κ c) c) {n0 : Nat} (hn0 : n0 < 10 * SetTable.turns t.mask) (hE : sl t.mask (hT (κ b)) n0 ∉ t.place.toList) (hL : ∀ k, k < n0 -> sl t.mask (hT (κ b)) k ∈ t.place.toList) {Q : SetFound -> Shared -> Prop} :
  ∀ (fuel n : Nat) (stand : Option SetTable.Probe), n <= n0 -> n0 - n < fuel -> stand.getD (t.probeStart (hT (κ b))) = pt t.mask (hT (κ b)) n ->
   ((∃ (k i : Nat) (c : Addr), n <= k /\ k < n0 /\ t.place[i]? = some (sl t.mask (hT (κ b)) k) /\ es[i]? = some (entT κ c) /\ κ c = κ b) -> Q (.there none) s) ->
   ((¬ ∃ (k i : Nat) (c : Addr), n <= k /\ k < n0 /\ t.place[i]? = some (sl t.mask (hT (κ b)) k) /\ es[i]? = some (entT κ c) /\ κ c = κ b) -> Q (.free (sl t.mask (hT (κ b)) n0) false) s) ->
   wpAny (model prog w) A (setSearchFrom a (.ref b) (hT (κ b)) true fuel stand) Q E s
 | 0, n, _, _, h2, _, _, _ => by lia
 | fuel + 1, n, stand, h1, h2, hst, qy, qn => by
  have hgw : t.gaveWay = false := by
   unfold SetTable.gaveWay
   rcases x.msk with e | e | e <;> rw [e] <;> rfl
  have ent : ∀ (i : Nat) (e : Int × Value), es[i]? = some e -> ∃ c ∈ L, e = entT κ c := fun i e he => by
   have hm : e ∈ es.toList := by rw [<- Array.getElem?_toList] at he; exact List.mem_of_getElem? he
   obtain ⟨c, hc, rfl⟩ := List.mem_map.mp (hp.mem_iff.mp hm)
   exact ⟨c, hc, rfl⟩
  have at_place : ∀ (i j : Nat), t.place[i]? = some j -> ∃ c ∈ L, es[i]? = some (entT κ c) := fun i j e => by
   have hi : i < es.size := by rw [<- x.sz]; exact (Array.getElem?_eq_some_iff.mp e).1
   obtain ⟨c, hc, ec⟩ := ent i es[i] (Array.getElem?_eq_getElem hi)
   exact ⟨c, hc, by rw [Array.getElem?_eq_getElem hi, ec]⟩
  unfold setSearchFrom
  refine wpAny_bind (wpAny_setState_of ho hd x.fits ?_)
  dsimp only
  rw [hgw]
  simp only [Bool.false_eq_true, if_false]
  rw [hst]
  have PR := j1 x.tab.rise x.tab.dum (hashAt := fun i => (es[i]?.map (·.1)).getD 0) hE hL (10 * SetTable.turns t.mask) n h1 (by lia)
  rcases PR with ⟨k, i, a1, a2, a3, a4, a5, a6⟩ | ⟨a1, a2⟩
  ·obtain ⟨c, hc, ec⟩ := at_place i _ a3
   have hsl := dE x.tab.rise a3
   have e5 : t.probe (fun i => (es[i]?.map (·.1)).getD 0) (hT (κ b)) (pt t.mask (hT (κ b)) n) = some (.candidate (sl t.mask (hT (κ b)) k) i (pt t.mask (hT (κ b)) (k + 1))) := a5
   have go : wpAny (model prog w) A (do
     let some (_, y) := es[i]? | unsupported "internal:set-entry"
     let equal <- holding [y] (eqBool y (.ref b))
     let (es', _, t') <- setState a
     if true && equal then return .there none
     let some same := t'.sameMemory t.moves t.mask | unsupported "set.changed-during-lookup:is-the-new-block-at-the-old-address"
     let still <- match (if same then t'.slot (sl t.mask (hT (κ b)) k) else .empty) with
      | .live i' => match es'[i']? with
       | some (_, y') => do pure (if <- isSame y' y then some i' else none)
       | none => pure none
      | _ => pure none
     match still with
     | none => rule "set.search.anew"; setSearchFrom a (.ref b) (hT (κ b)) true fuel none
     | some i' => if equal then return .there (some i') else setSearchFrom a (.ref b) (hT (κ b)) true fuel (some (pt t.mask (hT (κ b)) (k + 1)))) Q E s := by
    rw [ec]
    dsimp only
    refine wpAny_bind (wpAny_holding (wpAny_eqBool_tuple hu ((tl c hc).key prog w) (tb.key prog w) ?_))
    refine wpAny_bind (wpAny_setState_of ho hd x.fits ?_)
    dsimp only
    by_cases hk : κ c = κ b
    ·rw [decide_eq_true hk]
     simp only [Bool.and_self, if_true]
     exact wpAny_pure (qy ⟨k, i, c, a1, a2, a3, ec, hk⟩)
    ·rw [decide_eq_false hk]
     have hsm : t.sameMemory t.moves t.mask = some true := by
      unfold SetTable.sameMemory
      simp
     rw [hsm]
     simp only [Bool.and_false, Bool.false_eq_true, if_false, if_true]
     rw [hsl]
     dsimp only
     rw [ec]
     dsimp only
     refine wpAny_bind (wpAny_isSame_ref_self (wpAny_bind (wpAny_pure ?_)))
     simp only [if_true]
     refine j3 hu ho hd x hp tb tl hn0 hE hL fuel (k + 1) _ a2 (by lia) rfl (fun ⟨k', i', c', b1, b2, b3⟩ => qy ⟨k', i', c', by lia, b2, b3⟩) (fun hno => qn fun ⟨k', i', c', b1, b2, b3, b4, b5⟩ => ?_)
     rcases Nat.lt_trichotomy k' k with z | z | z
     ·refine a6 k' i' b1 z b3 ?_
      show (es[i']?.map (·.1)).getD 0 = _
      rw [b4]
      show hT (κ c') = _
      rw [b5]
     ·subst z
      have hii : i' = i := by
       have := (dE x.tab.rise b3).symm.trans hsl
       injection this
      subst hii
      rw [ec] at b4
      have := Option.some.inj b4
      have : c = c' := by
       have := congrArg Prod.snd this
       injection this
      subst this
      exact hk b5
     ·exact hno ⟨k', i', c', z, b2, b3, b4, b5⟩
   split
   next met z =>
    have : met = _ := Option.some.inj (z.symm.trans e5)
    subst this
    dsimp only
    split
    next hl =>
     refine wpAny_bind (qx tb (fun v hv => ?_) ?_)
     ·obtain ⟨e, he, rfl⟩ := List.mem_map.mp hv
      have hm : e ∈ es.toList := by
       have := (Array.mem_filter.mp (Array.mem_def.mpr he)).1
       exact Array.mem_def.mp this
      obtain ⟨c', hc', rfl⟩ := List.mem_map.mp (hp.mem_iff.mp hm)
      exact ⟨c', κ c', rfl, tl c' hc'⟩
     ·exact go
    next hl =>
     exact go
   next z => exact (z _ e5).elim
  ·have e1 : t.probe (fun i => (es[i]?.map (·.1)).getD 0) (hT (κ b)) (pt t.mask (hT (κ b)) n) = some (.empty (sl t.mask (hT (κ b)) n0) none) := a1
   split
   next met z =>
    have : met = _ := Option.some.inj (z.symm.trans e1)
    subst this
    dsimp only
    refine wpAny_pure (qn fun ⟨k', i', c', b1, b2, b3, b4, b5⟩ => ?_)
    refine a2 k' i' b1 b2 b3 ?_
    show (es[i']?.map (·.1)).getD 0 = _
    rw [b4]
    show hT (κ c') = _
    rw [b5]
   next z => exact (z _ e1).elim
end
noncomputable def SXT (w : World) (κ : Addr -> List Int) (h : Heap) (a : Addr) (L : List Addr) : Prop :=
 ∃ o es ep t, h.get? a = some o /\ o.ExactSet /\ o.data = .set es ep t /\ es.toList.Perm (L.map (entT κ)) /\ HTab (!txt w) t es /\ es.size * 5 < t.mask * 3 /\ (L.map κ).Nodup /\ L.length < 64
noncomputable def addT (κ : Addr -> List Int) (L : List Addr) (b : Addr) : List Addr := if κ b ∈ L.map κ then L else L ++ [b]
section
variable {prog : Program} {w : World} {A : Around} {E : zu} {s : Shared}
theorem kW {h : Heap} {a : Addr} {o : Obj} {es es' : Array (Int × Value)} {ep : Nat} {t t' : SetTable} (ho : h.get? a = some o) (hd : o.data = .set es ep t) : (h.update a (Obj.putSet es' t')).get? a = some { o with data := .set es' (ep + 1) t' } := by
 have hp := putSet_of es' t' hd
 have hg := Heap.get?_update_self (Obj.putSet es' t') ho (by rw [hp] <;> rfl)
 rw [hp] at hg
 exact hg
theorem ml {a : Addr} {o : Obj} {es : Array (Int × Value)} {ep wanted m : Nat} {t : SetTable} {led : Bool} {Q : Unit -> Shared -> Prop} (ho : s.heap.get? a = some o) (hd : o.data = .set es ep t) (x : HTab led t es) (hz : es.size < 64) (hw : SetTable.sizeAbove wanted = m + 1) (M : Msk m) (hm : es.size < m)
  (fin : ∀ es' t', es'.toList.Perm es.toList -> HTab led t' es' -> t'.mask = m -> Q () { s with heap := s.heap.update a (Obj.putSet es' t') }) : wpAny (model prog w) A (setRelay a wanted) Q E s := by
 unfold setRelay
 refine wpAny_bind (wpAny_setState_of ho hd x.fits ?_)
 dsimp only
 have hs : ¬ SetTable.sizeAbove wanted > sizeLine := by
  rw [hw, sizeLine_eq]
  rcases M with e | e | e <;> lia
 rw [if_neg hs]
 obtain ⟨t', order, e1, e2, e3, e4, e5, e6⟩ := oH (finger := t.finger) (moves := t.movedTo m) (led := t.led) (plain := t.plain) M hm
 have er : t.relaid (es.map (·.1)) wanted = some (t', order) := by
  unfold SetTable.relaid
  rw [hw]
  exact e1
 rw [er]
 refine wpAny_bind ?_
 show wpAny (model prog w) A ((if ((order.filterMap (es[·]?)).size != es.size) = true then unsupported "internal:set-table-lost-an-element" else pure (order.filterMap (es[·]?), t') : Sem (Array (Int × Value) × SetTable))) _ _ _
 rw [if_neg (by simp [e2])]
 refine wpAny_pure ?_
 dsimp only
 refine wpAny_storeSet_of ho hd (fin _ _ e3 (x.tab.led ▸ e4) e5) ?_
 rw [e2, sizeLine_eq]
 lia
theorem sN {κ : Addr -> List Int} {a : Addr} {L : List Addr} {b : Addr} {Q : Bool -> Shared -> Prop} (hu : A.units < cLine) (hS : SXT w κ s.heap a L) (tb : TupI s.heap (κ b) b) (tl : ∀ c ∈ L, TupI s.heap (κ c) c) (room : L.length + 1 < 64)
  (fin : ∀ r h', Heap.SameBut a s.heap h' -> SXT w κ h' a (addT κ L b) -> Q r { s with heap := h' }) :
  wpAny (model prog w) A (setAddHashed a (.ref b) (hT (κ b))) Q E s := by
 obtain ⟨o, es, ep, t, ho, hex, hd, hp, x, low, nd, l64⟩ := id hS
 have sz : es.size = L.length := by
  have := hp.length_eq
  simpa using this
 obtain ⟨n0, hn0, hE, hL⟩ := x.first (hT (κ b))
 have hmk : t.mask <= 127 := by rcases x.msk with e | e | e <;> lia
 unfold setAddHashed setAddHashedIn
 refine wpAny_holding (wpAny_bind (wpAny_setState_of ho hd x.fits ?_))
 dsimp only
 have hsc : byScan (.ref b) es = false := by unfold byScan; rfl
 rw [hsc]
 simp only [Bool.false_eq_true, if_false]
 unfold setSearch
 refine wpAny_bind (j3 hu ho hd x hp tb tl hn0 hE hL 100000 0 none (Nat.zero_le _) (by unfold SetTable.turns at hn0; lia) rfl (fun ⟨k, i, c, _, _, _, ec, hk⟩ => ?_) fun hno => ?_)
 ·dsimp only
  have hc : κ b ∈ L.map κ := by
   have hm : entT κ c ∈ es.toList := by rw [<- Array.getElem?_toList] at ec; exact List.mem_of_getElem? ec
   obtain ⟨c', hc', e'⟩ := List.mem_map.mp (hp.mem_iff.mp hm)
   have : c' = c := by
    have := congrArg Prod.snd e'
    injection this
   subst this
   exact List.mem_map.mpr ⟨c', hc', hk⟩
  refine wpAny_pure ?_
  refine fin false s.heap (Heap.SameBut.refl a s.heap) ?_
  unfold addT
  rw [if_pos hc]
  exact hS
 ·dsimp only
  have hc : κ b ∉ L.map κ := fun z => by
   obtain ⟨c, hc, ec⟩ := List.mem_map.mp z
   have hm : entT κ c ∈ es.toList := hp.mem_iff.mpr (List.mem_map.mpr ⟨c, hc, rfl⟩)
   obtain ⟨i, hi, ei⟩ := List.getElem_of_mem hm
   have ei' : es[i]? = some (entT κ c) := by rw [<- Array.getElem?_toList, List.getElem?_eq_getElem hi, ei]
   have hi' : i < t.place.size := by rw [x.sz]; simpa using hi
   obtain ⟨n, w1, w2⟩ := x.way i _ _ (Array.getElem?_eq_getElem hi') ei'
   have w1 : sl t.mask (hT (κ c)) n = t.place[i] := w1
   rw [ec] at w1
   have hn : n < n0 := by
    rcases Nat.lt_or_ge n n0 with q | q
    ·exact q
    ·exfalso
     rcases Nat.eq_or_lt_of_le q with q | q
     ·subst q
      exact hE (by rw [w1]; simp)
     ·have := w2 n0 q
      have this : sl t.mask (hT (κ c)) n0 ∈ t.place.toList := this
      rw [ec] at this
      exact hE this
   exact hno ⟨n, i, c, Nat.zero_le _, hn, by rw [w1]; exact Array.getElem?_eq_getElem hi', ei', ec⟩
  have hadd : addT κ L b = L ++ [b] := by unfold addT; rw [if_neg hc]
  have nd' : ((L ++ [b]).map κ).Nodup := by
   rw [List.map_append, List.nodup_append]
   refine ⟨nd, by simp, fun u hu v hv => ?_⟩
   rw [List.map_singleton, List.mem_singleton] at hv
   subst hv
   exact fun e => hc (e ▸ hu)
  have l64' : (L ++ [b]).length < 64 := by simpa using room
  refine wpAny_bind (wpAny_setState_of ho hd x.fits ?_)
  dsimp only
  have hmsk : 7 <= t.mask := by rcases x.msk with e | e | e <;> lia
  have hroom : es.size + 1 < t.mask := by lia
  have xp := x.put (h := hT (κ b)) (v := .ref b) hE hL hroom
  have ep2 : (t.put (sl t.mask (hT (κ b)) n0)).2 = SetTable.below t.place (sl t.mask (hT (κ b)) n0) := rfl
  rw [ep2]
  have pp : (SetTable.insertAt es (SetTable.below t.place (sl t.mask (hT (κ b)) n0)) (hT (κ b), Value.ref b)).toList.Perm ((L ++ [b]).map (entT κ)) := by
   refine (oE _ _ _).trans ?_
   rw [List.map_append]
   exact hp.append (List.Perm.refl _)
  have zz : (SetTable.insertAt es (SetTable.below t.place (sl t.mask (hT (κ b)) n0)) (hT (κ b), Value.ref b)).size = es.size + 1 := by
   have := pp.length_eq
   simp at this
   rw [this, sz]
  have mk : (t.put (sl t.mask (hT (κ b)) n0)).1.mask = t.mask := rfl
  generalize (t.put (sl t.mask (hT (κ b)) n0)).1 = t1 at xp mk ⊢
  generalize SetTable.insertAt es (SetTable.below t.place (sl t.mask (hT (κ b)) n0)) (hT (κ b), Value.ref b) = es1 at xp pp zz ⊢
  have tail : ∀ t2 : SetTable, HTab (!txt w) t2 es1 -> t2.mask = t.mask -> wpAny (model prog w) A (do
    storeSet a es1 t2
    if (!false && t2.tooFull) = true then do
     setRelay a (SetTable.grown (es.size + 1))
     pure true
    else pure true) Q E s := fun t2 x2 m2 => by
   have g1 := kW (es' := es1) (t' := t2) ho hd
   refine wpAny_bind (wpAny_storeSet_of ho hd ?_ (by rw [zz, sizeLine_eq]; lia))
   have sb := Heap.SameBut.update s.heap a (Obj.putSet es1 t2)
   have hfill : t2.tooFull = decide ((es.size + 1) * 5 ≥ t.mask * 3) := by
    unfold SetTable.tooFull SetTable.fill
    rw [x2.sz, x2.tab.dum, m2, zz]
    rfl
   split
   next hc' =>
    rw [hfill] at hc'
    have hbig : (es.size + 1) * 5 ≥ t.mask * 3 := by simpa using hc'
    have key : ∃ m, SetTable.sizeAbove (SetTable.grown (es.size + 1)) = m + 1 /\ Msk m /\ es1.size < m /\ es1.size * 5 < m * 3 := by
     rcases x.msk with e | e | e
     ·have : es.size = 4 := by lia
      exact ⟨31, by rw [this]; decide, .inr (.inl rfl), by lia, by lia⟩
     ·have : es.size = 18 := by lia
      exact ⟨127, by rw [this]; decide, .inr (.inr rfl), by lia, by lia⟩
     ·lia
    obtain ⟨m, k1, k2, k3, k4⟩ := key
    refine wpAny_bind (ml g1 rfl x2 (by lia) k1 k2 k3 fun es' t' p1 p2 p3 => ?_)
    refine wpAny_pure (fin true _ (sb.trans (Heap.SameBut.update _ a _)) ?_)
    rw [hadd]
    have z' : es'.size = es1.size := by
     have := p1.length_eq
     simpa using this
    exact ⟨_, es', _, t', kW g1 rfl, hex, rfl, p1.trans pp, p2, by rw [z', p3]; exact k4, nd', l64'⟩
   next hc' =>
    rw [hfill] at hc'
    refine wpAny_pure (fin true _ sb ?_)
    rw [hadd]
    refine ⟨_, es1, _, t2, g1, hex, rfl, pp, x2, ?_, nd', l64'⟩
    rw [zz, m2]
    simpa using hc'
  split
  next =>
   refine wpAny_bind (sM tb ?_)
   simp only [if_true]
   exact tail t1 xp mk
  next =>
   refine wpAny_bind (wpAny_pure ?_)
   simp only [if_true]
   exact tail t1 xp mk
end
noncomputable def GX (w : World) (h : Heap) (a : Addr) (U : List Value) : Prop :=
 ∃ o es ep t, h.get? a = some o /\ o.ExactSet /\ o.data = .set es ep t /\ (es.toList.map (·.2)).Perm U /\ es.size <= sizeLine /\ t.fits es.size = true /\ TabS (!txt w) t
theorem GX.keep {w : World} {h h' : Heap} {a : Addr} {U : List Value} (x : GX w h a U) (k : ∀ o, h.get? a = some o -> h'.get? a = some o) : GX w h' a U := by
 obtain ⟨o, es, ep, t, ho, r⟩ := x
 exact ⟨o, es, ep, t, k o ho, r⟩
theorem SXT.gx {w : World} {κ : Addr -> List Int} {h : Heap} {a : Addr} {L : List Addr} (x : SXT w κ h a L) : GX w h a (L.map Value.ref) := by
 obtain ⟨o, es, ep, t, ho, hex, hd, hp, x, low, nd, l64⟩ := x
 refine ⟨o, es, ep, t, ho, hex, hd, ?_, ?_, x.fits, x.tab⟩
 ·refine (hp.map (·.2)).trans ?_
  rw [List.map_map]
  exact List.Perm.refl _
 ·have := hp.length_eq
  rw [sizeLine_eq]
  simp at this
  lia
theorem SXT.keep {w : World} {κ : Addr -> List Int} {h h' : Heap} {a : Addr} {L : List Addr} (x : SXT w κ h a L) (k : ∀ o, h.get? a = some o -> h'.get? a = some o) : SXT w κ h' a L := by
 obtain ⟨o, es, ep, t, ho, r⟩ := x
 exact ⟨o, es, ep, t, k o ho, r⟩
section
variable {prog : Program} {w : World} {A : Around} {E : zu} {s : Shared}
noncomputable def BA (prog : Program) (w : World) (s s1 : Shared) (S I : Addr) (U : List Value) : Prop :=
 ∃ (vs : List Value) (fp wr : List Addr) (P : Nat -> Value -> Prop) (St : Nat -> Shared -> Prop), vs.Perm U /\ (∀ i v, P i v -> vs[i]? = some v) /\ (∀ A : Around, A.handled = none -> WalksS prog w A I fp wr (fun a b => b = a) vs.length P St) /\ St 0 s1 /\ (∀ b ∈ fp, b < s1.heap.objs.size) /\ (∀ b ∈ wr, s.heap.objs.size <= b) /\ I ∈ fp /\
  (∀ b o, s.heap.get? b = some o -> s1.heap.get? b = some o) /\ s1.gens = s.gens /\ s1.os = s.os /\ s1.toks = s.toks /\ (∀ b ∈ fp, b = S \/ s.heap.objs.size <= b) /\ vs.length <= sizeLine
theorem hX {s s1 : Shared} {S I : Addr} {U : List Value} {vs : List Value} {n : Nat} {fp wr : List Addr} {P : Nat -> Value -> Prop} {St : Nat -> Shared -> Prop} (W : ∀ A : Around, A.handled = none -> WalksS prog w A I fp wr (fun a b => b = a) n P St) (hn : vs.length = n) (hM : vs.Perm U) (hP : ∀ i v, P i v -> vs[i]? = some v) (st : St 0 s1)
  (h1 : ∀ b ∈ fp, b < s1.heap.objs.size) (h2 : ∀ b ∈ wr, s.heap.objs.size <= b) (h3 : I ∈ fp) (h4 : ∀ b o, s.heap.get? b = some o -> s1.heap.get? b = some o) (h5 : s1.gens = s.gens) (h6 : s1.os = s.os) (h7 : s1.toks = s.toks) (h8 : ∀ b ∈ fp, b = S \/ s.heap.objs.size <= b) (h9 : n <= sizeLine) : BA prog w s s1 S I U := by
 subst hn
 exact ⟨vs, fp, wr, P, St, hM, hP, W, st, h1, h2, h3, h4, h5, h6, h7, h8, h9⟩
theorem oJ {S : Addr} {U : List Value} {Q : zu} (x : GX w s.heap S U) (fin : ∀ s1 I, BA prog w s s1 S I U -> Q (.ref I) s1) : wpAny (model prog w) A (pyIter (.ref S)) Q E s := by
 obtain ⟨o, es, ep, t, ho, hex, hd, h2, h3, h4, h5⟩ := x
 have hT : s.TypeIs (.ref S) "set" := ⟨o, ho, hex.1⟩
 have hSl : S < s.heap.objs.size := Heap.lt_size ho
 refine wpAny_pyIter_slot hT PySem.F.slot_set_iter (wpAny_call_entry PySem.F.slot_set_iter hT kK ?_ (PySem.F.args_set_iter_1 _))
 unfold Builtin.«frozenset.__iter__»
 unfold Builtin.Frozenset.slot0
 unfold slotArgs
 simp only [List.isEmpty_nil, Bool.not_true, Bool.false_eq_true, if_false, List.length_nil, bne_self_eq_false]
 unfold Builtin.Frozenset.addrOf
 unfold Builtin.Frozenset.sizeOf
 refine wpAny_bind (wpAny_bind (wpAny_pure ?_))
 dsimp only
 refine wpAny_pure ?_
 refine wpAny_bind (wpAny_bind (wpAny_setEntries_of ho hd h4 (wpAny_pure ?_)))
 refine wpAny_bind (qk es t S ho hd h4 ?_)
 have hz : es.size <= sizeLine := h3
 split
 next hc =>
  refine wpAny_bind (n8 es.size (List.range es.size) s _ (by simp) fun l d hp => ?_)
  have hll : l.length = es.size := by simpa using hp.length_eq
  simp only [newTuple]
  refine wpAny_bind (wpAny_newObj_type ?_ (by show (List.map _ l).toArray.size <= sizeLine; simp; lia))
  have ho1 : (s.heap.push { cls := .type "tuple", data := .seq (List.map (fun (i : Nat) => rawInt (i : Int)) l).toArray }).get? S = some o := Heap.get?_push_of_some _ ho
  refine wpAny_bind (wpAny_setEpoch_of (s := { s with heap := s.heap.push { cls := .type "tuple", data := .seq (List.map (fun (i : Nat) => rawInt (i : Int)) l).toArray }, drawn := d }) ho1 hd h4 ?_)
  simp only [newFields]
  refine wpAny_bind (wpAny_newObj_type (wpAny_pure ⟨_, rfl, "set_iterator", _, ⟨_, Heap.get?_push_size _ rfl, rfl⟩, dc.lookup, fin _ _ ?_⟩))
  have hsz : (s.heap.push { cls := .type "tuple", data := .seq (List.map (fun (i : Nat) => rawInt (i : Int)) l).toArray }).objs.size = s.heap.objs.size + 1 := by rw [Heap.size_push]
  have hvs : (l.map fun p => (es[p]?.getD (0, .none)).2).length = es.size := by simp [hll]
  have hperm : (l.map fun p => es[p]?.getD (0, .none)).Perm es.toList := by
   refine (hp.map _).trans ?_
   have : (List.range es.size).map (fun p => es[p]?.getD (0, .none)) = es.toList := by
    apply List.ext_getElem?
    intro k
    rw [List.getElem?_map]
    by_cases hk : k < es.size
    ·rw [List.getElem?_range hk]
     simp [hk]
    ·rw [List.getElem?_eq_none (by simpa using hk), List.getElem?_eq_none (by simpa using hk)]
     rfl
   rw [this]
  have n1 : S ≠ (s.heap.push { cls := .type "tuple", data := .seq (List.map (fun (i : Nat) => rawInt (i : Int)) l).toArray }).objs.size := by rw [hsz]; exact Nat.ne_of_lt (Nat.lt_succ_of_lt hSl)
  have n2 : s.heap.objs.size ≠ (s.heap.push { cls := .type "tuple", data := .seq (List.map (fun (i : Nat) => rawInt (i : Int)) l).toArray }).objs.size := by rw [hsz]; exact Nat.ne_of_lt (Nat.lt_succ_self _)
  refine hX (n := es.size) (vs := (l.map fun p => es[p]?.getD (0, .none)).map (·.2)) (fun A' hA => mf hA (S := S) (T := s.heap.objs.size) n1 n2 (es := es) (l := l) (t := t) (ep := ep) hp) (by rw [List.length_map, List.length_map]; exact hll) ((hperm.map (·.2)).trans h2) ?_ ⟨⟨_, Heap.get?_push_size _ rfl, rfl, ?_⟩, ⟨o, Heap.get?_push_of_some _ ho1, hd, h4⟩, ⟨_, 0, Heap.get?_push_of_some _ (Heap.get?_push_size _ rfl), rfl⟩⟩ ?_ ?_ ?_ (fun b o' e => Heap.get?_push_of_some _ (Heap.get?_push_of_some _ e)) rfl rfl rfl ?fo hz
  case fo =>
   intro b hb
   simp only [List.mem_cons, List.not_mem_nil, or_false] at hb
   rcases hb with rfl | rfl | rfl
   ·exact .inr (by rw [hsz]; exact Nat.le_succ _)
   ·exact .inl rfl
   ·exact .inr (Nat.le_refl _)
  ·rintro i v ⟨p, e, e1, e2, rfl⟩
   rw [List.getElem?_map, List.getElem?_map, e1]
   simp [e2]
  ·simp [rawInt]
  ·intro b hb
   show b < ((s.heap.push _).push _).objs.size
   rw [Heap.size_push, Heap.size_push]
   simp only [List.mem_cons, List.not_mem_nil, or_false] at hb
   rcases hb with rfl | rfl | rfl
   ·rw [hsz]; exact Nat.lt_succ_self _
   ·exact Nat.lt_succ_of_lt (Nat.lt_succ_of_lt hSl)
   ·exact Nat.lt_succ_of_lt (Nat.lt_succ_self _)
  ·intro b hb
   rw [List.mem_singleton] at hb
   rw [hb, hsz]
   exact Nat.le_succ _
  ·simp
 next hc =>
  refine wpAny_bind (wpAny_pure ?_)
  refine wpAny_bind (wpAny_setEpoch_of ho hd h4 ?_)
  simp only [newFields]
  refine wpAny_bind (wpAny_newObj_type (wpAny_pure ⟨_, rfl, "set_iterator", _, ⟨_, Heap.get?_push_size _ rfl, rfl⟩, dc.lookup, fin _ _ ?_⟩))
  cases ht : txt w with
  | true =>
   have hperm := fF (w.params.setOrder S ep) es
   refine hX (vs := (pickOrder (w.params.setOrder S ep) es).toList.map (·.2)) (fun A' hA => oz hA (I := s.heap.objs.size) (S := S) (es := es) (ep := ep) (Nat.ne_of_lt hSl) (t := t) ht) (by rw [List.length_map, hperm.length_eq]; simp) ((hperm.map (·.2)).trans h2) (fun i v h => h) ⟨⟨_, Heap.get?_push_size _ rfl, rfl, ?_⟩, ⟨o, Heap.get?_push_of_some _ ho, hd, h4⟩⟩ ?_ ?_ ?_ (fun b o' e => Heap.get?_push_of_some _ e) rfl rfl rfl ?fo hz
   case fo =>
    intro b hb
    simp only [List.mem_cons, List.not_mem_nil, or_false] at hb
    rcases hb with rfl | rfl
    ·exact .inr (Nat.le_refl _)
    ·exact .inl rfl
   ·simp [rawInt]
   ·intro b hb
    show b < (s.heap.push _).objs.size
    rw [Heap.size_push]
    simp only [List.mem_cons, List.not_mem_nil, or_false] at hb
    rcases hb with rfl | rfl
    ·exact Nat.lt_succ_self _
    ·exact Nat.lt_succ_of_lt hSl
   ·intro b hb
    rw [List.mem_singleton] at hb
    rw [hb]
    exact Nat.le_refl _
   ·simp
  | false =>
   rw [ht] at hc h5
   have hp : t.plain = true \/ es.size <= 1 := by
    cases hpl : t.plain with
    | true => exact .inl rfl
    | false =>
     rw [hpl] at hc
     simp at hc
     exact .inr hc
   refine hX (vs := es.toList.map (·.2)) (fun A' hA => me hA (I := s.heap.objs.size) (S := S) (ep := ep) (Nat.ne_of_lt hSl) h4 ht hp h5.led h5.rise) (by simp) h2 (fun i v h => h) ⟨0, ⟨_, Heap.get?_push_size _ rfl, rfl, ?_⟩, ⟨Nat.zero_le _, fun i x hi => by lia, fun i x _ _ => Nat.zero_le _⟩, ⟨o, Heap.get?_push_of_some _ ho, hd, h4⟩⟩ ?_ ?_ ?_ (fun b o' e => Heap.get?_push_of_some _ e) rfl rfl rfl ?fo hz
   case fo =>
    intro b hb
    simp only [List.mem_cons, List.not_mem_nil, or_false] at hb
    rcases hb with rfl | rfl
    ·exact .inr (Nat.le_refl _)
    ·exact .inl rfl
   ·simp [rawInt]
   ·intro b hb
    show b < (s.heap.push _).objs.size
    rw [Heap.size_push]
    simp only [List.mem_cons, List.not_mem_nil, or_false] at hb
    rcases hb with rfl | rfl
    ·exact Nat.lt_succ_self _
    ·exact Nat.lt_succ_of_lt hSl
   ·intro b hb
    rw [List.mem_singleton] at hb
    rw [hb]
    exact Nat.le_refl _
   ·simp
end
section
variable {prog : Program} {w : World} {A : Around} {E : zu} {s : Shared}
theorem jy {S : Addr} {U : List Value} {Q : List Value -> Shared -> Prop} (hh : A.handled = none) (x : GX w s.heap S U)
  (fin : ∀ s' vs, vs.Perm U -> (∀ b o, s.heap.get? b = some o -> s'.heap.get? b = some o) -> s'.gens = s.gens -> s'.os = s.os -> s.heap.objs.size < s'.heap.objs.size -> Q vs s') :
  wpAny (model prog w) A (collect (.ref S)) Q E s := by
 have hSl : S < s.heap.objs.size := let ⟨o, _, _, _, ho, _⟩ := x; Heap.lt_size ho
 have x1 : GX w (s.heap.push nilL) S U := x.keep fun o e => Heap.get?_push_of_some _ e
 have hT : Shared.TypeIs { s with heap := s.heap.push nilL } (.ref S) "set" := let ⟨o, _, _, _, ho, hex, _⟩ := x1; ⟨o, ho, hex.1⟩
 have hD : (s.heap.push nilL).get? s.heap.objs.size = some nilL := Heap.get?_push_size _ rfl
 unfold collect
 refine wpAny_bind (wpAny_runValue (codeAny_builtin PySem.F.entry_proto_collect ?_))
 rw [Around.under_plainId PySem.F.plain_proto_collect]
 show wpAny (model prog w) A.in1 (newList [] >>= fun l => again (.builtin "list.__iadd__" ⟨[l, .ref S], []⟩)) _ _ s
 refine wpAny_bind (wpAny_newObj_type ?_)
 refine wpAny_pure ⟨plainId_quiet PySem.F.plain_list_iadd _, codeAny_builtin PySem.F.entry_list_iadd ?_⟩
 rw [Around.under_plainId PySem.F.plain_list_iadd]
 show wpAny (model prog w) A.in1 (Builtin.List.listExtendWith (.ref s.heap.objs.size) (.ref S) (.ref s.heap.objs.size)) _ _ _
 unfold Builtin.List.listExtendWith
 refine wpAny_bind (wpAny_typeOf hT ?_)
 have e1 : Builtin.List.listSameRef (.ref s.heap.objs.size) (.ref S) = false := by
  simp only [Builtin.List.listSameRef, beq_eq_false_iff_ne, ne_eq]
  exact Nat.ne_of_gt hSl
 have e2 : (Value.type "set" == Value.type "list") = false := by decide
 have e3 : (Value.type "set" == Value.type "tuple") = false := by decide
 simp only [e1, e2, e3, Bool.or_false, Bool.false_eq_true, if_false]
 refine wpAny_bind (oJ (s := { s with heap := s.heap.push nilL }) x1 fun s1 I ok => ?_)
 obtain ⟨vs, fp, wr, P, St, hM, hP, W, st, h1, h2, h3, h4, h5, h6, h7, h8, hn⟩ := ok
 have hT1 : s1.TypeIs (.ref S) "set" := let ⟨o, ho, hc⟩ := hT; ⟨o, h4 S o ho, hc⟩
 refine wpAny_bind (wpAny_holding (ql hT1 ?_))
 have W1 := W A.in1 (by simp [hh])
 have hD1 : s1.heap.get? s.heap.objs.size = some nilL := h4 _ _ hD
 have hpz : (s.heap.push nilL).objs.size = s.heap.objs.size + 1 := by rw [Heap.size_push]
 have hDf : s.heap.objs.size ∉ fp := fun z => by
  rcases h8 _ z with c | c
  ·exact Nat.ne_of_gt hSl c
  ·have c' : (s.heap.push nilL).objs.size <= s.heap.objs.size := c
   rw [hpz] at c'
   exact Nat.not_succ_le_self _ c'
 split
 next =>
  refine wpAny_bind (wpAny_rule ?_)
  refine wpAny_bind ?_
  show wpAny (model prog w) A.in1 (updateSeq s.heap.objs.size (·.push .none) >>= fun _ => updateSeq s.heap.objs.size (·.pop)) _ _ _
  have u1 := Heap.get?_update_self (Obj.mapSeq (·.push Value.none)) hD1 rfl
  have u2 := Heap.get?_update_self (Obj.mapSeq (·.pop)) u1 rfl
  have oth : ∀ b o, b ≠ s.heap.objs.size -> s1.heap.get? b = some o -> ((s1.heap.update s.heap.objs.size (Obj.mapSeq (·.push Value.none))).update s.heap.objs.size (Obj.mapSeq (·.pop))).get? b = some o :=
   fun b o hb e => (Heap.get?_update_other _ _ (Ne.symm hb)).trans ((Heap.get?_update_other _ _ (Ne.symm hb)).trans e)
  refine wpAny_bind (wpAny_updateSeq hD1 rfl ?_)
  refine wpAny_updateSeq u1 rfl ?_
  refine wpAny_pure ⟨plainId_quiet PySem.F.plain_extend_loop _, codeAny_extend_loopS W1 hn _ hDf _ vs.length 0 _ _ _ rfl (Nat.zero_le _) (W1.frame 0 s1 _ s1.toks st (Nat.le_refl _) fun b hb o e => oth b o (fun z => hDf (z ▸ hb)) e) u2 (ItemsOf.nil P) fun s' acc c mv hL ha => ?_⟩
  refine wpAny_bind (wpAny_load hL ?_)
  show wpAny (model prog w) A (pure acc.toList) Q E s'
  rw [mh hP ha]
  refine wpAny_pure (fin s' vs hM (fun b o e => ?_) (mv.gens.trans h5) (mv.os.trans h6) (Heap.lt_size hL))
  have hb : b < s.heap.objs.size := Heap.lt_size e
  refine mv.heap b o (fun z => ?_) (oth b o (Nat.ne_of_lt hb) (h4 b o (Heap.get?_push_of_some _ e)))
  rcases List.mem_cons.mp z with z | z
  ·exact Nat.ne_of_lt hb z
  ·have c : (s.heap.push nilL).objs.size <= b := h2 b z
   rw [hpz] at c
   exact Nat.lt_irrefl _ (Nat.lt_of_lt_of_le (Nat.lt_succ_of_lt hb) c)
 next hc => exact absurd (by decide +kernel) hc
end
theorem qz (κ : Addr -> List Int) (L : List Addr) (b : Addr) : (addT κ L b).length <= L.length + 1 := by
 unfold addT
 split
 ·lia
 ·rw [List.length_append, List.length_singleton]
  exact Nat.le_refl _
theorem kX {κ : Addr -> List Int} {L : List Addr} {b c : Addr} (h : c ∈ addT κ L b) : c = b \/ c ∈ L := by
 unfold addT at h
 split at h
 ·exact .inr h
 ·rcases List.mem_append.mp h with z | z
  ·exact .inr z
  ·exact .inl (List.mem_singleton.mp z)
section
variable {prog : Program} {w : World} {A : Around} {R : Result -> Shared -> Prop} {I : Addr} {fp wr : List Addr} {G : Array GenState -> Array GenState -> Prop} {n : Nat} {P : Nat -> Value -> Prop} {St : Nat -> Shared -> Prop}
theorem oK (W : WalksS prog w A.in1 I fp wr G n P St) (S : Addr) (out : S ∉ fp) (κ : Addr -> List Int) (val : Nat -> Addr) (hv : ∀ i v, P i v -> v = .ref (val i)) (nS : ∀ i, i < n -> val i ≠ S /\ val i ∉ wr) (room : n + 1 < 64) (hu : A.in1.units < cLine) :
  ∀ (k i : Nat) (s : Shared) (L : List Addr), n - i = k -> i <= n -> St i s -> SXT w κ s.heap S L -> L.length <= i -> (∀ c ∈ L, ∃ j, j < n /\ c = val j) -> (∀ j, j < n -> TupI s.heap (κ (val j)) (val j)) ->
   (∀ s', Moved (S :: wr) G s s' -> SXT w κ s'.heap S (((List.range' i k).map val).foldl (addT κ) L) -> R (.ok (.ret .none)) s') ->
   codeAny (model prog w) A (.builtin "set.update.loop" ⟨[.ref S, .ref I], []⟩) R s := by
 have ow : S ∉ wr := fun z => out (W.sub _ z)
 have sub : ∀ b ∈ wr, b ∈ S :: wr := fun b hb => List.mem_cons_of_mem _ hb
 intro k
 induction k with
 | zero =>
  intro i s L hk hi st x hl hc ht fin
  obtain rfl : i = n := by lia
  refine codeAny_builtin F.entry_set_update_loop ?_
  rw [Around.under_plainId F.plain_set_update_loop]
  show wpAny (model prog w) A.in1 (pyNext (.ref I) >>= _) _ _ s
  refine wpAny_bind (W.done s _ _ st fun s' mv => ?_)
  exact wpAny_pure (fin s' (mv.mono sub) (x.keep fun o e => mv.heap S o ow e))
 | succ k ih =>
  intro i s L hk hi st x hl hc ht fin
  have lt : i < n := by lia
  refine codeAny_builtin F.entry_set_update_loop ?_
  rw [Around.under_plainId F.plain_set_update_loop]
  show wpAny (model prog w) A.in1 (pyNext (.ref I) >>= _) _ _ s
  refine wpAny_bind (W.item i s _ _ lt st fun v s' hP st' mv => ?_)
  obtain rfl := hv i v hP
  have x' := x.keep fun o e => mv.heap S o ow e
  have ht' : ∀ j, j < n -> TupI s'.heap (κ (val j)) (val j) := fun j hj => (ht j hj).keep fun o e => mv.heap _ o (nS j hj).2 e
  show wpAny (model prog w) A.in1 (holding [Value.ref (val i)] (setAdd S (Value.ref (val i))) >>= _) _ _ s'
  refine wpAny_bind (wpAny_holding ?_)
  unfold setAdd
  refine wpAny_holding (wpAny_bind (qw hu (ht' i lt) ?_))
  refine sN (s := { s' with toks := s'.toks + ((κ (val i)).length + 1) }) hu x' (ht' i lt) (fun c hcL => by
   obtain ⟨j, hj, rfl⟩ := hc c hcL
   exact ht' j hj) (by lia) fun b h' sb sx => ?_
  have ln := qz κ L (val i)
  have htt : ∀ j, j < n -> TupI h' (κ (val j)) (val j) := fun j hj => (ht' j hj).keep fun o e => by
   rw [sb.2 _ (nS j hj).1]
   exact e
  refine wpAny_pure ⟨plainId_quiet F.plain_set_update_loop _, ih (i + 1) _ (addT κ L (val i)) (by lia) (by lia) (W.frame _ s' _ _ st' (Nat.le_add_right _ _) fun c hc o e => ?_) sx (by lia) (fun c hcL => ?_) htt fun s2 mv2 sx2 => ?_⟩
  ·rw [sb.2 c (fun z => out (z ▸ hc))]
   exact e
  ·rcases kX hcL with z | z
   ·exact ⟨i, lt, z⟩
   ·exact hc c z
  ·refine fin s2 (Moved.trans W.gtrans ((mv.mono sub).then_heap (Nat.le_add_right _ _) fun c o hc e => ?_) mv2) sx2
   rw [sb.2 c (fun z => hc (by rw [z]; exact List.mem_cons_self))]
   exact e
end
section
variable {prog : Program} {w : World} {A : Around} {E : zu} {s : Shared}
theorem oM {κ : Addr -> List Int} {h : Heap} {a : Addr} (e : h.get? a = some (zW w)) : SXT w κ h a [] :=
 ⟨_, #[], 0, _, e, ⟨rfl, rfl, rfl⟩, rfl, List.Perm.nil, ⟨⟨List.Pairwise.nil, rfl, rfl⟩, .inl rfl, rfl, by show 0 < 7; decide, fun j hj => by simp [SetTable.fresh] at hj, fun i j e e1 => by simp [SetTable.fresh] at e1⟩, by show 0 * 5 < 7 * 3; decide, List.nodup_nil, by decide⟩
noncomputable def BB (w : World) (κ : Addr -> List Int) (s : Shared) (L : List Addr) (s2 : Shared) : Prop := ∃ h2 k2, s2 = { s with heap := h2, toks := k2 } /\ SXT w κ h2 s.heap.objs.size L /\ ∀ b o, b < s.heap.objs.size -> s.heap.get? b = some o -> h2.get? b = some o
set_option maxHeartbeats 6400000 in
theorem oO {κ : Addr -> List Int} {l : Addr} {items : Array Value} {bs : List Addr} {Q : zu} (hh : A.handled = none) (hu : A.in1.in1.in1.units < cLine) (hl : s.heap.IsList l items) (hi : items.toList = bs.map Value.ref) (ht : ∀ b ∈ bs, TupI s.heap (κ b) b) (hb : items.size + 1 < 64)
  (fin : ∀ s2, BB w κ s (((List.range' 0 items.size).map fun i => bs.getD i 0).foldl (addT κ) []) s2 -> Q (.ref s.heap.objs.size) s2) :
  wpAny (model prog w) A (call (.type "set") [.ref l]) Q E s := by
 obtain ⟨c, tl, z1⟩ := PySem.F.called_set.mro
 have z2 := PySem.F.called_set.made
 have z3 := PySem.F.called_set.sub
 refine wpAny_call (codeAny_of_tree ?_)
 show wpAny (model prog w) _ (callAny (.type "set") _) _ _ _
 refine wpAny_pure ⟨Code.quiet_builtin _ (by decide +kernel), codeAny_builtin PySem.F.entry_type_call ?_⟩
 rw [Around.under_plain (weight_type_call_type "set" [Value.ref l] []) rfl]
 have z4 := PySem.F.called_set.notType
 have z5 := PySem.F.called_set.canCreate
 have z6 := PySem.F.typeCall_set_1 (Value.ref l)
 repeat (any_goals (first | assumption | wp_step))
 refine codeAny_mono (sH (w := w) (Value.ref l) (E := E) (Q := fun x s1 => x = .ref s.heap.objs.size /\ s1 = { s with heap := s.heap.push (zW w) }) ⟨rfl, rfl⟩) fun r s1 hr => ?_
 cases r with
 | error e => exact hr
 | ok fl =>
  cases fl with
  | ret obj =>
   obtain ⟨rfl, rfl⟩ := hr
   have hS : (s.heap.push (zW w)).get? s.heap.objs.size = some (zW w) := Heap.get?_push_size _ rfl
   have hT : Shared.TypeIs { s with heap := s.heap.push (zW w) } (.ref s.heap.objs.size) "set" := ⟨_, hS, rfl⟩
   have z7 := PySem.F.called_set.init.lookup
   have z8 := PySem.F.called_set.init.bind (Value.ref s.heap.objs.size)
   repeat (any_goals (first | assumption | wp_step))
   refine codeAny_mono (codeAny_call_builtin (R := wants (fun r s2 => r = .none /\ BB w κ s (((List.range' 0 items.size).map fun i => bs.getD i 0).foldl (addT κ) []) s2) E) PySem.F.called_set.init.plain PySem.F.entry_set_init (check_set_init_1 hT ?_)) fun r2 s2 hr2 => ?_
   ·obtain ⟨⟨ocls, odict, odata, oslots⟩, hol, hcl, nl, hdl⟩ := hl
    obtain rfl : ocls = .type "list" := hcl
    obtain rfl : odata = .seq items nl := hdl
    have hol' : (s.heap.push (zW w)).get? l = some { cls := .type "list", dict := odict, data := .seq items nl, slots := oslots } := Heap.get?_push_of_some _ hol
    have q1 := PySem.F.sub_list_set
    have q2 := PySem.F.sub_list_frozenset
    have q3 : (Value.type "list" == Value.type "dict") = false := by decide
    have l1 : (s.heap.push (zW w)).IsList l items := ⟨_, hol', rfl, nl, rfl⟩
    unfold Builtin.«set.__init__»
    unfold noKeywords
    unfold Builtin.Frozenset.updateFrom
    generalize hPI : pyIter = PI
    wp_walk
    subst hPI
    refine wpAny_pyIter_list l1 ?_
    refine wpAny_bind (wpAny_runValue ?_)
    have lt : l < s.heap.objs.size := Heap.lt_size hol
    have h3 : A.in1.in1.in1.handled = none := by simp [hh]
    have ne : l ≠ (s.heap.push (zW w)).objs.size := by
     rw [Heap.size_push]
     exact Nat.ne_of_lt (Nat.lt_succ_of_lt lt)
    have out : s.heap.objs.size ∉ [(s.heap.push (zW w)).objs.size, l] := by
     rw [Heap.size_push]
     simp only [List.mem_cons, List.not_mem_nil, or_false, not_or]
     exact ⟨Nat.ne_of_lt (Nat.lt_succ_self _), Nat.ne_of_gt lt⟩
    have hlen : items.size = bs.length := by rw [<- Array.length_toList, hi, List.length_map]
    have hv : ∀ (i : Nat) (v : Value), items[i]? = some v -> v = .ref ((fun i => bs.getD i 0) i) := fun i v e => by
     rw [<- Array.getElem?_toList, hi, List.getElem?_map] at e
     show v = .ref (bs.getD i 0)
     rw [List.getD_eq_getElem?_getD]
     cases q : bs[i]? with
     | none => rw [q] at e; cases e
     | some b => rw [q] at e; exact (Option.some.inj e).symm
    have hbt : ∀ j, j < items.size -> TupI s.heap (κ (bs.getD j 0)) (bs.getD j 0) := fun j hj => by
     have hj' : j < bs.length := by lia
     have : bs.getD j 0 = bs[j] := by simp [List.getD_eq_getElem?_getD, hj']
     rw [this]
     exact ht _ (List.getElem_mem hj')
    have hbl : ∀ j, j < items.size -> bs.getD j 0 < s.heap.objs.size := fun j hj => by
     obtain ⟨o, _, _, ho, _⟩ := hbt j hj
     exact Heap.lt_size ho
    refine oK ((Walks.list h3 _ l ne items).toS) s.heap.objs.size out κ (fun i => bs.getD i 0) hv (fun j hj => ⟨Nat.ne_of_lt (hbl j hj), fun z => ?nw⟩) hb hu items.size 0 _ [] (by lia) (Nat.zero_le _) ⟨⟨_, Heap.get?_push_size _ rfl, rfl, rfl⟩, l1.push _⟩ (oM (Heap.get?_push_of_some _ hS)) (Nat.le_refl _) (fun c hc => by simp at hc) (fun j hj => (hbt j hj).keep fun o e => Heap.get?_push_of_some _ (Heap.get?_push_of_some _ e)) fun s' mv sx => ?_
    case nw =>
     rw [List.mem_singleton, Heap.size_push] at z
     exact Nat.ne_of_lt (Nat.lt_succ_of_lt (hbl j hj)) z
    obtain ⟨h', g', d', tk', os'⟩ := s'
    obtain rfl : g' = s.gens := mv.gens
    obtain rfl : d' = s.drawn := mv.drawn
    obtain rfl : os' = s.os := mv.os
    refine wpAny_pure ?_
    refine wpAny_pure ⟨rfl, h', tk', rfl, sx, fun b o hb e => ?_⟩
    refine mv.heap b o ?_ (Heap.get?_push_of_some _ (Heap.get?_push_of_some _ e))
    simp only [List.mem_cons, List.not_mem_nil, or_false, not_or]
    refine ⟨Nat.ne_of_lt hb, ?_⟩
    rw [Heap.size_push]
    exact Nat.ne_of_lt (Nat.lt_succ_of_lt hb)
   ·cases r2 with
    | error e => exact hr2
    | ok fl2 =>
     cases fl2 with
     | ret r =>
      obtain ⟨rfl, mk⟩ := hr2
      repeat (any_goals (first | assumption | wp_step))
      exact fin _ mk
     | _ => exact hr2.elim
  | _ => exact hr.elim
end
variable [Tabs]
noncomputable def AJ (w : World) (κ : Addr -> List Int) (p : Addr) (L : List Addr) : Heap -> Prop := fun h => SXT w κ h p L
noncomputable def dedT (κ : Addr -> List Int) (bs : List Addr) : List Addr := bs.foldl (addT κ) []
noncomputable def addL (L : List (List Int)) (k : List Int) : List (List Int) := if k ∈ L then L else L ++ [k]
noncomputable def dedL (nss : List (List Int)) : List (List Int) := nss.foldl addL []
theorem qA (κ : Addr -> List Int) (L : List Addr) (b : Addr) : (addT κ L b).map κ = addL (L.map κ) (κ b) := by
 unfold addT addL
 split
 ·rfl
 ·rw [List.map_append]; rfl
theorem j4 (κ : Addr -> List Int) : ∀ (bs L : List Addr), (bs.foldl (addT κ) L).map κ = (bs.map κ).foldl addL (L.map κ)
 | [], _ => rfl
 | b :: r, L => by
  rw [List.foldl_cons, j4 κ r, qA]
  rfl
theorem kY (κ : Addr -> List Int) (bs : List Addr) : (dedT κ bs).map κ = dedL (bs.map κ) := j4 κ bs []
theorem j5 {κ : Addr -> List Int} : ∀ {bs L : List Addr} {b : Addr}, b ∈ bs.foldl (addT κ) L -> b ∈ bs \/ b ∈ L
 | [], _, _, h => .inr h
 | a :: r, L, b, h => by
  rw [List.foldl_cons] at h
  rcases j5 h with z | z
  ·exact .inl (.tail _ z)
  ·rcases kX z with q | q
   ·exact .inl (q ▸ .head _)
   ·exact .inr q
theorem kZ {κ : Addr -> List Int} {bs : List Addr} {b : Addr} (h : b ∈ dedT κ bs) : b ∈ bs := (j5 h).resolve_right (by simp)
theorem la (nss : List (List Int)) : (dedL nss).length <= nss.length := by
 have : ∀ (l acc : List (List Int)), (l.foldl addL acc).length <= acc.length + l.length := by
  intro l
  induction l with
  | nil => intro acc; simp
  | cons a r ih =>
   intro acc
   have h1 := ih (addL acc a)
   have h2 : (addL acc a).length <= acc.length + 1 := by
    unfold addL
    split <;> simp
   rw [List.foldl_cons, List.length_cons]
   lia
 have := this nss []
 simpa [dedL] using this
theorem lb (bs : List Addr) : (List.range' 0 bs.length).map (fun i => bs.getD i 0) = bs := by
 apply List.ext_getElem?
 intro i
 rw [List.getElem?_map]
 by_cases h : i < bs.length
 ·rw [List.getElem?_range' h]
  simp [h]
 ·rw [List.getElem?_eq_none (by simpa using h), List.getElem?_eq_none (by simpa using h)]
  rfl
section
variable {X : Cx}
noncomputable def Bc (w : World) (K : W.Frag) : List V -> Hp -> VK -> Prop := fun xs H Q => ∃ (l : Addr) (bs : List Addr) (nss : List (List Int)), xs = [.ref l] /\ SqR K H l (bs.map V.ref) /\ bs.length = nss.length /\ bs.length + 1 < 64 /\ (∀ (i : Nat) (b : Addr) (ns : List Int), bs[i]? = some b -> nss[i]? = some ns -> SqT K H b (ns.map V.int)) /\
 ∀ κ : Addr -> List Int, bs.map κ = nss -> ∀ p, H p = none -> Q (.ref p) (upd H p (.ext (AJ w κ p (dedT κ bs))))
theorem j6 : ∀ {bs : List Addr} {us : List Value}, Vals (bs.map V.ref) us -> us = bs.map Value.ref
 | [], us, h => by cases h; rfl
 | b :: r, us, h => by
  cases h with
  | cons h1 h2 =>
   cases h1
   rw [j6 h2]
   rfl
theorem j7 : ∀ bs : List Addr, Vals (bs.map V.ref) (bs.map Value.ref)
 | [] => .nil
 | b :: r => .cons rfl (j7 r)
theorem fV : ∀ {a b : List Int}, a.map V.int = b.map V.int -> a = b
 | [], [], _ => rfl
 | [], _ :: _, h => by cases h
 | _ :: _, [], h => by cases h
 | x :: a, y :: b, h => by
  injection h with h1 h2
  injection h1 with h1
  rw [h1, fV h2]
theorem oP (hc : X.calm = true) (hu : X.A.units + 64 < cLine) : A7 X (.type "set") (Bc X.w X.K) := by
 intro pins s σ H xs us Q I r h
 obtain ⟨l, bs, nss, rfl, hq, hlen, h64, hit, q⟩ := h
 obtain ⟨u, rfl, r1⟩ := vals1 r
 cases r1
 obtain ⟨z, its, n, rv, hl, e⟩ := I.lstR hq
 have hI := j6 rv
 have hil : its.length = bs.length := by rw [hI, List.length_map]
 have at_ : ∀ (i j : Nat) (b : Addr), bs[i]? = some b -> bs[j]? = some b -> nss[i]? = nss[j]? := fun i j b e1 e2 => by
  have hi : i < nss.length := by rw [<- hlen]; exact (List.getElem?_eq_some_iff.mp e1).1
  have hj : j < nss.length := by rw [<- hlen]; exact (List.getElem?_eq_some_iff.mp e2).1
  have a1 := hit i b _ e1 (List.getElem?_eq_getElem hi)
  have a2 := hit j b _ e2 (List.getElem?_eq_getElem hj)
  rw [List.getElem?_eq_getElem hi, List.getElem?_eq_getElem hj, fV (I.tuple_inj a1 a2)]
 let κ : Addr -> List Int := fun b => nss.getD (bs.idxOf b) []
 have hκ : bs.map κ = nss := by
  apply List.ext_getElem?
  intro i
  rw [List.getElem?_map]
  by_cases hi : i < bs.length
  ·have e1 : bs[i]? = some bs[i] := List.getElem?_eq_getElem hi
   have hm : bs[i] ∈ bs := List.getElem_mem hi
   have e2 : bs[bs.idxOf bs[i]]? = some bs[i] := by
    rw [List.getElem?_eq_getElem (List.idxOf_lt_length_of_mem hm), List.getElem_idxOf]
   rw [e1]
   show some (nss.getD (bs.idxOf bs[i]) []) = _
   have e3 := at_ _ _ _ e2 e1
   rw [List.getD_eq_getElem?_getD, e3, List.getElem?_eq_getElem (by lia)]
   rfl
  ·rw [List.getElem?_eq_none (by lia), List.getElem?_eq_none (by lia)]
   rfl
 have ht : ∀ b ∈ bs, TupI s.heap (κ b) b := fun b hb => by
  obtain ⟨i, hi, ei⟩ := List.getElem_of_mem hb
  have e1 : bs[i]? = some b := by rw [List.getElem?_eq_getElem hi, ei]
  have e2 : nss[i]? = some (κ b) := by rw [<- hκ, List.getElem?_map, e1]; rfl
  obtain ⟨ws, rw', pw, _⟩ := I.tuple (hit i b _ e1 e2)
  obtain ⟨o, ho, hcl, n, hd⟩ := pw
  exact ⟨o, _, n, ho, hcl, hd, dX rw'⟩
 refine oO (κ := κ) (l := l) (items := its.toArray) (bs := bs) (I.ok.hd hc) (by show X.A.units + 1 + 1 + 1 < cLine; lia) ⟨_, e, rfl, n, rfl⟩ (by rw [List.toList_toArray]; exact hI) ht (by rw [List.size_toArray, hil]; exact h64) fun s2 mk => ?_
 obtain ⟨h2, k2, rfl, sx, keep⟩ := mk
 have ez : its.toArray.size = bs.length := by rw [List.size_toArray, hil]
 rw [ez, lb] at sx
 have old : ∀ b o, s.heap.get? b = some o -> h2.get? b = some o := fun b o eo => keep b o (Heap.lt_size eo) eo
 refine ⟨.ref s.heap.objs.size, _, I.laid (t' := k2) (o := .ext (AJ X.w κ s.heap.objs.size (dedT κ bs))) old (Nat.le_refl _) ?_, rfl, q κ hκ _ (I.hok.fresh (Nat.le_refl _))⟩
 refine ⟨sx, ?_, fun h1 h2 a b => SXT.keep a b⟩
 obtain ⟨o, _, _, _, ho, _⟩ := sx
 exact ⟨o, ho⟩
noncomputable def AK (w : World) (K : W.Frag) : List V -> Hp -> VK -> Prop := fun xs H Q => ∃ (p : Addr) (κ : Addr -> List Int) (L : List Addr), xs = [.ref p] /\ H p = some (.ext (AJ w κ p L)) /\ L.length < 64 /\ (∀ b ∈ L, SqT K H b ((κ b).map V.int)) /\
 ∀ (L' : List Addr) q, (∀ b ∈ L', b ∈ L) -> L'.map κ = zV (L.map κ) -> H q = none -> Q (.ref q) (upd H q (.lst (L'.map V.ref)))
theorem oQ : ∀ {vs : List Value} {L : List Addr}, vs.Perm (L.map Value.ref) -> ∃ bs : List Addr, vs = bs.map Value.ref /\ bs.Perm L := by
 intro vs L h
 have : ∃ bs : List Addr, vs = bs.map Value.ref := by
  have hm : ∀ v ∈ vs, ∃ b, v = Value.ref b := fun v hv => by
   obtain ⟨b, _, rfl⟩ := List.mem_map.mp (h.mem_iff.mp hv)
   exact ⟨b, rfl⟩
  clear h
  induction vs with
  | nil => exact ⟨[], rfl⟩
  | cons v r ih =>
   obtain ⟨b, rfl⟩ := hm v (.head _)
   obtain ⟨bs, e⟩ := ih fun x hx => hm x (.tail _ hx)
   exact ⟨b :: bs, by rw [e]; rfl⟩
 obtain ⟨bs, rfl⟩ := this
 refine ⟨bs, rfl, ?_⟩
 have := h.map (fun v => match v with | .ref b => b | _ => 0)
 rw [List.map_map, List.map_map] at this
 have e : ∀ l : List Addr, l.map ((fun v => match v with | Value.ref b => b | _ => 0) ∘ Value.ref) = l := fun l => by
  rw [show ((fun v => match v with | Value.ref b => b | _ => 0) ∘ Value.ref) = (id : Addr -> Addr) from rfl, List.map_id]
 rw [e, e] at this
 exact this
theorem lg (hc : X.calm = true) (hu : X.A.units + 64 < cLine) : A7 X (.builtin "sorted") (AK X.w X.K) := by
 intro pins s σ H xs us Q I r h
 obtain ⟨p, κ, L, rfl, hp, h64, hit, q⟩ := h
 obtain ⟨u, rfl, r1⟩ := vals1 r
 cases r1
 obtain ⟨sx, _, _⟩ : AJ X.w κ p L s.heap /\ _ /\ _ := I.hok p _ hp
 refine Calls.call_function_entry kind_sorted plain_sorted entry_sorted (args_sorted1 _) ?_
 unfold Builtin.«sorted»
 refine wpAny_bind (m := checkCount "sorted" 1 1 _) (wpAny_pure ?_)
 refine wpAny_bind (jy (by have := I.ok.hd hc; simpa using this) (SXT.gx sx) fun s' vs hM old hg hos hsz => ?_)
 obtain ⟨bs, rfl, hpm⟩ := oQ hM
 have hvl : (bs.map Value.ref).length < 64 := by rw [List.length_map, hpm.length_eq]; exact h64
 refine wpAny_bind (wpAny_newList ?_ (by rw [sizeLine_eq]; lia))
 have hoL : (s'.heap.push (seqObj "list" (bs.map Value.ref).toArray 0)).get? s'.heap.objs.size = some (seqObj "list" (bs.map Value.ref).toArray 0) := Heap.get?_push_size _ rfl
 have item : ∀ i, i < (bs.map Value.ref).length -> ∃ b ws ns, (bs.map Value.ref)[i]? = some (.ref b) /\ (bs.map κ)[i]? = some ns /\ IsTup s.heap b ws /\ IntsAre ws.toList ns /\ b < s.heap.objs.size := by
  intro i hi
  have hi' : i < bs.length := by simpa using hi
  have e1 : bs[i]? = some bs[i] := List.getElem?_eq_getElem hi'
  obtain ⟨ws, rw', pw, _⟩ := I.tuple (hit bs[i] (hpm.mem_iff.mp (List.getElem_mem hi')))
  refine ⟨bs[i], ws.toArray, κ bs[i], by rw [List.getElem?_map, e1]; rfl, by rw [List.getElem?_map, e1]; rfl, pw, dX rw', ?_⟩
  obtain ⟨o, ho, _⟩ := pw
  exact Heap.lt_size ho
 have kt : ∀ {h' : Heap}, (∀ b o, b ≠ s'.heap.objs.size -> (s'.heap.push (seqObj "list" (bs.map Value.ref).toArray 0)).get? b = some o -> h'.get? b = some o) -> ∀ {b : Addr} {ws : Array Value}, IsTup s.heap b ws -> IsTup h' b ws := by
  intro h' k b ws hh
  obtain ⟨o, ho, hcl⟩ := hh
  have e1 := old b o ho
  exact ⟨o, k _ _ (Nat.ne_of_lt (Heap.lt_size e1)) (Heap.get?_push_of_some _ e1), hcl⟩
 refine wpAny_bind (wpAny_holding (wpAny_call_entry slot_list_sort ⟨_, hoL, rfl⟩ entry_list_sort (iu (nss := bs.map κ) (lt := ltOf (bs.map κ)) hoL hvl (fun i j k h1 h2 => Sy.ju _ _ _ h1 h2) (fun i j h1 => Sy.e9 _ _ h1) (fun h' k => ?_) (fun κ' hκ h' k i j C hi hj hC => ?_) fun p T R => ⟨_, rfl, ?_⟩) (args_list_sort _)))
 ·exact fU (by rw [List.length_map, List.length_map]) fun i hi => by
   obtain ⟨b, ws, ns, e1, e2, h1, h2, _⟩ := item i hi
   exact ⟨b, ws, ns, e1, e2, kt k h1, h2⟩
 ·obtain ⟨b, ws, ns, e1, e2, hw, hi', _⟩ := item i hi
  obtain ⟨c, zs, ms, e3, e4, hz', hj', _⟩ := item j hj
  have g1 : (bs.map Value.ref).getD i Value.none = .ref b := by rw [List.getD_eq_getElem?_getD, e1]; rfl
  have g2 : (bs.map Value.ref).getD j Value.none = .ref c := by rw [List.getD_eq_getElem?_getD, e3]; rfl
  have g3 : (bs.map κ).getD i [] = ns := by rw [List.getD_eq_getElem?_getD, e2]; rfl
  have g4 : (bs.map κ).getD j [] = ms := by rw [List.getD_eq_getElem?_getD, e4]; rfl
  rw [g1, g2]
  refine m8 hκ (by show X.A.units + 1 + 1 < cLine; lia) (kt k hw) (kt k hz') hi' hj' ?_
  rw [kE, <- g3, <- g4]
  exact hC
 ·rw [List.length_map] at T R
  have hmem : ∀ i ∈ p.toList, i < bs.length := fun i hi => by
   have := T.perm.mem_iff.mp (by simpa using hi)
   simpa using this
  have eL : p.toList.map (fun i => (bs.map Value.ref).getD i Value.none) = (p.toList.map fun i => bs.getD i 0).map Value.ref := by
   rw [List.map_map]
   refine List.map_congr_left fun i hi => ?_
   have := hmem i hi
   simp [List.getD_eq_getElem?_getD, this]
  have hLm : ∀ b ∈ (p.toList.map fun i => bs.getD i 0), b ∈ L := fun b hb => by
   obtain ⟨i, hi, rfl⟩ := List.mem_map.mp hb
   have hi' := hmem i hi
   have : bs.getD i 0 = bs[i] := by simp [List.getD_eq_getElem?_getD, hi']
   rw [this]
   exact hpm.mem_iff.mp (List.getElem_mem hi')
  have hLs : (p.toList.map fun i => bs.getD i 0).map κ = zV (L.map κ) := by
   have h1 : p.toList.map (fun i => (bs.map κ).getD i []) = zV (bs.map κ) := m7 (by rw [List.length_map]; exact T) (by rw [List.length_map]; exact R)
   have h2 : zV (bs.map κ) = zV (L.map κ) := kF ((br _).trans (hpm.map κ)) (ef _)
   rw [<- h2, <- h1, List.map_map]
   refine List.map_congr_left fun i hi => ?_
   have := hmem i hi
   simp [List.getD_eq_getElem?_getD, this]
  have hlenL : (p.toList.map fun i => bs.getD i 0).length = bs.length := by rw [List.length_map, Array.length_toList, T.size]
  rw [eL]
  refine wpAny_pure ⟨_, rfl, .ref s'.heap.objs.size, upd H s'.heap.objs.size (.lst ((p.toList.map fun i => bs.getD i 0).map V.ref)), ?_, rfl, q _ _ hLm hLs (I.hok.fresh (Nat.le_of_lt hsz))⟩
  generalize p.toList.map (fun i => bs.getD i 0) = L' at hLm hLs hlenL ⊢
  have keep : ∀ b o, s.heap.get? b = some o -> (sortedHeap (s'.heap.push (seqObj "list" (bs.map Value.ref).toArray 0)) s'.heap.objs.size (bs.map Value.ref) (L'.map Value.ref).toArray).get? b = some o := fun b o e => by
   have e1 := old b o e
   have l1 : b < s'.heap.objs.size := Heap.lt_size e1
   rw [sortedHeap_old (Nat.ne_of_lt l1) (by rw [Heap.size_push]; exact Nat.lt_succ_of_lt l1)]
   exact Heap.get?_push_of_some _ e1
  obtain ⟨e2, he⟩ := sortedHeap_at (out := (L'.map Value.ref).toArray) hoL
  have I2 : Inv X pins σ (upd H s'.heap.objs.size (.lst (L'.map V.ref))) { s with heap := sortedHeap (s'.heap.push (seqObj "list" (bs.map Value.ref).toArray 0)) s'.heap.objs.size (bs.map Value.ref) (L'.map Value.ref).toArray, toks := s.toks } := I.laid keep (Nat.le_of_lt hsz) ⟨by
   rw [List.length_map, hlenL]
   rw [List.length_map] at hvl
   exact Nat.le_trans (Nat.le_of_lt hvl) (by decide), L'.map Value.ref, e2, j7 L', he⟩
  exact I2.same rfl hg hos
end
noncomputable def A9 : zq -> Option SD
 | [.list xs] => if xs.length < 63 then (AI xs).map fun nss => .ol ((zV (dedL nss)).map encT) else none
 | _ => none
@[simp] theorem jz (xs : zq) : A9 [.list xs] = if xs.length < 63 then (AI xs).map fun nss => .ol ((zV (dedL nss)).map encT) else none := rfl
theorem ni {K : W.Frag} {H : Hp} : ∀ {vs : List V} {nss : List (List Int)}, Dts K H vs (nss.map encT) -> ∃ bs : List Addr, vs = bs.map V.ref
 | [], _, _ => ⟨[], rfl⟩
 | v :: r, [], h => by cases h
 | v :: r, ns :: nss, h => by
  cases h with
  | cons h1 h2 =>
   obtain ⟨bs, rfl⟩ := ni (nss := nss) h2
   unfold encT at h1
   cases h1 with
   | tup q _ => exact ⟨_ :: bs, rfl⟩
theorem mn {w : World} {K : W.Frag} {mg : zr} : zN K mg A9 (fun vs H Q => Bc w K vs H fun v H2 => AK w K [v] H2 Q) := by
 intro G H vs ds res Q hg hd ho k
 unfold A9 at ho
 split at ho
 next xs =>
  split at ho
  next hl =>
   obtain ⟨nss, e, rfl⟩ := Option.map_eq_some_iff.mp ho
   obtain ⟨x, rfl, h1⟩ := dts1 hd
   have e2 := kI e
   subst e2
   rw [List.length_map] at hl
   cases h1 with
   | lst q r =>
    rename_i vs
    have hlen := r.len
    rw [List.length_map] at hlen
    obtain ⟨bs, rfl⟩ := ni r
    rw [List.length_map] at hlen
    have tup : ∀ {H' : Hp} (_ : Same G H') (i : Nat) (b : Addr) (ns : List Int), bs[i]? = some b -> nss[i]? = some ns -> SqT K H' b (ns.map V.int) := fun {H'} hg i b ns e1 e2 => by
     obtain ⟨d, e3, hd⟩ := Dts.get r (i := i) (v := V.ref b) (by rw [List.getElem?_map, e1]; rfl)
     rw [List.getElem?_map, e2] at e3
     cases e3
     unfold encT at hd
     cases hd with
     | tup q2 r2 =>
      have e4 := gM r2 (bq ns)
      subst e4
      exact hg.tup q2
    refine ⟨_, bs, nss, rfl, hg.sqr q, hlen, by lia, tup hg, fun κ hκ p hp => ⟨p, κ, dedT κ bs, rfl, aj, ?_, fun b hb => ?_, fun L' q2 hL' hS hq2 => ?_⟩⟩
    ·have := la nss
     rw [<- hκ, <- kY, List.length_map] at this
     rw [List.length_map] at this
     lia
    ·obtain ⟨i, hi, ei⟩ := List.getElem_of_mem (kZ hb)
     have e1 : bs[i]? = some b := by rw [List.getElem?_eq_getElem hi, ei]
     exact tup (hg.trans (ay hp)) i b (κ b) e1 (by rw [<- hκ, List.getElem?_map, e1]; rfl)
    ·have hne : q2 ≠ p := fun z => by
      subst z
      rw [aj] at hq2
      cases hq2
     have hq0 : H q2 = none := by rw [ah hne] at hq2; exact hq2
     rw [kY, hκ] at hS
     have hD : Dts K G (L'.map V.ref) ((zV (dedL nss)).map encT) := by
      rw [<- hS, List.map_map]
      clear hS
      induction L' with
      | nil => exact .nil
      | cons b r' ih =>
       refine .cons ?_ (ih fun c hc => hL' c (.tail _ hc))
       obtain ⟨i, hi, ei⟩ := List.getElem_of_mem (kZ (hL' b (.head _)))
       have e1 : bs[i]? = some b := by rw [List.getElem?_eq_getElem hi, ei]
       obtain ⟨d, e3, hd⟩ := Dts.get r (i := i) (v := V.ref b) (by rw [List.getElem?_map, e1]; rfl)
       rw [List.getElem?_map, <- hκ, List.getElem?_map, e1] at e3
       cases e3
       exact hd
     refine k _ _ G ((Grow.laidO hg hp).trans (Grow.laidO (hg.trans (ay hp)) hq2)) ⟨⟨q2, _, rfl, hg.free hq0, aj, ?_⟩, fun _ a ea => ?_⟩
     ·exact hD
     ·cases ea
      exact hq0
  next => cases ho
 next => cases ho
section
variable {X : Cx} {E : XK} {a : Expr} {oa : Opd} {p1 p2 pos1 pos2 : Pos}
theorem lh (hc : X.calm = true) (hu : X.A.units + 64 < cLine) (hm : X.mg "sorted" = none) (hm2 : X.mg "set" = none) (ha : SO X E a oa) (hg : Gl X "sorted" := by rfl) (hg2 : Gl X "set" := by rfl) (hst : starEach [a] X.env = [(false, eval a X.env)] := by rfl)
  (hst2 : starEach [.Call (.Name "set" p2) [a] [] pos2] X.env = [(false, eval (.Call (.Name "set" p2) [a] [] pos2) X.env)] := by rfl) : SE X E (.Call (.Name "sorted" p1) [.Call (.Name "set" p2) [a] [] pos2] [] pos1) (eOp A9 [oa]) :=
 (gC (lg hc hu) hg hm boot_sorted (cF (iG (oP hc hu) hg2 hm2 boot_set (aa ha ag hst) (by decide) (by decide) hst rfl) gB hst2) (by decide) (by decide) hst2 rfl).weak fun σ H Q q => by
  show tOs X.K X.mg E [oa] σ H (fun vs H1 => Bc X.w X.K vs H1 fun v H2 => AK X.w X.K [v] H2 Q)
  exact g8 (r := fun vs H Q => Bc X.w X.K vs H fun v H2 => AK X.w X.K [v] H2 Q) mn q
end
end L2
namespace L2
open Sy (litOn sayOn fitsB CaseOk allC)
variable [Tabs]
def ix (p : Int) : Nat := (absI p - 1).toNat
noncomputable def chAt (ch : List (Option Int)) (i : Nat) : Option Int := ch.getD i none
structure ChOk (n : Nat) (ch : List (Option Int)) : Prop where
 len : ch.length = n
 bit : ∀ v, some v ∈ ch -> v = 0 \/ v = 1
structure Clash (n : Nat) (ss : List (List Int)) (ch : List (Option Int)) (s : List Int) : Prop where
 ok : AE n s
 imp : ∀ c, CaseOk n c -> fitsB ss c = true -> sayOn c s = true
 fal : ∀ p ∈ s, chAt ch (ix p) = some (if 0 < p then 0 else 1)
end L2
namespace L2
open PySem PySem.Spec PyProof.Rows
inductive Sh where
 | i
 | t (f : Nat -> Sh)
noncomputable def Sh.le : Sh -> Nat -> Prop
 | .i, _ => True
 | .t _, 0 => False
 | .t f, n + 1 => ∀ j, (f j).le n
noncomputable def Row {α β : Type} (R : Nat -> α -> β -> Prop) : Nat -> List α -> List β -> Prop
 | _, [], [] => True
 | j, d :: ds, v :: vs => R j d v /\ Row R (j + 1) ds vs
 | _, _, _ => False
noncomputable def zZ {α β : Type} (f : Nat -> α -> β) : Nat -> List α -> List β
 | _, [] => []
 | j, d :: ds => f j d :: zZ f (j + 1) ds
noncomputable def NV (h : Heap) : Sh -> PyData -> Value -> Prop
 | .i, d, v => ∃ k t, d = .int k /\ v = .int k t
 | .t f, d, v => ∃ (a : Addr) (o : Obj) (items : Array Value) (m : Nat) (ds : zq), d = .tuple ds /\ v = .ref a /\ h.get? a = some o /\ o.cls = .type "tuple" /\ o.data = .seq items m /\ Row (fun j => NV h (f j)) 0 ds items.toList
noncomputable def Az : Sh -> PyData -> Int
 | .i, .int k => hashInt k
 | .t f, .tuple ds => reduceHash (Builtin.Tuple.tupleHashOf (zZ (fun j => Az (f j)) 0 ds))
 | _, _ => 0
noncomputable def AA : Sh -> PyData -> Nat
 | .i, _ => 1
 | .t f, .tuple ds => (zZ (fun j => AA (f j)) 0 ds).sum + 1
 | _, _ => 0
theorem Row.imp {α β : Type} {R S : Nat -> α -> β -> Prop} (f : ∀ j a b, R j a b -> S j a b) : ∀ {j : Nat} {xs : List α} {ys : List β}, Row R j xs ys -> Row S j xs ys
 | _, [], [], _ => trivial
 | _, _ :: _, _ :: _, h => ⟨f _ _ _ h.1, Row.imp f h.2⟩
 | _, [], _ :: _, h => h.elim
 | _, _ :: _, [], h => h.elim
theorem Row.uniq {α β : Type} {R : Nat -> α -> β -> Prop} (f : ∀ j a a' b, R j a b -> R j a' b -> a = a') : ∀ {j : Nat} {xs zs : List α} {ys : List β}, Row R j xs ys -> Row R j zs ys -> xs = zs
 | _, [], [], [], _, _ => rfl
 | _, _ :: _, _ :: _, _ :: _, h, g => by rw [f _ _ _ _ h.1 g.1, Row.uniq f h.2 g.2]
 | _, [], _ :: _, [], _, g => g.elim
 | _, _ :: _, _, [], h, _ => h.elim
 | _, [], _, _ :: _, h, _ => h.elim
 | _, _, [], _ :: _, _, g => g.elim
section
variable {prog : Program} {w : World} {A : Around} {E : zu} {s : Shared}
theorem NV.inj {h : Heap} : ∀ {sh : Sh} {d e : PyData} {v : Value}, NV h sh d v -> NV h sh e v -> d = e
 | .i, _, _, _, ⟨k, t, e1, e2⟩, ⟨k', t', e3, e4⟩ => by subst e1 e3 e2; cases e4; rfl
 | .t f, _, _, _, ⟨a, o, items, m, ds, e1, e2, h1, h2, h3, h4⟩, ⟨a', o', items', m', ds', g1, g2, k1, k2, k3, k4⟩ => by
  subst e1 g1 e2
  cases g2
  obtain rfl : o = o' := Option.some.inj (h1.symm.trans k1)
  rw [h3] at k3
  injection k3 with z1 _
  subst z1
  exact congrArg PyData.tuple (Row.uniq (R := fun j => NV h (f j)) (fun j x y v p q => NV.inj p q) h4 k4)
theorem NV.keeps {h h' : Heap} {d : Addr} {o : Obj} {es : Array DictEntry} {ep : Nat} (ho : h.get? d = some o) (hd : o.data = .dict es ep) (hs : Heap.SameBut d h h') : ∀ {sh : Sh} {x : PyData} {v : Value}, NV h sh x v -> NV h' sh x v
 | .i, _, _, z => z
 | .t f, _, _, ⟨a, o', items, m, ds, e1, e2, h1, h2, h3, h4⟩ => by
  have hne : a ≠ d := by
   rintro rfl
   obtain rfl : o' = o := Option.some.inj (h1.symm.trans ho)
   rw [hd] at h3; exact nomatch h3
  exact ⟨a, o', items, m, ds, e1, e2, (hs.2 a hne).trans h1, h2, h3, Row.imp (fun j x u p => NV.keeps ho hd hs p) h4⟩
theorem nj : ∀ {sh : Sh} {n : Nat} {A : Around} {E : zu} {s : Shared} {d : PyData} {v : Value} {Q : Int -> Shared -> Prop}, sh.le n -> A.units + n < cLine -> NV s.heap sh d v -> Q (Az sh d) { s with toks := s.toks + AA sh d } -> wpAny (model prog w) A (pyHash v) Q E s
 | .i, n, A, E, s, _, _, Q, _, _, ⟨k, t, e1, e2⟩, q => by subst e1 e2; exact wpAny_pyHash_int q
 | .t f, 0, _, _, _, _, _, _, l, _, _, _ => l.elim
 | .t f, n + 1, A, E, s, _, _, Q, l, hu, ⟨a, o, items, m, ds, e1, e2, ho, hc, hd, hi⟩, q => by
  subst e1 e2
  have hT : s.TypeIs (.ref a) "tuple" := ⟨o, ho, hc⟩
  have hu0 : A.units < cLine := by omega
  have hu1 : A.in1.units + n < cLine := by show A.units + 1 + n < cLine; omega
  unfold pyHash
  first | unfold pyHashByItsType | skip
  first | refine wpAny_bind (wpAny_cRoomFor_or (.inr hu0) ?_) | skip
  refine wpAny_bind (wpAny_specialOf hT F.slot_tuple_hash.lookup ?_)
  show wpAny _ _ (if (some (Value.builtin "tuple.__hash__") == some Value.none) = true then _ else _) Q E s
  rw [if_neg (by rw [beq_builtin_none]; exact Bool.false_ne_true)]
  refine wpAny_bind (wpAny_specialOf hT F.slot_tuple_hash.lookup ?_)
  show wpAny _ _ (callSpecialIfBoundUnlessNone? (.ref a) "__hash__" _ >>= _) Q E s
  refine wpAny_bind (wpAny_callSpecialIfBoundUnlessNone?_slot hT F.slot_tuple_hash (wpAny_call_entry F.slot_tuple_hash hT F.entry_tuple_hash ?_ (F.args_tuple_hash_1 _)))
  show wpAny _ _ (Builtin.Tuple.tupleItemsOf (.ref a) >>= _) _ _ s
  refine wpAny_bind (wpAny_tupleItemsOf ho hd ?_)
  refine wpAny_bind ?_
  rw [<- Array.forIn_toList]
  refine wpAny_forIn_list _
   (fun rest (b : Array Int) s' => ∃ j left k, Row (fun j => NV s.heap (f j)) j left rest /\ b.toList ++ zZ (fun j => Az (f j)) j left = zZ (fun j => Az (f j)) 0 ds /\ s' = { s with toks := s.toks + k } /\ k + (zZ (fun j => AA (f j)) j left).sum = (zZ (fun j => AA (f j)) 0 ds).sum)
   _ ?_ ?_ _ _ ⟨0, ds, 0, hi, rfl, rfl, Nat.zero_add _⟩
  ·rintro x rest b s' ⟨j, left, k, hl, hb, rfl, hk⟩
   cases left with
   | nil => exact hl.elim
   | cons d left =>
    obtain ⟨h1, h2⟩ := hl
    refine wpAny_bind (nj (sh := f j) (n := n) (s := { s with toks := s.toks + k }) (l j) hu1 h1 ?_)
    have fin : ∃ j' left' k', Row (fun j => NV s.heap (f j)) j' left' rest /\ (b.push (Az (f j) d)).toList ++ zZ (fun j => Az (f j)) j' left' = zZ (fun j => Az (f j)) 0 ds /\ ({ s with toks := s.toks + k + AA (f j) d } : Shared) = { s with toks := s.toks + k' } /\ k' + (zZ (fun j => AA (f j)) j' left').sum = (zZ (fun j => AA (f j)) 0 ds).sum :=
     ⟨j + 1, left, k + AA (f j) d, h2, by rw [<- hb]; simp [zZ], by rw [Nat.add_assoc], by rw [<- hk]; simp [zZ]; omega⟩
    first
     | exact wpAny_pure fin
     | exact wpAny_bind (wpAny_pure (wpAny_pure fin))
  ·rintro b s' ⟨j, left, k, hl, hb, rfl, hk⟩
   cases left with
   | cons _ _ => exact hl.elim
   | nil =>
    simp only [zZ, List.append_nil, List.sum_nil, Nat.add_zero] at hb hk
    show wpAny _ _ (retInt (Builtin.Tuple.tupleHashOf b.toList)) _ _ _
    rw [hb]
    refine wpAny_ret_mkInt ?_
    generalize hL : zZ (fun j => Az (f j)) 0 ds = L
    show wpAny _ _ (if (decide (-(2 : Int) ^ 63 <= Builtin.Tuple.tupleHashOf L) && decide (Builtin.Tuple.tupleHashOf L < 2 ^ 63)) = true then _ else _) Q E _
    have q' : Q (reduceHash (Builtin.Tuple.tupleHashOf L)) { s with toks := s.toks + (k + 1) } := by
     have := q
     simp only [Az, AA, hL, <- hk] at this
     exact this
    unfold reduceHash at q'
    by_cases hr : (decide (-(2 : Int) ^ 63 <= Builtin.Tuple.tupleHashOf L) && decide (Builtin.Tuple.tupleHashOf L < 2 ^ 63)) = true
    ·rw [if_pos hr]
     rw [if_pos hr] at q'
     exact wpAny_pure (by simpa [Nat.add_assoc] using q')
    ·rw [if_neg hr]
     rw [if_neg hr] at q'
     exact wpAny_bind (wpAny_rule (wpAny_pure (by simpa [Nat.add_assoc] using q')))
theorem Row.len {α β : Type} {R : Nat -> α -> β -> Prop} : ∀ {j : Nat} {xs : List α} {ys : List β}, Row R j xs ys -> xs.length = ys.length
 | _, [], [], _ => rfl
 | _, _ :: _, _ :: _, h => by rw [List.length_cons, List.length_cons, Row.len h.2]
 | _, [], _ :: _, h => h.elim
 | _, _ :: _, [], h => h.elim
noncomputable instance decPD : DecidableEq PyData := fun a b => Classical.propDecidable (a = b)
theorem tW : ∀ {sh : Sh} {n : Nat} {A : Around} {E : zu} {s : Shared} {x y : PyData} {u v : Value} {Q : Bool -> Shared -> Prop}, sh.le n -> A.units + n < cLine -> NV s.heap sh x u -> NV s.heap sh y v -> Q (decide (x = y)) s -> wpAny (model prog w) A (eqBool u v) Q E s
 | .i, n, A, E, s, _, _, _, _, Q, _, _, ⟨k, t, e1, e2⟩, ⟨k', t', e3, e4⟩, q => by
  subst e1 e2 e3 e4
  refine wpAny_eqBool_int ?_
  rwa [show (k == k') = decide (PyData.int k = PyData.int k') by by_cases e : k = k' <;> simp [e]]
 | .t f, 0, _, _, _, _, _, _, _, _, l, _, _, _, _ => l.elim
 | .t f, n + 1, A, E, s, x, y, u, v, Q, l, hu, hx, hy, q => by
  have hx0 := hx
  have hy0 := hy
  obtain ⟨a, oa, xs, na, x', e1, e2, hoa, hca, hda, hia⟩ := hx
  obtain ⟨b, ob, ys, nb, y', e3, e4, hob, hcb, hdb, hib⟩ := hy
  subst e1 e2 e3 e4
  have hTa : s.TypeIs (.ref a) "tuple" := ⟨oa, hoa, hca⟩
  have hTb : s.TypeIs (.ref b) "tuple" := ⟨ob, hob, hcb⟩
  have hu0 : A.units < cLine := by omega
  have hu1 : A.in1.units + n < cLine := by show A.units + 1 + n < cLine; omega
  have q' : Q (decide (x' = y')) s := by
   rwa [show decide (x' = y') = decide (PyData.tuple x' = PyData.tuple y') from decide_eq_decide.mpr ⟨fun e => by rw [e], fun e => by injection e⟩]
  unfold eqBool
  try with_reducible refine wpAny_holding ?_
  show wpAny _ _ (if (Value.ref a == Value.ref b) = true then _ else _) Q E s
  by_cases hab : (Value.ref a == Value.ref b) = true
  ·rw [if_pos hab]
   have e : a = b := by have := eq_of_beq hab; injection this
   subst e
   have := NV.inj hx0 hy0
   injection this with this
   subst this
   exact wpAny_bind (wpAny_rule (wpAny_pure (by simpa using q')))
  ·rw [if_neg hab]
   refine wpAny_bind (wpAny_richCompare_same_room (op := .Eq) hTa hTb F.slot_tuple_eq
    (wpAny_call_entry F.slot_tuple_eq hTa F.entry_tuple_eq ?_ (F.args_tuple_eq_2 _ _)) hu0)
   have key : ∀ {P : Fin -> Shared -> Prop} {E' : zu}, P (.done (.ret (.bool (decide (x' = y'))))) s -> wpAny (model prog w) A.in1 (Builtin.«tuple.__eq__» ⟨[.ref a, .ref b], []⟩) P E' s := by
    intro P E' hP
    show wpAny _ _ (isInstance (.ref b) (.type "tuple") >>= _) _ _ s
    refine wpAny_bind (wpAny_isInstance hTb isSubtype_tuple_tuple ?_)
    simp only [Bool.not_true, Bool.false_eq_true, if_false]
    refine wpAny_bind (wpAny_tupleItemsOf hoa hda ?_)
    refine wpAny_bind (wpAny_tupleItemsOf hob hdb ?_)
    refine wpAny_bind ?_
    refine wpAny_forIn_list _
     (fun rest r s' => r.1 = none /\ s' = s /\ ∃ j x2 y2 xs' ys', rest = List.zip xs' ys' /\ Row (fun j => NV s.heap (f j)) j x2 xs' /\ Row (fun j => NV s.heap (f j)) j y2 ys' /\ decide (x2 = y2) = decide (x' = y') /\ (xs'.length == ys'.length) = (xs.size == ys.size))
     _ ?_ ?_ _ _ ⟨rfl, rfl, 0, x', y', xs.toList, ys.toList, rfl, hia, hib, rfl, by simp⟩
    ·rintro ⟨u, v⟩ rest r s' ⟨hr, rfl, j, x2, y2, xs', ys', hz, hx', hy', hdec, hlen⟩
     cases xs' with
     | nil => simp at hz
     | cons u' xs'' =>
      cases ys' with
      | nil => simp at hz
      | cons v' ys'' =>
       cases x2 with
       | nil => exact hx'.elim
       | cons k1 x3 =>
        cases y2 with
        | nil => exact hy'.elim
        | cons k2 y3 =>
         simp only [List.zip_cons_cons, List.cons.injEq, Prod.mk.injEq] at hz
         obtain ⟨⟨rfl, rfl⟩, rfl⟩ := hz
         refine wpAny_bind (tW (sh := f j) (n := n) (l j) hu1 hx'.1 hy'.1 ?_)
         by_cases hk : k1 = k2
         ·subst hk
          rw [decide_eq_true rfl]
          simp only [Bool.not_true, Bool.false_eq_true, if_false]
          refine wpAny_pure ⟨rfl, rfl, j + 1, x3, y3, xs'', ys'', rfl, hx'.2, hy'.2, ?_, by simpa using hlen⟩
          rw [<- hdec]
          exact decide_eq_decide.mpr ⟨fun e => by rw [e], fun e => by injection e⟩
         ·rw [decide_eq_false hk]
          simp only [Bool.not_false, if_true]
          have hf : decide (x' = y') = false := by
           rw [<- hdec]
           exact decide_eq_false fun e => hk (by injection e)
          rw [hf] at hP
          exact wpAny_bind (wpAny_pure (wpAny_pure (wpAny_pure hP)))
    ·rintro ⟨r1, r2⟩ s' ⟨hr, rfl, j, x2, y2, xs', ys', hz, hx', hy', hdec, hlen⟩
     simp only at hr
     subst hr
     refine wpAny_pure ?_
     have hfin : (xs.size == ys.size) = decide (x' = y') := by
      rw [<- hdec, <- hlen, <- hx'.len, <- hy'.len]
      cases x2 with
      | nil =>
       cases y2 with
       | nil => simp
       | cons _ _ => simp
      | cons _ _ =>
       cases y2 with
       | nil => simp
       | cons _ _ =>
        have h1 := hx'.len
        have h2 := hy'.len
        cases xs' with
        | nil => simp at h1
        | cons _ _ => cases ys' with
         | nil => simp at h2
         | cons _ _ => simp at hz
     show P (.done (.ret (.bool (xs.size == ys.size)))) s'
     rw [hfin]; exact hP
   exact key ⟨_, rfl, (fun e => nomatch e), wpAny_truthy_bool q'⟩
theorem lj : ∀ {sh : Sh} {n : Nat} {A : Around} {E : zu} {s : Shared} {x : PyData} {u : Value} {Q : Bool -> Shared -> Prop}, sh.le n -> NV s.heap sh x u -> Q true s -> wpAny (model prog w) A (eqIsQuiet n u) Q E s
 | .i, n, A, E, s, _, _, Q, _, ⟨k, t, e1, e2⟩, q => by
  subst e1 e2
  rw [eqIsQuiet_byValue _ rfl]
  exact wpAny_pure q
 | .t f, 0, _, _, _, _, _, _, l, _, _ => l.elim
 | .t f, n + 1, A, E, s, _, _, Q, l, ⟨a, o, items, m, ds, e1, e2, ho, hc, hd, hi⟩, q => by
  subst e1 e2
  have hT : s.TypeIs (.ref a) "tuple" := ⟨o, ho, hc⟩
  unfold eqIsQuiet
  refine wpAny_bind (wpAny_specialOf hT F.slot_tuple_eq.lookup ?_)
  show wpAny _ _ (isInstance (.ref a) (.type "tuple") >>= _) _ _ s
  refine wpAny_bind (wpAny_isInstance hT isSubtype_tuple_tuple ?_)
  simp only [Bool.not_true, Bool.false_eq_true, if_false]
  refine wpAny_bind (wpAny_seqItems ho hd ?_)
  refine wpAny_bind ?_
  show wpAny _ _ (forIn items _ _) _ _ s
  rw [<- Array.forIn_toList]
  refine wpAny_forIn_list _ (fun rest r s' => r.1 = none /\ s' = s /\ ∃ j left, Row (fun j => NV s.heap (f j)) j left rest) _ ?_ ?_ _ _ ⟨rfl, rfl, 0, ds, hi⟩
  ·rintro v rest r s' ⟨hr, rfl, j, left, hall⟩
   cases left with
   | nil => exact hall.elim
   | cons d left =>
    refine wpAny_bind (lj (sh := f j) (n := n) (l j) hall.1 ?_)
    simp only [Bool.not_true, Bool.false_eq_true, if_false]
    exact wpAny_pure ⟨rfl, rfl, j + 1, left, hall.2⟩
  ·rintro ⟨r1, r2⟩ s' ⟨hr, rfl, _⟩
   simp only at hr
   subst hr
   exact wpAny_pure q
end
noncomputable def Ao (prog : Program) (w : World) (sh : Sh) (hl : sh.le 8) : HeapKind prog w PyData where
 is := fun h d a => NV h sh d (.ref a)
 hash := Az sh
 draws := AA sh
 room := fun A => A.units + 8 < cLine
 inj := fun x y => x.inj y
 keeps := fun x ho hd hs => NV.keeps ho hd hs x
 pyHash := fun hu x h => nj hl hu x h
 eqBool := fun hu x y h => tW hl hu x y h
 quiet := fun x h => lj hl x h
variable [Tabs]
noncomputable def RowP {α : Type} (R : Nat -> α -> Prop) : Nat -> List α -> Prop
 | _, [] => True
 | j, d :: ds => R j d /\ RowP R (j + 1) ds
noncomputable def Shp : Sh -> PyData -> Prop
 | .i, d => ∃ k, d = .int k
 | .t f, d => ∃ ds, d = .tuple ds /\ RowP (fun j => Shp (f j)) 0 ds
theorem qB {h : Heap} {K : W.Frag} {H : Hp} {f : Nat -> Sh} (ih : ∀ (j : Nat) {v : V} {d : PyData} {u : Value}, Dt K H v d -> Shp (f j) d -> RelV v u -> NV h (f j) d u) :
  ∀ {j : Nat} {vs : List V} {ds : zq} {us : List Value}, Dts K H vs ds -> RowP (fun j => Shp (f j)) j ds -> Vals vs us -> Row (fun j => NV h (f j)) j ds us
 | _, _, _, _, .nil, _, .nil => trivial
 | _, _, _, _, .cons x r, p, .cons a b => ⟨ih _ x p.1 a, qB ih r p.2 b⟩
theorem ll {X : Cx} {pins : zt} {σ : St} {H : Hp} {s : Shared} (I : Inv X pins σ H s) : ∀ {sh : Sh} {v : V} {d : PyData} {u : Value}, Dt X.K H v d -> Shp sh d -> RelV v u -> NV s.heap sh d u
 | .i, _, _, u, x, ⟨k, e⟩, r => by
  subst e
  cases x
  obtain ⟨t, e⟩ := (show ∃ t, u = Value.int k t from r)
  exact ⟨k, t, rfl, e⟩
 | .t f, _, _, u, x, ⟨ds, e, p⟩, r => by
  subst e
  cases x with
  | @tup a xs _ q z =>
   cases (show u = Value.ref a from r)
   obtain ⟨its, rv, ⟨o, h1, h2, n, h4⟩, _⟩ := I.tuple (.of q)
   exact ⟨a, o, its.toArray, n, ds, rfl, rfl, h1, h2, h4, by simpa using qB (fun j {_ _ _} x p r => ll I x p r) z p rv⟩
noncomputable def AG (P : Program) (w : World) (sh : Sh) (hl : sh.le 8) (a : Addr) (xs : List (PyData × Addr × Value)) : Heap -> Prop := fun h =>
 (a == sysModules) = false /\ (xs.map (·.1)).Nodup /\ ∃ o es ep, h.get? a = some o /\ o.ExactDict /\ o.data = .dict es ep /\ es.toList = xs.map (entryOfKey (Ao P w sh hl))
abbrev MeO (P : Program) (w : World) (sh : Sh) (hl : sh.le 8) (a : Addr) (xs : List (PyData × Addr × Value)) : HO := .ext (AG P w sh hl a xs)
noncomputable def zS (K : W.Frag) (sh : Sh) (Rt : PyData -> PyData -> Prop) (G : Hp) (xs : List (PyData × Addr × Value)) : Prop :=
 ∀ x ∈ xs, Dt K G (.ref x.2.1) x.1 /\ Shp sh x.1 /\ ∃ v d, RelV v x.2.2 /\ Dt K G v d /\ Rt x.1 d
theorem zS.mono {K : W.Frag} {sh : Sh} {Rt : PyData -> PyData -> Prop} {G G' : Hp} {xs : List (PyData × Addr × Value)} (s : Same G G') (h : zS K sh Rt G xs) : zS K sh Rt G' xs := fun x hx =>
 let ⟨h1, h2, v, d, h3, h4, h5⟩ := h x hx; ⟨h1.mono s, h2, v, d, h3, h4.mono s, h5⟩
theorem oR {xs : List (PyData × Addr × Value)} {k : PyData} {p : Addr × Value} (h : atKey xs k = some p) : (k, p) ∈ xs := by
 unfold atKey at h
 obtain ⟨x, hx, e⟩ := Option.map_eq_some_iff.mp h
 have h1 := List.mem_of_find?_eq_some hx
 have h2 := List.find?_some hx
 have h3 : x.1 = k := of_decide_eq_true h2
 subst h3 e
 exact h1
theorem lq (xs : List (PyData × Addr × Value)) (k : PyData) (a : Addr) (v : Value) : (storedH xs k a v).length <= xs.length + 1 := by
 unfold storedH
 split <;> simp
theorem lr {xs : List (PyData × Addr × Value)} {k : PyData} {a : Addr} {v : Value} {x : PyData × Addr × Value} (h : x ∈ storedH xs k a v) : x ∈ xs \/ (x.1 = k /\ x.2.2 = v /\ ((∃ v', (k, x.2.1, v') ∈ xs) \/ x.2.1 = a)) := by
 unfold storedH at h
 split at h
 ·obtain ⟨y, hy, rfl⟩ := List.mem_map.mp h
  unfold putAt
  split
  next e => exact .inr ⟨e, rfl, .inl ⟨y.2.2, by rw [<- e]; exact hy⟩⟩
  next => exact .inl hy
 ·rcases List.mem_append.mp h with z | z
  ·exact .inl z
  ·have : x = (k, a, v) := by simpa using z
   subst this
   exact .inr ⟨rfl, rfl, .inr rfl⟩
theorem mq (xs : List (PyData × Addr × Value)) (k : PyData) (a : Addr) (v : Value) : (atKey (storedH xs k a v) k).isSome = true := by
 unfold storedH
 split
 next h =>
  unfold atKey at h ⊢
  rw [Option.isSome_map, List.find?_isSome] at h ⊢
  obtain ⟨y, hy, e⟩ := h
  exact ⟨putAt k v y, List.mem_map.mpr ⟨y, hy, rfl⟩, by
   have e' : y.1 = k := of_decide_eq_true e
   unfold putAt
   rw [if_pos e']
   exact decide_eq_true e'⟩
 next h =>
  unfold atKey
  rw [Option.isSome_map, List.find?_isSome]
  exact ⟨(k, a, v), by simp, by simp⟩
theorem zS.put {K : W.Frag} {sh : Sh} {Rt : PyData -> PyData -> Prop} {G : Hp} {xs : List (PyData × Addr × Value)} {k d : PyData} {b : Addr} {v : V} {r : Value} (h : zS K sh Rt G xs) (hk : Dt K G (.ref b) k) (hs : Shp sh k) (rv : RelV v r) (hv : Dt K G v d) (hr : Rt k d) : zS K sh Rt G (storedH xs k b r) := fun x hx => by
 rcases lr hx with z | ⟨e1, e2, z⟩
 ·exact h x z
 ·obtain ⟨x1, x2, x3⟩ := x
  dsimp only at e1 e2 z ⊢
  subst e1 e2
  refine ⟨?_, hs, v, d, rv, hv, hr⟩
  rcases z with ⟨v', z⟩ | z
  ·exact (h _ z).1
  ·subst z; exact hk
section
variable {X : Cx} {pins : zt} {σ : St} {G H : Hp} {s : Shared} {sh : Sh} {hl : sh.le 8} {a b : Addr} {xs : List (PyData × Addr × Value)} {k d : PyData} {Rt : PyData -> PyData -> Prop} {A : Around} {E : zu}
theorem jA (I : Inv X pins σ H s) (e : H a = some (MeO X.prog X.w sh hl a xs)) (g : Same G H) (mo : zS X.K sh Rt G xs) : (a == sysModules) = false /\ s.heap.DictOfH (Ao X.prog X.w sh hl) a xs := by
 obtain ⟨⟨h0, h1, o, es, ep, h2, h3, h4, h5⟩, _, _⟩ := (show zJ X.prog X.w H s.heap a (MeO X.prog X.w sh hl a xs) from I.hok a _ e)
 refine ⟨h0, o, es, ep, h2, h3, h4, h5, fun x hx => ?_, h1⟩
 obtain ⟨q1, q2, _⟩ := mo x hx
 exact ll I (q1.mono g) q2 rfl
theorem lu {P : Program} {w : World} {H' : Hp} {h' : Heap} (hd : (a == sysModules) = false) (dd : h'.DictOfH (Ao P w sh hl) a xs) : zJ P w H' h' a (MeO P w sh hl a xs) := by
 obtain ⟨o, es, ep, h1, h2, h3, h4, h5, h6⟩ := dd
 refine ⟨⟨hd, h6, o, es, ep, h1, h2, h3, h4⟩, ⟨o, h1⟩, ?_⟩
 rintro m1 m2 ⟨g0, g1, o, es, ep, g2, g3⟩ st
 exact ⟨g0, g1, o, es, ep, st o g2, g3⟩
theorem mr {P : Program} {w : World} (hu : A.units + 64 < cLine) : (Ao P w sh hl).room A.in1 := by
 show A.units + 1 + 8 < cLine
 omega
noncomputable def BV (P : Program) (w : World) (K : W.Frag) (sh : Sh) (hl : sh.le 8) : R2 := fun y x H Q => ∃ (a b : Addr) (xs : List (PyData × Addr × Value)) (k : PyData) (G : Hp) (Rt : PyData -> PyData -> Prop), x = .ref a /\ y = .ref b /\ H a = some (MeO P w sh hl a xs) /\ Same G H /\ zS K sh Rt G xs /\ Dt K G (.ref b) k /\ Shp sh k /\ Q (.bl (!(atKey xs k).isSome)) H
theorem sO (hu : X.A.units + 64 < cLine) : OpR X (compareOp .NotIn) (BV X.prog X.w X.K sh hl) := by
 intro pins s σ H x y v u Q I rx ry h
 obtain ⟨a, b, xs, k, G, Rt, rfl, rfl, ha, g, mo, hk, hs, q⟩ := h
 cases (show v = Value.ref b from rx)
 cases (show u = Value.ref a from ry)
 obtain ⟨h0, dd⟩ := jA I ha g mo
 refine wpAny_notIn_heap (knd := Ao X.prog X.w sh hl) (mr hu) (ll I (hk.mono g) hs rfl) h0 dd ?_
 exact ⟨.bl _, H, I.tok _, rfl, q⟩
noncomputable def BC (P : Program) (w : World) (K : W.Frag) (sh : Sh) (hl : sh.le 8) (td ty : TE) : TE := fun σ H Q => td σ H fun x H1 => ty σ H1 fun y H2 => ∃ (a b : Addr) (xs : List (PyData × Addr × Value)) (k : PyData) (G : Hp) (Rt : PyData -> PyData -> Prop), x = .ref a /\ y = .ref b /\ H2 a = some (MeO P w sh hl a xs) /\ Same G H2 /\ zS K sh Rt G xs /\ Dt K G (.ref b) k /\ Shp sh k /\ (atKey xs k).isSome = true /\
 ∀ v d, Dt K G v d -> Rt k d -> Q v H2
theorem sP {o i : Expr} {pos : Pos} {td ty : TE} (hu : X.A.units + 64 < cLine) (ho : PE X o td) (hi : PE X i ty) (hs : NoSl i) : PE X (.Subscript o i pos) (BC X.prog X.w X.K sh hl td ty) := by
 intro pins s σ H Q I h
 refine rE PySem.F.slot_dict_getitem.lookup hs (thn (ho pins s σ H _ I h) fun u s1 ⟨x, H1, I1, rx, q1⟩ => thn (hi pins s1 σ H1 _ I1 q1) fun iv s2 ⟨y, H2, I2, ry, a, b, xs, k, G, Rt, ex, ey, ha, g, mo, hk, hsh, hsome, q2⟩ => ?_)
 subst ex ey
 obtain rfl : u = Value.ref a := rx
 obtain rfl : iv = Value.ref b := ry
 obtain ⟨h0, dd⟩ := jA I2 ha g mo
 obtain ⟨p, hp⟩ := Option.isSome_iff_exists.mp hsome
 obtain ⟨_, _, v, d, rv, hv, hr⟩ := mo _ (oR hp)
 exact ⟨dd.typeIs, wpAny_getItem_heap (mr hu) (ll I2 (hk.mono g) hsh rfl) dd hp ⟨v, H2, I2.tok _, rv, q2 v d hv hr⟩⟩
noncomputable def BW (P : Program) (w : World) (K : W.Frag) (sh : Sh) (hl : sh.le 8) (td ty tv : TE) : TS := fun D σ H => tv σ H fun v H1 => td σ H1 fun x H2 => ty σ H2 fun y H3 => ∃ (a b : Addr) (xs : List (PyData × Addr × Value)) (k d : PyData) (G : Hp) (Rt : PyData -> PyData -> Prop), x = .ref a /\ y = .ref b /\ H3 a = some (MeO P w sh hl a xs) /\ Same G H3 /\ zS K sh Rt G xs /\ Dt K G (.ref b) k /\ Shp sh k /\ Dt K G v d /\ Rt k d /\ xs.length <= sizeLine /\
 ∀ xs', zS K sh Rt G xs' -> (atKey xs' k).isSome = true -> xs'.length <= xs.length + 1 -> D.nx σ (upd H3 a (MeO P w sh hl a xs'))
theorem sQ {o i value : Expr} {pos pos' : Pos} {td ty tv : TE} (hu : X.A.units + 64 < cLine) (ho : PE X o td) (hi : PE X i ty) (hv : PE X value tv) (hs : swapsWith value (some (.Subscript o i pos')) pos.line X.env = pure false) : PS X (.Assign [.Subscript o i pos'] value pos) (BW X.prog X.w X.K sh hl td ty tv) := by
 intro pins s σ H D I h
 refine wpAny_Assign_Subscript (thn (hv pins s σ H _ I h) fun r s1 ⟨v, H1, I1, rv, q1⟩ => thn (ho pins s1 σ H1 _ I1 q1) fun u s2 ⟨x, H2, I2, rx, q2⟩ => thn (hi pins s2 σ H2 _ I2 q2) fun iv s3 ⟨y, H3, I3, ry, a, b, xs, k, d, G, Rt, ex, ey, ha, g, mo, hk, hsh, hd, hr, hsz, q3⟩ => ?_) hs
 subst ex ey
 obtain rfl : u = Value.ref a := rx
 obtain rfl : iv = Value.ref b := ry
 obtain ⟨h0, dd⟩ := jA I3 ha g mo
 refine wpAny_setItem_heap (hsz := hsz) (mr hu) (ll I3 (hk.mono g) hsh rfl) dd fun h' dd' hsb => ?_
 have he : ∃ q, h'.get? a = some q := let ⟨q, _, _, hq, _⟩ := dd'; ⟨q, hq⟩
 exact ⟨σ, _, jg I3 (by rw [ha]; exact True.intro) hsb he (lu h0 dd'), q3 _ (mo.put hk hsh rv hd hr) (mq _ _ _ _) (lq _ _ _ _)⟩
noncomputable def AO (P : Program) (w : World) (sh : Sh) (hl : sh.le 8) : TE := fun _ H Q => ∀ p, H p = none -> Q (.ref p) (upd H p (MeO P w sh hl p []))
theorem qC {pos : Pos} : PE X (.Dict [] [] pos) (AO X.prog X.w sh hl) := fun pins s σ H Q I h =>
 wpAny_Dict_empty ⟨.ref s.heap.objs.size, _, I.laid (a := s.heap.objs.size) (o := MeO X.prog X.w sh hl s.heap.objs.size []) (t' := s.toks) (fun _ _ q => Heap.get?_push_of_some _ q) (Nat.le_refl _) (lu (beq_eq_false_iff_ne.mpr (Ne.symm (Nat.ne_of_lt I.big))) (Heap.DictOfH.new s.heap)), rfl, h _ (I.hok.fresh (Nat.le_refl _))⟩
end
abbrev Mxs := List (PyData × Addr × Value)
structure MP where
 sh : Sh
 hl : sh.le 8
 Rt : PyData -> PyData -> PyData -> Prop
theorem qD {P : Program} {w : World} {sh : Sh} {hl : sh.le 8} {a : Addr} {xs : Mxs} {C : Value} : MeO P w sh hl a xs ≠ excO a C := by
 intro e
 have e1 : AG P w sh hl a xs = fun h => ∃ o, h.get? a = some o /\ o.cls = C := by
  unfold excO at e
  injection e
 have h2 := congrFun e1 ⟨Array.replicate (a + 1) { cls := C }, {}⟩
 have hg : Heap.get? ⟨Array.replicate (a + 1) { cls := C }, {}⟩ a = some { cls := C } := by simp [Heap.get?]
 have h3 : AG P w sh hl a xs ⟨Array.replicate (a + 1) { cls := C }, {}⟩ := by
  rw [h2]
  exact ⟨_, hg, rfl⟩
 obtain ⟨_, _, o, es, ep, g1, g2, g3, _⟩ := h3
 rw [hg] at g1
 cases g1
 cases g3
section
variable {K : W.Frag} {mg : zr} {G0 H0 G H : Hp} {σ : St} {δ : DEnv} {a : Addr} {φ φ' : Heap -> Prop}
theorem Rel.memo (hT : Tabs.ts = []) (R : Rel K mg G0 H0 G H σ δ) (ha : H0 a = some (.ext φ)) (hx : ∀ C, HO.ext φ ≠ excO a C) (hG : G a = none) : Rel K mg G0 (upd H0 a (.ext φ')) G (upd H a (.ext φ')) σ δ := by
 have hHa : H a = some (.ext φ) := R.g.hh.at_ _ _ ha (by intro _ z; cases z)
 refine ⟨⟨⟨fun b o e n => ?_, fun b hb => ?_, fun _ P hP => ?_⟩, R.g.gg, fun b u e => ?_, fun b hb => ?_, R.g.nt⟩, R.len, fun i sd e => ?_, fun i sd b e ho hs => ?_, R.ap, ?_, R.n0⟩
 ·by_cases z : b = a
  ·subst z; rw [aj] at e ⊢; exact e
  ·rw [ah z] at e ⊢; exact R.g.hh.at_ b o e n
 ·by_cases z : b = a
  ·subst z; rw [aj]; simp
  ·rw [ah z] at hb ⊢; exact R.g.hh.nn b hb
 ·rw [hT] at hP; exact absurd hP (by simp)
 ·rw [ah (ao e hG)]; exact R.g.gh b u e
 ·by_cases z : b = a
  ·subst z; exact R.g.nb b (by rw [ha]; simp)
  ·rw [ah z] at hb; exact R.g.nb b hb
 ·obtain ⟨v, h1, h2⟩ := R.sl i sd e
  refine ⟨v, h1, ?_⟩
  cases sd with
  | sh d => exact h2
  | ol ds =>
   obtain ⟨b, xs, rfl, q1, q2, q3⟩ := h2
   exact ⟨b, xs, rfl, q1, (ah (fun z => by rw [z, hHa] at q2; cases q2)).trans q2, q3⟩
  | od ds =>
   obtain ⟨b, xs, rfl, q1, q2, q3⟩ := h2
   exact ⟨b, xs, rfl, q1, (ah (fun z => by rw [z, hHa] at q2; cases q2)).trans q2, q3⟩
  | ex x =>
   obtain ⟨b, C, rfl, q1, q2⟩ := h2
   exact ⟨b, C, rfl, q1, (ah (fun z => by subst z; rw [hHa] at q2; exact hx C (Option.some.inj q2))).trans q2⟩
 ·have h0 := R.fr i sd b e ho hs
  rw [ah (fun z => by rw [z, ha] at h0; cases h0)]
  exact h0
 ·intro P hP
  rw [hT] at hP
  exact absurd hP (by simp)
end
structure MR (P : Program) (w : World) (K : W.Frag) (mg : zr) (M : MP) (kd : PyData) (j : Nat) (a : Addr) (m : Nat) (G0 H0 G H : Hp) (σ : St) (δ : DEnv) (xs : Mxs) : Prop where
 rel : Rel K mg G0 (upd H0 a (MeO P w M.sh M.hl a xs)) G H σ δ
 ga : G0 a = none
 ok : zS K M.sh (M.Rt kd) G xs
 le : xs.length <= m
 at_ : σ[j]? = some (some (.ref a))
section
variable {P : Program} {w : World} {K : W.Frag} {mg : zr} {M : MP} {kd : PyData} {j : Nat} {a : Addr} {m : Nat} {G0 H0 G H : Hp} {σ : St} {δ : DEnv} {xs : Mxs}
theorem MR.ha (R : MR P w K mg M kd j a m G0 H0 G H σ δ xs) : H a = some (MeO P w M.sh M.hl a xs) := R.rel.g.hh.at_ _ _ aj (by intro _ z; cases z)
theorem MR.gn (R : MR P w K mg M kd j a m G0 H0 G H σ δ xs) : G a = none := (R.rel.g.nb a (by rw [aj]; simp)).trans R.ga
theorem MR.step {G' H' : Hp} {δ' : DEnv} (R : MR P w K mg M kd j a m G0 H0 G H σ δ xs) (R' : Rel K mg G0 (upd H0 a (MeO P w M.sh M.hl a xs)) G' H' σ δ') (s : Same G G') : MR P w K mg M kd j a m G0 H0 G' H' σ δ' xs := ⟨R', R.ga, R.ok.mono s, R.le, R.at_⟩
theorem MR.wr (hT : Tabs.ts = []) {xs' : Mxs} {m' : Nat} (R : MR P w K mg M kd j a m G0 H0 G H σ δ xs) (ok : zS K M.sh (M.Rt kd) G xs') (le : xs'.length <= m') : MR P w K mg M kd j a m' G0 H0 G (upd H a (MeO P w M.sh M.hl a xs')) σ δ xs' :=
 ⟨by have := R.rel.memo hT (φ' := AG P w M.sh M.hl a xs') aj (fun C => qD) R.gn; rw [jd] at this; exact this, R.ga, ok, le, R.at_⟩
theorem MR.more {m' : Nat} (R : MR P w K mg M kd j a m G0 H0 G H σ δ xs) (h : m <= m') : MR P w K mg M kd j a m' G0 H0 G H σ δ xs := ⟨R.rel, R.ga, R.ok, Nat.le_trans R.le h, R.at_⟩
end
section
variable (P : Program) (w : World) (K : W.Frag) (mg : zr) (M : MP) (kd : PyData) (j : Nat)
noncomputable def PoEM (a : Addr) (m : Nat) (G0 H0 G : Hp) (σ : St) (Q : VK) : Out (SD × DEnv) -> Prop
 | .ok p => ∀ v H' G' xs', MR P w K mg M kd j a m G0 H0 G' H' σ p.2 xs' -> Same G G' -> RR K mg (upd H0 a (MeO P w M.sh M.hl a xs')) G' H' σ p.2 v p.1 -> Q v H'
 | _ => False
noncomputable def tEM (m m' : Nat) (f : DE) : TE := fun σ H Q => ∃ a G0 H0 G δ xs, MR P w K mg M kd j a m G0 H0 G H σ δ xs /\ PoEM P w K mg M kd j a m' G0 H0 G σ Q (f δ)
noncomputable def PoSM (a : Addr) (m : Nat) (G0 H0 G : Hp) (D : Ends) : SOut -> Prop
 | .nx δ' => ∀ σ' H' G' xs', MR P w K mg M kd j a m G0 H0 G' H' σ' δ' xs' -> Same G G' -> D.nx σ' H'
 | .rt r => ∀ v H' G' xs', Grow G0 (upd H0 a (MeO P w M.sh M.hl a xs')) G' H' -> zS K M.sh (M.Rt kd) G' xs' -> xs'.length <= m -> VN K mg (upd H0 a (MeO P w M.sh M.hl a xs')) G' H' v r -> D.rt v H'
 | _ => False
noncomputable def tSM (m m' : Nat) (f : DS) : TS := fun D σ H => ∃ a G0 H0 G δ xs, MR P w K mg M kd j a m G0 H0 G H σ δ xs /\ PoSM P w K mg M kd j a m' G0 H0 G D (f δ)
end
theorem PoSM.mono {P : Program} {w : World} {K : W.Frag} {mg : zr} {M : MP} {kd : PyData} {j : Nat} {a : Addr} {m m' : Nat} {G0 H0 G G1 : Hp} {D : Ends} {x : SOut} (hm : m' <= m) (s : Same G G1) (h : PoSM P w K mg M kd j a m G0 H0 G D x) : PoSM P w K mg M kd j a m' G0 H0 G1 D x := by
 cases x with
 | nx δ => exact fun σ' H' G' xs' R' s' => h σ' H' G' xs' (R'.more hm) (s.trans s')
 | rt r => exact fun v H' G' xs' g ok le vn => h v H' G' xs' g ok (Nat.le_trans le hm) vn
 | _ => exact h
abbrev SEM (X : Cx) (M : MP) (kd : PyData) (j m m' : Nat) (e : Expr) (f : DE) : Prop := PE X e (tEM X.prog X.w X.K X.mg M kd j m m' f)
abbrev S1M (X : Cx) (M : MP) (kd : PyData) (j m m' : Nat) (st : Stmt) (f : DS) : Prop := PS X st (tSM X.prog X.w X.K X.mg M kd j m m' f)
abbrev SSM (X : Cx) (M : MP) (kd : PyData) (j m m' : Nat) (st : List Stmt) (f : DS) : Prop := PSs X st (tSM X.prog X.w X.K X.mg M kd j m m' f)
section
variable {X : Cx} {M : MP} {kd : PyData} {j m m1 m' : Nat} {E : XK} {e c : Expr} {fe : DE} {f g : DS} {tf : DT} {st : Stmt} {rest body body2 : List Stmt} {pos pos' : Pos} {x : Str}
theorem sem (h : SE X E e fe) : SEM X M kd j m m e fe := h.weak fun σ H Q ⟨a, G0, H0, G, δ, xs, R, p⟩ => by
 refine ⟨G0, _, G, δ, R.rel, ?_⟩
 cases e : fe δ with
 | ok q => rw [e] at p; exact fun v H' G' R' s rr => p v H' G' xs (R.step R' s) s rr
 | exc x => rw [e] at p; exact p.elim
 | bad => rw [e] at p; exact p
theorem gq (i : Nat) (hN : X.N.Nodup) (he : SEM X M kd j m m' e fe) (hij : j ≠ i) (hi : X.N[i]? = some x := by rfl) (hx : Loc X.env.scope x := by first | exact Or.inl rfl | exact Or.inr rfl) (hs : swapsWith e (some (.Name x pos')) pos.line X.env = pure false := by rfl)
  (hf : X.fn x = true \/ X.env.scope.names.lookup x = some .local := by first | exact .inl rfl | exact .inr rfl | assumption) : S1M X M kd j m m' (.Assign [.Name x pos'] e pos) (sAsg i fe) := (pf hN hi hx he hs hf).weak fun D σ H ⟨a, G0, H0, G, δ, xs, R, p⟩ => by
 refine ⟨a, G0, H0, G, δ, xs, R, ?_⟩
 unfold sAsg at p
 cases e : fe δ with
 | ok q =>
  rw [e] at p
  dsimp only at p
  intro v H' G' xs' R' s rr
  split at p
  next hi =>
   refine p _ H' G' xs' ⟨R'.rel.store (by rw [<- R'.rel.len]; exact hi) rr.less, R'.ga, R'.ok, R'.le, ?_⟩ s
   rw [List.getElem?_set_ne (Ne.symm hij)]
   exact R'.at_
  next => exact p.elim
 | exc x => rw [e] at p; exact p.elim
 | bad => rw [e] at p; exact p.elim
theorem jB (he : SEM X M kd j m m' e fe) : S1M X M kd j m m' (.Return (some e) pos) (sRet fe) := (lL he).weak fun D σ H ⟨a, G0, H0, G, δ, xs, R, p⟩ => by
 refine ⟨a, G0, H0, G, δ, xs, R, ?_⟩
 unfold sRet at p
 cases e : fe δ with
 | ok q => rw [e] at p; exact fun v H' G' xs' R' s rr => p v H' G' xs' R'.rel.g R'.ok R'.le rr.new
 | exc x => rw [e] at p; exact p.elim
 | bad => rw [e] at p; exact p.elim
theorem nk : SSM X M kd j m m [] zK := je.weak fun D σ H ⟨a, G0, H0, G, δ, xs, R, p⟩ => p σ H G xs R (.refl _)
theorem gs (h : S1M X M kd j m m' st f) : SSM X M kd j m m' [st] f := g9 h
theorem bQ (h1 : S1M X M kd j m m1 st f) (h2 : SSM X M kd j m1 m' rest g) (hm : m1 <= m') : SSM X M kd j m m' (st :: rest) (sSeq f g) := (gz h1 h2).weak fun D σ H ⟨a, G0, H0, G, δ, xs, R, p⟩ => by
 refine ⟨a, G0, H0, G, δ, xs, R, ?_⟩
 unfold sSeq at p
 cases e : f δ with
 | nx δ' => rw [e] at p; exact fun σ' H' G' xs' R' s => ⟨a, G0, H0, G', δ', xs', R', p.mono (Nat.le_refl _) s⟩
 | rt r => rw [e] at p; exact PoSM.mono hm (.refl _) p
 | bk δ => rw [e] at p; exact p
 | ct δ => rw [e] at p; exact p
 | exc x => rw [e] at p; exact p
 | bad => rw [e] at p; exact p
theorem qE (hc : ST X E c tf) (ha : SSM X M kd j m m' body f) (hb : SSM X M kd j m m' body2 g) : S1M X M kd j m m' (.If c body body2 pos) (sIf tf f g) := (pe hc ha hb).weak fun D σ H ⟨a, G0, H0, G, δ, xs, R, p⟩ => by
 refine ⟨G0, _, G, δ, R.rel, ?_⟩
 unfold sIf at p
 cases e : tf δ with
 | ok q =>
  rw [e] at p
  dsimp only at p
  intro H' G' R' s
  split
  next hb => rw [if_pos hb] at p; exact ⟨a, G0, H0, G', q.2, xs, R.step R' s, p.mono (Nat.le_refl _) s⟩
  next hb => rw [if_neg hb] at p; exact ⟨a, G0, H0, G', q.2, xs, R.step R' s, p.mono (Nat.le_refl _) s⟩
 | exc x => rw [e] at p; exact p.elim
 | bad => rw [e] at p; exact p.elim
theorem sR {o : Opd} {px apos cpos : Pos} (i : Nat) (he : SO X E e o) (hN : X.N[i]? = some x := by rfl) (hv : Vis X.env.scope x := by first | exact Or.inl rfl | exact Or.inr (Or.inl rfl) | exact Or.inr (Or.inr rfl)) (hd : (x == ("__debug__" : Str)) = false := by decide) (hcd : (x == ("__classdict__" : Str)) = false := by decide)
  (hs : swapsWith (.Call (.Attribute (.Name x px) "append" apos) [e] [] cpos) none pos.line X.env = pure false := by rfl) (hst : starEach [e] X.env = [(false, eval e X.env)] := by rfl)
  (hbase : attributeBase (.Name x px) "append" X.env (eval (.Name x px) X.env) = eval (.Name x px) X.env := by rfl)
  (hfew : ((backTo cpos (starEach [e] X.env)).all (fun x => !x.1) && (backToKw cpos (keywordEach [] X.env)).all (fun x => x.1.isSome) && decide (([e] : List Expr).length + ([] : List Keyword).length + (if ([] : List Keyword).isEmpty then 0 else 1) < 30)) = true := by rfl)
  (hline : (apos.endLine == cpos.line) = true := by rfl) : S1M X M kd j m m (.Expr (.Call (.Attribute (.Name x px) "append" apos) [e] [] cpos) pos) (sMut Aw i o) :=
 (mG (t9 PySem.F.plainAttrs_list PySem.F.slot_list_append PySem.F.type_list_append iI (dU hN hv hd hcd) (aa he ag hst) hbase hfew hline hst rfl) hs).weak fun D σ H ⟨a, G0, H0, G, δ, xs, R, p⟩ => by
  have t : tS X.K X.mg E (sMut Aw i o) { D with nx := fun σ' H' => σ' = σ -> D.nx σ' H' } σ H := by
   refine ⟨G0, _, G, δ, R.rel, ?_⟩
   unfold sMut at p ⊢
   split
   next => exact False.elim (by rename_i q; rw [q] at p; exact p)
   next q =>
    rw [q] at p
    dsimp only at p
    cases e1 : opds [o] δ with
    | exc x => rw [e1] at p; exact False.elim p
    | bad => rw [e1] at p; exact False.elim p
    | ok z =>
     rw [e1] at p
     dsimp only at p ⊢
     cases e2 : isOl z.2.2 i with
     | none => rw [e2] at p; exact False.elim p
     | some ds =>
      rw [e2] at p
      dsimp only at p ⊢
      cases e3 : Aw ds z.1 with
      | none => rw [e3] at p; exact False.elim p
      | some ds' =>
       rw [e3] at p
       dsimp only at p ⊢
       intro σ' H' G' R' s ee
       subst ee
       exact p σ' H' G' xs (R.step R' s) s
  have t2 := tD tw t
  unfold Bf at t2 ⊢
  have eq : (fun (_ : V) (H1 : Hp) => (σ = σ -> D.nx σ H1)) = fun _ H1 => D.nx σ H1 := by
   funext _ H1
   exact propext ⟨fun h => h rfl, fun h _ => h⟩
  rw [<- eq]
  exact t2
end
noncomputable def AQ (i : Nat) (fb : DS) : zq -> DEnv -> SOut
 | [], δ => .nx δ
 | d :: ds, δ => if i < δ.length then (match fb (δ.set i (some (.sh d))) with
  | .nx δ2 => AQ i fb ds δ2
  | .rt r => .rt r
  | _ => .bad) else .bad
noncomputable def B2 (n : Nat) (fi : DA) (i : Nat) (fb : DS) : DS := fun δ => match fi δ with
 | .ok p => if p.1.length = n then AQ i fb p.1 p.2 else .bad
 | .exc x => .exc x
 | .bad => .bad
section
variable {X : Cx} {M : MP} {kd : PyData} {j m : Nat} {E : XK} {tg iter : Expr} {body : List Stmt} {fi : DA} {fb : DS} {pos : Pos}
theorem sS (n c i : Nat) (hp : PassesOwn (model X.prog X.w) X.A X.env X.xe) (hc : X.calm = true) (hi : SI X E tg iter fi) (hg : PG X tg (Ac i)) (hij : j ≠ i) (hb0 : ∀ t, t < n -> SSM X M kd j (m + t * c) (m + t * c + c) body fb) (hs : ∀ x, foldedSetIterable iter X.env x = pure x := by intro _; rfl) :
  S1M X M kd j m (m + n * c) (.For tg iter body [] pos) (B2 n fi i fb) := by
 have hb : ∀ t, t < n -> SSM X M kd j (m + t * c) (m + (t + 1) * c) body fb := fun t ht => by
  have := hb0 t ht
  rw [Nat.succ_mul, <- Nat.add_assoc]
  exact this
 have hb' : PSs X body (fun D σ H => ∃ t, t < n /\ tSM X.prog X.w X.K X.mg M kd j (m + t * c) (m + (t + 1) * c) fb D σ H) := fun pins s σ H D I ⟨t, ht, q⟩ => hb t ht pins s σ H D I q
 refine (pq hp hc hi hg hb' hs).weak fun D σ H ⟨a, G0, H0, G, δ, xs, R, p⟩ => ?_
 refine ⟨G0, _, G, δ, R.rel, ?_⟩
 unfold B2 at p
 cases e : fi δ with
 | exc x => rw [e] at p; exact p.elim
 | bad => rw [e] at p; exact p.elim
 | ok q =>
  rw [e] at p
  dsimp only at p
  split at p
  next hlen =>
   intro J H1 G1 R1 s1 W
   refine ⟨fun t mm σ2 H2 => ∃ G2 δ2 xs2, MR X.prog X.w X.K X.mg M kd j a (m + t * c) G0 H0 G2 H2 σ2 δ2 xs2 /\ Same G1 G2 /\ t + mm = q.1.length /\ PoSM X.prog X.w X.K X.mg M kd j a (m + n * c) G0 H0 G2 D (AQ i fb (q.1.drop t) δ2),
    ⟨q.1.length, G1, q.2, xs, (R.step R1 s1).more (by omega), .refl _, Nat.zero_add _, p.mono (Nat.le_refl _) s1⟩, ?_⟩
   rintro t mm σ2 H2 ⟨G2, δ2, xs2, R2, s2, him, m2⟩
   obtain ⟨w1, w2⟩ := W t G2 H2 s2 R2.rel.g.gh
   cases hd : q.1[t]? with
   | none =>
    have ht : q.1.length <= t := List.getElem?_eq_none_iff.mp hd
    refine .inl ⟨w2 ht, ?_⟩
    rw [List.drop_eq_nil_of_le ht] at m2
    have : t = n := by omega
    subst this
    exact m2 σ2 H2 G2 xs2 R2 (.refl _)
   | some d =>
    have ht : t < q.1.length := (List.getElem?_eq_some_iff.mp hd).1
    obtain ⟨go, yl⟩ := w1 d hd
    have ed : q.1.drop t = d :: q.1.drop (t + 1) := by
     rw [List.drop_eq_getElem_cons ht]
     congr 1
     exact Option.some.inj ((List.getElem?_eq_getElem ht).symm.trans hd)
    rw [ed] at m2
    unfold AQ at m2
    refine .inr ⟨go, fun σ3 H3 => ∃ G3 δ3 xs3, MR X.prog X.w X.K X.mg M kd j a (m + (t + 1) * c) G0 H0 G3 H3 σ3 δ3 xs3 /\ Same G1 G3 /\ PoSM X.prog X.w X.K X.mg M kd j a (m + n * c) G0 H0 G3 D (AQ i fb (q.1.drop (t + 1)) δ3),
     fun σ3 H3 ⟨G3, δ3, xs3, R3, s3, m3⟩ => ⟨mm - 1, by omega, G3, δ3, xs3, R3, s3, by omega, m3⟩, fun x H3 hy => ?_⟩
    obtain ⟨G3, g3, dx⟩ := yl x H3 hy
    have R3 := R2.rel.grow g3
    split at m2
    next hi2 =>
     have R4 := R3.store (i := i) (v := x) (r := .sh d) (by rw [<- R3.len]; exact hi2) (RR.sh dx)
     have s23 := g3.gg
     show ∃ t, t < n /\ tSM X.prog X.w X.K X.mg M kd j (m + t * c) (m + (t + 1) * c) fb _ (σ2.set i (some x)) H3
     refine ⟨t, by omega, a, G0, H0, G3, _, xs2, ⟨R4, R2.ga, R2.ok.mono s23, R2.le, ?_⟩, ?_⟩
     ·rw [List.getElem?_set_ne (Ne.symm hij)]; exact R2.at_
     ·cases eb : fb (δ2.set i (some (.sh d))) with
      | nx δ4 => rw [eb] at m2; exact fun σ' H' G' xs' R' s => ⟨G', δ4, xs', R', (s2.trans s23).trans s, m2.mono (Nat.le_refl _) (s23.trans s)⟩
      | rt r =>
       rw [eb] at m2
       exact fun v H' G' xs' g ok le vn => m2 v H' G' xs' g ok (Nat.le_trans le (Nat.add_le_add_left (Nat.mul_le_mul_right c (by omega)) m)) vn
      | ct δ4 => rw [eb] at m2; exact m2.elim
      | bk δ4 => rw [eb] at m2; exact m2.elim
      | exc x => rw [eb] at m2; exact m2.elim
      | bad => rw [eb] at m2; exact m2.elim
    next => exact m2.elim
  next => exact p.elim
end
noncomputable def spM (P : Program) (w : World) (K : W.Frag) (mg : zr) (M : MP) (c : Nat) (φ : zq -> Out SD) : Sp := fun vs H Q _ => ∃ (G : Hp) (ds : zq) (a : Addr) (xs : Mxs) (vs0 : List V) (kd : PyData), vs = vs0 ++ [.ref a] /\ (Same G H /\ NoT G /\ AC H) /\ Dts K G vs0 ds /\ ds[2]? = some kd /\ G a = none /\
 H a = some (MeO P w M.sh M.hl a xs) /\ zS K M.sh (M.Rt kd) G xs /\ xs.length + c <= 1000 /\ (match φ ds with
  | .ok r => ∀ v H' G' xs', Grow G (upd H a (MeO P w M.sh M.hl a xs')) G' H' -> zS K M.sh (M.Rt kd) G' xs' -> xs'.length <= xs.length + c -> VN K mg (upd H a (MeO P w M.sh M.hl a xs')) G' H' v r -> Q v H'
  | _ => False)
abbrev DefS (P : Program) (w : World) (K : W.Frag) (mg : zr) (base : Heap) (x : Str) (k : Nat) (sp : Sp) : Prop := ∃ (f : Addr) (fd : FuncData) (ps : List Str), Def P w K mg base (CXe P w) x k f fd ps sp
theorem lx {K : W.Frag} {mg : zr} {E : XK} {σ : St} {j : Nat} : ∀ {ops : List Opd} {H : Hp} {P : List V -> Hp -> Prop}, tOs K mg E ops σ H (fun vs H1 => ∃ v, σ[j]? = some (some v) /\ P (vs ++ [v]) H1) -> tOs K mg E (ops ++ [.nm j]) σ H P
 | [], _, _, ⟨v, h1, h2⟩ => ⟨v, h1, h2⟩
 | o :: r, H, P, h => fh (fun v H1 q => lx (ops := r) (P := fun xs H2 => P (v :: xs) H2) q) h
noncomputable def Ap (kd : PyData) (φ : zq -> Out SD) (ops : List Opd) : DE := fun δ => (opds ops δ).bind fun p => if p.1[2]? = some kd then (φ p.1).bind fun r => .ok (r, p.2.2) else .bad
section
variable {X : Cx} {M : MP} {kd : PyData} {j m c k kk : Nat} {E : XK} {e : Expr} {es : List Expr} {ops : List Opd} {x : Str} {p pos : Pos} {φ : zq -> Out SD}
theorem ly (hT : Tabs.ts = []) (D : DefS X.prog X.w X.K X.mg X.base x k (spM X.prog X.w X.K X.mg M c φ)) (hr : Room kk X.A) (hx : Passes (CXe X.prog X.w) X E) (hmc : m + c <= 1000) (ha : PA X (e :: es) (tOs X.K X.mg E (ops ++ [.nm j]))) (hk : k <= kk) (hg : Gl X x := by rfl) (hdb : (x == ("__debug__" : Str)) = false := by decide)
  (he : starEach (e :: es) X.env = (false, eval e X.env) :: starEach es X.env := by rfl) (hpl : (backTo pos (starEach es X.env)).any (·.1) = false := by rfl) : SEM X M kd j m (m + c) (.Call (.Name x p) (e :: es) [] pos) (Ap kd φ ops) := by
 obtain ⟨f, fd, ps, D⟩ := D
 refine (gI D hr hx ha hg hk hdb he hpl).weak fun σ H Q ⟨a, G0, H0, G, δ, xs, R, q⟩ => ?_
 refine lx (fg R.rel ?_)
 unfold Ap at q
 cases e1 : opds ops δ with
 | exc x => rw [e1] at q; exact q.elim
 | bad => rw [e1] at q; exact q.elim
 | ok z =>
  rw [e1, Out.bind_ok] at q
  intro vs H1 G1 R1 s1 hd
  refine ⟨.ref a, R.at_, ?_⟩
  have R2 := R.step R1 s1
  split at q
  next hkd =>
   rw [List.append_nil]
   refine ⟨G1, z.1, a, xs, vs, kd, rfl, ⟨R1.g.gh, R1.noT, R1.tabs⟩, hd, hkd, R2.gn, R2.ha, R2.ok, by have := R.le; omega, ?_⟩
   cases e2 : φ z.1 with
   | exc x => rw [e2] at q; exact q.elim
   | bad => rw [e2] at q; exact q.elim
   | ok r =>
    rw [e2, Out.bind_ok] at q
    intro v H2 G2 xs' gr ok' le' vn
    have ok1 : zS X.K M.sh (M.Rt kd) G1 xs := R2.ok
    have R3 : Rel X.K X.mg G0 (upd H0 a (MeO X.prog X.w M.sh M.hl a xs')) G1 (upd H1 a (MeO X.prog X.w M.sh M.hl a xs')) σ z.2.2 := by
     have := R2.rel.memo hT (φ' := AG X.prog X.w M.sh M.hl a xs') aj (fun C => qD) R2.gn
     rw [jd] at this
     exact this
    exact q v H2 G2 xs' ⟨R3.grow gr, R.ga, ok', by have := R.le; omega, R.at_⟩ (s1.trans gr.gg) (RR.of_new R3 vn)
  next => exact q.elim
end
open Classical in
noncomputable def B3 (M : MP) (kd : PyData) (i0 i1 : Nat) (φ : zq -> Out SD) (ops : List Opd) : DS := fun δ => match δ[i0]?, δ[i1]? with
 | some (some (.sh d0)), some (some (.sh d1)) => (match Ap kd φ ops δ with
  | .ok (.sh d, δ') => if δ' = δ /\ Shp M.sh (.tuple [d0, d1]) /\ M.Rt kd (.tuple [d0, d1]) d /\ ∀ d', M.Rt kd (.tuple [d0, d1]) d' -> d' = d then .rt (.sh d) else .bad
  | _ => .bad)
 | _, _ => .bad
theorem jC {δ : DEnv} {i0 i1 : Nat} {d0 d1 : PyData} (h0 : δ[i0]? = some (some (.sh d0))) (h1 : δ[i1]? = some (some (.sh d1))) : eOp dTup [.nm i0, .nm i1] δ = .ok (.sh (.tuple [d0, d1]), δ) := by
 have r0 : zY i0 δ = δ := by unfold zY; rw [h0]
 have r1 : zY i1 δ = δ := by unfold zY; rw [h1]
 have e : evO [.nm i0, .nm i1] δ = .ok ([.inr i0, .inr i1], δ) := by simp only [evO, h0, h1, Out.bind_ok]
 have hs : (2 : Nat) <= sizeLine := by rw [sizeLine_eq]; decide
 simp [eOp, opds, e, Out.bind_ok, zD, zC, r0, r1, A0, B0, h0, h1, dTup, fin2, hs]
section
variable {X : Cx} {M : MP} {kd : PyData} {j i0 i1 m c k kk : Nat} {E : XK} {e : Expr} {es : List Expr} {ops : List Opd} {x y : Str} {p pos p1 p2 p3 p4 p5 p6 p7 p8 : Pos} {φ : zq -> Out SD} {key1 key2 key3 call : Expr}
theorem lz {a : Addr} {G0 H0 G H : Hp} {σ : St} {δ : DEnv} {xs : Mxs} {D : Ends} {d0 d1 d : PyData} {m' : Nat} (R : MR X.prog X.w X.K X.mg M kd j a m' G0 H0 G H σ δ xs) (h0 : δ[i0]? = some (some (.sh d0))) (h1 : δ[i1]? = some (some (.sh d1))) (hs : Shp M.sh (.tuple [d0, d1]))
  (hu : ∀ d', M.Rt kd (.tuple [d0, d1]) d' -> d' = d) (ha : (atKey xs (.tuple [d0, d1])).isSome = true) (q : PoSM X.prog X.w X.K X.mg M kd j a m' G0 H0 G D (.rt (.sh d))) : tRet (BC X.prog X.w X.K M.sh M.hl (tVar j) (tE X.K X.mg E (eOp dTup [.nm i0, .nm i1]))) D σ H := by
 refine ⟨.ref a, R.at_, G0, _, G, δ, R.rel, ?_⟩
 rw [jC h0 h1]
 intro v H1 G1 R1 s1 rr
 have hv := rr.1
 cases hv with
 | @tup b ys _ z1 z2 =>
  have R2 := R.step R1 s1
  exact ⟨a, b, xs, _, G1, M.Rt kd, rfl, rfl, R2.ha, R1.g.gh, R2.ok, .tup z1 z2, hs, ha, fun v' d' hv' hr => q v' H1 G1 xs R1.g R2.ok R2.le (by rw [<- hu d' hr]; exact ke hv')⟩
theorem qF (hT : Tabs.ts = []) (hu : X.A.units + 64 < cLine) (hc : SEM X M kd j m (m + c) call (Ap kd φ ops)) (hmc : m + c <= 1000) (hk1 : SE X E key1 (eOp dTup [.nm i0, .nm i1])) (hk2 : SE X E key2 (eOp dTup [.nm i0, .nm i1])) (hk3 : SE X E key3 (eOp dTup [.nm i0, .nm i1]))
  (hN : X.N[j]? = some x := by rfl) (hv : Vis X.env.scope x := by first | exact Or.inl rfl | exact Or.inr (Or.inl rfl) | exact Or.inr (Or.inr rfl)) (hd : (x == ("__debug__" : Str)) = false := by decide) (hcd : (x == ("__classdict__" : Str)) = false := by decide)
  (hs : swapsWith call (some (.Subscript (.Name x p2) key2 p3)) p4.line X.env = pure false := by rfl) (hm : behindInMarks .NotIn (.Name x p1) = false := by rfl) (hsl : NoSl key3 := by intro _ _; rfl) :
  SSM X M kd j m (m + c + 1) [.If (.Compare key1 [.NotIn] [.Name x p1] p5) [.Assign [.Subscript (.Name x p2) key2 p3] call p4] [] p6, .Return (some (.Subscript (.Name x p7) key3 p8)) pos] (B3 M kd i0 i1 φ ops) := by
 have v1 : ∀ {q : Pos}, PE X (.Name x q) (tVar j) := dU hN hv hd hcd
 refine (gz (pe (mK (sO (sh := M.sh) (hl := M.hl) hu) hk1 v1 hm) (g9 (sQ (sh := M.sh) (hl := M.hl) hu v1 hk2 hc hs)) je) (g9 (lL (sP (sh := M.sh) (hl := M.hl) hu v1 hk3 hsl)))).weak fun D σ H ⟨a, G0, H0, G, δ, xs, R, q⟩ => ?_
 unfold B3 at q
 split at q
 next d0 d1 h0 h1 =>
  split at q
  next d δ' ec =>
   split at q
   next hh =>
    obtain ⟨rfl, hsh, hrt, huq⟩ := hh
    refine ⟨G0, _, G, δ', R.rel, ?_⟩
    rw [jC h0 h1]
    intro v H1 G1 R1 s1 rr
    have hv := rr.1
    cases hv with
    | @tup b ys _ z1 z2 =>
     have R2 := R.step R1 s1
     refine ⟨.ref a, R.at_, a, b, xs, _, G1, M.Rt kd, rfl, rfl, R2.ha, R1.g.gh, R2.ok, .tup z1 z2, hsh, _, rfl, ?_⟩
     by_cases hin : (atKey xs (.tuple [d0, d1])).isSome = true
     ·rw [hin]
      dsimp only
      rw [if_neg (by decide)]
      exact lz (R2.more (m' := m + c + 1) (by omega)) h0 h1 hsh huq hin (q.mono (Nat.le_refl _) s1)
     ·have : (!(atKey xs (.tuple [d0, d1])).isSome) = true := by simpa using hin
      dsimp only
      rw [if_pos this]
      refine ⟨a, G0, H0, G1, δ', xs, R2, ?_⟩
      rw [ec]
      intro v3 H3 G3 xs3 R3 s3 rr3
      refine ⟨.ref a, R3.at_, G0, _, G3, δ', R3.rel, ?_⟩
      rw [jC h0 h1]
      intro v4 H4 G4 R4 s4 rr4
      have hv4 := rr4.1
      cases hv4 with
      | @tup b4 ys4 _ y1 y2 =>
       have R5 := R3.step R4 s4
       refine ⟨a, b4, xs3, _, d, G4, M.Rt kd, rfl, rfl, R5.ha, R4.g.gh, R5.ok, .tup y1 y2, hsh, (show Dt X.K G3 v3 d from rr3.1).mono s4, hrt, by have := R5.le; rw [sizeLine_eq]; omega, fun xs' ok' some' le' => ?_⟩
       exact lz (R5.wr hT (m' := m + c + 1) ok' (by have := R5.le; omega)) h0 h1 hsh huq some' (q.mono (Nat.le_refl _) ((s1.trans s3).trans s4))
   next => exact q.elim
  next => exact q.elim
 next => exact q.elim
end
noncomputable def runM (n m : Nat) (fb : PyData -> DS) (ds : zq) : Out SD := if ds.length = m then (match ds[2]? with
 | some kd => (match fb kd (start0 n m ds) with
  | .nx _ => .ok (.sh .none)
  | .rt r => .ok r
  | _ => .bad)
 | none => .bad) else .bad
theorem mw {K : W.Frag} {mg : zr} {G H : Hp} {vs : List V} {ds : zq} {N : List Str} {m : Nat} {u : V} (hg : Same G H /\ NoT G /\ AC H) (hd : Dts K G vs ds) (hm : ds.length = m) (hn : m < N.length) : Rel K mg G H G H (start N (vs ++ [u])) (start0 N.length m ds) := by
 have get : ∀ (i : Nat) sd, (start0 N.length m ds)[i]? = some (some sd) -> ∃ d, sd = .sh d /\ ds[i]? = some d := fun i sd e => by
  unfold start0 at e
  by_cases hi : i < ds.length
  ·rw [List.getElem?_append_left (by simpa using hi), List.getElem?_map] at e
   cases e2 : ds[i]? with
   | none => rw [e2] at e; cases e
   | some d => rw [e2] at e; cases e; exact ⟨d, rfl, rfl⟩
  ·rw [List.getElem?_append_right (by simpa using hi), List.getElem?_replicate] at e
   split at e <;> cases e
 refine ⟨.refl hg.1, ?_, fun i sd e => ?_, fun i sd a e ho => ?_, fun i j sd te a e _ ho => ?_, hg.2.2, hg.2.1⟩
 ·unfold start start0
  simp only [List.length_append, List.length_map, List.length_replicate, List.length_cons, List.length_nil]
  rw [hd.len, hm]
  omega
 ·obtain ⟨d, rfl, e2⟩ := get i sd e
  obtain ⟨v, h1, h2⟩ := hd.get' e2
  refine ⟨v, ?_, h2⟩
  have hi : i < vs.length := (List.getElem?_eq_some_iff.mp h1).1
  unfold start
  rw [List.getElem?_append_left (by simp; omega), List.getElem?_map, List.getElem?_append_left hi, h1]
  rfl
 ·obtain ⟨d, rfl, e2⟩ := get i sd e; exact ho.elim
 ·obtain ⟨d, rfl, e2⟩ := get i sd e; exact ho.elim
theorem nq {P : Program} {w : World} {K : W.Frag} {mg : zr} {base : Heap} {x qual : Str} {st : Stmt} {f : Addr} {fd : FuncData} {N ps : List Str} {k c j : Nat} {M : MP} {fb : PyData -> DS} (F : Fun K x qual st f fd) (S : zA N ps (zw st)) (hj : ps.length = j + 1) (hjN : j < N.length)
    (body : ∀ (cdv : Value) (A : Around) (outer : List Env) (s : Shared) (H : Hp) (E : XK) (kd : PyData) (m : Nat), m + c <= 1000 -> Room k (A.deeper (envOfC qual (zw st) s.heap.objs.size f cdv)) -> SSM (cxE P w K mg base N qual (zw st) f cdv A outer s H E) M kd j m (m + c) (zT st) (fb kd)) :
    FnOk P w K mg base (CXe P w) (k + 1) f fd ps (spM P w K mg M c (runM N.length j fb)) := by
  have hlen : ∀ {ds : zq} {C : SD -> Prop}, (match runM N.length j fb ds with | .ok r => C r | _ => False) -> ds.length = j := fun {ds C} h => by
    unfold runM at h
    split at h
    next z => split at z
              next e => exact e
              next => cases z
    next => exact h.elim
  refine F.okE S (fun vs H Q E h => ?_) fun cdv A outer s H vs Q E hr h => ?_
  · obtain ⟨G, ds, a, xs, vs0, kd, rfl, hg, hd, hkd, hGa, hHa, ok, le, q⟩ := h
    rw [List.length_append, hd.len, hlen q, hj]
    rfl
  · obtain ⟨G, ds, a, xs, vs0, kd, rfl, hg, hd, hkd, hGa, hHa, ok, le, q⟩ := h
    have hl := hlen q
    have hup : upd H a (MeO P w M.sh M.hl a xs) = H := by
      funext b
      by_cases z : b = a
      · subst z; rw [aj, hHa]
      · rw [ah z]
    have R : Rel K mg G (upd H a (MeO P w M.sh M.hl a xs)) G H (start N (vs0 ++ [.ref a])) (start0 N.length j ds) := by
      rw [hup]
      exact mw hg hd hl hjN
    refine ⟨_, body cdv A outer s H E kd xs.length le hr, a, G, H, G, start0 N.length j ds, xs, ⟨R, hGa, ok, Nat.le_refl _, ?_⟩, ?_⟩
    · unfold start
      have : vs0.length = j := by rw [hd.len, hl]
      rw [List.getElem?_append_left (by simp; omega), List.getElem?_map, List.getElem?_append_right (by omega)]
      simp [this]
    · unfold runM at q
      rw [if_pos hl, hkd] at q
      dsimp only at q
      cases e : fb kd (start0 N.length j ds) with
      | nx δ => rw [e] at q; exact fun σ' H' G' xs' R' s' => q .non H' G' xs' R'.rel.g R'.ok R'.le (ke .non)
      | rt r => rw [e] at q; exact fun v H' G' xs' g ok' le' vn => q v H' G' xs' g ok' le' vn
      | exc x => rw [e] at q; exact q
      | bk δ => rw [e] at q; exact q
      | ct δ => rw [e] at q; exact q
      | bad => rw [e] at q; exact q
noncomputable def tAsN (K : W.Frag) (mg : zr) (E : XK) (t : TE) : List Opd -> TA
 | [] => B5 t tNil
 | o :: r => B5 (tO K mg E o) (tAsN K mg E t r)
theorem nr {K : W.Frag} {mg : zr} {E : XK} {σ : St} {t : TE} : ∀ {ops : List Opd} {H : Hp} {P : List V -> Hp -> Prop}, tOs K mg E ops σ H (fun vs H1 => t σ H1 fun v H2 => P (vs ++ [v]) H2) -> tAsN K mg E t ops σ H P
 | [], _, _, h => h
 | o :: r, H, P, h => fh (fun v H1 q => nr (ops := r) (P := fun xs H2 => P (v :: xs) H2) q) h
noncomputable def AY (φ : zq -> Out SD) (ops : List Opd) : DE := fun δ => (opds ops δ).bind fun p => if (p.1[2]?).isSome = true then (match φ p.1 with
 | .ok r => .ok (r, p.2.2)
 | _ => .bad) else .bad
section
variable {X : Cx} {M : MP} {j c k kk : Nat} {E : XK} {e : Expr} {es : List Expr} {ops : List Opd} {x : Str} {p pos : Pos} {φ : zq -> Out SD}
theorem vm (hs : starEach [.Dict [] [] pos] X.env = [(false, eval (.Dict [] [] pos) X.env)] := by rfl) : PA X [.Dict [] [] pos] (tAsN X.K X.mg E (AO X.prog X.w M.sh M.hl) []) := cF qC gB hs
theorem hZ {o : Opd} (he : SO X E e o) (hr : PA X es (tAsN X.K X.mg E (AO X.prog X.w M.sh M.hl) ops)) (hs : starEach (e :: es) X.env = (false, eval e X.env) :: starEach es X.env := by rfl) : PA X (e :: es) (tAsN X.K X.mg E (AO X.prog X.w M.sh M.hl) (o :: ops)) := cF he hr hs
theorem qG (hT : Tabs.ts = []) (D : DefS X.prog X.w X.K X.mg X.base x k (spM X.prog X.w X.K X.mg M c φ)) (hr : Room kk X.A) (hx : Passes (CXe X.prog X.w) X E) (hmc : c <= 1000) (ha : PA X (e :: es) (tAsN X.K X.mg E (AO X.prog X.w M.sh M.hl) ops)) (hk : k <= kk) (hg : Gl X x := by rfl) (hdb : (x == ("__debug__" : Str)) = false := by decide)
  (he : starEach (e :: es) X.env = (false, eval e X.env) :: starEach es X.env := by rfl) (hpl : (backTo pos (starEach es X.env)).any (·.1) = false := by rfl) : SE X E (.Call (.Name x p) (e :: es) [] pos) (AY φ ops) := by
 obtain ⟨f, fd, ps, D⟩ := D
 refine (gI D hr hx ha hg hk hdb he hpl).weak fun σ H Q ⟨G0, H0, G, δ, R, q⟩ => ?_
 refine nr (fg R ?_)
 unfold AY at q
 cases e1 : opds ops δ with
 | exc x => rw [e1] at q; exact q
 | bad => rw [e1] at q; exact q
 | ok z =>
  rw [e1, Out.bind_ok] at q
  intro vs H1 G1 R1 s1 hd a hp
  split at q
  next hkd =>
   obtain ⟨kd, hkd⟩ := Option.isSome_iff_exists.mp hkd
   rw [List.append_nil]
   have R2 := R1.grow (.laidO (o := MeO X.prog X.w M.sh M.hl a []) R1.g.gh hp)
   refine ⟨G1, z.1, a, [], vs, kd, rfl, ⟨R2.g.gh, R2.noT, R2.tabs⟩, hd, hkd, R1.g.gh.free hp, aj, fun x hx => absurd hx (by simp), by simpa using hmc, ?_⟩
   cases e2 : φ z.1 with
   | exc x => rw [e2] at q; exact q
   | bad => rw [e2] at q; exact q
   | ok r =>
    rw [e2] at q
    intro v H2 G2 xs' gr ok' le' vn
    rw [jd] at gr vn
    have R3 := R1.grow (.laidO (o := MeO X.prog X.w M.sh M.hl a xs') R1.g.gh hp)
    exact q v H2 G2 (R3.grow gr) (s1.trans gr.gg) (RR.of_new R3 vn)
  next => exact q.elim
end
noncomputable def outL (p : Int) (S : List (List Int)) : List (List Int) := S.filterMap fun s => match s with
 | [] => none
 | x :: r => if x = -p then some r else if x ≠ p then some (x :: r) else none
noncomputable def aftP (S : List (List Int)) (p : Int) : List (List Int) := if [] ∈ S then [[]] else zV (dedL (outL p S))
noncomputable def zB : Nat -> List Bool -> List (List Int) -> Bool × PyData
 | _, [], S => (S.isEmpty, .none)
 | t, k :: ks, S =>
  if (zB (t + 1) ks (aftP S (-(t : Int)))).1 = k then (k, .tuple [.int 0, (zB (t + 1) ks (aftP S (-(t : Int)))).2])
  else if (zB (t + 1) ks (aftP S (t : Int))).1 = k then (k, .tuple [.int 1, (zB (t + 1) ks (aftP S (t : Int))).2])
  else (!k, .tuple [(zB (t + 1) ks (aftP S (-(t : Int)))).2, (zB (t + 1) ks (aftP S (t : Int))).2])
noncomputable def ynD (b : Bool) : PyData := .str (if b = true then "yes" else "no")
noncomputable def kiD (b : Bool) : PyData := .str (if b = true then "some" else "all")
def kisD (ks : List Bool) : PyData := .list (ks.map kiD)
noncomputable def zQ (t : Nat) (ks : List Bool) (S : List (List Int)) : PyData := .tuple [ynD (zB t ks S).1, (zB t ks S).2]
noncomputable def shK : Sh := .t fun j => if j = 0 then .i else .t fun _ => .t fun _ => .i
theorem vo : shK.le 8 := fun j => by
 by_cases h : j = 0
 ·simp only [h, if_true]; trivial
 ·simp only [h, if_false]; exact fun _ _ => trivial
noncomputable def MPk : MP := ⟨shK, vo, fun kd k d => ∃ (ks : List Bool) (t : Nat) (S : List (List Int)), kd = kisD ks /\ k = .tuple [.int t, .tuple (zv S)] /\ 1 <= t /\ t <= ks.length /\ d = zQ t (ks.drop (t - 1)) S⟩
def cT : Nat -> Nat
 | 0 => 0
 | n + 1 => 2 * cT n + 1
theorem qH {P : Program} {w : World} {K : W.Frag} {mg : zr} {base : Heap} {k c : Nat} {f : Addr} {fd : FuncData} {M : MP} (ps : List Str) : FnOk P w K mg base (CXe P w) k f fd ps (spM P w K mg M c (fun _ => .bad)) :=
 ⟨fun vs H Q E ⟨_, _, _, _, _, _, _, _, _, _, _, _, _, _, h⟩ => h.elim, fun A outer s H args us vs Q E _ _ _ _ ⟨_, _, _, _, _, _, _, _, _, _, _, _, _, _, h⟩ => h.elim⟩
theorem jD {P : Program} {w : World} {K : W.Frag} {mg : zr} {base : Heap} {x : Str} {st : Stmt} {f : Addr} {fd : FuncData} {ps : List Str} {k : Nat} {sp : Sp} (A : zP K mg x st f fd) (ok : FnOk P w K mg base (CXe P w) k f fd ps sp)
  (b : ∀ (kV doc pm : Value) (an : Option Addr) (cdv ct : Value) (us : List Value), us.length = ps.length -> bindArgs (W.fnOf x x (A4 st) (zT st) (zw st) .none kV doc pm an cdv ct) ⟨us, []⟩ = pure (ps.zip us)) : DefS P w K mg base x k sp :=
 ⟨f, fd, ps, ok, A.at_, A.fn.kp, A.fn.binds b⟩
theorem sT {a b : Bool} (h : kiD a = kiD b) : a = b := by
 unfold kiD at h
 injection h with h
 cases a <;> cases b <;> first | rfl | exact absurd h (by decide)
theorem qI {a b : List Bool} (h : kisD a = kisD b) : a = b := by
 unfold kisD at h
 injection h with h
 exact (List.map_inj_right fun x y e => sT e).mp h
theorem qJ {a b : List Int} (h : encS a = encS b) : a = b := by
 unfold encS at h
 injection h with h
 exact (List.map_inj_right fun x y e => by injection e).mp h
theorem oS {a b : List (List Int)} (h : zv a = zv b) : a = b := (List.map_inj_right fun x y e => qJ e).mp h
theorem vp {ks : List Bool} {t : Nat} {S : List (List Int)} {d : PyData} (h : MPk.Rt (kisD ks) (.tuple [.int t, .tuple (zv S)]) d) : d = zQ t (ks.drop (t - 1)) S := by
 obtain ⟨ks', t', S', e1, e2, _, _, e3⟩ := h
 have := qI e1
 subst this
 injection e2 with e2
 simp only [List.cons.injEq, and_true] at e2
 obtain ⟨e4, e5⟩ := e2
 injection e4 with e4
 injection e5 with e5
 have h1 : t' = t := by omega
 have h2 := oS e5
 subst h1 h2
 exact e3
theorem rowS : ∀ (j : Nat) (s : List Int), RowP (fun _ => Shp .i) j (s.map PyData.int)
 | _, [] => trivial
 | j, x :: r => ⟨⟨x, rfl⟩, rowS (j + 1) r⟩
theorem BD : ∀ (j : Nat) (S : List (List Int)), RowP (fun _ => Shp (.t fun _ => .i)) j (zv S)
 | _, [] => trivial
 | j, s :: r => ⟨⟨_, rfl, rowS 0 s⟩, BD (j + 1) r⟩
theorem oT (t : Nat) (S : List (List Int)) : Shp MPk.sh (.tuple [.int t, .tuple (zv S)]) :=
 ⟨_, rfl, ⟨_, rfl⟩, ⟨_, rfl, BD 0 S⟩, trivial⟩
noncomputable def Bd (t n : Int) (S : List (List Int)) : Prop := ∀ s ∈ S, AE n s /\ ∀ q ∈ s, t <= absI q
theorem qK {L : List (List Int)} {k x : List Int} : x ∈ addL L k ↔ x ∈ L \/ x = k := by
 unfold addL
 split
 next h => exact ⟨.inl, fun z => z.elim id fun e => e ▸ h⟩
 next => simp
theorem lA {nss : List (List Int)} {x : List Int} : x ∈ dedL nss ↔ x ∈ nss := by
 have : ∀ (l acc : List (List Int)), x ∈ l.foldl addL acc ↔ x ∈ acc \/ x ∈ l := by
  intro l
  induction l with
  | nil => intro acc; simp
  | cons a r ih =>
   intro acc
   rw [List.foldl_cons, ih, qK, List.mem_cons]
   exact ⟨fun h => by rcases h with (h | h) | h <;> simp [h], fun h => by rcases h with h | h | h <;> simp [h]⟩
 unfold dedL
 rw [this]
 simp
theorem gu {p : Int} {S : List (List Int)} {s : List Int} : s ∈ outL p S ↔ (∃ x r, (x :: r) ∈ S /\ ((x = -p /\ s = r) \/ (x ≠ -p /\ x ≠ p /\ s = x :: r))) := by
 unfold outL
 rw [List.mem_filterMap]
 constructor
 ·rintro ⟨a, ha, e⟩
  cases a with
  | nil => cases e
  | cons x r =>
   refine ⟨x, r, ha, ?_⟩
   dsimp only at e
   split at e
   next h => cases e; exact .inl ⟨h, rfl⟩
   next h =>
    split at e
    next h2 => cases e; exact .inr ⟨h, h2, rfl⟩
    next => cases e
 ·rintro ⟨x, r, h, z⟩
  refine ⟨x :: r, h, ?_⟩
  dsimp only
  rcases z with ⟨z1, z2⟩ | ⟨z1, z2, z3⟩
  ·rw [if_pos z1, z2]
  ·rw [if_neg z1, if_pos z2, z3]
theorem nu (S : List (List Int)) (p : Int) (h : 1 <= S.length \/ [] ∉ S) : (aftP S p).length <= S.length := by
 unfold aftP
 split
 next z =>
  rcases h with h | h
  ·simpa using h
  ·exact absurd z h
 next =>
  rw [(br _).length_eq]
  exact Nat.le_trans (la _) (List.length_filterMap_le _ _)
theorem lB (S : List (List Int)) (p : Int) : (aftP S p).length <= S.length := by
 cases S with
 | nil => exact nu _ p (.inr (by simp))
 | cons a r => exact nu _ p (.inl (by simp))
theorem qL {t n : Int} {S : List (List Int)} {p : Int} (hg : Bd t n S) (hp : absI p = t) : Bd (t + 1) n (aftP S p) := by
 unfold aftP
 split
 ·intro s hs
  have : s = [] := by simpa using hs
  subst this
  exact ⟨⟨by simp, fun p hp => absurd hp (by simp)⟩, fun q hq => absurd hq (by simp)⟩
 ·intro s hs
  rw [(br _).mem_iff, lA, gu] at hs
  obtain ⟨x, r, hm, z⟩ := hs
  obtain ⟨ok, lo⟩ := hg _ hm
  have hr := ok.rise
  rw [List.map_cons, List.pairwise_cons] at hr
  have hx := lo x (by simp)
  have tail : ∀ q ∈ r, t + 1 <= absI q := fun q hq => by
   have := hr.1 (absI q) (List.mem_map.mpr ⟨q, hq, rfl⟩)
   omega
  rcases z with ⟨z1, z2⟩ | ⟨z1, z2, z3⟩
  ·subst z2
   exact ⟨⟨hr.2, fun q hq => ok.low q (by simp [hq])⟩, tail⟩
  ·subst z3
   refine ⟨ok, fun q hq => ?_⟩
   rcases List.mem_cons.mp hq with e | e
   ·subst e
    have : absI q ≠ t := fun e => by
     unfold absI at e hp
     split at e <;> split at hp <;> omega
    omega
   ·exact tail q e
theorem qM {S : List (List Int)} {c : List Int} {p : Int} (h1 : Sy.litOn c p = true) (h2 : Sy.litOn c (-p) = false) : Sy.fitsB (aftP S p) c = Sy.fitsB S c := by
 unfold aftP
 split
 next h =>
  have e : Sy.fitsB S c = false := by
   unfold Sy.fitsB
   rw [List.all_eq_false]
   exact ⟨[], h, by simp [Sy.sayOn]⟩
  rw [e]
  simp [Sy.fitsB, Sy.sayOn]
 next h =>
  unfold Sy.fitsB
  rw [Bool.eq_iff_iff, List.all_eq_true, List.all_eq_true]
  have mem : ∀ s, s ∈ zV (dedL (outL p S)) ↔ s ∈ outL p S := fun s => by rw [(br _).mem_iff, lA]
  constructor
  ·intro hh s hs
   cases s with
   | nil => exact absurd hs h
   | cons x r =>
    by_cases e1 : x = -p
    ·have := hh r ((mem r).mpr (gu.mpr ⟨x, r, hs, .inl ⟨e1, rfl⟩⟩))
     unfold Sy.sayOn at this ⊢
     rw [List.any_cons, this, Bool.or_true]
    ·by_cases e2 : x = p
     ·subst e2
      unfold Sy.sayOn
      rw [List.any_cons, h1, Bool.true_or]
     ·exact hh _ ((mem _).mpr (gu.mpr ⟨x, r, hs, .inr ⟨e1, e2, rfl⟩⟩))
  ·intro hh s hs
   obtain ⟨x, r, hm, z⟩ := gu.mp ((mem s).mp hs)
   rcases z with ⟨z1, z2⟩ | ⟨z1, z2, z3⟩
   ·subst z2
    have := hh _ hm
    unfold Sy.sayOn at this ⊢
    rw [List.any_cons, z1, h2, Bool.false_or] at this
    exact this
   ·subst z3
    exact hh _ hm
theorem qN {n : Nat} {S : List (List Int)} {c : List Int} (hg : Bd (n + 1) n S) : Sy.fitsB S c = S.isEmpty := by
 cases S with
 | nil => rfl
 | cons s r =>
  have : s = [] := by
   cases s with
   | nil => rfl
   | cons x y =>
    obtain ⟨ok, lo⟩ := hg _ (List.mem_cons_self)
    have h1 := lo x (by simp)
    have h2 := ok.low x (by simp)
    omega
  subst this
  simp [Sy.fitsB, Sy.sayOn]
theorem aX : ∀ (ks : List Bool) (t : Nat) (S : List (List Int)), zy (zB t ks S).2 = true
 | [], _, _ => rfl
 | k :: ks, t, S => by
  have h0 := aX ks (t + 1) (aftP S (-(t : Int)))
  have h1 := aX ks (t + 1) (aftP S (t : Int))
  unfold zB
  split
  ·simp [zy, zx, h0]
  ·split
   ·simp [zy, zx, h1]
   ·simp [zy, zx, h0, h1]
noncomputable section
noncomputable def aF : DS := sIf (tstV (eOp dEq [.ex (eOp dIdx [.nm 3, .ex (eC (.int 0))]), .ex (eOp dNeg [.nm 1])])) (sMut Aw 2 (.ex (eOp dSlL [.nm 3, .ex (eC (.int 1))]))) (sIf (tstV (eOp dNe [.ex (eOp dIdx [.nm 3, .ex (eC (.int 0))]), .nm 1])) (sMut Aw 2 (.nm 3)) (zK))
noncomputable def de : DS := sSeq (sAsg 2 (eOp dLst [])) (sSeq (sFor (Av (eV 0)) (kN 3) (aF)) (sRet (eOp Al [.ex (eOp A9 [.nm 2])])))
def bf : zq -> Out SD := runB 4 2 de
noncomputable def et : DS := sRet (eAnd (eOp (dIsi "int") [.nm 0]) (eNot (eOp (dIsi "bool") [.nm 0])))
def aY : zq -> Out SD := runB 1 1 et
noncomputable def bt : DS := sRet (eAnd (zG aY [.nm 0]) (eAnd (eOp dGe [.nm 0, .ex (eC (.int 1))]) (eOp dLe [.nm 0, .nm 1])))
def aH : zq -> Out SD := runB 2 2 bt
noncomputable def aT : DS := sSeq (sIf (zR (tstO (.ex (zG aY [.nm 3])))) (sRet (eC (.bool false))) (zK)) (sSeq (sIf (Au (tstV (eOp dLe [.ex (eOp dAbs [.nm 3]), .nm 2])) (tstV (eOp dGt [.ex (eOp dAbs [.nm 3]), .nm 1]))) (sRet (eC (.bool false))) (zK)) (sAsg 2 (eOp dAbs [.nm 3])))
noncomputable def df : DS := sSeq (sIf (zR (tstO (.ex (eOp (dIsi "tuple") [.nm 0])))) (sRet (eC (.bool false))) (zK)) (sSeq (sAsg 2 (eC (.int 0))) (sSeq (sFor (Av (eV 0)) (kN 3) (aT)) (sRet (eC (.bool true)))))
def aZ : zq -> Out SD := runB 4 2 df
noncomputable def bW : DS := sIf (zR (tstO (.ex (zG aZ [.nm 3, .nm 1])))) (sBad) (zK)
noncomputable def fH : DS := sSeq (sIf (zR (tstO (.ex (zG aH [.nm 1, .ex (eC (.int 16))])))) (sBad) (zK)) (sSeq (sIf (zR (tstO (.ex (eOp (dIsi "list") [.nm 0])))) (sBad) (zK)) (sSeq (sIf (tstV (eOp dGt [.ex (eOp dLen [.nm 0]), .ex (eC (.int 24))])) (sBad) (zK)) (sSeq (sFor (AW (eV 0)) (kTup [2, 3]) (bW)) (sRet (eOp As [.nm 0])))))
def bu : zq -> Out SD := runB 4 2 fH
noncomputable def aP : DE := eAnd (eOp (dIsi "str") [.nm 0]) (eOp dIn2 [.nm 0, .ex (eOp dTup [.ex (eC (.str "some")), .ex (eC (.str "all"))])])
noncomputable def dg : DS := sSeq (sIf (Au (zR (tstO (.ex (eOp (dIsi "list") [.nm 0])))) (tstV (eOp dNe [.ex (eOp dLen [.nm 0]), .nm 1]))) (sRet (eC (.bool false))) (zK)) (sRet (eOp dAll [.ex (Am [] (AU (.nm 0)) (A6) (aP))]))
def b6 : zq -> Out SD := runB 2 2 dg
noncomputable def gw : DS := sRet (eIf (tstV (eOp dIn2 [.ex (eOp dTup []), .nm 0])) (eOp dTup [.ex (eOp dTup [])]) (zG bf [.nm 0, .nm 1]))
def bF : zq -> Out SD := runB 2 2 gw
noncomputable def bR (φ : zq -> Out SD) (kd : PyData) : DS := sSeq (sAsg 7 (zG bF [.nm 1, .ex (eIf (tstV (eOp dEq [.nm 6, .ex (eC (.int 1))])) (eV 0) (eOp dNeg [.nm 0]))])) (sSeq (sAsg 8 (Ap kd φ [.ex (eOp dAdd [.nm 0, .ex (eC (.int 1))]), .nm 7, .nm 2])) (sSeq (sIf (tstV (eOp dEq [.ex (eOp dIdx [.nm 8, .ex (eC (.int 0))]), .nm 4])) (sRet (eOp dTup [.nm 4, .ex (eOp dTup [.nm 6, .ex (eOp dIdx [.nm 8, .ex (eC (.int 1))])])])) (zK)) (sMut Aw 5 (.ex (eOp dIdx [.nm 8, .ex (eC (.int 1))])))))
noncomputable def cA (φ : zq -> Out SD) (kd : PyData) : DS := sSeq (sAsg 4 (eIf (tstV (eOp dEq [.ex (eOp dIdx [.nm 2, .ex (eOp dSub [.nm 0, .ex (eC (.int 1))])]), .ex (eC (.str "some"))])) (eC (.str "yes")) (eC (.str "no")))) (sSeq (sAsg 5 (eOp dLst [])) (sSeq (B2 2 (Av (eOp dTup [.ex (eC (.int 0)), .ex (eC (.int 1))])) 6 (bR φ kd)) (sRet (eOp dTup [.ex (eIf (tstV (eOp dEq [.nm 4, .ex (eC (.str "yes"))])) (eC (.str "no")) (eC (.str "yes"))), .ex (eOp dTup [.ex (eOp dIdx [.nm 5, .ex (eC (.int 0))]), .ex (eOp dIdx [.nm 5, .ex (eC (.int 1))])])]))))
def bc (φ : zq -> Out SD) : zq -> Out SD := runM 9 3 (cA φ)
noncomputable def aN (φ : zq -> Out SD) (kd : PyData) : DS := sSeq (sIf (tstV (eOp dGt [.nm 0, .ex (eOp dLen [.nm 2])])) (sRet (eOp dTup [.ex (eIf (tstO (.nm 1)) (eC (.str "no")) (eC (.str "yes"))), .ex (eC .none)])) (zK)) (B3 MPk kd 0 1 φ [.nm 0, .nm 1, .nm 2])
noncomputable def ax : Nat -> zq -> Out SD
 | 0 => fun _ => .bad
 | n + 1 => runM 4 3 (aN (bc (ax n)))
def bX : zq -> Out SD := ax 8
noncomputable def i3 : DS := sSeq (sAsg 3 (zG bu [.nm 0, .nm 1])) (sSeq (sIf (zR (tstO (.ex (zG b6 [.nm 2, .nm 1])))) (sBad) (zK)) (sRet (AY bX [.ex (eC (.int 1)), .ex (eOp Al [.nm 3]), .nm 2])))
def cB : zq -> Out SD := runB 4 3 i3
noncomputable def ba : DS := sSeq (sIf (tstV (eOp dLt [.nm 1, .ex (eOp dLen [.nm 0])])) (sRet (eOp dIdx [.nm 0, .nm 1])) (zK)) (sSeq (sIf (tstV (eOp dEq [.nm 0, .ex (eOp dLst [])])) (sRet (eC (.int 0))) (zK)) (sRet (eOp dAdd [.ex (eOp dMul [.ex (eOp dIdx [.nm 0, .ex (eOp dMod [.nm 1, .ex (eOp dLen [.nm 0])])]), .ex (eC (.int 31))]), .nm 1])))
def aG : zq -> Out SD := runB 2 2 ba
noncomputable def dh : DS := sSeq (sAsg 3 (eOp dMod [.ex (eOp dMul [.ex (eOp dAdd [.ex (eOp dAdd [.ex (zG aG [.nm 0, .nm 1]), .ex (eOp dMul [.ex (eC (.int 7919)), .nm 1])]), .ex (eC (.int 1))]), .ex (eC (.int 48271))]), .ex (eC (.int 2147483647))])) (sRet (eOp dMod [.ex (eOp dMod [.ex (eOp dAdd [.ex (eOp dAdd [.ex (eOp dMul [.nm 3, .nm 3]), .ex (eOp dMul [.ex (eC (.int 7)), .nm 3])]), .nm 1]), .ex (eC (.int 2147483629))]), .nm 2]))
def av : zq -> Out SD := runB 4 3 dh
noncomputable def di : DS := sRet (eAnd (eOp (dIsi "int") [.nm 0]) (eNot (eOp (dIsi "bool") [.nm 0])))
def bg : zq -> Out SD := runB 1 1 di
noncomputable def bS : DS := sSeq (sAsg 5 (eOp dAdd [.ex (eC (.int 1)), .ex (zG av [.nm 0, .ex (eOp dAdd [.ex (eOp dAdd [.nm 1, .ex (eC (.int 1))]), .nm 4]), .nm 2])])) (sPut 3 (.ex (eOp dSub [.ex (eC (.int 1)), .ex (eOp dMul [.ex (eC (.int 2)), .ex (eOp B8 [.ex (zG av [.nm 0, .ex (eOp dAdd [.ex (eOp dAdd [.nm 1, .ex (eC (.int 1))]), .nm 4]), .ex (eOp dMul [.ex (eC (.int 2)), .nm 2])]), .nm 2])])])) (.nm 5))
noncomputable def bo : DE := eOp dMul [.nm 0, .ex (eOp dIdx [.nm 1, .nm 0])]
noncomputable def cK : DS := sSeq (sAsg 3 (B4)) (sSeq (sFor (itR1 [.ex (eOp dIdx [.ex (eOp dLst [.ex (eC (.int 1)), .ex (eC (.int 2)), .ex (eC (.int 2)), .ex (eC (.int 3)), .ex (eC (.int 3)), .ex (eC (.int 3)), .ex (eC (.int 0))]), .ex (zG av [.nm 0, .nm 1, .ex (eC (.int 7))])])]) (kN 4) (bS)) (sRet (eOp Al [.ex (Am [3] (AU (.ex (eOp AM [.ex (eOp As [.nm 3])]))) (A6) (bo))])))
def b8 : zq -> Out SD := runB 6 3 cK
noncomputable def bb : DE := zG b8 [.nm 3, .ex (eOp dAdd [.ex (eOp dAdd [.nm 1, .ex (eC (.int 1))]), .ex (eOp dMul [.ex (eC (.int 4)), .nm 0])]), .nm 2]
noncomputable def cj : DS := sRet (Am [1, 2, 0] (icR1 (.ex (zG av [.nm 0, .nm 1, .ex (eOp dAdd [.nm 3, .ex (eC (.int 1))])]))) (A6) (bb))
def aU : zq -> Out SD := runB 4 4 cj
noncomputable def bG : DS := sIf (tstV (eOp dEq [.ex (eOp dGt [.nm 2, .ex (eC (.int 0))]), .ex (eOp dEq [.ex (eOp dIdx [.nm 1, .ex (eOp dSub [.ex (eOp dAbs [.nm 2]), .ex (eC (.int 1))])]), .ex (eC (.int 1))])])) (sRet (eC (.bool true))) (zK)
noncomputable def eB : DS := sSeq (sFor (Av (eV 0)) (kN 2) (bG)) (sRet (eC (.bool false)))
def bw : zq -> Out SD := runB 3 2 eB
def bH : DT := zR (tstO (.ex (zG bw [.nm 0, .nm 1])))
def bI : DE := eV 0
noncomputable def eE : DS := sRet (eOp dEq [.ex (Am [1] (AU (.nm 0)) (bH) (bI)), .ex (eOp dLst [])])
def b7 : zq -> Out SD := runB 2 2 eE
noncomputable def cm : DS := sSeq (sIf (Au (zR (tstO (.ex (eOp (dIsi "tuple") [.nm 0])))) (tstV (eOp dNe [.ex (eOp dLen [.nm 0]), .ex (eC (.int 2))]))) (sRet (eC (.bool false))) (zK)) (sRet (eAnd (zG bg [.ex (eOp dIdx [.nm 0, .ex (eC (.int 0))])]) (eAnd (eOp dGe [.ex (eOp dIdx [.nm 0, .ex (eC (.int 0))]), .ex (eC (.int 0))]) (eOp dLe [.ex (eOp dIdx [.nm 0, .ex (eC (.int 0))]), .ex (eC (.int 1))]))))
def aQ : zq -> Out SD := runB 1 1 cm
noncomputable def aC (φ_law_walked : zq -> Out SD) : DS := sSeq (sAsg 5 (eOp dLen [.nm 4])) (sSeq (sIf (tstV (eOp dEq [.nm 5, .ex (eOp dLen [.nm 1])])) (sRet (eAnd (eOp dIs [.nm 3, .ex (eC .none)]) (eOp dEq [.ex (zG b7 [.nm 0, .nm 4]), .ex (eOp dEq [.nm 2, .ex (eC (.str "yes"))])]))) (zK)) (sSeq (sIf (tstV (eOp dEq [.ex (eOp dEq [.ex (eOp dIdx [.nm 1, .nm 5]), .ex (eC (.str "some"))]), .ex (eOp dEq [.nm 2, .ex (eC (.str "yes"))])])) (sSeq (sIf (zR (tstO (.ex (zG aQ [.nm 3])))) (sRet (eC (.bool false))) (zK)) (sRet (zG φ_law_walked [.nm 0, .nm 1, .nm 2, .ex (eOp dIdx [.nm 3, .ex (eC (.int 1))]), .ex (eOp dAdd [.nm 4, .ex (eOp dLst [.ex (eOp dIdx [.nm 3, .ex (eC (.int 0))])])])]))) (zK)) (sSeq (sIf (Au (zR (tstO (.ex (eOp (dIsi "tuple") [.nm 3])))) (tstV (eOp dNe [.ex (eOp dLen [.nm 3]), .ex (eC (.int 2))]))) (sRet (eC (.bool false))) (zK)) (sSeq (sIf (zR (tstO (.ex (zG φ_law_walked [.nm 0, .nm 1, .nm 2, .ex (eOp dIdx [.nm 3, .ex (eC (.int 0))]), .ex (eOp dAdd [.nm 4, .ex (eOp dLst [.ex (eC (.int 0))])])])))) (sRet (eC (.bool false))) (zK)) (sRet (zG φ_law_walked [.nm 0, .nm 1, .nm 2, .ex (eOp dIdx [.nm 3, .ex (eC (.int 1))]), .ex (eOp dAdd [.nm 4, .ex (eOp dLst [.ex (eC (.int 1))])])]))))))
noncomputable def aD : Nat -> zq -> Out SD
 | 0 => fun _ => .bad
 | n + 1 => runB 6 5 (aC (aD n))
def bJ : zq -> Out SD := aD 8
noncomputable def dF : DE := eOp dIdx [.ex (eOp dLst [.ex (eC (.str "some")), .ex (eC (.str "all"))]), .ex (zG av [.nm 1, .ex (eOp dAdd [.ex (eC (.int 40)), .nm 0]), .ex (eC (.int 2))])]
noncomputable def qO : DS := sSeq (sAsg 1 (eOp dAdd [.ex (eC (.int 1)), .ex (zG av [.nm 0, .ex (eC (.int 0)), .ex (eC (.int 5))])])) (sSeq (sAsg 2 (zG aU [.nm 0, .ex (eC (.int 1)), .nm 1, .ex (eC (.int 9))])) (sSeq (sAsg 3 (Am [0] (icR1 (.nm 1)) (A6) (dF))) (sSeq (sAsg 4 (eOp dLst [.ex (eOp As [.nm 2]), .ex (eOp As [.nm 3])])) (sSeq (sAsg 5 (zG cB [.ex (eOp dIdx [.nm 4, .ex (eC (.int 0))]), .nm 1, .ex (eOp dIdx [.nm 4, .ex (eC (.int 1))])])) (sSeq (sIf (tstV (eOp dNe [.nm 4, .ex (eOp dLst [.nm 2, .nm 3])])) (sRet (eC (.bool false))) (zK)) (sSeq (sIf (Au (zR (tstO (.ex (eOp (dIsi "tuple") [.nm 5])))) (Au (tstV (eOp dNe [.ex (eOp dLen [.nm 5]), .ex (eC (.int 2))])) (tstV (eOp AF [.ex (eOp dIdx [.nm 5, .ex (eC (.int 0))]), .ex (eOp dTup [.ex (eC (.str "yes")), .ex (eC (.str "no"))])])))) (sRet (eC (.bool false))) (zK)) (sRet (zG bJ [.nm 2, .nm 3, .ex (eOp dIdx [.nm 5, .ex (eC (.int 0))]), .ex (eOp dIdx [.nm 5, .ex (eC (.int 1))]), .ex (eOp dLst [])]))))))))
def nv : zq -> Out SD := runB 6 1 qO
end
theorem vq (ns : List Int) (k : Int) (hk : 0 <= k) : aG [scr ns, .int k] = .ok (.sh (.int (Ba ns k))) := by
 have hs : ∀ l : List Int, SeqAt.shaped (.list (l.map PyData.int)) = true := fun l => (aS (fB 0 l)).shaped (by decide)
 have hs0 : SeqAt.shaped (.list []) = true := hs []
 unfold Ba
 by_cases h1 : k < ns.length
 ·simp [aG, ba, h1, fj hk h1]
 ·by_cases h2 : ns = []
  ·subst h2
   have h1' : ¬ k < 0 := by lia
   simp [aG, ba, h1', jr, hs0]
  ·have hl : 0 < (ns.length : Int) := by
    have := List.length_pos_iff.mpr h2
    lia
   have hl' : 0 < ns.length := by lia
   have h3 := Int.emod_nonneg k (b := (ns.length : Int)) (by lia)
   have h4 := Int.emod_lt_of_pos k hl
   simp [aG, ba, h1, h2, jr, hs0, hs ns, hl', fj h3 h4, js]
theorem j8 (ns : List Int) (k m : Int) (hk : 0 <= k) (hm : 0 < m) : av [scr ns, .int k, .int m] = .ok (.sh (.int (mixZ ns k m))) := by
 have h1 := nY ns k
 have h2 := nZ ns k
 have e : (Ba ns k + 7919 * k + 1) * 48271 % 2147483647 = An ns k := rfl
 have c1 : cMul (An ns k) (An ns k) = true := jt (by lia) (by lia)
 simp [av, dh, vq ns k hk, jt, js, e, c1, hm]
 rfl
theorem xO (ns : List Int) (at_ many : Int) (ha : 0 <= at_) (hm : 0 < many) (hm2 : many <= 1000) : b8 [scr ns, .int at_, .int many] = .ok (.sh (encS (sayZ ns at_ many))) := by
 have m0 := bU ns at_ (m := 7) (by decide)
 have m1 := bV ns at_ (m := 7) (by decide)
 have hs := kD ns at_
 obtain ⟨p1, p2, p3, p4⟩ := dA (ns := ns) (at_ := at_) hm (A3 ns at_).toNat
 have hl : ∀ n, (zE ns at_ many n).length <= n := fun n => (dA (ns := ns) (at_ := at_) hm n).2.2.2
 obtain ⟨δ', e1, x4, x5, rfl⟩ := lZ (k := kN 4) (fb := bS) (lo := 0) (n := (A3 ns at_).toNat) (δ := [some (.sh (scr ns)), some (.sh (.int at_)), some (.sh (.int many)), some (.od []), none, none])
  (fun j δ => ∃ x4 x5, δ = [some (.sh (scr ns)), some (.sh (.int at_)), some (.sh (.int many)), some (.od (encP (zE ns at_ many j))), x4, x5]) ⟨none, none, rfl⟩ (by
   rintro i δ hi ⟨x4, x5, rfl⟩
   refine ⟨_, rfl, ?_⟩
   have hf1 := j8 ns (at_ + 1 + i) many (by lia) hm
   have hf2 := j8 ns (at_ + 1 + i) (2 * many) (by lia) (by lia)
   have hli := hl i
   have hll : (zE ns at_ many i).length < sizeLine := gi (by lia)
   have hb : many < 1073741824 := by lia
   simp [bS, hf1, hf2, jt, js, hm, hb, hll, qd]
   rfl)
 have h7 : atI [PyData.int 1, .int 2, .int 2, .int 3, .int 3, .int 3, .int 0] (mixZ ns at_ 7) = some (.int (A3 ns at_)) := by
  have := fj (ns := [1, 2, 2, 3, 3, 3, 0]) m0 m1
  exact this
 have hr : rngB (A3 ns at_) = true := mS (by lia) (by lia)
 have hlen : (zE ns at_ many (A3 ns at_).toNat).length < 64 := by lia
 have hsl : (Aa (Ay (zE ns at_ many (A3 ns at_).toNat))).length <= sizeLine := aK (by rw [(bO _).length_eq]; unfold Ay; rw [List.length_map]; lia)
 have hc : Ab ([none, some (.sh (.dict (encP (zE ns at_ many (A3 ns at_).toNat))))]) A6 bo ((Aa (Ay (zE ns at_ many (A3 ns at_).toNat))).map PyData.int) = some ((sayZ ns at_ many).map PyData.int) := by
  have := dw (ρ := [none, some (.sh (.dict (encP (zE ns at_ many (A3 ns at_).toNat))))]) (te := bo)
   (y := fun d => match d with | .int t => .int (t * (valZ (zE ns at_ many (A3 ns at_).toNat) t).getD 0) | d => d) (ds := (Aa (Ay (zE ns at_ many (A3 ns at_).toNat))).map PyData.int) fun d hd => by
    obtain ⟨t, ht, rfl⟩ := List.mem_map.mp hd
    have ht' := (bO _).mem_iff.mp ht
    obtain ⟨v, ev, p, hp, hv⟩ := mT ht'
    have hv' : v = 1 \/ v = -1 := by rw [<- hv]; exact p3 p hp
    have hcm : cMul t v = true := js (by lia) (by lia)
    simp [bo, iV, ev, hcm]
  rw [this]
  unfold sayZ
  rw [List.map_map, List.map_map]
  rfl
 simp only [b8, cK]
 simp [j8 ns at_ 7 ha (by decide), h7, hr, e1, hlen, hsl, hc]
 rfl
theorem vt (ns : List Int) (at_ many most : Int) (ha : 0 <= at_) (hm : 0 < many) (hm2 : many <= 1000) (h0 : 0 <= most) (h1 : most <= 1000) : aU [scr ns, .int at_, .int many, .int most] = .ok (.ol (zv (AN ns at_ many most))) := by
 have m0 := bU ns at_ (m := most + 1) (by lia)
 have m1 := bV ns at_ (m := most + 1) (by lia)
 have hr : rngB (mixZ ns at_ (most + 1)) = true := mS (by lia) (by lia)
 have hl : (rngI 0 (mixZ ns at_ (most + 1)).toNat).length <= sizeLine := aK (by rw [cx]; lia)
 have hc : Ab [none, some (.sh (.int at_)), some (.sh (.int many)), some (.sh (scr ns))] A6 bb (rngI 0 (mixZ ns at_ (most + 1)).toNat) = some (zv (AN ns at_ many most)) := by
  have := dw (ρ := [none, some (.sh (.int at_)), some (.sh (.int many)), some (.sh (scr ns))]) (te := bb) (y := fun d => match d with | .int k => encS (sayZ ns (at_ + 1 + 4 * k) many) | d => d) (ds := rngI 0 (mixZ ns at_ (most + 1)).toNat) fun d hd => by
   obtain ⟨k, hk, rfl⟩ := List.mem_map.mp hd
   have hf := xO ns (at_ + 1 + 4 * (0 + (k : Int))) many (by lia) hm hm2
   rw [Int.zero_add] at hf ⊢
   simp [bb, hf, jt]
  rw [this]
  unfold zv AN rngI
  rw [List.map_map, List.map_map]
  congr 1
  apply List.map_congr_left
  intro k _
  simp only [Function.comp, Int.zero_add]
 simp only [aU, cj]
 simp [j8 ns at_ (most + 1) ha (by lia), hr, hl, hc]
theorem cL (d : PyData) (h : ∀ es, d ≠ .dict es) : aY [d] = .ok (.sh (.bool (isWh d))) := by
 rw [<- xC h]
 simp only [aY, et]
 cases h1 : isiD "int" d <;> simp [gj, h, h1]
theorem qP {d : PyData} (h : ∀ i, d ≠ .int i) : isWh d = false := by
 cases d <;> first | rfl | exact absurd rfl (h _)
theorem lC (t : PyData) (many : Int) : ∀ (ds : zq) (last : Int) (pv : Option SD), (∀ d ∈ ds, ∀ es, d ≠ .dict es) -> ∃ pv', forL (kN 3) aT ds [some (.sh t), some (.sh (.int many)), some (.sh (.int last)), pv] = match Ax many last ds with
  | some l => .nx [some (.sh t), some (.sh (.int many)), some (.sh (.int l)), pv']
  | none => .rt (.sh (.bool false))
 | [], last, pv, _ => ⟨pv, rfl⟩
 | d :: r, last, pv, h => by
  have hd := h d (List.mem_cons_self ..)
  rw [cy]
  by_cases hi : ∃ p, d = .int p
  ·obtain ⟨p, rfl⟩ := hi
   obtain ⟨pv', ih⟩ := lC t many r (absI p) (some (.sh (.int p))) fun d' hd' => h d' (List.mem_cons_of_mem _ hd')
   refine ⟨pv', ?_⟩
   rw [Ax]
   unfold absI at ih ⊢
   by_cases h1 : (if p < 0 then -p else p) <= last
   ·simp [aT, cL _ hd, isWh, h1]
   ·by_cases h2 : many < (if p < 0 then -p else p)
    ·simp [aT, cL _ hd, isWh, h1, h2]
    ·simp [aT, cL _ hd, isWh, h1, h2]
     exact ih
  ·have hw := qP (d := d) fun i e => hi ⟨i, e⟩
   have hs : Ax many last (d :: r) = none := by
    cases d <;> first | rfl | exact absurd ⟨_, rfl⟩ hi
   refine ⟨none, ?_⟩
   rw [hs]
   simp [aT, cL _ hd, hw]
theorem xP (t : PyData) (many : Int) (h : ∀ es, t ≠ .dict es) (h2 : ∀ ds, t = .tuple ds -> ∀ d ∈ ds, ∀ es, d ≠ .dict es) : aZ [t, .int many] = .ok (.sh (.bool (AD many t))) := by
 simp only [aZ, df]
 by_cases ht : ∃ ds, t = .tuple ds
 ·obtain ⟨ds, rfl⟩ := ht
  obtain ⟨pv', e⟩ := lC (.tuple ds) many ds 0 none (h2 ds rfl)
  have hi : isiD "tuple" (.tuple ds) = true := rfl
  cases hs : Ax many 0 ds with
  | none => rw [hs] at e; simp [hi, e, AD, hs]
  | some l => rw [hs] at e; simp [hi, e, AD, hs]
 ·have hi : isiD "tuple" t = false := by cases t <;> first | rfl | exact absurd ⟨_, rfl⟩ ht | exact absurd rfl (h _)
  have hs : AD many t = false := by cases t <;> first | rfl | exact absurd ⟨_, rfl⟩ ht
  simp [gj "tuple" h, hi, hs]
theorem mx {n : Nat} {t : PyData} (h : zL n t) : ∀ ds, t = .tuple ds -> ∀ d ∈ ds, ∀ es, d ≠ .dict es := fun ds e d hd => by
 subst e
 exact (kx h d hd).nd
theorem tX {n : Nat} {t : PyData} (many : Int) (h : zL n t) : aZ [t, .int many] = .ok (.sh (.bool (AD many t))) := xP t many h.nd (mx h)
noncomputable def Af (many : Int) : zq -> Bool
 | [] => true
 | x :: r => AD many x && Af many r
theorem i4 {many : Int} : ∀ {xs : zq}, Af many xs = true ↔ ∀ x ∈ xs, AD many x = true
 | [] => by simp [Af]
 | x :: r => by simp [Af, i4 (xs := r)]
theorem oU {k : Nat} (h : k <= 1000) : ((k : Int)).natAbs.log2 < 1920 := by
 have := Nat.log2_le_self k
 show k.log2 < 1920
 lia
@[simp] theorem yN : SOut.bad.fin = Out.bad := rfl
theorem lD (t : PyData) (many : Int) : ∀ (xs : zq) (k : Nat) (p s : Option SD), (∀ x ∈ xs, zL 50 x) -> k + xs.length <= 1000 -> ∃ p' s', forL (kTup [2, 3]) bW (Ag k xs) [some (.sh t), some (.sh (.int many)), p, s] = if Af many xs = true then .nx [some (.sh t), some (.sh (.int many)), p', s'] else .bad
 | [], k, p, s, _, _ => ⟨p, s, rfl⟩
 | x :: r, k, p, s, h, hk => by
  have hx := h x (List.mem_cons_self ..)
  rw [List.length_cons] at hk
  obtain ⟨p', s', ih⟩ := lD t many r (k + 1) (some (.sh (.int k))) (some (.sh x)) (fun y hy => h y (List.mem_cons_of_mem _ hy)) (by lia)
  refine ⟨p', s', ?_⟩
  rw [Ag, cy]
  have hlog : k.log2 < 1920 := oU (k := k) (by lia)
  cases hs : AD many x with
  | true =>
   simp [bW, tX many hx, hs, Af]
   exact ih
  | false => simp [bW, tX many hx, hs, hlog, Af]
noncomputable def areB (things m : PyData) : Bool := match m, things with
 | .int many, .list xs => decide (1 <= many) && decide (many <= 16) && decide (xs.length <= 24) && Af many xs
 | _, _ => false
noncomputable def isFr (most : Int) : PyData -> Bool
 | .int k => decide (1 <= k) && decide (k <= most)
 | _ => false
theorem cM (d : PyData) (most : Int) (h : ∀ es, d ≠ .dict es) : aH [d, .int most] = .ok (.sh (.bool (isFr most d))) := by
 simp only [aH, bt]
 by_cases h1 : ∃ k, d = .int k
 ·obtain ⟨k, rfl⟩ := h1
  by_cases h2 : 1 <= k
  ·simp [cL _ h, isWh, isFr, h2]
  ·have h2' : k < 1 := by lia
   simp [cL _ h, isWh, isFr, h2, h2']
 ·have hw := qP (d := d) fun i e => h1 ⟨i, e⟩
  have hf : isFr most d = false := by cases d <;> first | rfl | exact absurd ⟨_, rfl⟩ h1
  simp [cL _ h, hw, hf]
theorem xQ {things m : PyData} (ht : zL 51 things) (hi : ∀ xs, things = .list xs -> ∀ x ∈ xs, zL 50 x) (hm : zL 50 m) : bu [things, m] = if areB things m = true then (match things with | .list xs => .ok (.ol xs) | _ => .bad) else .bad := by
 simp only [bu, fH]
 by_cases h1 : ∃ many, m = .int many
 ·obtain ⟨many, rfl⟩ := h1
  by_cases h2 : many < 1
  ·have hF : isFr 16 (.int many) = false := by simp [isFr]; lia
   have e : areB things (.int many) = false := by unfold areB; split <;> simp_all <;> lia
   simp [cM _ 16 hm.nd, hF, e]
  ·by_cases h3 : 16 < many
   ·have hF : isFr 16 (.int many) = false := by simp [isFr]; lia
    have e : areB things (.int many) = false := by unfold areB; split <;> simp_all <;> lia
    simp [cM _ 16 hm.nd, hF, e]
   ·have hF : isFr 16 (.int many) = true := by simp [isFr]; lia
    by_cases h4 : ∃ xs, things = .list xs
    ·obtain ⟨xs, rfl⟩ := h4
     have hl : isiD "list" (.list xs) = true := rfl
     by_cases h5 : 24 < xs.length
     ·have e : areB (.list xs) (.int many) = false := by simp [areB]; lia
      have h5' : (24 : Int) < xs.length := by lia
      simp [cM _ 16 hm.nd, hF, hl, h5', e]
     ·have h5' : ¬ (24 : Int) < xs.length := by lia
      obtain ⟨p', s', el⟩ := lD (.list xs) many xs 0 none none (hi xs rfl) (by lia)
      have e : areB (.list xs) (.int many) = Af many xs := by
       simp only [areB]
       rw [decide_eq_true (show 1 <= many by lia), decide_eq_true (show many <= 16 by lia), decide_eq_true (show xs.length <= 24 by lia)]
       rfl
      rw [e]
      cases ha : Af many xs with
      | true =>
       rw [ha] at el
       simp only [if_true] at el
       simp [cM _ 16 hm.nd, hF, hl, h5', el]
      | false =>
       rw [ha] at el
       simp only [Bool.false_eq_true, if_false] at el
       simp [cM _ 16 hm.nd, hF, hl, h5', el]
    ·have hl : isiD "list" things = false := by cases things <;> first | rfl | exact absurd ⟨_, rfl⟩ h4 | exact absurd rfl (ht.nd _)
     have e : areB things (.int many) = false := by unfold areB; split <;> simp_all
     simp [cM _ 16 hm.nd, hF, gj "list" ht.nd, hl, e]
 ·have hF : isFr 16 m = false := by cases m <;> first | rfl | exact absurd ⟨_, rfl⟩ h1
  have e : areB things m = false := by unfold areB; split <;> simp_all
  simp [cM _ 16 hm.nd, hF, e]
open Sy (CaseOk allC fitsB litOn Bl sayOn)
@[simp] theorem vv (s : List Int) : zy (encL s) = false := by unfold encL; simp [zy]
noncomputable def Low (n : Nat) (s : List Int) : Prop := ∀ p ∈ s, 1 <= absI p /\ absI p <= n
theorem sU (p : Int) : Sy.absI p = absI p := rfl
def col (k : Nat) (c : List Int) : Int := c.getD k 0
theorem sV {n : Nat} {c : List Int} (h : CaseOk n c) (k : Nat) : col k c = 0 \/ col k c = 1 := by
 unfold col
 rw [List.getD_eq_getElem?_getD]
 by_cases hk : k < c.length
 ·rw [List.getElem?_eq_getElem hk]
  exact h.bit _ (List.getElem_mem hk)
 ·rw [List.getElem?_eq_none (by omega)]; exact .inl rfl
theorem sW {n : Nat} {c : List Int} {p : Int} (hc : CaseOk n c) (h : 1 <= absI p /\ absI p <= c.length) : decide (decide (0 < p) = decide (c.getD (absI p - 1).toNat 0 = 1)) = litOn c p := by
 have hb := sV hc (absI p - 1).toNat
 unfold col at hb
 unfold litOn
 rw [sU]
 generalize c.getD (absI p - 1).toNat 0 = v at hb ⊢
 by_cases hp : 0 < p
 ·rcases hb with z | z <;> simp [hp, z]
 ·rcases hb with z | z <;> simp [hp, z]
theorem i5 {n : Nat} {c : List Int} {t : PyData} (hc : CaseOk n c) : ∀ (s : List Int) (pv : Option SD), Low c.length s -> ∃ pv', forL (kN 2) bG (s.map PyData.int) [some (.sh t), some (.sh (encL c)), pv] = if sayOn c s = true then .rt (.sh (.bool true)) else .nx [some (.sh t), some (.sh (encL c)), pv']
 | [], pv, _ => ⟨pv, by simp [sayOn]⟩
 | p :: r, pv, h => by
  obtain ⟨pv', ih⟩ := i5 (t := t) hc r (some (.sh (.int p))) fun q hq => h q (List.mem_cons_of_mem _ hq)
  refine ⟨pv', ?_⟩
  have hp := h p (List.mem_cons_self ..)
  have ea : atI (c.map PyData.int) (absI p - 1) = some (.int (c.getD (absI p - 1).toNat 0)) := fj (by omega) (by omega)
  have el := sW hc hp
  generalize c.getD (absI p - 1).toNat 0 = v at ea el
  rw [List.map_cons, cy]
  have e : sayOn c (p :: r) = (litOn c p || sayOn c r) := by simp [sayOn]
  rw [e]
  unfold absI at ea
  cases hl : litOn c p with
  | true =>
   rw [hl] at el
   have el' := of_decide_eq_true el
   simp -implicitDefEqProofs [bG, encL, ea, el']
  | false =>
   rw [hl] at el
   have el' := of_decide_eq_false el
   simp only [Bool.false_or]
   simp -implicitDefEqProofs [bG, encL, ea, el']
   exact ih
theorem sX {n : Nat} {c s : List Int} (hc : CaseOk n c) (h : Low c.length s) : bw [encS s, encL c] = .ok (.sh (.bool (sayOn c s))) := by
 obtain ⟨pv', e⟩ := i5 (t := encS s) hc s none h
 simp only [bw, eB]
 have es : ∀ δ, Av (eV 0) (some (.sh (encS s)) :: δ) = .ok (s.map PyData.int, some (.sh (encS s)) :: δ) := fun δ => by simp [encS]
 cases hf : sayOn c s with
 | true => rw [hf] at e; simp only [if_true] at e; simp -implicitDefEqProofs [-kr, es, e]
 | false => rw [hf] at e; simp only [Bool.false_eq_true, if_false] at e; simp -implicitDefEqProofs [-kr, es, e]
theorem sY {n : Nat} {ss : List (List Int)} {c : List Int} (hc : CaseOk n c) (hs : ∀ s ∈ ss, Low c.length s) (hn : ss.length <= 24) : b7 [.list (zv ss), encL c] = .ok (.sh (.bool (fitsB ss c))) := by
 have hcc : Ab [none, some (.sh (encL c))] bH bI (zv ss) = some (zv (ss.filter fun s => !sayOn c s)) := by
  have := fA (ρ := [none, some (.sh (encL c))]) (tc := bH) (te := bI) (b := fun d => match d with | .tuple ds => (match A1 ds with | some s => !sayOn c s | none => false) | _ => false) (y := fun d => d) (ds := zv ss) fun d hd => by
   obtain ⟨s, hs', rfl⟩ := List.mem_map.mp hd
   have hf := sX hc (hs s hs')
   unfold encS at hf
   refine ⟨_, by simp [bH, encS, hf, bq]; rfl, fun _ => ⟨_, by simp [bI, encS]; rfl⟩⟩
  rw [this, List.map_id'']
  ·congr 1
   unfold zv
   rw [List.filter_map]
   congr 1
   refine List.filter_congr fun s hs' => ?_
   simp [encS, bq]
  ·intro d; rfl
 have hz : ss.length <= sizeLine := aK (by omega)
 have hg : SeqAt.shaped (.list (zv (ss.filter fun s => !sayOn c s))) = true := (aS (n := 1) fun x hx => by
  obtain ⟨s, _, rfl⟩ := List.mem_map.mp hx
  exact gW (fB 0 s)).shaped (by decide)
 have hg0 : SeqAt.shaped (.list []) = true := (aS (n := 50) (xs := []) fun x hx' => absurd hx' (by simp)).shaped (by decide)
 have he : (zv (ss.filter fun s => !sayOn c s)).isEmpty = fitsB ss c := by
  unfold zv fitsB
  rw [Bool.eq_iff_iff, List.isEmpty_iff, List.map_eq_nil_iff, List.filter_eq_nil_iff, List.all_eq_true]
  simp
 generalize zv (ss.filter fun s => !sayOn c s) = L at hcc hg he
 simp only [b7, eE]
 simp -implicitDefEqProofs [hz, hcc, hg, hg0, jr, he]
theorem j9 (s : List Int) : zL 1 (encS s) := gW (fB 0 s)
theorem cN (ss : List (List Int)) : ∀ x ∈ zv ss, zL 1 x := fun x hx => by
 obtain ⟨s, _, rfl⟩ := List.mem_map.mp hx
 exact j9 s
theorem qQ {n : Nat} {ss : List (List Int)} (hs : ∀ s ∈ ss, AE n s) (hl : ss.length <= 24) (h1 : 1 <= n) (hn : n <= 16) : bu [.list (zv ss), .int n] = .ok (.ol (zv ss)) := by
 have hb : areB (.list (zv ss)) (.int n) = true := by
  simp only [areB, Bool.and_eq_true, decide_eq_true_eq]
  refine ⟨⟨⟨by omega, by omega⟩, by rw [dz]; exact hl⟩, ?_⟩
  rw [i4]
  intro x hx
  obtain ⟨s, hs', rfl⟩ := List.mem_map.mp hx
  exact o6.mpr (hs s hs')
 rw [xQ ((aS (cN ss)).mono (by decide)) (fun xs e x hx => by cases e; exact (cN ss x hx).mono (by decide)) (ku 50 n), if_pos hb]
theorem sZ (nss : List (List Int)) : nss.map encT = zv nss := rfl
theorem oV (a b : List (List Int)) : zv (a ++ b) = zv a ++ zv b := by unfold zv; rw [List.map_append]
theorem bT (x : PyData) (r : zq) : atI (x :: r) 0 = some x := gb (j := 0) (by simp)
theorem qR (x : PyData) (r : zq) : cutD (x :: r) (some 1) none = r := by
 unfold cutD
 rw [HT.pG, show (1 : Int) = ((1 : Nat) : Int) from rfl, HT.rn, List.length_cons, Nat.min_eq_left (by omega)]
 simp
theorem t4 (x0 : SD) (p x : Int) (r : zq) (F : zq) (hr : zx r = true) (hF : F.length < sizeLine) (hp : zx F = true) :
  aF [some x0, some (.sh (.int p)), some (.ol F), some (.sh (.tuple (.int x :: r)))] = .nx [some x0, some (.sh (.int p)), some (.ol (F ++ (if x = -p then [.tuple r] else if x ≠ p then [.tuple (.int x :: r)] else []))), some (.sh (.tuple (.int x :: r)))] := by
 by_cases e1 : x = -p
 ·subst e1
  simp -implicitDefEqProofs [aF, bT, qR, hr, hF]
 ·by_cases e2 : x = p
  ·subst e2
   simp -implicitDefEqProofs [aF, bT, qR, e1, hr, hF]
  ·simp -implicitDefEqProofs [aF, bT, qR, e1, e2, hr, hF]
theorem qS (p x : Int) (s : List Int) (r : List (List Int)) : outL p ((x :: s) :: r) = (if x = -p then [s] else if x ≠ p then [x :: s] else []) ++ outL p r := by
 unfold outL
 rw [List.filterMap_cons]
 dsimp only
 split
 next h => 
  split at h
  next => cases h
  next => 
   split at h
   next => cases h
   next h1 h2 => rw [if_neg h1, if_neg h2]; rfl
 next h =>
  split at h
  next h1 => cases h; rw [if_pos h1]; rfl
  next h1 =>
   split at h
   next h2 => cases h; rw [if_neg h1, if_pos h2]; rfl
   next => cases h
theorem nz (x0 : SD) (p : Int) : ∀ (S F : List (List Int)) (x3 : Option SD), (∀ s ∈ S, s ≠ []) -> F.length + S.length <= 900 ->
  ∃ y3, forL (kN 3) aF (zv S) [some x0, some (.sh (.int p)), some (.ol (zv F)), x3] = .nx [some x0, some (.sh (.int p)), some (.ol (zv (F ++ outL p S))), y3]
 | [], F, x3, _, _ => ⟨x3, by simp [zv, outL]⟩
 | [] :: r, F, x3, h, _ => absurd rfl (h [] (.head _))
 | (x :: s) :: r, F, x3, h, hl => by
  rw [List.length_cons] at hl
  have hz' : (zv F).length < sizeLine := by rw [dz]; exact gi (by omega)
  obtain ⟨y3, e⟩ := nz x0 p r (F ++ (if x = -p then [s] else if x ≠ p then [x :: s] else [])) (some (.sh (encS (x :: s)))) (fun c hc => h c (.tail _ hc)) (by
   rw [List.length_append]
   have : (if x = -p then [s] else if x ≠ p then [x :: s] else []).length <= 1 := by
    split
    ·simp
    ·split <;> simp
   omega)
  refine ⟨y3, ?_⟩
  rw [qS, <- List.append_assoc, <- e]
  show forL (kN 3) aF (encS (x :: s) :: zv r) _ = _
  rw [cy]
  have st := t4 x0 p x (s.map PyData.int) (zv F) (cX s) hz' (aL F)
  have ee : zv (F ++ (if x = -p then [s] else if x ≠ p then [x :: s] else [])) = zv F ++ (if x = -p then [.tuple (s.map PyData.int)] else if x ≠ p then [.tuple (.int x :: s.map PyData.int)] else []) := by
   rw [oV]
   congr 1
   split
   ·rfl
   ·split <;> rfl
  rw [ee]
  have kn : kN 3 (encS (x :: s)) [some x0, some (.sh (.int p)), some (.ol (zv F)), x3] = some [some x0, some (.sh (.int p)), some (.ol (zv F)), some (.sh (.tuple (.int x :: s.map PyData.int)))] := by simp [kN, encS]
  rw [kn]
  dsimp only
  rw [st]
  rfl
theorem vw {S : List (List Int)} {p : Int} (h : ∀ s ∈ S, s ≠ []) (hl : S.length < 63) : bf [.tuple (zv S), .int p] = .ok (.sh (.tuple (zv (zV (dedL (outL p S)))))) := by
 obtain ⟨y3, e⟩ := nz (.sh (.tuple (zv S))) p S [] none h (by simp; omega)
 have hn : (outL p S).length < 63 := Nat.lt_of_le_of_lt (List.length_filterMap_le _ _) hl
 have hS : A9 [.list (zv (outL p S))] = some (.ol (zv (zV (dedL (outL p S))))) := by
  rw [jz, if_pos (by rw [dz]; exact hn), <- sZ (outL p S), iZ]
  rfl
 have p1 := aL (outL p S)
 have p2 := aL (zV (dedL (outL p S)))
 rw [List.nil_append] at e
 have e' : forL (kN 3) aF (zv S) [some (.sh (.tuple (zv S))), some (.sh (.int p)), some (.ol []), none] = _ := e
 simp only [bf, de]
 generalize zv S = A at e' ⊢
 generalize zv (outL p S) = B at e' hS p1
 generalize zv (zV (dedL (outL p S))) = C at hS p2 ⊢
 simp -implicitDefEqProofs [e', hS, p1, p2]
theorem jE (s : List Int) : PyData.eqv (encS s) (.tuple []) = s.isEmpty := by
 unfold encS
 simp only [PyData.eqv]
 cases s <;> simp [PyData.eqvAll]
theorem my (ss : List (List Int)) : ((zv ss).any fun y => PyData.eqv y (.tuple [])) = ss.any List.isEmpty := by
 unfold zv
 rw [List.any_map]
 congr 1
 funext s
 exact jE s
theorem vx (S : List (List Int)) : dIn2 [.tuple [], .tuple (zv S)] = some (.sh (.bool (decide ([] ∈ S)))) := by
 have h1 : SeqAt.shaped (.tuple []) = true := (j9 []).shaped (by decide)
 have h2 : SeqAt.shaped (.list (zv S)) = true := (aS (cN S)).shaped (by decide)
 show (inB (.tuple []) (.tuple (zv S))).map (fun b => SD.sh (.bool b)) = _
 unfold inB
 dsimp only
 rw [if_pos ⟨h1, h2⟩, my]
 have : S.any List.isEmpty = decide ([] ∈ S) := by
  rw [Bool.eq_iff_iff, List.any_eq_true, decide_eq_true_eq]
  exact ⟨fun ⟨x, hx, e⟩ => by rw [List.isEmpty_iff] at e; exact e ▸ hx, fun h => ⟨[], h, rfl⟩⟩
 rw [this]
 rfl
theorem nA {S : List (List Int)} {p : Int} (hl : S.length < 63) : bF [.tuple (zv S), .int p] = .ok (.sh (.tuple (zv (aftP S p)))) := by
 have hi := vx S
 have h0 : (0 : Nat) <= sizeLine := aK (by omega)
 have h1 : (1 : Nat) <= sizeLine := aK (by omega)
 unfold aftP
 by_cases h : [] ∈ S
 ·rw [if_pos h]
  rw [decide_eq_true h] at hi
  simp only [bF, gw]
  generalize zv S = A at hi ⊢
  simp -implicitDefEqProofs [hi, h0, h1]
  rfl
 ·rw [if_neg h]
  rw [decide_eq_false h] at hi
  have hf := vw (p := p) (fun s hs e => h (e ▸ hs)) hl
  have p2 := aL (zV (dedL (outL p S)))
  simp only [bF, gw]
  generalize zv S = A at hi hf ⊢
  generalize zv (zV (dedL (outL p S))) = C at hf p2 ⊢
  simp -implicitDefEqProofs [hi, hf, h0, h1, p2]
theorem cC (kd : PyData) (φ : zq -> Out SD) (ops : List Opd) (δ : DEnv) : Ap kd φ ops δ = (opds ops δ).bind fun p => if p.1[2]? = some kd then (φ p.1).bind fun r => .ok (r, p.2.2) else .bad := rfl
theorem xR (a b : Bool) : dEqB (ynD a) (ynD b) = some (decide (a = b)) := by
 cases a <;> cases b <;> rfl
theorem qT (a : Bool) : dEqB (kiD a) (.str "some") = some a := by cases a <;> rfl
theorem jF (a : Bool) : dEqB (ynD a) (.str "yes") = some a := by cases a <;> rfl
theorem bY (a : Bool) : zy (ynD a) = true := by cases a <;> rfl
theorem dj (x y : PyData) (r : zq) : atI (x :: y :: r) 1 = some y := gb (j := 1) (by simp)
theorem ja {φ : zq -> Out SD} {t : Int} {S' S kd : PyData} {L : zq} {k b : Bool} {pl : PyData} {c : Int} {ps : zq} {x3 x7 x8 : Option SD} (hc : c = 0 \/ c = 1) (hA : bF [S, .int (if c = 1 then t else -t)] = .ok (.sh S')) (hφ : φ [.int (t + 1), S', .list L] = .ok (.sh (.tuple [ynD b, pl])))
  (p1 : zy S' = true) (p2 : zy pl = true) (hps : ps.length < sizeLine) (hkd : kd = .list L) :
  bR φ kd [some (.sh (.int t)), some (.sh S), some (.sh (.list L)), x3, some (.sh (ynD k)), some (.ol ps), some (.sh (.int c)), x7, x8] =
   if b = k then .rt (.sh (.tuple [ynD k, .tuple [.int c, pl]])) else .nx [some (.sh (.int t)), some (.sh S), some (.sh (.list L)), x3, some (.sh (ynD k)), some (.ol (ps ++ [pl])), some (.sh (.int c)), some (.sh S'), some (.sh (.tuple [ynD b, pl]))] := by
 have h2 : (2 : Nat) <= sizeLine := aK (by omega)
 have y1 := bY k
 have y2 := bY b
 have y3 := xR b k
 subst hkd
 generalize ynD k = yk at y1 y3 ⊢
 generalize ynD b = yb at y2 y3 hφ ⊢
 by_cases e : b = k
 ·rw [if_pos e]
  rw [decide_eq_true e] at y3
  rcases hc with rfl | rfl
  ·simp only [show ((0 : Int) = 1) = False by simp, if_false] at hA
   simp -implicitDefEqProofs [bR, hA, cC, hφ, p1, p2, bT, dj, y1, y2, y3, h2]
  ·simp only [if_true] at hA
   simp -implicitDefEqProofs [bR, hA, cC, hφ, p1, p2, bT, dj, y1, y2, y3, h2]
 ·rw [if_neg e]
  rw [decide_eq_false e] at y3
  rcases hc with rfl | rfl
  ·simp only [show ((0 : Int) = 1) = False by simp, if_false] at hA
   simp -implicitDefEqProofs [bR, hA, cC, hφ, p1, p2, bT, dj, y1, y2, y3, h2, hps]
  ·simp only [if_true] at hA
   simp -implicitDefEqProofs [bR, hA, cC, hφ, p1, p2, bT, dj, y1, y2, y3, h2, hps]
theorem i6 (i : Nat) (fb : DS) (d : PyData) (ds : zq) (δ : DEnv) : AQ i fb (d :: ds) δ = if i < δ.length then (match fb (δ.set i (some (.sh d))) with
  | .nx δ2 => AQ i fb ds δ2
  | .rt r => .rt r
  | _ => .bad) else .bad := rfl
theorem oW {t : Nat} {k : Bool} {ks : List Bool} {S : List (List Int)} {b0 b1 : Bool} {p0 p1 : PyData} (h0 : zB (t + 1) ks (aftP S (-(t : Int))) = (b0, p0)) (h1 : zB (t + 1) ks (aftP S (t : Int)) = (b1, p1)) :
  zQ t (k :: ks) S = if b0 = k then .tuple [ynD k, .tuple [.int 0, p0]] else if b1 = k then .tuple [ynD k, .tuple [.int 1, p1]] else .tuple [ynD (!k), .tuple [p0, p1]] := by
 unfold zQ zB
 rw [h0, h1]
 dsimp only
 split
 ·rfl
 ·split <;> rfl
theorem zl {φ : zq -> Out SD} {t : Nat} {ks : List Bool} {S : List (List Int)} (h1 : 1 <= t) (h2 : t <= ks.length) (hk : ks.length <= 900) (hS : S.length <= 24) (hφ : ∀ S' : List (List Int), S'.length <= 24 -> φ [.int ((t : Int) + 1), .tuple (zv S'), kisD ks] = .ok (.sh (zQ (t + 1) (ks.drop t) S'))) :
  bc φ [.int t, .tuple (zv S), kisD ks] = .ok (.sh (zQ t (ks.drop (t - 1)) S)) := by
 have hlt : t - 1 < ks.length := by omega
 have hdrop : ks.drop (t - 1) = ks[t - 1] :: ks.drop t := by
  rw [List.drop_eq_getElem_cons hlt, show t - 1 + 1 = t by omega]
 rw [hdrop]
 generalize hkk : ks[t - 1] = k
 have hat : atI (ks.map kiD) ((t : Int) - 1) = some (kiD k) := by
  have := gb (xs := ks.map kiD) (j := t - 1) (v := kiD k) (by rw [List.getElem?_map, List.getElem?_eq_getElem hlt, hkk]; rfl)
  rw [<- this]
  congr 1
  omega
 have hA0 := nA (S := S) (p := -(t : Int)) (by omega)
 have hA1 := nA (S := S) (p := (t : Int)) (by omega)
 have hφ0 := hφ (aftP S (-(t : Int))) (Nat.le_trans (lB S _) hS)
 have hφ1 := hφ (aftP S (t : Int)) (Nat.le_trans (lB S _) hS)
 have q0 := aX (ks.drop t) (t + 1) (aftP S (-(t : Int)))
 have q1 := aX (ks.drop t) (t + 1) (aftP S (t : Int))
 unfold zQ at hφ0 hφ1
 rw [oW (b0 := (zB (t + 1) (ks.drop t) (aftP S (-(t : Int)))).1) (p0 := (zB (t + 1) (ks.drop t) (aftP S (-(t : Int)))).2) (b1 := (zB (t + 1) (ks.drop t) (aftP S (t : Int))).1) (p1 := (zB (t + 1) (ks.drop t) (aftP S (t : Int))).2) rfl rfl]
 generalize (zB (t + 1) (ks.drop t) (aftP S (-(t : Int)))).1 = b0 at hφ0 ⊢
 generalize (zB (t + 1) (ks.drop t) (aftP S (-(t : Int)))).2 = p0 at hφ0 q0 ⊢
 generalize (zB (t + 1) (ks.drop t) (aftP S (t : Int))).1 = b1 at hφ1 ⊢
 generalize (zB (t + 1) (ks.drop t) (aftP S (t : Int))).2 = p1 at hφ1 q1 ⊢
 have pS0 : zy (.tuple (zv (aftP S (-(t : Int))))) = true := by rw [cW]; exact aL _
 have pS1 : zy (.tuple (zv (aftP S (t : Int)))) = true := by rw [cW]; exact aL _
 generalize PyData.tuple (zv (aftP S (-(t : Int)))) = S0 at hA0 hφ0 pS0
 generalize PyData.tuple (zv (aftP S (t : Int))) = S1 at hA1 hφ1 pS1
 generalize hSS : PyData.tuple (zv S) = SS at hA0 hA1 ⊢
 unfold kisD at hφ0 hφ1 ⊢
 have hki := qT k
 generalize hL : ks.map kiD = L at hat hφ0 hφ1 ⊢
 have z0 : (0 : Nat) < sizeLine := gi (by omega)
 have z1 : (1 : Nat) < sizeLine := gi (by omega)
 have z2 : (2 : Nat) <= sizeLine := aK (by omega)
 have s0 := fun (x3 x7 x8 : Option SD) => ja (φ := φ) (t := (t : Int)) (S' := S0) (S := SS) (kd := .list L) (L := L) (k := k) (b := b0) (pl := p0) (c := 0) (ps := []) (x3 := x3) (x7 := x7) (x8 := x8) (.inl rfl) (by simpa using hA0) hφ0 pS0 q0 (by simpa using z0) rfl
 have s1 := fun (x3 x7 x8 : Option SD) => ja (φ := φ) (t := (t : Int)) (S' := S1) (S := SS) (kd := .list L) (L := L) (k := k) (b := b1) (pl := p1) (c := 1) (ps := [p0]) (x3 := x3) (x7 := x7) (x8 := x8) (.inr rfl) (by simpa using hA1) hφ1 pS1 q1 (by simpa using z1) rfl
 have seq_nx : ∀ {f g : DS} {δ δ' : DEnv}, f δ = .nx δ' -> sSeq f g δ = g δ' := fun {f g δ δ'} e => by unfold sSeq; rw [e]
 have seq_rt : ∀ {f g : DS} {δ : DEnv} {r : SD}, f δ = .rt r -> sSeq f g δ = .rt r := fun {f g δ r} e => by unfold sSeq; rw [e]
 have e1 : sAsg 4 (eIf (tstV (eOp dEq [.ex (eOp dIdx [.nm 2, .ex (eOp dSub [.nm 0, .ex (eC (.int 1))])]), .ex (eC (.str "some"))])) (eC (.str "yes")) (eC (.str "no"))) [some (.sh (.int t)), some (.sh SS), some (.sh (.list L)), none, none, none, none, none, none] = .nx [some (.sh (.int t)), some (.sh SS), some (.sh (.list L)), none, some (.sh (ynD k)), none, none, none, none] := by
  have hkp : zy (kiD k) = true := by cases k <;> rfl
  generalize kiD k = kk at hat hki hkp
  cases k
  ·simp -implicitDefEqProofs [hat, hki, hkp, ynD]
  ·simp -implicitDefEqProofs [hat, hki, hkp, ynD]
 have e2 : sAsg 5 (eOp dLst []) [some (.sh (.int t)), some (.sh SS), some (.sh (.list L)), none, some (.sh (ynD k)), none, none, none, none] = .nx [some (.sh (.int t)), some (.sh SS), some (.sh (.list L)), none, some (.sh (ynD k)), some (.ol []), none, none, none] := by
  simp -implicitDefEqProofs []
 have hit : ∀ δ : DEnv, Av (eOp dTup [.ex (eC (.int 0)), .ex (eC (.int 1))]) δ = .ok ([.int 0, .int 1], δ) := fun δ => by
  simp -implicitDefEqProofs [z2]
 have e3 : B2 2 (Av (eOp dTup [.ex (eC (.int 0)), .ex (eC (.int 1))])) 6 (bR φ (.list L)) [some (.sh (.int t)), some (.sh SS), some (.sh (.list L)), none, some (.sh (ynD k)), some (.ol []), none, none, none] =
   if b0 = k then .rt (.sh (.tuple [ynD k, .tuple [.int 0, p0]])) else if b1 = k then .rt (.sh (.tuple [ynD k, .tuple [.int 1, p1]])) else .nx [some (.sh (.int t)), some (.sh SS), some (.sh (.list L)), none, some (.sh (ynD k)), some (.ol [p0, p1]), some (.sh (.int 1)), some (.sh S1), some (.sh (.tuple [ynD b1, p1]))] := by
  unfold B2
  rw [hit]
  dsimp only
  rw [if_pos (show [PyData.int 0, PyData.int 1].length = 2 from rfl), i6, if_pos (by simp)]
  simp only [List.set_cons_succ, List.set_cons_zero]
  rw [s0 none none none]
  by_cases h : b0 = k
  ·rw [if_pos h, if_pos h]
  ·rw [if_neg h, if_neg h]
   dsimp only
   rw [i6, if_pos (by simp)]
   simp only [List.set_cons_succ, List.set_cons_zero, List.nil_append]
   rw [s1 none (some (.sh S0)) (some (.sh (.tuple [ynD b0, p0])))]
   by_cases h' : b1 = k
   ·rw [if_pos h', if_pos h']
   ·rw [if_neg h', if_neg h']
    rfl
 have e4 : sRet (eOp dTup [.ex (eIf (tstV (eOp dEq [.nm 4, .ex (eC (.str "yes"))])) (eC (.str "no")) (eC (.str "yes"))), .ex (eOp dTup [.ex (eOp dIdx [.nm 5, .ex (eC (.int 0))]), .ex (eOp dIdx [.nm 5, .ex (eC (.int 1))])])]) [some (.sh (.int t)), some (.sh SS), some (.sh (.list L)), none, some (.sh (ynD k)), some (.ol [p0, p1]), some (.sh (.int 1)), some (.sh S1), some (.sh (.tuple [ynD b1, p1]))] = .rt (.sh (.tuple [ynD (!k), .tuple [p0, p1]])) := by
  have yy := jF k
  have yp := bY k
  have hno : ynD (!k) = if k = true then PyData.str "no" else PyData.str "yes" := by cases k <;> rfl
  rw [hno]
  generalize ynD k = yk at yy yp ⊢
  generalize ynD b1 = yb
  cases k
  ·simp -implicitDefEqProofs [yy, yp, bT, dj, q0, q1, z2]
  ·simp -implicitDefEqProofs [yy, yp, bT, dj, q0, q1, z2]
 show runM 9 3 (cA φ) [.int t, SS, .list L] = _
 unfold runM
 rw [if_pos (show [PyData.int t, SS, .list L].length = 3 from rfl)]
 show (match cA φ (.list L) [some (.sh (.int t)), some (.sh SS), some (.sh (.list L)), none, none, none, none, none, none] with
  | .nx _ => Out.ok (SD.sh .none)
  | .rt r => .ok r
  | _ => .bad) = _
 unfold cA
 rw [seq_nx e1, seq_nx e2]
 by_cases h : b0 = k
 ·rw [if_pos h] at e3
  rw [if_pos h, seq_rt e3]
 ·rw [if_neg h] at e3
  rw [if_neg h]
  by_cases h' : b1 = k
  ·rw [if_pos h'] at e3
   rw [if_pos h', seq_rt e3]
  ·rw [if_neg h'] at e3
   rw [if_neg h', seq_nx e3, e4]
theorem qU {t : Nat} {S : List (List Int)} {L : zq} {φ : zq -> Out SD} (h : (L.length : Int) < t) : runM 4 3 (aN φ) [.int t, .tuple (zv S), .list L] = .ok (.sh (zQ t [] S)) := by
 have z2 : (2 : Nat) <= sizeLine := aK (by omega)
 have hD : zQ t [] S = .tuple [if (zv S).isEmpty = true then .str "yes" else .str "no", .none] := by
  unfold zQ zB
  cases S <;> rfl
 rw [hD]
 unfold runM
 rw [if_pos (show [PyData.int t, .tuple (zv S), .list L].length = 3 from rfl)]
 show (match aN φ (.list L) [some (.sh (.int t)), some (.sh (.tuple (zv S))), some (.sh (.list L)), none] with
  | .nx _ => Out.ok (SD.sh .none)
  | .rt r => .ok r
  | _ => .bad) = _
 unfold aN
 generalize zv S = A
 cases A with
 | nil => simp -implicitDefEqProofs [h, z2]
 | cons a r => simp -implicitDefEqProofs [h, z2]
theorem oX {t : Nat} {ks : List Bool} {S : List (List Int)} {φ : zq -> Out SD} (h1 : 1 <= t) (h : t <= ks.length) (hφ : φ [.int t, .tuple (zv S), kisD ks] = .ok (.sh (zQ t (ks.drop (t - 1)) S))) : runM 4 3 (aN φ) [.int t, .tuple (zv S), kisD ks] = .ok (.sh (zQ t (ks.drop (t - 1)) S)) := by
 have hr : MPk.Rt (kisD ks) (.tuple [.int t, .tuple (zv S)]) (zQ t (ks.drop (t - 1)) S) := ⟨ks, t, S, rfl, rfl, h1, h, rfl⟩
 have hu : ∀ d', MPk.Rt (kisD ks) (.tuple [.int t, .tuple (zv S)]) d' -> d' = zQ t (ks.drop (t - 1)) S := fun d' e => vp e
 have hs := oT t S
 have e1 : sIf (tstV (eOp dGt [.nm 0, .ex (eOp dLen [.nm 2])])) (sRet (eOp dTup [.ex (eIf (tstO (.nm 1)) (eC (.str "no")) (eC (.str "yes"))), .ex (eC .none)])) (zK) [some (.sh (.int t)), some (.sh (.tuple (zv S))), some (.sh (kisD ks)), none] = .nx [some (.sh (.int t)), some (.sh (.tuple (zv S))), some (.sh (kisD ks)), none] := by
  have hn : ¬ ((ks.length : Int) < (t : Int)) := by omega
  unfold kisD
  simp -implicitDefEqProofs [hn]
 have e2 : Ap (kisD ks) φ [.nm 0, .nm 1, .nm 2] [some (.sh (.int t)), some (.sh (.tuple (zv S))), some (.sh (kisD ks)), none] = .ok (.sh (zQ t (ks.drop (t - 1)) S), [some (.sh (.int t)), some (.sh (.tuple (zv S))), some (.sh (kisD ks)), none]) := by
  generalize zQ t (ks.drop (t - 1)) S = d at hφ ⊢
  generalize PyData.tuple (zv S) = A at hφ ⊢
  generalize kisD ks = B at hφ ⊢
  simp -implicitDefEqProofs [cC, hφ]
 unfold runM
 rw [if_pos (show [PyData.int t, .tuple (zv S), kisD ks].length = 3 from rfl)]
 show (match aN φ (kisD ks) [some (.sh (.int t)), some (.sh (.tuple (zv S))), some (.sh (kisD ks)), none] with
  | .nx _ => Out.ok (SD.sh .none)
  | .rt r => .ok r
  | _ => .bad) = _
 have e3 : B3 MPk (kisD ks) 0 1 φ [.nm 0, .nm 1, .nm 2] [some (.sh (.int t)), some (.sh (.tuple (zv S))), some (.sh (kisD ks)), none] = .rt (.sh (zQ t (ks.drop (t - 1)) S)) := by
  unfold B3
  show (match Ap (kisD ks) φ [.nm 0, .nm 1, .nm 2] [some (.sh (.int t)), some (.sh (.tuple (zv S))), some (.sh (kisD ks)), none] with | .ok (.sh d, δ') => _ | _ => _) = _
  rw [e2]
  dsimp only
  rw [if_pos ⟨rfl, hs, hr, hu⟩]
 unfold aN sSeq
 rw [e1]
 dsimp only
 rw [e3]
theorem qV : ∀ (n : Nat) {t : Nat} {ks : List Bool} {S : List (List Int)}, 1 <= t -> t <= ks.length + 1 -> ks.length + 1 - t <= n -> ks.length <= 900 -> S.length <= 24 -> ax (n + 1) [.int t, .tuple (zv S), kisD ks] = .ok (.sh (zQ t (ks.drop (t - 1)) S))
 | n, t, ks, S, h1, h2, h3, hk, hS => by
  show runM 4 3 (aN (bc (ax n))) _ = _
  by_cases he : t = ks.length + 1
  ·rw [show ks.drop (t - 1) = [] from List.drop_eq_nil_of_le (by omega)]
   exact qU (by rw [List.length_map]; omega)
  ·refine oX h1 (by omega) (zl h1 (by omega) hk hS fun S' hS' => ?_)
   obtain ⟨n', rfl⟩ : ∃ n', n = n' + 1 := ⟨n - 1, by omega⟩
   have := qV n' (t := t + 1) (ks := ks) (S := S') (by omega) (by omega) (by omega) hk hS'
   rw [show t + 1 - 1 = t by omega] at this
   exact this
theorem mz {i : Int} {p : PyData} (hi : i = 0 \/ i = 1) (hp : zy p = true) : aQ [.tuple [.int i, p]] = .ok (.sh (.bool true)) := by
 have hw : bg [.int i] = .ok (.sh (.bool true)) := by
  simp only [bg, di]
  simp -implicitDefEqProofs []
  rfl
 have h0 : (0 : Int) <= i := by omega
 have h1 : i <= (1 : Int) := by omega
 have h2 : isiD "tuple" (.tuple [.int i, p]) = true := rfl
 simp only [aQ, cm]
 simp -implicitDefEqProofs [hw, bT, h0, h1, h2, hp]
theorem xS {φ : zq -> Out SD} {S : PyData} {L C : zq} {who : Bool} (hl : C.length = L.length) (hf : b7 [S, .list C] = .ok (.sh (.bool who))) : runB 6 5 (aC φ) [S, .list L, ynD who, .none, .list C] = .ok (.sh (.bool true)) := by
 have y := jF who
 have yp := bY who
 have hi : isB .none .none = some true := rfl
 generalize ynD who = yw at y yp ⊢
 unfold aC
 simp -implicitDefEqProofs [hl, hf, y, yp, hi]
theorem tY {φ : zq -> Out SD} {S : PyData} {L C : zq} {who : Bool} {i : Int} {p : PyData} (hi : i = 0 \/ i = 1) (hp : zy p = true) (hl : C.length < L.length) (hL : L.length <= 900) (hk : atI L (C.length : Int) = some (kiD who)) (hf : φ [S, .list L, ynD who, p, .list (C ++ [.int i])] = .ok (.sh (.bool true))) (hC : zx C = true) :
  runB 6 5 (aC φ) [S, .list L, ynD who, .tuple [.int i, p], .list C] = .ok (.sh (.bool true)) := by
 have y := jF who
 have yp := bY who
 have ki := qT who
 have kp : zy (kiD who) = true := by cases who <;> rfl
 have hc := mz hi hp
 have h1 : ¬ ((C.length : Int) = (L.length : Int)) := by omega
 have z1 : (1 : Nat) <= sizeLine := aK (by omega)
 have z2 : C.length + 1 <= sizeLine := aK (by omega)
 generalize ynD who = yw at y yp hf ⊢
 generalize kiD who = kw at ki kp hk
 unfold aC
 simp -implicitDefEqProofs [h1, hf, y, yp, ki, kp, hk, hc, hp, bT, dj, z1, z2, hC]
theorem xT {φ : zq -> Out SD} {S : PyData} {L C : zq} {who : Bool} {p0 p1 : PyData} (h0 : zy p0 = true) (h1 : zy p1 = true) (hl : C.length < L.length) (hL : L.length <= 900) (hk : atI L (C.length : Int) = some (kiD (!who))) (hf0 : φ [S, .list L, ynD who, p0, .list (C ++ [.int 0])] = .ok (.sh (.bool true))) (hf1 : φ [S, .list L, ynD who, p1, .list (C ++ [.int 1])] = .ok (.sh (.bool true))) (hC : zx C = true) :
  runB 6 5 (aC φ) [S, .list L, ynD who, .tuple [p0, p1], .list C] = .ok (.sh (.bool true)) := by
 have y := jF who
 have yp := bY who
 have ki := qT (!who)
 have kp : zy (kiD (!who)) = true := by cases who <;> rfl
 have hn : ¬ ((C.length : Int) = (L.length : Int)) := by omega
 have z1 : (1 : Nat) <= sizeLine := aK (by omega)
 have z2 : C.length + 1 <= sizeLine := aK (by omega)
 have h2 : isiD "tuple" (.tuple [p0, p1]) = true := rfl
 generalize ynD who = yw at y yp hf0 hf1 ⊢
 generalize kiD (!who) = kw at ki kp hk
 unfold aC
 cases who
 ·simp -implicitDefEqProofs [hn, hf0, hf1, y, yp, ki, kp, hk, h0, h1, h2, bT, dj, z1, z2, hC]
 ·simp -implicitDefEqProofs [hn, hf0, hf1, y, yp, ki, kp, hk, h0, h1, h2, bT, dj, z1, z2, hC]
noncomputable def Ad : PyData -> Bool
 | .str s => decide (s = "some") || decide (s = "all")
 | _ => false
noncomputable def simK : PyData -> Bool
 | .str s => PyData.strOk s
 | .int _ => true
 | .none => true
 | _ => false
theorem jG : PyData.strOk "some" = true := by decide +kernel
theorem mB : PyData.strOk "all" = true := by decide +kernel
theorem t5 {s : Str} (h : PyData.strOk s = true) : dIn2 [.str s, .tuple [.str "some", .str "all"]] = some (.sh (.bool (decide (s = "some") || decide (s = "all")))) := by
 have h1 : SeqAt.shaped (.str s) = true := (bj 0 _ h).shaped (by decide)
 have h2 : SeqAt.shaped (.list [.str "some", .str "all"]) = true := (aS (n := 0) (xs := [.str "some", .str "all"]) fun x hx => by
  simp at hx
  rcases hx with rfl | rfl
  ·exact bj _ _ jG
  ·exact bj _ _ mB).shaped (by decide)
 show (inB (.str s) (.tuple [.str "some", .str "all"])).map (fun b => SD.sh (.bool b)) = _
 unfold inB
 dsimp only
 rw [if_pos ⟨h1, h2⟩]
 simp only [List.any_cons, List.any_nil, PyData.eqv, Bool.or_false, Option.map_some]
 congr 3
 by_cases a : s = "some"
 ·subst a; rfl
 ·by_cases b : s = "all"
  ·subst b; rfl
  ·have a' : ¬ Str.ofString "some" = s := fun z => a z.symm
   have b' : ¬ Str.ofString "all" = s := fun z => b z.symm
   simp [a, b, a', b']
theorem vy {x : PyData} (h : simK x = true) : aP [some (.sh x)] = .ok (.sh (.bool (Ad x)), [some (.sh x)]) := by
 have hi : dIsi "str" [x] = some (.sh (.bool (isiD "str" x))) := gj "str" (fun es e => by subst e; cases h)
 cases x with
 | str s =>
  have h1 := t5 (s := s) h
  have h2 : isiD "str" (.str s) = true := rfl
  simp [aP, hi, h1, h2, Ad]
 | int i =>
  have h2 : isiD "str" (.int i) = false := rfl
  simp [aP, hi, h2, Ad]
 | none =>
  have h2 : isiD "str" .none = false := rfl
  simp [aP, hi, h2, Ad]
 | _ => cases h
theorem lE {xs : zq} (h : ∀ x ∈ xs, simK x = true) (hl : xs.length <= 100) (n : Int) : b6 [.list xs, .int n] = .ok (.sh (.bool (decide ((xs.length : Int) = n) && xs.all Ad))) := by
 have hc : Ab [none] A6 aP xs = some (xs.map fun x => .bool (Ad x)) := dw (ρ := [none]) (te := aP) (y := fun x => .bool (Ad x)) fun x hx => ⟨[some (.sh x)], by
  have e := vy (h x hx)
  simp [e]⟩
 have hi : isiD "list" (.list xs) = true := rfl
 have hz : xs.length <= sizeLine := aK (by lia)
 have ha : dAll [.list (xs.map fun x => .bool (Ad x))] = some (.sh (.bool (xs.all Ad))) := by
  rw [mW]
  have : A5 (xs.map fun x => .bool (Ad x)) = some (xs.map Ad) := by
   clear hc hi hz h hl
   induction xs with
   | nil => rfl
   | cons a r ih => simp [A5, ih]
  rw [this, Option.map_some, List.all_map]
  rfl
 simp only [b6, dg]
 by_cases e : (xs.length : Int) = n
 ·have pb : zx (xs.map fun x => PyData.bool (Ad x)) = true := by
   clear hc ha hi hz h hl e
   induction xs with
   | nil => rfl
   | cons a r ih => simp [zy, ih]
  generalize (xs.map fun x => PyData.bool (Ad x)) = BS at hc ha pb
  simp [-mW, hi, e, hc, ha, hz, pb]
 ·simp [hi, e]
theorem qW (ks : List Bool) : (∀ x ∈ ks.map kiD, simK x = true) /\ (ks.map kiD).all Ad = true := by
 constructor
 ·intro x hx
  obtain ⟨b, _, rfl⟩ := List.mem_map.mp hx
  cases b
  ·exact mB
  ·exact jG
 ·rw [List.all_eq_true]
  intro x hx
  obtain ⟨b, _, rfl⟩ := List.mem_map.mp hx
  cases b <;> rfl
theorem t6 {ks : List Bool} {n : Nat} (hl : ks.length = n) (h5 : n <= 5) : b6 [kisD ks, .int n] = .ok (.sh (.bool true)) := by
 unfold kisD
 rw [lE (qW ks).1 (by rw [List.length_map]; omega), (qW ks).2, List.length_map, hl]
 simp
theorem qX {ks : List Bool} {n : Nat} {ss : List (List Int)} (hl : ks.length = n) (h1 : 1 <= n) (h5 : n <= 5) (hs : ∀ s ∈ ss, AE n s) (hn : ss.length <= 24) : cB [.list (zv ss), .int n, kisD ks] = .ok (.sh (zQ 1 ks ss)) := by
 have hc := qQ hs hn h1 (by omega)
 have hk := t6 hl h5
 have hf : bX [.int 1, .tuple (zv ss), kisD ks] = .ok (.sh (zQ 1 ks ss)) := qV 7 (t := 1) (ks := ks) (S := ss) (by omega) (by omega) (by omega) (by omega) hn
 have pp : zy (zQ 1 ks ss) = true := by
  unfold zQ
  simp [zy, zx, bY, aX]
 have ps := aL ss
 simp only [cB, i3]
 generalize zv ss = S at hc hf ps ⊢
 generalize zQ 1 ks ss = T at hf pp ⊢
 generalize kisD ks = KD at hk hf ⊢
 simp -implicitDefEqProofs [hc, hk, hf, AY, ps, pp]
theorem vz {c ch r : List Int} {i : Int} {t : Nat} (ht : t = ch.length + 1) (hc : c = ch ++ [i] ++ r) (hi : i = 0 \/ i = 1) : Sy.litOn c (if i = 1 then (t : Int) else -(t : Int)) = true /\ Sy.litOn c (-(if i = 1 then (t : Int) else -(t : Int))) = false := by
 have hg : c.getD ch.length 0 = i := by
  rw [hc, List.append_assoc, List.getD_eq_getElem?_getD, List.getElem?_append_right (Nat.le_refl _)]
  simp
 have a1 : (Sy.absI (t : Int) - 1).toNat = ch.length := by unfold Sy.absI; split <;> omega
 have a2 : (Sy.absI (-(t : Int)) - 1).toNat = ch.length := by unfold Sy.absI; split <;> omega
 have p1 : (0 : Int) < (t : Int) := by omega
 have p2 : ¬ (0 : Int) < -(t : Int) := by omega
 rcases hi with rfl | rfl
 ·simp only [show ((0 : Int) = 1) = False by simp, if_false, Int.neg_neg]
  unfold Sy.litOn
  rw [a1, a2, hg, if_pos p1, if_neg p2]
  exact ⟨rfl, rfl⟩
 ·simp only [if_true]
  unfold Sy.litOn
  rw [a1, a2, hg, if_pos p1, if_neg p2]
  exact ⟨rfl, rfl⟩
theorem tZ (t : Nat) : absI (t : Int) = t /\ absI (-(t : Int)) = t := by
 unfold absI
 constructor
 ·split <;> omega
 ·split <;> omega
theorem walked {n : Nat} {ss : List (List Int)} {ks : List Bool} (hok : ∀ s ∈ ss, AE n s) (hn : ss.length <= 24) (hkn : ks.length = n) (h5 : n <= 5) : ∀ (rest : List Bool) (m t : Nat) (S : List (List Int)) (ch : List Int), ks.drop ch.length = rest -> ch.length + rest.length = n -> t = ch.length + 1 -> (∀ x ∈ ch, x = 0 \/ x = 1) -> Bd t n S ->
  (∀ c, Sy.CaseOk n c -> (∃ r, c = ch ++ r) -> Sy.fitsB S c = Sy.fitsB ss c) -> rest.length < m -> aD m [.list (zv ss), kisD ks, ynD (zB t rest S).1, (zB t rest S).2, encL ch] = .ok (.sh (.bool true))
 | [], m, t, S, ch, hd, hl, ht, hb, hg, hI, hm => by
  obtain ⟨m', rfl⟩ : ∃ m', m = m' + 1 := ⟨m - 1, by simp at hm; omega⟩
  have hl' : ch.length = n := by simpa using hl
  have hc : Sy.CaseOk n ch := ⟨hl', hb⟩
  have e1 := hI ch hc ⟨[], by simp⟩
  have e2 := qN (n := n) (S := S) (c := ch) (by rw [show ((n : Int) + 1) = ((t : Nat) : Int) by omega]; exact hg)
  have hf := sY (ss := ss) hc (fun s hs p hp => by rw [hl']; exact (hok s hs).low p hp) hn
  rw [<- e1, e2] at hf
  show runB 6 5 (aC (aD m')) _ = _
  exact xS (by rw [List.length_map, List.length_map]; omega) hf
 | k :: rest, m, t, S, ch, hd, hl, ht, hb, hg, hI, hm => by
  rw [List.length_cons] at hl hm
  obtain ⟨m', rfl⟩ : ∃ m', m = m' + 1 := ⟨m - 1, by omega⟩
  have hlt : ch.length < ks.length := by omega
  have hd' : ks.drop (ch.length + 1) = rest := by
   rw [List.drop_eq_getElem_cons hlt] at hd
   injection hd
  have hk' : ks[ch.length] = k := by
   rw [List.drop_eq_getElem_cons hlt] at hd
   injection hd
  have hat : atI (ks.map kiD) ((ch.map PyData.int).length : Int) = some (kiD k) := by
   rw [List.length_map]
   exact gb (by rw [List.getElem?_map, List.getElem?_eq_getElem hlt, hk']; rfl)
  have ih : ∀ i : Int, i = 0 \/ i = 1 -> aD m' [.list (zv ss), kisD ks, ynD (zB (t + 1) rest (aftP S (if i = 1 then (t : Int) else -(t : Int)))).1, (zB (t + 1) rest (aftP S (if i = 1 then (t : Int) else -(t : Int)))).2, .list (ch.map PyData.int ++ [.int i])] = .ok (.sh (.bool true)) := fun i hi => by
   have := walked hok hn hkn h5 rest m' (t + 1) (aftP S (if i = 1 then (t : Int) else -(t : Int))) (ch ++ [i]) (by simpa using hd') (by simp; omega) (by simp; omega) (fun x hx => by
    rcases List.mem_append.mp hx with z | z
    ·exact hb x z
    ·have : x = i := by simpa using z
     subst this
     exact hi) (by
    have := qL (p := if i = 1 then (t : Int) else -(t : Int)) hg (by
     split
     ·exact (tZ t).1
     ·exact (tZ t).2)
    simpa using this) (fun c hc ⟨r, hr⟩ => by
    obtain ⟨l1, l2⟩ := vz ht hr hi
    rw [qM l1 l2]
    exact hI c hc ⟨[i] ++ r, by rw [hr, List.append_assoc]⟩) (by omega)
   unfold encL at this
   rw [List.map_append] at this
   exact this
  have ih0 := ih 0 (.inl rfl)
  have ih1 := ih 1 (.inr rfl)
  simp only [show ((0 : Int) = 1) = False by simp, if_false] at ih0
  simp only [if_true] at ih1
  have q0 := aX rest (t + 1) (aftP S (-(t : Int)))
  have q1 := aX rest (t + 1) (aftP S (t : Int))
  have hlC : (ch.map PyData.int).length < (ks.map kiD).length := by rw [List.length_map, List.length_map]; exact hlt
  have hL9 : (ks.map kiD).length <= 900 := by rw [List.length_map]; omega
  have hpC := cX ch
  show runB 6 5 (aC (aD m')) _ = _
  unfold zB
  generalize (zB (t + 1) rest (aftP S (-(t : Int)))) = r0 at ih0 q0 ⊢
  generalize (zB (t + 1) rest (aftP S (t : Int))) = r1 at ih1 q1 ⊢
  obtain ⟨b0, p0⟩ := r0
  obtain ⟨b1, p1⟩ := r1
  dsimp only at ih0 ih1 q0 q1 ⊢
  by_cases h : b0 = k
  ·rw [if_pos h]
   subst h
   exact tY (.inl rfl) q0 hlC hL9 hat ih0 hpC
  ·rw [if_neg h]
   by_cases h' : b1 = k
   ·rw [if_pos h']
    subst h'
    exact tY (.inr rfl) q1 hlC hL9 hat ih1 hpC
   ·rw [if_neg h']
    have e0 : b0 = !k := by cases b0 <;> cases k <;> simp_all
    have e1 : b1 = !k := by cases b1 <;> cases k <;> simp_all
    subst e0
    rw [e1] at ih1
    exact xT q0 q1 hlC hL9 (by rw [Bool.not_not]; exact hat) ih0 ih1 hpC
noncomputable def zI (ns : List Int) (n : Nat) : List Bool := (List.range n).map fun (k : Nat) => decide (mixZ ns (40 + (k : Int)) 2 = 0)
theorem xU (ns : List Int) (k : Nat) : dF [some (.sh (.int (0 + (k : Int)))), some (.sh (scr ns))] = .ok (.sh (kiD (decide (mixZ ns (40 + (k : Int)) 2 = 0))), [some (.sh (.int (0 + (k : Int)))), some (.sh (scr ns))]) := by
 have hm := j8 ns (40 + (k : Int)) 2 (by omega) (by decide)
 have a0 := bU ns (40 + (k : Int)) (m := 2) (by decide)
 have a1 := bV ns (40 + (k : Int)) (m := 2) (by decide)
 have z2 : (2 : Nat) <= sizeLine := aK (by omega)
 generalize mixZ ns (40 + (k : Int)) 2 = x at hm a0 a1 ⊢
 have hx : x = 0 \/ x = 1 := by omega
 rcases hx with rfl | rfl
 ·simp -implicitDefEqProofs [dF, hm, z2, bT, kiD]
 ·simp -implicitDefEqProofs [dF, hm, z2, dj, kiD]
theorem mC (ns : List Int) (n : Nat) : Ab [none, some (.sh (scr ns))] A6 dF (rngI 0 n) = some ((zI ns n).map kiD) := by
 have := dw (ρ := [none, some (.sh (scr ns))]) (te := dF) (y := fun d => match d with | .int i => kiD (decide (mixZ ns (40 + i) 2 = 0)) | d => d) (ds := rngI 0 n) fun d hd => by
  obtain ⟨k, _, rfl⟩ := List.mem_map.mp hd
  have e := xU ns k
  refine ⟨[some (.sh (.int (0 + (k : Int)))), some (.sh (scr ns))], ?_⟩
  dsimp only [List.set_cons_zero]
  rw [wU, e]
  simp
 rw [this]
 unfold rngI zI
 rw [List.map_map, List.map_map]
 congr 1
 refine List.map_congr_left fun k _ => ?_
 simp
theorem qY (b : Bool) : AF [ynD b, .tuple [.str "yes", .str "no"]] = some (.sh (.bool false)) := by
 have oy : PyData.strOk "yes" = true := by decide +kernel
 have on : PyData.strOk "no" = true := by decide +kernel
 have h2 : SeqAt.shaped (.list [.str "yes", .str "no"]) = true := (aS (n := 0) (xs := [.str "yes", .str "no"]) fun x hx => by
  simp at hx
  rcases hx with rfl | rfl
  ·exact bj _ _ oy
  ·exact bj _ _ on).shaped (by decide)
 have h1 : SeqAt.shaped (ynD b) = true := by
  cases b
  ·exact (bj 0 _ on).shaped (by decide)
  ·exact (bj 0 _ oy).shaped (by decide)
 show (inB (ynD b) (.tuple [.str "yes", .str "no"])).map (fun b => SD.sh (.bool !b)) = _
 unfold inB
 dsimp only
 rw [if_pos ⟨h1, h2⟩]
 cases b <;> rfl
theorem law_holds (ns : List Int) : nv [scr ns] = .ok (.sh (.bool true)) := by
 have a0 := bU ns 0 (m := 5) (by decide)
 have a1 := bV ns 0 (m := 5) (by decide)
 have hm := j8 ns 0 5 (by decide) (by decide)
 obtain ⟨n, hnI⟩ : ∃ n : Nat, 1 + mixZ ns 0 5 = (n : Int) := ⟨(1 + mixZ ns 0 5).toNat, by omega⟩
 have h1 : 1 <= n := by omega
 have h5 : n <= 5 := by omega
 have hsy := vt ns 1 n 9 (by decide) (by omega) (by omega) (by decide) (by decide)
 have hl := o7 (ns := ns) (at_ := 1) (many := n) (most := 9) (by decide)
 have hok := qe (ns := ns) (at_ := 1) (many := n) (most := 9) (by omega)
 generalize AN ns 1 n 9 = ss at hsy hl hok
 have h9 : ss.length <= 9 := by simpa using hl
 have hn : ss.length <= 24 := by omega
 have hkc := mC ns n
 have hkl : (zI ns n).length = n := by unfold zI; simp
 have hp := qX hkl h1 h5 hok hn
 have hw := walked hok hn hkl h5 (zI ns n) 8 1 ss [] rfl (by simpa using hkl) rfl (fun x hx => absurd hx (by simp)) (fun s hs => ⟨hok s hs, fun q hq => ((hok s hs).low q hq).1⟩) (fun c _ _ => rfl) (by omega)
 have hw' : bJ [.list (zv ss), kisD (zI ns n), ynD (zB 1 (zI ns n) ss).1, (zB 1 (zI ns n) ss).2, .list []] = .ok (.sh (.bool true)) := hw
 have pp := aX (zI ns n) 1 ss
 unfold zQ at hp
 unfold kisD at hp hw'
 have gk : ∀ x ∈ (zI ns n).map kiD, zL 1 x := fun x hx => by
  obtain ⟨b, _, rfl⟩ := List.mem_map.mp hx
  cases b
  ·exact (bj 1 _ mB)
  ·exact (bj 1 _ jG)
 have gg : zL 3 (.list [.list (zv ss), .list ((zI ns n).map kiD)]) := aS (n := 2) fun x hx => by
  simp at hx
  rcases hx with rfl | rfl
  ·exact aS (cN ss)
  ·exact aS gk
 have sh2 := gg.shaped (by decide)
 have q2 := ky _ gg.1
 have ps := aL ss
 have pk : zx ((zI ns n).map kiD) = true := by
  generalize zI ns n = l
  induction l with
  | nil => rfl
  | cons b r ih => rw [List.map_cons]; cases b <;> simpa [zx, kiD, zy] using ih
 have ny := qY (zB 1 (zI ns n) ss).1
 have yp := bY (zB 1 (zI ns n) ss).1
 have eR : (rngI 0 n).length <= sizeLine := aK (by rw [cx]; omega)
 have hrb : rngB (n : Int) = true := by unfold rngB; exact decide_eq_true (by omega)
 have z2 : (2 : Nat) <= sizeLine := aK (by omega)
 have elS : (zv ss).length <= sizeLine := aK (by rw [dz]; omega)
 have elK : ((zI ns n).map kiD).length <= sizeLine := aK (by rw [List.length_map]; omega)
 have ht : isiD "tuple" (.tuple [ynD (zB 1 (zI ns n) ss).1, (zB 1 (zI ns n) ss).2]) = true := rfl
 simp only [nv, qO]
 generalize zv ss = S at *
 generalize (zI ns n).map kiD = KL at *
 generalize ynD (zB 1 (zI ns n) ss).1 = yb at *
 generalize (zB 1 (zI ns n) ss).2 = pl at *
 simp -implicitDefEqProofs [hm, hnI, hsy, hkc, hp, hw', sh2, q2, ps, pk, ny, yp, pp, eR, hrb, z2, elS, elK, ht, bT, dj]
theorem bnd1 {p : List Value -> Prop} (h : ∀ a, p [a]) (us : List Value) (e : us.length = 1) : p us := match us, e with | [a], _ => h a
theorem bnd2 {p : List Value -> Prop} (h : ∀ a b, p [a, b]) (us : List Value) (e : us.length = 2) : p us := match us, e with | [a, b], _ => h a b
theorem bnd3 {p : List Value -> Prop} (h : ∀ a b c, p [a, b, c]) (us : List Value) (e : us.length = 3) : p us := match us, e with | [a, b, c], _ => h a b c
theorem bnd4 {p : List Value -> Prop} (h : ∀ a b c d, p [a, b, c, d]) (us : List Value) (e : us.length = 4) : p us := match us, e with | [a, b, c, d], _ => h a b c d
theorem bnd5 {p : List Value -> Prop} (h : ∀ a b c d e, p [a, b, c, d, e]) (us : List Value) (e : us.length = 5) : p us := match us, e with | [a, b, c, d, e], _ => h a b c d e
noncomputable def top (i : Nat) : Stmt := PySem.Challenge.pw_sayhall_k10_whole_played.main.body.getD i (.Pass ⟨0, 0, 0, 0⟩)
abbrev dk : Stmt := top 5
abbrev fW : List Str := ["sayings", "part", "found", "saying"]
theorem cO : zA fW ["sayings", "part"] (zw dk) := ⟨rfl, rfl, rfl, by decide +kernel, rfl, by decide +kernel, by decide +kernel⟩
abbrev eF : Stmt := top 9
abbrev i7 : List Str := ["value"]
theorem lF : zA i7 ["value"] (zw eF) := ⟨rfl, rfl, rfl, by decide +kernel, rfl, by decide +kernel, by decide +kernel⟩
abbrev bx : Stmt := top 10
abbrev cD : List Str := ["value", "most"]
theorem fq : zA cD ["value", "most"] (zw bx) := ⟨rfl, rfl, rfl, by decide +kernel, rfl, by decide +kernel, by decide +kernel⟩
abbrev dm : Stmt := top 11
abbrev fX : List Str := ["thing", "many", "last", "part"]
theorem bK : zA fX ["thing", "many"] (zw dm) := ⟨rfl, rfl, rfl, by decide +kernel, rfl, by decide +kernel, by decide +kernel⟩
abbrev fI : Stmt := top 12
abbrev jb : List Str := ["sayings", "many", "place", "saying"]
theorem i8 : zA jb ["sayings", "many"] (zw fI) := ⟨rfl, rfl, rfl, by decide +kernel, rfl, by decide +kernel, by decide +kernel⟩
abbrev bZ : Stmt := top 17
abbrev dn : List Str := ["thing", "many"]
theorem jH : zA dn ["thing", "many"] (zw bZ) := ⟨rfl, rfl, rfl, by decide +kernel, rfl, by decide +kernel, by decide +kernel⟩
abbrev jI : Stmt := top 20
abbrev nB : List Str := ["sayings", "part"]
theorem qZ : zA nB ["sayings", "part"] (zw jI) := ⟨rfl, rfl, rfl, by decide +kernel, rfl, by decide +kernel, by decide +kernel⟩
abbrev aV : Stmt := top 19
abbrev cc : List Str := ["thing", "sayings", "kinds", "known", "chooser", "plans", "choice", "left", "told"]
theorem aA : zA cc ["thing", "sayings", "kinds", "known"] (zw aV) := ⟨rfl, rfl, rfl, by decide +kernel, rfl, by decide +kernel, by decide +kernel⟩
abbrev bB : Stmt := top 18
abbrev dq : List Str := ["thing", "sayings", "kinds", "known"]
theorem jJ : zA dq ["thing", "sayings", "kinds", "known"] (zw bB) := ⟨rfl, rfl, rfl, by decide +kernel, rfl, by decide +kernel, by decide +kernel⟩
abbrev i9 : Stmt := top 16
abbrev lG : List Str := ["sayings", "many", "kinds", "good"]
theorem jc : zA lG ["sayings", "many", "kinds"] (zw i9) := ⟨rfl, rfl, rfl, by decide +kernel, rfl, by decide +kernel, by decide +kernel⟩
abbrev cn : Stmt := top 22
abbrev dN : List Str := ["_law_script", "_law_k"]
theorem ia : zA dN ["_law_script", "_law_k"] (zw cn) := ⟨rfl, rfl, rfl, by decide +kernel, rfl, by decide +kernel, by decide +kernel⟩
abbrev dt : Stmt := top 23
abbrev fY : List Str := ["_law_script", "_law_k", "_law_many", "_law_drawn"]
theorem ft : zA fY ["_law_script", "_law_k", "_law_many"] (zw dt) := ⟨rfl, rfl, rfl, by decide +kernel, rfl, by decide +kernel, by decide +kernel⟩
abbrev du : Stmt := top 24
abbrev fZ : List Str := ["_law_found"]
theorem jK : zA fZ ["_law_found"] (zw du) := ⟨rfl, rfl, rfl, by decide +kernel, rfl, by decide +kernel, by decide +kernel⟩
abbrev bL : Stmt := top 25
abbrev cP : List Str := ["_law_script", "_law_at", "_law_many", "_law_parts", "_law_k", "_law_thing"]
theorem bz : zA cP ["_law_script", "_law_at", "_law_many"] (zw bL) := ⟨rfl, rfl, rfl, by decide +kernel, rfl, by decide +kernel, by decide +kernel⟩
abbrev bA : Stmt := top 26
abbrev cq : List Str := ["_law_script", "_law_at", "_law_many", "_law_most"]
theorem ib : zA cq ["_law_script", "_law_at", "_law_many", "_law_most"] (zw bA) := ⟨rfl, rfl, rfl, by decide +kernel, rfl, by decide +kernel, by decide +kernel⟩
abbrev eG : Stmt := top 27
abbrev ie : List Str := ["_law_saying_here", "_law_case", "_law_part"]
theorem g6 : zA ie ["_law_saying_here", "_law_case"] (zw eG) := ⟨rfl, rfl, rfl, by decide +kernel, rfl, by decide +kernel, by decide +kernel⟩
abbrev cQ : Stmt := top 28
abbrev eI : List Str := ["_law_sayings_here", "_law_case"]
theorem lH : zA eI ["_law_sayings_here", "_law_case"] (zw cQ) := ⟨rfl, rfl, rfl, by decide +kernel, rfl, by decide +kernel, by decide +kernel⟩
abbrev cu : Stmt := top 29
abbrev dO : List Str := ["_law_plan"]
theorem ig : zA dO ["_law_plan"] (zw cu) := ⟨rfl, rfl, rfl, by decide +kernel, rfl, by decide +kernel, by decide +kernel⟩
abbrev bM : Stmt := top 30
abbrev fu : List Str := ["_law_sayings_here", "_law_kinds", "_law_who", "_law_plan", "_law_chosen", "_law_at"]
theorem dP : zA fu ["_law_sayings_here", "_law_kinds", "_law_who", "_law_plan", "_law_chosen"] (zw bM) := ⟨rfl, rfl, rfl, by decide +kernel, rfl, by decide +kernel, by decide +kernel⟩
abbrev dQ : Stmt := top 31
abbrev r6 : List Str := ["_law_script", "_law_many", "_law_sayings_here", "_law_kinds", "_law_handed", "_law_answer"]
theorem fJ : zA r6 ["_law_script"] (zw dQ) := ⟨rfl, rfl, rfl, by decide +kernel, rfl, by decide +kernel, by decide +kernel⟩
structure Txt (K : W.Frag) (mg : zr) : Prop where
 n_abs : mg "abs" = none
 n_all : mg "all" = none
 n_bool : mg "bool" = none
 n_enumerate : mg "enumerate" = none
 n_int : mg "int" = none
 n_isinstance : mg "isinstance" = none
 n_len : mg "len" = none
 n_list : mg "list" = none
 n_range : mg "range" = none
 n_set : mg "set" = none
 n_sorted : mg "sorted" = none
 n_str : mg "str" = none
 n_tuple : mg "tuple" = none
 c_ALL : ∃ t, mg "ALL" = some (.str "all" t)
 c_MOST_SAYINGS : ∃ t, mg "MOST_SAYINGS" = some (.int 24 t)
 c_MOST_THINGS : ∃ t, mg "MOST_THINGS" = some (.int 16 t)
 c_SOME : ∃ t, mg "SOME" = some (.str "some" t)
section
variable {P : Program} {w : World} {K : W.Frag} {mg : zr} {base : Heap}
theorem jL {f : Addr} {fd : FuncData} (F : Fun K "left_over" "left_over" dk f fd) (T : Txt K mg) : FnOk P w K mg base (CXe P w) 1 f fd ["sayings", "part"] (spD K mg bf) := by
 refine aI (N := fW) (fb := de) F cO fun cdv A outer s H E hr => ?_
 have hu := hr.units
 exact ak (bE 2 cO.nd (bD (ag))) (ak (gQ PassesOwn.leaving rfl (jm (nO 0)) (qa 3 cO.nd) (ff 3) (ai (b9 (eZ hu (ab (az hu (ae 3) (ab (af)))) (ab (pU (ae 1)))) (ai (qb 2 (ab (uG (ae 3) (ab (af)))))) (ai (b9 (iP hu (ab (az hu (ae 3) (ab (af)))) (ae 1)) (ai (qb 2 (ae 3))) (aO)))))) (ai (aq (gN T.n_tuple boot_tuple (ab (lh rfl hu T.n_sorted T.n_set (ae 2)))))))
theorem lI {f : Addr} {fd : FuncData} (F : Fun K "is_whole" "is_whole" eF f fd) (T : Txt K mg) : FnOk P w K mg base (CXe P w) 1 f fd ["value"] (spD K mg aY) := by
 refine aI (N := i7) (fb := et) F lF fun cdv A outer s H E hr => ?_
 have hu := hr.units
 exact ai (aq (cV (bP "int" T.n_isinstance T.n_int boot_int rfl boot_isinstance (ae 0)) (fz (q4 (bP "bool" T.n_isinstance T.n_bool boot_bool rfl boot_isinstance (ae 0))))))
theorem fv {f : Addr} {fd : FuncData} (F : Fun K "is_from_one_to" "is_from_one_to" bx f fd) (T : Txt K mg) (D_is_whole : DefD P w K mg base "is_whole" 1 aY) : FnOk P w K mg base (CXe P w) 2 f fd ["value", "most"] (spD K mg aH) := by
 refine aI (N := cD) (fb := bt) F fq fun cdv A outer s H E hr => ?_
 have hu := hr.units
 exact ai (aq (cV (ar D_is_whole hr zM (aa (ae 0) (ag))) (cV (tq (ae 0) (ab (af))) (fz (tm (ae 0) (ae 1))))))
theorem jM {f : Addr} {fd : FuncData} (F : Fun K "is_saying" "is_saying" dm f fd) (T : Txt K mg) (D_is_whole : DefD P w K mg base "is_whole" 1 aY) : FnOk P w K mg base (CXe P w) 2 f fd ["thing", "many"] (spD K mg aZ) := by
 refine aI (N := fX) (fb := df) F bK fun cdv A outer s H E hr => ?_
 have hu := hr.units
 exact ak (b9 (bp (eY (ab (bP "tuple" T.n_isinstance T.n_tuple boot_tuple rfl boot_isinstance (ae 0))))) (ai (aq (cw))) (aO)) (ak (bE 2 bK.nd (af)) (ak (gQ PassesOwn.leaving rfl (jm (nO 0)) (qa 3 bK.nd) (ff 3) (ak (b9 (bp (eY (ab (ar D_is_whole hr zM (aa (ae 3) (ag)))))) (ai (aq (cw))) (aO)) (ak (b9 (pY (iQ (wO (ab (jl T.n_abs boot_abs (ae 3))) (ae 2)) (gO (pZ (ab (jl T.n_abs boot_abs (ae 3))) (ae 1))))) (ai (aq (cw))) (aO)) (ai (bE 2 bK.nd (jl T.n_abs boot_abs (ae 3))))))) (ai (aq (cw)))))
theorem mD {f : Addr} {fd : FuncData} (F : Fun K "checked" "checked" fI f fd) (T : Txt K mg) (D_is_from_one_to : DefD P w K mg base "is_from_one_to" 2 aH) (D_is_saying : DefD P w K mg base "is_saying" 2 aZ) : FnOk P w K mg base (CXe P w) 3 f fd ["sayings", "many"] (spD K mg bu) := by
 refine aI (N := jb) (fb := fH) F i8 fun cdv A outer s H E hr => ?_
 have hu := hr.units
 exact ak (b9 (bp (eY (ab (ar D_is_from_one_to hr zM (aa (ae 1) (aa (ab (mR T.c_MOST_THINGS)) (ag))))))) (ai (hU)) (aO)) (ak (b9 (bp (eY (ab (bP "list" T.n_isinstance T.n_list boot_list rfl boot_isinstance (ae 0))))) (ai (hU)) (aO)) (ak (b9 (pZ (ab (cg T.n_len (ae 0))) (ab (mR T.c_MOST_SAYINGS))) (ai (hU)) (aO)) (ak (gQ PassesOwn.leaving rfl (sk T.n_enumerate (nO 0)) (yW 2 3 rfl i8.nd) (uI [2, 3]) (ai (b9 (bp (eY (ab (ar D_is_saying hr zM (aa (ae 3) (aa (ae 1) (ag))))))) (ai (hU)) (aO)))) (ai (aq (gc rfl T.n_list boot_list (ae 0)))))))
theorem jN {f : Addr} {fd : FuncData} (F : Fun K "are_kinds" "are_kinds" bZ f fd) (T : Txt K mg) : FnOk P w K mg base (CXe P w) 1 f fd ["thing", "many"] (spD K mg b6) := by
 refine aI (N := dn) (fb := dg) F jH fun cdv A outer s H E hr => ?_
 have hu := hr.units
 exact ak (b9 (pY (iQ (bp (eY (ab (bP "list" T.n_isinstance T.n_list boot_list rfl boot_isinstance (ae 0))))) (gO (iP hu (ab (cg T.n_len (ae 0))) (ae 1))))) (ai (aq (cw))) (aO)) (ai (aq (vh T.n_all boot_all (ab (gf (N0 := dn) (sc0 := (zw bZ)) (F := []) (by decide +kernel) (by decide +kernel) (jq (ae 0)) (fun _ _ _ _ _ => gd) (fun _ _ _ _ _ => cV (bP "str" T.n_isinstance T.n_str boot_str rfl boot_isinstance (ae 0)) (fz (vi hu (ae 0) (ab (bC (aa (ab (jv T.c_SOME)) (aa (ab (jv T.c_ALL)) (ag)))))))))))))
theorem r8 {f : Addr} {fd : FuncData} (F : Fun K "after" "after" jI f fd) (T : Txt K mg) (D_left_over : DefD P w K mg base "left_over" 1 bf) : FnOk P w K mg base (CXe P w) 2 f fd ["sayings", "part"] (spD K mg bF) := by
 refine aI (N := nB) (fb := gw) F qZ fun cdv A outer s H E hr => ?_
 have hu := hr.units
 exact ai (aq (kh (vj hu (ab (bC (ag))) (ae 0)) (bC (aa (ab (bC (ag))) (ag))) (ar D_left_over hr zM (aa (ae 0) (aa (ae 1) (ag))))))
theorem mE {f : Addr} {fd : FuncData} {n : Nat} (F : Fun K "told_by_choices" "told_by_choices" aV f fd) (T : Txt K mg) (hT : Tabs.ts = []) (hc : cT n <= 400) (D_after : DefD P w K mg base "after" 2 bF) (D_told_from : DefS P w K mg base "told_from" (2 + 2 * n + 1) (spM P w K mg MPk (cT n) (ax n))) : FnOk P w K mg base (CXe P w) (2 + 2 * n + 1 + 1) f fd ["thing", "sayings", "kinds", "known"] (spM P w K mg MPk (2 * cT n) (bc (ax n))) := by
 refine nq (N := cc) (fb := cA (ax n)) F aA rfl (by decide) fun cdv A outer s H E kd m hm hr => ?_
 have hu := hr.units
 have le : ∀ t, t < 2 -> m + t * cT n + cT n <= 1000 := fun t ht => by
  have h1 : t = 0 \/ t = 1 := by omega
  rcases h1 with h | h <;> subst h <;> omega
 exact bQ (m1 := m) (gq 4 aA.nd (sem (E := E) (kh (eZ hu (ab (az hu (ae 2) (ab (lV (ae 0) (ab (af)))))) (ab (jv T.c_SOME))) (bh) (bh))) (by decide))
  (bQ (m1 := m) (gq 5 aA.nd (sem (E := E) (bD (ag))) (by decide))
  (bQ (m1 := m + 2 * cT n) (sS (E := E) 2 (cT n) 6 PassesOwn.leaving rfl (jm (bC (aa (ab (af)) (aa (ab (af)) (ag))))) (qa 6 aA.nd) (by decide) fun t ht =>
   bQ (m1 := m + t * cT n) (gq 7 aA.nd (sem (E := E) (ar D_after hr zM (aa (ae 1) (aa (ab (kh (eZ hu (ae 6) (ab (af))) (nO 0) (pU (ae 0)))) (ag))) (by omega))) (by decide))
   (bQ (m1 := m + t * cT n + cT n) (gq 8 aA.nd (ly (ops := [.ex (eOp dAdd [.nm 0, .ex (eC (.int 1))]), .nm 7, .nm 2]) hT D_told_from hr zM (le t ht) (aa (ab (aR (ae 0) (ab (af)))) (aa (ae 7) (aa (ae 2) (aa (ae 3) (ag))))) (by omega)) (by decide))
   (bQ (m1 := m + t * cT n + cT n) (qE (E := E) (eZ hu (ab (az hu (ae 8) (ab (af)))) (ae 4)) (gs (jB (sem (E := E) (bC (aa (ae 4) (aa (ab (bC (aa (ae 6) (aa (ab (az hu (ae 8) (ab (af)))) (ag))))) (ag))))))) nk)
   (gs (sR (E := E) 5 (ab (az hu (ae 8) (ab (af)))))) (Nat.le_refl _)) (Nat.le_refl _)) (by omega))
  (gs (jB (sem (E := E) (bC (aa (ab (kh (eZ hu (ae 4) (ab (bh))) (bh) (bh))) (aa (ab (bC (aa (ab (az hu (ae 5) (ab (af)))) (aa (ab (az hu (ae 5) (ab (af)))) (ag))))) (ag))))))) (Nat.le_refl _)) (by omega)) (by omega)
theorem jO {f : Addr} {fd : FuncData} {n : Nat} (F : Fun K "told_from" "told_from" bB f fd) (T : Txt K mg) (hT : Tabs.ts = []) (hc : cT n <= 400) (D_by : DefS P w K mg base "told_by_choices" (2 + 2 * n + 1 + 1) (spM P w K mg MPk (2 * cT n) (bc (ax n)))) : FnOk P w K mg base (CXe P w) (2 + 2 * (n + 1) + 1) f fd ["thing", "sayings", "kinds", "known"] (spM P w K mg MPk (cT (n + 1)) (ax (n + 1))) := by
 refine nq (k := 2 + 2 * n + 2) (N := dq) (fb := aN (bc (ax n))) F jJ rfl (by decide) fun cdv A outer s H E kd m hm hr => ?_
 have hu := hr.units
 have hm2 : m + 2 * cT n <= 1000 := by unfold cT at hm; omega
 have key : ∀ {p q r : Pos} {k : Nat}, SE (cxE P w K mg base dq "told_from" (zw bB) f cdv A outer s H E) E (.Tuple [.Name "thing" p, .Name "sayings" q] k r) (eOp dTup [.nm 0, .nm 1]) := bC (aa (ae 0) (aa (ae 1) (ag)))
 exact bQ (m1 := m) (qE (E := E) (pZ (ae 0) (ab (cg T.n_len (ae 2)))) (gs (jB (sem (E := E) (bC (aa (ab (kh (eY (ae 1)) (bh) (bh))) (aa (ab (pS)) (ag))))))) nk)
  (qF (E := E) (c := 2 * cT n) hT hu (ly (ops := [.nm 0, .nm 1, .nm 2]) hT D_by hr zM hm2 (aa (ae 0) (aa (ae 1) (aa (ae 2) (aa (ae 3) (ag))))) (by omega)) hm2 key key key) (by omega)
theorem u0 : ∀ n, n <= 8 -> cT n <= 400 := by decide
theorem dR {f_told_by_choices : Addr} {fd_told_by_choices : FuncData} {f_told_from : Addr} {fd_told_from : FuncData} (A_told_by_choices : zP K mg "told_by_choices" aV f_told_by_choices fd_told_by_choices) (A_told_from : zP K mg "told_from" bB f_told_from fd_told_from) (T : Txt K mg) (hT : Tabs.ts = []) (D_after : DefD P w K mg base "after" 2 bF) : ∀ n, n <= 8 -> DefS P w K mg base "told_from" (2 + 2 * n + 1) (spM P w K mg MPk (cT n) (ax n))
 | 0, _ => jD A_told_from (qH ["thing", "sayings", "kinds", "known"]) fun _ _ _ _ _ _ => bnd4 fun _ _ _ _ => rfl
 | n + 1, hn => by
  have D_told_from := dR A_told_by_choices A_told_from T hT D_after n (by omega)
  have D_by : DefS P w K mg base "told_by_choices" (2 + 2 * n + 1 + 1) (spM P w K mg MPk (2 * cT n) (bc (ax n))) := jD A_told_by_choices (mE A_told_by_choices.fn T hT (u0 n (by omega)) D_after D_told_from) fun _ _ _ _ _ _ => bnd4 fun _ _ _ _ => rfl
  exact jD A_told_from (jO A_told_from.fn T hT (u0 n (by omega)) D_by) fun _ _ _ _ _ _ => bnd4 fun _ _ _ _ => rfl
theorem oY {f : Addr} {fd : FuncData} (F : Fun K "played" "played" i9 f fd) (T : Txt K mg) (D_checked : DefD P w K mg base "checked" 3 bu) (D_are_kinds : DefD P w K mg base "are_kinds" 1 b6) (hT : Tabs.ts = []) (D_told_from : DefS P w K mg base "told_from" 19 (spM P w K mg MPk (cT 8) bX)) : FnOk P w K mg base (CXe P w) 20 f fd ["sayings", "many", "kinds"] (spD K mg cB) := by
 refine aI (N := lG) (fb := i3) F jc fun cdv A outer s H E hr => ?_
 have hu := hr.units
 exact ak (bE 3 jc.nd (ar D_checked hr zM (aa (ae 0) (aa (ae 1) (ag))))) (ak (b9 (bp (eY (ab (ar D_are_kinds hr zM (aa (ae 2) (aa (ae 1) (ag))))))) (ai (hU)) (aO)) (ai (aq (qG hT D_told_from hr zM (by decide) (hZ (ab (af)) (hZ (ab (gN T.n_tuple boot_tuple (ae 3))) (hZ (ae 2) (vm)))) (by decide)))))
theorem ij {f : Addr} {fd : FuncData} (F : Fun K "_law_cell_at" "_law_cell_at" cn f fd) (T : Txt K mg) : FnOk P w K mg base (CXe P w) 1 f fd ["_law_script", "_law_k"] (spD K mg aG) := by
 refine aI (N := dN) (fb := ba) F ia fun cdv A outer s H E hr => ?_
 have hu := hr.units
 exact ak (b9 (wN (ae 1) (ab (cg T.n_len (ae 0)))) (ai (aq (az hu (ae 0) (ae 1)))) (aO)) (ak (b9 (eZ hu (ae 0) (ab (bD (ag)))) (ai (aq (af))) (aO)) (ai (aq (aR (ab (cI (ab (az hu (ae 0) (ab (jk (ae 1) (ab (cg T.n_len (ae 0))))))) (ab (af)))) (ae 1)))))
theorem jP {f : Addr} {fd : FuncData} (F : Fun K "_law_mixed" "_law_mixed" dt f fd) (T : Txt K mg) (D_law_cell_at : DefD P w K mg base "_law_cell_at" 1 aG) : FnOk P w K mg base (CXe P w) 2 f fd ["_law_script", "_law_k", "_law_many"] (spD K mg av) := by
 refine aI (N := fY) (fb := dh) F ft fun cdv A outer s H E hr => ?_
 have hu := hr.units
 exact ak (bE 3 ft.nd (jk (ab (cI (ab (aR (ab (aR (ab (ar D_law_cell_at hr zM (aa (ae 0) (aa (ae 1) (ag))))) (ab (cI (ab (af)) (ae 1))))) (ab (af)))) (ab (af)))) (ab (af)))) (ai (aq (jk (ab (jk (ab (aR (ab (aR (ab (cI (ae 3) (ae 3))) (ab (cI (ab (af)) (ae 3))))) (ae 1))) (ab (af)))) (ae 2))))
theorem jQ {f : Addr} {fd : FuncData} (F : Fun K "_law_whole" "_law_whole" du f fd) (T : Txt K mg) : FnOk P w K mg base (CXe P w) 1 f fd ["_law_found"] (spD K mg bg) := by
 refine aI (N := fZ) (fb := di) F jK fun cdv A outer s H E hr => ?_
 have hu := hr.units
 exact ai (aq (cV (bP "int" T.n_isinstance T.n_int boot_int rfl boot_isinstance (ae 0)) (fz (q4 (bP "bool" T.n_isinstance T.n_bool boot_bool rfl boot_isinstance (ae 0))))))
theorem iw {f : Addr} {fd : FuncData} (F : Fun K "_law_saying" "_law_saying" bL f fd) (T : Txt K mg) (D_law_mixed : DefD P w K mg base "_law_mixed" 2 av) : FnOk P w K mg base (CXe P w) 3 f fd ["_law_script", "_law_at", "_law_many"] (spD K mg b8) := by
 refine aI (N := cP) (fb := cK) F bz fun cdv A outer s H E hr => ?_
 have hu := hr.units
 exact ak (bE 3 bz.nd (pT)) (ak (gQ PassesOwn.leaving rfl (nR T.n_range (ab (az hu (ab (bD (aa (ab (af)) (aa (ab (af)) (aa (ab (af)) (aa (ab (af)) (aa (ab (af)) (aa (ab (af)) (aa (ab (af)) (ag)))))))))) (ab (ar D_law_mixed hr zM (aa (ae 0) (aa (ae 1) (aa (ab (af)) (ag))))))))) (qa 4 bz.nd) (ff 4) (ak (bE 5 bz.nd (aR (ab (af)) (ab (ar D_law_mixed hr zM (aa (ae 0) (aa (ab (aR (ab (aR (ae 1) (ab (af)))) (ae 4))) (aa (ae 2) (ag)))))))) (ai (uJ 3 hu (ab (lV (ab (af)) (ab (cI (ab (af)) (ab (rW (ab (ar D_law_mixed hr zM (aa (ae 0) (aa (ab (aR (ab (aR (ae 1) (ab (af)))) (ae 4))) (aa (ab (cI (ab (af)) (ae 2))) (ag)))))) (ae 2))))))) (ae 5))))) (ai (aq (gN T.n_tuple boot_tuple (ab (gf (N0 := cP) (sc0 := (zw bL)) (F := [3]) (by decide +kernel) (by decide +kernel) (jq (ab (pX T.n_sorted boot_sorted (ab (gc rfl T.n_list boot_list (ae 3)))))) (fun _ _ _ _ _ => gd) (fun _ _ _ _ _ => cI (ae 0) (ab (az hu (ae 1) (ae 0))))))))))
theorem ik {f : Addr} {fd : FuncData} (F : Fun K "_law_sayings" "_law_sayings" bA f fd) (T : Txt K mg) (D_law_saying : DefD P w K mg base "_law_saying" 3 b8) (D_law_mixed : DefD P w K mg base "_law_mixed" 2 av) : FnOk P w K mg base (CXe P w) 4 f fd ["_law_script", "_law_at", "_law_many", "_law_most"] (spD K mg aU) := by
 refine aI (N := cq) (fb := cj) F ib fun cdv A outer s H E hr => ?_
 have hu := hr.units
 exact ai (aq (gf (N0 := cq) (sc0 := (zw bA)) (F := [1, 2, 0]) (by decide +kernel) (by decide +kernel) (gS T.n_range (ab (ar D_law_mixed hr zM (aa (ae 0) (aa (ae 1) (aa (ab (aR (ae 3) (ab (af)))) (ag))))))) (fun _ _ _ _ _ => gd) (fun _ _ _ _ _ => ar D_law_saying hr e8 (aa (ae 3) (aa (ab (aR (ab (aR (ae 1) (ab (af)))) (ab (cI (ab (af)) (ae 0))))) (aa (ae 2) (ag)))))))
theorem lJ {f : Addr} {fd : FuncData} (F : Fun K "_law_true" "_law_true" eG f fd) (T : Txt K mg) : FnOk P w K mg base (CXe P w) 1 f fd ["_law_saying_here", "_law_case"] (spD K mg bw) := by
 refine aI (N := ie) (fb := eB) F g6 fun cdv A outer s H E hr => ?_
 have hu := hr.units
 exact ak (gQ PassesOwn.leaving rfl (jm (nO 0)) (qa 2 g6.nd) (ff 2) (ai (b9 (eZ hu (ab (wH (ae 2) (ab (af)))) (ab (iN hu (ab (az hu (ae 1) (ab (lV (ab (jl T.n_abs boot_abs (ae 2))) (ab (af)))))) (ab (af))))) (ai (aq (cw))) (aO)))) (ai (aq (cw)))
theorem lK {f : Addr} {fd : FuncData} (F : Fun K "_law_fits" "_law_fits" cQ f fd) (T : Txt K mg) (D_law_true : DefD P w K mg base "_law_true" 1 bw) : FnOk P w K mg base (CXe P w) 2 f fd ["_law_sayings_here", "_law_case"] (spD K mg b7) := by
 refine aI (N := eI) (fb := eE) F lH fun cdv A outer s H E hr => ?_
 have hu := hr.units
 exact ai (aq (iN hu (ab (gf (N0 := eI) (sc0 := (zw cQ)) (F := [1]) (by decide +kernel) (by decide +kernel) (jq (ae 0)) (fun _ _ _ _ _ => rK (bp (eY (ab (ar D_law_true hr e8 (aa (ae 0) (aa (ae 1) (ag)))))))) (fun _ _ _ _ _ => nO 0))) (ab (bD (ag)))))
theorem il {f : Addr} {fd : FuncData} (F : Fun K "_law_choices" "_law_choices" cu f fd) (T : Txt K mg) (D_law_whole : DefD P w K mg base "_law_whole" 1 bg) : FnOk P w K mg base (CXe P w) 2 f fd ["_law_plan"] (spD K mg aQ) := by
 refine aI (N := dO) (fb := cm) F ig fun cdv A outer s H E hr => ?_
 have hu := hr.units
 exact ak (b9 (pY (iQ (bp (eY (ab (bP "tuple" T.n_isinstance T.n_tuple boot_tuple rfl boot_isinstance (ae 0))))) (gO (iP hu (ab (cg T.n_len (ae 0))) (ab (af)))))) (ai (aq (cw))) (aO)) (ai (aq (cV (ar D_law_whole hr zM (aa (ab (az hu (ae 0) (ab (af)))) (ag))) (cV (tq (ab (az hu (ae 0) (ab (af)))) (ab (af))) (fz (tm (ab (az hu (ae 0) (ab (af)))) (ab (af))))))))
theorem iy {f : Addr} {fd : FuncData} {n : Nat} (F : Fun K "_law_walked" "_law_walked" bM f fd) (T : Txt K mg) (D_law_fits : DefD P w K mg base "_law_fits" 2 b7) (D_law_walked : DefD P w K mg base "_law_walked" (2 + 1 * n + 1) (aD n)) (D_law_choices : DefD P w K mg base "_law_choices" 2 aQ) : FnOk P w K mg base (CXe P w) (2 + 1 * (n + 1) + 1) f fd ["_law_sayings_here", "_law_kinds", "_law_who", "_law_plan", "_law_chosen"] (spD K mg (aD (n + 1))) := by
 refine aI (N := fu) (fb := (aC (aD n))) F dP fun cdv A outer s H E hr => ?_
 have hu := hr.units
 exact ak (bE 5 dP.nd (cg T.n_len (ae 4))) (ak (b9 (eZ hu (ae 5) (ab (cg T.n_len (ae 1)))) (ai (aq (cV (xH (ae 3) (ab (pS))) (fz (iN hu (ab (ar D_law_fits hr zM (aa (ae 0) (aa (ae 4) (ag))) (by omega))) (ab (iN hu (ae 2) (ab (bh))))))))) (aO)) (ak (b9 (eZ hu (ab (iN hu (ab (az hu (ae 1) (ae 5))) (ab (bh)))) (ab (iN hu (ae 2) (ab (bh))))) (ak (b9 (bp (eY (ab (ar D_law_choices hr zM (aa (ae 3) (ag)) (by omega))))) (ai (aq (cw))) (aO)) (ai (aq (ar D_law_walked hr zM (aa (ae 0) (aa (ae 1) (aa (ae 2) (aa (ab (az hu (ae 3) (ab (af)))) (aa (ab (aR (ae 4) (ab (bD (aa (ab (az hu (ae 3) (ab (af)))) (ag)))))) (ag)))))) (by omega))))) (aO)) (ak (b9 (pY (iQ (bp (eY (ab (bP "tuple" T.n_isinstance T.n_tuple boot_tuple rfl boot_isinstance (ae 3))))) (gO (iP hu (ab (cg T.n_len (ae 3))) (ab (af)))))) (ai (aq (cw))) (aO)) (ak (b9 (bp (eY (ab (ar D_law_walked hr zM (aa (ae 0) (aa (ae 1) (aa (ae 2) (aa (ab (az hu (ae 3) (ab (af)))) (aa (ab (aR (ae 4) (ab (bD (aa (ab (af)) (ag)))))) (ag)))))) (by omega))))) (ai (aq (cw))) (aO)) (ai (aq (ar D_law_walked hr zM (aa (ae 0) (aa (ae 1) (aa (ae 2) (aa (ab (az hu (ae 3) (ab (af)))) (aa (ab (aR (ae 4) (ab (bD (aa (ab (af)) (ag)))))) (ag)))))) (by omega))))))))
theorem dv {f_law_walked : Addr} {fd_law_walked : FuncData} (A_law_walked : zP K mg "_law_walked" bM f_law_walked fd_law_walked) (T : Txt K mg) (D_law_fits : DefD P w K mg base "_law_fits" 2 b7) (D_law_choices : DefD P w K mg base "_law_choices" 2 aQ) : ∀ n, DefD P w K mg base "_law_walked" (2 + 1 * n + 1) (aD n)
 | 0 => aJ A_law_walked (sF ["_law_sayings_here", "_law_kinds", "_law_who", "_law_plan", "_law_chosen"]) fun _ _ _ _ _ _ => bnd5 fun _ _ _ _ _ => rfl
 | n + 1 => by
  have D_law_walked := dv A_law_walked T D_law_fits D_law_choices n
  exact aJ A_law_walked (iy A_law_walked.fn T D_law_fits D_law_walked D_law_choices) fun _ _ _ _ _ _ => bnd5 fun _ _ _ _ _ => rfl
theorem vA {f : Addr} {fd : FuncData} (F : Fun K "law" "law" dQ f fd) (T : Txt K mg) (D_law_mixed : DefD P w K mg base "_law_mixed" 2 av) (D_law_sayings : DefD P w K mg base "_law_sayings" 4 aU) (D_played : DefD P w K mg base "played" 20 cB) (D_law_walked : DefD P w K mg base "_law_walked" 11 bJ) : FnOk P w K mg base (CXe P w) 21 f fd ["_law_script"] (spD K mg nv) := by
 refine aI (N := r6) (fb := qO) F fJ fun cdv A outer s H E hr => ?_
 have hu := hr.units
 exact ak (bE 1 fJ.nd (aR (ab (af)) (ab (ar D_law_mixed hr zM (aa (ae 0) (aa (ab (af)) (aa (ab (af)) (ag)))))))) (ak (bE 2 fJ.nd (ar D_law_sayings hr zM (aa (ae 0) (aa (ab (af)) (aa (ae 1) (aa (ab (af)) (ag))))))) (ak (sr 3 fJ.nd (N0 := r6) (sc0 := (zw dQ)) (F := [0]) (by decide +kernel) (by decide +kernel) (gS T.n_range (ae 1)) (fun _ _ _ _ _ => gd) (fun _ _ _ _ _ => az hu (ab (bD (aa (ab (bh)) (aa (ab (bh)) (ag))))) (ab (ar D_law_mixed hr e8 (aa (ae 1) (aa (ab (aR (ab (af)) (ae 0))) (aa (ab (af)) (ag)))))))) (ak (bE 4 fJ.nd (bD (aa (ab (gc rfl T.n_list boot_list (ae 2))) (aa (ab (gc rfl T.n_list boot_list (ae 3))) (ag))))) (ak (bE 5 fJ.nd (ar D_played hr zM (aa (ab (az hu (ae 4) (ab (af)))) (aa (ae 1) (aa (ab (az hu (ae 4) (ab (af)))) (ag)))))) (ak (b9 (iP hu (ae 4) (ab (bD (aa (ae 2) (aa (ae 3) (ag)))))) (ai (aq (cw))) (aO)) (ak (b9 (pY (iQ (bp (eY (ab (bP "tuple" T.n_isinstance T.n_tuple boot_tuple rfl boot_isinstance (ae 5))))) (iQ (iP hu (ab (cg T.n_len (ae 5))) (ab (af))) (gO (om hu (ab (az hu (ae 5) (ab (af)))) (ab (bC (aa (ab (bh)) (aa (ab (bh)) (ag)))))))))) (ai (aq (cw))) (aO)) (ai (aq (ar D_law_walked hr zM (aa (ae 2) (aa (ae 3) (aa (ab (az hu (ae 5) (ab (af)))) (aa (ab (az hu (ae 5) (ab (af)))) (aa (ab (bD (ag))) (ag)))))))))))))))
end
end L2
namespace L2
open PySem PySem.Spec PyProof.Rows
instance : Tabs := ⟨[], ""⟩
theorem gval {K : W.Frag} {h : Heap} {mg : zr} {x : Str} {p : Tok -> Value} {t : Tok} (X : K.In h) (G : h.Ns mainGlobals mg) (a : W.nsIn K mainGlobals x = some (some (p t))) : ∃ t, mg x = some (p t) := ⟨t, W.mg_of X G a⟩
theorem vB {l : W.OpenLaw} {w : World} {K : W.Frag} {h : Heap} {mg : zr} {fa : Addr} {f0 f1 f2 f3 f4 f5 f6 f7 f8 f9 f10 f11 f12 f13 f14 f15 f16 f17 f18 f19 : Addr} {d0 d1 d2 d3 d4 d5 d6 d7 d8 d9 d10 d11 d12 d13 d14 d15 d16 d17 d18 : FuncData} {od19 an19 : Option Addr} {sl19 : Array (Option Value)} {oc19 kV19 dc19 pm19 cd19 ct19 : Value} (X : K.In h) (G : h.Ns mainGlobals mg) (hfa : mg "law" = some (.ref fa))
  (A_left_over : zP K mg "left_over" dk f0 d0)
  (A_is_whole : zP K mg "is_whole" eF f1 d1)
  (A_is_from_one_to : zP K mg "is_from_one_to" bx f2 d2)
  (A_is_saying : zP K mg "is_saying" dm f3 d3)
  (A_checked : zP K mg "checked" fI f4 d4)
  (A_are_kinds : zP K mg "are_kinds" bZ f5 d5)
  (A_after : zP K mg "after" jI f6 d6)
  (A_told_by_choices : zP K mg "told_by_choices" aV f7 d7)
  (A_told_from : zP K mg "told_from" bB f8 d8)
  (A_played : zP K mg "played" i9 f9 d9)
  (A_law_cell_at : zP K mg "_law_cell_at" cn f10 d10)
  (A_law_mixed : zP K mg "_law_mixed" dt f11 d11)
  (A_law_whole : zP K mg "_law_whole" du f12 d12)
  (A_law_saying : zP K mg "_law_saying" bL f13 d13)
  (A_law_sayings : zP K mg "_law_sayings" bA f14 d14)
  (A_law_true : zP K mg "_law_true" eG f15 d15)
  (A_law_fits : zP K mg "_law_fits" cQ f16 d16)
  (A_law_choices : zP K mg "_law_choices" cu f17 d17)
  (A_law_walked : zP K mg "_law_walked" bM f18 d18)
  (a19 : W.nsIn K mainGlobals "law" = some (some (.ref f19)))
  (l19 : K.lookup f19 = some ⟨oc19, od19, .func (W.fnOf "law" "law" (A4 dQ) (zT dQ) (zw dQ) .none kV19 dc19 pm19 an19 cd19 ct19), sl19⟩)
  (c19 : W.codeIn K cd19 "law" = true)
  (k19 : W.keepIn K (.ref f19) = true)
  (T : Txt K mg)
  (hlaw : ∀ ns : List Int, ns.length <= 63 -> nv [.list (ns.map PyData.int)] = .ok (.sh (.bool true))) :
  ∃ fd : FuncData, (∀ (s : Shared) (v : Value), BindsTo s fd ⟨[v], []⟩ [("_law_script", v)]) /\ ∀ base : Heap, K.In base -> base.Ns mainGlobals mg -> FnOk l.prog w K mg base (CXe l.prog w) 21 fa fd ["_law_script"] (B9 K) := by
 have e := hfa.symm.trans (W.mg_of X G a19)
 cases e
 have A_law := au (st := dQ) X G a19 l19 c19 k19
 refine ⟨W.fnOf "law" "law" (A4 dQ) (zT dQ) (zw dQ) .none kV19 dc19 pm19 an19 cd19 ct19, fun s v => .of_eq rfl, fun base _ _ => ?_⟩
 have D_left_over : DefD l.prog w K mg base "left_over" 1 bf := aJ A_left_over (jL A_left_over.fn T) fun _ _ _ _ _ _ => bnd2 fun _ _ => rfl
 have D_is_whole : DefD l.prog w K mg base "is_whole" 1 aY := aJ A_is_whole (lI A_is_whole.fn T) fun _ _ _ _ _ _ => bnd1 fun _ => rfl
 have D_is_from_one_to : DefD l.prog w K mg base "is_from_one_to" 2 aH := aJ A_is_from_one_to (fv A_is_from_one_to.fn T D_is_whole) fun _ _ _ _ _ _ => bnd2 fun _ _ => rfl
 have D_is_saying : DefD l.prog w K mg base "is_saying" 2 aZ := aJ A_is_saying (jM A_is_saying.fn T D_is_whole) fun _ _ _ _ _ _ => bnd2 fun _ _ => rfl
 have D_checked : DefD l.prog w K mg base "checked" 3 bu := aJ A_checked (mD A_checked.fn T D_is_from_one_to D_is_saying) fun _ _ _ _ _ _ => bnd2 fun _ _ => rfl
 have D_are_kinds : DefD l.prog w K mg base "are_kinds" 1 b6 := aJ A_are_kinds (jN A_are_kinds.fn T) fun _ _ _ _ _ _ => bnd2 fun _ _ => rfl
 have D_after : DefD l.prog w K mg base "after" 2 bF := aJ A_after (r8 A_after.fn T D_left_over) fun _ _ _ _ _ _ => bnd2 fun _ _ => rfl
 have DR_told_from := dR (P := l.prog) (w := w) (base := base) A_told_by_choices A_told_from T rfl D_after 8 (Nat.le_refl _)
 have D_told_from : DefS l.prog w K mg base "told_from" 19 (spM l.prog w K mg MPk (cT 8) bX) := DR_told_from
 have D_played : DefD l.prog w K mg base "played" 20 cB := aJ A_played (oY A_played.fn T D_checked D_are_kinds rfl D_told_from) fun _ _ _ _ _ _ => bnd3 fun _ _ _ => rfl
 have D_law_cell_at : DefD l.prog w K mg base "_law_cell_at" 1 aG := aJ A_law_cell_at (ij A_law_cell_at.fn T) fun _ _ _ _ _ _ => bnd2 fun _ _ => rfl
 have D_law_mixed : DefD l.prog w K mg base "_law_mixed" 2 av := aJ A_law_mixed (jP A_law_mixed.fn T D_law_cell_at) fun _ _ _ _ _ _ => bnd3 fun _ _ _ => rfl
 have D_law_whole : DefD l.prog w K mg base "_law_whole" 1 bg := aJ A_law_whole (jQ A_law_whole.fn T) fun _ _ _ _ _ _ => bnd1 fun _ => rfl
 have D_law_saying : DefD l.prog w K mg base "_law_saying" 3 b8 := aJ A_law_saying (iw A_law_saying.fn T D_law_mixed) fun _ _ _ _ _ _ => bnd3 fun _ _ _ => rfl
 have D_law_sayings : DefD l.prog w K mg base "_law_sayings" 4 aU := aJ A_law_sayings (ik A_law_sayings.fn T D_law_saying D_law_mixed) fun _ _ _ _ _ _ => bnd4 fun _ _ _ _ => rfl
 have D_law_true : DefD l.prog w K mg base "_law_true" 1 bw := aJ A_law_true (lJ A_law_true.fn T) fun _ _ _ _ _ _ => bnd2 fun _ _ => rfl
 have D_law_fits : DefD l.prog w K mg base "_law_fits" 2 b7 := aJ A_law_fits (lK A_law_fits.fn T D_law_true) fun _ _ _ _ _ _ => bnd2 fun _ _ => rfl
 have D_law_choices : DefD l.prog w K mg base "_law_choices" 2 aQ := aJ A_law_choices (il A_law_choices.fn T D_law_whole) fun _ _ _ _ _ _ => bnd1 fun _ => rfl
 have DR_law_walked := dv (P := l.prog) (w := w) (base := base) A_law_walked T D_law_fits D_law_choices 8
 have D_law_walked : DefD l.prog w K mg base "_law_walked" 11 bJ := DR_law_walked
 exact (vA A_law.fn T D_law_mixed D_law_sayings D_played D_law_walked).imp fun vs H Q E h => nW hlaw vs H Q E h
theorem walk {l : W.OpenLaw} {q : Program} {loose : List Str} {XP : (Str -> Option Value) -> Heap -> Prop} {YP : World -> Heap -> Prop} {d : DefRec} {K : Params -> W.Frag} (hn : l.most = some 63) (hdf : d.params.defaults = [])
  (hY : ∀ (w : World) (h : Heap), YP w h -> (K w.params).In h)
  (F : ∀ (w : World) (mg : zr) (fa : Addr) (h : Heap), (K w.params).In h -> h.Ns mainGlobals mg -> mg d.name = some (.ref fa) ->
   ∃ fd : FuncData, (∀ (s : Shared) (u : Value), BindsTo s fd ⟨[u], []⟩ [("_law_script", u)]) /\ ∀ base : Heap, (K w.params).In base -> base.Ns mainGlobals mg -> FnOk l.prog w (K w.params) mg base (CXe l.prog w) 21 fa fd ["_law_script"] (B9 (K w.params))) :
  W.WalkO q loose XP YP l.row.toRowW d [] (fun f vs => PySem.call f vs) :=
 L2.rG (n := 63) (k := 21) (x := "_law_script") (CX := fun w => CXe l.prog w) (sp := fun w => B9 (K w.params)) hn (by decide) hdf ⟨rfl, by decide, by decide⟩ hY F (fun _ _ a ns hl _ hS => ⟨a, ns, rfl, hS, hl, fun _ h => absurd (show _ ∈ ([] : List Addr) from h) (by simp), fun _ => rfl⟩) fun _ _ _ _ _ z => nX _ _ _ _ _ z
end L2
open PySem PySem.W PyProof.Rows
set_option maxRecDepth 100000 in
set_option maxHeartbeats 0 in
theorem PySem.Challenge.cw_sayhall_k10_whole_played_holds : PySem.Challenge.rw_sayhall_k10_whole_played.Holds := by
 w_on; o_law; k_head; (case hw => w_witness2)
 k_fill
 refine L2.walk (l := PySem.Challenge.rw_sayhall_k10_whole_played) rfl rfl (fun w h Y => W.kIn_of Y) ?F
 case F =>
  intro w mg fa h KX G hmg
  refine' L2.vB KX G hmg (L2.au KX G ?a0 ?l0 ?c0 ?k0) (L2.au KX G ?a1 ?l1 ?c1 ?k1) (L2.au KX G ?a2 ?l2 ?c2 ?k2) (L2.au KX G ?a3 ?l3 ?c3 ?k3) (L2.au KX G ?a4 ?l4 ?c4 ?k4) (L2.au KX G ?a5 ?l5 ?c5 ?k5) (L2.au KX G ?a6 ?l6 ?c6 ?k6) (L2.au KX G ?a7 ?l7 ?c7 ?k7) (L2.au KX G ?a8 ?l8 ?c8 ?k8) (L2.au KX G ?a9 ?l9 ?c9 ?k9) (L2.au KX G ?a10 ?l10 ?c10 ?k10) (L2.au KX G ?a11 ?l11 ?c11 ?k11) (L2.au KX G ?a12 ?l12 ?c12 ?k12) (L2.au KX G ?a13 ?l13 ?c13 ?k13) (L2.au KX G ?a14 ?l14 ?c14 ?k14) (L2.au KX G ?a15 ?l15 ?c15 ?k15) (L2.au KX G ?a16 ?l16 ?c16 ?k16) (L2.au KX G ?a17 ?l17 ?c17 ?k17) (L2.au KX G ?a18 ?l18 ?c18 ?k18) ?a19 ?l19 ?c19 ?k19 ⟨W.mg_none_of KX G ?z_abs, W.mg_none_of KX G ?z_all, W.mg_none_of KX G ?z_bool, W.mg_none_of KX G ?z_enumerate, W.mg_none_of KX G ?z_int, W.mg_none_of KX G ?z_isinstance, W.mg_none_of KX G ?z_len, W.mg_none_of KX G ?z_list, W.mg_none_of KX G ?z_range, W.mg_none_of KX G ?z_set, W.mg_none_of KX G ?z_sorted, W.mg_none_of KX G ?z_str, W.mg_none_of KX G ?z_tuple, L2.gval KX G ?v_ALL, L2.gval KX G ?v_MOST_SAYINGS, L2.gval KX G ?v_MOST_THINGS, L2.gval KX G ?v_SOME⟩ (fun ns _ => L2.law_holds ns)
  (case a0 => k_is)
  (case l0 => k_is)
  (case c0 => k_is)
  (case k0 => k_is)
  (case a1 => k_is)
  (case l1 => k_is)
  (case c1 => k_is)
  (case k1 => k_is)
  (case a2 => k_is)
  (case l2 => k_is)
  (case c2 => k_is)
  (case k2 => k_is)
  (case a3 => k_is)
  (case l3 => k_is)
  (case c3 => k_is)
  (case k3 => k_is)
  (case a4 => k_is)
  (case l4 => k_is)
  (case c4 => k_is)
  (case k4 => k_is)
  (case a5 => k_is)
  (case l5 => k_is)
  (case c5 => k_is)
  (case k5 => k_is)
  (case a6 => k_is)
  (case l6 => k_is)
  (case c6 => k_is)
  (case k6 => k_is)
  (case a7 => k_is)
  (case l7 => k_is)
  (case c7 => k_is)
  (case k7 => k_is)
  (case a8 => k_is)
  (case l8 => k_is)
  (case c8 => k_is)
  (case k8 => k_is)
  (case a9 => k_is)
  (case l9 => k_is)
  (case c9 => k_is)
  (case k9 => k_is)
  (case a10 => k_is)
  (case l10 => k_is)
  (case c10 => k_is)
  (case k10 => k_is)
  (case a11 => k_is)
  (case l11 => k_is)
  (case c11 => k_is)
  (case k11 => k_is)
  (case a12 => k_is)
  (case l12 => k_is)
  (case c12 => k_is)
  (case k12 => k_is)
  (case a13 => k_is)
  (case l13 => k_is)
  (case c13 => k_is)
  (case k13 => k_is)
  (case a14 => k_is)
  (case l14 => k_is)
  (case c14 => k_is)
  (case k14 => k_is)
  (case a15 => k_is)
  (case l15 => k_is)
  (case c15 => k_is)
  (case k15 => k_is)
  (case a16 => k_is)
  (case l16 => k_is)
  (case c16 => k_is)
  (case k16 => k_is)
  (case a17 => k_is)
  (case l17 => k_is)
  (case c17 => k_is)
  (case k17 => k_is)
  (case a18 => k_is)
  (case l18 => k_is)
  (case c18 => k_is)
  (case k18 => k_is)
  (case a19 => k_is)
  (case l19 => k_is)
  (case c19 => k_is)
  (case k19 => k_is)
  (case z_abs => k_is)
  (case z_all => k_is)
  (case z_bool => k_is)
  (case z_enumerate => k_is)
  (case z_int => k_is)
  (case z_isinstance => k_is)
  (case z_len => k_is)
  (case z_list => k_is)
  (case z_range => k_is)
  (case z_set => k_is)
  (case z_sorted => k_is)
  (case z_str => k_is)
  (case z_tuple => k_is)
  (case v_ALL => k_is)
  (case v_MOST_SAYINGS => k_is)
  (case v_MOST_THINGS => k_is)
  (case v_SOME => k_is)
