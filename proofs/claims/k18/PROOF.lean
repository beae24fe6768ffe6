import PyProof.Rows.All
import Wide.All
import OpenK.AllK
import Wide.FinOn
import HandS.ForMost
import HandS.Exc
import HandS.TryMany
import HandS.WordsExc
import HandS.IsInst
import HandS.Wide
import HandS.TupAny
import HandS.TupMul
import HandS.Zip
import HandS.Style
import HandS.CallSlots
import HandS.TupLe
import HandS.Dict
import HandS.DictComp
import HandS.ExcInit
import HandS.ExcField
import HandS.TryOnly
import KE.DataEq
import HandS.Text
import HandS.StrMore
import HandS.StrSplit
import KE.DataMinMax
import KE.GoesEnum
import KE.GoesEnumKw
import KE.SortData
import PyProof.Claim2Refuses
import HandS.Flow
import PyProof.TypeEq
import HandS.RaiseMore
import HandS.NoneIn
import HandS.BoundDict
import HandS.ExcIs
import HandS.ExcOwn
import PySem.Challenge.RW_firmground_k18_clocks_and_ends
set_option Elab.async false
set_option linter.all false
set_option maxRecDepth 100000
/-! PM: a small language over the hand layer: values as trees, a store of numbered objects, what a body asks as a function of its tree. -/
namespace PM
open PySem PySem.Spec PyProof.Rows L2

/-! ### values, the store -/
inductive Val where
  | non | bl (b : Bool) | int (i : Int) | str (x : Str) | tup (xs : List Val) | loc (n : Nat) | cst (n : Nat) (x : Str)
/-- where a constant of the program's top stands -/
def coOf (K : PySem.W.Frag) (x : Str) : Addr := match PySem.W.nsIn K mainGlobals x with
  | some (some (.ref a)) => a
  | _ => 0
inductive SObj where
  | lst (xs : List Val) | rol (xs : List Val) | dK (kvs : List (Key × Val)) | ins (c : Nat) (fs : List (Nat × Val)) | xob
abbrev Sto := List SObj
abbrev LE := List (Option Val)
def SObj.mut : SObj → Bool
  | .rol _ => false
  | .xob => false
  | _ => true

/-! ### the relation -/
mutual
def Rv (K : PySem.W.Frag) (ι : List Addr) (H : Hp) : Val → V → Prop
  | .non, v => v = .non
  | .bl b, v => v = .bl b
  | .int i, v => v = .int i
  | .str x, v => v = .str x
  | .tup xs, v => ∃ a vs, v = .ref a ∧ SqT K H a vs ∧ Rvs K ι H xs vs
  | .loc n, v => ∃ a, v = .ref a ∧ ι[n]? = some a
  | .cst _ x, v => v = .ref (coOf K x)
def Rvs (K : PySem.W.Frag) (ι : List Addr) (H : Hp) : List Val → List V → Prop
  | [], vs => vs = []
  | x :: xs, vs => ∃ v ws, vs = v :: ws ∧ Rv K ι H x v ∧ Rvs K ι H xs ws
end
def Grow (K : PySem.W.Frag) (ι : List Addr) (H : Hp) (ι' : List Addr) (H' : Hp) : Prop :=
  (∃ t, ι' = ι ++ t) ∧ (∀ a vs, SqT K H a vs → SqT K H' a vs) ∧ ∀ a fs, H a = some (.xd fs) → H' a = some (.xd fs)
section
variable {K : PySem.W.Frag} {ι ι' ι'' : List Addr} {H H' H'' : Hp}
theorem Grow.refl : Grow K ι H ι H := ⟨⟨[], by simp⟩, fun _ _ h => h, fun _ _ h => h⟩
theorem Grow.trans (a : Grow K ι H ι' H') (b : Grow K ι' H' ι'' H'') : Grow K ι H ι'' H'' := by
  obtain ⟨⟨t, rfl⟩, a2, a3⟩ := a
  obtain ⟨⟨u, rfl⟩, b2, b3⟩ := b
  exact ⟨⟨t ++ u, by simp⟩, fun x y h => b2 x y (a2 x y h), fun x y h => b3 x y (a3 x y h)⟩
theorem Grow.get (g : Grow K ι H ι' H') {n : Nat} {a : Addr} (h : ι[n]? = some a) : ι'[n]? = some a := by
  obtain ⟨⟨t, rfl⟩, _⟩ := g
  obtain ⟨h1, h2⟩ := List.getElem?_eq_some_iff.mp h
  rw [List.getElem?_append_left h1]
  exact h
mutual
theorem Rv.mono (g : Grow K ι H ι' H') : ∀ (x : Val) {v : V}, Rv K ι H x v → Rv K ι' H' x v
  | .non, v, h => by simpa [Rv] using h
  | .bl b, v, h => by simpa [Rv] using h
  | .int i, v, h => by simpa [Rv] using h
  | .str x, v, h => by simpa [Rv] using h
  | .tup xs, v, h => by
    simp only [Rv] at h ⊢
    obtain ⟨a, vs, e, hs, hr⟩ := h
    exact ⟨a, vs, e, g.2.1 _ _ hs, Rvs.mono g xs hr⟩
  | .loc n, v, h => by
    simp only [Rv] at h ⊢
    obtain ⟨a, e, hn⟩ := h
    exact ⟨a, e, g.get hn⟩
  | .cst n x, v, h => by simpa [Rv] using h
theorem Rvs.mono (g : Grow K ι H ι' H') : ∀ (xs : List Val) {vs : List V}, Rvs K ι H xs vs → Rvs K ι' H' xs vs
  | [], vs, h => by simpa [Rvs] using h
  | x :: xs, vs, h => by
    simp only [Rvs] at h ⊢
    obtain ⟨v, ws, e, h1, h2⟩ := h
    exact ⟨v, ws, e, Rv.mono g x h1, Rvs.mono g xs h2⟩
end
theorem Rvs.len : ∀ {xs : List Val} {vs : List V}, Rvs K ι H xs vs → xs.length = vs.length
  | [], vs, h => by simp only [Rvs] at h; subst h; rfl
  | x :: xs, vs, h => by
    simp only [Rvs] at h
    obtain ⟨v, ws, rfl, _, h2⟩ := h
    simp [Rvs.len h2]
theorem Rvs.get : ∀ {xs : List Val} {vs : List V} {i : Nat} {x : Val}, Rvs K ι H xs vs → xs[i]? = some x → ∃ v, vs[i]? = some v ∧ Rv K ι H x v
  | [], _, _, _, _, e => by simp at e
  | y :: xs, vs, 0, x, h, e => by
    simp only [Rvs] at h
    obtain ⟨v, ws, rfl, h1, _⟩ := h
    simp at e
    subst e
    exact ⟨v, rfl, h1⟩
  | y :: xs, vs, i + 1, x, h, e => by
    simp only [Rvs] at h
    obtain ⟨v, ws, rfl, _, h2⟩ := h
    obtain ⟨w, e1, r⟩ := Rvs.get (i := i) h2 (by simpa using e)
    exact ⟨w, by simpa using e1, r⟩
theorem Rvs.append : ∀ {xs ys : List Val} {vs ws : List V}, Rvs K ι H xs vs → Rvs K ι H ys ws → Rvs K ι H (xs ++ ys) (vs ++ ws)
  | [], ys, vs, ws, h, k => by simp only [Rvs] at h; subst h; exact k
  | x :: xs, ys, vs, ws, h, k => by
    simp only [Rvs] at h
    obtain ⟨v, us, rfl, h1, h2⟩ := h
    simp only [List.cons_append, Rvs]
    exact ⟨v, us ++ ws, rfl, h1, Rvs.append h2 k⟩
theorem Rvs.one {x : Val} {v : V} (h : Rv K ι H x v) : Rvs K ι H [x] [v] := by
  simp only [Rvs]
  exact ⟨v, [], rfl, h, rfl⟩
theorem Rvs.nil : Rvs K ι H [] [] := by simp only [Rvs]
theorem Rvs.cons {x : Val} {v : V} {xs : List Val} {vs : List V} (h : Rv K ι H x v) (k : Rvs K ι H xs vs) : Rvs K ι H (x :: xs) (v :: vs) := by
  simp only [Rvs]
  exact ⟨v, vs, rfl, h, k⟩
theorem Rvs.drop : ∀ (n : Nat) {xs : List Val} {vs : List V}, Rvs K ι H xs vs → Rvs K ι H (xs.drop n) (vs.drop n)
  | 0, _, _, h => h
  | n + 1, [], vs, h => by simp only [Rvs] at h; subst h; exact Rvs.nil
  | n + 1, x :: xs, vs, h => by
    simp only [Rvs] at h
    obtain ⟨v, us, rfl, h1, h2⟩ := h
    exact Rvs.drop n h2
theorem Rvs.take : ∀ (n : Nat) {xs : List Val} {vs : List V}, Rvs K ι H xs vs → Rvs K ι H (xs.take n) (vs.take n)
  | 0, _, _, h => Rvs.nil
  | n + 1, [], vs, h => by simp only [Rvs] at h; subst h; exact Rvs.nil
  | n + 1, x :: xs, vs, h => by
    simp only [Rvs] at h
    obtain ⟨v, us, rfl, h1, h2⟩ := h
    exact Rvs.cons h1 (Rvs.take n h2)
theorem Rvs.set : ∀ {xs : List Val} {vs : List V} {x : Val} {v : V} (i : Nat), Rvs K ι H xs vs → Rv K ι H x v → Rvs K ι H (xs.set i x) (vs.set i v)
  | [], vs, x, v, i, h, k => by simp only [Rvs] at h; subst h; exact Rvs.nil
  | y :: xs, vs, x, v, 0, h, k => by
    simp only [Rvs] at h
    obtain ⟨w, us, rfl, h1, h2⟩ := h
    exact Rvs.cons k h2
  | y :: xs, vs, x, v, i + 1, h, k => by
    simp only [Rvs] at h
    obtain ⟨w, us, rfl, h1, h2⟩ := h
    exact Rvs.cons h1 (Rvs.set i h2 k)
end

/-! ### the store at the heap -/
/-- the linking: the written part, classes, fields, exception classes -/
structure Lk where
  K : PySem.W.Frag
  ca : Nat → Addr
  fl : Nat → Str
  xc : Nat → Value
  xf : Nat → List Str
  hid : Option (Nat × Addr × Addr × List (Str × V))
  /-- the classes of the text -/
  cok : Nat → Bool
  xok : Nat → Bool
  finj : ∀ i j, fl i = fl j → i = j
def RoL (K : PySem.W.Frag) (H : Hp) (a : Addr) (vs : List V) : Prop :=
  (∃ o, H a = some (.frz o (.lst vs))) ∨
    ∃ (o : Obj) (its : Array Value) (n : Nat), K.lookup a = some o ∧ o.cls = .type "list" ∧ o.dict = none ∧ o.data = .seq its n ∧ its.size ≤ sizeLine ∧ Vals vs its.toList
theorem RoL.sq {K : PySem.W.Frag} {H : Hp} {a : Addr} {vs : List V} (h : RoL K H a vs) : SqL K H a vs := by
  rcases h with ⟨o, h⟩ | h
  · exact .inl (.inr ⟨o, h⟩)
  · exact .inr h
def Ro (L : Lk) (ι : List Addr) (H : Hp) (a : Addr) : SObj → Prop
  | .lst xs => ∃ vs, H a = some (.lst vs) ∧ Rvs L.K ι H xs vs
  | .rol xs => ∃ vs, RoL L.K H a vs ∧ Rvs L.K ι H xs vs
  | .dK kvs => ∃ ws, H a = some (.dK ws) ∧ ws.map (·.1) = kvs.map (·.1) ∧ Rvs L.K ι H (kvs.map (·.2)) (ws.map (·.2))
  | .ins c fs => L.cok c = true ∧ ∃ dx ws, H a = some (.ins (L.ca c) dx ws) ∧ ws.map (·.1) = fs.map (fun p => L.fl p.1) ∧ Rvs L.K ι H (fs.map (·.2)) (ws.map (·.2))
  | .xob => True
structure Rel (L : Lk) (ι : List Addr) (S : Sto) (H : Hp) : Prop where
  len : ι.length = S.length
  inj : ∀ (n m : Nat) (a : Addr) (o o' : SObj), ι[n]? = some a → ι[m]? = some a → S[n]? = some o → S[m]? = some o' → o.mut = true → o'.mut = true → n = m
  obj : ∀ (n : Nat) (o : SObj) (a : Addr), S[n]? = some o → ι[n]? = some a → Ro L ι H a o
  hid : ∀ n a d fs, L.hid = some (n, a, d, fs) → ι[n]? = some a ∧ H d = some (.xd fs)
/-- an object that a write may change -/
def HOwr : HO → Prop
  | .lst _ => True | .dK _ => True | .dT _ => True | .ins .. => True | _ => False
def RelE (K : PySem.W.Frag) (ι : List Addr) (H : Hp) (ρ : LE) (σ : L2.St) : Prop :=
  ρ.length = σ.length ∧ ∀ (i : Nat) (x : Val), ρ[i]? = some (some x) → ∃ v, σ[i]? = some (some v) ∧ Rv K ι H x v
section
variable {L : Lk} {K : PySem.W.Frag} {ι ι' : List Addr} {H H' : Hp} {S : Sto} {ρ : LE} {σ : L2.St}
theorem RelE.mono (g : Grow K ι H ι' H') (h : RelE K ι H ρ σ) : RelE K ι' H' ρ σ :=
  ⟨h.1, fun i x e => let ⟨v, e1, r⟩ := h.2 i x e; ⟨v, e1, Rv.mono g x r⟩⟩
theorem RelE.set (h : RelE K ι H ρ σ) {x : Val} {v : V} (r : Rv K ι H x v) (i : Nat) : RelE K ι H (ρ.set i (some x)) (σ.set i (some v)) := by
  refine ⟨by simp [h.1], fun j y e => ?_⟩
  rw [List.getElem?_set] at e
  rw [List.getElem?_set]
  by_cases hij : i = j
  · subst hij
    simp only [if_true] at e ⊢
    by_cases hl : i < ρ.length
    · rw [if_pos hl] at e
      rw [if_pos (by rw [← h.1]; exact hl)]
      cases e
      exact ⟨v, rfl, r⟩
    · rw [if_neg hl] at e
      cases e
  · rw [if_neg hij] at e ⊢
    exact h.2 j y e
theorem Rel.addr (R : Rel L ι S H) {n : Nat} {o : SObj} (h : S[n]? = some o) : ∃ a, ι[n]? = some a ∧ Ro L ι H a o := by
  have hl : n < ι.length := by
    rw [R.len]
    exact (List.getElem?_eq_some_iff.mp h).1
  exact ⟨ι[n], by simp [hl], R.obj n o _ h (by simp [hl])⟩
theorem Ro.mut_some {a : Addr} {o : SObj} (h : Ro L ι H a o) (m : o.mut = true) : ∃ u, H a = some u := by
  cases o with
  | lst xs => obtain ⟨vs, e, _⟩ := h; exact ⟨_, e⟩
  | rol xs => exact absurd m (by simp [SObj.mut])
  | dK xs => obtain ⟨vs, e, _⟩ := h; exact ⟨_, e⟩
  | ins c xs => obtain ⟨_, dx, vs, e, _⟩ := h; exact ⟨_, e⟩
  | xob => exact absurd m (by simp [SObj.mut])
/-- an object's relation stays where its place in the heap stays -/
theorem Ro.keep {a : Addr} {o : SObj} (g : Grow L.K ι H ι' H') (hk : ∀ u, H a = some u → H' a = some u) (h : Ro L ι H a o) : Ro L ι' H' a o := by
  cases o with
  | lst xs => obtain ⟨vs, e, r⟩ := h; exact ⟨vs, hk _ e, Rvs.mono g _ r⟩
  | rol xs =>
    obtain ⟨vs, e, r⟩ := h
    refine ⟨vs, ?_, Rvs.mono g _ r⟩
    rcases e with ⟨ob, e⟩ | e
    · exact .inl ⟨ob, hk _ e⟩
    · exact .inr e
  | dK xs => obtain ⟨vs, e, e2, r⟩ := h; exact ⟨vs, hk _ e, e2, Rvs.mono g _ r⟩
  | ins c xs => obtain ⟨k, dx, vs, e, e2, r⟩ := h; exact ⟨k, dx, vs, hk _ e, e2, Rvs.mono g _ r⟩
  | xob => exact True.intro
theorem rd_upd {a p : Addr} {o u : HO} (hn : H p = none) (h : Rd H a u) : Rd (upd H p o) a u := by
  rcases h with h | ⟨z, h⟩
  · exact .inl (by rw [upd_ne (ne_of_none h hn)]; exact h)
  · exact .inr ⟨z, by rw [upd_ne (ne_of_none h hn)]; exact h⟩
theorem grow_new {p : Addr} {o : HO} (hn : H p = none) : Grow K ι H ι (upd H p o) :=
  ⟨⟨[], by simp⟩, fun a vs h => by
    rcases h with h | h
    · exact .inl (rd_upd hn h)
    · exact .inr h, fun a fs h => by rw [upd_ne (ne_of_none h hn)]; exact h⟩
theorem grow_ext {p : Addr} {o : HO} (hn : H p = none) (q : Addr) : Grow K ι H (ι ++ [q]) (upd H p o) :=
  ⟨⟨[q], rfl⟩, (grow_new (ι := ι) hn).2⟩
/-- a new object that the store doesn't name (a tuple) -/
theorem Rel.untold (R : Rel L ι S H) {p : Addr} {o : HO} (hn : H p = none) : Rel L ι S (upd H p o) :=
  ⟨R.len, R.inj, fun n ob a h1 h2 => (R.obj n ob a h1 h2).keep (grow_new hn) fun u e => by rw [upd_ne (ne_of_none e hn)]; exact e, fun n a d fs h => ⟨(R.hid n a d fs h).1, by rw [upd_ne (ne_of_none (R.hid n a d fs h).2 hn)]; exact (R.hid n a d fs h).2⟩⟩
/-- a new object of the store -/
theorem Rel.alloc (R : Rel L ι S H) {p : Addr} {o : HO} {ob : SObj} (hn : H p = none) (hr : Ro L (ι ++ [p]) (upd H p o) p ob) : Rel L (ι ++ [p]) (S ++ [ob]) (upd H p o) := by
  have old : ∀ (n : Nat) (ob' : SObj) (a : Addr), S[n]? = some ob' → ι[n]? = some a → ob'.mut = true → a ≠ p := fun n ob' a h1 h2 m => by
    obtain ⟨u, e⟩ := (R.obj n ob' a h1 h2).mut_some m
    exact ne_of_none e hn
  have sp : ∀ (n : Nat) (o' : SObj), (S ++ [ob])[n]? = some o' → S[n]? = some o' ∧ n < S.length ∨ n = S.length ∧ o' = ob := fun n o' h => by
    by_cases hl : n < S.length
    · rw [List.getElem?_append_left hl] at h; exact .inl ⟨h, hl⟩
    · rw [List.getElem?_append_right (by omega)] at h
      obtain ⟨h1, h2⟩ := List.getElem?_eq_some_iff.mp h
      simp at h1 h2
      exact .inr ⟨by omega, h2.symm⟩
  have ip : ∀ (n : Nat) (a : Addr), (ι ++ [p])[n]? = some a → n < S.length → ι[n]? = some a := fun n a h hl => by
    rw [List.getElem?_append_left (by rw [R.len]; exact hl)] at h; exact h
  have il : ∀ (a : Addr), (ι ++ [p])[S.length]? = some a → a = p := fun a h => by
    rw [List.getElem?_append_right (by rw [R.len]; exact Nat.le_refl _)] at h
    rw [R.len] at h
    simp at h
    exact h.symm
  refine ⟨by simp [R.len], fun n m a o1 o2 h1 h2 h3 h4 m1 m2 => ?_, fun n o' a h1 h2 => ?_, fun n a d fs h => ⟨(grow_ext (o := o) hn p (K := L.K)).get (R.hid n a d fs h).1, by rw [upd_ne (ne_of_none (R.hid n a d fs h).2 hn)]; exact (R.hid n a d fs h).2⟩⟩
  · rcases sp n o1 h3 with ⟨e1, l1⟩ | ⟨e1, e1'⟩ <;> rcases sp m o2 h4 with ⟨e2, l2⟩ | ⟨e2, e2'⟩
    · exact R.inj n m a o1 o2 (ip n a h1 l1) (ip m a h2 l2) e1 e2 m1 m2
    · rw [e2] at h2
      exact absurd (il a h2) (old n o1 a e1 (ip n a h1 l1) m1)
    · rw [e1] at h1
      exact absurd (il a h1) (old m o2 a e2 (ip m a h2 l2) m2)
    · omega
  · rcases sp n o' h1 with ⟨e1, l1⟩ | ⟨e1, e1'⟩
    · exact (R.obj n o' a e1 (ip n a h2 l1)).keep (grow_ext hn p) fun u e => by rw [upd_ne (ne_of_none e hn)]; exact e
    · rw [e1] at h2
      obtain rfl := il a h2
      rw [e1']
      exact hr
theorem wr_ne {o : HO} (ho : HOwr o) : (∀ xs, o ≠ .tup xs) ∧ (∀ z xs, o ≠ .frz z xs) ∧ ∀ fs, o ≠ .xd fs := by
  cases o <;> first | exact False.elim ho | (refine ⟨fun _ z => ?_, fun _ _ z => ?_, fun _ z => ?_⟩ <;> cases z)
theorem sqt_upd {a b : Addr} {o u : HO} {vs : List V} (h : H b = some o) (ho' : HOwr o) (k : SqT K H a vs) : SqT K (upd H b u) a vs := by
  have ho := wr_ne ho'
  rcases k with (k | ⟨z, k⟩) | k
  · exact .inl (.inl (by rw [upd_ne (ne_of k h (fun e => ho.1 vs e.symm))]; exact k))
  · exact .inl (.inr ⟨z, by rw [upd_ne (ne_of k h (fun e => ho.2.1 z _ e.symm))]; exact k⟩)
  · exact .inr k
theorem grow_upd {b : Addr} {o u : HO} (h : H b = some o) (ho : HOwr o) : Grow K ι H ι (upd H b u) :=
  ⟨⟨[], by simp⟩, fun a vs k => sqt_upd h ho k, fun a fs k => by rw [upd_ne (ne_of k h (fun e => (wr_ne ho).2.2 _ e.symm))]; exact k⟩
/-- an object of the store changes in its place -/
theorem Rel.write (R : Rel L ι S H) {n : Nat} {a : Addr} {ob ob' : SObj} {o u : HO} (hS : S[n]? = some ob) (ha : ι[n]? = some a) (m : ob.mut = true) (m' : ob'.mut = true) (h : H a = some o)
    (ho : HOwr o) (hr : Ro L ι (upd H a u) a ob') : Rel L ι (S.set n ob') (upd H a u) := by
  have gs : ∀ (k : Nat) (o' : SObj), (S.set n ob')[k]? = some o' → (k = n ∧ o' = ob') ∨ (k ≠ n ∧ S[k]? = some o') := fun k o' e => by
    rw [List.getElem?_set] at e
    by_cases hk : n = k
    · rw [if_pos hk] at e
      split at e
      · exact .inl ⟨hk.symm, (Option.some.inj e).symm⟩
      · cases e
    · rw [if_neg hk] at e
      exact .inr ⟨fun z => hk z.symm, e⟩
  refine ⟨by simp [R.len], fun i j b o1 o2 h1 h2 h3 h4 m1 m2 => ?_, fun k o' b h1 h2 => ?_, fun n a d fs q => ⟨(R.hid n a d fs q).1, (grow_upd (K := L.K) (ι := ι) h ho).2.2 _ _ (R.hid n a d fs q).2⟩⟩
  · rcases gs i o1 h3 with ⟨e1, e1'⟩ | ⟨e1, e1'⟩ <;> rcases gs j o2 h4 with ⟨e2, e2'⟩ | ⟨e2, e2'⟩
    · omega
    · rw [e1] at h1 ⊢
      exact R.inj n j b ob o2 h1 h2 hS e2' m m2
    · rw [e2] at h2 ⊢
      exact R.inj i n b o1 ob h1 h2 e1' hS m1 m
    · exact R.inj i j b o1 o2 h1 h2 e1' e2' m1 m2
  · rcases gs k o' h1 with ⟨e1, e1'⟩ | ⟨e1, e1'⟩
    · rw [e1, ha] at h2
      cases h2
      rw [e1']
      exact hr
    · have r := R.obj k o' b e1' h2
      by_cases hm : o'.mut = true
      · have nb : b ≠ a := fun z => by
          subst z
          exact e1 (R.inj k n b o' ob h2 ha e1' hS hm m)
        exact r.keep (grow_upd h ho) fun u e => by rw [upd_ne nb]; exact e
      · cases o' with
        | rol xs =>
          obtain ⟨vs, e, rr⟩ := r
          refine ⟨vs, ?_, Rvs.mono (grow_upd h ho) _ rr⟩
          rcases e with ⟨z, e⟩ | e
          · exact .inl ⟨z, by rw [upd_ne (ne_of e h (fun q => (wr_ne ho).2.1 _ _ q.symm))]; exact e⟩
          · exact .inr e
        | xob => exact True.intro
        | lst xs => exact absurd rfl hm
        | dK xs => exact absurd rfl hm
        | ins c xs => exact absurd rfl hm
end
end PM

namespace PM
open PySem PySem.Spec PyProof.Rows L2
theorem tuple_mul1 (l : Addr) (items : Array Value) (n : Nat) (dd : Option Addr) (sl : Array (Option Value)) (u : Tok) :
    Meets (Builtin.«tuple.__mul__» ⟨[.ref l, .int 1 u], []⟩) (fun _ R s => s.heap.get? l = some { cls := .type "tuple", dict := dd, data := .seq items n, slots := sl } ∧
      R (.ok (.ret (Value.ref l))) s) :=
  .of_wp fun prog w A R s h => by
    obtain ⟨hp, g, d, tk, os⟩ := s
    obtain ⟨hl, h⟩ := h
    have f1 := AutoSeq1.idx_int
    have c1 : (items.isEmpty || (1 : Int) == 1) = true := by simp
    have c0 : (decide ((1 : Int) < -(2 ^ 63)) || decide ((1 : Int) ≥ 2 ^ 63)) = false := by decide
    wp_walk using wpAny_loadPart' hl
    repeat (first
      | (refine wpAny_ite_false (decide_eq_false (by rw [c0]; exact Bool.false_ne_true)) ?_; wp_walk using wpAny_loadPart' hl)
      | (refine wpAny_ite_true (decide_eq_true (by rw [c1])) ?_; wp_walk using wpAny_loadPart' hl))
    exact ⟨_, rfl, h⟩
def rRepT1 (K : PySem.W.Frag) : R2 := fun x y H Q => ∃ l xs, x = .ref l ∧ y = .int 1 ∧ SqT K H l xs ∧ Q (.ref l) H
section
variable {X : Cx}
theorem op_repT1 : OpR X (binaryOp .Mult) (rRepT1 X.K) := by
  intro pins s σ H x y v u Q I rx ry h
  obtain ⟨l, xs, rfl, rfl, hT, q⟩ := h
  cases rx
  obtain ⟨t, rfl⟩ := ry
  obtain ⟨its, r, ⟨⟨cls, dd, data, sl⟩, ho, hc, n, hd⟩, hs⟩ := I.tuple hT
  simp only at hc hd
  subst hc hd
  refine wpAny_binaryOp_repeat_ref (T := "tuple") (U := "int") (by decide) ⟨_, ho, rfl⟩ (fun s' => typeIs_int s' 1 t) noFill_tuple_mul F.fills_int_mul F.slot_int_rmul repeat_tuple F.slot_int_index.lookup
    (call_meets F.slot_int_rmul (typeIs_int s 1 t) F.entry_int_rmul (F.args_int_rmul_2 _ _) (int_rmul_tuple 1 t l its.toArray n dd sl)
      ⟨ho, rfl, ⟨_, ho, rfl⟩, call_meets F.slot_tuple_mul ⟨_, ho, rfl⟩ F.entry_tuple_mul (F.args_tuple_mul_2 _ _) (tuple_mul1 l its.toArray n dd sl t) ⟨ho, ?_⟩⟩)
  exact ⟨.ref l, H, I, rfl, q⟩
theorem frep {α : Type} (its : List α) : ∀ (k : Nat) (acc : List α), List.foldl (fun x1 x2 => x1 ++ x2) acc.toArray (List.replicate k its.toArray) = (acc ++ (List.replicate k its).flatten).toArray
  | 0, acc => by simp
  | k + 1, acc => by
    have e : acc.toArray ++ its.toArray = (acc ++ its).toArray := by simp
    rw [List.replicate_succ, List.foldl_cons, e, frep its k (acc ++ its), List.replicate_succ, List.flatten_cons, List.append_assoc]
/-- a text times a number -/
def repS (a : Str) (n : Nat) : Str := ⟨(List.replicate n a.cps).foldl (· ++ ·) #[]⟩
def rRepS : R2 := fun x y H Q => ∃ a k, x = .str a ∧ y = .int k ∧ 2 ≤ k ∧ k ≤ 1000 ∧ 1 ≤ a.length ∧ a.length ≤ 1000 ∧ Q (.str (repS a k.toNat)) H
theorem op_repS : OpR X (binaryOp .Mult) rRepS := by
  intro pins s σ H x y v u Q I rx ry h
  obtain ⟨a, k, rfl, rfl, h1, h2, h3, h4, q⟩ := h
  obtain ⟨t', rfl⟩ := rx
  obtain ⟨t, rfl⟩ := ry
  have hm : a.length * k.toNat ≤ 1000 * 1000 := Nat.mul_le_mul h4 (by omega)
  have htl : Builtin.Str.tooLong (a.length * k.toNat) = false := by
    unfold Builtin.Str.tooLong
    try rw [sizeLine_eq]
    exact decide_eq_false (by omega)
  refine P.mul_str (by rw [decide_eq_false (by omega), decide_eq_false (by omega)]; rfl) (fun _ _ => ?_) (fun _ _ => htl) ?_
  · have : (1000 : Int) ≤ (2 ^ 63 - 1) / k := by
      have : (1000 : Int) * k ≤ 2 ^ 63 - 1 := by omega
      exact (Int.le_ediv_iff_mul_le (by omega)).mpr this
    omega
  · rw [if_neg (by omega), if_neg (by simp only [Bool.or_eq_true, beq_iff_eq]; omega)]
    have hsz : (repS a k.toNat).length ≤ sizeLine := by
      unfold repS
      have e := frep a.cps.toList k.toNat []
      rw [List.nil_append, Array.toArray_toList] at e
      show ((List.replicate k.toNat a.cps).foldl (· ++ ·) #[]).size ≤ sizeLine
      rw [show (List.replicate k.toNat a.cps).foldl (· ++ ·) #[] = _ from e, List.size_toArray, PyProof.Rows.lm_len_rep_flat, Array.length_toList, sizeLine_eq]
      have : k.toNat * a.cps.size ≤ 1000 * 1000 := Nat.mul_le_mul (by omega) h4
      omega
    exact ⟨hsz, ⟨.str _, H, I.tok _, ⟨_, rfl⟩, q⟩⟩
end
end PM

namespace PM
open PySem PySem.Spec PyProof.Rows L2
set_option maxHeartbeats 1000000 in
theorem meets_enumerate_newB1 {v : Value} {o : Obj} {H : Heap → Prop} (B : Begins v o H) :
    Meets (Builtin.«enumerate.__new__» ⟨[.type "enumerate", v], []⟩) (fun _ R s => H s.heap ∧
      R (.ok (.ret (.ref (s.heap.push o).objs.size))) { s with heap := (s.heap.push o).push { cls := .type "enumerate", data := .fields #[.none, .bool false, .ref s.heap.objs.size, rawInt 0, .none, .none] } }) :=
  .of_wp fun prog w A R s h => by
    obtain ⟨hp, g, d, tk, os⟩ := s; obtain ⟨h1, h⟩ := h
    have hsub := sub_enumerate
    have q1 : ∀ {A' : Around} {E : Value → Shared → Prop} {Q : Value → Shared → Prop}, Q (.ref hp.objs.size) ⟨hp.push o, g, d, tk, os⟩ → wpAny (model prog w) A' (pyIter v) Q E ⟨hp, g, d, tk, os⟩ :=
      fun q => B.iter prog w _ _ ⟨hp, g, d, tk, os⟩ _ h1 q
    wp_walk using q1
    refine wpAny_stack_any fun st => wpAny_pure ?_
    split
    · rename_i c _ _ _ _ _
      cases (c == Value.type "enumerate")
      · wp_walk using q1
        exact ⟨_, rfl, h⟩
      · wp_walk using q1
        exact ⟨_, rfl, h⟩
    · wp_walk using q1
      exact ⟨_, rfl, h⟩
section
variable {prog : Program} {w : World} {A : Around} {E : Value → Shared → Prop} {s : Shared}
theorem enum_begins1 {v : Value} {o : Obj} {H : Heap → Prop} {Q : Value → Shared → Prop} (B : Begins v o H) (h1 : H s.heap)
    (h : ∀ h', IsEnum h' (s.heap.objs.size + 1) s.heap.objs.size 0 .none → h'.get? s.heap.objs.size = some o → h'.objs.size = s.heap.objs.size + 2 →
      (∀ b o, s.heap.get? b = some o → h'.get? b = some o) → Q (.ref (s.heap.objs.size + 1)) { s with heap := h' }) :
    wpAny (model prog w) A (call (.type "enumerate") [v]) Q E s := by
  refine callType_new F.called_enumerate (by decide) (F.typeCall_enumerate_1 _) (F.newCall_enumerate_1 _) (fun obj => F.args_object_init_2 obj _) F.entry_enumerate_new
    (meets_enumerate_newB1 B) ⟨h1, ?_⟩
  have hz : (s.heap.push o).objs.size = s.heap.objs.size + 1 := Heap.size_push ..
  show _ ∧ _
  rw [hz]
  have he : IsEnum ((s.heap.push o).push { cls := .type "enumerate", data := .fields #[.none, .bool false, .ref s.heap.objs.size, rawInt 0, .none, .none] }) (s.heap.objs.size + 1) s.heap.objs.size 0 .none := by
    have := Heap.get?_push_size (s.heap.push o) (o := { cls := .type "enumerate", data := .fields #[.none, .bool false, .ref s.heap.objs.size, rawInt 0, .none, .none] }) rfl
    rw [hz] at this; exact this
  refine ⟨⟨_, he, rfl⟩, h _ he (Heap.get?_push_of_some _ (Heap.get?_push_size _ B.free)) (by rw [Heap.size_push, hz]) fun b o x => Heap.get?_push_of_some _ (Heap.get?_push_of_some _ x)⟩
end
theorem enumT_done {prog : Program} {w : World} {A : Around} {E : Value → Shared → Prop} {s : Shared} {e it l : Addr} {i : Nat} {items : Array Value} {old : Value} {Q : Option Value → Shared → Prop} (hh : A.handled = none)
    (he : IsEnum s.heap e it i old) (hit : s.heap.IsTupleIter it l i) (hl : s.heap.IsTuple l items) (hx : items[i]? = none)
    (hQ : ∀ h', Heap.ExtBut it s.heap h' → Q none { s with heap := h' }) : wpAny (model prog w) A (pyNext (.ref e)) Q E s := by
  have hT : s.TypeIs (.ref e) "enumerate" := ⟨_, he, rfl⟩
  unfold pyNext
  refine wpAny_bind (wpAny_attempt (wpAny_callSpecial?_slot (name := Str.ofString "__next__") hT F.slot_enumerate_next
    (wpAny_call_entry F.slot_enumerate_next hT F.entry_enumerate_next ?_ (F.args_enumerate_next_1 _))))
  show wpAny _ _ (field (.ref e) 2 >>= _) _ _ _
  refine wpAny_bind (wpAny_field he rfl (x := .ref it) rfl ?_)
  refine wpAny_bind (wpAny_nextOf_tuple_end hh hit hl hx fun h' x he' hx' => ?_)
  obtain ⟨o, ho, hc⟩ := hx'
  refine wpAny_bind (wpAny_isInstance (T := "StopIteration") (b := true) ⟨o, ho, hc⟩ isSubtype_stop ?_)
  exact wpAny_pure (hQ _ he')
/-- the tuple at a, each item in a new pair -/
def ItEt (K : PySem.W.Frag) (a : Addr) : It :=
  ⟨fun i H => ∃ (xs : List V) (x : V), SqT K H a xs ∧ xs[i]? = some x, fun i H v H' => ∃ T x, v = .ref T ∧ H T = none ∧ H' = upd H T (.tup [.int (i : Nat), x]) ∧ ∀ xs, SqT K H a xs → xs[i]? = some x, fun i H => ∃ xs : List V, SqT K H a xs ∧ xs.length ≤ i⟩
theorem turn_enumT {P : Program} {w : World} {K : PySem.W.Frag} {elts : List Expr} {kk : Nat} {tpos : Pos} (a e it : Addr) :
    Turn P w K (.Tuple elts kk tpos) (ItEt K a) [e, it] e (fun i h => (∃ old, IsEnum h e it ((i : Nat) : Int) old) ∧ h.IsTupleIter it a i ∧ e ≠ it) where
  mem := by simp
  obj := fun i h st b hb => by
    obtain ⟨⟨old, he⟩, ⟨o, ho, hc, hd⟩, _⟩ := st
    have e' : b = e ∨ b = it := by simpa using hb
    rcases e' with z | z
    · rw [z]; exact ⟨_, he, fun v q => nomatch q⟩
    · rw [z]; exact ⟨o, ho, fun v q => by rw [hd] at q; cases q⟩
  keep := fun i h h' st k => let ⟨⟨old, he⟩, hi, hne⟩ := st; ⟨⟨old, k e (by simp) _ he⟩, hi.at fun o q => k it (by simp) o q, hne⟩
  item := by
    intro X hP hw hK hc i pins s σ H E I hf st hg
    subst hP hw hK
    obtain ⟨⟨old, he⟩, hit, hne⟩ := st
    obtain ⟨xs, x, hq, hx⟩ := hg
    obtain ⟨its, rv, p, hz⟩ := I.tuple hq
    obtain ⟨u, hu, ru⟩ := rv.get hx
    have hel : e < s.heap.objs.size := Heap.lt_size he
    have hil : it < s.heap.objs.size := by obtain ⟨_, q, _⟩ := hit; exact Heap.lt_size q
    have hai : a ≠ it := fun q => by
      obtain ⟨o, h1, h2, _⟩ := hit
      obtain ⟨o', h3, h4, _⟩ := p
      rw [q, h1] at h3
      cases h3
      rw [h2] at h4
      exact absurd h4 (by decide)
    have hae : a ≠ e := fun q => by
      obtain ⟨o', h3, h4, _⟩ := p
      rw [q, he] at h3
      cases h3
      exact absurd (show Value.type "enumerate" = Value.type "tuple" from h4) (by decide)
    have hiL : i < its.toArray.size := by
      rw [List.size_toArray]
      exact (List.getElem?_eq_some_iff.mp hu).1
    refine wpAny_pyNext_enum_itemC (Draws.tuple (A := X.A.in1) (I.ok.hd hc) it a hai its.toArray) he ⟨hit, p⟩ hiL hne (by simp [hne, hae.symm]) fun y h' tk hy ho st' hT hsz hk => ?_
    obtain rfl : y = u := by
      have h1 : its.toArray[i]? = some u := by simpa using hu
      have h2 : its.toArray[i]? = some y := hy
      rw [h1] at h2
      exact (Option.some.inj h2).symm
    refine ⟨_, rfl, wpAny_letOwnedTupleGo_enum (s := { s with heap := h', toks := tk + 1 }) ho fun h'' he' sb => ?_⟩
    have hT2 : h''.get? s.heap.objs.size = some { cls := .type "tuple", data := .seq #[.int i tk, y] } := (sb.2 _ (Nat.ne_of_gt hel)).trans hT
    have new : ObjOk X.prog X.w (upd H s.heap.objs.size (.tup [.int (i : Nat), x])) h'' s.heap.objs.size (.tup [.int (i : Nat), x]) :=
      ⟨by show 2 ≤ sizeLine; decide, [.int i tk, y], .cons ⟨_, rfl⟩ (.cons ru .nil), ⟨_, hT2, rfl, _, rfl⟩⟩
    have I1 : Inv X pins σ (upd H s.heap.objs.size (.tup [.int (i : Nat), x])) { s with heap := h'', toks := tk + 1 } :=
      I.turnedNew (ch := [e, it]) (fun b ob hb q => (sb.2 b (fun z => hb (by simp [z]))).trans (hk b ob (fun z => hb (by simp [z])) (fun z => hb (by simp [z])) q)) hf (Nat.le_refl _) new
    refine ⟨.ref s.heap.objs.size, _, I1, rfl, ⟨_, x, rfl, I.hok.fresh (Nat.le_refl _), rfl, fun ys hy => by rw [I.tuple_inj hy hq]; exact hx⟩, ⟨⟨y, ?_⟩, st'.1.at fun o q => (sb.2 it (Ne.symm hne)).trans q, hne⟩, fun b hb => ?_⟩
    · have e1 : ((i + 1 : Nat) : Int) = (i : Int) + 1 := by omega
      rw [e1]; exact he'
    · have hb' : b < s.heap.objs.size := by
        have e' : b = e ∨ b = it := by simpa using hb
        rcases e' with z | z
        · rw [z]; exact hel
        · rw [z]; exact hil
      rw [upd_ne (Nat.ne_of_lt hb')]
      exact (hf b hb).1
  done := by
    intro X hP hw hK hc i pins s σ H E I hf st hg
    subst hP hw hK
    obtain ⟨⟨old, he⟩, hit, hne⟩ := st
    obtain ⟨xs, hq, hx⟩ := hg
    obtain ⟨its, rv, p, hz⟩ := I.tuple hq
    obtain ⟨f0, f1, f2, f3, f4, f5⟩ := hf it (by simp)
    have hl := rv.length
    refine enumT_done (I.ok.hd hc) he hit p (by simp; omega) fun h' eb => ⟨rfl, I.turned (t' := s.toks) (fun b o hb q => eb b o hb q) f0 f1 f3 f4 f5⟩
  self := fun A i s Q E st h => let ⟨⟨_, he⟩, _⟩ := st; wpAny_pyIter_enum he h
def iEnumA (K : PySem.W.Frag) (ta : TA) : TI := fun σ H R => ta σ H fun vs H1 => (∃ a xs, vs = [.ref a] ∧ SqL K H1 a xs ∧ R (Ite K a) H1) ∨ ∃ a xs, vs = [.ref a] ∧ SqT K H1 a xs ∧ R (ItEt K a) H1
theorem pi_enumA {X : Cx} {e : Expr} {ta : TA} {p pos tpos : Pos} {elts : List Expr} {kk : Nat} (hg : Gl X "enumerate") (hm : X.mg "enumerate" = none) (ha : PA X [e] ta) (hs : starEach [e] X.env = [(false, eval e X.env)] := by rfl) :
    PI X (.Tuple elts kk tpos) (.Call (.Name "enumerate" p) [e] [] pos) (iEnumA X.K ta) := by
  refine ⟨fun pins s σ H R I h => ?_⟩
  refine Call_ (ld_blt I hg hm boot_enumerate (PyProof.Rows.callWith_type1 (thn (ha.run pos pins s σ H _ I h) fun us s1 ⟨vs, H1, I1, r1, q1⟩ => ?_) hs rfl))
  have fp : ∀ b : Addr, b ∈ [s1.heap.objs.size + 1, s1.heap.objs.size] → FpOk X pins H1 b := fun b hb => by
    have e' : b = s1.heap.objs.size + 1 ∨ b = s1.heap.objs.size := by simpa using hb
    have hle : s1.heap.objs.size ≤ b := by
      rcases e' with z | z
      · rw [z]; exact Nat.le_add_right _ _
      · rw [z]; exact Nat.le_refl _
    exact I1.fpOk hle (I1.hok.fresh hle)
  rcases q1 with ⟨a, xs, ex, hq, q⟩ | ⟨a, xs, ex, hq, q⟩
  · subst ex
    cases r1 with
    | cons r rr =>
      cases rr
      cases r
      obtain ⟨its, rv, p', hz⟩ := I1.list hq
      refine call_enumerate_list p'.isList fun h' he hit hsz hk => wpAny_pyIter_enum he ?_
      have I2 : Inv X pins σ H1 { s1 with heap := h' } := I1.kept (t' := s1.toks) hk
      exact ⟨s1.heap.objs.size + 1, [s1.heap.objs.size + 1, s1.heap.objs.size], _, _, H1, rfl, I2, turn_enum a (s1.heap.objs.size + 1) s1.heap.objs.size, ⟨⟨.none, he⟩, hit, Nat.succ_ne_self _⟩, fp, q⟩
  · subst ex
    cases r1 with
    | cons r rr =>
      cases rr
      cases r
      obtain ⟨its, rv, p', hz⟩ := I1.tuple hq
      refine enum_begins1 (begins_tuple a its.toArray) p' fun h' he hit hsz hk => wpAny_pyIter_enum he ?_
      have I2 : Inv X pins σ H1 { s1 with heap := h' } := I1.kept (t' := s1.toks) hk
      exact ⟨s1.heap.objs.size + 1, [s1.heap.objs.size + 1, s1.heap.objs.size], _, _, H1, rfl, I2, turn_enumT a (s1.heap.objs.size + 1) s1.heap.objs.size, ⟨⟨.none, he⟩, ⟨_, hit, rfl, rfl⟩, Nat.succ_ne_self _⟩, fp, q⟩
end PM

namespace PM
open PySem PySem.Spec PyProof.Rows L2

/-! ### a built-in class called with keywords -/
section
variable {M : Model} {A : Around} {E : Value → Shared → Prop} {s : Shared} {env : Env}
theorem callWith_typeKw {pos : Pos} {T : String} {first : List Value} {args : List (Bool × Sem Value)} {keywords : List (Option Str × Sem Value)} {Q : Value → Shared → Prop}
    (hplain : args.any (·.1) = false) (hkw : keywords.any (·.1.isNone) = false)
    (h : wpAny M A (evalArgs (.type T) true args keywords) (fun a s₁ => wpAny M A (call (.type T) (first ++ a.pos) a.kw) Q E s₁) E s) :
    wpAny M A (callWith pos (.type T) first args keywords) Q E s := by
  unfold callWith
  refine wpAny_bind (wpAny_holding (wpAny_mono h (fun a s₁ h₁ => wpAny_bind (wpAny_standAt ?_)) fun _ _ x => x))
  simp only [hplain, hkw, Bool.or_false]
  refine wpAny_bind (wpAny_pure ?_)
  exact wpAny_bind (wpAny_mono h₁ (fun r s₂ hr => wpAny_bind (wpAny_holding (wpAny_point (wpAny_pure hr)))) fun _ _ x => x)
theorem callWith_kwT {pos : Pos} {T : String} {e : Expr} {rest : List Expr} {kws : List Keyword} {Q : Value → Shared → Prop}
    (h : wpAny M A (spliced (backTo pos (starEach (e :: rest) env))) (fun vs s₁ => wpAny M A (evalAll ((backToKw pos (keywordEach kws env)).map (·.2)))
      (fun kvs s₂ => wpAny M A (call (.type T) vs (((backToKw pos (keywordEach kws env)).filterMap (·.1)).zip kvs)) Q E s₂) E s₁) E s)
    (he : backTo pos (starEach (e :: rest) env) = (false, eval e env) :: backTo pos (starEach rest env))
    (hplain : (backTo pos (starEach (e :: rest) env)).any (·.1) = false)
    (hall : (backToKw pos (keywordEach kws env)).all (·.1.isSome) = true := by rfl)
    (hkw : (backToKw pos (keywordEach kws env)).any (·.1.isNone) = false := by rfl) :
    wpAny M A (callWith pos (.type T) [] (backTo pos (starEach (e :: rest) env)) (backToKw pos (keywordEach kws env))) Q E s := by
  refine callWith_typeKw hplain hkw ?_
  rw [he] at h ⊢
  exact evalArgs_kwB hall h
end

/-! ### enumerate(list, start=k) -/
def IteS (K : PySem.W.Frag) (a : Addr) (k : Int) : It :=
  ⟨fun i H => ∃ (xs : List V) (x : V), SqL K H a xs ∧ xs[i]? = some x, fun i H v H' => ∃ T x, v = .ref T ∧ H T = none ∧ H' = upd H T (.tup [.int (k + (i : Nat)), x]) ∧ ∀ xs, SqL K H a xs → xs[i]? = some x, fun i H => ∃ xs : List V, SqL K H a xs ∧ xs.length = i⟩
theorem turn_enumS {P : Program} {w : World} {K : PySem.W.Frag} {elts : List Expr} {kk : Nat} {tpos : Pos} (a e it : Addr) (k : Int) :
    Turn P w K (.Tuple elts kk tpos) (IteS K a k) [e, it] e (fun i h => (∃ old, IsEnum h e it (k + (i : Nat)) old) ∧ h.IsListIter it a i ∧ e ≠ it) where
  mem := by simp
  obj := fun i h st b hb => by
    obtain ⟨⟨old, he⟩, ⟨o, ho, hc, hd⟩, _⟩ := st
    have e' : b = e ∨ b = it := by simpa using hb
    rcases e' with z | z
    · rw [z]; exact ⟨_, he, fun v q => nomatch q⟩
    · rw [z]; exact ⟨o, ho, fun v q => by rw [hd] at q; cases q⟩
  keep := fun i h h' st k => let ⟨⟨old, he⟩, hi, hne⟩ := st; ⟨⟨old, k e (by simp) _ he⟩, hi.at fun o q => k it (by simp) o q, hne⟩
  item := by
    intro X hP hw hK hc i pins s σ H E I hf st hg
    subst hP hw hK
    obtain ⟨⟨old, he⟩, hit, hne⟩ := st
    obtain ⟨xs, x, hq, hx⟩ := hg
    obtain ⟨its, rv, p, hz⟩ := I.list hq
    obtain ⟨u, hu, ru⟩ := rv.get hx
    have hel : e < s.heap.objs.size := Heap.lt_size he
    have hil : it < s.heap.objs.size := by obtain ⟨_, q, _⟩ := hit; exact Heap.lt_size q
    have hai : a ≠ it := fun q => by
      obtain ⟨o, h1, h2, _⟩ := hit
      obtain ⟨o', h3, h4, _⟩ := p.isList
      rw [q, h1] at h3
      cases h3
      rw [h2] at h4
      exact absurd h4 (by decide)
    have hae : a ≠ e := fun q => by
      obtain ⟨o', h3, h4, _⟩ := p.isList
      rw [q, he] at h3
      cases h3
      exact absurd (show Value.type "enumerate" = Value.type "list" from h4) (by decide)
    have hiL : i < its.toArray.size := by
      rw [List.size_toArray]
      exact (List.getElem?_eq_some_iff.mp hu).1
    refine wpAny_pyNext_enum_itemC (Draws.list (A := X.A.in1) (I.ok.hd hc) it a hai its.toArray) he ⟨hit, p.isList⟩ hiL hne (by simp [hne, hae.symm]) fun y h' tk hy ho st' hT hsz hk => ?_
    obtain rfl : y = u := by
      have h1 : its.toArray[i]? = some u := by simpa using hu
      have h2 : its.toArray[i]? = some y := hy
      rw [h1] at h2
      exact (Option.some.inj h2).symm
    refine ⟨_, rfl, wpAny_letOwnedTupleGo_enum (s := { s with heap := h', toks := tk + 1 }) ho fun h'' he' sb => ?_⟩
    have hT2 : h''.get? s.heap.objs.size = some { cls := .type "tuple", data := .seq #[.int (k + (i : Nat)) tk, y] } := (sb.2 _ (Nat.ne_of_gt hel)).trans hT
    have new : ObjOk X.prog X.w (upd H s.heap.objs.size (.tup [.int (k + (i : Nat)), x])) h'' s.heap.objs.size (.tup [.int (k + (i : Nat)), x]) :=
      ⟨by show 2 ≤ sizeLine; decide, [.int (k + (i : Nat)) tk, y], .cons ⟨_, rfl⟩ (.cons ru .nil), ⟨_, hT2, rfl, _, rfl⟩⟩
    have I1 : Inv X pins σ (upd H s.heap.objs.size (.tup [.int (k + (i : Nat)), x])) { s with heap := h'', toks := tk + 1 } :=
      I.turnedNew (ch := [e, it]) (fun b ob hb q => (sb.2 b (fun z => hb (by simp [z]))).trans (hk b ob (fun z => hb (by simp [z])) (fun z => hb (by simp [z])) q)) hf (Nat.le_refl _) new
    refine ⟨.ref s.heap.objs.size, _, I1, rfl, ⟨_, x, rfl, I.hok.fresh (Nat.le_refl _), rfl, fun ys hy => by rw [I.list_inj hy hq]; exact hx⟩, ⟨⟨y, ?_⟩, st'.1.at fun o q => (sb.2 it (Ne.symm hne)).trans q, hne⟩, fun b hb => ?_⟩
    · have e1 : k + ((i + 1 : Nat) : Int) = k + (i : Nat) + 1 := by omega
      rw [e1]; exact he'
    · have hb' : b < s.heap.objs.size := by
        have e' : b = e ∨ b = it := by simpa using hb
        rcases e' with z | z
        · rw [z]; exact hel
        · rw [z]; exact hil
      rw [upd_ne (Nat.ne_of_lt hb')]
      exact (hf b hb).1
  done := by
    intro X hP hw hK hc i pins s σ H E I hf st hg
    subst hP hw hK
    obtain ⟨⟨old, he⟩, hit, hne⟩ := st
    obtain ⟨xs, hq, hx⟩ := hg
    obtain ⟨its, rv, p, hz⟩ := I.list hq
    obtain ⟨f0, f1, f2, f3, f4, f5⟩ := hf it (by simp)
    have hl := rv.length
    have hai : a ≠ it := fun q => by
      obtain ⟨o, h1, h2, _⟩ := hit
      obtain ⟨o', h3, h4, _⟩ := p.isList
      rw [q, h1] at h3
      cases h3
      rw [h2] at h4
      exact absurd h4 (by decide)
    have ei : i = its.toArray.size := by simp only [List.size_toArray]; omega
    rw [ei] at hit he
    exact wpAny_pyNext_enum_endD (Draws.list (A := X.A.in1) (I.ok.hd hc) it a hai its.toArray) he ⟨hit, p.isList⟩ fun h' eb => ⟨rfl, I.turned (t' := s.toks) (fun b o hb q => eb b o hb q) f0 f1 f3 f4 f5⟩
  self := fun A i s Q E st h => let ⟨⟨_, he⟩, _⟩ := st; wpAny_pyIter_enum he h

/-- what is asked of enumerate(e, start=k): a list, a number -/
def aEnumS (K : PySem.W.Frag) (t1 t2 : TE) (σ : L2.St) (H : Hp) (R : Addr → List V → Int → Hp → Prop) : Prop :=
  t1 σ H fun v H1 => t2 σ H1 fun u H2 => ∃ a xs k, v = .ref a ∧ u = .int k ∧ SqL K H2 a xs ∧ (-(2 ^ 62) ≤ k ∧ k < 2 ^ 62) ∧ R a xs k H2
/-- the call: two new objects, the iterator of the list and the enumerate over it -/
theorem enumS_go {X : Cx} {e1 e2 : Expr} {t1 t2 : TE} {p pos kp : Pos} {pins : List (Addr × Obj)} {s : Shared} {σ : L2.St} {H : Hp} {R : Addr → List V → Int → Hp → Prop} {Qf : Value → Shared → Prop}
    (hg : Gl X "enumerate") (hm : X.mg "enumerate" = none) (h1 : PE X e1 t1) (h2 : PE X e2 t2) (hmono1 : ∀ {σ H Q Q'}, t1 σ H Q → (∀ v H1, Q v H1 → Q' v H1) → t1 σ H Q') (hs : starEach [e1] X.env = [(false, eval e1 X.env)])
    (I : Inv X pins σ H s) (h : aEnumS X.K t1 t2 σ H R)
    (k : ∀ (s2 : Shared) (H2 : Hp) (a : Addr) (xs : List V) (j : Int) (h' : Heap), Inv X pins σ H2 s2 → SqL X.K H2 a xs → R a xs j H2 → IsEnum h' (s2.heap.objs.size + 1) s2.heap.objs.size j .none →
      h'.get? s2.heap.objs.size = some { cls := .type "list_iterator", data := .fields #[.ref a, .int 0 0] } → h'.objs.size = s2.heap.objs.size + 2 → (∀ b o, s2.heap.get? b = some o → h'.get? b = some o) →
      Qf (.ref (s2.heap.objs.size + 1)) { s2 with heap := h' }) :
    wpAny (model X.prog X.w) X.A (eval (.Call (.Name "enumerate" p) [e1] [⟨some "start", e2, kp⟩] pos) X.env) Qf X.xe s := by
  refine wpAny_Call_Name_kw (ld_blt I hg hm boot_enumerate ?_)
  have e0 : backTo pos (starEach [e1] X.env) = (false, eval e1 X.env) :: backTo pos (starEach [] X.env) := by rw [hs]; rfl
  refine callWith_kwT (rest := []) ?_ e0 (by rw [e0]; rfl)
  have hq : tCons t1 tNil σ H (fun vs H1 => ∃ v, vs = [v] ∧ t2 σ H1 fun u H2 => ∃ a xs k, v = .ref a ∧ u = .int k ∧ SqL X.K H2 a xs ∧ (-(2 ^ 62) ≤ k ∧ k < 2 ^ 62) ∧ R a xs k H2) := hmono1 h fun v H1 q => ⟨v, rfl, q⟩
  refine thn ((pa_cons h1 pa_nil hs).run pos pins s σ H _ I hq) fun us s1 ⟨vs, H1, I1, r1, v, ev, q1⟩ => ?_
  refine PyProof.Rows.kws_cons (thn (h2.run pins s1 σ H1 _ I1 q1) fun u2 s2 ⟨v2, H2, I2, r2, a, xs, j, ea, ej, hq, hj, q2⟩ => PyProof.Rows.kws_nil ?_)
  subst ev ea ej
  obtain ⟨t, rfl⟩ := r2
  cases r1 with
  | cons r rr =>
    cases rr
    cases r
    obtain ⟨its, rv, p', hz⟩ := I2.list hq
    exact enum_begins_start (begins_list a its.toArray) p'.isList (by omega) (by omega) fun h' he hit hsz hk => k s2 H2 a xs j h' I2 hq q2 he hit hsz hk

abbrev MonoE (t : TE) : Prop := ∀ {σ : L2.St} {H : Hp} {Q Q' : V → Hp → Prop}, t σ H Q → (∀ v H1, Q v H1 → Q' v H1) → t σ H Q'
/-- for .. in enumerate(e, start=k) -/
def iEnumS (K : PySem.W.Frag) (t1 t2 : TE) : TI := fun σ H R => aEnumS K t1 t2 σ H fun a _ k H2 => R (IteS K a k) H2
theorem pi_enumS {X : Cx} {e1 e2 : Expr} {t1 t2 : TE} {p pos kp tpos : Pos} {elts : List Expr} {kk : Nat} (hg : Gl X "enumerate") (hm : X.mg "enumerate" = none) (h1 : PE X e1 t1) (h2 : PE X e2 t2) (mo : MonoE t1) (hs : starEach [e1] X.env = [(false, eval e1 X.env)]) :
    PI X (.Tuple elts kk tpos) (.Call (.Name "enumerate" p) [e1] [⟨some "start", e2, kp⟩] pos) (iEnumS X.K t1 t2) := by
  refine ⟨fun pins s σ H R I h => ?_⟩
  refine enumS_go hg hm h1 h2 mo hs I h fun s2 H2 a xs j h' I2 hq q he hit hsz hk => wpAny_pyIter_enum he ?_
  have fp : ∀ b : Addr, b ∈ [s2.heap.objs.size + 1, s2.heap.objs.size] → FpOk X pins H2 b := fun b hb => by
    have e' : b = s2.heap.objs.size + 1 ∨ b = s2.heap.objs.size := by simpa using hb
    have hle : s2.heap.objs.size ≤ b := by
      rcases e' with z | z
      · rw [z]; exact Nat.le_add_right _ _
      · rw [z]; exact Nat.le_refl _
    exact I2.fpOk hle (I2.hok.fresh hle)
  have I3 : Inv X pins σ H2 { s2 with heap := h' } := I2.kept (t' := s2.toks) hk
  exact ⟨s2.heap.objs.size + 1, [s2.heap.objs.size + 1, s2.heap.objs.size], _, _, H2, rfl, I3, turn_enumS a (s2.heap.objs.size + 1) s2.heap.objs.size j, ⟨⟨.none, by simpa using he⟩, ⟨_, hit, rfl, rfl⟩, Nat.succ_ne_self _⟩, fp, q⟩

theorem get?_push_ne {h : Heap} {o u : Obj} {b : Addr} (hlt : b < h.objs.size) (e : (h.push o).get? b = some u) : h.get? b = some u := by
  obtain ⟨e1, e2⟩ := Heap.get?_some_iff.mp e
  refine Heap.get?_some_iff.mpr ⟨?_, e2⟩
  cases h
  simp only [Heap.push] at e1
  rw [Array.getElem?_push] at e1
  rw [if_neg (Nat.ne_of_lt hlt)] at e1
  exact e1
/-! ### an enumerate that a name holds -/
def FpS (X : Cx) (b : Addr) : Prop := b ∉ X.fs ∧ (b ∈ X.ex ∨ X.s_0.heap.objs.size ≤ b)
def phE (X : Cx) (e it : Addr) (k : Int) : Heap → Prop := fun h => IsEnum h e it k .none ∧ FpS X e ∧ FpS X it ∧ e ≠ it
def phI (X : Cx) (it a : Addr) : Heap → Prop := fun h => h.IsListIter it a 0
def cutH (H : Hp) (a : Addr) : Hp := fun b => if b = a then none else H b
theorem cut_of {H : Hp} {a b : Addr} {o : HO} (h : cutH H a b = some o) : H b = some o ∧ b ≠ a := by
  unfold cutH at h
  by_cases e : b = a
  · rw [if_pos e] at h; cases h
  · rw [if_neg e] at h; exact ⟨h, e⟩
theorem cut_ne {H : Hp} {a b : Addr} (e : b ≠ a) : cutH H a b = H b := if_neg e
theorem ObjOk.cut {P : Program} {w : World} {H : Hp} {h : Heap} {a b : Addr} {φ : Heap → Prop} (e : H a = some (.ext φ)) : ∀ {o : HO}, ObjOk P w H h b o → ObjOk P w (cutH H a) h b o := by
  intro o ho
  induction o with
  | ins C dx fs =>
    obtain ⟨h1, h2⟩ := ho
    refine ⟨?_, h2⟩
    rw [cut_ne (fun z => by rw [z, e] at h1; cases h1)]
    exact h1
  | dT kvs =>
    obtain ⟨h1, h2, xs, h3, h4⟩ := ho
    refine ⟨h1, h2, xs, ?_, h4⟩
    clear h4 h1
    induction h3 with
    | nil => exact .nil
    | cons p _ ih =>
      refine .cons ⟨p.1, ?_, p.2.2⟩ ih
      rw [cut_ne (fun z => by have p2 := p.2.1; rw [z, e] at p2; cases p2)]
      exact p.2.1
  | frz o u ih =>
    obtain ⟨h1, h2⟩ := ho
    exact ⟨h1, ih h2⟩
  | _ => exact ho
theorem Inv.untrack {X : Cx} {pins : List (Addr × Obj)} {σ : L2.St} {H : Hp} {s : Shared} {a : Addr} {φ : Heap → Prop} (I : Inv X pins σ H s) (e : H a = some (.ext φ)) : Inv X pins σ (cutH H a) s :=
  I.un (t' := s.toks) (h' := s.heap) ⟨fun b o q _ _ _ => q, fun b o q _ _ _ => ⟨o.slots, q⟩, fun b o q n _ => by unfold cutH; split <;> first | rfl | exact n, fun b o q _ => ⟨o, q⟩,
    fun b xs q => by rw [cut_ne (fun z => by rw [z, e] at q; cases q)]; exact q, fun b o u q => by rw [cut_ne (fun z => by rw [z, e] at q; cases q)]; exact q,
    fun b ps q => ⟨#[], by rw [cut_ne (fun z => by rw [z, e] at q; cases q)]; simpa using q⟩⟩ fun b o q => ObjOk.cut e (I.hok b o (cut_of q).1)
def tEnumS (X : Cx) (t1 t2 : TE) : TE := fun σ H Q => aEnumS X.K t1 t2 σ H fun a _ k H2 => ∀ e it, H2 e = none → H2 it = none → e ≠ it → Q (.ref e) (upd (upd H2 it (.ext (phI X it a))) e (.ext (phE X e it k)))
theorem pe_enumS {X : Cx} {e1 e2 : Expr} {t1 t2 : TE} {p pos kp : Pos} (hg : Gl X "enumerate") (hm : X.mg "enumerate" = none) (h1 : PE X e1 t1) (h2 : PE X e2 t2) (mo : MonoE t1) (hs : starEach [e1] X.env = [(false, eval e1 X.env)]) :
    PE X (.Call (.Name "enumerate" p) [e1] [⟨some "start", e2, kp⟩] pos) (tEnumS X t1 t2) := by
  refine ⟨fun pins s σ H Q I h => ?_⟩
  refine enumS_go hg hm h1 h2 mo hs I h fun s2 H2 a xs j h' I2 hq q he hit hsz hk => ?_
  have fp : ∀ b : Addr, s2.heap.objs.size ≤ b → FpS X b := fun b hle => by
    have f := I2.fpOk hle (I2.hok.fresh hle)
    exact ⟨f.2.2.1, f.2.2.2.1⟩
  have f1 := fp (s2.heap.objs.size) (Nat.le_refl _)
  have f2 := fp (s2.heap.objs.size + 1) (Nat.le_succ _)
  have n1 : H2 s2.heap.objs.size = none := I2.hok.fresh (Nat.le_refl _)
  have n2 : H2 (s2.heap.objs.size + 1) = none := I2.hok.fresh (Nat.le_succ _)
  let o : Obj := { cls := .type "list_iterator", data := .fields #[.ref a, .int 0 0] }
  have I3 : Inv X pins σ (upd H2 s2.heap.objs.size (.ext (phI X s2.heap.objs.size a))) { s2 with heap := s2.heap.push o } := by
    refine I2.laid (t' := s2.toks) (fun b u e => Heap.get?_push_of_some _ e) (Nat.le_refl _) ?_
    exact ⟨⟨_, Heap.get?_push_size _ rfl, rfl, rfl⟩, ⟨_, Heap.get?_push_size _ rfl⟩, fun h1 h2 hp hs => by
      obtain ⟨o, e1, e2⟩ := hp
      exact ⟨o, hs o e1, e2⟩⟩
  have I4 := I3.laid (t' := s2.toks) (a := s2.heap.objs.size + 1) (o := .ext (phE X (s2.heap.objs.size + 1) s2.heap.objs.size j)) (h' := h') (fun b u e => by
      by_cases hb : b = s2.heap.objs.size
      · subst hb
        have := Heap.get?_push_size s2.heap (o := o) rfl
        have e' : (s2.heap.push o).get? s2.heap.objs.size = some u := e
        rw [this] at e'
        cases e'
        exact hit
      · have hlt : b < s2.heap.objs.size := by
          have h0 := Heap.lt_size e
          have h1 : b < (s2.heap.push o).objs.size := h0
          rw [Heap.size_push] at h1
          exact Nat.lt_of_le_of_ne (Nat.le_of_lt_succ h1) hb
        refine hk b u ?_
        have e' : (s2.heap.push o).get? b = some u := e
        exact get?_push_ne hlt e') (by show (s2.heap.push o).objs.size ≤ _; rw [Heap.size_push]; exact Nat.le_refl _)
    ⟨⟨he, f2, f1, Nat.succ_ne_self _⟩, ⟨_, he⟩, fun h1 h2 hp hs => ⟨hs _ hp.1, hp.2⟩⟩
  exact ⟨.ref _, _, I4, rfl, q _ _ n2 n1 (Nat.succ_ne_self _)⟩
/-- for .. in name, the name holds an enumerate that has given nothing yet -/
def iNameS (X : Cx) (i : Nat) : TI := fun σ H R => ∃ e it a xs k, σ[i]? = some (some (.ref e)) ∧ H e = some (.ext (phE X e it k)) ∧ H it = some (.ext (phI X it a)) ∧ SqL X.K H a xs ∧ R (IteS X.K a k) (cutH (cutH H e) it)
theorem pi_nameS {X : Cx} {i : Nat} {y : Str} {p tpos : Pos} {elts : List Expr} {kk : Nat} (hv : PE X (.Name y p) (tVar i)) : PI X (.Tuple elts kk tpos) (.Name y p) (iNameS X i) := by
  refine ⟨fun pins s σ H R I ⟨e, it, a, xs, k, h1, h2, h3, h4, h5⟩ => ?_⟩
  refine thn (hv.run pins s σ H (fun v H' => H' = H ∧ v = .ref e) I ⟨_, h1, rfl, rfl⟩) fun u s1 ⟨v, H', I1, r1, eH, ev⟩ => ?_
  subst eH ev
  cases r1
  obtain ⟨⟨he, f1, f2, hne⟩, _, _⟩ := I1.hok e _ h2
  have hit : s1.heap.IsListIter it a 0 := (I1.hok it _ h3).1
  have h3' : cutH H' e it = some (.ext (phI X it a)) := by rw [cut_ne (Ne.symm hne)]; exact h3
  have I2 := (Inv.untrack I1 h2)
  have I3 := Inv.untrack I2 h3'
  refine wpAny_pyIter_enum he ⟨e, [e, it], _, _, _, rfl, I3, turn_enumS a e it k, ⟨⟨.none, by simpa using he⟩, hit, hne⟩, fun b hb => ?_, h5⟩
  have e' : b = e ∨ b = it := by simpa using hb
  have hb1 : (∃ φ, H' b = some (.ext φ)) ∧ FpS X b := by
    rcases e' with z | z
    · rw [z]; exact ⟨⟨_, h2⟩, f1⟩
    · rw [z]; exact ⟨⟨_, h3⟩, f2⟩
  obtain ⟨⟨φ, hb1⟩, hb2⟩ := hb1
  refine ⟨?_, fun z => ?_, hb2.1, hb2.2, fun x c hc z => ?_, fun p hp z => ?_⟩
  · rcases e' with z | z
    · rw [z, cut_ne hne]; exact if_pos rfl
    · rw [z]; exact if_pos rfl
  · rw [z, I1.free] at hb1; cases hb1
  · rw [← z, I1.freeC x c hc] at hb1; cases hb1
  · have := (I1.pin p hp).2.1
    rw [z, hb1] at this; cases this
end PM

namespace PM
open PySem PySem.Spec PyProof.Rows L2
open PySem.W (dataLt alike alikeAll AlikeAll iter_tupleW moved_old cmpIn_gt maxD max_list_data dataLt_ii)
/-! ### max over pairs of whole numbers -/
section
variable {prog : Program} {w : World} {A : Around} {E : Value → Shared → Prop} {s : Shared}
theorem call_max_twoH {a b : Value} {Q : Value → Shared → Prop}
    (h : wpAny (model prog w) A.in1 (pyIter (.ref s.heap.objs.size)) (fun it s₂ => ∃ I fp wr G n P St H bt, it = .ref I ∧ WalksS prog w A.in1 I fp wr G n P St ∧ St 0 s₂ ∧ (∀ b ∈ fp, b < s₂.heap.objs.size) ∧ 0 < n ∧
      (∀ b o, H.get? b = some o → b ∉ wr) ∧ (∀ b o, H.get? b = some o → s₂.heap.get? b = some o) ∧ CmpIn prog w A.in1 .Gt H P bt ∧ ∀ v s', P (argBest bt (n - 1)) v → Moved wr G s₂ s' → Q v s') E { s with heap := s.heap.push { cls := .type "tuple", data := .seq #[a, b] } }) :
    wpAny (model prog w) A (call (.builtin "max") [a, b]) Q E s := by
  have hname : (toString "max" ++ toString ".loop" : String) = "max.loop" := by decide
  refine call_function_tree F.kind_max F.plain_max F.entry_max (F.args_max2 _ _) ?_
  show wpAny _ A.in1 (Builtin.Builtins.bindParams "max" ["key", "default"] 0 ⟨[], []⟩ >>= _) _ _ s
  refine wpAny_bind (wpAny_of_eq (show Builtin.Builtins.bindParams "max" ["key", "default"] 0 ⟨[], []⟩ = pure [none, none] from rfl) ?_)
  show wpAny _ A.in1 (newTuple [a, b] >>= _) _ _ s
  refine wpAny_bind (wpAny_newObj_type ?_)
  refine wpAny_bind (wpAny_mono h (fun it s₂ h₂ => ?_) fun _ _ e => e)
  obtain ⟨I, fp, wr, G, n, P, St, H, bt, rfl, W, hst, hfp, hn, hw, hkeep, hcmp, hQ⟩ := h₂
  refine wpAny_bind (wpAny_newObj_type ?_)
  have hSf : s₂.heap.objs.size ∉ fp := fun hm => Nat.lt_irrefl _ (hfp _ hm)
  rw [hname]
  refine wpAny_pure ⟨plainId_quiet F.plain_max_loop _, codeAny_max_loop_firstH W H hw bt hcmp s₂.heap.objs.size hSf (fresh_in hkeep) _ hn (fun b o e => Heap.get?_push_of_some _ (hkeep b o e)) (W.frame 0 s₂ _ s₂.toks hst (Nat.le_refl _) fun b _ o e => Heap.get?_push_of_some _ e) (Heap.get?_push_size _ rfl) fun v s' hP hm => ?_⟩
  exact hQ v s' hP (Moved.drop_new (tk := s₂.toks) hm (Nat.le_refl _))
theorem max_two_data {a b : Value} {x y : PyData} {as bs : List Addr} {Q : Value → Shared → Prop} (hh : A.handled = none) (hx : Reads s.heap a x as) (hy : Reads s.heap b y bs) (ha : AlikeAll [x, y]) (hu : A.units + 1 + PyData.depthAll [x, y] < cLine)
    (h : ∀ h' tk, (∀ b o, s.heap.get? b = some o → h'.get? b = some o) → Q (if dataLt x y = true then b else a) { s with heap := h', toks := tk }) :
    wpAny (model prog w) A (call (.builtin "max") [a, b]) Q E s := by
  let o : Obj := { cls := .type "tuple", data := .seq #[a, b] }
  have kp : ∀ b u, s.heap.get? b = some u → (s.heap.push o).get? b = some u := fun b u e => Heap.get?_push_of_some _ e
  have hr : ReadsAll (s.heap.push o) #[a, b].toList [x, y] _ := .cons (Reads.keeps kp hx) (.cons (Reads.keeps kp hy) .nil)
  refine call_max_twoH (iter_tupleW (A := A.in1) (s := { s with heap := s.heap.push o }) hh (vs := #[a, b]) ⟨_, Heap.get?_push_size _ rfl, rfl, _, rfl⟩ fun s₂ e W st hfp hw hk => ?_)
  refine ⟨_, _, _, _, _, _, _, s.heap.push o, _, rfl, W, st, hfp, by simp, hw, hk, cmpIn_gt (A := A.in1) (s := { s with heap := s.heap.push o }) hr ha (by show A.units + 1 + _ < _; exact hu), fun v s' hP m => ?_⟩
  obtain ⟨h', tk, rfl, hk'⟩ := moved_old (s := { s with heap := s.heap.push o }) e rfl m
  have hv : v = (if dataLt x y = true then b else a) := by
    have e1 : argBest (fun i j => dataLt ([x, y].getD j .none) ([x, y].getD i .none)) 1 = if dataLt x y = true then 1 else 0 := rfl
    have hP' : #[a, b][argBest (fun i j => dataLt ([x, y].getD j .none) ([x, y].getD i .none)) 1]? = some v := hP
    rw [e1] at hP'
    by_cases hd : dataLt x y = true
    · rw [if_pos hd] at hP' ⊢
      exact (Option.some.inj hP').symm
    · rw [if_neg hd] at hP' ⊢
      exact (Option.some.inj hP').symm
  rw [hv]
  exact h h' tk fun b u e => hk' b u (kp b u e)
end
def pltB (p q : Int × Int) : Bool := decide (p.1 < q.1) || (decide (p.1 = q.1) && decide (p.2 < q.2))
def pairD (p : Int × Int) : PyData := .tuple [.int p.1, .int p.2]
theorem dataLt_pr (p q : Int × Int) : dataLt (pairD p) (pairD q) = pltB p q := by
  unfold pairD pltB
  rw [dataLt_ii]
  by_cases h1 : p.1 < q.1 <;> by_cases h2 : p.1 = q.1 <;> by_cases h3 : p.2 < q.2 <;> simp [h1, h2, h3]
theorem alike_pr (p q : Int × Int) : alike (pairD p) (pairD q) = true := by
  unfold pairD
  simp [alike, alikeAll]
theorem alikeAll_pr (ps : List (Int × Int)) : AlikeAll (ps.map pairD) := by
  refine ⟨fun x hx y hy => ?_, fun x hx => ?_⟩
  · obtain ⟨p, _, rfl⟩ := List.mem_map.mp hx
    obtain ⟨q, _, rfl⟩ := List.mem_map.mp hy
    exact alike_pr p q
  · obtain ⟨p, _, rfl⟩ := List.mem_map.mp hx
    exact fun z => nomatch z
theorem depth_pr : ∀ ps : List (Int × Int), PyData.depthAll (ps.map pairD) ≤ 5
  | [] => by simp [PyData.depthAll]
  | p :: ps => by
    have := depth_pr ps
    have h1 : (pairD p).depth ≤ 5 := by simp [pairD, PyData.depth, PyData.depthAll]
    simp only [List.map_cons, PyData.depthAll]
    omega
def pmax (p : Int × Int) (ps : List (Int × Int)) : Int × Int := ps.foldl (fun a y => if pltB a y = true then y else a) p
theorem maxD_pr (p : Int × Int) (ps : List (Int × Int)) : maxD (pairD p) (ps.map pairD) = pairD (pmax p ps) := by
  unfold maxD pmax
  induction ps generalizing p with
  | nil => rfl
  | cons q ps ih =>
    simp only [List.map_cons, List.foldl_cons, dataLt_pr]
    rw [show (if pltB p q = true then pairD q else pairD p) = pairD (if pltB p q = true then q else p) by split <;> rfl]
    exact ih _
theorem pairD_inj {p q : Int × Int} (h : pairD p = pairD q) : p = q := by
  unfold pairD at h
  simp only [PyData.tuple.injEq, List.cons.injEq, PyData.int.injEq, and_true] at h
  exact Prod.ext h.1 h.2
section
variable {X : Cx}
def prT (K : PySem.W.Frag) (H : Hp) (v : V) (p : Int × Int) : Prop := ∃ a, v = .ref a ∧ SqT K H a [.int p.1, .int p.2]
theorem prT_dp {K : PySem.W.Frag} {H : Hp} {v : V} {p : Int × Int} (h : prT K H v p) : Dp K H v (pairD p) := by
  obtain ⟨a, rfl, h⟩ := h
  exact .tup h (.cons (.int _) (.cons (.int _) .nil))
theorem prTs_dp {K : PySem.W.Frag} {H : Hp} : ∀ {vs : List V} {ps : List (Int × Int)}, Paired (prT K H) vs ps → DpAll K H vs (ps.map pairD)
  | _, _, .nil => .nil
  | _, _, .cons h r => .cons (prT_dp h) (prTs_dp r)
theorem call_max2P (hc : X.calm = true) (hu : X.A.units + 64 < cLine) : CallR X (.builtin "max") (fun xs H Q => ∃ v u p q, xs = [v, u] ∧ prT X.K H v p ∧ prT X.K H u q ∧ Q (if pltB p q = true then u else v) H) := by
  intro pins s σ H xs us Q I r h
  obtain ⟨v, u, p, q, rfl, h1, h2, k⟩ := h
  obtain ⟨x, y, rfl, r1, r2⟩ := vals2 r
  obtain ⟨as, hr1⟩ := Dp.reads I _ _ _ (prT_dp h1) r1
  obtain ⟨bs, hr2⟩ := Dp.reads I _ _ _ (prT_dp h2) r2
  refine max_two_data (I.ok.hd hc) hr1 hr2 (alikeAll_pr [p, q]) (by have := depth_pr [p, q]; simp only [List.map] at this; omega) fun h' tk hk => ?_
  rw [dataLt_pr]
  refine ⟨_, H, I.kept hk, ?_, k⟩
  split
  · exact r2
  · exact r1
theorem prT_at {K : PySem.W.Frag} {H : Hp} : ∀ {vs : List V} {ps : List (Int × Int)} {i : Nat} {v : V}, Paired (prT K H) vs ps → vs[i]? = some v → ∃ q, prT K H v q
  | _, _, _, _, .nil, h => by simp at h
  | _, _, 0, v, .cons h r, e => by
    cases (show some _ = some v from e)
    exact ⟨_, h⟩
  | _, _, i + 1, v, .cons h r, e => prT_at r (i := i) (by simpa using e)
theorem reads_pr {h : Heap} {v : Value} {p q : Int × Int} {as bs : List Addr} (h1 : Reads h v (pairD p) as) (h2 : Reads h v (pairD q) bs) : p = q := by
  have e := (Reads.unique h1 _ _ h2).1
  exact pairD_inj e
theorem call_max1P (hc : X.calm = true) (hu : X.A.units + 64 < cLine) : CallR X (.builtin "max") (fun xs H Q => ∃ a vs p ps, xs = [.ref a] ∧ SqL X.K H a vs ∧ Paired (prT X.K H) vs (p :: ps) ∧ ∀ v ∈ vs, prT X.K H v (pmax p ps) → Q v H) := by
  intro pins s σ H xs us Q I r h
  obtain ⟨a, vs, p, ps, rfl, h1, h2, k⟩ := h
  obtain ⟨its, rv, hl, _⟩ := I.list h1
  rw [Vals.ref1 r]
  obtain ⟨as, hr⟩ := Dp.readsAll I _ _ _ (prTs_dp h2) rv
  refine max_list_data (I.ok.hd hc) hl.isList (x := pairD p) (xs := ps.map pairD) (as := as) (by simpa using hr) (alikeAll_pr (p :: ps)) (by have := depth_pr (p :: ps); simp only [List.map] at this; omega) fun i v h' tk bs hi hb hk => ?_
  rw [maxD_pr] at hb
  have hi' : its[i]? = some v := by simpa using hi
  have hl1 := rv.length
  have hil := (List.getElem?_eq_some_iff.mp hi').1
  have hv : vs[i]? = some vs[i] := by simp [hl1, hil]
  obtain ⟨u', hu', ru⟩ := rv.get hv
  rw [hi'] at hu'
  cases hu'
  obtain ⟨q, hq⟩ := prT_at h2 hv
  obtain ⟨cs, hc2⟩ := Dp.reads I _ _ _ (prT_dp hq) ru
  have e := reads_pr (Reads.keeps hk hc2) hb
  subst e
  exact ⟨vs[i], H, I.kept hk, ru, k _ (List.getElem_mem _) hq⟩
end
end PM

namespace PM
open PySem PySem.Spec PyProof.Rows L2

inductive BOp where | add | sub | mul | fdiv | mod | pow
  deriving DecidableEq
inductive COp where | eq | ne | lt | le | gt | ge | is_ | nis | in_ | nin
  deriving DecidableEq
inductive Bi where | len | int | abs | min2 | max2 | str | tuple | list | all | any | ord | dict | max1
  deriving DecidableEq
inductive Mt where | append | extend | pop | get1 | pop1 | reverse | get2 | setd | join | starts | split | rstrp | rmpre | isasc | isdig
  deriving DecidableEq
inductive ItK where | seq | range | range2 | enum | zip | rev | enums
  deriving DecidableEq
inductive Tg where | nm (i : Nat) | tp (is : List Nat)
inductive Ty where | int | bool | str | tuple | list
  deriving DecidableEq
inductive ME where
  | var (i : Nat) | lit (v : Val) | glo (x : Nat)
  | neg (a : ME) | not (a : ME) | bool (k : Bool) (es : List ME)
  | bin (op : BOp) (a b : ME) | cmp (op : COp) (a b : ME) | chain (o1 o2 : COp) (a b c : ME)
  | ifx (t a b : ME) | tup (es : List ME) | lst (es : List ME)
  | ix (a i : ME) | sl (a : ME) (lo hi : List ME)
  | ist (a : ME) (T : Ty) | tyc (k : Bool) (a : ME) (T : Ty)
  | bi (f : Bi) (es : List ME) | mt (m : Mt) (o : ME) (es : List ME) | call (f : Nat) (es : List ME)
  | lc (k : ItK) (its : List ME) (own : List Nat) (tg : Tg) (ifs : List ME) (elt : ME)
  | fld (o : ME) (a : Nat) | xat (o : ME) (k : Nat) | meth (o : ME) (a : Nat) (es : List ME) | make (c : Nat) (es : List ME) | dsp (ks : List Key) (es : List ME)
  | dc (k : ItK) (its : List ME) (own : List Nat) (tg : Tg) (ke ve : ME)
  | bad | ixc (a i : ME)
  | lc2 (k : ItK) (its : List ME) (own : List Nat) (tg : Tg) (ifs : List ME) (k1 : ItK) (its1 : List ME) (tg1 : Tg) (ifs1 : List ME) (elt : ME)
  | rvs (a : ME)
inductive MS where
  | asg (tg : Tg) (e : ME) | sub (o i e : ME) | ex (e : ME) | ret (e : ME) | retN
  | ite (c : ME) (a b : List MS) | whl (c : ME) (b : List MS) | fr (tg : Tg) (k : ItK) (its : List ME) (b : List MS)
  | brk | cnt | pass
  | fset (o : ME) (a : Nat) (e : ME) | faug (op : BOp) (o : ME) (a : Nat) (e : ME) | rs (c : Nat) (es : List ME)
  | tr (b : List MS) (c : Nat) (i : Option Nat) (s : List MS) | tr2 (b : List MS) (c1 : Nat) (s1 : List MS) (c2 : Nat) (s2 : List MS) | trx (b : List MS) (c i c2 : Nat) (pre : Option Str)
  | bad
  | par (i j : Nat) (es : List ME) | enr (i : Nat) (its : List ME) (own : List Nat) (tg : Tg) (elt : ME)

abbrev VQ := Val → Sto → Prop
abbrev XQ := Nat → List Val → Sto → Prop
/-- what a program has besides its defs: constants, classes, exceptions -/
structure GE where
  glo : Nat → Val
  cst : Nat → Option (Str × List (Str × Val))
  /-- the def of a class's __init__ -/
  ini : Nat → Nat
  /-- the def of a class's method -/
  mth : Nat → Nat → Option Nat
  /-- the attributes of a class's instances -/
  fok : Nat → Nat → Bool
  /-- one exception class is another one or below it -/
  sub : Nat → Nat → Option Bool
structure Cenv extends GE where
  call : Nat → List Val → Sto → VQ → XQ → Prop
  /-- the exception that an except suite holds: its place in the store, its fields -/
  cur : Option (Nat × List Val)

/-! ### operations on values -/
def Val.flat : Val → Bool
  | .non => true | .bl _ => true | .int _ => true | .str _ => true | _ => false
def Val.isNon : Val → Bool
  | .non => true | _ => false
def lstAt (S : Sto) (n : Nat) : Option (List Val) := match S[n]? with
  | some (.lst xs) => some xs
  | some (.rol xs) => some xs
  | _ => none
def mlAt (S : Sto) (n : Nat) : Option (List Val) := match S[n]? with
  | some (.lst xs) => some xs
  | _ => none
def dat (S : Sto) : Nat → Val → Option PyData
  | 0, _ => none
  | _ + 1, .non => some .none
  | _ + 1, .bl b => some (.bool b)
  | _ + 1, .int i => some (.int i)
  | _ + 1, .str x => some (.str x)
  | n + 1, .tup xs => (xs.mapM (dat S n)).map PyData.tuple
  | n + 1, .loc l => match lstAt S l with
    | some xs => (xs.mapM (dat S n)).map PyData.list
    | none => none
  | _ + 1, .cst _ _ => none
def eqF : Val → Val → Bool
  | .non, .non => true
  | .bl a, .bl b => a == b
  | .bl a, .int b => (if a then 1 else 0) == b
  | .int a, .bl b => a == (if b then 1 else 0)
  | .int a, .int b => a == b
  | .str a, .str b => a == b
  | _, _ => false
def eqS (S : Sto) (x y : Val) (Q : Bool → Prop) : Prop := match dat S 60 x, dat S 60 y with
  | some d, some e => Q (PyData.eqv d e)
  | _, _ => False
def dkAt (S : Sto) (n : Nat) : Option (List (Key × Val)) := match S[n]? with
  | some (.dK kvs) => some kvs
  | _ => none
def keyOf : Val → Option Key
  | .int i => some (.inl i)
  | .str x => some (.inr x)
  | _ => none
def getK (kvs : List (Key × Val)) (k : Key) : Option Val := (kvs.find? fun kv => decide (kv.1 = k)).map (·.2)
def setK (kvs : List (Key × Val)) (k : Key) (v : Val) : List (Key × Val) :=
  if (kvs.any fun kv => decide (kv.1 = k)) = true then kvs.map (fun kv => if kv.1 = k then (kv.1, v) else kv) else kvs ++ [(k, v)]
def itemsOf (S : Sto) : Val → Option (List Val)
  | .tup xs => some xs
  | .loc n => lstAt S n
  | _ => none
def Val.isStr : Val → Bool | .str _ => true | _ => false
def inS (x y : Val) (S : Sto) (Q : Bool → Prop) : Prop := match itemsOf S y with
  | some xs => match dat S 59 x, xs.mapM (dat S 59) with
    | some d, some es => Q (es.any fun e => PyData.eqv e d)
    | _, _ => False
  | none => match x, y with
    | .str c, .str z => c.length = 1 ∧ Q (decide (c.cps.getD 0 0 ∈ z.cps.toList))
    | x, .loc n => match dkAt S n, keyOf x with
      | some kvs, some k => Q (getK kvs k).isSome
      | _, _ => False
    | _, _ => False
def cmpS (op : COp) (x y : Val) (S : Sto) (Q : Bool → Prop) : Prop :=
  match op, x, y with
  | .eq, x, y => eqS S x y Q
  | .ne, x, y => eqS S x y (fun b => Q (!b))
  | .lt, .int i, .int j => Q (decide (i < j))
  | .le, .int i, .int j => Q (decide (i ≤ j))
  | .gt, .int i, .int j => Q (decide (j < i))
  | .ge, .int i, .int j => Q (decide (j ≤ i))
  | .is_, x, .non => Q x.isNon
  | .nis, x, .non => Q (!x.isNon)
  | .is_, .bl a, .bl b => Q (a == b)
  | .nis, .bl a, .bl b => Q (!(a == b))
  | .le, .str a, .str b => Q (!decide (b.cps.toList < a.cps.toList))
  | .in_, x, y => inS x y S Q
  | .nin, x, y => inS x y S fun b => Q (!b)
  | _, _, _ => False
def big : Nat := 1000000
def binS (op : BOp) (x y : Val) (S : Sto) (Q : VQ) : Prop :=
  match op, x, y with
  | .add, .int i, .int j => Q (.int (i + j)) S
  | .sub, .int i, .int j => Q (.int (i - j)) S
  | .mul, .int i, .int j => CMul i j ∧ Q (.int (i * j)) S
  | .fdiv, .int i, .int j => (0 < j ∧ j < 2 ^ 80) ∧ Q (.int (i / j)) S
  | .mod, .int i, .int j => 0 < j ∧ Q (.int (i % j)) S
  | .pow, .int i, .int j => (0 ≤ j ∧ j ≤ 1000000 ∧ i.natAbs < 2 ^ 64) ∧ Q (.int (i ^ j.toNat)) S
  | .add, .str a, .str b => a.length + b.length ≤ big ∧ Q (.str (a ++ b)) S
  | .add, .tup a, .tup b => a.length + b.length ≤ big ∧ Q (.tup (a ++ b)) S
  | .mul, .tup a, .int k => (a ≠ [] ∧ 1 ≤ k ∧ k ≤ 1000 ∧ a.length ≤ 1000) ∧ Q (.tup (List.replicate k.toNat a).flatten) S
  | .mul, .str a, .int k => (2 ≤ k ∧ k ≤ 1000 ∧ 1 ≤ a.length ∧ a.length ≤ 1000) ∧ Q (.str (repS a k.toNat)) S
  | .add, .loc a, .loc b => match mlAt S a, mlAt S b with
    | some xs, some ys => xs.length + ys.length ≤ big ∧ Q (.loc S.length) (S ++ [.lst (xs ++ ys)])
    | _, _ => False
  | _, _, _ => False
def atV (xs : List Val) (i : Int) : Option Val := (ixN xs.length i).bind fun j => xs[j]?
def ixD (x y : Val) (S : Sto) : Option Val := match x with
  | .loc n => match dkAt S n, keyOf y with
    | some kvs, some k => getK kvs k
    | _, _ => none
  | _ => none
def ixS (x y : Val) (S : Sto) (Q : VQ) : Prop :=
  match ixD x y S with
  | some v => Q v S
  | none => match y with
  | .int i => match x with
    | .str z => z.length ≤ big ∧ match L2.atI z.cps.toList i with
      | some c => Q (.str ⟨#[c]⟩) S
      | none => False
    | x => match itemsOf S x with
      | some xs => match atV xs i with
        | some v => Q v S
        | none => False
      | none => False
  | _ => False
def cutL (xs : List Val) (lo hi : Option Int) : List Val := (xs.drop (HT.sIx xs.length 0 lo)).take (HT.sIx xs.length xs.length hi - HT.sIx xs.length 0 lo)
def partS : List Val → Option (Option Int)
  | [] => some none
  | [.int i] => some (some i)
  | _ => none
def slS (x : Val) (l h : Option Int) (S : Sto) (Q : VQ) : Prop :=
  match x with
  | .tup xs => Q (.tup (cutL xs l h)) S
  | .str z => z.length ≤ big ∧ Q (.str (cutS z l h)) S
  | .loc n => match lstAt S n with
    | some xs => Q (.loc S.length) (S ++ [.lst (cutL xs l h)])
    | none => False
  | _ => False
def part (xs : List Val) (K : Option Int → Prop) : Prop := match partS xs with
  | some l => K l
  | none => False
def tyS (S : Sto) : Val → Option Ty
  | .bl _ => some .bool
  | .int _ => some .int
  | .str _ => some .str
  | .tup _ => some .tuple
  | .loc n => match lstAt S n with
    | some _ => some .list
    | none => none
  | .non => none
  | .cst _ _ => none
def Ty.py : Ty → String
  | .int => "int" | .bool => "bool" | .str => "str" | .tuple => "tuple" | .list => "list"
def tyN : Option Ty → String
  | some T => T.py
  | none => "NoneType"
def Bi.fv : Bi → Value
  | .len => .builtin "len" | .int => .type "int" | .abs => .builtin "abs" | .min2 => .builtin "min" | .max2 => .builtin "max" | .str => .type "str"
  | .tuple => .type "tuple" | .list => .type "list" | .all => .builtin "all" | .any => .builtin "any" | .ord => .builtin "ord" | .dict => .type "dict" | .max1 => .builtin "max"
def Bi.nm : Bi → Str
  | .len => "len" | .int => "int" | .abs => "abs" | .min2 => "min" | .max2 => "max" | .str => "str"
  | .tuple => "tuple" | .list => "list" | .all => "all" | .any => "any" | .ord => "ord" | .dict => "dict" | .max1 => "max"
def istS (S : Sto) (x : Val) (T : Ty) : Bool := match T with
  | .int => tyS S x == some .int || tyS S x == some .bool
  | T => tyS S x == some T
def tyB (k : Bool) (S : Sto) (x : Val) (T : Ty) : Bool := match k with
  | true => tyS S x == some T
  | false => !(tyS S x == some T)
/-- the value's class is known -/
def known (S : Sto) : Val → Bool
  | .loc n => (lstAt S n).isSome
  | .cst _ _ => false
  | _ => true
def tru (S : Sto) (x : Val) (Q : Bool → Prop) : Prop := match x with
  | .non => Q false
  | .bl b => Q b
  | .int i => Q (i != 0)
  | .str y => y.length ≤ big ∧ Q ((y.length : Int) != 0)
  | .tup xs => Q (!xs.isEmpty)
  | .loc n => match lstAt S n with
    | some xs => Q (!xs.isEmpty)
    | none => False
  | .cst _ _ => False
def blS : List Val → Option (List Bool)
  | [] => some []
  | .bl b :: r => (blS r).map (b :: ·)
  | _ => none
def pV (p : Int × Int) : Val := .tup [.int p.1, .int p.2]
def prS : List Val → Option (List (Int × Int))
  | [] => some []
  | .tup [.int a, .int b] :: r => (prS r).map ((a, b) :: ·)
  | _ => none
def biS (f : Bi) (xs : List Val) (S : Sto) (Q : VQ) : Prop :=
  match f, xs with
  | .len, [x] => match x with
    | .str y => y.length ≤ big ∧ Q (.int y.length) S
    | x => match itemsOf S x with
      | some xs => Q (.int xs.length) S
      | none => False
  | .int, [.int i] => Q (.int i) S
  | .int, [.bl k] => Q (.int (if k then 1 else 0)) S
  | .int, [.str x] => match PySem.intText? x with
    | some n => x.length ≤ 640 ∧ Q (.int n) S
    | none => False
  | .abs, [.int i] => Q (.int (if i < 0 then -i else i)) S
  | .min2, [.int i, .int j] => Q (.int (if j < i then j else i)) S
  | .max2, [.int i, .int j] => Q (.int (if j > i then j else i)) S
  | .str, [.int i] => i.natAbs.log2 < 1920 ∧ Q (.str (toString i)) S
  | .str, [.str x] => Q (.str x) S
  | .tuple, [.tup xs] => Q (.tup xs) S
  | .tuple, [.loc n] => match lstAt S n with
    | some xs => Q (.tup xs) S
    | none => False
  | .list, [x] => match itemsOf S x with
    | some xs => Q (.loc S.length) (S ++ [.lst xs])
    | none => False
  | .all, [.loc n] => match (lstAt S n).bind blS with
    | some bs => Q (.bl (bs.all id)) S
    | none => False
  | .any, [.loc n] => match (lstAt S n).bind blS with
    | some bs => Q (.bl (bs.any id)) S
    | none => False
  | .ord, [.str x] => x.length = 1 ∧ Q (.int (x.cps.getD 0 0 : Nat)) S
  | .max2, [.tup [.int a, .int b], .tup [.int c, .int d]] => Q (pV (if pltB (a, b) (c, d) = true then (c, d) else (a, b))) S
  | .max1, [.loc n] => match (lstAt S n).bind prS with
    | some (p :: ps) => Q (pV (pmax p ps)) S
    | _ => False
  | .dict, [.loc n] => match dkAt S n with
    | some kvs => Q (.loc S.length) (S ++ [.dK kvs])
    | none => False
  | _, _ => False
/-- the receiver is of the method's type -/
def mtT (cst : Nat → Option (Str × List (Str × Val))) (m : Mt) (S : Sto) (x : Val) : Prop := match m, x with
  | .append, .loc n => (lstAt S n).isSome = true
  | .extend, .loc n => (lstAt S n).isSome = true
  | .pop, .loc n => (lstAt S n).isSome = true
  | .pop1, .loc n => (lstAt S n).isSome = true
  | .reverse, .loc n => (lstAt S n).isSome = true
  | .get1, .cst n y => ∃ kvs, cst n = some (y, kvs)
  | .get1, .loc n => (dkAt S n).isSome = true
  | .get2, .loc n => (dkAt S n).isSome = true
  | .setd, .loc n => (dkAt S n).isSome = true
  | .join, .str _ => True
  | .starts, .str _ => True
  | .split, .str _ => True
  | .rstrp, .str _ => True
  | .rmpre, .str _ => True
  | .isasc, .str _ => True
  | .isdig, .str _ => True
  | _, _ => False
def strS : List Val → Option (List Str)
  | [] => some []
  | .str z :: r => (strS r).map (z :: ·)
  | _ => none
/-- a method of a built-in type -/
def mtS (cst : Nat → Option (Str × List (Str × Val))) (m : Mt) (x : Val) (es : List Val) (S : Sto) (Q : VQ) : Prop :=
  match m, x, es with
  | .append, .loc n, [v] => match mlAt S n with
    | some xs => xs.length < big ∧ Q .non (S.set n (.lst (xs ++ [v])))
    | none => False
  | .extend, .loc n, [.loc k] => match mlAt S n, mlAt S k with
    | some xs, some ys => xs.length + ys.length ≤ big ∧ Q .non (S.set n (.lst (xs ++ ys)))
    | _, _ => False
  | .pop, .loc n, [] => match mlAt S n with
    | some xs => match xs[xs.length - 1]? with
      | some v => Q v (S.set n (.lst xs.dropLast))
      | none => False
    | none => False
  | .pop1, .loc n, [.int i] => match mlAt S n with
    | some xs => (0 ≤ i ∧ i < xs.length ∧ xs.length ≤ big) ∧ match xs[i.toNat]? with
      | some v => Q v (S.set n (.lst (xs.eraseIdx i.toNat)))
      | none => False
    | none => False
  | .reverse, .loc n, [] => match mlAt S n with
    | some xs => Q .non (S.set n (.lst xs.reverse))
    | none => False
  | .get1, .loc n, [k] => match dkAt S n, keyOf k with
    | some kvs, some k => Q ((getK kvs k).getD .non) S
    | _, _ => False
  | .get2, .loc n, [k, d] => match dkAt S n, keyOf k with
    | some kvs, some k => Q ((getK kvs k).getD d) S
    | _, _ => False
  | .setd, .loc n, [k, d] => match dkAt S n, keyOf k with
    | some kvs, some k => kvs.length < big ∧ match getK kvs k with
      | some v => Q v S
      | none => Q d (S.set n (.dK (setK kvs k d)))
    | _, _ => False
  | .join, .str a, [.loc n] => match (lstAt S n).bind strS with
    | some ys => (ys.map (·.length)).sum + ys.length * a.length ≤ big ∧ Q (.str (Txt.join a ys)) S
    | none => False
  | .starts, .str a, [.str b] => Q (.bl (Txt.startswith a b)) S
  | .split, .str a, [.str b] => ((b.length == 0) = false ∧ a.length + 2 ≤ big) ∧ Q (.loc S.length) (S ++ [.lst ((Txt.split a b).map Val.str)])
  | .rstrp, .str a, [.str b] => a.length ≤ big ∧ Q (.str (Txt.rstripChars a b)) S
  | .rmpre, .str a, [.str b] => a.length ≤ big ∧ Q (.str (Txt.removeprefix a b)) S
  | .isasc, .str a, [] => Q (.bl (Txt.isascii a)) S
  | .isdig, .str a, [] => Q (.bl (Txt.isdigit a)) S
  | .get1, .cst n y, [.str z] => match cst n with
    | some (x, kvs) => x = y ∧ Q ((kvs.lookup z).getD .non) S
    | none => False
  | .get1, .cst n y, [.non] => match cst n with
    | some (x, _) => x = y ∧ Q .non S
    | none => False
  | _, _, _ => False
/-- what is walked: its items, and what must stand while it is walked -/
def itS (k : ItK) (xs : List Val) (S : Sto) : Option (List Val × List (Nat × List Val)) :=
  match k, xs with
  | .seq, [.tup ys] => some (ys, [])
  | .seq, [.str z] => some (z.cps.toList.map fun c => Val.str ⟨#[c]⟩, [])
  | .seq, [.loc n] => (lstAt S n).map fun ys => (ys, [(n, ys)])
  | .range, [.int j] => if -(2 ^ 62) ≤ j ∧ j < 2 ^ 62 then some ((List.range j.toNat).map fun (i : Nat) => Val.int (i : Int), []) else none
  | .range2, [.int a, .int j] => if (-(2 ^ 62) ≤ a ∧ a < 2 ^ 62) ∧ -(2 ^ 62) ≤ j ∧ j < 2 ^ 62 then some ((List.range (j - a).toNat).map fun (i : Nat) => Val.int (a + (i : Int)), []) else none
  | .zip, [.tup xs, .tup ys] => some ((xs.zip ys).map fun p => .tup [p.1, p.2], [])
  | .zip, [.loc n, .loc k] => match lstAt S n, lstAt S k with
    | some xs, some ys => some ((xs.zip ys).map fun p => .tup [p.1, p.2], [(n, xs), (k, ys)])
    | _, _ => none
  | .enum, [.tup ys] => some (ys.zipIdx.map fun p => .tup [.int (p.2 : Nat), p.1], [])
  | .enum, [.loc n] => (lstAt S n).map fun ys => (ys.zipIdx.map fun p => .tup [.int (p.2 : Nat), p.1], [(n, ys)])
  | .rev, [.loc n] => (lstAt S n).map fun ys => (ys.reverse, [(n, ys)])
  | .enums, [.loc n, .int k] => if -(2 ^ 62) ≤ k ∧ k < 2 ^ 62 then (lstAt S n).map fun ys => (ys.zipIdx.map fun p => .tup [.int (k + (p.2 : Nat)), p.1], [(n, ys)]) else none
  | _, _ => none
def gdS : List (Nat × List Val) → Sto → Prop
  | [], _ => True
  | p :: g, S => lstAt S p.1 = some p.2 ∧ gdS g S
def setAll : LE → List Nat → List Val → LE
  | ρ, i :: is, x :: xs => setAll (ρ.set i (some x)) is xs
  | ρ, _, _ => ρ
def Tg.slots : Tg → List Nat
  | .nm i => [i]
  | .tp is => is
def bindT (tg : Tg) (x : Val) (ρ : LE) (Q : LE → Prop) : Prop := match tg, x with
  | .nm i, x => Q (ρ.set i (some x))
  | .tp is, .tup xs => is.length = xs.length ∧ Q (setAll ρ is xs)
  | _, _ => False
def wipeL (ρ : LE) : List Nat → LE
  | [] => ρ
  | v :: vs => (wipeL ρ vs).set v none
/-- an instance: its class, its fields -/
def insAt (S : Sto) (n : Nat) : Option (Nat × List (Nat × Val)) := match S[n]? with
  | some (.ins c fs) => some (c, fs)
  | _ => none
def fldS (fok : Nat → Nat → Bool) (x : Val) (a : Nat) (S : Sto) (Q : VQ) : Prop := match x with
  | .loc n => match insAt S n with
    | some (c, fs) => fok c a = true ∧ match fs.lookup a with
      | some v => Q v S
      | none => False
    | none => False
  | _ => False
def putA (a : Nat) (v : Val) : List (Nat × Val) → List (Nat × Val)
  | [] => [(a, v)]
  | (b, x) :: r => if b = a then (b, v) :: r else (b, x) :: putA a v r
def fsetS (fok : Nat → Nat → Bool) (x : Val) (a : Nat) (v : Val) (S : Sto) (Q : Sto → Prop) : Prop := match x with
  | .loc n => match insAt S n with
    | some (c, fs) => fok c a = true ∧ fs.length < 100 ∧ Q (S.set n (.ins c (putA a v fs)))
    | none => False
  | _ => False
def clsAt (S : Sto) (x : Val) : Option Nat := match x with
  | .loc n => (insAt S n).map (·.1)
  | _ => none
/-- the method that a call of an instance's attribute finds -/
def mthS (mth : Nat → Nat → Option Nat) (x : Val) (a : Nat) (S : Sto) : Option Nat := match x with
  | .loc n => match insAt S n with
    | some (c, fs) => if (fs.lookup a).isNone then mth c a else none
    | none => none
  | _ => none
/-- a comprehension's turns -/
def lcS (g : List (Nat × List Val)) (l : Nat) (step : Val → Sto → (Option Val → Sto → Prop) → Prop) (Q : VQ) : List Val → List Val → Sto → Prop
  | [], acc, S => gdS g S ∧ Q (.loc l) S
  | x :: r, acc, S => gdS g S ∧ step x S fun o S' => match o with
    | none => S'[l]? = some (.lst acc) ∧ lcS g l step Q r acc S'
    | some y => S'[l]? = some (.lst acc) ∧ acc.length < big ∧ lcS g l step Q r (acc ++ [y]) (S'.set l (.lst (acc ++ [y])))

/-- the turns of a clause behind another one -/
def lcI (g : List (Nat × List Val)) (l : Nat) (step : Val → Sto → (Option Val → Sto → Prop) → Prop) (Q : List Val → Sto → Prop) : List Val → List Val → Sto → Prop
  | [], acc, S => gdS g S ∧ Q acc S
  | x :: r, acc, S => gdS g S ∧ step x S fun o S' => match o with
    | none => lcI g l step Q r acc S'
    | some y => S'[l]? = some (.lst acc) ∧ acc.length < big ∧ lcI g l step Q r (acc ++ [y]) (S'.set l (.lst (acc ++ [y])))
/-- the turns of the clause ahead -/
def lcO (g : List (Nat × List Val)) (l : Nat) (inner : Val → List Val → Sto → (List Val → Sto → Prop) → Prop) (Q : VQ) : List Val → List Val → Sto → Prop
  | [], _, S => gdS g S ∧ Q (.loc l) S
  | x :: r, acc, S => gdS g S ∧ inner x acc S fun acc' S' => lcO g l inner Q r acc' S'
/-- a dict comprehension's turns -/
def dcS (g : List (Nat × List Val)) (l : Nat) (step : Val → Sto → (Val → Val → Sto → Prop) → Prop) (Q : VQ) : List Val → List (Key × Val) → Sto → Prop
  | [], _, S => gdS g S ∧ Q (.loc l) S
  | x :: r, acc, S => gdS g S ∧ step x S fun k v S' => match keyOf k with
    | none => False
    | some k => S'[l]? = some (.dK acc) ∧ acc.length < big ∧ dcS g l step Q r (setK acc k v) (S'.set l (.dK (setK acc k v)))

/-- an item of a constant dict -/
def cixS (cst : Nat → Option (Str × List (Str × Val))) (x y : Val) (Q : Val → Prop) : Prop := match x, y with
  | .cst n z, .str k => match cst n with
    | some (u, kvs) => u = z ∧ match kvs.lookup k with
      | some v => Q v
      | none => False
    | none => False
  | _, _ => False
/-! ### what an expression, a test asks -/
mutual
def wpE (C : Cenv) : ME → LE → Sto → VQ → XQ → Prop
  | .var i, ρ, S, Q, _ => match ρ[i]? with
    | some (some x) => Q x S
    | _ => False
  | .lit v, _, S, Q, _ => Q v S
  | .glo x, _, S, Q, _ => Q (C.glo x) S
  | .neg a, ρ, S, Q, E => wpE C a ρ S (fun x S1 => match x with
    | .int i => Q (.int (-i)) S1
    | _ => False) E
  | .not a, ρ, S, Q, E => wpE C a ρ S (fun x S1 => tru S1 x fun b => Q (.bl (!b)) S1) E
  | .bool k es, ρ, S, Q, E => wpB C k es ρ S Q E
  | .bin op a b, ρ, S, Q, E => wpE C a ρ S (fun x S1 => wpE C b ρ S1 (fun y S2 => binS op x y S2 Q) E) E
  | .cmp op a b, ρ, S, Q, E => wpE C a ρ S (fun x S1 => wpE C b ρ S1 (fun y S2 => cmpS op x y S2 fun k => Q (.bl k) S2) E) E
  | .chain o1 o2 a b c, ρ, S, Q, E => wpE C a ρ S (fun x S1 => wpE C b ρ S1 (fun y S2 => cmpS o1 x y S2 fun k =>
      if k = true then wpE C c ρ S2 (fun z S3 => cmpS o2 y z S3 fun k => Q (.bl k) S3) E else Q (.bl false) S2) E) E
  | .ifx t a b, ρ, S, Q, E => wpE C t ρ S (fun x S1 => tru S1 x fun k => if k = true then wpE C a ρ S1 Q E else wpE C b ρ S1 Q E) E
  | .tup es, ρ, S, Q, E => wpEs C es ρ S (fun xs S1 => Q (.tup xs) S1) E
  | .lst es, ρ, S, Q, E => wpEs C es ρ S (fun xs S1 => Q (.loc S1.length) (S1 ++ [.lst xs])) E
  | .ix a i, ρ, S, Q, E => wpE C a ρ S (fun x S1 => wpE C i ρ S1 (fun y S2 => ixS x y S2 Q) E) E
  | .sl a lo hi, ρ, S, Q, E => wpE C a ρ S (fun x S1 => wpEs C lo ρ S1 (fun l S2 => part l fun l => wpEs C hi ρ S2 (fun h S3 => part h fun h => slS x l h S3 Q) E) E) E
  | .ist a T, ρ, S, Q, E => wpE C a ρ S (fun x S1 => known S1 x = true ∧ Q (.bl (istS S1 x T)) S1) E
  | .tyc k a T, ρ, S, Q, E => wpE C a ρ S (fun x S1 => known S1 x = true ∧ Q (.bl (tyB k S1 x T)) S1) E
  | .bi f es, ρ, S, Q, E => wpEs C es ρ S (fun xs S1 => biS f xs S1 Q) E
  | .mt m o es, ρ, S, Q, E => wpE C o ρ S (fun x S1 => mtT C.cst m S1 x ∧ wpEs C es ρ S1 (fun xs S2 => mtS C.cst m x xs S2 Q) E) E
  | .call f es, ρ, S, Q, E => wpEs C es ρ S (fun xs S1 => C.call f xs S1 Q E) E
  | .lc k its own tg ifs elt, ρ, S, Q, E => wpEs C its ρ S (fun xs S1 => match itS k xs S1 with
    | none => False
    | some (ys, g) => lcS g S1.length (fun x S2 K => bindT tg x (wipeL ρ own) fun ρ2 => wpA C ifs ρ2 S2 (fun b S3 =>
        if b = true then wpE C elt ρ2 S3 (fun y S4 => K (some y) S4) (fun _ _ _ => False) else K none S3) (fun _ _ _ => False)) Q ys [] (S1 ++ [.lst []])) E
  | .fld o a, ρ, S, Q, E => wpE C o ρ S (fun x S1 => fldS C.fok x a S1 Q) E
  | .xat o k, ρ, S, Q, E => wpE C o ρ S (fun x S1 => match C.cur with
    | some (n, vs) => x = .loc n ∧ match vs[k]? with
      | some v => Q v S1
      | none => False
    | none => False) E
  | .meth o a es, ρ, S, Q, E => wpE C o ρ S (fun x S1 => match mthS C.mth x a S1 with
    | some f => wpEs C es ρ S1 (fun xs S2 => C.call f (x :: xs) S2 Q E) E
    | none => False) E
  | .make c es, ρ, S, Q, E => wpEs C es ρ S (fun xs S1 => C.call (C.ini c) (.loc S1.length :: xs) (S1 ++ [.ins c []]) (fun v S2 => v = .non ∧ Q (.loc S1.length) S2) E) E
  | .dsp ks es, ρ, S, Q, E => wpEs C es ρ (S ++ [.dK []]) (fun xs S1 => ks.length = xs.length ∧ S1[S.length]? = some (.dK []) ∧ Q (.loc S.length) (S1.set S.length (.dK ((ks.zip xs).foldl (fun a p => setK a p.1 p.2) [])))) E
  | .dc k its own tg ke ve, ρ, S, Q, E => wpEs C its ρ S (fun xs S1 => match itS k xs S1 with
    | none => False
    | some (ys, g) => dcS g S1.length (fun x S2 K => bindT tg x (wipeL ρ own) fun ρ2 => wpE C ke ρ2 S2 (fun y S3 => wpE C ve ρ2 S3 (fun z S4 => K y z S4) (fun _ _ _ => False)) (fun _ _ _ => False)) Q ys [] (S1 ++ [.dK []])) E
  | .bad, _, _, _, _ => False
  | .ixc a i, ρ, S, Q, E => wpE C a ρ S (fun x S1 => wpE C i ρ S1 (fun y S2 => cixS C.cst x y fun v => Q v S2) E) E
  | .lc2 k its own tg ifs k1 its1 tg1 ifs1 elt, ρ, S, Q, E => wpEs C its ρ S (fun xs S1 => match itS k xs S1 with
    | none => False
    | some (ys, g) => lcO g S1.length (fun x acc S2 K => bindT tg x (wipeL ρ own) fun ρ2 => wpA C ifs ρ2 S2 (fun b S3 =>
        if b = true then wpEs C its1 ρ2 S3 (fun xs1 S4 => match itS k1 xs1 S4 with
          | none => False
          | some (ys1, g1) => lcI g1 S1.length (fun x S5 K1 => bindT tg1 x (wipeL ρ2 tg1.slots) fun ρ3 => wpA C ifs1 ρ3 S5 (fun b S6 =>
              if b = true then wpE C elt ρ3 S6 (fun y S7 => K1 (some y) S7) (fun _ _ _ => False) else K1 none S6) (fun _ _ _ => False)) K ys1 acc S4) (fun _ _ _ => False)
        else K acc S3) (fun _ _ _ => False)) Q ys [] (S1 ++ [.lst []])) E
  | .rvs a, ρ, S, Q, E => wpE C a ρ S (fun x S1 => match x with
    | .loc n => match lstAt S1 n with
      | some xs => Q (.loc S1.length) (S1 ++ [.lst xs.reverse])
      | none => False
    | _ => False) E
def wpEs (C : Cenv) : List ME → LE → Sto → (List Val → Sto → Prop) → XQ → Prop
  | [], _, S, Q, _ => Q [] S
  | e :: es, ρ, S, Q, E => wpE C e ρ S (fun x S1 => wpEs C es ρ S1 (fun xs S2 => Q (x :: xs) S2) E) E
/-- and, or as values: all but the last are truth values -/
def wpB (C : Cenv) (k : Bool) : List ME → LE → Sto → VQ → XQ → Prop
  | [], _, _, _, _ => False
  | e :: es, ρ, S, Q, E => match es with
    | [] => wpE C e ρ S Q E
    | _ :: _ => wpE C e ρ S (fun x S1 => tru S1 x fun b => if b = k then wpB C k es ρ S1 Q E else Q x S1) E
/-- a clause's tests: none or one -/
def wpA (C : Cenv) : List ME → LE → Sto → (Bool → Sto → Prop) → XQ → Prop
  | [], _, S, Q, _ => Q true S
  | e :: es, ρ, S, Q, E => match es with
    | [] => wpE C e ρ S (fun x S1 => tru S1 x fun b => Q b S1) E
    | _ :: _ => False
end
/-- a test -/
def wpT (C : Cenv) (m : ME) (ρ : LE) (S : Sto) (Q : Bool → Sto → Prop) (E : XQ) : Prop := wpE C m ρ S (fun x S1 => tru S1 x fun b => Q b S1) E

/-! ### statements -/
structure ED where
  nx : LE → Sto → Prop
  rt : VQ
  bk : LE → Sto → Prop
  ct : LE → Sto → Prop
  xn : Nat → List Val → LE → Sto → Prop
def subS (o i v : Val) (S : Sto) (Q : Sto → Prop) : Prop := match o, i with
  | .loc n, .int k => match S[n]? with
    | some (.lst xs) => match ixN xs.length k with
      | some j => Q (S.set n (.lst (xs.set j v)))
      | none => False
    | some (.dK kvs) => kvs.length < big ∧ Q (S.set n (.dK (setK kvs (.inl k) v)))
    | _ => False
  | .loc n, .str k => match dkAt S n with
    | some kvs => kvs.length < big ∧ Q (S.set n (.dK (setK kvs (.inr k) v)))
    | none => False
  | _, _ => False
def forS (g : List (Nat × List Val)) (tg : Tg) (body : ED → LE → Sto → Prop) (D : ED) : List Val → LE → Sto → Prop
  | [], ρ, S => gdS g S ∧ D.nx ρ S
  | x :: r, ρ, S => gdS g S ∧ bindT tg x ρ fun ρ2 => body { D with nx := forS g tg body D r, ct := forS g tg body D r, bk := D.nx } ρ2 S
def whlS (test : LE → Sto → (Bool → Sto → Prop) → Prop) (body : ED → LE → Sto → Prop) (D : ED) : Nat → LE → Sto → Prop
  | 0, _, _ => False
  | n + 1, ρ, S => test ρ S fun b S1 => if b = true then body { D with nx := whlS test body D n, ct := whlS test body D n, bk := D.nx } ρ S1 else D.nx ρ S1
/-- an except clause's slot, the exception at its place in the store -/
def inSlot (i : Option Nat) (n : Nat) (ρ : LE) : LE := match i with
  | some i => ρ.set i (some (.loc n))
  | none => ρ
def unSlot (i : Option Nat) (ρ : LE) : LE := match i with
  | some i => ρ.set i none
  | none => ρ
/-- the ends of an except suite -/
def trxV : Option Str → Val
  | none => .bl true
  | some z => .tup [.str z, .bl true]
def suiD (i : Option Nat) (D : ED) : ED := ⟨fun ρ S => D.nx (unSlot i ρ) S, D.rt, fun ρ S => D.bk (unSlot i ρ) S, fun ρ S => D.ct (unSlot i ρ) S, fun _ _ _ _ => False⟩
mutual
def wpS : Cenv → MS → ED → LE → Sto → Prop
  | C, .asg tg e, D, ρ, S => wpE C e ρ S (fun x S1 => bindT tg x ρ fun ρ2 => D.nx ρ2 S1) (fun c vs => D.xn c vs ρ)
  | C, .sub o i e, D, ρ, S => wpE C e ρ S (fun v S1 => wpE C o ρ S1 (fun x S2 => wpE C i ρ S2 (fun y S3 => subS x y v S3 fun S4 => D.nx ρ S4) (fun c vs => D.xn c vs ρ)) (fun c vs => D.xn c vs ρ)) (fun c vs => D.xn c vs ρ)
  | C, .ex e, D, ρ, S => wpE C e ρ S (fun _ S1 => D.nx ρ S1) (fun c vs => D.xn c vs ρ)
  | C, .ret e, D, ρ, S => wpE C e ρ S D.rt (fun c vs => D.xn c vs ρ)
  | C, .retN, D, _, S => D.rt .non S
  | C, .ite c a b, D, ρ, S => wpT C c ρ S (fun k S1 => if k = true then wpSs C a D ρ S1 else wpSs C b D ρ S1) (fun c vs => D.xn c vs ρ)
  | C, .whl c b, D, ρ, S => ∃ n, whlS (fun ρ S Q => wpT C c ρ S Q (fun c vs => D.xn c vs ρ)) (fun D => wpSs C b D) D n ρ S
  | C, .fr tg k its b, D, ρ, S => wpEs C its ρ S (fun xs S1 => match itS k xs S1 with
    | none => False
    | some (ys, g) => forS g tg (fun D => wpSs C b D) D ys ρ S1) (fun c vs => D.xn c vs ρ)
  | C, .brk, D, ρ, S => D.bk ρ S
  | C, .cnt, D, ρ, S => D.ct ρ S
  | C, .pass, D, ρ, S => D.nx ρ S
  | C, .fset o a e, D, ρ, S => wpE C e ρ S (fun v S1 => wpE C o ρ S1 (fun x S2 => fsetS C.fok x a v S2 fun S3 => D.nx ρ S3) (fun c vs => D.xn c vs ρ)) (fun c vs => D.xn c vs ρ)
  | C, .faug op o a e, D, ρ, S => wpE C o ρ S (fun x S1 => fldS C.fok x a S1 fun v S2 => wpE C e ρ S2 (fun y S3 => (∃ i j, v = .int i ∧ y = .int j) ∧ (op = .add ∨ op = .sub) ∧ clsAt S3 x = clsAt S1 x ∧ binS op v y S3 fun z S4 => fsetS C.fok x a z S4 fun S5 => D.nx ρ S5) (fun c vs => D.xn c vs ρ)) (fun c vs => D.xn c vs ρ)
  | C, .rs c es, D, ρ, S => wpEs C es ρ S (fun vs S1 => vs.all Val.flat = true ∧ D.xn c vs ρ S1) (fun c vs => D.xn c vs ρ)
  | C, .tr b c i s, D, ρ, S => wpSs C b { D with xn := fun c' vs ρ' S' => match C.sub c' c with
      | some true => (i.isSome = true → c' = c) ∧ wpSs { C with cur := some (S'.length, vs) } s (suiD i D) (inSlot i S'.length ρ') (S' ++ [.xob])
      | some false => D.xn c' vs ρ' S'
      | none => False } ρ S
  | C, .trx b c i c2 pre, D, ρ, S => wpSs C b { D with xn := fun c' vs ρ' S' => match C.sub c' c with
      | some true => (c' = c2 ∧ vs = [] ∧ i < ρ'.length) ∧ D.rt (trxV pre) S'
      | some false => D.xn c' vs ρ' S'
      | none => False } ρ S
  | C, .tr2 b c1 s1 c2 s2, D, ρ, S => wpSs C b { D with xn := fun c' vs ρ' S' => match C.sub c' c1 with
      | some true => wpSs { C with cur := some (S'.length, vs) } s1 (suiD none D) ρ' (S' ++ [.xob])
      | some false => (match C.sub c' c2 with
        | some true => wpSs { C with cur := some (S'.length, vs) } s2 (suiD none D) ρ' (S' ++ [.xob])
        | some false => D.xn c' vs ρ' S'
        | none => False)
      | none => False } ρ S
  | _, .bad, _, _, _ => False
  | C, .par i j es, D, ρ, S => wpEs C es ρ S (fun xs S1 => match xs with
    | [x, y] => D.nx ((ρ.set i (some x)).set j (some y)) S1
    | _ => False) (fun c vs => D.xn c vs ρ)
  | C, .enr i its own tg elt, D, ρ, S => i < ρ.length ∧ wpEs C its ρ S (fun xs S1 => match itS .enums xs S1 with
    | none => False
    | some (ys, g) => lcS g S1.length (fun x S2 K => bindT tg x (wipeL (ρ.set i none) own) fun ρ2 => wpA C [] ρ2 S2 (fun b S3 =>
        if b = true then wpE C elt ρ2 S3 (fun y S4 => K (some y) S4) (fun _ _ _ => False) else K none S3) (fun _ _ _ => False)) D.rt ys [] (S1 ++ [.lst []])) (fun c vs => D.xn c vs ρ)
def wpSs : Cenv → List MS → ED → LE → Sto → Prop
  | C, [], D, ρ, S => D.nx ρ S
  | C, s :: r, D, ρ, S => wpS C s { D with nx := fun ρ' S' => wpSs C r D ρ' S' } ρ S
end
end PM

namespace PM
open PySem PySem.Spec PyProof.Rows L2

theorem bigle {n : Nat} (h : n ≤ big) : n ≤ sizeLine := Nat.le_trans h (by decide)
theorem biglt {n : Nat} (h : n < big) : n < sizeLine := Nat.lt_of_lt_of_le h (by decide)

/-! ### readings -/
def Post (L : Lk) (ι : List Addr) (H : Hp) (Q' : VQ) (Q : VK) : Prop :=
  ∀ ι' H' x v S', Grow L.K ι H ι' H' → Rel L ι' S' H' → Rv L.K ι' H' x v → Q' x S' → Q v H'
def PostT (L : Lk) (ι : List Addr) (H : Hp) (Q' : Bool → Sto → Prop) (Q : Bool → Hp → Prop) : Prop :=
  ∀ ι' H' b S', Grow L.K ι H ι' H' → Rel L ι' S' H' → Q' b S' → Q b H'
def PostA (L : Lk) (ι : List Addr) (H : Hp) (n : Nat) (Q' : List Val → Sto → Prop) (Q : List V → Hp → Prop) : Prop :=
  ∀ ι' H' xs vs S', Grow L.K ι H ι' H' → Rel L ι' S' H' → Rvs L.K ι' H' xs vs → xs.length = n → Q' xs S' → Q vs H'
/-- an exception's fields, by its class and its dict -/
def XdOk (L : Lk) (H : Hp) (c : Nat) (vs : List Val) (d : Option Addr) : Prop :=
  L.xok c = true ∧ (L.xf c).length = vs.length ∧ vs.all Val.flat = true ∧ (vs = [] ∧ d = none ∨ vs ≠ [] ∧ ∃ dd fs, d = some dd ∧ H dd = some (.xd fs) ∧ ∀ (k : Nat) (n : Str) (x : Val), (L.xf c)[k]? = some n → vs[k]? = some x → ∃ v, fs.lookup n = some v ∧ ∀ ι H, Rv L.K ι H x v)
def WXe (L : Lk) (ι : List Addr) (H : Hp) (σ : L2.St) (E : XQ) : WX := fun cls d σ' H' =>
  σ' = σ ∧ ∃ ι' S' c vs, Grow L.K ι H ι' H' ∧ Rel L ι' S' H' ∧ cls = L.xc c ∧ XdOk L H' c vs d ∧ E c vs S'
theorem WXe.grow {X : Cx} {L : Lk} {ι ι' : List Addr} {H H' : Hp} {σ : L2.St} {E : XQ} (g : Grow L.K ι H ι' H') (tk : Takes X (WXe L ι H σ E)) : Takes X (WXe L ι' H' σ E) :=
  tk.imp fun _ _ _ _ ⟨e, ι2, S2, c, vs, g2, r⟩ => ⟨e, ι2, S2, c, vs, g.trans g2, r⟩
section
variable (X : Cx) (L : Lk) (C : Cenv)
def tM (m : ME) : TE := fun σ H Q => ∃ ι ρ S Q' E, RelE L.K ι H ρ σ ∧ Rel L ι S H ∧ wpE C m ρ S Q' E ∧ Takes X (WXe L ι H σ E) ∧ Post L ι H Q' Q
def tMs (es : List ME) : TA := fun σ H Q => ∃ ι ρ S Q' E, RelE L.K ι H ρ σ ∧ Rel L ι S H ∧ wpEs C es ρ S Q' E ∧ Takes X (WXe L ι H σ E) ∧ PostA L ι H es.length Q' Q
def tMT (m : ME) : TT := fun σ H Q => ∃ ι ρ S Q' E, RelE L.K ι H ρ σ ∧ Rel L ι S H ∧ wpE C m ρ S Q' E ∧ Takes X (WXe L ι H σ E) ∧
  ∀ ι' H' x v S', Grow L.K ι H ι' H' → Rel L ι' S' H' → Rv L.K ι' H' x v → Q' x S' → tru S' x fun b => Q b H'
def tMB (k : Bool) (es : List ME) : TE := fun σ H Q => ∃ ι ρ S Q' E, RelE L.K ι H ρ σ ∧ Rel L ι S H ∧ wpB C k es ρ S Q' E ∧ Takes X (WXe L ι H σ E) ∧ Post L ι H Q' Q
def tMTB (k : Bool) (es : List ME) : TT := fun σ H Q => ∃ ι ρ S Q' E, RelE L.K ι H ρ σ ∧ Rel L ι S H ∧ wpB C k es ρ S Q' E ∧ Takes X (WXe L ι H σ E) ∧
  ∀ ι' H' x v S', Grow L.K ι H ι' H' → Rel L ι' S' H' → Rv L.K ι' H' x v → Q' x S' → tru S' x fun b => Q b H'
def tMA (es : List ME) : TT := fun σ H Q => ∃ ι ρ S Q' E, RelE L.K ι H ρ σ ∧ Rel L ι S H ∧ wpA C es ρ S Q' E ∧ Takes X (WXe L ι H σ E) ∧ PostT L ι H Q' Q
end
theorem peImp {X : Cx} {e : Expr} {t t' : TE} (h : PE X e t) (i : ∀ σ H Q, t' σ H Q → t σ H Q) : PE X e t' := ⟨fun pins s σ H Q I q => h.run pins s σ H Q I (i σ H Q q)⟩
theorem ptImp {X : Cx} {e : Expr} {t t' : TT} (h : PT X e t) (i : ∀ σ H Q, t' σ H Q → t σ H Q) : PT X e t' := ⟨fun pins s σ H Q I q => h.run pins s σ H Q I (i σ H Q q)⟩
theorem paImp {X : Cx} {e : List Expr} {t t' : TA} (h : PA X e t) (i : ∀ σ H Q, t' σ H Q → t σ H Q) : PA X e t' := ⟨fun pos pins s σ H Q I q => h.run pos pins s σ H Q I (i σ H Q q)⟩
theorem pssImp {X : Cx} {e : List Stmt} {t t' : TS} (h : PSs X e t) (i : ∀ (D : Ends) (σ : L2.St) (H : Hp), t' D σ H → t D σ H) : PSs X e t' := ⟨fun pins s σ H D I q => h.run pins s σ H D I (i D σ H q)⟩
theorem psImp {X : Cx} {e : Stmt} {t t' : TS} (h : PS X e t) (i : ∀ (D : Ends) (σ : L2.St) (H : Hp), t' D σ H → t D σ H) : PS X e t' := ⟨fun pins s σ H D I q => h.run pins s σ H D I (i D σ H q)⟩

/-! ### the truth of a value -/
theorem seqOf {L : Lk} {ι : List Addr} {S : Sto} {H : Hp} {n : Nat} {a : Addr} {xs : List Val} (R : Rel L ι S H) (ha : ι[n]? = some a) (h : lstAt S n = some xs) :
    ∃ vs, SqL L.K H a vs ∧ Rvs L.K ι H xs vs := by
  unfold lstAt at h
  split at h
  · rename_i ys e
    cases h
    obtain ⟨vs, e1, r⟩ := R.obj n _ a e ha
    exact ⟨vs, SqL.of e1, r⟩
  · rename_i ys e
    cases h
    obtain ⟨vs, e1, r⟩ := R.obj n _ a e ha
    exact ⟨vs, e1.sq, r⟩
  · cases h
theorem mlOf {L : Lk} {ι : List Addr} {S : Sto} {H : Hp} {n : Nat} {a : Addr} {xs : List Val} (R : Rel L ι S H) (ha : ι[n]? = some a) (h : mlAt S n = some xs) :
    ∃ vs, H a = some (.lst vs) ∧ Rvs L.K ι H xs vs := by
  unfold mlAt at h
  split at h
  · rename_i ys e
    cases h
    exact R.obj n _ a e ha
  · cases h
/-- a new list -/
theorem postAlloc {L : Lk} {ι : List Addr} {S : Sto} {H : Hp} {p : Addr} {xs : List Val} {vs : List V} {Q' : VQ} {Q : VK} (R : Rel L ι S H) (hp : H p = none) (post : Post L ι H Q' Q) (r : Rvs L.K ι H xs vs)
    (w : Q' (.loc S.length) (S ++ [.lst xs])) : Q (.ref p) (upd H p (.lst vs)) := by
  refine post (ι ++ [p]) _ (.loc S.length) (.ref p) _ (grow_ext hp p) (R.alloc (ob := .lst xs) hp ⟨vs, upd_same, Rvs.mono (grow_ext hp p) _ r⟩) ?_ w
  simp only [Rv]
  refine ⟨p, rfl, ?_⟩
  rw [List.getElem?_append_right (by rw [R.len]; exact Nat.le_refl _), R.len]
  simp
theorem itemsSq {L : Lk} {ι : List Addr} {S : Sto} {H : Hp} {x : Val} {v : V} {xs : List Val} (R : Rel L ι S H) (r : Rv L.K ι H x v) (h : itemsOf S x = some xs) :
    ∃ a vs, v = .ref a ∧ (SqL L.K H a vs ∨ SqT L.K H a vs) ∧ Rvs L.K ι H xs vs := by
  cases x with
  | tup ys =>
    simp only [itemsOf] at h
    cases h
    simp only [Rv] at r
    obtain ⟨a, vs, rfl, h1, h2⟩ := r
    exact ⟨a, vs, rfl, .inr h1, h2⟩
  | loc n =>
    simp only [itemsOf] at h
    simp only [Rv] at r
    obtain ⟨a, rfl, ha⟩ := r
    obtain ⟨vs, h1, h2⟩ := seqOf R ha h
    exact ⟨a, vs, rfl, .inl h1, h2⟩
  | _ => simp [itemsOf] at h
theorem isEmptyRvs {K : PySem.W.Frag} {ι : List Addr} {H : Hp} {xs : List Val} {vs : List V} (h : Rvs K ι H xs vs) : xs.isEmpty = vs.isEmpty := by
  have := h.len
  cases xs <;> cases vs <;> simp_all
theorem tru_ok' {L : Lk} {ι : List Addr} {S : Sto} {H : Hp} {x : Val} {v : V} {Q : Bool → Prop} (R : Rel L ι S H) (r : Rv L.K ι H x v) (h : tru S x Q) : ∃ k, TruV L.K v H k ∧ Q k := by
  cases x with
  | non => simp only [Rv] at r; subst r; exact ⟨false, rfl, h⟩
  | bl b => simp only [Rv] at r; subst r; exact ⟨b, rfl, h⟩
  | int i => simp only [Rv] at r; subst r; exact ⟨_, rfl, h⟩
  | str y => simp only [Rv] at r; subst r; exact ⟨_, ⟨bigle h.1, rfl⟩, h.2⟩
  | tup xs =>
    simp only [Rv] at r
    obtain ⟨a, vs, rfl, h1, h2⟩ := r
    exact ⟨_, .inr (.inl ⟨vs, h1, rfl⟩), by rw [← isEmptyRvs h2]; exact h⟩
  | loc n =>
    simp only [Rv] at r
    obtain ⟨a, rfl, ha⟩ := r
    simp only [tru] at h
    split at h
    · rename_i xs e
      obtain ⟨vs, h1, h2⟩ := seqOf R ha e
      exact ⟨_, .inl ⟨vs, h1, rfl⟩, by rw [← isEmptyRvs h2]; exact h⟩
    · exact h.elim
  | cst n y => exact False.elim h
theorem tru_mono {S : Sto} {x : Val} {Q Q' : Bool → Prop} (h : tru S x Q) (i : ∀ b, Q b → Q' b) : tru S x Q' := by
  cases x with
  | str y => exact ⟨h.1, i _ h.2⟩
  | loc n =>
    simp only [tru] at h ⊢
    split at h
    · exact i _ h
    · exact h
  | cst n y => exact h
  | _ => exact i _ h
/-- what is known twice of a value's truth -/
theorem tru_dup {S : Sto} {x : Val} {Q : Bool → Bool → Prop} (h : tru S x fun b => tru S x fun c => Q b c) : tru S x fun b => Q b b := by
  cases x with
  | str y => exact ⟨h.1, h.2.2⟩
  | loc n =>
    simp only [tru] at h ⊢
    cases hl : lstAt S n with
    | none => simp only [hl] at h
    | some xs => simp only [hl] at h ⊢; exact h
  | cst n y => exact (h : False).elim
  | _ => exact h

/-! ### small expressions -/
section
variable {X : Cx} {L : Lk} {C : Cenv} {e a b c : Expr} {m ma mb mc : ME} {pos : Pos}
theorem se_var {i : Nat} {x : Str} (h : PE X (.Name x pos) (tVar i)) : PE X (.Name x pos) (tM X L C (.var i)) :=
  peImp h fun σ H Q ⟨ι, ρ, S, Q', E, hρ, R, w, tk, post⟩ => by
    simp only [wpE] at w
    split at w
    · rename_i y e
      obtain ⟨v, e1, r⟩ := hρ.2 i y e
      exact ⟨v, e1, post ι H y v S Grow.refl R r w⟩
    · exact w.elim
theorem se_c {v : V} {x : Val} (h : PE X e (tC v)) (r : ∀ ι H, Rv L.K ι H x v) : PE X e (tM X L C (.lit x)) :=
  peImp h fun σ H Q ⟨ι, ρ, S, Q', E, hρ, R, w, tk, post⟩ => by
    simp only [wpE] at w
    exact post ι H x v S Grow.refl R (r ι H) w
theorem se_glo {v : V} {i : Nat} (h : PE X e (tC v)) (r : ∀ ι H, Rv L.K ι H (C.glo i) v) : PE X e (tM X L C (.glo i)) :=
  peImp h fun σ H Q ⟨ι, ρ, S, Q', E, hρ, R, w, tk, post⟩ => by
    simp only [wpE] at w
    exact post ι H _ v S Grow.refl R (r ι H) w
theorem se_neg (ha : PE X a (tM X L C ma)) : PE X (.UnaryOp .USub a pos) (tM X L C (.neg ma)) :=
  peImp (pe_un un_neg ha) fun σ H Q ⟨ι, ρ, S, Q', E, hρ, R, w, tk, post⟩ => by
    simp only [wpE] at w
    refine ⟨ι, ρ, S, _, E, hρ, R, w, tk, fun ι1 H1 x v S1 g1 R1 r1 w1 => ?_⟩
    cases x with
    | int i =>
      simp only [Rv] at r1
      exact ⟨i, r1, post ι1 H1 (.int (-i)) _ S1 g1 R1 (by simp only [Rv]) w1⟩
    | _ => exact w1.elim
theorem se_not (hK : X.K = L.K) (ha : PE X a (tM X L C ma)) : PE X (.UnaryOp .Not a pos) (tM X L C (.not ma)) :=
  peImp (pe_notT ha) fun σ H Q ⟨ι, ρ, S, Q', E, hρ, R, w, tk, post⟩ => by
    simp only [wpE] at w
    refine ⟨ι, ρ, S, _, E, hρ, R, w, tk, fun ι1 H1 x v S1 g1 R1 r1 w1 => ?_⟩
    obtain ⟨k, h1, h2⟩ := tru_ok' R1 r1 w1
    exact ⟨k, by rw [hK]; exact h1, post ι1 H1 (.bl (!k)) _ S1 g1 R1 (by simp only [Rv]) h2⟩
theorem se_not_t (ha : PT X a (tMT X L C ma)) : PT X (.UnaryOp .Not a pos) (tMT X L C (.not ma)) :=
  ptImp (pt_not ha) fun σ H Q ⟨ι, ρ, S, Q', E, hρ, R, w, tk, post⟩ => by
    simp only [wpE] at w
    refine ⟨ι, ρ, S, _, E, hρ, R, w, tk, fun ι1 H1 x v S1 g1 R1 r1 w1 => ?_⟩
    refine tru_mono w1 fun b hb => ?_
    exact post ι1 H1 (.bl (!b)) (.bl (!b)) S1 g1 R1 (by simp only [Rv]) hb
/-- a value's truth as a test -/
theorem se_truth (hK : X.K = L.K) (ha : PE X a (tM X L C ma)) (he : ∀ whole, isTrue a X.env whole = (do let v ← whole; standAt a.pos; holding [v] (truthy v))) : PT X a (tMT X L C ma) :=
  ptImp (pt_truth ha he) fun σ H Q ⟨ι, ρ, S, Q', E, hρ, R, w, tk, post⟩ => by
    refine ⟨ι, ρ, S, _, E, hρ, R, w, tk, fun ι1 H1 x v S1 g1 R1 r1 w1 => ?_⟩
    obtain ⟨k, h1, h2⟩ := tru_ok' R1 r1 (post ι1 H1 x v S1 g1 R1 r1 w1)
    exact ⟨k, by rw [hK]; exact h1, h2⟩

/-! ### two-place operations -/
def rBin (X : Cx) (op : Operator) : R2 := fun x y H Q => ∃ r, OpR X (binaryOp op) r ∧ r x y H Q
theorem rBin_ok {op : Operator} : OpR X (binaryOp op) (rBin X op) := fun pins s σ H x y v u Q I rx ry ⟨_, o, q⟩ => o pins s σ H x y v u Q I rx ry q
def BOp.py : BOp → Operator
  | .add => .Add | .sub => .Sub | .mul => .Mult | .fdiv => .FloorDiv | .mod => .Mod | .pow => .Pow
theorem bin_ok {op : BOp} {ι : List Addr} {S : Sto} {H : Hp} {x y : Val} {v u : V} {Q' : VQ} {Q : VK} (hK : X.K = L.K) (R : Rel L ι S H) (rx : Rv L.K ι H x v) (ry : Rv L.K ι H y u) (w : binS op x y S Q') (post : Post L ι H Q' Q) :
    rBin X op.py v u H Q := by
  unfold binS at w
  split at w
  · simp only [Rv] at rx ry
    subst rx ry
    exact ⟨_, op_add, _, _, rfl, rfl, post ι H (.int _) _ S Grow.refl R (by simp only [Rv]) w⟩
  · simp only [Rv] at rx ry
    subst rx ry
    exact ⟨_, op_sub, _, _, rfl, rfl, post ι H (.int _) _ S Grow.refl R (by simp only [Rv]) w⟩
  · simp only [Rv] at rx ry
    subst rx ry
    exact ⟨_, op_mul, _, _, rfl, rfl, w.1, post ι H (.int _) _ S Grow.refl R (by simp only [Rv]) w.2⟩
  · rename_i i j
    simp only [Rv] at rx ry
    subst rx ry
    refine ⟨_, op_fdivW, _, _, rfl, rfl, ?_, post ι H (.int _) _ S Grow.refl R (by simp only [Rv]) w.2⟩
    exact wide_div (b := 80) w.1.1 (by have := w.1; omega) (by decide) (by decide)
  · simp only [Rv] at rx ry
    subst rx ry
    exact ⟨_, op_mod, _, _, rfl, rfl, w.1, post ι H (.int _) _ S Grow.refl R (by simp only [Rv]) w.2⟩
  · simp only [Rv] at rx ry
    subst rx ry
    exact ⟨_, op_pow, _, _, rfl, rfl, w.1, post ι H (.int _) _ S Grow.refl R (by simp only [Rv]) w.2⟩
  · simp only [Rv] at rx ry
    subst rx ry
    exact ⟨_, op_add_str, _, _, rfl, rfl, bigle w.1, post ι H (.str _) _ S Grow.refl R (by simp only [Rv]) w.2⟩
  · rename_i xs ys
    simp only [Rv] at rx ry
    obtain ⟨a, vs, rfl, h1, h2⟩ := rx
    obtain ⟨b, us, rfl, h3, h4⟩ := ry
    refine ⟨_, op_catA, a, b, vs, us, rfl, rfl, by rw [hK]; exact h1, by rw [hK]; exact h3, by rw [← h2.len, ← h4.len]; exact bigle w.1, fun e => ?_, fun _ e => ?_, fun _ _ p hp => ?_⟩
    · have : xs = [] := by
        have := h2.len
        rw [e] at this
        exact List.length_eq_zero_iff.mp this
      subst this
      exact post ι H (.tup ([] ++ ys)) _ S Grow.refl R (by simp only [Rv, List.nil_append]; exact ⟨b, us, rfl, h3, h4⟩) w.2
    · have : ys = [] := by
        have := h4.len
        rw [e] at this
        exact List.length_eq_zero_iff.mp this
      subst this
      exact post ι H (.tup (xs ++ [])) _ S Grow.refl R (by simp only [Rv, List.append_nil]; exact ⟨a, vs, rfl, h1, h2⟩) w.2
    · refine post ι _ (.tup (xs ++ ys)) _ S (grow_new hp) (R.untold hp) ?_ w.2
      simp only [Rv]
      exact ⟨p, vs ++ us, rfl, SqT.of upd_same, Rvs.mono (grow_new hp) _ (h2.append h4)⟩
  · rename_i xs k
    simp only [Rv] at rx ry
    subst ry
    obtain ⟨a, vs, rfl, h1, h2⟩ := rx
    obtain ⟨⟨w1, w2, w3, w4⟩, w5⟩ := w
    have fl : ∀ m : Nat, Rvs L.K ι H (List.replicate m xs).flatten (List.replicate m vs).flatten := fun m => by
      induction m with
      | zero => exact Rvs.nil
      | succ m ih =>
        rw [List.replicate_succ, List.replicate_succ, List.flatten_cons, List.flatten_cons]
        exact h2.append ih
    by_cases k1 : k = 1
    · subst k1
      refine ⟨_, op_repT1, a, vs, rfl, rfl, by rw [hK]; exact h1, post ι H _ _ S Grow.refl R ?_ w5⟩
      have : (List.replicate (1 : Int).toNat xs).flatten = xs := by simp
      rw [this]
      simp only [Rv]
      exact ⟨a, vs, rfl, h1, h2⟩
    refine ⟨_, op_repT, a, k, vs, rfl, rfl, by rw [hK]; exact h1, fun e => ?_, by omega, w3, by rw [← h2.len]; exact w4, fun p hp => ?_⟩
    · have := h2.len
      rw [e] at this
      exact w1 (List.length_eq_zero_iff.mp this)
    · refine post ι _ (.tup (List.replicate k.toNat xs).flatten) _ S (grow_new hp) (R.untold hp) ?_ w5
      simp only [Rv]
      exact ⟨p, _, rfl, SqT.of upd_same, Rvs.mono (grow_new hp) _ (fl k.toNat)⟩
  · simp only [Rv] at rx ry
    subst rx ry
    exact ⟨_, op_repS, _, _, rfl, rfl, w.1.1, w.1.2.1, w.1.2.2.1, w.1.2.2.2, post ι H (.str _) _ S Grow.refl R (by simp only [Rv]) w.2⟩
  · rename_i n k
    simp only [Rv] at rx ry
    obtain ⟨a, rfl, ha⟩ := rx
    obtain ⟨b, rfl, hb⟩ := ry
    split at w
    · rename_i xs ys e1 e2
      obtain ⟨vs, h1, h2⟩ := mlOf R ha e1
      obtain ⟨us, h3, h4⟩ := mlOf R hb e2
      refine ⟨_, op_cat, a, b, vs, us, rfl, rfl, h1, h3, by rw [← h2.len, ← h4.len]; exact bigle w.1, fun p hp => ?_⟩
      exact postAlloc R hp post (h2.append h4) w.2
    · exact w.elim
  · exact w.elim
theorem se_bin {op : BOp} (hK : X.K = L.K) (ha : PE X a (tM X L C ma)) (hb : PE X b (tM X L C mb)) : PE X (.BinOp a op.py b pos) (tM X L C (.bin op ma mb)) :=
  peImp (pe_op rBin_ok ha hb) fun σ H Q ⟨ι, ρ, S, Q', E, hρ, R, w, tk, post⟩ => by
    simp only [wpE] at w
    exact ⟨ι, ρ, S, _, E, hρ, R, w, tk, fun ι1 H1 x v S1 g1 R1 r1 w1 => ⟨ι1, ρ, S1, _, E, hρ.mono g1, R1, w1, WXe.grow g1 tk, fun ι2 H2 y u S2 g2 R2 r2 w2 =>
      bin_ok hK R2 (r1.mono g2) r2 w2 fun ι3 H3 z t S3 g3 R3 r3 w3 => post ι3 H3 z t S3 (g1.trans (g2.trans g3)) R3 r3 w3⟩⟩

/-! ### comparisons -/
def COp.py : COp → CmpOp
  | .eq => .Eq | .ne => .NotEq | .lt => .Lt | .le => .LtE | .gt => .Gt | .ge => .GtE | .is_ => .Is | .nis => .IsNot | .in_ => .In | .nin => .NotIn
def rCmp (X : Cx) (op : CmpOp) : R2 := fun x y H Q => ∃ r, OpR X (compareOp op) r ∧ r x y H Q
theorem rCmp_ok {op : CmpOp} : OpR X (compareOp op) (rCmp X op) := fun pins s σ H x y v u Q I rx ry ⟨_, o, q⟩ => o pins s σ H x y v u Q I rx ry q
mutual
theorem dpOf {ι : List Addr} {S : Sto} {H : Hp} (R : Rel L ι S H) : ∀ (n : Nat) (x : Val) {v : V} {d : PyData}, Rv L.K ι H x v → dat S n x = some d → Dp L.K H v d
  | 0, _, _, _, _, h => by simp [dat] at h
  | n + 1, .non, v, d, r, h => by
    simp only [dat, Option.some.injEq] at h
    simp only [Rv] at r
    subst r h
    exact .non
  | n + 1, .bl b, v, d, r, h => by
    simp only [dat, Option.some.injEq] at h
    simp only [Rv] at r
    subst r h
    exact .bl b
  | n + 1, .int b, v, d, r, h => by
    simp only [dat, Option.some.injEq] at h
    simp only [Rv] at r
    subst r h
    exact .int b
  | n + 1, .str b, v, d, r, h => by
    simp only [dat, Option.some.injEq] at h
    simp only [Rv] at r
    subst r h
    exact .str b
  | n + 1, .tup xs, v, d, r, h => by
    simp only [dat, Option.map_eq_some_iff] at h
    obtain ⟨ds, h1, rfl⟩ := h
    simp only [Rv] at r
    obtain ⟨a, vs, rfl, h2, h3⟩ := r
    exact .tup h2 (dpsOf R n xs h3 h1)
  | n + 1, .loc l, v, d, r, h => by
    simp only [dat] at h
    split at h
    · rename_i xs e
      simp only [Option.map_eq_some_iff] at h
      obtain ⟨ds, h1, rfl⟩ := h
      simp only [Rv] at r
      obtain ⟨a, rfl, ha⟩ := r
      obtain ⟨vs, h2, h3⟩ := seqOf R ha e
      exact .lst h2 (dpsOf R n xs h3 h1)
    · cases h
  | n + 1, .cst _ _, v, d, r, h => by simp [dat] at h
theorem dpsOf {ι : List Addr} {S : Sto} {H : Hp} (R : Rel L ι S H) : ∀ (n : Nat) (xs : List Val) {vs : List V} {ds : List PyData}, Rvs L.K ι H xs vs → xs.mapM (dat S n) = some ds → DpAll L.K H vs ds
  | n, [], vs, ds, r, h => by
    simp only [Rvs] at r
    subst r
    simp at h
    subst h
    exact .nil
  | n, x :: xs, vs, ds, r, h => by
    simp only [Rvs] at r
    obtain ⟨v, ws, rfl, h1, h2⟩ := r
    rw [List.mapM_cons] at h
    simp only [Option.bind_eq_bind, Option.bind_eq_some_iff, Option.pure_def, Option.some.injEq] at h
    obtain ⟨d, e1, ds', e2, rfl⟩ := h
    exact .cons (dpOf R n x h1 e1) (dpsOf R n xs h2 e2)
end
mutual
theorem dat_plain {S : Sto} : ∀ (n : Nat) (x : Val) {d : PyData}, dat S n x = some d → d.plain = true ∧ d.depth ≤ n
  | 0, _, _, h => by simp [dat] at h
  | n + 1, .non, d, h => by
    simp only [dat, Option.some.injEq] at h
    subst h
    exact ⟨rfl, by simp [PyData.depth]⟩
  | n + 1, .bl b, d, h => by
    simp only [dat, Option.some.injEq] at h
    subst h
    exact ⟨rfl, by simp [PyData.depth]⟩
  | n + 1, .int b, d, h => by
    simp only [dat, Option.some.injEq] at h
    subst h
    exact ⟨rfl, by simp [PyData.depth]⟩
  | n + 1, .str b, d, h => by
    simp only [dat, Option.some.injEq] at h
    subst h
    exact ⟨rfl, by simp [PyData.depth]⟩
  | n + 1, .tup xs, d, h => by
    simp only [dat, Option.map_eq_some_iff] at h
    obtain ⟨ds, h1, rfl⟩ := h
    have := dats_plain n xs h1
    exact ⟨by simpa [PyData.plain] using this.1, by simp only [PyData.depth]; omega⟩
  | n + 1, .loc l, d, h => by
    simp only [dat] at h
    split at h
    · rename_i xs e
      simp only [Option.map_eq_some_iff] at h
      obtain ⟨ds, h1, rfl⟩ := h
      have := dats_plain n xs h1
      exact ⟨by simpa [PyData.plain] using this.1, by simp only [PyData.depth]; omega⟩
    · cases h
  | n + 1, .cst _ _, d, h => by simp [dat] at h
theorem dats_plain {S : Sto} : ∀ (n : Nat) (xs : List Val) {ds : List PyData}, xs.mapM (dat S n) = some ds → PyData.plainAll ds = true ∧ PyData.depthAll ds ≤ n
  | n, [], ds, h => by
    simp at h
    subst h
    exact ⟨rfl, by simp [PyData.depthAll]⟩
  | n, x :: xs, ds, h => by
    rw [List.mapM_cons] at h
    simp only [Option.bind_eq_bind, Option.bind_eq_some_iff, Option.pure_def, Option.some.injEq] at h
    obtain ⟨d, e1, ds', e2, rfl⟩ := h
    have h1 := dat_plain n x e1
    have h2 := dats_plain n xs e2
    exact ⟨by simp [PyData.plainAll, h1.1, h2.1], by simp only [PyData.depthAll]; omega⟩
end
/-- an answer of == by data -/
def EqA (K : PySem.W.Frag) (H : Hp) (v u : V) (Q : Bool → Prop) : Prop :=
  ∃ d e, Dp K H v d ∧ Dp K H u e ∧ d.plain = true ∧ e.plain = true ∧ d.depth ≤ 60 ∧ Q (PyData.eqv d e)
theorem eq_ok {ι : List Addr} {S : Sto} {H : Hp} {x y : Val} {v u : V} {Q : Bool → Prop} (R : Rel L ι S H) (rx : Rv L.K ι H x v) (ry : Rv L.K ι H y u) (w : eqS S x y Q) : EqA L.K H v u Q := by
  unfold eqS at w
  split at w
  · rename_i d e h1 h2
    have p1 := dat_plain 60 x h1
    have p2 := dat_plain 60 y h2
    exact ⟨d, e, dpOf R _ x rx h1, dpOf R _ y ry h2, p1.1, p2.1, p1.2, w⟩
  · exact w.elim
theorem op_eqP (hu : X.A.units + 64 < cLine) : OpR X (compareOp .Eq) (fun x y H Q => EqA X.K H x y fun b => Q (.bl b) H) := by
  intro pins s σ H x y v u Q I rx ry h
  obtain ⟨d, e, hd, he, sd, se, hl, q⟩ := h
  obtain ⟨as, r1⟩ := Dp.reads I d x v hd rx
  obtain ⟨bs, r2⟩ := Dp.reads I e y u he ry
  exact SeqAt.eq_plain r1 r2 sd se (by have := Nat.min_le_left d.depth e.depth; omega) ⟨.bl _, H, I, rfl, q⟩
theorem op_neP (hu : X.A.units + 64 < cLine) : OpR X (compareOp .NotEq) (fun x y H Q => EqA X.K H x y fun b => Q (.bl (!b)) H) := by
  intro pins s σ H x y v u Q I rx ry h
  obtain ⟨d, e, hd, he, sd, se, hl, q⟩ := h
  obtain ⟨as, r1⟩ := Dp.reads I d x v hd rx
  obtain ⟨bs, r2⟩ := Dp.reads I e y u he ry
  exact SeqAt.ne_plain r1 r2 sd se (by have := Nat.min_le_left d.depth e.depth; omega) ⟨.bl _, H, I, rfl, q⟩
/-- x in y, by data -/
def InA (K : PySem.W.Frag) (H : Hp) (x y : V) (Q : Bool → Prop) : Prop :=
  ∃ d es, Dp K H x d ∧ (Dp K H y (.list es) ∨ Dp K H y (.tuple es)) ∧ d.plain = true ∧ PyData.plainAll es = true ∧ d.depth ≤ 60 ∧ Q (es.any fun e => PyData.eqv e d)
theorem op_inP (hu : X.A.units + 64 < cLine) : OpR X (compareOp .In) (fun x y H Q => InA X.K H x y fun b => Q (.bl b) H) := by
  intro pins s σ H x y v u Q I rx ry h
  obtain ⟨d, es, hd, he, sd, se, hl, q⟩ := h
  obtain ⟨as, r1⟩ := Dp.reads I d x v hd rx
  have hm := Nat.min_le_right (PyData.depthAll es) d.depth
  rcases he with he | he
  · obtain ⟨bs, r2⟩ := Dp.reads I _ y u he ry
    exact SeqAt.in_list_data r2 r1 se sd (by omega) ⟨.bl _, H, I, rfl, q⟩
  · obtain ⟨bs, r2⟩ := Dp.reads I _ y u he ry
    exact SeqAt.in_tuple_data r2 r1 se sd (by omega) ⟨.bl _, H, I, rfl, q⟩
theorem op_ninP (hu : X.A.units + 64 < cLine) : OpR X (compareOp .NotIn) (fun x y H Q => InA X.K H x y fun b => Q (.bl (!b)) H) := by
  intro pins s σ H x y v u Q I rx ry h
  obtain ⟨d, es, hd, he, sd, se, hl, q⟩ := h
  obtain ⟨as, r1⟩ := Dp.reads I d x v hd rx
  have hm := Nat.min_le_right (PyData.depthAll es) d.depth
  rcases he with he | he
  · obtain ⟨bs, r2⟩ := Dp.reads I _ y u he ry
    exact SeqAt.notIn_list_data r2 r1 se sd (by omega) ⟨.bl _, H, I, rfl, q⟩
  · obtain ⟨bs, r2⟩ := Dp.reads I _ y u he ry
    exact SeqAt.notIn_tuple_data r2 r1 se sd (by omega) ⟨.bl _, H, I, rfl, q⟩
theorem op_dinP (hu : X.A.units + 64 < cLine) : OpR X (compareOp .In) (fun y x H Q => ∃ a o, x = .ref a ∧ DGet H a y o ∧ Q (.bl o.isSome) H) := by
  intro pins s σ H y x u v Q I ry rx h
  obtain ⟨a, o, rfl, g, q⟩ := h
  cases (show v = Value.ref a from rx)
  exact d_in (by omega) I g ry fun s' I' => ⟨.bl _, H, I', rfl, q⟩
theorem op_dninP (hu : X.A.units + 64 < cLine) : OpR X (compareOp .NotIn) (fun y x H Q => ∃ a o, x = .ref a ∧ DGet H a y o ∧ Q (.bl (!o.isSome)) H) := by
  intro pins s σ H y x u v Q I ry rx h
  obtain ⟨a, o, rfl, g, q⟩ := h
  cases (show v = Value.ref a from rx)
  exact d_notIn (by omega) I g ry fun s' I' => ⟨.bl _, H, I', rfl, q⟩
theorem getK_val {ι : List Addr} {H : Hp} {K : PySem.W.Frag} : ∀ {kvs : List (Key × Val)} {ws : List (Key × V)} (k : Key), ws.map (·.1) = kvs.map (·.1) → Rvs K ι H (kvs.map (·.2)) (ws.map (·.2)) →
    (getK kvs k = none ∧ valV ws k = none) ∨ ∃ x v, getK kvs k = some x ∧ valV ws k = some v ∧ Rv K ι H x v
  | [], [], k, _, _ => .inl ⟨rfl, rfl⟩
  | [], _ :: _, _, h, _ => by simp at h
  | _ :: _, [], _, h, _ => by simp at h
  | p :: kvs, q :: ws, k, h, r => by
    simp only [List.map_cons, List.cons.injEq] at h
    simp only [List.map_cons, Rvs] at r
    obtain ⟨v, us, e, r1, r2⟩ := r
    simp only [List.cons.injEq] at e
    obtain ⟨rfl, rfl⟩ := e
    by_cases c : p.1 = k
    · exact .inr ⟨p.2, q.2, by simp [getK, c], by rw [valV_pos (by rw [h.1]; exact c)], r1⟩
    · have e1 : getK (p :: kvs) k = getK kvs k := by simp [getK, c]
      rw [e1, valV_neg (by rw [h.1]; exact c)]
      exact getK_val k h.2 r2
theorem dkOf {ι : List Addr} {S : Sto} {H : Hp} {n : Nat} {a : Addr} {kvs : List (Key × Val)} (R : Rel L ι S H) (ha : ι[n]? = some a) (h : dkAt S n = some kvs) :
    ∃ ws, H a = some (.dK ws) ∧ ws.map (·.1) = kvs.map (·.1) ∧ Rvs L.K ι H (kvs.map (·.2)) (ws.map (·.2)) := by
  unfold dkAt at h
  split at h
  · rename_i ys e
    cases h
    exact R.obj n _ a e ha
  · cases h
theorem keyOf_rv {ι : List Addr} {H : Hp} {K : PySem.W.Frag} {x : Val} {v : V} {k : Key} (r : Rv K ι H x v) (h : keyOf x = some k) : v = kV k := by
  cases x with
  | int i => simp only [keyOf, Option.some.injEq] at h; subst h; simpa [Rv, kV] using r
  | str i => simp only [keyOf, Option.some.injEq] at h; subst h; simpa [Rv, kV] using r
  | _ => simp [keyOf] at h
/-- what in asks, by the forms of its right side -/
theorem in_ok {ι : List Addr} {S : Sto} {H : Hp} {x y : Val} {v u : V} {Q : Bool → Prop} (R : Rel L ι S H) (rx : Rv L.K ι H x v) (ry : Rv L.K ι H y u) (w : inS x y S Q) :
    InA L.K H v u Q ∨ (∃ c z, v = .str c ∧ u = .str z ∧ c.length = 1 ∧ Q (decide (c.cps.getD 0 0 ∈ z.cps.toList))) ∨ ∃ a o, u = .ref a ∧ DGet H a v o ∧ Q o.isSome := by
  unfold inS at w
  split at w
  · rename_i xs e
    split at w
    · rename_i d es h1 h2
      have p1 := dat_plain 59 x h1
      have p2 := dats_plain 59 xs h2
      refine .inl ⟨d, es, dpOf R _ x rx h1, ?_, p1.1, p2.1, by omega, w⟩
      cases y with
      | tup ys =>
        simp only [itemsOf, Option.some.injEq] at e
        subst e
        simp only [Rv] at ry
        obtain ⟨a, vs, rfl, h3, h4⟩ := ry
        exact .inr (.tup h3 (dpsOf R _ _ h4 h2))
      | loc n =>
        simp only [itemsOf] at e
        simp only [Rv] at ry
        obtain ⟨a, rfl, ha⟩ := ry
        obtain ⟨vs, h3, h4⟩ := seqOf R ha e
        exact .inl (.lst h3 (dpsOf R _ _ h4 h2))
      | _ => simp [itemsOf] at e
    · exact w.elim
  · split at w
    · simp only [Rv] at rx ry
      exact .inr (.inl ⟨_, _, rx, ry, w⟩)
    · rename_i n _
      simp only [Rv] at ry
      obtain ⟨a, rfl, ha⟩ := ry
      split at w
      · rename_i kvs k e1 e2
        obtain ⟨ws, h1, h2, h3⟩ := dkOf R ha e1
        rw [keyOf_rv rx e2]
        refine .inr (.inr ⟨a, _, rfl, DGet.k h1, ?_⟩)
        rcases getK_val k h2 h3 with ⟨g1, g2⟩ | ⟨_, _, g1, g2, _⟩
        · rw [g2]; rw [g1] at w; exact w
        · rw [g2]; rw [g1] at w; exact w
      · exact w.elim
    · exact w.elim
theorem one_sign {c : Str} (h : c.length = 1) : c = ⟨#[c.cps.getD 0 0]⟩ := by
  obtain ⟨⟨l⟩⟩ := c
  have h' : l.length = 1 := h
  rcases l with _ | ⟨x, _ | ⟨y, l⟩⟩
  · simp at h'
  · rfl
  · simp at h'
theorem cmp_ok {op : COp} {ι : List Addr} {S : Sto} {H : Hp} {x y : Val} {v u : V} {Q' : Bool → Prop} {Q : VK} (hK : X.K = L.K) (hu : X.A.units + 64 < cLine) (R : Rel L ι S H) (rx : Rv L.K ι H x v) (ry : Rv L.K ι H y u) (w : cmpS op x y S Q')
    (post : ∀ b, Q' b → Q (.bl b) H) : rCmp X op.py v u H Q := by
  unfold cmpS at w
  split at w
  · obtain ⟨d, e, h1, h2, h3, h4, h5, h6⟩ := eq_ok R rx ry w
    exact ⟨_, op_eqP hu, d, e, by rw [hK]; exact h1, by rw [hK]; exact h2, h3, h4, h5, post _ h6⟩
  · obtain ⟨d, e, h1, h2, h3, h4, h5, h6⟩ := eq_ok R rx ry w
    exact ⟨_, op_neP hu, d, e, by rw [hK]; exact h1, by rw [hK]; exact h2, h3, h4, h5, post _ h6⟩
  · simp only [Rv] at rx ry; subst rx ry; exact ⟨_, op_lt, _, _, rfl, rfl, post _ w⟩
  · simp only [Rv] at rx ry; subst rx ry; exact ⟨_, op_le, _, _, rfl, rfl, post _ w⟩
  · simp only [Rv] at rx ry; subst rx ry; exact ⟨_, op_gt, _, _, rfl, rfl, post _ w⟩
  · simp only [Rv] at rx ry; subst rx ry; exact ⟨_, op_ge, _, _, rfl, rfl, post _ w⟩
  · simp only [Rv] at ry
    subst ry
    refine ⟨_, op_isN, rfl, ?_⟩
    have e : decide (v = V.non) = x.isNon := by
      cases x with
      | non => simp only [Rv] at rx; subst rx; rfl
      | bl b => simp only [Rv] at rx; subst rx; rfl
      | int b => simp only [Rv] at rx; subst rx; rfl
      | str b => simp only [Rv] at rx; subst rx; rfl
      | tup b => simp only [Rv] at rx; obtain ⟨a, vs, rfl, _⟩ := rx; rfl
      | loc b => simp only [Rv] at rx; obtain ⟨a, rfl, _⟩ := rx; rfl
      | cst b y => simp only [Rv] at rx; subst rx; rfl
    rw [e]
    exact post _ w
  · simp only [Rv] at ry
    subst ry
    refine ⟨_, op_notN, rfl, ?_⟩
    have e : (!decide (v = V.non)) = !x.isNon := by
      cases x with
      | non => simp only [Rv] at rx; subst rx; rfl
      | bl b => simp only [Rv] at rx; subst rx; rfl
      | int b => simp only [Rv] at rx; subst rx; rfl
      | str b => simp only [Rv] at rx; subst rx; rfl
      | tup b => simp only [Rv] at rx; obtain ⟨a, vs, rfl, _⟩ := rx; rfl
      | loc b => simp only [Rv] at rx; obtain ⟨a, rfl, _⟩ := rx; rfl
      | cst b y => simp only [Rv] at rx; subst rx; rfl
    rw [e]
    exact post _ w
  · rename_i a b
    simp only [Rv] at rx ry
    subst rx ry
    refine ⟨_, op_isBl, a, b, rfl, rfl, ?_⟩
    rw [show decide (a = b) = (a == b) by cases a <;> cases b <;> rfl]
    exact post _ w
  · rename_i a b
    simp only [Rv] at rx ry
    subst rx ry
    refine ⟨_, op_notBl, a, b, rfl, rfl, ?_⟩
    rw [show decide (a = b) = (a == b) by cases a <;> cases b <;> rfl]
    exact post _ w
  · simp only [Rv] at rx ry
    subst rx ry
    exact ⟨_, op_le_str, _, _, rfl, rfl, post _ w⟩
  · rcases in_ok R rx ry w with h | ⟨c, z, rfl, rfl, h1, h2⟩ | ⟨a, o, rfl, h1, h2⟩
    · obtain ⟨d, es, h1, h2, h3, h4, h5, h6⟩ := h
      exact ⟨_, op_inP hu, d, es, by rw [hK]; exact h1, by rw [hK]; exact h2, h3, h4, h5, post _ h6⟩
    · have e : c = ⟨#[c.cps.getD 0 0]⟩ := one_sign h1
      exact ⟨_, op_in_sign, c.cps.getD 0 0, z, by rw [← e], rfl, post _ h2⟩
    · exact ⟨_, op_dinP hu, a, o, rfl, h1, post _ h2⟩
  · rcases in_ok R rx ry w with h | ⟨c, z, rfl, rfl, h1, h2⟩ | ⟨a, o, rfl, h1, h2⟩
    · obtain ⟨d, es, h1, h2, h3, h4, h5, h6⟩ := h
      exact ⟨_, op_ninP hu, d, es, by rw [hK]; exact h1, by rw [hK]; exact h2, h3, h4, h5, post _ h6⟩
    · have e : c = ⟨#[c.cps.getD 0 0]⟩ := one_sign h1
      exact ⟨_, op_notIn_sign, c.cps.getD 0 0, z, by rw [← e], rfl, post _ h2⟩
    · exact ⟨_, op_dninP hu, a, o, rfl, h1, post _ h2⟩
  · exact w.elim
theorem se_cmp {op : COp} (hK : X.K = L.K) (hu : X.A.units + 64 < cLine) (ha : PE X a (tM X L C ma)) (hb : PE X b (tM X L C mb)) (hm : behindInMarks op.py b = false) : PE X (.Compare a [op.py] [b] pos) (tM X L C (.cmp op ma mb)) :=
  peImp (pe_cmpR rCmp_ok ha hb hm) fun σ H Q ⟨ι, ρ, S, Q', E, hρ, R, w, tk, post⟩ => by
    simp only [wpE] at w
    exact ⟨ι, ρ, S, _, E, hρ, R, w, tk, fun ι1 H1 x v S1 g1 R1 r1 w1 => ⟨ι1, ρ, S1, _, E, hρ.mono g1, R1, w1, WXe.grow g1 tk, fun ι2 H2 y u S2 g2 R2 r2 w2 =>
      cmp_ok hK hu R2 (r1.mono g2) r2 w2 fun k q => post ι2 H2 (.bl k) _ S2 (g1.trans g2) R2 (by simp only [Rv]) q⟩⟩
theorem se_cmp_t {op : COp} (hK : X.K = L.K) (hu : X.A.units + 64 < cLine) (ha : PE X a (tM X L C ma)) (hb : PE X b (tM X L C mb)) (hm : behindInMarks op.py b = false) : PT X (.Compare a [op.py] [b] pos) (tMT X L C (.cmp op ma mb)) :=
  ptImp (pt_cmpR rCmp_ok ha hb hm) fun σ H Q ⟨ι, ρ, S, Q', E, hρ, R, w, tk, post⟩ => by
    simp only [wpE] at w
    exact ⟨ι, ρ, S, _, E, hρ, R, w, tk, fun ι1 H1 x v S1 g1 R1 r1 w1 => ⟨ι1, ρ, S1, _, E, hρ.mono g1, R1, w1, WXe.grow g1 tk, fun ι2 H2 y u S2 g2 R2 r2 w2 =>
      cmp_ok hK hu R2 (r1.mono g2) r2 w2 fun k q => ⟨k, rfl, post ι2 H2 (.bl k) (.bl k) S2 (g1.trans g2) R2 (by simp only [Rv]) q⟩⟩⟩
theorem chain_red {o1 o2 : COp} {σ : L2.St} {H : Hp} {Q : VK} (hK : X.K = L.K) (hu : X.A.units + 64 < cLine)
    (h : ∃ ι ρ S Q' E, RelE L.K ι H ρ σ ∧ Rel L ι S H ∧ wpE C (.chain o1 o2 ma mb mc) ρ S Q' E ∧ Takes X (WXe L ι H σ E) ∧ ∀ ι' H' k S', Grow L.K ι H ι' H' → Rel L ι' S' H' → Q' (.bl k) S' → Q (.bl k) H') :
    tChain (rCmp X o1.py) (rCmp X o2.py) (tM X L C ma) (tM X L C mb) (tM X L C mc) σ H Q := by
  obtain ⟨ι, ρ, S, Q', E, hρ, R, w, tk, post⟩ := h
  simp only [wpE] at w
  exact ⟨ι, ρ, S, _, E, hρ, R, w, tk, fun ι1 H1 x v S1 g1 R1 r1 w1 => ⟨ι1, ρ, S1, _, E, hρ.mono g1, R1, w1, WXe.grow g1 tk, fun ι2 H2 y u S2 g2 R2 r2 w2 =>
    cmp_ok hK hu R2 (r1.mono g2) r2 w2 fun k q => ⟨k, rfl, by
      cases k with
      | false => exact post ι2 H2 false S2 (g1.trans g2) R2 q
      | true =>
        exact ⟨ι2, ρ, S2, _, E, hρ.mono (g1.trans g2), R2, q, WXe.grow (g1.trans g2) tk, fun ι3 H3 z t S3 g3 R3 r3 w3 =>
          cmp_ok hK hu R3 (r2.mono g3) r3 w3 fun k q => post ι3 H3 k S3 ((g1.trans g2).trans g3) R3 q⟩⟩⟩⟩
theorem se_chain {o1 o2 : COp} (hK : X.K = L.K) (hu : X.A.units + 64 < cLine) (ha : PE X a (tM X L C ma)) (hb : PE X b (tM X L C mb)) (hc : PE X c (tM X L C mc)) (hm : lastMarks [o1.py, o2.py] [b, c] = false) :
    PE X (.Compare a [o1.py, o2.py] [b, c] pos) (tM X L C (.chain o1 o2 ma mb mc)) :=
  peImp (pe_chain rCmp_ok rCmp_ok ha hb hc hm) fun σ H Q ⟨ι, ρ, S, Q', E, hρ, R, w, tk, post⟩ => chain_red hK hu ⟨ι, ρ, S, Q', E, hρ, R, w, tk, fun ι' H' k S' g R q => post ι' H' (.bl k) _ S' g R (by simp only [Rv]) q⟩
theorem se_chain_t {o1 o2 : COp} (hK : X.K = L.K) (hu : X.A.units + 64 < cLine) (ha : PE X a (tM X L C ma)) (hb : PE X b (tM X L C mb)) (hc : PE X c (tM X L C mc)) (hm : lastMarks [o1.py, o2.py] [b, c] = false) :
    PT X (.Compare a [o1.py, o2.py] [b, c] pos) (tMT X L C (.chain o1 o2 ma mb mc)) :=
  ptImp (pt_chain rCmp_ok rCmp_ok ha hb hc hm) fun σ H Q ⟨ι, ρ, S, Q', E, hρ, R, w, tk, post⟩ =>
    chain_red hK hu ⟨ι, ρ, S, Q', E, hρ, R, w, tk, fun ι' H' k S' g R q => ⟨k, rfl, post ι' H' (.bl k) (.bl k) S' g R (by simp only [Rv]) q⟩⟩
end
end PM

namespace PM
open PySem PySem.Spec PyProof.Rows L2

section
variable {X : Cx} {L : Lk} {C : Cenv} {e a b c : Expr} {es rest : List Expr} {m ma mb mc : ME} {ms : List ME} {pos : Pos}
theorem se_ifx (ht : PT X c (tMT X L C mc)) (ha : PE X a (tM X L C ma)) (hb : PE X b (tM X L C mb)) : PE X (.IfExp c a b pos) (tM X L C (.ifx mc ma mb)) :=
  peImp (pe_ifExp ht ha hb) fun σ H Q ⟨ι, ρ, S, Q', E, hρ, R, w, tk, post⟩ => by
    simp only [wpE] at w
    refine ⟨ι, ρ, S, _, E, hρ, R, w, tk, fun ι1 H1 x v S1 g1 R1 r1 w1 => tru_mono w1 fun k hk => ?_⟩
    cases k with
    | true => exact ⟨ι1, ρ, S1, _, E, hρ.mono g1, R1, hk, WXe.grow g1 tk, fun ι2 H2 y u S2 g2 R2 r2 w2 => post ι2 H2 y u S2 (g1.trans g2) R2 r2 w2⟩
    | false => exact ⟨ι1, ρ, S1, _, E, hρ.mono g1, R1, hk, WXe.grow g1 tk, fun ι2 H2 y u S2 g2 R2 r2 w2 => post ι2 H2 y u S2 (g1.trans g2) R2 r2 w2⟩
/-! ### and, or -/
theorem bool_and (hK : X.K = L.K) (ha : PE X a (tM X L C ma)) (hb : PE X (.BoolOp .And (b :: rest) pos) (tMB X L C true (mb :: ms))) : PE X (.BoolOp .And (a :: b :: rest) pos) (tMB X L C true (ma :: mb :: ms)) :=
  peImp (pe_andT ha hb) fun σ H Q ⟨ι, ρ, S, Q', E, hρ, R, w, tk, post⟩ => by
    rw [wpB] at w
    refine ⟨ι, ρ, S, _, E, hρ, R, w, tk, fun ι1 H1 x v S1 g1 R1 r1 w1 => ?_⟩
    obtain ⟨k, h1, h2⟩ := tru_ok' R1 r1 w1
    refine ⟨k, by rw [hK]; exact h1, ?_⟩
    cases k with
    | true => exact ⟨ι1, ρ, S1, _, E, hρ.mono g1, R1, h2, WXe.grow g1 tk, fun ι2 H2 y u S2 g2 R2 r2 w2 => post ι2 H2 y u S2 (g1.trans g2) R2 r2 w2⟩
    | false => exact post ι1 H1 x v S1 g1 R1 r1 h2
theorem bool_or (hK : X.K = L.K) (ha : PE X a (tM X L C ma)) (hb : PE X (.BoolOp .Or (b :: rest) pos) (tMB X L C false (mb :: ms))) : PE X (.BoolOp .Or (a :: b :: rest) pos) (tMB X L C false (ma :: mb :: ms)) :=
  peImp (pe_orT ha hb) fun σ H Q ⟨ι, ρ, S, Q', E, hρ, R, w, tk, post⟩ => by
    rw [wpB] at w
    refine ⟨ι, ρ, S, _, E, hρ, R, w, tk, fun ι1 H1 x v S1 g1 R1 r1 w1 => ?_⟩
    obtain ⟨k, h1, h2⟩ := tru_ok' R1 r1 w1
    refine ⟨k, by rw [hK]; exact h1, ?_⟩
    cases k with
    | false => exact ⟨ι1, ρ, S1, _, E, hρ.mono g1, R1, h2, WXe.grow g1 tk, fun ι2 H2 y u S2 g2 R2 r2 w2 => post ι2 H2 y u S2 (g1.trans g2) R2 r2 w2⟩
    | true => exact post ι1 H1 x v S1 g1 R1 r1 h2
theorem bool_one {op : BoolOp} {k : Bool} (ha : PE X a (tM X L C ma)) : PE X (.BoolOp op [a] pos) (tMB X L C k [ma]) :=
  peImp (pe_one ha) fun σ H Q ⟨ι, ρ, S, Q', E, hρ, R, w, tk, post⟩ => by
    rw [wpB] at w
    exact ⟨ι, ρ, S, _, E, hρ, R, w, tk, post⟩
theorem se_bool {op : BoolOp} {k : Bool} (h : PE X (.BoolOp op es pos) (tMB X L C k ms)) : PE X (.BoolOp op es pos) (tM X L C (.bool k ms)) :=
  peImp h fun σ H Q ⟨ι, ρ, S, Q', E, hρ, R, w, tk, post⟩ => by
    simp only [wpE] at w
    exact ⟨ι, ρ, S, _, E, hρ, R, w, tk, post⟩
theorem tru_ex {S : Sto} {x : Val} {P : Bool → Prop} (h : tru S x P) : ∃ b, P b ∧ ∀ Q : Bool → Prop, tru S x Q ↔ Q b := by
  cases x with
  | non => exact ⟨_, h, fun Q => Iff.rfl⟩
  | bl b => exact ⟨_, h, fun Q => Iff.rfl⟩
  | int b => exact ⟨_, h, fun Q => Iff.rfl⟩
  | tup b => exact ⟨_, h, fun Q => Iff.rfl⟩
  | str y => exact ⟨_, h.2, fun Q => ⟨fun q => q.2, fun q => ⟨h.1, q⟩⟩⟩
  | loc n =>
    simp only [tru] at h
    split at h
    · rename_i xs e
      exact ⟨_, h, fun Q => by simp only [tru, e]⟩
    · exact h.elim
  | cst n y => exact False.elim h
theorem boolt_and (ha : PT X a (tMT X L C ma)) (hb : PW X (.BoolOp .And (b :: rest) pos) (tMTB X L C true (mb :: ms))) : PW X (.BoolOp .And (a :: b :: rest) pos) (tMTB X L C true (ma :: mb :: ms)) :=
  ⟨fun wh pins s σ H Q I ⟨ι, ρ, S, Q', E, hρ, R, w, tk, post⟩ => (pw_and ha hb).run wh pins s σ H Q I (by
    rw [wpB] at w
    refine ⟨ι, ρ, S, _, E, hρ, R, w, tk, fun ι1 H1 x v S1 g1 R1 r1 w1 => ?_⟩
    obtain ⟨k, hk, iff⟩ := tru_ex w1
    refine (iff _).mpr ?_
    cases k with
    | true => exact ⟨ι1, ρ, S1, _, E, hρ.mono g1, R1, hk, WXe.grow g1 tk, fun ι2 H2 y u S2 g2 R2 r2 w2 => post ι2 H2 y u S2 (g1.trans g2) R2 r2 w2⟩
    | false => exact (iff _).mp (post ι1 H1 x v S1 g1 R1 r1 hk))⟩
theorem boolt_or (ha : PT X a (tMT X L C ma)) (hb : PW X (.BoolOp .Or (b :: rest) pos) (tMTB X L C false (mb :: ms))) : PW X (.BoolOp .Or (a :: b :: rest) pos) (tMTB X L C false (ma :: mb :: ms)) :=
  ⟨fun wh pins s σ H Q I ⟨ι, ρ, S, Q', E, hρ, R, w, tk, post⟩ => (pw_or ha hb).run wh pins s σ H Q I (by
    rw [wpB] at w
    refine ⟨ι, ρ, S, _, E, hρ, R, w, tk, fun ι1 H1 x v S1 g1 R1 r1 w1 => ?_⟩
    obtain ⟨k, hk, iff⟩ := tru_ex w1
    refine (iff _).mpr ?_
    cases k with
    | false => exact ⟨ι1, ρ, S1, _, E, hρ.mono g1, R1, hk, WXe.grow g1 tk, fun ι2 H2 y u S2 g2 R2 r2 w2 => post ι2 H2 y u S2 (g1.trans g2) R2 r2 w2⟩
    | true => exact (iff _).mp (post ι1 H1 x v S1 g1 R1 r1 hk))⟩
theorem boolt_and1 {k : Bool} (ha : PT X a (tMT X L C ma)) : PW X (.BoolOp .And [a] pos) (tMTB X L C k [ma]) :=
  ⟨fun wh pins s σ H Q I ⟨ι, ρ, S, Q', E, hρ, R, w, tk, post⟩ => (pw_and1 ha).run wh pins s σ H Q I (by
    rw [wpB] at w
    exact ⟨ι, ρ, S, _, E, hρ, R, w, tk, post⟩)⟩
theorem boolt_or1 {k : Bool} (ha : PT X a (tMT X L C ma)) : PW X (.BoolOp .Or [a] pos) (tMTB X L C k [ma]) :=
  ⟨fun wh pins s σ H Q I ⟨ι, ρ, S, Q', E, hρ, R, w, tk, post⟩ => (pw_or1 ha).run wh pins s σ H Q I (by
    rw [wpB] at w
    exact ⟨ι, ρ, S, _, E, hρ, R, w, tk, post⟩)⟩
theorem se_bool_t {op : BoolOp} {k : Bool} (h : PW X (.BoolOp op es pos) (tMTB X L C k ms)) : PT X (.BoolOp op es pos) (tMT X L C (.bool k ms)) :=
  ptImp h.pt fun σ H Q ⟨ι, ρ, S, Q', E, hρ, R, w, tk, post⟩ => by
    simp only [wpE] at w
    exact ⟨ι, ρ, S, _, E, hρ, R, w, tk, post⟩

/-! ### argument lists, displays -/
theorem sa_nil : PA X [] (tMs X L C []) :=
  paImp pa_nil fun σ H Q ⟨ι, ρ, S, Q', E, hρ, R, w, tk, post⟩ => by
    simp only [wpEs] at w
    exact post ι H [] [] S Grow.refl R Rvs.nil rfl w
theorem sa_cons (ha : PE X a (tM X L C ma)) (hb : PA X es (tMs X L C ms)) (hs : starEach (a :: es) X.env = (false, eval a X.env) :: starEach es X.env) : PA X (a :: es) (tMs X L C (ma :: ms)) :=
  paImp (pa_cons ha hb hs) fun σ H Q ⟨ι, ρ, S, Q', E, hρ, R, w, tk, post⟩ => by
    rw [wpEs] at w
    exact ⟨ι, ρ, S, _, E, hρ, R, w, tk, fun ι1 H1 x v S1 g1 R1 r1 w1 => ⟨ι1, ρ, S1, _, E, hρ.mono g1, R1, w1, WXe.grow g1 tk, fun ι2 H2 xs vs S2 g2 R2 r2 l2 w2 =>
      post ι2 H2 (x :: xs) (v :: vs) S2 (g1.trans g2) R2 (Rvs.cons (r1.mono g2) r2) (by simp [l2]) w2⟩⟩
theorem se_tup {k : Nat} (h : PA X es (tMs X L C ms)) (hz : ms.length ≤ big) : PE X (.Tuple es k pos) (tM X L C (.tup ms)) :=
  peImp (pe_tup h) fun σ H Q ⟨ι, ρ, S, Q', E, hρ, R, w, tk, post⟩ => by
    simp only [wpE] at w
    refine ⟨ι, ρ, S, _, E, hρ, R, w, tk, fun ι1 H1 xs vs S1 g1 R1 r1 l1 w1 => ⟨by rw [← r1.len, l1]; exact bigle hz, fun p hp => ?_⟩⟩
    refine post ι1 _ (.tup xs) _ S1 (g1.trans (grow_new hp)) (R1.untold hp) ?_ w1
    simp only [Rv]
    exact ⟨p, vs, rfl, SqT.of upd_same, Rvs.mono (grow_new hp) _ r1⟩
theorem se_lst (h : PA X es (tMs X L C ms)) (hz : ms.length ≤ big) : PE X (.List es pos) (tM X L C (.lst ms)) :=
  peImp (pe_lst h) fun σ H Q ⟨ι, ρ, S, Q', E, hρ, R, w, tk, post⟩ => by
    simp only [wpE] at w
    refine ⟨ι, ρ, S, _, E, hρ, R, w, tk, fun ι1 H1 xs vs S1 g1 R1 r1 l1 w1 => ⟨by rw [← r1.len, l1]; exact bigle hz, fun p hp => ?_⟩⟩
    exact postAlloc R1 hp (fun ι2 H2 x v S2 g2 R2 r2 w2 => post ι2 H2 x v S2 (g1.trans g2) R2 r2 w2) r1 w1

/-! ### subscripts, slices -/
def rIxA (X : Cx) : R2 := fun x y H Q => ∃ r, IxR X r ∧ r x y H Q
theorem rIxA_ok : IxR X (rIxA X) := fun va sl pins s σ H x y v u Q I rx ry ⟨_, o, q⟩ hs => o va sl pins s σ H x y v u Q I rx ry q hs
theorem atRv {ι : List Addr} {H : Hp} {K : PySem.W.Frag} {xs : List Val} {vs : List V} {i : Int} {x : Val} (r : Rvs K ι H xs vs) (h : atV xs i = some x) : ∃ v, atI vs i = some v ∧ Rv K ι H x v := by
  unfold atV at h
  unfold atI
  rw [← r.len]
  simp only [Option.bind_eq_some_iff] at h ⊢
  obtain ⟨j, h1, h2⟩ := h
  obtain ⟨v, h3, h4⟩ := r.get h2
  exact ⟨v, ⟨j, h1, h3⟩, h4⟩
def rIxD : R2 := fun x y H Q => ∃ a v, x = .ref a ∧ DGet H a y (some v) ∧ Q v H
theorem ix_dict (hu : X.A.units + 64 < cLine) : IxR X rIxD := by
  intro value slice pins s σ H x y v u Q I rx ry h hs
  obtain ⟨a, z, rfl, g, q⟩ := h
  cases (show v = Value.ref a from rx)
  exact tail_any (dict_typeIs I g) PySem.F.slot_dict_getitem.lookup (d_getItem (by omega) I g ry fun w' s3 I3 rw' => ⟨z, H, I3, rw', q⟩) hs
theorem ix_ok {ι : List Addr} {S : Sto} {H : Hp} {x y : Val} {v u : V} {Q' : VQ} {Q : VK} (hK : X.K = L.K) (hu : X.A.units + 64 < cLine) (R : Rel L ι S H) (rx : Rv L.K ι H x v) (ry : Rv L.K ι H y u) (w : ixS x y S Q') (post : Post L ι H Q' Q) : rIxA X v u H Q := by
  cases hd : ixD x y S with
  | some z =>
    unfold ixS at w
    simp only [hd] at w
    unfold ixD at hd
    split at hd
    · rename_i n
      simp only [Rv] at rx
      obtain ⟨a, rfl, ha⟩ := rx
      split at hd
      · rename_i kvs k e1 e2
        obtain ⟨ws, h1, h2, h3⟩ := dkOf R ha e1
        rcases getK_val k h2 h3 with ⟨g1, g2⟩ | ⟨x', v', g1, g2, g3⟩
        · rw [g1] at hd; cases hd
        · rw [g1] at hd
          cases hd
          rw [keyOf_rv ry e2]
          exact ⟨_, ix_dict hu, a, v', rfl, by rw [← g2]; exact DGet.k h1, post ι H _ v' S Grow.refl R g3 w⟩
      · cases hd
    · cases hd
  | none =>
  simp only [ixS, hd] at w
  cases y with
  | int i =>
    simp only [Rv] at ry
    subst ry
    have seq : ∀ xs z, itemsOf S x = some xs → atV xs i = some z → Q' z S → rIxA X v (.int i) H Q := fun xs z e e2 w => by
      obtain ⟨a, vs, rfl, h1, h2⟩ := itemsSq R rx e
      obtain ⟨t, h3, h4⟩ := atRv h2 e2
      rcases h1 with h1 | h1
      · exact ⟨_, ix_list, a, vs, i, t, rfl, rfl, by rw [hK]; exact h1, h3, post ι H z t S Grow.refl R h4 w⟩
      · exact ⟨_, ix_tup, a, vs, i, t, rfl, rfl, by rw [hK]; exact h1, h3, post ι H z t S Grow.refl R h4 w⟩
    cases x with
    | str z =>
      obtain ⟨w1, w2⟩ := w
      simp only [Rv] at rx
      subst rx
      cases hc : L2.atI z.cps.toList i with
      | none => rw [hc] at w2; exact w2.elim
      | some c =>
        rw [hc] at w2
        exact ⟨_, ix_str, z, i, c, rfl, rfl, bigle w1, hc, post ι H (.str ⟨#[c]⟩) _ S Grow.refl R (by simp only [Rv]) w2⟩
    | tup zs =>
      simp only [itemsOf] at w
      cases e2 : atV zs i with
      | none => rw [e2] at w; exact w.elim
      | some z => rw [e2] at w; exact seq zs z rfl e2 w
    | loc n =>
      cases e : itemsOf S (.loc n) with
      | none => simp only [e] at w
      | some zs =>
        simp only [e] at w
        cases e2 : atV zs i with
        | none => rw [e2] at w; exact w.elim
        | some z => rw [e2] at w; exact seq zs z e e2 w
    | _ => simp [itemsOf] at w
  | _ => simp at w
theorem se_ix (hK : X.K = L.K) (hu : X.A.units + 64 < cLine) (ha : PE X a (tM X L C ma)) (hb : PE X b (tM X L C mb)) (hp : PlainIx b) : PE X (.Subscript a b pos) (tM X L C (.ix ma mb)) :=
  peImp (pe_ix rIxA_ok ha hb hp) fun σ H Q ⟨ι, ρ, S, Q', E, hρ, R, w, tk, post⟩ => by
    simp only [wpE] at w
    exact ⟨ι, ρ, S, _, E, hρ, R, w, tk, fun ι1 H1 x v S1 g1 R1 r1 w1 => ⟨ι1, ρ, S1, _, E, hρ.mono g1, R1, w1, WXe.grow g1 tk, fun ι2 H2 y u S2 g2 R2 r2 w2 =>
      ix_ok hK hu R2 (r1.mono g2) r2 w2 fun ι3 H3 z t S3 g3 R3 r3 w3 => post ι3 H3 z t S3 (g1.trans (g2.trans g3)) R3 r3 w3⟩⟩
/-- the part of a slice: none or one -/
def tMO (X : Cx) (L : Lk) (C : Cenv) (es : List ME) : TO := fun σ H Q => ∃ ι ρ S Q' E, RelE L.K ι H ρ σ ∧ Rel L ι S H ∧ wpEs C es ρ S Q' E ∧ Takes X (WXe L ι H σ E) ∧
  ∀ ι' H' xs S', Grow L.K ι H ι' H' → Rel L ι' S' H' → Q' xs S' → ∃ o, partS xs = some o ∧ Q o H'
theorem so_none : PO X none (tMO X L C []) := ⟨fun pins s σ H Q I ⟨ι, ρ, S, Q', E, hρ, R, w, tk, post⟩ => po_none.run pins s σ H Q I (by
  simp only [wpEs] at w
  obtain ⟨o, h1, h2⟩ := post ι H [] S Grow.refl R w
  simp only [partS, Option.some.injEq] at h1
  subst h1
  exact h2)⟩
theorem so_some (ha : PE X a (tM X L C ma)) : PO X (some a) (tMO X L C [ma]) := ⟨fun pins s σ H Q I ⟨ι, ρ, S, Q', E, hρ, R, w, tk, post⟩ => (po_some ha).run pins s σ H Q I (by
  rw [wpEs] at w
  refine ⟨ι, ρ, S, _, E, hρ, R, w, tk, fun ι1 H1 x v S1 g1 R1 r1 w1 => ?_⟩
  simp only [wpEs] at w1
  obtain ⟨o, h1, h2⟩ := post ι1 H1 [x] S1 g1 R1 w1
  cases x with
  | int i =>
    simp only [Rv] at r1
    simp only [partS, Option.some.injEq] at h1
    subst h1
    exact ⟨i, r1, h2⟩
  | _ => simp [partS] at h1)⟩
def rSlX (X : Cx) : V → Option Int → Option Int → Hp → VK → Prop := fun x l h H Q => ∃ r, SlR X r ∧ r x l h H Q
theorem rSlX_ok : SlR X (rSlX X) := fun pins s σ H x v vl vu lo hi sl Q I rx hs pl pu ⟨_, o, q⟩ => o pins s σ H x v vl vu lo hi sl Q I rx hs pl pu q
theorem cutRv {ι : List Addr} {H : Hp} {K : PySem.W.Frag} {xs : List Val} {vs : List V} {l h : Option Int} (r : Rvs K ι H xs vs) : Rvs K ι H (cutL xs l h) (cutV vs l h) := by
  unfold cutL cutV
  rw [← r.len]
  exact (r.drop _).take _
theorem sl_ok {ι : List Addr} {S : Sto} {H : Hp} {x : Val} {v : V} {l h : Option Int} {Q' : VQ} {Q : VK} (hK : X.K = L.K) (R : Rel L ι S H) (rx : Rv L.K ι H x v) (w : slS x l h S Q') (post : Post L ι H Q' Q) : rSlX X v l h H Q := by
  unfold slS at w
  cases x with
  | tup xs =>
    simp only [Rv] at rx
    obtain ⟨a, vs, rfl, h1, h2⟩ := rx
    refine ⟨_, sl_tupA, a, vs, rfl, by rw [hK]; exact h1, fun hw => ?_, fun _ p hp => ?_⟩
    · refine post ι H (.tup (cutL xs l h)) _ S Grow.refl R ?_ w
      have ec : cutL xs l h = xs := by
        unfold cutL
        rw [← h2.len] at hw
        rw [hw.1, hw.2]
        simp
      rw [ec]
      simp only [Rv]
      exact ⟨a, vs, rfl, h1, h2⟩
    · refine post ι _ (.tup (cutL xs l h)) _ S (grow_new hp) (R.untold hp) ?_ w
      simp only [Rv]
      exact ⟨p, _, rfl, SqT.of upd_same, Rvs.mono (grow_new hp) _ (cutRv h2)⟩
  | str z =>
    simp only [Rv] at rx
    subst rx
    exact ⟨_, sl_str, z, rfl, bigle w.1, post ι H (.str (cutS z l h)) _ S Grow.refl R (by simp only [Rv]) w.2⟩
  | loc n =>
    simp only [Rv] at rx
    obtain ⟨a, rfl, ha⟩ := rx
    simp only at w
    split at w
    · rename_i xs e
      obtain ⟨vs, h1, h2⟩ := seqOf R ha e
      exact ⟨_, sl_list, a, vs, rfl, by rw [hK]; exact h1, fun p hp => postAlloc R hp post (cutRv h2) w⟩
    · exact w.elim
  | _ => exact w.elim
theorem se_sl {lo hi : Option Expr} {ml mh : List ME} {p2 : Pos} (hK : X.K = L.K) (ha : PE X a (tM X L C ma)) (hl : PO X lo (tMO X L C ml)) (hh : PO X hi (tMO X L C mh)) : PE X (.Subscript a (.Slice lo hi none p2) pos) (tM X L C (.sl ma ml mh)) :=
  peImp (pe_slice rSlX_ok ha hl hh) fun σ H Q ⟨ι, ρ, S, Q', E, hρ, R, w, tk, post⟩ => by
    simp only [wpE] at w
    refine ⟨ι, ρ, S, _, E, hρ, R, w, tk, fun ι1 H1 x v S1 g1 R1 r1 w1 => ⟨ι1, ρ, S1, _, E, hρ.mono g1, R1, w1, WXe.grow g1 tk, fun ι2 H2 xs S2 g2 R2 w2 => ?_⟩⟩
    unfold part at w2
    cases e1 : partS xs with
    | none =>
      rw [e1] at w2
      exact w2.elim
    | some l =>
      rw [e1] at w2
      refine ⟨l, rfl, ι2, ρ, S2, _, E, hρ.mono (g1.trans g2), R2, w2, WXe.grow (g1.trans g2) tk, fun ι3 H3 ys S3 g3 R3 w3 => ?_⟩
      cases e2 : partS ys with
      | none =>
        rw [e2] at w3
        exact w3.elim
      | some h =>
        rw [e2] at w3
        exact ⟨h, rfl, sl_ok hK R3 (r1.mono (g2.trans g3)) w3 fun ι4 H4 z t S4 g4 R4 r4 w4 => post ι4 H4 z t S4 (g1.trans (g2.trans (g3.trans g4))) R4 r4 w4⟩
end
end PM

namespace PM
open PySem PySem.Spec PyProof.Rows L2

section
variable {X : Cx} {L : Lk} {C : Cenv} {e a b c : Expr} {es rest : List Expr} {m ma mb mc : ME} {ms : List ME} {pos p p2 : Pos}
/-! ### types -/
theorem tyx_of {ι : List Addr} {S : Sto} {H : Hp} {x : Val} {v : V} (R : Rel L ι S H) (r : Rv L.K ι H x v) (k : known S x = true) : TyX L.K H v (.type (tyN (tyS S x))) := by
  cases x with
  | non => simp only [Rv] at r; subst r; exact .base .non
  | bl b => simp only [Rv] at r; subst r; exact .base (.bl b)
  | int b => simp only [Rv] at r; subst r; exact .base (.int b)
  | str b => simp only [Rv] at r; subst r; exact .base (.str b)
  | tup xs =>
    simp only [Rv] at r
    obtain ⟨a, vs, rfl, h, _⟩ := r
    rcases h with (h | ⟨o, h⟩) | ⟨o, its, n, h1, h2, _⟩
    · exact .base (.tup h)
    · exact .fTuple h
    · exact .kTuple h1 h2
  | cst n y => simp [known] at k
  | loc n =>
    simp only [Rv] at r
    obtain ⟨a, rfl, ha⟩ := r
    have e : tyN (tyS S (.loc n)) = "list" := by
      simp only [known] at k
      simp only [tyS]
      cases hl : lstAt S n with
      | none => rw [hl] at k; cases k
      | some xs => rfl
    rw [e]
    simp only [known] at k
    unfold lstAt at k
    split at k
    · rename_i ys e
      obtain ⟨vs, e1, _⟩ := R.obj n _ a e ha
      exact .base (.lst e1)
    · rename_i ys e
      obtain ⟨vs, e1, _⟩ := R.obj n _ a e ha
      rcases e1 with ⟨o, e1⟩ | ⟨o, its, n, h1, h2, _⟩
      · exact .base (.frz e1)
      · exact .kList h1 h2
    · cases k
theorem kit_all (S : Sto) (x : Val) (T : Ty) : kitB (tyN (tyS S x)) T.py = some (istS S x T) := by
  have : istS S x T = (match T with | .int => tyS S x == some .int || tyS S x == some .bool | T => tyS S x == some T) := rfl
  rw [this]
  cases tyS S x with
  | none => cases T <;> decide +kernel
  | some t => cases t <;> cases T <;> decide +kernel
theorem boot_ty (T : Ty) : bootBuiltins (Str.ofString T.py) = some (.type T.py) := by cases T <;> decide +kernel
theorem ofTy (T : Ty) {x : Str} (h : x = Str.ofString T.py) : x ≠ "__name__" ∧ (x == ("__debug__" : Str)) = false := by
  subst h
  cases T <;> exact ⟨by decide +kernel, by decide +kernel⟩
theorem pe_tyname {T : Ty} {x : Str} (hx : x = Str.ofString T.py) (hg : Gl X x) (hm : X.mg x = none) : PE X (.Name x p) (tC (.ty T.py)) :=
  pe_bltn hg hm (by rw [hx]; exact boot_ty T) rfl (ofTy T hx).1 (ofTy T hx).2
theorem se_ist {T : Ty} {x : Str} {y : Str} (hK : X.K = L.K) (hy : y = "isinstance") (hgy : Gl X y) (hmy : X.mg y = none) (hx : x = Str.ofString T.py) (hg : Gl X x) (hm : X.mg x = none) (ha : PE X a (tM X L C ma))
    (hs : starEach [a, .Name x p] X.env = (false, eval a X.env) :: starEach [.Name x p] X.env) (hpl : (backTo pos (starEach [.Name x p] X.env)).any (·.1) = false) : PE X (.Call (.Name y p2) [a, .Name x p] [] pos) (tM X L C (.ist ma T)) := by
  subst hy
  exact peImp (pe_callB call_isi hgy hmy (by decide +kernel) (pa_cons ha (pa_cons (pe_tyname hx hg hm) pa_nil rfl) hs) (by decide) (by decide) hs hpl) fun σ H Q ⟨ι, ρ, S, Q', E, hρ, R, w, tk, post⟩ => by
    simp only [wpE] at w
    refine ⟨ι, ρ, S, _, E, hρ, R, w, tk, fun ι1 H1 x v S1 g1 R1 r1 w1 => ?_⟩
    refine ⟨v, .ty T.py, .type (tyN (tyS S1 x)), .type T.py, _, rfl, .ty _, by rw [hK]; exact tyx_of R1 r1 w1.1, kit_ty (kit_all S1 x T), ?_⟩
    exact post ι1 H1 (.bl _) _ S1 g1 R1 (by simp only [Rv]) w1.2

/-! ### builtins -/
def rBiA (X : Cx) (f : Value) : List V → Hp → VK → Prop := fun xs H Q => ∃ r, CallR X f r ∧ r xs H Q
theorem rBiA_ok {f : Value} : CallR X f (rBiA X f) := fun pins s σ H xs us Q I rx ⟨_, o, q⟩ => o pins s σ H xs us Q I rx q
theorem bls_of {ι : List Addr} {H : Hp} {K : PySem.W.Frag} : ∀ {xs : List Val} {vs : List V} {bs : List Bool}, Rvs K ι H xs vs → blS xs = some bs → vs = bs.map V.bl
  | [], vs, bs, r, h => by
    simp only [Rvs] at r
    simp only [blS, Option.some.injEq] at h
    subst r h
    rfl
  | x :: xs, vs, bs, r, h => by
    simp only [Rvs] at r
    obtain ⟨v, ws, rfl, h1, h2⟩ := r
    cases x with
    | bl b =>
      simp only [blS, Option.map_eq_some_iff] at h
      obtain ⟨cs, h3, rfl⟩ := h
      simp only [Rv] at h1
      rw [h1, bls_of h2 h3]
      rfl
    | _ => simp [blS] at h
theorem one_of {ι : List Addr} {H : Hp} {K : PySem.W.Frag} {x : Val} {vs : List V} (r : Rvs K ι H [x] vs) : ∃ v, vs = [v] ∧ Rv K ι H x v := by
  simp only [Rvs] at r
  obtain ⟨v, ws, rfl, h1, rfl⟩ := r
  exact ⟨v, rfl, h1⟩
theorem two_of {ι : List Addr} {H : Hp} {K : PySem.W.Frag} {x y : Val} {vs : List V} (r : Rvs K ι H [x, y] vs) : ∃ v u, vs = [v, u] ∧ Rv K ι H x v ∧ Rv K ι H y u := by
  simp only [Rvs] at r
  obtain ⟨v, ws, rfl, h1, u, ws2, rfl, h2, rfl⟩ := r
  exact ⟨v, u, rfl, h1, h2⟩
theorem prS_ok {ι : List Addr} {H : Hp} {K : PySem.W.Frag} : ∀ {xs : List Val} {vs : List V} {ps : List (Int × Int)}, Rvs K ι H xs vs → prS xs = some ps → Paired (prT K H) vs ps ∧ xs = ps.map pV
  | [], vs, ps, r, h => by
    simp only [Rvs] at r
    simp only [prS, Option.some.injEq] at h
    subst r h
    exact ⟨.nil, rfl⟩
  | x :: xs, vs, ps, r, h => by
    unfold prS at h
    split at h
    · rename_i e; cases e
    · rename_i a b r' e
      cases e
      simp only [Option.map_eq_some_iff] at h
      obtain ⟨qs, h3, rfl⟩ := h
      simp only [Rvs] at r
      obtain ⟨v, ws, rfl, h1, h2⟩ := r
      have ih := prS_ok h2 h3
      refine ⟨.cons ?_ ih.1, by rw [ih.2]; rfl⟩
      simp only [Rv, Rvs] at h1
      obtain ⟨p, us, rfl, hq, v1, w1, rfl, rfl, v2, w2, rfl, rfl, rfl⟩ := h1
      exact ⟨p, rfl, hq⟩
    · cases h
theorem prT_of {ι : List Addr} {H : Hp} {K : PySem.W.Frag} {a b : Int} {v : V} (h1 : Rv K ι H (.tup [.int a, .int b]) v) : prT K H v (a, b) := by
  simp only [Rv, Rvs] at h1
  obtain ⟨p, us, rfl, hq, v1, w1, rfl, rfl, v2, w2, rfl, rfl, rfl⟩ := h1
  exact ⟨p, rfl, hq⟩
theorem pV_of {ι : List Addr} {H : Hp} {K : PySem.W.Frag} {p : Int × Int} {v : V} (h : prT K H v p) : Rv K ι H (pV p) v := by
  obtain ⟨a, rfl, h⟩ := h
  simp only [pV, Rv, Rvs]
  exact ⟨a, _, rfl, h, _, _, rfl, rfl, _, _, rfl, rfl, rfl⟩
theorem bi_ok {f : Bi} {ι : List Addr} {S : Sto} {H : Hp} {xs : List Val} {vs : List V} {Q' : VQ} {Q : VK} (hK : X.K = L.K) (hc : X.calm = true) (hu : X.A.units + 64 < cLine) (R : Rel L ι S H) (r : Rvs L.K ι H xs vs) (w : biS f xs S Q') (post : Post L ι H Q' Q) : rBiA X f.fv vs H Q := by
  unfold biS at w
  split at w
  · rename_i x
    obtain ⟨v, rfl, r1⟩ := one_of r
    split at w
    · simp only [Rv] at r1
      subst r1
      exact ⟨_, call_len, _, _, rfl, ⟨bigle w.1, rfl⟩, post ι H (.int _) _ S Grow.refl R (by simp only [Rv]) w.2⟩
    · split at w
      · rename_i ys e
        obtain ⟨a, us, rfl, h1, h2⟩ := itemsSq R r1 e
        refine ⟨_, call_len_seq, a, us, rfl, by rw [hK]; exact h1, ?_⟩
        rw [← h2.len]
        exact post ι H (.int _) _ S Grow.refl R (by simp only [Rv]) w
      · exact w.elim
  · obtain ⟨v, rfl, r1⟩ := one_of r
    simp only [Rv] at r1
    subst r1
    exact ⟨_, call_int1, .inl ⟨_, rfl, post ι H (.int _) _ S Grow.refl R (by simp only [Rv]) w⟩⟩
  · obtain ⟨v, rfl, r1⟩ := one_of r
    simp only [Rv] at r1
    subst r1
    exact ⟨_, call_int1, .inr ⟨_, rfl, post ι H (.int _) _ S Grow.refl R (by simp only [Rv]) w⟩⟩
  · obtain ⟨v, rfl, r1⟩ := one_of r
    simp only [Rv] at r1
    subst r1
    split at w
    · rename_i n e
      exact ⟨_, call_int_str, _, _, rfl, e, w.1, post ι H (.int _) _ S Grow.refl R (by simp only [Rv]) w.2⟩
    · exact w.elim
  · obtain ⟨v, rfl, r1⟩ := one_of r
    simp only [Rv] at r1
    subst r1
    exact ⟨_, call_abs, _, rfl, post ι H (.int _) _ S Grow.refl R (by simp only [Rv]) w⟩
  · obtain ⟨v, u, rfl, r1, r2⟩ := two_of r
    simp only [Rv] at r1 r2
    subst r1 r2
    exact ⟨_, call_min2 hc, _, _, rfl, post ι H (.int _) _ S Grow.refl R (by simp only [Rv]) w⟩
  · obtain ⟨v, u, rfl, r1, r2⟩ := two_of r
    simp only [Rv] at r1 r2
    subst r1 r2
    exact ⟨_, call_max2 hc, _, _, rfl, post ι H (.int _) _ S Grow.refl R (by simp only [Rv]) w⟩
  · obtain ⟨v, rfl, r1⟩ := one_of r
    simp only [Rv] at r1
    subst r1
    exact ⟨_, call_str_int, _, rfl, w.1, post ι H (.str _) _ S Grow.refl R (by simp only [Rv]) w.2⟩
  · obtain ⟨v, rfl, r1⟩ := one_of r
    simp only [Rv] at r1
    subst r1
    exact ⟨_, SkE.call_str_str, _, rfl, post ι H (.str _) _ S Grow.refl R (by simp only [Rv]) w⟩
  · obtain ⟨v, rfl, r1⟩ := one_of r
    have r1' := r1
    simp only [Rv] at r1
    obtain ⟨a, us, rfl, h1, h2⟩ := r1
    exact ⟨_, call_tupleT, a, us, rfl, by rw [hK]; exact h1, post ι H _ _ S Grow.refl R r1' w⟩
  · rename_i n
    obtain ⟨v, rfl, r1⟩ := one_of r
    simp only [Rv] at r1
    obtain ⟨a, rfl, ha⟩ := r1
    split at w
    · rename_i ys e
      obtain ⟨us, h1, h2⟩ := seqOf R ha e
      refine ⟨_, call_tuple_of, a, us, rfl, .inl ⟨by rw [hK]; exact h1, fun p hp => ?_⟩⟩
      refine post ι _ (.tup ys) _ S (grow_new hp) (R.untold hp) ?_ w
      simp only [Rv]
      exact ⟨p, us, rfl, SqT.of upd_same, Rvs.mono (grow_new hp) _ h2⟩
    · exact w.elim
  · obtain ⟨v, rfl, r1⟩ := one_of r
    split at w
    · rename_i ys e
      obtain ⟨a, us, rfl, h1, h2⟩ := itemsSq R r1 e
      exact ⟨_, call_list_of, a, us, rfl, by rw [hK]; exact h1, fun p hp => postAlloc R hp post h2 w⟩
    · exact w.elim
  · rename_i n
    obtain ⟨v, rfl, r1⟩ := one_of r
    simp only [Rv] at r1
    obtain ⟨a, rfl, ha⟩ := r1
    split at w
    · rename_i bs e
      simp only [Option.bind_eq_some_iff] at e
      obtain ⟨ys, e1, e2⟩ := e
      obtain ⟨us, h1, h2⟩ := seqOf R ha e1
      have := bls_of h2 e2
      subst this
      exact ⟨_, cr_all hc, a, bs, rfl, by rw [hK]; exact h1, post ι H (.bl _) _ S Grow.refl R (by simp only [Rv]) w⟩
    · exact w.elim
  · rename_i n
    obtain ⟨v, rfl, r1⟩ := one_of r
    simp only [Rv] at r1
    obtain ⟨a, rfl, ha⟩ := r1
    split at w
    · rename_i bs e
      simp only [Option.bind_eq_some_iff] at e
      obtain ⟨ys, e1, e2⟩ := e
      obtain ⟨us, h1, h2⟩ := seqOf R ha e1
      have := bls_of h2 e2
      subst this
      exact ⟨_, cr_any hc, a, bs, rfl, by rw [hK]; exact h1, post ι H (.bl _) _ S Grow.refl R (by simp only [Rv]) w⟩
    · exact w.elim
  · obtain ⟨v, rfl, r1⟩ := one_of r
    simp only [Rv] at r1
    subst r1
    exact ⟨_, call_ord, _, rfl, w.1, post ι H (.int _) _ S Grow.refl R (by simp only [Rv]) w.2⟩
  · rename_i a b c d
    obtain ⟨v, u, rfl, r1, r2⟩ := two_of r
    have p1 := prT_of r1
    have p2 := prT_of r2
    refine ⟨_, call_max2P hc hu, v, u, (a, b), (c, d), rfl, by rw [hK]; exact p1, by rw [hK]; exact p2, post ι H (pV _) _ S Grow.refl R ?_ w⟩
    by_cases hp : pltB (a, b) (c, d) = true
    · rw [if_pos hp, if_pos hp]; exact pV_of p2
    · rw [if_neg hp, if_neg hp]; exact pV_of p1
  · rename_i n
    obtain ⟨v, rfl, r1⟩ := one_of r
    simp only [Rv] at r1
    obtain ⟨a, rfl, ha⟩ := r1
    split at w
    · rename_i p ps e
      simp only [Option.bind_eq_some_iff] at e
      obtain ⟨ys, e1, e2⟩ := e
      obtain ⟨us, h1, h2⟩ := seqOf R ha e1
      have hp := prS_ok h2 e2
      exact ⟨_, call_max1P hc hu, a, us, p, ps, rfl, by rw [hK]; exact h1, by rw [hK]; exact hp.1, fun z hz hq => post ι H (pV _) _ S Grow.refl R (pV_of (by rw [hK] at hq; exact hq)) w⟩
    · exact w.elim
  · rename_i n
    obtain ⟨v, rfl, r1⟩ := one_of r
    simp only [Rv] at r1
    obtain ⟨a, rfl, ha⟩ := r1
    split at w
    · rename_i kvs e
      obtain ⟨ws, h1, h2, h3⟩ := dkOf R ha e
      refine ⟨_, call_dictD, a, ws, rfl, .inl h1, fun p hp => ?_⟩
      have g : Grow L.K ι H (ι ++ [p]) (upd H p (.dK ws)) := grow_ext hp p
      refine post (ι ++ [p]) _ (.loc S.length) (.ref p) (S ++ [.dK kvs]) g (R.alloc (ob := .dK kvs) hp ⟨ws, upd_same, h2, Rvs.mono g _ h3⟩) ?_ w
      simp only [Rv]
      refine ⟨p, rfl, ?_⟩
      rw [List.getElem?_append_right (by rw [R.len]; exact Nat.le_refl _), R.len]
      simp
    · exact w.elim
  · exact w.elim
theorem bi_boot (f : Bi) : bootBuiltins f.nm = some f.fv := by cases f <;> decide +kernel
theorem bi_nm (f : Bi) : f.nm ≠ "__name__" ∧ (f.nm == ("__debug__" : Str)) = false := by cases f <;> exact ⟨by decide +kernel, by decide +kernel⟩
theorem se_bi {f : Bi} {x : Str} (hK : X.K = L.K) (hc : X.calm = true) (hu : X.A.units + 64 < cLine) (hx : x = f.nm) (hg : Gl X x) (hm : X.mg x = none) (ha : PA X (e :: es) (tMs X L C ms))
    (he : starEach (e :: es) X.env = (false, eval e X.env) :: starEach es X.env) (hpl : (backTo pos (starEach es X.env)).any (·.1) = false) : PE X (.Call (.Name x p) (e :: es) [] pos) (tM X L C (.bi f ms)) := by
  subst hx
  have h : PE X (.Call (.Name f.nm p) (e :: es) [] pos) (tCB (rBiA X f.fv) (tMs X L C ms)) := by
    have hb := bi_boot f
    have hn := bi_nm f
    have ok := rBiA_ok (X := X) (f := f.fv)
    generalize hq : f.nm = q at *
    generalize hv : f.fv = fv at *
    have : (∃ id, fv = .builtin id) ∨ ∃ T, fv = .type T := by
      subst hv
      cases f <;> first | exact .inl ⟨_, rfl⟩ | exact .inr ⟨_, rfl⟩
    rcases this with ⟨id, rfl⟩ | ⟨T, rfl⟩
    · exact pe_callB ok hg hm hb ha hn.1 hn.2 he hpl
    · exact pe_callTy ok hg hm hb ha hn.1 hn.2 he hpl
  exact peImp h fun σ H Q ⟨ι, ρ, S, Q', E, hρ, R, w, tk, post⟩ => by
    simp only [wpE] at w
    exact ⟨ι, ρ, S, _, E, hρ, R, w, tk, fun ι1 H1 xs vs S1 g1 R1 r1 _ w1 => bi_ok hK hc hu R1 r1 w1 fun ι2 H2 z t S2 g2 R2 r2 w2 => post ι2 H2 z t S2 (g1.trans g2) R2 r2 w2⟩

/-! ### calls of defs -/
/-- what a def of the program promises, by what a call asks -/
def spC (L : Lk) (C : Cenv) (i : Nat) : Sp := fun vs H Q E => ∃ ι xs S Q' E', Rel L ι S H ∧ Rvs L.K ι H xs vs ∧ C.call i xs S Q' E' ∧ Post L ι H Q' Q ∧
  ∀ ι' H' S' c vs d, Grow L.K ι H ι' H' → Rel L ι' S' H' → XdOk L H' c vs d → E' c vs S' → E (L.xc c) d H'
structure Callee (X : Cx) (L : Lk) (C : Cenv) (i : Nat) (x : Str) : Prop where
  ex : ∃ (f : Addr) (fd : FuncData) (ps : List Str) (k : Nat), X.mg x = some (.ref f) ∧ PySem.W.keepIn X.K (.ref f) = true ∧ FnOk X.prog X.w X.K X.mg X.base (L2.CX X.prog X.w) k f fd ps (spC L C i) ∧ Binds X.K fd ps [] ∧ Room k X.A
theorem call_go {i : Nat} {f : Addr} {fd : FuncData} {ps : List Str} {k : Nat} {pins : List (Addr × Obj)} {s : Shared} {σ : L2.St} {H : Hp} {ι : List Addr} {S : Sto} {xs : List Val} {vs : List V} {us : List Value} {Q' : VQ} {E : XQ} {Q : VK}
    (F : FnOk X.prog X.w X.K X.mg X.base (L2.CX X.prog X.w) k f fd ps (spC L C i)) (hb : Binds X.K fd ps []) (hr : Room k X.A) (I : Inv X pins σ H s) (rv : Vals vs us) (R : Rel L ι S H) (r : Rvs L.K ι H xs vs) (w : C.call i xs S Q' E) (tk : Takes X (WXe L ι H σ E)) (post : Post L ι H Q' Q) :
    wpAny (model X.prog X.w) X.A (call (.ref f) us) (EP X pins σ Q) X.xe s := by
  refine run_fnS (E := fun σ => WE (WXe L ι H σ E) σ) F hr hb ?_ I rv ?_
  · exact passAt tk σ
  · exact ⟨ι, xs, S, Q', E, R, r, w, post, fun ι' H' S' c vs d g R' xd e => ⟨rfl, ι', S', c, vs, g, R', rfl, xd, e⟩⟩
theorem se_call {i : Nat} {x : Str} (F : Callee X L C i x) (hg : Gl X x) (hd : (x == ("__debug__" : Str)) = false) (ha : PA X (e :: es) (tMs X L C ms))
    (he : starEach (e :: es) X.env = (false, eval e X.env) :: starEach es X.env) (hpl : (backTo pos (starEach es X.env)).any (·.1) = false) : PE X (.Call (.Name x p) (e :: es) [] pos) (tM X L C (.call i ms)) := by
  obtain ⟨f, fd, ps, k, hm, hk, F, hb, hr⟩ := F.ex
  refine ⟨fun pins s σ H Q I ⟨ι, ρ, S, Q', E, hρ, R, w, tk, post⟩ => ?_⟩
  simp only [wpE] at w
  refine wpAny_Call_Name_kw (ld_glob I hg hm ?_ hd)
  have hq : tMs X L C ms σ H (fun vs H1 => ∃ ι1 xs S1, Grow L.K ι H ι1 H1 ∧ Rel L ι1 S1 H1 ∧ Rvs L.K ι1 H1 xs vs ∧ C.call i xs S1 Q' E) :=
    ⟨ι, ρ, S, _, E, hρ, R, w, tk, fun ι1 H1 xs vs S1 g1 R1 r1 _ w1 => ⟨ι1, xs, S1, g1, R1, r1, w1⟩⟩
  refine PySem.W.callWith_K (h₀ := X.base) I.ok.mod.kin hk (thn (ha.run pos pins s σ H _ I hq) fun us s1 ⟨vs, H1, I1, r, ι1, xs, S1, g1, R1, r1, w1⟩ => ⟨I1.kIn, ?_⟩) he hpl
  exact call_go F hb hr I1 r R1 r1 w1 (WXe.grow g1 tk) fun ι2 H2 z t S2 g2 R2 r2 w2 => post ι2 H2 z t S2 (g1.trans g2) R2 r2 w2
theorem se_call0 {i : Nat} {x : Str} (F : Callee X L C i x) (hg : Gl X x) (hd : (x == ("__debug__" : Str)) = false) : PE X (.Call (.Name x p) [] [] pos) (tM X L C (.call i [])) := by
  obtain ⟨f, fd, ps, k, hm, hk, F, hb, hr⟩ := F.ex
  refine ⟨fun pins s σ H Q I ⟨ι, ρ, S, Q', E, hρ, R, w, tk, post⟩ => ?_⟩
  simp only [wpE, wpEs] at w
  refine wpAny_Call_Name_kw (ld_glob I hg hm ?_ hd)
  exact PySem.W.callWith_K0 I.kIn hk (call_go (us := []) F hb hr I .nil R Rvs.nil w tk post)
end
end PM

namespace PM
open PySem PySem.Spec PyProof.Rows L2
open PySem.TypeEq
theorem slot_type_ne : Slot "type" (cmpInfo .NotEq).2.1 "object.__ne__" :=
  .of (owner := "object") (n := "__ne__") (by rw [typeLookup_type, builtinLookup_eq_fast]; kernel_rfl) (by decide +kernel) (by decide +kernel) (by decide +kernel)
    (by first | exact .inl (by decide +kernel) | exact .inr (by decide +kernel)) (by rw [isSubtype_type]; kernel_rfl)
theorem slot_type_ne_refl : Slot "type" (cmpInfo .NotEq).2.2 "object.__ne__" :=
  .of (owner := "object") (n := "__ne__") (by rw [typeLookup_type, builtinLookup_eq_fast]; kernel_rfl) (by decide +kernel) (by decide +kernel) (by decide +kernel)
    (by first | exact .inl (by decide +kernel) | exact .inr (by decide +kernel)) (by rw [isSubtype_type]; kernel_rfl)
theorem slot_type_eq' : Slot "type" "__eq__" "object.__eq__" := slot_type_eq

theorem object_ne_same {X : String} (hX : ∀ s' : Shared, s'.TypeIs (.type X) "type") : Gives (Builtin.«object.__ne__» ⟨[.type X, .type X], []⟩) (.val (.bool false)) := by
  intro prog w A R s h
  unfold Builtin.«object.__ne__»
  repeat (first
    | (refine wpAny_bind (m := callSpecialIfBound? (.type X) (Str.ofString "__eq__") [.type X])
        (wpAny_callSpecialIfBound?_slot (hX s) slot_type_eq' (call_gives slot_type_eq (hX s) F.entry_object_eq (F.args_object_eq_2 _ _) (object_eq_same rfl (by simp)) ?_)))
    | wp_step)
  refine wpAny_bind (wpAny_truthy_bool ?_)
  exact wpAny_pure h
theorem object_ne_other {X Y : String} (hX : ∀ s' : Shared, s'.TypeIs (.type X) "type") (hne : (Value.type X == Value.type Y) = false) : Gives (Builtin.«object.__ne__» ⟨[.type X, .type Y], []⟩) (.val .notImplemented) := by
  intro prog w A R s h
  unfold Builtin.«object.__ne__»
  repeat (first
    | (refine wpAny_bind (m := callSpecialIfBound? (.type X) (Str.ofString "__eq__") [.type Y])
        (wpAny_callSpecialIfBound?_slot (hX s) slot_type_eq' (call_gives slot_type_eq (hX s) F.entry_object_eq (F.args_object_eq_2 _ _) (object_eq_other rfl hne) ?_)))
    | wp_step)
  exact wpAny_pure h
theorem ne_same_decline {M : Model} {A : Around} {E : Value → Shared → Prop} {s : Shared} {a b : Value} {T id : String} {k : Bool} {Q : Value → Shared → Prop} (ha : ∀ s' : Shared, s'.TypeIs a T) (hb : ∀ s' : Shared, s'.TypeIs b T)
    (h1 : Slot T (cmpInfo .NotEq).2.1 id) (h2 : Slot T (cmpInfo .NotEq).2.2 id) (hv : [a, b].any Value.onHeap = false) (hk : isSame a b = pure k)
    (hc : wpAny M A (call (.builtin id) [a, b]) (fun v s₁ => v = .notImplemented ∧ wpAny M A (call (.builtin id) [b, a]) (fun v s₂ => v = .notImplemented ∧ Q (.bool (!k)) s₂) E s₁) E s) :
    wpAny M A (richCompare .NotEq a b) Q E s := by
  rcases hi : cmpInfo CmpOp.NotEq with ⟨sym, f, r⟩
  rw [hi] at h1 h2
  simp only [richCompare, hi, (ha s).oneThing_none]
  try with_reducible refine wpAny_holding ?_
  refine wpAny_bind (wpAny_cRoomFor_or (.inl hv) ?_)
  refine wpAny_bind (wpAny_typeOf (ha s) (wpAny_bind (wpAny_typeOf (hb s) ?_)))
  simp only [bne_self_eq_false, Bool.false_eq_true, if_false, pure_bind, Bool.not_false, if_true]
  refine wpAny_bind (m := tryCompare a _ b) (wpAny_tryCompare_declines (ha s) h1 (wpAny_mono hc (fun v s₁ h₁ => ⟨h₁.1, ?_⟩) fun _ _ x => x))
  refine wpAny_bind (m := tryCompare b _ a) (wpAny_tryCompare_declines (hb s₁) h2 (wpAny_mono h₁.2 (fun v s₂ h₂ => ⟨h₂.1, ?_⟩) fun _ _ x => x))
  refine wpAny_bind (wpAny_rule (wpAny_bind (wpAny_of_eq hk (wpAny_pure h₂.2))))
section
variable {prog : Program} {w : World} {A : Around} {E : Value → Shared → Prop} {s : Shared} {Q : Value → Shared → Prop}
theorem ne_type_same {X : String} (hX : ∀ s' : Shared, s'.TypeIs (.type X) "type") (h : Q (.bool false) s) : wpAny (model prog w) A (compareOp .NotEq (.type X) (.type X)) Q E s := by
  show wpAny _ A (richCompare .NotEq _ _) Q E s
  exact wpAny_richCompare_same (T := "type") (hX s) (hX s) slot_type_ne
    (call_gives slot_type_ne (hX s) F.cmpEntry_ne (F.cmpArgs_ne _ _) (object_ne_same hX) ⟨(by intro e; cases e), h⟩)
theorem ne_type_other {X Y : String} (hX : ∀ s' : Shared, s'.TypeIs (.type X) "type") (hY : ∀ s' : Shared, s'.TypeIs (.type Y) "type") (hne : (Value.type X == Value.type Y) = false) (h : Q (.bool true) s) : wpAny (model prog w) A (compareOp .NotEq (.type X) (.type Y)) Q E s := by
  have hne' : (Value.type Y == Value.type X) = false := by
    rw [Bool.eq_false_iff] at hne ⊢
    intro e
    exact hne (by rw [beq_iff_eq] at e ⊢; exact e.symm)
  show wpAny _ A (richCompare .NotEq _ _) Q E s
  exact ne_same_decline (T := "type") (k := false) hX hY slot_type_ne slot_type_ne_refl rfl (by rw [isSame_plain rfl, hne])
    (call_gives slot_type_ne (hX s) F.cmpEntry_ne (F.cmpArgs_ne _ _) (object_ne_other hX hne)
      ⟨rfl, call_gives slot_type_ne_refl (hY s) F.cmpEntry_ne (F.cmpArgs_ne _ _) (object_ne_other hY hne') ⟨rfl, h⟩⟩)
end
theorem meta_all (T : Option Ty) (s' : Shared) : s'.TypeIs (.type (tyN T)) "type" := by
  cases T with
  | none => exact meta_NoneType s'
  | some t => cases t <;> first | exact meta_int s' | exact meta_bool s' | exact meta_str s' | exact meta_tuple s' | exact meta_list s'
theorem tyN_ne (a b : Option Ty) (h : a ≠ b) : (Value.type (tyN a) == Value.type (tyN b)) = false := by
  cases a with
  | none => cases b with
    | none => exact absurd rfl h
    | some t => cases t <;> decide +kernel
  | some u => cases b with
    | none => cases u <;> decide +kernel
    | some t => cases u <;> cases t <;> first | (exact absurd rfl h) | decide +kernel
section
variable {X : Cx} {L : Lk} {C : Cenv} {a : Expr} {ma : ME} {pos p p2 p3 : Pos}
/-- == and != of two built-in classes -/
theorem op_eqTy : OpR X (compareOp .Eq) (fun x y H Q => ∃ a b : Option Ty, x = .ty (tyN a) ∧ y = .ty (tyN b) ∧ Q (.bl (a == b)) H) := by
  intro pins s σ H x y v u Q I rx ry h
  obtain ⟨a, b, rfl, rfl, q⟩ := h
  cases (show v = Value.type (tyN a) from rx)
  cases (show u = Value.type (tyN b) from ry)
  by_cases e : a = b
  · subst e
    exact eq_type_same (meta_all a) ⟨.bl true, H, I, rfl, by simpa using q⟩
  · exact eq_type_other (meta_all a) (meta_all b) (tyN_ne a b e) ⟨.bl false, H, I, rfl, by rw [show (a == b) = false from beq_false_of_ne e] at q; exact q⟩
theorem op_neTy : OpR X (compareOp .NotEq) (fun x y H Q => ∃ a b : Option Ty, x = .ty (tyN a) ∧ y = .ty (tyN b) ∧ Q (.bl (!(a == b))) H) := by
  intro pins s σ H x y v u Q I rx ry h
  obtain ⟨a, b, rfl, rfl, q⟩ := h
  cases (show v = Value.type (tyN a) from rx)
  cases (show u = Value.type (tyN b) from ry)
  by_cases e : a = b
  · subst e
    exact ne_type_same (meta_all a) ⟨.bl false, H, I, rfl, by simpa using q⟩
  · exact ne_type_other (meta_all a) (meta_all b) (tyN_ne a b e) ⟨.bl true, H, I, rfl, by rw [show (a == b) = false from beq_false_of_ne e] at q; exact q⟩
/-- type(x) -/
theorem call_typeA (S : Sto) (ι : List Addr) : CallR X (.type "type") (fun xs H Q => ∃ (L : Lk) (S : Sto) (ι : List Addr) (x : Val) (v : V), xs = [v] ∧ X.K = L.K ∧ Rel L ι S H ∧ Rv L.K ι H x v ∧ known S x = true ∧ Q (.ty (tyN (tyS S x))) H) := by
  intro pins s σ H xs us Q I r h
  obtain ⟨L, S, ι, x, v, rfl, hK, R, rv, k, q⟩ := h
  obtain ⟨u, rfl, rx⟩ := vals1 r
  have nb : ∀ T : Option Ty, (Value.type (tyN T) == Value.type "builtin_function_or_method") = false := fun T => by
    cases T with
    | none => decide +kernel
    | some t => cases t <;> decide +kernel
  have go : ∀ {s1 : Shared}, s1 = s → s1.TypeIs u (tyN (tyS S x)) → wpAny (model X.prog X.w) X.A (call (.type "type") [u]) (EP X pins σ Q) X.xe s := fun {s1} e t => by
    subst e
    exact call_type_of t (nb _) ⟨.ty _, H, I, rfl, q⟩
  cases x with
  | non => simp only [Rv] at rv; subst rv; cases rx; exact go rfl (show s.TypeIs Value.none "NoneType" from rfl)
  | bl b => simp only [Rv] at rv; subst rv; cases rx; exact go rfl (show s.TypeIs (Value.bool b) "bool" from rfl)
  | int b => simp only [Rv] at rv; subst rv; obtain ⟨t, rfl⟩ := rx; exact go rfl (show s.TypeIs (Value.int b t) "int" from rfl)
  | str b => simp only [Rv] at rv; subst rv; obtain ⟨t, rfl⟩ := rx; exact go rfl (show s.TypeIs (Value.str b t) "str" from rfl)
  | tup ys =>
    simp only [Rv] at rv
    obtain ⟨a, vs, rfl, h1, _⟩ := rv
    cases rx
    obtain ⟨its, _, p, _⟩ := I.tuple (by rw [hK]; exact h1)
    exact go rfl p.typeIs
  | cst n y => simp [known] at k
  | loc n =>
    simp only [Rv] at rv
    obtain ⟨a, rfl, ha⟩ := rv
    cases rx
    simp only [known] at k
    cases hl : lstAt S n with
    | none => rw [hl] at k; cases k
    | some ys =>
      obtain ⟨vs, h1, _⟩ := seqOf R ha hl
      obtain ⟨its, _, p, _⟩ := I.list (by rw [hK]; exact h1)
      refine go rfl ?_
      simp only [tyS, hl]
      exact p.isList.typeIs
end
end PM

namespace PM
open PySem PySem.Spec PyProof.Rows L2
open RZ (ItzT pi_zipA)

section
variable {X : Cx} {L : Lk} {C : Cenv} {e a b c : Expr} {es rest : List Expr} {m ma mb mc : ME} {ms : List ME} {pos p p2 p3 : Pos}
/-! ### type(x) == T -/
theorem se_tyc {k : Bool} {T : Ty} {x y : Str} (hK : X.K = L.K) (hy : y = "type") (hgy : Gl X y) (hmy : X.mg y = none) (hx : x = Str.ofString T.py) (hg : Gl X x) (hm : X.mg x = none) (ha : PE X a (tM X L C ma))
    (hs : starEach [a] X.env = (false, eval a X.env) :: starEach [] X.env) (hpl : (backTo p2 (starEach [] X.env)).any (·.1) = false) :
    PE X (.Compare (.Call (.Name y p) [a] [] p2) [if k then .Eq else .NotEq] [.Name x p3] pos) (tM X L C (.tyc k ma T)) := by
  subst hy
  have ht : PE X (.Call (.Name "type" p) [a] [] p2) _ := pe_callTy (call_typeA [] []) hgy hmy (by decide +kernel) (pa_cons ha pa_nil hs) (by decide) (by decide) hs hpl
  have hn : PE X (.Name x p3) _ := pe_tyname hx hg hm
  cases k with
  | true =>
    exact peImp (pe_cmpR op_eqTy ht hn (nomark _)) fun σ H Q ⟨ι, ρ, S, Q', E, hρ, R, w, tk, post⟩ => by
      simp only [wpE] at w
      refine ⟨ι, ρ, S, _, E, hρ, R, w, tk, fun ι1 H1 x v S1 g1 R1 r1 w1 => ?_⟩
      exact ⟨L, S1, ι1, x, v, rfl, hK, R1, r1, w1.1, tyS S1 x, some T, rfl, rfl, post ι1 H1 (.bl _) _ S1 g1 R1 (by simp only [Rv]; rfl) w1.2⟩
  | false =>
    exact peImp (pe_cmpR op_neTy ht hn (nomark _)) fun σ H Q ⟨ι, ρ, S, Q', E, hρ, R, w, tk, post⟩ => by
      simp only [wpE] at w
      refine ⟨ι, ρ, S, _, E, hρ, R, w, tk, fun ι1 H1 x v S1 g1 R1 r1 w1 => ?_⟩
      exact ⟨L, S1, ι1, x, v, rfl, hK, R1, r1, w1.1, tyS S1 x, some T, rfl, rfl, post ι1 H1 (.bl _) _ S1 g1 R1 (by simp only [Rv]; rfl) w1.2⟩
theorem se_tyc_t {k : Bool} {T : Ty} {x y : Str} (hK : X.K = L.K) (hy : y = "type") (hgy : Gl X y) (hmy : X.mg y = none) (hx : x = Str.ofString T.py) (hg : Gl X x) (hm : X.mg x = none) (ha : PE X a (tM X L C ma))
    (hs : starEach [a] X.env = (false, eval a X.env) :: starEach [] X.env) (hpl : (backTo p2 (starEach [] X.env)).any (·.1) = false) :
    PT X (.Compare (.Call (.Name y p) [a] [] p2) [if k then .Eq else .NotEq] [.Name x p3] pos) (tMT X L C (.tyc k ma T)) := by
  subst hy
  have ht : PE X (.Call (.Name "type" p) [a] [] p2) _ := pe_callTy (call_typeA [] []) hgy hmy (by decide +kernel) (pa_cons ha pa_nil hs) (by decide) (by decide) hs hpl
  have hn : PE X (.Name x p3) _ := pe_tyname hx hg hm
  cases k with
  | true =>
    exact ptImp (pt_cmpR op_eqTy ht hn (nomark _)) fun σ H Q ⟨ι, ρ, S, Q', E, hρ, R, w, tk, post⟩ => by
      simp only [wpE] at w
      refine ⟨ι, ρ, S, _, E, hρ, R, w, tk, fun ι1 H1 x v S1 g1 R1 r1 w1 => ?_⟩
      exact ⟨L, S1, ι1, x, v, rfl, hK, R1, r1, w1.1, tyS S1 x, some T, rfl, rfl, _, rfl, post ι1 H1 (.bl _) (.bl _) S1 g1 R1 (by simp only [Rv]; rfl) w1.2⟩
  | false =>
    exact ptImp (pt_cmpR op_neTy ht hn (nomark _)) fun σ H Q ⟨ι, ρ, S, Q', E, hρ, R, w, tk, post⟩ => by
      simp only [wpE] at w
      refine ⟨ι, ρ, S, _, E, hρ, R, w, tk, fun ι1 H1 x v S1 g1 R1 r1 w1 => ?_⟩
      exact ⟨L, S1, ι1, x, v, rfl, hK, R1, r1, w1.1, tyS S1 x, some T, rfl, rfl, _, rfl, post ι1 H1 (.bl _) (.bl _) S1 g1 R1 (by simp only [Rv]; rfl) w1.2⟩

/-! ### what is walked -/
/-- J yields the items ys, while g stands -/
structure Wk (L : Lk) (ι0 : List Addr) (H0 : Hp) (J : It) (ys : List Val) (g : List (Nat × List Val)) : Prop where
  go : ∀ i y ι S H, Grow L.K ι0 H0 ι H → Rel L ι S H → gdS g S → ys[i]? = some y → J.go i H ∧ ∀ x H', J.yld i H x H' → Grow L.K ι H ι H' ∧ Rel L ι S H' ∧ Rv L.K ι H' y x
  stop : ∀ ι S H, Grow L.K ι0 H0 ι H → Rel L ι S H → gdS g S → J.stop ys.length H
def tI (X : Cx) (L : Lk) (C : Cenv) (k : ItK) (its : List ME) : TI := fun σ H R => ∃ ι ρ S Q' E, RelE L.K ι H ρ σ ∧ Rel L ι S H ∧ wpEs C its ρ S Q' E ∧ Takes X (WXe L ι H σ E) ∧
  ∀ ι' H' xs S', Grow L.K ι H ι' H' → Rel L ι' S' H' → Q' xs S' → ∃ ys g, itS k xs S' = some (ys, g) ∧ ∀ J, Wk L ι' H' J ys g → R J H'
theorem wk_list {ι : List Addr} {S : Sto} {H : Hp} {n : Nat} {a : Addr} {ys : List Val} (R : Rel L ι S H) (ha : ι[n]? = some a) (h : lstAt S n = some ys) : Wk L ι H (Itl L.K a) ys [(n, ys)] where
  go := fun i y ι' S' H' g R' gd hy => by
    simp only [gdS, and_true] at gd
    obtain ⟨vs, h1, h2⟩ := seqOf R' (g.get ha) gd
    obtain ⟨v, h3, h4⟩ := h2.get hy
    refine ⟨⟨vs, v, h1, h3⟩, fun x H2 yl => ?_⟩
    obtain ⟨e, hx⟩ := yl
    subst e
    have : vs[i]? = some x := hx vs h1
    rw [h3] at this
    cases this
    exact ⟨Grow.refl, R', h4⟩
  stop := fun ι' S' H' g R' gd => by
    simp only [gdS, and_true] at gd
    obtain ⟨vs, h1, h2⟩ := seqOf R' (g.get ha) gd
    exact ⟨vs, h1, by rw [h2.len]; exact Nat.le_refl _⟩
theorem wk_tup {ι : List Addr} {H : Hp} {a : Addr} {ys : List Val} {vs : List V} (h1 : SqT L.K H a vs) (h2 : Rvs L.K ι H ys vs) : Wk L ι H (Itt L.K a) ys [] where
  go := fun i y ι' S' H' g R' gd hy => by
    obtain ⟨v, h3, h4⟩ := (Rvs.mono g _ h2).get hy
    have h1' := g.2.1 _ _ h1
    refine ⟨⟨vs, v, h1', h3⟩, fun x H2 yl => ?_⟩
    obtain ⟨e, hx⟩ := yl
    subst e
    have : vs[i]? = some x := hx vs h1'
    rw [h3] at this
    cases this
    exact ⟨Grow.refl, R', h4⟩
  stop := fun ι' S' H' g R' gd => ⟨vs, g.2.1 _ _ h1, by rw [h2.len]; exact Nat.le_refl _⟩
theorem wk_str {ι : List Addr} {H : Hp} {z : Str} : Wk L ι H (Its z) (z.cps.toList.map fun c => Val.str ⟨#[c]⟩) [] where
  go := fun i y ι' S' H' g R' gd hy => by
    simp only [List.getElem?_map, Option.map_eq_some_iff] at hy
    obtain ⟨c, hc, rfl⟩ := hy
    have hi : i < z.cps.toList.length := (List.getElem?_eq_some_iff.mp hc).1
    refine ⟨(by simpa using hi : i < z.cps.size), fun x H2 yl => ?_⟩
    obtain ⟨e, c', hx, rfl⟩ := yl
    subst e
    have : z.cps[i]? = some c := by simpa using hc
    rw [this] at hx
    cases hx
    exact ⟨Grow.refl, R', by simp only [Rv]⟩
  stop := fun ι' S' H' g R' gd => by
    show z.cps.size ≤ _
    simp
theorem wk_rng {ι : List Addr} {H : Hp} {lo : Int} {n : Nat} : Wk L ι H (Itr lo n) ((List.range n).map fun (i : Nat) => Val.int (lo + (i : Int))) [] where
  go := fun i y ι' S' H' g R' gd hy => by
    simp only [List.getElem?_map, Option.map_eq_some_iff] at hy
    obtain ⟨j, h1, rfl⟩ := hy
    obtain ⟨h2, h3⟩ := List.getElem?_eq_some_iff.mp h1
    simp at h2 h3
    subst h3
    refine ⟨h2, fun x H2 yl => ?_⟩
    obtain ⟨rfl, rfl⟩ := yl
    exact ⟨Grow.refl, R', by simp only [Rv]⟩
  stop := fun ι' S' H' g R' gd => by
    show n ≤ _
    simp
theorem piImp {tg : Expr} {t t' : TI} (h : PI X tg e t) (i : ∀ σ H R, t' σ H R → t σ H R) : PI X tg e t' := ⟨fun pins s σ H R I q => h.run pins s σ H R I (i σ H R q)⟩
theorem si_seq {tg : Expr} (hK : X.K = L.K) (hl : PE X a (tM X L C ma)) : PI X tg a (tI X L C .seq [ma]) := by
  refine ⟨fun pins s σ H RR I ⟨ι, ρ, S, Q', E, hρ, R, w, tk, post⟩ => ?_⟩
  simp only [wpEs] at w
  have hq : tM X L C ma σ H (fun v H1 => ∃ ι1 x S1, Grow L.K ι H ι1 H1 ∧ Rel L ι1 S1 H1 ∧ Rv L.K ι1 H1 x v ∧ Q' [x] S1) := ⟨ι, ρ, S, _, E, hρ, R, w, tk, fun ι1 H1 x v S1 g1 R1 r1 w1 => ⟨ι1, x, S1, g1, R1, r1, w1⟩⟩
  refine thn (hl.run pins s σ H _ I hq) fun u s1 ⟨v, H1, I1, r1, ι1, x, S1, g1, R1, rv, w1⟩ => ?_
  obtain ⟨ys, g, e, q⟩ := post ι1 H1 [x] S1 g1 R1 w1
  cases x with
  | tup zs =>
    simp only [itS, Option.some.injEq, Prod.mk.injEq] at e
    obtain ⟨rfl, rfl⟩ := e
    simp only [Rv] at rv
    obtain ⟨a', vs, rfl, h1, h2⟩ := rv
    cases r1
    obtain ⟨its, rv, p, hz⟩ := I1.tuple (by rw [hK]; exact h1)
    refine wpAny_pyIter_tuple (show s1.heap.IsTuple a' its.toArray from p) ?_
    refine ⟨s1.heap.objs.size, [s1.heap.objs.size], _, _, H1, rfl, I1.kept (t' := s1.toks) fun b o e => Heap.get?_push_of_some _ e, turn_tuple a' _, ⟨_, Heap.get?_push_size _ rfl, rfl, rfl⟩, fun b hb => ?_, ?_⟩
    · have e : b = s1.heap.objs.size := by simpa using hb
      subst e
      exact I1.fpOk (Nat.le_refl _) (I1.hok.fresh (Nat.le_refl _))
    · rw [hK]
      exact q _ (wk_tup h1 h2)
  | loc n =>
    simp only [itS, Option.map_eq_some_iff] at e
    obtain ⟨zs, e1, e2⟩ := e
    simp only [Prod.mk.injEq] at e2
    obtain ⟨rfl, rfl⟩ := e2
    simp only [Rv] at rv
    obtain ⟨a', rfl, ha⟩ := rv
    cases r1
    obtain ⟨vs, h1, h2⟩ := seqOf R1 ha e1
    obtain ⟨its, rv, p, hz⟩ := I1.list (by rw [hK]; exact h1)
    refine wpAny_pyIter_list p.isList ?_
    refine ⟨s1.heap.objs.size, [s1.heap.objs.size], _, _, H1, rfl, I1.kept (t' := s1.toks) fun b o e => Heap.get?_push_of_some _ e, turn_list a' _, ⟨_, Heap.get?_push_size _ rfl, rfl, rfl⟩, fun b hb => ?_, ?_⟩
    · have e : b = s1.heap.objs.size := by simpa using hb
      subst e
      exact I1.fpOk (Nat.le_refl _) (I1.hok.fresh (Nat.le_refl _))
    · rw [hK]
      exact q _ (wk_list R1 ha e1)
  | str z =>
    simp only [itS, Option.some.injEq, Prod.mk.injEq] at e
    obtain ⟨rfl, rfl⟩ := e
    simp only [Rv] at rv
    subst rv
    obtain ⟨t, rfl⟩ := r1
    have qq := q _ (wk_str (L := L) (ι := ι1) (H := H1) (z := z))
    cases ha : z.cps.all (· < 128)
    · exact wpAny_pyIter_wide ha (pi_one (tk := s1.toks) I1 _ (turn_str _ z t "str_iterator" (.inr rfl)) ⟨_, Heap.get?_push_size _ rfl, rfl, rfl⟩ qq)
    · exact wpAny_pyIter_ascii ha (pi_one (tk := s1.toks) I1 _ (turn_str _ z t "str_ascii_iterator" (.inl rfl)) ⟨_, Heap.get?_push_size _ rfl, rfl, rfl⟩ qq)
  | _ => simp [itS] at e
theorem itS_range {S : Sto} {xs ys : List Val} {g : List (Nat × List Val)} (h : itS .range xs S = some (ys, g)) : ∃ j : Int, xs = [.int j] ∧ (-(2 ^ 62) ≤ j ∧ j < 2 ^ 62) ∧ ys = (List.range j.toNat).map (fun (i : Nat) => Val.int (i : Int)) ∧ g = [] := by
  match xs, h with
  | [.int j], h =>
    simp only [itS] at h
    split at h
    · rename_i hb
      simp only [Option.some.injEq, Prod.mk.injEq] at h
      exact ⟨j, rfl, hb, h.1.symm, h.2.symm⟩
    · cases h
  | [], h => simp [itS] at h
  | [.non], h => simp [itS] at h
  | [.bl _], h => simp [itS] at h
  | [.str _], h => simp [itS] at h
  | [.tup _], h => simp [itS] at h
  | [.loc _], h => simp [itS] at h
  | [.cst _ _], h => simp [itS] at h
  | _ :: _ :: _, h => simp [itS] at h
theorem itS_range2 {S : Sto} {xs ys : List Val} {g : List (Nat × List Val)} (h : itS .range2 xs S = some (ys, g)) : ∃ a j : Int, xs = [.int a, .int j] ∧ ((-(2 ^ 62) ≤ a ∧ a < 2 ^ 62) ∧ -(2 ^ 62) ≤ j ∧ j < 2 ^ 62) ∧ ys = (List.range (j - a).toNat).map (fun (i : Nat) => Val.int (a + (i : Int))) ∧ g = [] := by
  rcases xs with _ | ⟨x, _ | ⟨y, _ | ⟨z, xs⟩⟩⟩
  · simp [itS] at h
  · cases x <;> simp [itS] at h
  · cases x with
    | int a =>
      cases y with
      | int j =>
        simp only [itS] at h
        split at h
        · rename_i hb
          simp only [Option.some.injEq, Prod.mk.injEq] at h
          exact ⟨a, j, rfl, hb, h.1.symm, h.2.symm⟩
        · cases h
      | _ => simp [itS] at h
    | _ => cases y <;> simp [itS] at h
  · cases x <;> cases y <;> simp [itS] at h
theorem si_range {tg : Expr} {x : Str} (hx : x = "range") (hg : Gl X x) (hm : X.mg x = none) (hl : PE X a (tM X L C ma)) (hs : starEach [a] X.env = [(false, eval a X.env)]) : PI X tg (.Call (.Name x p) [a] [] pos) (tI X L C .range [ma]) := by
  subst hx
  exact piImp (pi_range1 hg hm (sa_cons hl sa_nil hs) hs) fun σ H RR ⟨ι, ρ, S, Q', E, hρ, R, w, tk, post⟩ => by
    refine ⟨ι, ρ, S, Q', E, hρ, R, w, tk, fun ι1 H1 xs vs S1 g1 R1 r1 _ w1 => ?_⟩
    obtain ⟨ys, g, e, q⟩ := post ι1 H1 xs S1 g1 R1 w1
    obtain ⟨j, rfl, hb, rfl, rfl⟩ := itS_range e
    obtain ⟨v, rfl, r2⟩ := one_of r1
    simp only [Rv] at r2
    subst r2
    refine ⟨j, rfl, hb.1, hb.2, q _ ?_⟩
    have := wk_rng (L := L) (ι := ι1) (H := H1) (lo := 0) (n := j.toNat)
    simpa using this
theorem si_range2 {tg : Expr} {x : Str} (hx : x = "range") (hg : Gl X x) (hm : X.mg x = none) (hl : PE X a (tM X L C ma)) (hh : PE X b (tM X L C mb)) (hs : starEach [a, b] X.env = [(false, eval a X.env), (false, eval b X.env)]) (hs2 : starEach [b] X.env = [(false, eval b X.env)]) :
    PI X tg (.Call (.Name x p) [a, b] [] pos) (tI X L C .range2 [ma, mb]) := by
  subst hx
  exact piImp (pi_range2 hg hm (sa_cons hl (sa_cons hh sa_nil hs2) (by rw [hs, hs2])) hs hs2) fun σ H RR ⟨ι, ρ, S, Q', E, hρ, R, w, tk, post⟩ => by
    refine ⟨ι, ρ, S, Q', E, hρ, R, w, tk, fun ι1 H1 xs vs S1 g1 R1 r1 _ w1 => ?_⟩
    obtain ⟨ys, g, e, q⟩ := post ι1 H1 xs S1 g1 R1 w1
    obtain ⟨lo, j, rfl, hb, rfl, rfl⟩ := itS_range2 e
    obtain ⟨v, u, rfl, r2, r3⟩ := two_of r1
    simp only [Rv] at r2 r3
    subst r2 r3
    exact ⟨lo, j, rfl, ⟨hb.1.1, hb.1.2, hb.2.1, hb.2.2⟩, q _ wk_rng⟩
/-! ### zip, enumerate -/
theorem zip_get {xs ys : List Val} {i : Nat} {z : Val} (h : ((xs.zip ys).map fun p => Val.tup [p.1, p.2])[i]? = some z) : ∃ x y, xs[i]? = some x ∧ ys[i]? = some y ∧ z = .tup [x, y] := by
  simp only [List.getElem?_map, Option.map_eq_some_iff] at h
  obtain ⟨p, h1, rfl⟩ := h
  have := List.getElem?_zip_eq_some.mp h1
  exact ⟨p.1, p.2, this.1, this.2, rfl⟩
theorem pair_rv {ι : List Addr} {S : Sto} {H : Hp} {x y : Val} {v u : V} {T : Addr} (R : Rel L ι S H) (hT : H T = none) (hx : Rv L.K ι H x v) (hy : Rv L.K ι H y u) :
    Grow L.K ι H ι (upd H T (.tup [v, u])) ∧ Rel L ι S (upd H T (.tup [v, u])) ∧ Rv L.K ι (upd H T (.tup [v, u])) (.tup [x, y]) (.ref T) := by
  refine ⟨grow_new hT, R.untold hT, ?_⟩
  simp only [Rv]
  exact ⟨T, [v, u], rfl, SqT.of upd_same, Rvs.mono (grow_new hT) _ (Rvs.cons hx (Rvs.one hy))⟩
theorem wk_zipT {ι : List Addr} {H : Hp} {a b : Addr} {xs ys : List Val} {vs us : List V} (h1 : SqT L.K H a vs) (h2 : Rvs L.K ι H xs vs) (h3 : SqT L.K H b us) (h4 : Rvs L.K ι H ys us) :
    Wk L ι H (ItzT L.K a b) ((xs.zip ys).map fun p => .tup [p.1, p.2]) [] where
  go := fun i z ι' S' H' g R' gd hz => by
    obtain ⟨x, y, ex, ey, rfl⟩ := zip_get hz
    obtain ⟨v, e1, r1⟩ := (Rvs.mono g _ h2).get ex
    obtain ⟨u, e2, r2⟩ := (Rvs.mono g _ h4).get ey
    have q1 := g.2.1 _ _ h1
    have q2 := g.2.1 _ _ h3
    refine ⟨⟨vs, us, v, u, q1, q2, e1, e2⟩, fun w H2 yl => ?_⟩
    obtain ⟨T, v', u', rfl, hT, rfl, f1, f2⟩ := yl
    have g1 := f1 vs q1
    have g2 := f2 us q2
    rw [e1] at g1
    rw [e2] at g2
    cases g1
    cases g2
    exact pair_rv R' hT r1 r2
  stop := fun ι' S' H' g R' gd => by
    refine ⟨vs, us, g.2.1 _ _ h1, g.2.1 _ _ h3, ?_⟩
    simp only [List.length_map, List.length_zip]
    rw [h2.len, h4.len]
    omega
theorem wk_zipL {ι : List Addr} {S : Sto} {H : Hp} {n k : Nat} {a b : Addr} {xs ys : List Val} (ha : ι[n]? = some a) (hb : ι[k]? = some b) :
    Wk L ι H (Itz L.K a b) ((xs.zip ys).map fun p => .tup [p.1, p.2]) [(n, xs), (k, ys)] where
  go := fun i z ι' S' H' g R' gd hz => by
    simp only [gdS, and_true] at gd
    obtain ⟨vs, q1, h2⟩ := seqOf R' (g.get ha) gd.1
    obtain ⟨us, q2, h4⟩ := seqOf R' (g.get hb) gd.2
    obtain ⟨x, y, ex, ey, rfl⟩ := zip_get hz
    obtain ⟨v, e1, r1⟩ := h2.get ex
    obtain ⟨u, e2, r2⟩ := h4.get ey
    refine ⟨⟨vs, us, v, u, q1, q2, e1, e2⟩, fun w H2 yl => ?_⟩
    obtain ⟨T, v', u', rfl, hT, rfl, f1, f2⟩ := yl
    have g1 := f1 vs q1
    have g2 := f2 us q2
    rw [e1] at g1
    rw [e2] at g2
    cases g1
    cases g2
    exact pair_rv R' hT r1 r2
  stop := fun ι' S' H' g R' gd => by
    simp only [gdS, and_true] at gd
    obtain ⟨vs, q1, h2⟩ := seqOf R' (g.get ha) gd.1
    obtain ⟨us, q2, h4⟩ := seqOf R' (g.get hb) gd.2
    refine ⟨vs, us, q1, q2, ?_⟩
    simp only [List.length_map, List.length_zip]
    rw [h2.len, h4.len]
    omega
theorem wk_enum {ι : List Addr} {H : Hp} {n : Nat} {a : Addr} {ys : List Val} (ha : ι[n]? = some a) : Wk L ι H (Ite L.K a) (ys.zipIdx.map fun p => .tup [.int (p.2 : Nat), p.1]) [(n, ys)] where
  go := fun i z ι' S' H' g R' gd hz => by
    simp only [gdS, and_true] at gd
    obtain ⟨vs, q1, h2⟩ := seqOf R' (g.get ha) gd
    simp only [List.getElem?_map, Option.map_eq_some_iff, List.getElem?_zipIdx] at hz
    obtain ⟨p, ⟨x, hx, rfl⟩, rfl⟩ := hz
    obtain ⟨v, e1, r1⟩ := h2.get hx
    refine ⟨⟨vs, v, q1, e1⟩, fun w H2 yl => ?_⟩
    obtain ⟨T, v', rfl, hT, rfl, f1⟩ := yl
    have g1 := f1 vs q1
    rw [e1] at g1
    cases g1
    have := pair_rv (x := .int ((i : Nat) : Int)) (v := V.int ((i : Nat) : Int)) R' hT (by simp only [Rv]) r1
    simpa using this
  stop := fun ι' S' H' g R' gd => by
    simp only [gdS, and_true] at gd
    obtain ⟨vs, q1, h2⟩ := seqOf R' (g.get ha) gd
    refine ⟨vs, q1, ?_⟩
    simp only [List.length_map, List.length_zipIdx]
    rw [h2.len]
    exact Nat.le_refl _
theorem wk_enumT {ι : List Addr} {H : Hp} {a : Addr} {ys : List Val} {vs : List V} (h1 : SqT L.K H a vs) (h2 : Rvs L.K ι H ys vs) : Wk L ι H (ItEt L.K a) (ys.zipIdx.map fun p => .tup [.int (p.2 : Nat), p.1]) [] where
  go := fun i z ι' S' H' g R' gd hz => by
    have q1 := g.2.1 _ _ h1
    have h2' := Rvs.mono g _ h2
    simp only [List.getElem?_map, Option.map_eq_some_iff, List.getElem?_zipIdx] at hz
    obtain ⟨p, ⟨x, hx, rfl⟩, rfl⟩ := hz
    obtain ⟨v, e1, r1⟩ := h2'.get hx
    refine ⟨⟨vs, v, q1, e1⟩, fun w H2 yl => ?_⟩
    obtain ⟨T, v', rfl, hT, rfl, f1⟩ := yl
    have g1 := f1 vs q1
    rw [e1] at g1
    cases g1
    have := pair_rv (x := .int ((i : Nat) : Int)) (v := V.int ((i : Nat) : Int)) R' hT (by simp only [Rv]) r1
    simpa using this
  stop := fun ι' S' H' g R' gd => by
    have q1 := g.2.1 _ _ h1
    refine ⟨vs, q1, ?_⟩
    simp only [List.length_map, List.length_zipIdx]
    rw [h2.len]
    exact Nat.le_refl _
theorem si_zip {elts : List Expr} {kk : Nat} {tpos : Pos} {x : Str} (hK : X.K = L.K) (hx : x = "zip") (hg : Gl X x) (hm : X.mg x = none) (hl : PE X a (tM X L C ma)) (hh : PE X b (tM X L C mb)) (hs : starEach [a, b] X.env = (false, eval a X.env) :: starEach [b] X.env) (hs2 : starEach [b] X.env = [(false, eval b X.env)])
    (hpl : (backTo pos (starEach [b] X.env)).any (·.1) = false) : PI X (.Tuple elts kk tpos) (.Call (.Name x p) [a, b] [] pos) (tI X L C .zip [ma, mb]) := by
  subst hx
  exact piImp (pi_zipA hg hm (sa_cons hl (sa_cons hh sa_nil hs2) hs) hs hpl) fun σ H RR ⟨ι, ρ, S, Q', E, hρ, R, w, tk, post⟩ => by
    refine ⟨ι, ρ, S, Q', E, hρ, R, w, tk, fun ι1 H1 xs vs S1 g1 R1 r1 l1 w1 => ?_⟩
    obtain ⟨ys, g, e, q⟩ := post ι1 H1 xs S1 g1 R1 w1
    rcases xs with _ | ⟨x, _ | ⟨y, _ | ⟨z, xs⟩⟩⟩
    · simp at l1
    · simp at l1
    · obtain ⟨v, u, rfl, r2, r3⟩ := two_of r1
      cases x with
      | tup zs =>
        cases y with
        | tup ws =>
          simp only [itS, Option.some.injEq, Prod.mk.injEq] at e
          obtain ⟨rfl, rfl⟩ := e
          simp only [Rv] at r2 r3
          obtain ⟨a', vs, rfl, h1, h2⟩ := r2
          obtain ⟨b', us, rfl, h3, h4⟩ := r3
          exact ⟨a', b', vs, us, rfl, .inr ⟨by rw [hK]; exact h1, by rw [hK]; exact h3, by rw [hK]; exact q _ (wk_zipT h1 h2 h3 h4)⟩⟩
        | _ => simp [itS] at e
      | loc n =>
        cases y with
        | loc k =>
          simp only [Rv] at r2 r3
          obtain ⟨a', rfl, ha⟩ := r2
          obtain ⟨b', rfl, hb⟩ := r3
          cases e1 : lstAt S1 n with
          | none => simp [itS, e1] at e
          | some zs =>
            cases e2 : lstAt S1 k with
            | none => simp [itS, e1, e2] at e
            | some ws =>
              simp only [itS, e1, e2, Option.some.injEq, Prod.mk.injEq] at e
              obtain ⟨rfl, rfl⟩ := e
              obtain ⟨vs, h1, h2⟩ := seqOf R1 ha e1
              obtain ⟨us, h3, h4⟩ := seqOf R1 hb e2
              exact ⟨a', b', vs, us, rfl, .inl ⟨by rw [hK]; exact h1, by rw [hK]; exact h3, by rw [hK]; exact q _ (wk_zipL (S := S1) ha hb)⟩⟩
        | _ => simp [itS] at e
      | _ => cases y <;> simp [itS] at e
    · simp at l1
theorem si_enum {elts : List Expr} {kk : Nat} {tpos : Pos} {x : Str} (hK : X.K = L.K) (hx : x = "enumerate") (hg : Gl X x) (hm : X.mg x = none) (hl : PE X a (tM X L C ma)) (hs : starEach [a] X.env = [(false, eval a X.env)]) :
    PI X (.Tuple elts kk tpos) (.Call (.Name x p) [a] [] pos) (tI X L C .enum [ma]) := by
  subst hx
  exact piImp (pi_enumA hg hm (sa_cons hl sa_nil hs) hs) fun σ H RR ⟨ι, ρ, S, Q', E, hρ, R, w, tk, post⟩ => by
    refine ⟨ι, ρ, S, Q', E, hρ, R, w, tk, fun ι1 H1 xs vs S1 g1 R1 r1 l1 w1 => ?_⟩
    obtain ⟨ys, g, e, q⟩ := post ι1 H1 xs S1 g1 R1 w1
    rcases xs with _ | ⟨x, _ | ⟨y, xs⟩⟩
    · simp at l1
    · obtain ⟨v, rfl, r2⟩ := one_of r1
      cases x with
      | loc n =>
        simp only [Rv] at r2
        obtain ⟨a', rfl, ha⟩ := r2
        cases e1 : lstAt S1 n with
        | none => simp [itS, e1] at e
        | some zs =>
          simp only [itS, e1, Option.map_some, Option.some.injEq, Prod.mk.injEq] at e
          obtain ⟨rfl, rfl⟩ := e
          obtain ⟨vs, h1, h2⟩ := seqOf R1 ha e1
          exact .inl ⟨a', vs, rfl, by rw [hK]; exact h1, by rw [hK]; exact q _ (wk_enum ha)⟩
      | tup zs =>
        simp only [itS, Option.some.injEq, Prod.mk.injEq] at e
        obtain ⟨rfl, rfl⟩ := e
        simp only [Rv] at r2
        obtain ⟨a', vs, rfl, h1, h2⟩ := r2
        exact .inr ⟨a', vs, rfl, by rw [hK]; exact h1, by rw [hK]; exact q _ (wk_enumT h1 h2)⟩
      | _ => simp [itS] at e
    · simp at l1
theorem wk_rev {ι : List Addr} {H : Hp} {n : Nat} {a : Addr} {ys : List Val} (ha : ι[n]? = some a) : Wk L ι H (Itv L.K a ys.length) ys.reverse [(n, ys)] where
  go := fun i z ι' S' H' g R' gd hz => by
    simp only [gdS, and_true] at gd
    obtain ⟨vs, q1, h2⟩ := seqOf R' (g.get ha) gd
    have hi : i < ys.length := by simpa using (List.getElem?_eq_some_iff.mp hz).1
    rw [List.getElem?_reverse hi] at hz
    obtain ⟨v, e1, r1⟩ := h2.get hz
    refine ⟨⟨hi, vs, v, q1, e1⟩, fun w H2 yl => ?_⟩
    obtain ⟨rfl, f1⟩ := yl
    have g1 := f1 vs q1
    rw [e1] at g1
    cases g1
    exact ⟨Grow.refl, R', r1⟩
  stop := fun ι' S' H' g R' gd => by
    show ys.length ≤ ys.reverse.length
    simp
theorem wk_enumS {ι : List Addr} {H : Hp} {n : Nat} {a : Addr} {ys : List Val} {k : Int} (ha : ι[n]? = some a) : Wk L ι H (IteS L.K a k) (ys.zipIdx.map fun p => .tup [.int (k + (p.2 : Nat)), p.1]) [(n, ys)] where
  go := fun i z ι' S' H' g R' gd hz => by
    simp only [gdS, and_true] at gd
    obtain ⟨vs, q1, h2⟩ := seqOf R' (g.get ha) gd
    simp only [List.getElem?_map, Option.map_eq_some_iff, List.getElem?_zipIdx] at hz
    obtain ⟨p, ⟨x, hx, rfl⟩, rfl⟩ := hz
    obtain ⟨v, e1, r1⟩ := h2.get hx
    refine ⟨⟨vs, v, q1, e1⟩, fun w H2 yl => ?_⟩
    obtain ⟨T, v', rfl, hT, rfl, f1⟩ := yl
    have g1 := f1 vs q1
    rw [e1] at g1
    cases g1
    have := pair_rv (x := .int (k + ((i : Nat) : Int))) (v := V.int (k + ((i : Nat) : Int))) R' hT (by simp only [Rv]) r1
    simpa using this
  stop := fun ι' S' H' g R' gd => by
    simp only [gdS, and_true] at gd
    obtain ⟨vs, q1, h2⟩ := seqOf R' (g.get ha) gd
    refine ⟨vs, q1, ?_⟩
    simp only [List.length_map, List.length_zipIdx]
    exact h2.len.symm
theorem si_rev {tg : Expr} {x : Str} (hK : X.K = L.K) (hx : x = "reversed") (hg : Gl X x) (hm : X.mg x = none) (hl : PE X a (tM X L C ma)) (hs : starEach [a] X.env = [(false, eval a X.env)]) :
    PI X tg (.Call (.Name x p) [a] [] pos) (tI X L C .rev [ma]) := by
  subst hx
  exact piImp (pi_reversed hg hm (sa_cons hl sa_nil hs) hs) fun σ H RR ⟨ι, ρ, S, Q', E, hρ, R, w, tk, post⟩ => by
    refine ⟨ι, ρ, S, Q', E, hρ, R, w, tk, fun ι1 H1 xs vs S1 g1 R1 r1 l1 w1 => ?_⟩
    obtain ⟨ys, g, e, q⟩ := post ι1 H1 xs S1 g1 R1 w1
    rcases xs with _ | ⟨x, _ | ⟨y, xs⟩⟩
    · simp at l1
    · obtain ⟨v, rfl, r2⟩ := one_of r1
      cases x with
      | loc n =>
        simp only [Rv] at r2
        obtain ⟨a', rfl, ha⟩ := r2
        cases e1 : lstAt S1 n with
        | none => simp [itS, e1] at e
        | some zs =>
          simp only [itS, e1, Option.map_some, Option.some.injEq, Prod.mk.injEq] at e
          obtain ⟨rfl, rfl⟩ := e
          obtain ⟨vs, h1, h2⟩ := seqOf R1 ha e1
          refine ⟨a', vs, rfl, by rw [hK]; exact h1, ?_⟩
          rw [hK, ← h2.len]
          exact q _ (wk_rev ha)
      | _ => simp [itS] at e
    · simp at l1
theorem tM_mono (m : ME) : MonoE (tM X L C m) := fun ⟨ι, ρ, S, Q', E, hρ, R, w, tk, post⟩ h => ⟨ι, ρ, S, Q', E, hρ, R, w, tk, fun ι1 H1 x v S1 g1 R1 r1 w1 => h _ _ (post ι1 H1 x v S1 g1 R1 r1 w1)⟩
/-- what two expressions are asked, as enumerate(a, start=b) wants it -/
theorem enums_red {σ : L2.St} {H : Hp} {RR : Addr → List V → Int → Hp → Prop} {ι : List Addr} {ρ : LE} {S : Sto} {Q' : List Val → Sto → Prop} {E : XQ} (hK : X.K = L.K) (hρ : RelE L.K ι H ρ σ) (R : Rel L ι S H) (w : wpEs C [ma, mb] ρ S Q' E) (tk : Takes X (WXe L ι H σ E))
    (post : ∀ ι1 H1 S1 xs, Grow L.K ι H ι1 H1 → Rel L ι1 S1 H1 → Q' xs S1 → ∃ ys g, itS .enums xs S1 = some (ys, g) ∧ ∀ n k zs a vs, ys = (zs.zipIdx.map fun p => .tup [.int (k + (p.2 : Nat)), p.1]) → g = [(n, zs)] → SqL X.K H1 a vs → ι1[n]? = some a → Wk L ι1 H1 (IteS L.K a k) ys g → RR a vs k H1) :
    aEnumS X.K (tM X L C ma) (tM X L C mb) σ H RR := by
  rw [wpEs] at w
  refine ⟨ι, ρ, S, _, E, hρ, R, w, tk, fun ι1 H1 x v S1 g1 R1 r1 w1 => ?_⟩
  simp only [wpEs] at w1
  refine ⟨ι1, ρ, S1, _, E, hρ.mono g1, R1, w1, WXe.grow g1 tk, fun ι2 H2 y u S2 g2 R2 r2 w2 => ?_⟩
  obtain ⟨ys, g, e, q⟩ := post ι2 H2 S2 [x, y] (g1.trans g2) R2 w2
  cases x with
  | loc n =>
    have r1' := Rv.mono g2 _ r1
    simp only [Rv] at r1'
    obtain ⟨a', rfl, ha⟩ := r1'
    cases y with
    | int k =>
      simp only [Rv] at r2
      subst r2
      simp only [itS] at e
      split at e
      · rename_i hk
        cases e1 : lstAt S2 n with
        | none => simp [e1] at e
        | some zs =>
          simp only [e1, Option.map_some, Option.some.injEq, Prod.mk.injEq] at e
          obtain ⟨rfl, rfl⟩ := e
          obtain ⟨vs, h1, h2⟩ := seqOf R2 ha e1
          exact ⟨a', vs, k, rfl, rfl, by rw [hK]; exact h1, hk, q n k zs a' vs rfl rfl (by rw [hK]; exact h1) ha (wk_enumS ha)⟩
      · cases e
    | _ => simp [itS] at e
  | _ => cases y <;> simp [itS] at e
theorem si_enums {elts : List Expr} {kk : Nat} {tpos kp : Pos} {x st : Str} (hK : X.K = L.K) (hx : x = "enumerate") (hst : st = "start") (hg : Gl X x) (hm : X.mg x = none) (hl : PE X a (tM X L C ma)) (hh : PE X b (tM X L C mb)) (hs : starEach [a] X.env = [(false, eval a X.env)]) :
    PI X (.Tuple elts kk tpos) (.Call (.Name x p) [a] [⟨some st, b, kp⟩] pos) (tI X L C .enums [ma, mb]) := by
  subst hx hst
  exact piImp (pi_enumS hg hm hl hh (tM_mono ma) hs) fun σ H RR ⟨ι, ρ, S, Q', E, hρ, R, w, tk, post⟩ =>
    enums_red hK hρ R w tk fun ι1 H1 S1 xs g1 R1 w1 => by
      obtain ⟨ys, g, e, q⟩ := post ι1 H1 xs S1 g1 R1 w1
      exact ⟨ys, g, e, fun n k zs a vs e1 e2 _ ha wk => by rw [hK]; exact q _ wk⟩
end
end PM

namespace PM
open PySem PySem.Spec PyProof.Rows L2

/-! ### constants of the top -/
def CstOk (K : PySem.W.Frag) (x : Val) (u : Value) : Prop := ∃ w, RelV w u ∧ ∀ ι H, Rv K ι H x w
def CstsOk (K : PySem.W.Frag) : List Val → List Value → Prop
  | [], us => us = []
  | x :: xs, us => ∃ u r, us = u :: r ∧ CstOk K x u ∧ CstsOk K xs r
section
variable {K : PySem.W.Frag}
theorem cst_non : CstOk K .non .none := ⟨.non, rfl, fun _ _ => by simp only [Rv]⟩
theorem cst_int {i : Int} {t : Tok} : CstOk K (.int i) (.int i t) := ⟨.int i, ⟨t, rfl⟩, fun _ _ => by simp only [Rv]⟩
theorem cst_str {x : Str} {t : Tok} : CstOk K (.str x) (.str x t) := ⟨.str x, ⟨t, rfl⟩, fun _ _ => by simp only [Rv]⟩
theorem csts_nil : CstsOk K [] [] := rfl
theorem csts_cons {x : Val} {xs : List Val} {u : Value} {us : List Value} (h : CstOk K x u) (hs : CstsOk K xs us) : CstsOk K (x :: xs) (u :: us) := ⟨u, us, rfl, h, hs⟩
theorem csts_rel : ∀ {xs : List Val} {us : List Value}, CstsOk K xs us → ∃ vs, Vals vs us ∧ ∀ ι H, Rvs K ι H xs vs
  | [], us, h => by
    cases h
    exact ⟨[], .nil, fun _ _ => Rvs.nil⟩
  | x :: xs, us, ⟨u, r, e, ⟨w, h1, h2⟩, hs⟩ => by
    subst e
    obtain ⟨vs, k1, k2⟩ := csts_rel hs
    exact ⟨w :: vs, .cons h1 k1, fun ι H => Rvs.cons (h2 ι H) (k2 ι H)⟩
theorem cst_tup {xs : List Val} {us : List Value} {n : Nat} {a : Addr} {dc : Option Addr} {sl : Array (Option Value)} (h : K.lookup a = some ⟨.type "tuple", dc, .seq us.toArray n, sl⟩) (hz : us.length ≤ sizeLine) (hs : CstsOk K xs us) : CstOk K (.tup xs) (.ref a) := by
  obtain ⟨vs, k1, k2⟩ := csts_rel hs
  refine ⟨.ref a, rfl, fun ι H => ?_⟩
  simp only [Rv]
  exact ⟨a, vs, rfl, .inr ⟨_, us.toArray, n, h, rfl, rfl, by simpa using hz, by simpa using k1⟩, k2 ι H⟩
end
/-- a constant: its name, its value -/
def CstAt (K : PySem.W.Frag) (x : Str) (v : Val) : Prop := ∃ u, PySem.W.nsIn K mainGlobals x = some (some u) ∧ CstOk K v u
/-- the entries of a dict of the top with text keys -/
def Ents (K : PySem.W.Frag) (P : Params) : List (Str × Val) → List DictEntry → Prop
  | [], es => es = []
  | p :: kvs, es => ∃ (h : Int) (t : Tok) (u : Value) (r : List DictEntry), es = ⟨h, .str p.1 t, u⟩ :: r ∧ h = PyData.keyHash P p.1 ∧ CstOk K p.2 u ∧ Ents K P kvs r
def CDk (K : PySem.W.Frag) (P : Params) (x : Str) (kvs : List (Str × Val)) : Prop :=
  ∃ (a : Addr) (es : List DictEntry) (n : Nat), PySem.W.nsIn K mainGlobals x = some (some (.ref a)) ∧ K.lookup a = some ⟨.type "dict", none, .dict es.toArray n, #[]⟩ ∧ (a == sysModules) = false ∧ Ents K P kvs es
theorem cstAt_mk {K : PySem.W.Frag} {x : Str} {v : Val} {u : Value} (h : PySem.W.nsIn K mainGlobals x = some (some u)) (h2 : CstOk K v u) : CstAt K x v := ⟨u, h, h2⟩
theorem cdk_mk {K : PySem.W.Frag} {P : Params} {x : Str} {kvs : List (Str × Val)} {a : Addr} {es : List DictEntry} {n : Nat} {oc : Value} {od : Option Addr} {dt : Data} {sl : Array (Option Value)} (h1 : PySem.W.nsIn K mainGlobals x = some (some (.ref a))) (h2 : K.lookup a = some ⟨oc, od, dt, sl⟩)
    (e : (⟨oc, od, dt, sl⟩ : Obj) = ⟨.type "dict", none, .dict es.toArray n, #[]⟩) (h3 : (a == sysModules) = false) (h4 : Ents K P kvs es) : CDk K P x kvs := ⟨a, es, n, h1, by rw [h2, e], h3, h4⟩
theorem cst_tupG {K : PySem.W.Frag} {xs : List Val} {us : List Value} {n : Nat} {a : Addr} {oc : Value} {od dc : Option Addr} {dt : Data} {sl : Array (Option Value)} (h : K.lookup a = some ⟨oc, od, dt, sl⟩)
    (e : (⟨oc, od, dt, sl⟩ : Obj) = ⟨.type "tuple", dc, .seq us.toArray n, sl⟩) (hz : us.length ≤ sizeLine) (hs : CstsOk K xs us) : CstOk K (.tup xs) (.ref a) := cst_tup (h.trans (congrArg some e)) hz hs
section
variable {K : PySem.W.Frag} {P : Params}
theorem ents_nil : Ents K P [] [] := rfl
theorem ents_cons {x : Str} {v : Val} {kvs : List (Str × Val)} {t : Tok} {u : Value} {r : List DictEntry} (h : CstOk K v u) (hs : Ents K P kvs r) : Ents K P ((x, v) :: kvs) (⟨PyData.keyHash P x, .str x t, u⟩ :: r) := ⟨_, t, u, r, rfl, rfl, h, hs⟩
theorem ents_lit : ∀ {kvs : List (Str × Val)} {es : List DictEntry}, Ents K P kvs es → PySem.W.KeysLit P es
  | [], es, h => by cases h; exact trivial
  | p :: kvs, es, ⟨h, t, u, r, e, e2, _, hs⟩ => by
    subst e
    exact ⟨⟨p.1, t, rfl, e2⟩, ents_lit hs⟩
theorem ents_find : ∀ {kvs : List (Str × Val)} {es : List DictEntry}, Ents K P kvs es → ∀ (f : Value → Bool) (z : Str), (∀ x t, f (.str x t) = decide (x = z)) →
    (∃ v u h k, kvs.lookup z = some v ∧ es.find? (fun e => f e.key) = some ⟨h, k, u⟩ ∧ CstOk K v u) ∨ (kvs.lookup z = none ∧ es.find? (fun e => f e.key) = none)
  | [], es, h, f, z, hf => by
    cases h
    exact .inr ⟨rfl, rfl⟩
  | p :: kvs, es, ⟨h, t, u, r, e, e2, hv, hs⟩, f, z, hf => by
    subst e
    by_cases c : p.1 = z
    · refine .inl ⟨p.2, u, h, .str p.1 t, ?_, ?_, hv⟩
      · obtain ⟨y, v⟩ := p
        have : (z == y) = true := by rw [← c]; exact beq_self_eq_true _
        simp [List.lookup, this]
      · have : f (.str p.1 t) = true := by rw [hf]; exact decide_eq_true c
        simp [List.find?, this]
    · have e3 : ((p :: kvs).lookup z) = kvs.lookup z := by
        obtain ⟨y, v⟩ := p
        have : (z == y) = false := by
          rw [beq_eq_false_iff_ne]
          exact fun q => c q.symm
        simp [List.lookup, this]
      have e4 : (⟨h, .str p.1 t, u⟩ :: r : List DictEntry).find? (fun e => f e.key) = r.find? fun e => f e.key := by
        have : f (.str p.1 t) = false := by rw [hf]; exact decide_eq_false c
        simp [List.find?, this]
      rw [e3, e4]
      exact ents_find hs f z hf
theorem CDk.co {x : Str} {kvs : List (Str × Val)} (h : CDk K P x kvs) : ∃ (es : List DictEntry) (n : Nat), K.lookup (coOf K x) = some ⟨.type "dict", none, .dict es.toArray n, #[]⟩ ∧ (coOf K x == sysModules) = false ∧ Ents K P kvs es := by
  obtain ⟨a, es, n, h1, h2, h3, h4⟩ := h
  have : coOf K x = a := by unfold coOf; rw [h1]
  rw [this]
  exact ⟨es, n, h2, h3, h4⟩
end
/-! ### methods of lists -/
def rGet2 : V → List V → Hp → VK → Prop := fun x vs H Q => ∃ a y d o, x = .ref a ∧ vs = [y, d] ∧ DGet H a y o ∧ Q (o.getD d) H
theorem mt_get2 {X : Cx} (hu : X.A.units + 64 < cLine) : MtR X "dict.get" rGet2 := by
  intro pins s σ H x vs v us Q I rx rv h
  obtain ⟨a, y, d, o, rfl, rfl, g, q⟩ := h
  cases (show v = Value.ref a from rx)
  cases rv with
  | cons ry rv =>
    cases rv with
    | cons rd rv =>
      cases rv
      exact d_get2 (by omega) I g ry rd fun w' s' I' rw' => ⟨_, H, I', rw', q⟩
theorem mt_setd {X : Cx} : MtR X "dict.setdefault" rSetd := by
  intro pins s σ H x vs v' us Q I rx rv h
  obtain ⟨a, kvs, k, v, rfl, rfl, ea, hl, w1, w2⟩ := h
  cases (show v' = Value.ref a from rx)
  cases rv with
  | cons ry rv =>
    cases rv with
    | cons rd rv =>
      cases rv
      obtain ⟨z, hd, vs0, rel, dd⟩ := dk_of I.hok ea
      have hz : vs0.length ≤ sizeLine := by rw [← rel.length]; exact z
      refine call_meetsIn PySem.F.slot_dict_setdefault dd.typeIs PySem.F.entry_dict_setdefault (PySem.F.args_dict_setdefault_3 _ _ _) (kt_meets_setdefault (mixKind X.prog X.w) _ (kV_is ry) hd _) ⟨vs0, dd, hz, fun u hu => ?_, fun hn h' dd' hs => ?_⟩
      · have rr := rel.val k
        rw [hu] at rr
        cases hv : valV kvs k with
        | none => rw [hv] at rr; exact False.elim rr
        | some x =>
          rw [hv] at rr
          exact (⟨x, H, I.tok _, rr, w1 x hv⟩ : EP X pins σ Q u _)
      · have rr := rel.val k
        rw [hn] at rr
        cases hv : valV kvs k with
        | some x => rw [hv] at rr; exact False.elim rr
        | none =>
          have hl2 : (putK kvs k v).length ≤ sizeLine := by have := length_putK kvs k v; omega
          exact (⟨v, _, d_write (t' := s.toks + 1) I (by rw [ea]; exact True.intro) hs (let ⟨q, _, _, hq, _⟩ := dd'; ⟨q, hq⟩) (dk_new hl2 hd (rel.put k rd) dd'), rd, w2 hv⟩ : EP X pins σ Q _ _)
def Mt.nm : Mt → Str
  | .append => "append" | .extend => "extend" | .pop => "pop" | .get1 => "get" | .pop1 => "pop" | .reverse => "reverse" | .get2 => "get" | .setd => "setdefault" | .join => "join" | .starts => "startswith" | .split => "split" | .rstrp => "rstrip" | .rmpre => "removeprefix" | .isasc => "isascii" | .isdig => "isdigit"
def Mt.ty : Mt → String
  | .append => "list" | .extend => "list" | .pop => "list" | .get1 => "dict" | .pop1 => "list" | .reverse => "list" | .get2 => "dict" | .setd => "dict" | .join => "str" | .starts => "str" | .split => "str" | .rstrp => "str" | .rmpre => "str" | .isasc => "str" | .isdig => "str"
def Mt.id : Mt → String
  | .append => "list.append" | .extend => "list.extend" | .pop => "list.pop" | .get1 => "dict.get" | .pop1 => "list.pop" | .reverse => "list.reverse" | .get2 => "dict.get" | .setd => "dict.setdefault" | .join => "str.join" | .starts => "str.startswith" | .split => "str.split" | .rstrp => "str.rstrip" | .rmpre => "str.removeprefix" | .isasc => "str.isascii" | .isdig => "str.isdigit"
def Mt.isL : Mt → Bool
  | .get1 => false | _ => true
def rJoin (K : PySem.W.Frag) : V → List V → Hp → VK → Prop := fun x xs H Q => ∃ a p, ∃ ys : List Str, x = .str a ∧ xs = [.ref p] ∧ (SqL K H p (ys.map V.str) ∨ SqT K H p (ys.map V.str)) ∧ (ys.map (·.length)).sum + ys.length * a.length ≤ 16777216 ∧ Q (.str (Txt.join a ys)) H
def rStarts : V → List V → Hp → VK → Prop := fun x xs H Q => ∃ a b, x = .str a ∧ xs = [.str b] ∧ Q (.bl (Txt.startswith a b)) H
def rSplit : V → List V → Hp → VK → Prop := fun x xs H Q => ∃ a b, x = .str a ∧ xs = [.str b] ∧ (b.length == 0) = false ∧ a.length + 2 ≤ sizeLine ∧ rNewStrs (Txt.split a b) H Q
def rRstrp : V → List V → Hp → VK → Prop := fun x xs H Q => ∃ a b, x = .str a ∧ xs = [.str b] ∧ a.length ≤ sizeLine ∧ Q (.str (Txt.rstripChars a b)) H
def rRmpre : V → List V → Hp → VK → Prop := fun x xs H Q => ∃ a b, x = .str a ∧ xs = [.str b] ∧ a.length ≤ sizeLine ∧ Q (.str (Txt.removeprefix a b)) H
def rIsasc : V → List V → Hp → VK → Prop := fun x xs H Q => ∃ a, x = .str a ∧ xs = [] ∧ True ∧ Q (.bl (Txt.isascii a)) H
def rIsdig : V → List V → Hp → VK → Prop := fun x xs H Q => ∃ a, x = .str a ∧ xs = [] ∧ True ∧ Q (.bl (Txt.isdigit a)) H
def Mt.r (K : PySem.W.Frag) : Mt → V → List V → Hp → VK → Prop
  | .append => rAppend | .extend => rExtend | .pop => rPop | .get1 => fun _ _ _ _ => False | .pop1 => rPopAt | .reverse => rReverse | .get2 => rGet2 | .setd => rSetd | .join => rJoin K | .starts => rStarts | .split => rSplit | .rstrp => rRstrp | .rmpre => rRmpre | .isasc => rIsasc | .isdig => rIsdig
theorem Mt.r_ok {X : Cx} (hu : X.A.units + 64 < cLine) (m : Mt) : MtR X m.id (m.r X.K) := by
  cases m with
  | append => exact fun pins s σ H x xs v us Q I rx rv h => mt_append pins s σ H x xs v us Q I rx rv h
  | extend => exact fun pins s σ H x xs v us Q I rx rv h => mt_extend pins s σ H x xs v us Q I rx rv h
  | pop => exact fun pins s σ H x xs v us Q I rx rv h => mt_pop pins s σ H x xs v us Q I rx rv h
  | get1 => exact fun pins s σ H x xs v us Q I rx rv h => h.elim
  | pop1 => exact fun pins s σ H x xs v us Q I rx rv h => mt_popAt pins s σ H x xs v us Q I rx rv h
  | reverse => exact fun pins s σ H x xs v us Q I rx rv h => mt_reverse pins s σ H x xs v us Q I rx rv h
  | get2 => exact mt_get2 hu
  | setd => exact mt_setd
  | join => exact fun pins s σ H x xs v us Q I rx rv h => mt_join pins s σ H x xs v us Q I rx rv h
  | starts => exact fun pins s σ H x xs v us Q I rx rv h => mt_startswith pins s σ H x xs v us Q I rx rv h
  | split => exact fun pins s σ H x xs v us Q I rx rv h => mt_split pins s σ H x xs v us Q I rx rv h
  | rstrp => exact fun pins s σ H x xs v us Q I rx rv h => mt_rstripChars pins s σ H x xs v us Q I rx rv h
  | rmpre => exact fun pins s σ H x xs v us Q I rx rv h => mt_removeprefix pins s σ H x xs v us Q I rx rv h
  | isasc => exact fun pins s σ H x xs v us Q I rx rv h => mt_isascii pins s σ H x xs v us Q I rx rv h
  | isdig => exact fun pins s σ H x xs v us Q I rx rv h => mt_isdigit pins s σ H x xs v us Q I rx rv h
theorem Mt.plain (m : Mt) : PlainAttrs m.ty := by
  cases m with
  | get1 => exact F.plainAttrs_dict
  | get2 => exact F.plainAttrs_dict
  | setd => exact F.plainAttrs_dict
  | append => exact F.plainAttrs_list
  | extend => exact F.plainAttrs_list
  | pop => exact F.plainAttrs_list
  | pop1 => exact F.plainAttrs_list
  | reverse => exact F.plainAttrs_list
  | _ => exact F.plainAttrs_str
theorem Mt.slot (m : Mt) : Slot m.ty m.nm m.id := by
  cases m with
  | append => exact F.slot_list_append
  | extend => exact F.slot_list_extend
  | pop => exact F.slot_list_pop
  | get1 => exact F.slot_dict_get
  | pop1 => exact F.slot_list_pop
  | reverse => exact F.slot_list_reverse
  | get2 => exact F.slot_dict_get
  | setd => exact F.slot_dict_setdefault
  | join => exact F.slot_str_join
  | starts => exact F.slot_str_startswith
  | split => exact F.slot_str_split
  | rstrp => exact F.slot_str_rstrip
  | rmpre => exact F.slot_str_removeprefix
  | isasc => exact F.slot_str_isascii
  | isdig => exact F.slot_str_isdigit
theorem Mt.mty (m : Mt) : typeOf (.builtin m.id) = pure (.type "method_descriptor") := by
  cases m with
  | append => exact F.type_list_append
  | extend => exact F.type_list_extend
  | pop => exact F.type_list_pop
  | get1 => exact F.type_dict_get
  | pop1 => exact F.type_list_pop
  | reverse => exact F.type_list_reverse
  | get2 => exact F.type_dict_get
  | setd => exact F.type_dict_setdefault
  | join => exact F.type_str_join
  | starts => exact F.type_str_startswith
  | split => exact F.type_str_split
  | rstrp => exact F.type_str_rstrip
  | rmpre => exact F.type_str_removeprefix
  | isasc => exact F.type_str_isascii
  | isdig => exact F.type_str_isdigit
section
variable {X : Cx} {L : Lk} {C : Cenv} {a e o : Expr} {es : List Expr} {m : Mt} {mo : ME} {ms : List ME} {apos cpos : Pos}
theorem mt_ty {ι : List Addr} {S : Sto} {H : Hp} {x : Val} {v : V} (hm : m.isL = true) (R : Rel L ι S H) (r : Rv L.K ι H x v) {cst : Nat → Option (Str × List (Str × Val))} (t : mtT cst m S x) : tyV L.K m.ty v H := by
  have key : ∀ n, x = .loc n → (lstAt S n).isSome = true → tyV L.K "list" v H := fun n e h => by
    subst e
    simp only [Rv] at r
    obtain ⟨b, rfl, hb⟩ := r
    obtain ⟨xs, hx⟩ := Option.isSome_iff_exists.mp h
    obtain ⟨vs, h1, _⟩ := seqOf R hb hx
    exact .inl ⟨rfl, vs, h1⟩
  have keyD : ∀ n, x = .loc n → (dkAt S n).isSome = true → tyV L.K "dict" v H := fun n e h => by
    subst e
    simp only [Rv] at r
    obtain ⟨b, rfl, hb⟩ := r
    obtain ⟨xs, hx⟩ := Option.isSome_iff_exists.mp h
    obtain ⟨ws, h1, _⟩ := dkOf R hb hx
    exact .inr (.inr (.inl ⟨rfl, .inl ⟨ws, h1⟩⟩))
  have keyS : ∀ z, x = .str z → tyV L.K "str" v H := fun z e => by
    subst e
    simp only [Rv] at r
    subst r
    rfl
  cases m with
  | get1 => cases hm
  | get2 => cases x with
    | loc n => exact keyD n rfl t
    | _ => exact False.elim t
  | setd => cases x with
    | loc n => exact keyD n rfl t
    | _ => exact False.elim t
  | append => cases x with
    | loc n => exact key n rfl t
    | _ => exact False.elim t
  | extend => cases x with
    | loc n => exact key n rfl t
    | _ => exact False.elim t
  | pop => cases x with
    | loc n => exact key n rfl t
    | _ => exact False.elim t
  | pop1 => cases x with
    | loc n => exact key n rfl t
    | _ => exact False.elim t
  | reverse => cases x with
    | loc n => exact key n rfl t
    | _ => exact False.elim t
  | _ => cases x with
    | str z => exact keyS z rfl
    | _ => exact False.elim t
theorem dropLast_rv {K : PySem.W.Frag} {ι : List Addr} {H : Hp} {xs : List Val} {vs : List V} (h : Rvs K ι H xs vs) : Rvs K ι H xs.dropLast vs.dropLast := by
  rw [List.dropLast_eq_take, List.dropLast_eq_take, h.len]
  exact h.take _
theorem erase_rv {K : PySem.W.Frag} {ι : List Addr} {H : Hp} : ∀ {xs : List Val} {vs : List V} (i : Nat), Rvs K ι H xs vs → Rvs K ι H (xs.eraseIdx i) (vs.eraseIdx i)
  | [], vs, i, h => by simp only [Rvs] at h; subst h; exact Rvs.nil
  | x :: xs, vs, 0, h => by
    simp only [Rvs] at h
    obtain ⟨v, us, rfl, h1, h2⟩ := h
    exact h2
  | x :: xs, vs, i + 1, h => by
    simp only [Rvs] at h
    obtain ⟨v, us, rfl, h1, h2⟩ := h
    exact Rvs.cons h1 (erase_rv i h2)
theorem rev_rv {K : PySem.W.Frag} {ι : List Addr} {H : Hp} : ∀ {xs : List Val} {vs : List V}, Rvs K ι H xs vs → Rvs K ι H xs.reverse vs.reverse
  | [], vs, h => by simp only [Rvs] at h; subst h; exact Rvs.nil
  | x :: xs, vs, h => by
    simp only [Rvs] at h
    obtain ⟨v, us, rfl, h1, h2⟩ := h
    rw [List.reverse_cons, List.reverse_cons]
    exact (rev_rv h2).append (Rvs.one h1)
theorem ml_get {S : Sto} {n : Nat} {xs : List Val} (h : mlAt S n = some xs) : S[n]? = some (.lst xs) := by
  unfold mlAt at h
  split at h
  · rename_i ys e
    cases h
    exact e
  · cases h
theorem dk_get {S : Sto} {n : Nat} {kvs : List (Key × Val)} (h : dkAt S n = some kvs) : S[n]? = some (.dK kvs) := by
  unfold dkAt at h
  split at h
  · rename_i ys e
    cases h
    exact e
  · cases h
theorem setK_val {ι : List Addr} {H : Hp} {K : PySem.W.Frag} {kvs : List (Key × Val)} {ws : List (Key × V)} {k : Key} {x : Val} {v : V} (h1 : ws.map (·.1) = kvs.map (·.1)) (h2 : Rvs K ι H (kvs.map (·.2)) (ws.map (·.2))) (r : Rv K ι H x v) :
    (putK ws k v).map (·.1) = (setK kvs k x).map (·.1) ∧ Rvs K ι H ((setK kvs k x).map (·.2)) ((putK ws k v).map (·.2)) := by
  have ha : ∀ {kvs : List (Key × Val)} {ws : List (Key × V)}, ws.map (·.1) = kvs.map (·.1) → (ws.any fun kv => decide (kv.1 = k)) = kvs.any fun kv => decide (kv.1 = k) := by
    intro kvs
    induction kvs with
    | nil => intro ws h; simp at h; subst h; rfl
    | cons p kvs ih =>
      intro ws h
      cases ws with
      | nil => simp at h
      | cons q ws =>
        simp only [List.map_cons, List.cons.injEq] at h
        simp only [List.any_cons, ih h.2, h.1]
  have hm : ∀ {kvs : List (Key × Val)} {ws : List (Key × V)}, ws.map (·.1) = kvs.map (·.1) → Rvs K ι H (kvs.map (·.2)) (ws.map (·.2)) → Rvs K ι H ((kvs.map fun kv => if kv.1 = k then (kv.1, x) else kv).map (·.2)) ((ws.map fun kv => if kv.1 = k then (kv.1, v) else kv).map (·.2)) := by
    intro kvs
    induction kvs with
    | nil => intro ws h _; simp at h; subst h; exact Rvs.nil
    | cons p kvs ih =>
      intro ws h q
      cases ws with
      | nil => simp at h
      | cons w ws =>
        simp only [List.map_cons, List.cons.injEq] at h
        simp only [List.map_cons, Rvs] at q
        obtain ⟨u, us, e, q1, q2⟩ := q
        simp only [List.cons.injEq] at e
        obtain ⟨rfl, rfl⟩ := e
        simp only [List.map_cons]
        refine Rvs.cons ?_ (ih h.2 q2)
        by_cases c : p.1 = k
        · rw [if_pos c, if_pos (by rw [h.1]; exact c)]; exact r
        · rw [if_neg c, if_neg (by rw [h.1]; exact c)]; exact q1
  unfold putK setK
  rw [ha h1]
  split
  · refine ⟨?_, hm h1 h2⟩
    rw [List.map_map, List.map_map]
    have e1 : ((fun kv : Key × V => kv.1) ∘ fun kv => if kv.1 = k then (kv.1, v) else kv) = fun kv => kv.1 := by
      funext kv
      simp only [Function.comp]
      split <;> rfl
    have e2 : ((fun kv : Key × Val => kv.1) ∘ fun kv => if kv.1 = k then (kv.1, x) else kv) = fun kv => kv.1 := by
      funext kv
      simp only [Function.comp]
      split <;> rfl
    rw [e1, e2]
    exact h1
  · refine ⟨by simp [h1], ?_⟩
    rw [List.map_append, List.map_append]
    exact h2.append (Rvs.one r)
theorem keys_len {kvs : List (Key × Val)} {ws : List (Key × V)} (h : ws.map (·.1) = kvs.map (·.1)) : ws.length = kvs.length := by
  have := congrArg List.length h
  simpa using this
theorem strs_eq {K : PySem.W.Frag} {ι : List Addr} {H : Hp} : ∀ {xs : List Val} {vs : List V} {ys : List Str}, Rvs K ι H xs vs → strS xs = some ys → vs = ys.map V.str
  | [], vs, ys, r, h => by
    simp only [Rvs] at r
    simp only [strS, Option.some.injEq] at h
    subst r h
    rfl
  | x :: xs, vs, ys, r, h => by
    simp only [Rvs] at r
    obtain ⟨v, ws, rfl, h1, h2⟩ := r
    cases x with
    | str b =>
      simp only [strS, Option.map_eq_some_iff] at h
      obtain ⟨cs, h3, rfl⟩ := h
      simp only [Rv] at h1
      rw [h1, strs_eq h2 h3]
      rfl
    | _ => simp [strS] at h
theorem strs_rvs {K : PySem.W.Frag} {ι : List Addr} {H : Hp} : ∀ (ys : List Str), Rvs K ι H (ys.map Val.str) (ys.map V.str)
  | [] => by simp only [List.map_nil, Rvs]
  | y :: ys => by simp only [List.map_cons, Rvs]; exact ⟨_, _, rfl, by simp only [Rv], strs_rvs ys⟩
theorem mt_r {cst : Nat → Option (Str × List (Str × Val))} {ι : List Addr} {S : Sto} {H : Hp} {x : Val} {v : V} {xs : List Val} {vs : List V} {Q' : VQ} {Q : VK} (hm : m.isL = true) (R : Rel L ι S H) (r : Rv L.K ι H x v) (rs : Rvs L.K ι H xs vs)
    (w : mtS cst m x xs S Q') (postP : Post L ι H Q' Q) : m.r L.K v vs H Q := by
  have post : ∀ H' y u S', Grow L.K ι H ι H' → Rel L ι S' H' → Rv L.K ι H' y u → Q' y S' → Q u H' := fun H' y u S' g r ry q => postP ι H' y u S' g r ry q
  have sx : ∀ {a : Str}, x = .str a → v = .str a := fun {a} e => by subst e; simpa only [Rv] using r
  cases m with
  | get1 => cases hm
  | starts =>
    rcases xs with _ | ⟨y, _ | ⟨z, xs⟩⟩
    · cases x <;> simp [mtS] at w
    · cases x with
      | str a =>
        cases y with
        | str b =>
          obtain ⟨u, rfl, ru⟩ := one_of rs
          simp only [Rv] at ru
          subst ru
          simp only [mtS] at w
          exact ⟨a, b, sx rfl, rfl, post H (.bl _) _ S Grow.refl R (by simp only [Rv]) w⟩
        | _ => simp [mtS] at w
      | _ => cases y <;> simp [mtS] at w
    · cases x <;> simp [mtS] at w
  | split =>
    rcases xs with _ | ⟨y, _ | ⟨z, xs⟩⟩
    · cases x <;> simp [mtS] at w
    · cases x with
      | str a =>
        cases y with
        | str b =>
          obtain ⟨u, rfl, ru⟩ := one_of rs
          simp only [Rv] at ru
          subst ru
          simp only [mtS] at w
          exact ⟨a, b, sx rfl, rfl, w.1.1, bigle w.1.2, fun p hp => postAlloc R hp postP (strs_rvs _) w.2⟩
        | _ => simp [mtS] at w
      | _ => cases y <;> simp [mtS] at w
    · cases x <;> simp [mtS] at w
  | rstrp =>
    rcases xs with _ | ⟨y, _ | ⟨z, xs⟩⟩
    · cases x <;> simp [mtS] at w
    · cases x with
      | str a =>
        cases y with
        | str b =>
          obtain ⟨u, rfl, ru⟩ := one_of rs
          simp only [Rv] at ru
          subst ru
          simp only [mtS] at w
          exact ⟨a, b, sx rfl, rfl, bigle w.1, post H (.str _) _ S Grow.refl R (by simp only [Rv]) w.2⟩
        | _ => simp [mtS] at w
      | _ => cases y <;> simp [mtS] at w
    · cases x <;> simp [mtS] at w
  | rmpre =>
    rcases xs with _ | ⟨y, _ | ⟨z, xs⟩⟩
    · cases x <;> simp [mtS] at w
    · cases x with
      | str a =>
        cases y with
        | str b =>
          obtain ⟨u, rfl, ru⟩ := one_of rs
          simp only [Rv] at ru
          subst ru
          simp only [mtS] at w
          exact ⟨a, b, sx rfl, rfl, bigle w.1, post H (.str _) _ S Grow.refl R (by simp only [Rv]) w.2⟩
        | _ => simp [mtS] at w
      | _ => cases y <;> simp [mtS] at w
    · cases x <;> simp [mtS] at w
  | isasc =>
    rcases xs with _ | ⟨y, xs⟩
    · cases x with
      | str a =>
        simp only [Rvs] at rs
        subst rs
        simp only [mtS] at w
        exact ⟨a, sx rfl, rfl, True.intro, post H (.bl _) _ S Grow.refl R (by simp only [Rv]) w⟩
      | _ => simp [mtS] at w
    · cases x <;> simp [mtS] at w
  | isdig =>
    rcases xs with _ | ⟨y, xs⟩
    · cases x with
      | str a =>
        simp only [Rvs] at rs
        subst rs
        simp only [mtS] at w
        exact ⟨a, sx rfl, rfl, True.intro, post H (.bl _) _ S Grow.refl R (by simp only [Rv]) w⟩
      | _ => simp [mtS] at w
    · cases x <;> simp [mtS] at w
  | join =>
    rcases xs with _ | ⟨y, _ | ⟨z, xs⟩⟩
    · cases x <;> simp [mtS] at w
    · cases x with
      | str a =>
        cases y with
        | loc n =>
          obtain ⟨u, rfl, ru⟩ := one_of rs
          simp only [Rv] at ru
          obtain ⟨b, rfl, hb⟩ := ru
          cases e1 : (lstAt S n).bind strS with
          | none => simp [mtS, e1] at w
          | some ys =>
            simp only [mtS, e1] at w
            obtain ⟨zs, e2, e3⟩ := Option.bind_eq_some_iff.mp e1
            obtain ⟨us, h1, h2⟩ := seqOf R hb e2
            have := strs_eq h2 e3
            subst this
            exact ⟨a, b, ys, sx rfl, rfl, .inl h1, Nat.le_trans w.1 (by decide), post H (.str _) _ S Grow.refl R (by simp only [Rv]) w.2⟩
        | _ => simp [mtS] at w
      | _ => cases y <;> simp [mtS] at w
    · cases x <;> simp [mtS] at w
  | append =>
    rcases xs with _ | ⟨y, _ | ⟨z, xs⟩⟩
    · cases x <;> simp [mtS] at w
    · cases x with
      | loc n =>
        obtain ⟨u, rfl, ru⟩ := one_of rs
        simp only [Rv] at r
        obtain ⟨b, rfl, hb⟩ := r
        cases e1 : mlAt S n with
        | none => simp [mtS, e1] at w
        | some ys =>
          simp only [mtS, e1] at w
          obtain ⟨us, h1, h2⟩ := mlOf R hb e1
          have gg : Grow L.K ι H ι (upd H b (.lst (us ++ [u]))) := grow_upd h1 trivial
          refine ⟨b, us, u, rfl, rfl, h1, by rw [← h2.len]; exact biglt w.1, post _ .non _ _ gg ?_ (by simp only [Rv]) w.2⟩
          exact R.write (ml_get e1) hb rfl rfl h1 trivial ⟨_, upd_same, (Rvs.mono gg _ h2).append (Rvs.one (Rv.mono gg _ ru))⟩
      | _ => simp [mtS] at w
    · cases x <;> simp [mtS] at w
  | extend =>
    rcases xs with _ | ⟨y, _ | ⟨z, xs⟩⟩
    · cases x <;> simp [mtS] at w
    · cases x with
      | loc n =>
        cases y with
        | loc k =>
          obtain ⟨u, rfl, ru⟩ := one_of rs
          simp only [Rv] at r ru
          obtain ⟨b, rfl, hb⟩ := r
          obtain ⟨c, rfl, hc⟩ := ru
          cases e1 : mlAt S n with
          | none => simp [mtS, e1] at w
          | some ys =>
            cases e2 : mlAt S k with
            | none => simp [mtS, e1, e2] at w
            | some zs =>
              simp only [mtS, e1, e2] at w
              obtain ⟨us, h1, h2⟩ := mlOf R hb e1
              obtain ⟨ts, h3, h4⟩ := mlOf R hc e2
              have gg : Grow L.K ι H ι (upd H b (.lst (us ++ ts))) := grow_upd h1 trivial
              refine ⟨b, c, us, ts, rfl, rfl, h1, h3, by rw [← h2.len, ← h4.len]; exact bigle w.1, post _ .non _ _ gg ?_ (by simp only [Rv]) w.2⟩
              exact R.write (ml_get e1) hb rfl rfl h1 trivial ⟨_, upd_same, (Rvs.mono gg _ h2).append (Rvs.mono gg _ h4)⟩
        | _ => simp [mtS] at w
      | _ => cases y <;> simp [mtS] at w
    · cases x <;> simp [mtS] at w
  | pop1 =>
    rcases xs with _ | ⟨y, _ | ⟨z, xs⟩⟩
    · cases x <;> simp [mtS] at w
    · cases x with
      | loc n =>
        cases y with
        | int i =>
          obtain ⟨u, rfl, ru⟩ := one_of rs
          simp only [Rv] at r ru
          subst ru
          obtain ⟨b, rfl, hb⟩ := r
          cases e1 : mlAt S n with
          | none => simp [mtS, e1] at w
          | some ys =>
            simp only [mtS, e1] at w
            obtain ⟨w1, w2⟩ := w
            obtain ⟨us, h1, h2⟩ := mlOf R hb e1
            cases e2 : ys[i.toNat]? with
            | none => simp [e2] at w2
            | some y =>
              simp only [e2] at w2
              obtain ⟨u, h3, h4⟩ := h2.get e2
              have gg : Grow L.K ι H ι (upd H b (.lst (us.eraseIdx i.toNat))) := grow_upd h1 trivial
              refine ⟨b, us, i, i.toNat, u, rfl, rfl, h1, by omega, by have q := w1.2.2; simp only [big] at q; omega, ?_, h3, post _ y _ _ gg ?_ (Rv.mono gg _ h4) w2⟩
              · rw [h2.len] at w1
                unfold seqIndex?
                have e0 : ¬ i < 0 := by omega
                simp [e0]
                omega
              · exact R.write (ml_get e1) hb rfl rfl h1 trivial ⟨_, upd_same, Rvs.mono gg _ (erase_rv i.toNat h2)⟩
        | _ => simp [mtS] at w
      | _ => cases y <;> simp [mtS] at w
    · cases x <;> cases y <;> simp [mtS] at w
  | reverse =>
    rcases xs with _ | ⟨z, xs⟩
    · cases x with
      | loc n =>
        simp only [Rvs] at rs
        subst rs
        simp only [Rv] at r
        obtain ⟨b, rfl, hb⟩ := r
        cases e1 : mlAt S n with
        | none => simp [mtS, e1] at w
        | some ys =>
          simp only [mtS, e1] at w
          obtain ⟨us, h1, h2⟩ := mlOf R hb e1
          have gg : Grow L.K ι H ι (upd H b (.lst us.reverse)) := grow_upd h1 trivial
          exact ⟨b, us, rfl, rfl, h1, post _ .non _ _ gg (R.write (ob' := .lst ys.reverse) (ml_get e1) hb rfl rfl h1 trivial ⟨_, upd_same, Rvs.mono gg _ (rev_rv h2)⟩) (by simp only [Rv]) w⟩
      | _ => simp [mtS] at w
    · cases x <;> simp [mtS] at w
  | get2 =>
    rcases xs with _ | ⟨y, _ | ⟨z, _ | ⟨z2, xs⟩⟩⟩
    · cases x <;> simp [mtS] at w
    · cases x <;> simp [mtS] at w
    · cases x with
      | loc n =>
        obtain ⟨u, d, rfl, ru, rd⟩ := two_of rs
        simp only [Rv] at r
        obtain ⟨b, rfl, hb⟩ := r
        cases e1 : dkAt S n with
        | none => simp [mtS, e1] at w
        | some kvs =>
          cases e2 : keyOf y with
          | none => simp [mtS, e1, e2] at w
          | some k =>
            simp only [mtS, e1, e2] at w
            obtain ⟨ws, h1, h2, h3⟩ := dkOf R hb e1
            rw [keyOf_rv ru e2]
            refine ⟨b, kV k, d, _, rfl, rfl, DGet.k h1, ?_⟩
            rcases getK_val k h2 h3 with ⟨g1, g2⟩ | ⟨x', v', g1, g2, g3⟩
            · rw [g2]; rw [g1] at w; exact post H _ _ S Grow.refl R rd w
            · rw [g2]; rw [g1] at w; exact post H _ _ S Grow.refl R g3 w
      | _ => simp [mtS] at w
    · cases x <;> simp [mtS] at w
  | setd =>
    rcases xs with _ | ⟨y, _ | ⟨z, _ | ⟨z2, xs⟩⟩⟩
    · cases x <;> simp [mtS] at w
    · cases x <;> simp [mtS] at w
    · cases x with
      | loc n =>
        obtain ⟨u, d, rfl, ru, rd⟩ := two_of rs
        simp only [Rv] at r
        obtain ⟨b, rfl, hb⟩ := r
        cases e1 : dkAt S n with
        | none => simp [mtS, e1] at w
        | some kvs =>
          cases e2 : keyOf y with
          | none => simp [mtS, e1, e2] at w
          | some k =>
            simp only [mtS, e1, e2] at w
            obtain ⟨ws, h1, h2, h3⟩ := dkOf R hb e1
            rw [keyOf_rv ru e2]
            obtain ⟨w0, w⟩ := w
            rcases getK_val k h2 h3 with ⟨g1, g2⟩ | ⟨x', v', g1, g2, g3⟩
            · simp only [g1] at w
              refine ⟨b, ws, k, d, rfl, rfl, h1, by rw [keys_len h2]; exact biglt w0, fun u e => (by rw [g2] at e; cases e), fun _ => ?_⟩
              have gg : Grow L.K ι H ι (upd H b (.dK (putK ws k d))) := grow_upd h1 trivial
              have := setK_val (k := k) h2 h3 rd
              exact post _ z _ _ gg (R.write (ob' := .dK (setK kvs k z)) (dk_get e1) hb rfl rfl h1 trivial ⟨_, upd_same, this.1, Rvs.mono gg _ this.2⟩) (Rv.mono gg _ rd) w
            · simp only [g1] at w
              refine ⟨b, ws, k, d, rfl, rfl, h1, by rw [keys_len h2]; exact biglt w0, fun u e => (by rw [g2] at e; cases e; exact post H _ _ S Grow.refl R g3 w), fun e => (by rw [g2] at e; cases e)⟩
      | _ => simp [mtS] at w
    · cases x <;> simp [mtS] at w
  | pop =>
    rcases xs with _ | ⟨z, xs⟩
    · cases x with
      | loc n =>
        simp only [Rvs] at rs
        subst rs
        simp only [Rv] at r
        obtain ⟨b, rfl, hb⟩ := r
        cases e1 : mlAt S n with
        | none => simp [mtS, e1] at w
        | some ys =>
          simp only [mtS, e1] at w
          obtain ⟨us, h1, h2⟩ := mlOf R hb e1
          cases e2 : ys[ys.length - 1]? with
          | none => simp [e2] at w
          | some y =>
            simp only [e2] at w
            obtain ⟨u, h3, h4⟩ := h2.get e2
            have gg : Grow L.K ι H ι (upd H b (.lst us.dropLast)) := grow_upd h1 trivial
            refine ⟨b, us, u, rfl, rfl, h1, by rw [← h2.len]; exact h3, post _ y _ _ gg ?_ (Rv.mono gg _ h4) w⟩
            exact R.write (ml_get e1) hb rfl rfl h1 trivial ⟨_, upd_same, Rvs.mono gg _ (dropLast_rv h2)⟩
      | _ => simp [mtS] at w
    · cases x <;> simp [mtS] at w
/-- o.m(..) of a list -/
theorem se_mt0 (hK : X.K = L.K) (hu : X.A.units + 64 < cLine) (hm : m.isL = true) (ho : PE X o (tM X L C mo)) (hbase : attributeBase o m.nm X.env (eval o X.env) = eval o X.env) (hline : (apos.endLine == cpos.line) = true) :
    PE X (.Call (.Attribute o m.nm apos) [] [] cpos) (tM X L C (.mt m mo [])) :=
  peImp (pe_bm0 (T := m.ty) (id := m.id) m.plain m.slot m.mty (m.r_ok hu) ho hbase hline) fun σ H Q ⟨ι, ρ, S, Q', E, hρ, R, w, tk, post⟩ => by
    simp only [wpE, wpEs] at w
    refine ⟨ι, ρ, S, _, E, hρ, R, w, tk, fun ι1 H1 x v S1 g1 R1 r1 w1 => ⟨by rw [hK]; exact mt_ty hm R1 r1 w1.1, ?_⟩⟩
    rw [hK]; exact mt_r hm R1 r1 Rvs.nil w1.2 fun ι2 H' y u S' g r ry q => post ι2 H' y u S' (g1.trans g) r ry q
theorem se_mt (hK : X.K = L.K) (hu : X.A.units + 64 < cLine) (hm : m.isL = true) (ho : PE X o (tM X L C mo)) (ha : PA X (e :: es) (tMs X L C ms)) (hbase : attributeBase o m.nm X.env (eval o X.env) = eval o X.env)
    (hfew : ((backTo cpos (starEach (e :: es) X.env)).all (fun x => !x.1) && (backToKw cpos (keywordEach [] X.env)).all (fun x => x.1.isSome)
      && decide ((e :: es).length + ([] : List Keyword).length + (if ([] : List Keyword).isEmpty then 0 else 1) < 30)) = true)
    (hline : (apos.endLine == cpos.line) = true) (hs : starEach (e :: es) X.env = (false, eval e X.env) :: starEach es X.env) (hpl : (backTo cpos (starEach es X.env)).any (·.1) = false) :
    PE X (.Call (.Attribute o m.nm apos) (e :: es) [] cpos) (tM X L C (.mt m mo ms)) :=
  peImp (pe_bm (T := m.ty) (id := m.id) m.plain m.slot m.mty (m.r_ok hu) ho ha hbase hfew hline hs hpl) fun σ H Q ⟨ι, ρ, S, Q', E, hρ, R, w, tk, post⟩ => by
    simp only [wpE] at w
    refine ⟨ι, ρ, S, _, E, hρ, R, w, tk, fun ι1 H1 x v S1 g1 R1 r1 w1 => ⟨by rw [hK]; exact mt_ty hm R1 r1 w1.1, ?_⟩⟩
    refine ⟨ι1, ρ, S1, _, E, hρ.mono g1, R1, w1.2, WXe.grow g1 tk, fun ι2 H2 xs vs S2 g2 R2 r2 _ w2 => ?_⟩
    rw [hK]; exact mt_r hm R2 (Rv.mono g2 _ r1) r2 w2 fun ι3 H' y u S' g r ry q => post ι3 H' y u S' ((g1.trans g2).trans g) r ry q
/-- d.get(k) of a constant dict -/
theorem find_arr {es : List DictEntry} {f : Value → Bool} : es.toArray.find? (fun e => f e.key) = es.find? fun e => f e.key := List.find?_toArray ..
theorem none_map_K {K : PySem.W.Frag} {P : Program} {w : World} {h : Heap} {d : Addr} {es : List DictEntry} {n : Nat} (X : K.In h) (hl : K.lookup d = some ⟨.type "dict", none, .dict es.toArray n, #[]⟩) (hk : PySem.W.KeysLit w.params es) :
    h.MapOf (noneKind P w) d (fun k => findBy (noneKind P w).is es.toArray k) :=
  ⟨_, es.toArray, n, X _ _ hl, ⟨rfl, rfl, rfl⟩, rfl, fun e he => by
    obtain ⟨x, t, e1, e2⟩ := hk.all e (by simpa using he)
    refine ⟨some (.inr x), ?_, ?_⟩
    · rw [e1]
      exact decide_eq_true rfl
    · exact e2, fun _ => rfl⟩
theorem se_get1 (hK : X.K = L.K) (hu : X.A.units + 64 < cLine) (hcs : ∀ n x kvs, C.cst n = some (x, kvs) → CDk X.K X.w.params x kvs) (ho : PE X o (tM X L C mo)) (he : PA X [e] (tMs X L C ms)) (hbase : attributeBase o "get" X.env (eval o X.env) = eval o X.env)
    (hfew : ((backTo cpos (starEach [e] X.env)).all (fun x => !x.1) && (backToKw cpos (keywordEach [] X.env)).all (fun x => x.1.isSome)
      && decide (([e] : List Expr).length + ([] : List Keyword).length + (if ([] : List Keyword).isEmpty then 0 else 1) < 30)) = true)
    (hline : (apos.endLine == cpos.line) = true) (hs : starEach [e] X.env = [(false, eval e X.env)]) :
    PE X (.Call (.Attribute o "get" apos) [e] [] cpos) (tM X L C (.mt .get1 mo ms)) := by
  refine ⟨fun pins s σ H Q I ⟨ι, ρ, S, Q', E, hρ, R, w, tk, post⟩ => ?_⟩
  simp only [wpE] at w
  have hq : tM X L C mo σ H (fun v H1 => ∃ ι1 x S1, Grow L.K ι H ι1 H1 ∧ Rel L ι1 S1 H1 ∧ Rv L.K ι1 H1 x v ∧ mtT C.cst .get1 S1 x ∧ wpEs C ms ρ S1 (fun xs S2 => mtS C.cst .get1 x xs S2 Q') E) :=
    ⟨ι, ρ, S, _, E, hρ, R, w, tk, fun ι1 H1 x v S1 g1 R1 r1 w1 => ⟨ι1, x, S1, g1, R1, r1, w1⟩⟩
  refine wpAny_Call_method_late hbase hfew hline rfl (thn (ho.run pins s σ H _ I hq) fun v s1 ⟨v', H1, I1, r1, ι1, x, S1, g1, R1, rv, ty, q1⟩ => ?_)
  cases x with
  | cst n y =>
    simp only [Rv] at rv
    subst rv
    obtain rfl : v = Value.ref (coOf L.K y) := r1
    obtain ⟨kvs, hc⟩ := ty
    obtain ⟨es', n', hl, low, en⟩ := (hcs n y kvs hc).co
    have hl1 : X.K.lookup (coOf L.K y) = some ⟨.type "dict", none, .dict es'.toArray n', #[]⟩ := by rw [← hK]; exact hl
    rw [hK] at low en
    have hw0 : tMs X L C ms σ H1 (fun vs H2 => ∃ ι2 xs S2, Grow L.K ι1 H1 ι2 H2 ∧ Rel L ι2 S2 H2 ∧ Rvs L.K ι2 H2 xs vs ∧ mtS C.cst .get1 (.cst n y) xs S2 Q') :=
      ⟨ι1, ρ, S1, _, E, hρ.mono g1, R1, q1, WXe.grow g1 tk, fun ι2 H2 xs vs S2 g2 R2 r2 _ w2 => ⟨ι2, xs, S2, g2, R2, r2, w2⟩⟩
    have hg := I1.kIn _ _ hl1
    refine ⟨"dict", "dict.get", F.plainAttrs_dict, F.slot_dict_get, F.type_dict_get, ⟨_, hg, rfl⟩, fun b q => ⟨_, by cases q; exact hg, rfl⟩, ?_⟩
    have hA := he.run cpos pins s1 σ H1 _ I1 hw0
    rw [hs] at hA ⊢
    refine Calls.callWith_builtin rfl (Calls.evalArgs_plain ?_)
    refine thn hA fun us s2 ⟨vs, H2, I2, r2, ι2, xs, S2, g2, R2, rr, w2⟩ => ?_
    have hg2 := I2.kIn _ _ hl1
    rcases xs with _ | ⟨k, _ | ⟨k2, xs⟩⟩
    · simp [mtS] at w2
    · obtain ⟨u, rfl, ru⟩ := one_of rr
      obtain ⟨uv, rfl, rx⟩ := r2.one
      cases k with
      | str z =>
        simp only [mtS, hc, true_and] at w2
        simp only [Rv] at ru
        subst ru
        obtain ⟨t, rfl⟩ := rx
        refine call_meetsIn F.slot_dict_get ⟨_, hg2, rfl⟩ F.entry_dict_get (F.args_dict_get_2 _ _) (meets_dict_get (strKind X.prog X.w) _ (strKind_is X.prog X.w z t) low) ⟨_, PySem.W.mapOf_K I2.kIn hl1 (ents_lit en), ?_⟩
        have hf : ∀ (x : Str) (t : Tok), Value.isStrOf z (.str x t) = decide (x = z) := fun x t => by
          by_cases c : x = z
          · subst c; simp [Value.isStrOf]
          · simp [Value.isStrOf, c]
        rcases ents_find en (Value.isStrOf z) z hf with ⟨v, u', h', k', e1, e2, ⟨v', e3, e4⟩⟩ | ⟨e1, e2⟩
        · rw [e1] at w2
          have e5 : findBy Value.isStrOf es'.toArray z = some u' := by
            unfold findBy
            rw [List.find?_toArray, e2]
            rfl
          refine ⟨v', H2, I2.tok _, ?_, post ι2 H2 v v' S2 (g1.trans g2) R2 (e4 ι2 H2) w2⟩
          rw [e5]
          exact e3
        · rw [e1] at w2
          have e5 : findBy Value.isStrOf es'.toArray z = none := by
            unfold findBy
            rw [List.find?_toArray, e2]
            rfl
          refine ⟨.non, H2, I2.tok _, ?_, post ι2 H2 .non .non S2 (g1.trans g2) R2 (by simp only [Rv]) w2⟩
          rw [e5]
          rfl
      | non =>
        simp only [mtS, hc, true_and] at w2
        simp only [Rv] at ru
        subst ru
        obtain rfl : uv = Value.none := rx
        refine call_meetsIn F.slot_dict_get ⟨_, hg2, rfl⟩ F.entry_dict_get (F.args_dict_get_2 _ _) (meets_dict_get (noneKind X.prog X.w) _ (k := none) rfl low) ⟨_, none_map_K I2.kIn hl1 (ents_lit en), ?_⟩
        have e5 : findBy (noneKind X.prog X.w).is es'.toArray none = none := by
          unfold findBy
          rw [List.find?_toArray]
          have : es'.find? (fun e => (noneKind X.prog X.w).is none e.key) = none := by
            rw [List.find?_eq_none]
            intro e he q
            obtain ⟨x, t, e1, _⟩ := (ents_lit en).all e he
            rw [e1] at q
            exact nomatch q
          rw [this]
          rfl
        refine ⟨.non, H2, I2.tok _, ?_, post ι2 H2 .non .non S2 (g1.trans g2) R2 (by simp only [Rv]) w2⟩
        rw [e5]
        rfl
      | _ => simp [mtS] at w2
    · cases k <;> simp [mtS] at w2
  | loc n =>
    simp only [Rv] at rv
    obtain ⟨b, rfl, hb⟩ := rv
    cases (show v = Value.ref b from r1)
    obtain ⟨kvs0, e0⟩ := Option.isSome_iff_exists.mp ty
    obtain ⟨ws0, d1, _⟩ := dkOf R1 hb e0
    obtain ⟨h1, h2⟩ := tyV_is (T := "dict") I1 (show RelV (V.ref b) (Value.ref b) from rfl) (.inr (.inr (.inl ⟨rfl, .inl ⟨ws0, d1⟩⟩)))
    have hw0 : tMs X L C ms σ H1 (fun vs H2 => ∃ ι2 xs S2, Grow L.K ι1 H1 ι2 H2 ∧ Rel L ι2 S2 H2 ∧ Rvs L.K ι2 H2 xs vs ∧ mtS C.cst .get1 (.loc n) xs S2 Q') :=
      ⟨ι1, ρ, S1, _, E, hρ.mono g1, R1, q1, WXe.grow g1 tk, fun ι2 H2 xs vs S2 g2 R2 r2 _ w2 => ⟨ι2, xs, S2, g2, R2, r2, w2⟩⟩
    refine ⟨"dict", "dict.get", F.plainAttrs_dict, F.slot_dict_get, F.type_dict_get, h1, h2, ?_⟩
    have hA := he.run cpos pins s1 σ H1 _ I1 hw0
    rw [hs] at hA ⊢
    refine Calls.callWith_builtin rfl (Calls.evalArgs_plain ?_)
    refine thn hA fun us s2 ⟨vs, H2, I2, r2, ι2, xs, S2, g2, R2, rr, w2⟩ => ?_
    rcases xs with _ | ⟨k, _ | ⟨k2, xs⟩⟩
    · simp [mtS] at w2
    · obtain ⟨u, rfl, ru⟩ := one_of rr
      obtain ⟨uv, rfl, rx⟩ := r2.one
      cases e1 : dkAt S2 n with
      | none => simp [mtS, e1] at w2
      | some kvs =>
        cases e2 : keyOf k with
        | none => simp [mtS, e1, e2] at w2
        | some kk =>
          simp only [mtS, e1, e2] at w2
          obtain ⟨ws, h3, h4, h5⟩ := dkOf R2 (g2.get hb) e1
          rw [keyOf_rv ru e2] at rx
          refine d_get1 (by omega) I2 (DGet.k h3) rx fun w' s' I' rw' => ⟨_, H2, I', rw', ?_⟩
          rcases getK_val kk h4 h5 with ⟨q1', q2'⟩ | ⟨x', v', q1', q2', q3'⟩
          · rw [q2']; rw [q1'] at w2; exact post ι2 H2 .non .non S2 (g1.trans g2) R2 (by simp only [Rv]) w2
          · rw [q2']; rw [q1'] at w2; exact post ι2 H2 _ _ S2 (g1.trans g2) R2 q3' w2
    · simp [mtS] at w2
  | _ => exact ty.elim
/-- d[k] of a constant dict -/
def rIxC (X : Cx) : R2 := fun x y H Q => ∃ (a : Addr) (es : List DictEntry) (n : Nat) (z : Str) (v : V) (u' : Value), x = .ref a ∧ y = .str z ∧ X.K.lookup a = some ⟨.type "dict", none, .dict es.toArray n, #[]⟩ ∧ PySem.W.KeysLit X.w.params es ∧
  findBy Value.isStrOf es.toArray z = some u' ∧ RelV v u' ∧ Q v H
theorem ix_cst : IxR X (rIxC X) := by
  intro value slice pins s σ H x y v u Q I rx ry h hs
  obtain ⟨a, es, n, z, w, u', rfl, rfl, hl, lit, hf, rv, q⟩ := h
  cases (show v = Value.ref a from rx)
  obtain ⟨t, rfl⟩ : ∃ t, u = Value.str z t := ry
  exact tail_any ⟨_, I.kIn _ _ hl, rfl⟩ PySem.F.slot_dict_getitem.lookup (wpAny_getItem_of (knd := strKind X.prog X.w) (strKind_is X.prog X.w z t) (PySem.W.mapOf_K I.kIn hl lit) hf ⟨w, H, I.tok _, rv, q⟩) hs
theorem se_ixc {a b : Expr} {ma mb : ME} {pos : Pos} (hK : X.K = L.K) (hcs : ∀ n x kvs, C.cst n = some (x, kvs) → CDk X.K X.w.params x kvs) (ha : PE X a (tM X L C ma)) (hb : PE X b (tM X L C mb)) (hp : PlainIx b) : PE X (.Subscript a b pos) (tM X L C (.ixc ma mb)) :=
  peImp (pe_ix ix_cst ha hb hp) fun σ H Q ⟨ι, ρ, S, Q', E, hρ, R, w, tk, post⟩ => by
    simp only [wpE] at w
    refine ⟨ι, ρ, S, _, E, hρ, R, w, tk, fun ι1 H1 x v S1 g1 R1 r1 w1 => ⟨ι1, ρ, S1, _, E, hρ.mono g1, R1, w1, WXe.grow g1 tk, fun ι2 H2 y u S2 g2 R2 r2 w2 => ?_⟩⟩
    cases x with
    | cst n zz =>
      cases y with
      | str k =>
        simp only [cixS] at w2
        cases hc : C.cst n with
        | none => rw [hc] at w2; exact w2.elim
        | some p =>
          obtain ⟨uu, kvs⟩ := p
          rw [hc] at w2
          obtain ⟨rfl, w3⟩ := w2
          simp only [Rv] at r1 r2
          subst r1 r2
          obtain ⟨es', n', hl, low, en⟩ := (hcs n uu kvs hc).co
          have hf : ∀ (x : Str) (t : Tok), Value.isStrOf k (.str x t) = decide (x = k) := fun x t => by
            by_cases c : x = k
            · subst c; simp [Value.isStrOf]
            · simp [Value.isStrOf, c]
          rcases ents_find en (Value.isStrOf k) k hf with ⟨v, u', h', k', e1, e2, ⟨v', e3, e4⟩⟩ | ⟨e1, e2⟩
          · rw [e1] at w3
            have e5 : findBy Value.isStrOf es'.toArray k = some u' := by
              unfold findBy
              rw [List.find?_toArray, e2]
              rfl
            rw [hK] at hl
            exact ⟨coOf L.K uu, es', n', k, v', u', rfl, rfl, by rw [hK]; exact hl, ents_lit en, e5, e3, post ι2 H2 v v' S2 (g1.trans g2) R2 (by rw [← hK]; exact e4 ι2 H2) w3⟩
          · rw [e1] at w3; exact w3.elim
      | _ => simp [cixS] at w2
    | _ => cases y <;> simp [cixS] at w2
end
end PM

namespace PM
open PySem PySem.Spec PyProof.Rows L2

/-! ### targets -/
def setV : L2.St → List Nat → List V → L2.St
  | σ, i :: is, v :: vs => setV (σ.set i (some v)) is vs
  | σ, _, _ => σ
/-- g binds as bindT says; the slots of the target alone change -/
def TgOk (K : PySem.W.Frag) (g : TG) (tg : Tg) : Prop := ∀ (ι : List Addr) (H : Hp) (x : Val) (v : V) (ρ : LE) (σ : L2.St) (W : LE → Prop) (Q : L2.St → Hp → Prop), RelE K ι H ρ σ → Rv K ι H x v → bindT tg x ρ W →
  (∀ ρ' us, RelE K ι H ρ' (setV σ tg.slots us) → W ρ' → Q (setV σ tg.slots us) H) → g v σ H Q
theorem tgok_nm {K : PySem.W.Frag} {i : Nat} : TgOk K (gName i) (.nm i) := fun ι H x v ρ σ W Q hρ r b k => by
  simp only [bindT] at b
  exact k (ρ.set i (some x)) [v] (hρ.set r i) b
def gAll : List Nat → TGs
  | [] => gNil
  | i :: is => gCons (gName i) (gAll is)
theorem gAll_ok {K : PySem.W.Frag} {ι : List Addr} {H : Hp} {W : LE → Prop} {Q : L2.St → Hp → Prop} : ∀ (is : List Nat) (xs : List Val) (vs : List V) (ρ : LE) (σ : L2.St), is.length = xs.length → Rvs K ι H xs vs → RelE K ι H ρ σ → W (setAll ρ is xs) →
    (∀ ρ' , RelE K ι H ρ' (setV σ is vs) → W ρ' → Q (setV σ is vs) H) → gAll is vs σ H Q
  | [], [], vs, ρ, σ, _, r, hρ, w, k => by
    simp only [Rvs] at r
    subst r
    exact ⟨rfl, k ρ hρ w⟩
  | i :: is, x :: xs, vs, ρ, σ, hl, r, hρ, w, k => by
    simp only [Rvs] at r
    obtain ⟨v, ws, rfl, h1, h2⟩ := r
    refine ⟨v, ws, rfl, ?_⟩
    exact gAll_ok is xs ws (ρ.set i (some x)) (σ.set i (some v)) (by simpa using hl) h2 (hρ.set h1 i) w k
  | [], _ :: _, _, _, _, hl, _, _, _, _ => by simp at hl
  | _ :: _, [], _, _, _, hl, _, _, _, _ => by simp at hl
theorem tgok_tp {K : PySem.W.Frag} {is : List Nat} : TgOk K (gTup K is.length (gAll is)) (.tp is) := fun ι H x v ρ σ W Q hρ r b k => by
  cases x with
  | tup xs =>
    simp only [bindT] at b
    simp only [Rv] at r
    obtain ⟨a, vs, rfl, h1, h2⟩ := r
    exact ⟨a, vs, rfl, h1, by rw [← h2.len, b.1], gAll_ok is xs vs ρ σ b.1 h2 hρ b.2 fun ρ' hr hw => k ρ' vs hr hw⟩
  | _ => simp [bindT] at b
theorem wipe_set {σ : L2.St} {i : Nat} {v : Option V} : ∀ {vs : List Nat}, i ∈ vs → wipe (σ.set i v) vs = wipe σ vs
  | [], h => by simp at h
  | w :: vs, h => by
    unfold wipe
    by_cases hw : i ∈ vs
    · rw [wipe_set hw]
    · have e : i = w := by simpa [hw] using h
      subst e
      have : ∀ us : List Nat, i ∉ us → wipe (σ.set i v) us = (wipe σ us).set i v := fun us => by
        induction us with
        | nil => intro _; rfl
        | cons u us ih =>
          intro hu
          simp at hu
          unfold wipe
          rw [ih hu.2, List.set_comm _ _ (fun e => hu.1 e)]
      rw [this vs hw, List.set_set]
theorem wipe_setV {σ : L2.St} {vs : List Nat} : ∀ (is : List Nat) (us : List V) (σ : L2.St), (∀ i ∈ is, i ∈ vs) → wipe (setV σ is us) vs = wipe σ vs
  | [], us, σ, _ => by cases us <;> rfl
  | i :: is, [], σ, _ => rfl
  | i :: is, u :: us, σ, h => by
    show wipe (setV (σ.set i (some u)) is us) vs = wipe σ vs
    rw [wipe_setV (σ := σ) is us _ (fun j hj => h j (List.mem_cons_of_mem _ hj)), wipe_set (h i List.mem_cons_self)]
theorem wipe_mem {σ : L2.St} {i : Nat} : ∀ {vs : List Nat}, i ∈ vs → (wipe σ vs).set i none = wipe σ vs
  | [], h => by simp at h
  | w :: vs, h => by
    unfold wipe
    by_cases e : i = w
    · subst e
      rw [List.set_set]
    · have hm : i ∈ vs := by simpa [e] using h
      rw [List.set_comm _ _ (fun z => e z.symm), wipe_mem hm]
theorem wipe_idem {σ : L2.St} {ws : List Nat} : ∀ {vs : List Nat}, (∀ i ∈ vs, i ∈ ws) → wipe (wipe σ ws) vs = wipe σ ws
  | [], _ => rfl
  | v :: vs, h => by
    show (wipe (wipe σ ws) vs).set v none = wipe σ ws
    rw [wipe_idem (fun i hi => h i (List.mem_cons_of_mem _ hi)), wipe_mem (h v List.mem_cons_self)]
theorem RelE.wipe {K : PySem.W.Frag} {ι : List Addr} {H : Hp} {ρ : LE} {σ : L2.St} (h : RelE K ι H ρ σ) : ∀ vs : List Nat, RelE K ι H (wipeL ρ vs) (L2.wipe σ vs)
  | [] => h
  | v :: vs => by
    have ih := RelE.wipe h vs
    refine ⟨by simp [wipeL, L2.wipe, ih.1], fun i x e => ?_⟩
    simp only [wipeL] at e
    simp only [L2.wipe]
    rw [List.getElem?_set] at e
    by_cases hv : v = i
    · rw [if_pos hv] at e
      split at e <;> cases e
    · rw [if_neg hv] at e
      rw [List.getElem?_set_ne hv]
      exact ih.2 i x e

/-! ### list comprehensions -/
section
variable {X : Cx} {L : Lk} {C : Cenv} {e a b c : Expr} {es rest : List Expr} {m ma mb mc : ME} {ms : List ME} {pos p p2 p3 : Pos}
theorem takesF {X : Cx} {L : Lk} {ι : List Addr} {H : Hp} {σ : L2.St} : Takes X (WXe L ι H σ (fun _ _ _ => False)) :=
  (takes0 (X := X)).imp fun _ _ _ _ ⟨_, _, _, _, _, _, _, _, _, z⟩ => z
/-- without exceptions -/
def tM0 (L : Lk) (C : Cenv) (m : ME) : TE := fun σ H Q => ∃ ι ρ S Q', RelE L.K ι H ρ σ ∧ Rel L ι S H ∧ wpE C m ρ S Q' (fun _ _ _ => False) ∧ Post L ι H Q' Q
def tMA0 (L : Lk) (C : Cenv) (es : List ME) : TT := fun σ H Q => ∃ ι ρ S Q', RelE L.K ι H ρ σ ∧ Rel L ι S H ∧ wpA C es ρ S Q' (fun _ _ _ => False) ∧ PostT L ι H Q' Q
theorem se0 (h : PE X e (tM X L C m)) : PE X e (tM0 L C m) := peImp h fun σ H Q ⟨ι, ρ, S, Q', hρ, R, w, post⟩ => ⟨ι, ρ, S, Q', _, hρ, R, w, takesF, post⟩
theorem sts_nil : PTs X [] (tMA0 L C []) := ⟨fun pins s σ H Q I ⟨ι, ρ, S, Q', hρ, R, w, post⟩ => pts_nil.run pins s σ H Q I (by
  simp only [wpA] at w
  exact post ι H true S Grow.refl R w)⟩
theorem sts_one (h : PT X c (tMT X L C mc)) : PTs X [c] (tMA0 L C [mc]) := ⟨fun pins s σ H Q I ⟨ι, ρ, S, Q', hρ, R, w, post⟩ => (pts_one h).run pins s σ H Q I (by
  simp only [wpA] at w
  exact ⟨ι, ρ, S, _, _, hρ, R, w, takesF, fun ι1 H1 x v S1 g1 R1 r1 w1 => tru_mono w1 fun b hb => post ι1 H1 b S1 g1 R1 hb⟩)⟩
theorem drop_cons {α : Type} {ys : List α} {i : Nat} {y : α} (h : ys[i]? = some y) : ys.drop i = y :: ys.drop (i + 1) := by
  obtain ⟨h1, h2⟩ := List.getElem?_eq_some_iff.mp h
  rw [List.drop_eq_getElem_cons h1, h2]
def lcB (J : It) (g : TG) (tt : TT) (te : TE) (vs : List Nat) (σ : L2.St) (Q : VK) (H1 : Hp) : Prop := ∀ D, H1 D = none → ∃ W : Nat → Nat → Hp → Prop, (∃ m, W 0 m (upd H1 D (.lst []))) ∧ ∀ i m H, W i m H →
  (J.stop i H ∧ Q (.ref D) H) ∨ (J.go i H ∧ ∃ Nx : Hp → Prop, (∀ H', Nx H' → ∃ m', m' < m ∧ W (i + 1) m' H') ∧ ∀ x H', J.yld i H x H' → g x (wipe σ vs) H' fun σ2 H2 => wipe σ2 vs = wipe σ vs ∧ tt σ2 H2 fun b H3 =>
    if b = true then te σ2 H3 fun y H4 => ∃ acc, H4 D = some (.lst acc) ∧ acc.length < sizeLine ∧ Nx (upd H4 D (.lst (acc ++ [y]))) else Nx H3)
theorem lcB_ok {wi : TI} {g : TG} {tt : TT} {te : TE} {vs : List Nat} {σ : L2.St} {H : Hp} {Q : VK} (h : wi σ H fun J H1 => lcB J g tt te vs σ Q H1) : tLc wi g tt te vs σ H Q := h
/-- a comprehension's step -/
def lcStp (C : Cenv) (ρ : LE) (own : List Nat) (tg : Tg) (ifs : List ME) (elt : ME) : Val → Sto → (Option Val → Sto → Prop) → Prop := fun x S2 K => bindT tg x (wipeL ρ own) fun ρ2 => wpA C ifs ρ2 S2 (fun b S3 =>
  if b = true then wpE C elt ρ2 S3 (fun y S4 => K (some y) S4) (fun _ _ _ => False) else K none S3) (fun _ _ _ => False)
theorem lc_in {ifs : List ME} {own : List Nat} {tg : Tg} {elt : ME} {g : TG} {σ : L2.St} {H1 : Hp} {Q : VK} (hg : TgOk L.K g tg) (hown : ∀ i ∈ tg.slots, i ∈ own) {ι1 : List Addr} {ρ : LE} {S1 : Sto} {Q' : VQ} {J : It} {ys : List Val} {gd : List (Nat × List Val)}
    (hρ : RelE L.K ι1 H1 ρ σ) (R1 : Rel L ι1 S1 H1) (wk : Wk L ι1 H1 J ys gd) (w1 : lcS gd S1.length (lcStp C ρ own tg ifs elt) Q' ys [] (S1 ++ [.lst []])) (post : Post L ι1 H1 Q' Q) :
    lcB J g (tMA0 L C ifs) (tM0 L C elt) own σ Q H1 := by
  intro D hD
  have gA : Grow L.K ι1 H1 (ι1 ++ [D]) (upd H1 D (.lst [])) := grow_ext hD D
  have RA : Rel L (ι1 ++ [D]) (S1 ++ [.lst []]) (upd H1 D (.lst [])) := R1.alloc (ob := .lst []) hD ⟨[], upd_same, Rvs.nil⟩
  have atD : (ι1 ++ [D])[S1.length]? = some D := by
    rw [List.getElem?_append_right (by rw [R1.len]; exact Nat.le_refl _), R1.len]
    simp
  refine ⟨fun i m H' => m = ys.length - i ∧ i ≤ ys.length ∧ ∃ ι' S' acc, Grow L.K ι1 H1 ι' H' ∧ ι'[S1.length]? = some D ∧ Rel L ι' S' H' ∧ S'[S1.length]? = some (.lst acc) ∧
    lcS gd S1.length (lcStp C ρ own tg ifs elt) Q' (ys.drop i) acc S', ?_, ?_⟩
  · refine ⟨ys.length, by simp, Nat.zero_le _, ι1 ++ [D], S1 ++ [.lst []], [], gA, atD, RA, by simp, ?_⟩
    simpa using w1
  · rintro i m H' ⟨rfl, hi, ι', S', acc, gg, hD', R', hacc, wl⟩
    by_cases hlt : i < ys.length
    · right
      have hy : ys[i]? = some ys[i] := by simp [hlt]
      rw [drop_cons hy] at wl
      simp only [lcS] at wl
      obtain ⟨w2, w3⟩ := wl
      obtain ⟨go, yl⟩ := wk.go i _ ι' S' H' gg R' w2 hy
      refine ⟨go, _, fun H'' q => ⟨ys.length - (i + 1), by omega, q⟩, fun x H2 y2 => ?_⟩
      obtain ⟨g2, R2, r2⟩ := yl x H2 y2
      have gg2 := gg.trans g2
      unfold lcStp at w3
      refine hg ι' H2 _ x (wipeL ρ own) (wipe σ own) _ _ (RelE.mono gg2 hρ |>.wipe own) r2 w3 fun ρ2 us hρ2 w4 => ?_
      refine ⟨by rw [wipe_setV (σ := σ) _ us _ hown, wipe_idem fun _ z => z], ι', ρ2, S', _, hρ2, R2, w4, fun ι3 H3 b S3 g3 R3 w5 => ?_⟩
      cases b with
      | true =>
        refine ⟨ι3, ρ2, S3, _, hρ2.mono g3, R3, w5, fun ι4 H4 y v S4 g4 R4 r4 w6 => ?_⟩
        obtain ⟨h1, h2, h3⟩ := w6
        have hD4 : ι4[S1.length]? = some D := (g3.trans g4).get hD'
        obtain ⟨vs, e1, e2⟩ := R4.obj _ _ D h1 hD4
        refine ⟨vs, e1, by rw [← e2.len]; exact biglt h2, rfl, hlt, ι4, _, acc ++ [y], ?_, hD4, ?_, ?_, h3⟩
        · exact ((gg2.trans g3).trans g4).trans (grow_upd e1 trivial)
        · exact R4.write h1 hD4 rfl rfl e1 trivial ⟨vs ++ [v], upd_same, (Rvs.mono (grow_upd e1 trivial) _ e2).append (Rvs.one (Rv.mono (grow_upd e1 trivial) _ r4))⟩
        · rw [List.getElem?_set_self (List.getElem?_eq_some_iff.mp h1).1]
      | false =>
        obtain ⟨h1, h3⟩ := w5
        exact ⟨rfl, hlt, ι3, S3, acc, gg2.trans g3, g3.get hD', R3, h1, h3⟩
    · left
      have ei : i = ys.length := by omega
      subst ei
      simp only [List.drop_length, lcS] at wl
      refine ⟨wk.stop ι' S' H' gg R' wl.1, post ι' H' (.loc S1.length) _ S' gg R' ?_ wl.2⟩
      simp only [Rv]
      exact ⟨D, rfl, hD'⟩
theorem Rvs.reverse {K : PySem.W.Frag} {ι : List Addr} {H : Hp} : ∀ {xs : List Val} {vs : List V}, Rvs K ι H xs vs → Rvs K ι H xs.reverse vs.reverse
  | [], vs, h => by simp only [Rvs] at h; subst h; exact Rvs.nil
  | x :: xs, vs, h => by
    simp only [Rvs] at h
    obtain ⟨v, ws, rfl, h1, h2⟩ := h
    simp only [List.reverse_cons]
    exact (Rvs.reverse h2).append (Rvs.one h1)
theorem Post.grow {ι ι' : List Addr} {H H' : Hp} {Q' : VQ} {Q : VK} (g : Grow L.K ι H ι' H') (p : Post L ι H Q' Q) : Post L ι' H' Q' Q := fun ι2 H2 x v S2 g2 => p ι2 H2 x v S2 (g.trans g2)
theorem lc_red {k : ItK} {its ifs : List ME} {own : List Nat} {tg : Tg} {elt : ME} {g : TG} {σ : L2.St} {H : Hp} {Q : VK} (hg : TgOk L.K g tg) (hown : ∀ i ∈ tg.slots, i ∈ own) (h : tM X L C (.lc k its own tg ifs elt) σ H Q) :
    tLc (tI X L C k its) g (tMA0 L C ifs) (tM0 L C elt) own σ H Q := by
  obtain ⟨ι, ρ, S, Q', E, hρ, R, w, tk, post⟩ := h
  simp only [wpE] at w
  refine lcB_ok ⟨ι, ρ, S, _, E, hρ, R, w, tk, fun ι1 H1 xs S1 g1 R1 w1 => ?_⟩
  cases e : itS k xs S1 with
  | none =>
    rw [e] at w1
    exact w1.elim
  | some p =>
    obtain ⟨ys, gd⟩ := p
    rw [e] at w1
    exact ⟨ys, gd, rfl, fun J wk => lc_in hg hown (hρ.mono g1) R1 wk w1 (post.grow g1)⟩
/-- the turns of the clause behind, at the walk of the clause ahead -/
theorem lcI_in {ifs : List ME} {tg : Tg} {elt : ME} {g : TG} {σ : L2.St} {D : Addr} {l : Nat} {Nx : Hp → Prop} (hg : TgOk L.K g tg) {ι1 : List Addr} {H1 : Hp} {ρ : LE} {S1 : Sto} {QI : List Val → Sto → Prop} {J : It} {ys : List Val} {gd : List (Nat × List Val)} {acc0 : List Val}
    (hρ : RelE L.K ι1 H1 ρ σ) (R1 : Rel L ι1 S1 H1) (wk : Wk L ι1 H1 J ys gd) (hD : ι1[l]? = some D) (w1 : lcI gd l (lcStp C ρ tg.slots tg ifs elt) QI ys acc0 S1)
    (hN : ∀ ι' H' acc S', Grow L.K ι1 H1 ι' H' → Rel L ι' S' H' → QI acc S' → Nx H') :
    ∃ W1 : Nat → Nat → Hp → Prop, (∃ m, W1 0 m H1) ∧ ∀ j k H, W1 j k H →
      (J.stop j H ∧ Nx H) ∨ (J.go j H ∧ ∃ Nx1 : Hp → Prop, (∀ H', Nx1 H' → ∃ k', k' < k ∧ W1 (j + 1) k' H') ∧ ∀ x H', J.yld j H x H' → g x (wipe σ tg.slots) H' fun σ3 H5 => wipe σ3 tg.slots = wipe σ tg.slots ∧ tMA0 L C ifs σ3 H5 fun b H6 =>
        if b = true then tM0 L C elt σ3 H6 fun y H7 => ∃ acc, H7 D = some (.lst acc) ∧ acc.length < sizeLine ∧ Nx1 (upd H7 D (.lst (acc ++ [y]))) else Nx1 H6) := by
  refine ⟨fun i m H' => m = ys.length - i ∧ i ≤ ys.length ∧ ∃ ι' S' acc, Grow L.K ι1 H1 ι' H' ∧ Rel L ι' S' H' ∧ lcI gd l (lcStp C ρ tg.slots tg ifs elt) QI (ys.drop i) acc S', ?_, ?_⟩
  · refine ⟨ys.length, by simp, Nat.zero_le _, ι1, S1, acc0, Grow.refl, R1, ?_⟩
    simpa using w1
  · rintro i m H' ⟨rfl, hi, ι', S', acc, gg, R', wl⟩
    by_cases hlt : i < ys.length
    · right
      have hy : ys[i]? = some ys[i] := by simp [hlt]
      rw [drop_cons hy] at wl
      simp only [lcI] at wl
      obtain ⟨w2, w3⟩ := wl
      obtain ⟨go, yl⟩ := wk.go i _ ι' S' H' gg R' w2 hy
      refine ⟨go, _, fun H'' q => ⟨ys.length - (i + 1), by omega, q⟩, fun x H2 y2 => ?_⟩
      obtain ⟨g2, R2, r2⟩ := yl x H2 y2
      have gg2 := gg.trans g2
      unfold lcStp at w3
      refine hg ι' H2 _ x (wipeL ρ tg.slots) (wipe σ tg.slots) _ _ (RelE.mono gg2 hρ |>.wipe tg.slots) r2 w3 fun ρ2 us hρ2 w4 => ?_
      refine ⟨by rw [wipe_setV (σ := σ) _ us _ (fun _ z => z), wipe_idem fun _ z => z], ι', ρ2, S', _, hρ2, R2, w4, fun ι3 H3 b S3 g3 R3 w5 => ?_⟩
      cases b with
      | true =>
        refine ⟨ι3, ρ2, S3, _, hρ2.mono g3, R3, w5, fun ι4 H4 y v S4 g4 R4 r4 w6 => ?_⟩
        obtain ⟨h1, h2, h3⟩ := w6
        have hD4 : ι4[l]? = some D := (gg2.trans (g3.trans g4)).get hD
        obtain ⟨vs, e1, e2⟩ := R4.obj _ _ D h1 hD4
        refine ⟨vs, e1, by rw [← e2.len]; exact biglt h2, rfl, hlt, ι4, _, acc ++ [y], ?_, ?_, h3⟩
        · exact ((gg2.trans g3).trans g4).trans (grow_upd e1 trivial)
        · exact R4.write h1 hD4 rfl rfl e1 trivial ⟨vs ++ [v], upd_same, (Rvs.mono (grow_upd e1 trivial) _ e2).append (Rvs.one (Rv.mono (grow_upd e1 trivial) _ r4))⟩
      | false => exact ⟨rfl, hlt, ι3, S3, acc, gg2.trans g3, R3, w5⟩
    · left
      have ei : i = ys.length := by omega
      subst ei
      simp only [List.drop_length, lcI] at wl
      exact ⟨wk.stop ι' S' H' gg R' wl.1, hN ι' H' acc S' gg R' wl.2⟩
/-- what the clause behind walks, without exceptions -/
def tI0 (L : Lk) (C : Cenv) (k : ItK) (its : List ME) : TI := fun σ H R => ∃ ι ρ S Q', RelE L.K ι H ρ σ ∧ Rel L ι S H ∧ wpEs C its ρ S Q' (fun _ _ _ => False) ∧
  ∀ ι' H' xs S', Grow L.K ι H ι' H' → Rel L ι' S' H' → Q' xs S' → ∃ ys g, itS k xs S' = some (ys, g) ∧ ∀ J, Wk L ι' H' J ys g → R J H'
theorem si0 {tg iter : Expr} {k : ItK} {its : List ME} (h : PI X tg iter (tI X L C k its)) : PI X tg iter (tI0 L C k its) := piImp h fun σ H RR ⟨ι, ρ, S, Q', hρ, R, w, post⟩ => ⟨ι, ρ, S, Q', _, hρ, R, w, takesF, post⟩
theorem lc2_red {k k1 : ItK} {its ifs its1 ifs1 : List ME} {own : List Nat} {tg tg1 : Tg} {elt : ME} {g g1 : TG} {σ : L2.St} {H : Hp} {Q : VK} (hg : TgOk L.K g tg) (hg1 : TgOk L.K g1 tg1) (hown : ∀ i ∈ tg.slots, i ∈ own)
    (h : tM X L C (.lc2 k its own tg ifs k1 its1 tg1 ifs1 elt) σ H Q) : tLc2 (tI X L C k its) g (tMA0 L C ifs) (tI0 L C k1 its1) g1 (tMA0 L C ifs1) (tM0 L C elt) own tg1.slots σ H Q := by
  obtain ⟨ι, ρ, S, Q', E, hρ, R, w, tk, post⟩ := h
  simp only [wpE] at w
  refine ⟨ι, ρ, S, _, E, hρ, R, w, tk, fun ι1 H1 xs S1 gq R1 w1 => ?_⟩
  cases e : itS k xs S1 with
  | none =>
    rw [e] at w1
    exact w1.elim
  | some p =>
    obtain ⟨ys, gd⟩ := p
    rw [e] at w1
    refine ⟨ys, gd, rfl, fun J wk D hD => ?_⟩
    have gA : Grow L.K ι1 H1 (ι1 ++ [D]) (upd H1 D (.lst [])) := grow_ext hD D
    have RA : Rel L (ι1 ++ [D]) (S1 ++ [.lst []]) (upd H1 D (.lst [])) := R1.alloc (ob := .lst []) hD ⟨[], upd_same, Rvs.nil⟩
    have atD : (ι1 ++ [D])[S1.length]? = some D := by
      rw [List.getElem?_append_right (by rw [R1.len]; exact Nat.le_refl _), R1.len]
      simp
    simp only at w1
    generalize hin : (fun x acc S2 K => bindT tg x (wipeL ρ own) fun ρ2 => _ : Val → List Val → Sto → (List Val → Sto → Prop) → Prop) = inner at w1
    refine ⟨fun i m H' => m = ys.length - i ∧ i ≤ ys.length ∧ ∃ ι' S' acc, Grow L.K ι1 H1 ι' H' ∧ ι'[S1.length]? = some D ∧ Rel L ι' S' H' ∧ lcO gd S1.length inner Q' (ys.drop i) acc S', ?_, ?_⟩
    · refine ⟨ys.length, by simp, Nat.zero_le _, ι1 ++ [D], S1 ++ [.lst []], [], gA, atD, RA, ?_⟩
      simpa using w1
    · rintro i m H' ⟨rfl, hi, ι', S', acc, gg, hD', R', wl⟩
      by_cases hlt : i < ys.length
      · right
        have hy : ys[i]? = some ys[i] := by simp [hlt]
        rw [drop_cons hy] at wl
        simp only [lcO] at wl
        obtain ⟨w2, w3⟩ := wl
        obtain ⟨go, yl⟩ := wk.go i _ ι' S' H' gg R' w2 hy
        refine ⟨go, _, fun H'' q => ⟨ys.length - (i + 1), by omega, q⟩, fun x H2 y2 => ?_⟩
        obtain ⟨g2, R2, r2⟩ := yl x H2 y2
        have gg2 := gg.trans g2
        rw [← hin] at w3
        refine hg ι' H2 _ x (wipeL ρ own) (wipe σ own) _ _ (RelE.mono (gq.trans gg2) hρ |>.wipe own) r2 w3 fun ρ2 us hρ2 w4 => ?_
        refine ⟨by rw [wipe_setV (σ := σ) _ us _ hown, wipe_idem fun _ z => z], ι', ρ2, S', _, hρ2, R2, w4, fun ι3 H3 b S3 g3 R3 w5 => ?_⟩
        cases b with
        | true =>
          refine ⟨ι3, ρ2, S3, _, hρ2.mono g3, R3, w5, fun ι4 H4 xs1 S4 g4 R4 w6 => ?_⟩
          cases e1 : itS k1 xs1 S4 with
          | none =>
            rw [e1] at w6
            exact w6.elim
          | some p1 =>
            obtain ⟨ys1, gd1⟩ := p1
            rw [e1] at w6
            refine ⟨ys1, gd1, rfl, fun J1 wk1 => lcI_in hg1 (hρ2.mono (g3.trans g4)) R4 wk1 ((g3.trans g4).get hD') w6 fun ι5 H5 acc5 S5 g5 R5 w7 => ?_⟩
            exact ⟨rfl, hlt, ι5, S5, acc5, (gg2.trans (g3.trans g4)).trans g5, ((g3.trans g4).trans g5).get hD', R5, by rw [← hin]; exact w7⟩
        | false => exact ⟨rfl, hlt, ι3, S3, acc, gg2.trans g3, g3.get hD', R3, by rw [← hin]; exact w5⟩
      · left
        have ei : i = ys.length := by omega
        subst ei
        simp only [List.drop_length, lcO] at wl
        refine ⟨wk.stop ι' S' H' gg R' wl.1, post ι' H' (.loc S1.length) _ S' (gq.trans gg) R' ?_ wl.2⟩
        simp only [Rv]
        exact ⟨D, rfl, hD'⟩
theorem se_lc {k : ItK} {its ifs' : List ME} {ownl : List (Str × Nat)} {tg : Tg} {elt tgx iter : Expr} {ifs : List Expr} {melt : ME} {g : TG} {scope : Scope} (hc : X.calm = true) (hN : X.N.Nodup) (hg : TgOk L.K g tg) (hown : ∀ i ∈ tg.slots, i ∈ ownl.map (·.2))
    (hi : PI X tgx iter (tI X L C k its)) (ok : BlkOk X.N X.env.scope scope ownl)
    (hpg : ∀ (s : Shared) (H : Hp) (Cc : Addr) (cl : List (Str × Addr)) (fp : List Addr), PG (X.blk s H scope (compEnvC scope cl Cc X.env) fp) tgx g)
    (ht : ∀ (s : Shared) (H : Hp) (Cc : Addr) (cl : List (Str × Addr)) (fp : List Addr), PTs (X.blk s H scope (compEnvC scope cl Cc X.env) fp) ifs (tMA0 L C ifs'))
    (he : ∀ (s : Shared) (H : Hp) (Cc : Addr) (cl : List (Str × Addr)) (fp : List Addr), PE (X.blk s H scope (compEnvC scope cl Cc X.env) fp) elt (tM (X.blk s H scope (compEnvC scope cl Cc X.env) fp) L C melt))
    (hs : ∀ x, foldedSetIterable iter X.env x = pure x) : PE X (.ListComp elt [⟨tgx, iter, ifs, 0⟩] scope pos) (tM X L C (.lc k its (ownl.map (·.2)) tg ifs' melt)) :=
  peImp (pe_lc hc hN hi ok hpg ht (fun s H Cc cl fp => se0 (he s H Cc cl fp)) hs) fun σ H Q h => lc_red hg hown h
theorem se_rvs {k : Nat} {p1 : Pos} (hK : X.K = L.K) (ha : PE X a (tM X L C ma)) : PE X (.Subscript a (.Slice none none (some (.UnaryOp .USub (.Constant (.int 1) k p1) p2)) p3) pos) (tM X L C (.rvs ma)) :=
  peImp (pe_revL ha) fun σ H Q ⟨ι, ρ, S, Q', E, hρ, R, w, tk, post⟩ => by
    simp only [wpE] at w
    refine ⟨ι, ρ, S, _, E, hρ, R, w, tk, fun ι1 H1 x v S1 g1 R1 r1 w1 => ?_⟩
    cases x with
    | loc n =>
      simp only [Rv] at r1
      obtain ⟨b, rfl, hb⟩ := r1
      cases e1 : lstAt S1 n with
      | none => simp only [e1] at w1
      | some xs =>
        simp only [e1] at w1
        obtain ⟨vs, h1, h2⟩ := seqOf R1 hb e1
        refine ⟨b, vs, rfl, by rw [hK]; exact h1, fun p hp => postAlloc R1 hp (post.grow g1) (Rvs.reverse h2) w1⟩
    | _ => exact w1.elim
theorem se_lc2 {k k1 : ItK} {its ifs' its1 ifs1' : List ME} {ownl : List (Str × Nat)} {tg tg1 : Tg} {elt tgx iter tgx1 iter1 : Expr} {ifs ifs1 : List Expr} {melt : ME} {g g1 : TG} {scope : Scope} (hc : X.calm = true) (hN : X.N.Nodup) (hg : TgOk L.K g tg) (hg1 : TgOk L.K g1 tg1) (hown : ∀ i ∈ tg.slots, i ∈ ownl.map (·.2)) (hown1 : ∀ i ∈ tg1.slots, i ∈ ownl.map (·.2))
    (hi : PI X tgx iter (tI X L C k its)) (ok : BlkOk X.N X.env.scope scope ownl)
    (hpg : ∀ (s : Shared) (H : Hp) (Cc : Addr) (cl : List (Str × Addr)) (fp : List Addr), PG (X.blk s H scope (compEnvC scope cl Cc X.env) fp) tgx g)
    (ht : ∀ (s : Shared) (H : Hp) (Cc : Addr) (cl : List (Str × Addr)) (fp : List Addr), PTs (X.blk s H scope (compEnvC scope cl Cc X.env) fp) ifs (tMA0 L C ifs'))
    (hi1 : ∀ (s : Shared) (H : Hp) (Cc : Addr) (cl : List (Str × Addr)) (fp : List Addr), PI (X.blk s H scope (compEnvC scope cl Cc X.env) fp) tgx1 iter1 (tI (X.blk s H scope (compEnvC scope cl Cc X.env) fp) L C k1 its1))
    (hpg1 : ∀ (s : Shared) (H : Hp) (Cc : Addr) (cl : List (Str × Addr)) (fp : List Addr), PG (X.blk s H scope (compEnvC scope cl Cc X.env) fp) tgx1 g1)
    (ht1 : ∀ (s : Shared) (H : Hp) (Cc : Addr) (cl : List (Str × Addr)) (fp : List Addr), PTs (X.blk s H scope (compEnvC scope cl Cc X.env) fp) ifs1 (tMA0 L C ifs1'))
    (he : ∀ (s : Shared) (H : Hp) (Cc : Addr) (cl : List (Str × Addr)) (fp : List Addr), PE (X.blk s H scope (compEnvC scope cl Cc X.env) fp) elt (tM (X.blk s H scope (compEnvC scope cl Cc X.env) fp) L C melt))
    (hs : ∀ x, foldedSetIterable iter X.env x = pure x) (hs1 : ∀ env x, foldedSetIterable iter1 env x = pure x) : PE X (.ListComp elt [⟨tgx, iter, ifs, 0⟩, ⟨tgx1, iter1, ifs1, 0⟩] scope pos) (tM X L C (.lc2 k its (ownl.map (·.2)) tg ifs' k1 its1 tg1 ifs1' melt)) :=
  peImp (pe_lc2 hc hN hi ok hown1 hpg ht (fun s H Cc cl fp => si0 (hi1 s H Cc cl fp)) hpg1 ht1 (fun s H Cc cl fp => se0 (he s H Cc cl fp)) hs hs1) fun σ H Q h => lc2_red hg hg1 hown h
end
end PM

namespace PM
open PySem PySem.Spec PyProof.Rows L2

/-! ### instances -/
/-- the method of a class, as its callers know it -/
structure CalleeM (X : Cx) (L : Lk) (C : Cenv) (c a f : Nat) : Prop where
  ex : ∃ (fa : Addr) (fd : FuncData) (ps : List Str) (k : Nat), Cls X.K (L.ca c) ∧ Meth X.K (L.ca c) (L.fl a) fa ∧ FnOk X.prog X.w X.K X.mg X.base (L2.CX X.prog X.w) k fa fd ps (spC L C f) ∧ Binds X.K fd ps [] ∧ Room k X.A
/-- a class that is made -/
structure CalleeI (X : Cx) (L : Lk) (C : Cenv) (c : Nat) (x : Str) : Prop where
  ex : ∃ (fa : Addr) (fd : FuncData) (ps : List Str) (k : Nat), L.cok c = true ∧ X.mg x = some (.ref (L.ca c)) ∧ Mk X.K (L.ca c) fa ∧ FnOk X.prog X.w X.K X.mg X.base (L2.CX X.prog X.w) k fa fd ps (spC L C (C.ini c)) ∧ Binds X.K fd ps [] ∧ Room (k + 1) X.A
/-- the attributes of a class's instances -/
structure FldOk (K : PySem.W.Frag) (L : Lk) (fok : Nat → Nat → Bool) : Prop where
  at_ : ∀ c a, L.cok c = true → fok c a = true → Cls K (L.ca c) ∧ NoAttr K (L.ca c) (L.fl a)
section
variable {L : Lk} {ι : List Addr} {S : Sto} {H : Hp}
theorem ins_get' {n c : Nat} {fs : List (Nat × Val)} (h : insAt S n = some (c, fs)) : S[n]? = some (.ins c fs) := by
  unfold insAt at h
  split at h
  · rename_i e
    cases h
    exact e
  · cases h
theorem insOf {n c : Nat} {a : Addr} {fs : List (Nat × Val)} (R : Rel L ι S H) (ha : ι[n]? = some a) (h : insAt S n = some (c, fs)) :
    L.cok c = true ∧ ∃ dx ws, H a = some (.ins (L.ca c) dx ws) ∧ ws.map (·.1) = fs.map (fun p => L.fl p.1) ∧ Rvs L.K ι H (fs.map (·.2)) (ws.map (·.2)) := R.obj n _ a (ins_get' h) ha
theorem fld_val : ∀ {fs : List (Nat × Val)} {ws : List (Str × V)} (a : Nat), ws.map (·.1) = fs.map (fun p => L.fl p.1) → Rvs L.K ι H (fs.map (·.2)) (ws.map (·.2)) →
    (fs.lookup a = none ∧ ws.lookup (L.fl a) = none) ∨ ∃ x v, fs.lookup a = some x ∧ ws.lookup (L.fl a) = some v ∧ Rv L.K ι H x v
  | [], [], a, _, _ => .inl ⟨rfl, rfl⟩
  | [], _ :: _, _, h, _ => by simp at h
  | _ :: _, [], _, h, _ => by simp at h
  | (b, x) :: fs, (f, v) :: ws, a, h, r => by
    simp only [List.map_cons, List.cons.injEq] at h
    simp only [List.map_cons, Rvs] at r
    obtain ⟨v', us, e, r1, r2⟩ := r
    simp only [List.cons.injEq] at e
    obtain ⟨rfl, rfl⟩ := e
    obtain ⟨rfl, h2⟩ := h
    by_cases c : a = b
    · subst c
      exact .inr ⟨x, v, by simp [List.lookup], by simp [List.lookup], r1⟩
    · have e1 : (a == b) = false := by simpa using c
      have e2 : (L.fl a == L.fl b) = false := by
        rw [beq_eq_false_iff_ne]
        exact fun z => c (L.finj _ _ z)
      simp only [List.lookup, e1, e2]
      exact fld_val a h2 r2
theorem put_val {x : Val} {v : V} : ∀ {fs : List (Nat × Val)} {ws : List (Str × V)} (a : Nat), ws.map (·.1) = fs.map (fun p => L.fl p.1) → Rvs L.K ι H (fs.map (·.2)) (ws.map (·.2)) → Rv L.K ι H x v →
    (putF (L.fl a) v ws).map (·.1) = (putA a x fs).map (fun p => L.fl p.1) ∧ Rvs L.K ι H ((putA a x fs).map (·.2)) ((putF (L.fl a) v ws).map (·.2))
  | [], [], a, _, _, r => ⟨rfl, Rvs.one r⟩
  | [], _ :: _, _, h, _, _ => by simp at h
  | _ :: _, [], _, h, _, _ => by simp at h
  | (b, y) :: fs, (f, u) :: ws, a, h, q, r => by
    simp only [List.map_cons, List.cons.injEq] at h
    simp only [List.map_cons, Rvs] at q
    obtain ⟨v', us, e, r1, r2⟩ := q
    simp only [List.cons.injEq] at e
    obtain ⟨rfl, rfl⟩ := e
    obtain ⟨rfl, h2⟩ := h
    by_cases c : b = a
    · subst c
      simp only [putA, putF, if_true, List.map_cons]
      exact ⟨by rw [h2], Rvs.cons r r2⟩
    · have e2 : ¬ L.fl b = L.fl a := fun z => c (L.finj _ _ z)
      simp only [putA, putF, if_neg c, if_neg e2, List.map_cons]
      have := put_val a h2 r2 r
      exact ⟨by rw [this.1], Rvs.cons r1 this.2⟩
theorem flds_len {fs : List (Nat × Val)} {ws : List (Str × V)} (h : ws.map (·.1) = fs.map (fun p => L.fl p.1)) : ws.length = fs.length := by
  have := congrArg List.length h
  simpa using this
end
section
variable {X : Cx} {L : Lk} {C : Cenv} {e o : Expr} {es : List Expr} {m mo : ME} {ms : List ME} {pos p apos : Pos} {a c : Nat}
theorem se_fld (hK : X.K = L.K) (hF : FldOk X.K L C.fok) (ho : PE X o (tM X L C mo)) (hb : attributeBase o (L.fl a) X.env (eval o X.env) = eval o X.env) : PE X (.Attribute o (L.fl a) pos) (tM X L C (.fld mo a)) :=
  peImp (pe_fld ho hb) fun σ H Q ⟨ι, ρ, S, Q', E, hρ, R, w, tk, post⟩ => by
    simp only [wpE] at w
    refine ⟨ι, ρ, S, _, E, hρ, R, w, tk, fun ι1 H1 x v S1 g1 R1 r1 w1 => ?_⟩
    cases x with
    | loc n =>
      simp only [fldS] at w1
      simp only [Rv] at r1
      obtain ⟨b, rfl, hb⟩ := r1
      cases e1 : insAt S1 n with
      | none => simp only [e1] at w1
      | some q =>
        obtain ⟨c, fs⟩ := q
        simp only [e1] at w1
        obtain ⟨w0, w1⟩ := w1
        obtain ⟨ck, dx, ws, h1, h2, h3⟩ := insOf R1 hb e1
        obtain ⟨f1, f2⟩ := hF.at_ c a ck w0
        rcases fld_val a h2 h3 with ⟨g1', _⟩ | ⟨x', v', g1', g2', g3'⟩
        · simp only [g1'] at w1
        · simp only [g1'] at w1
          exact ⟨b, L.ca c, dx, ws, v', rfl, h1, f1, f2, g2', post ι1 H1 x' v' S1 g1 R1 g3' w1⟩
    | _ => exact w1.elim
end
theorem meth_eq {o : Expr} {m : Str} {apos pos : Pos} {es : List Expr} {env : Env} (hbase : attributeBase o m env (eval o env) = eval o env)
    (hfew : ((backTo pos (starEach es env)).all (fun x => !x.1) && (backToKw pos (keywordEach [] env)).all (fun x => x.1.isSome)
      && decide (es.length + ([] : List Keyword).length + (if ([] : List Keyword).isEmpty then 0 else 1) < 30)) = true) (hline : (apos.endLine == pos.line) = true) :
    eval (.Call (.Attribute o m apos) es [] pos) env = (do
      let ov ← eval o env
      standAt apos.atName
      let (f, first) ← holding [ov] (getMethod ov m (do return (← importBound o env).getD true))
      callWith pos f first (backTo pos (starEach es env)) (backToKw pos (keywordEach [] env))) := by
  rw [arm_eval_Call, hbase]
  have hform : methodCallForm (es.length + ([] : List Keyword).length) (backTo pos (starEach es env)) (backToKw pos (keywordEach [] env)) = true := hfew
  have hpos : methodCallPos true o env apos pos = pure pos := by unfold methodCallPos; simp [hline]
  unfold methodCall
  rw [hform]
  simp only [calleeOf, hpos, if_true, pure_bind]
section
variable {X : Cx} {L : Lk} {C : Cenv} {e o : Expr} {es : List Expr} {m mo : ME} {ms : List ME} {pos p apos : Pos} {a c : Nat}
theorem fewNil {env : Env} {pos : Pos} : ((backTo pos (starEach [] env)).all (fun x => !x.1) && (backToKw pos (keywordEach [] env)).all (fun x => x.1.isSome)
      && decide (([] : List Expr).length + ([] : List Keyword).length + (if ([] : List Keyword).isEmpty then 0 else 1) < 30)) = true := rfl
theorem meth_go {pins : List (Addr × Obj)} {s : Shared} {σ : L2.St} {H : Hp} {Q : VK} {ι : List Addr} {S : Sto} {n f : Nat} {u : Value} {v : V}
    (hM : ∀ c f, L.cok c = true → C.mth c a = some f → CalleeM X L C c a f) (I : Inv X pins σ H s) (R : Rel L ι S H) (rv : Rv L.K ι H (.loc n) v) (ru : RelV v u) (hm : mthS C.mth (.loc n) a S = some f)
    {args : List (Bool × Sem Value)} {kws : List (Option Str × Sem Value)} {pl : Sem Bool}
    (k : ∀ (fa b : Addr) (fd : FuncData) (ps : List Str) (k : Nat), v = .ref b → u = .ref b → FnOk X.prog X.w X.K X.mg X.base (L2.CX X.prog X.w) k fa fd ps (spC L C f) → Binds X.K fd ps [] → Room k X.A → PySem.W.keepIn X.K (.ref fa) = true →
      wpAny (model X.prog X.w) X.A (callWith pos (.ref fa) [.ref b] args kws) (EP X pins σ Q) X.xe s) :
    wpAny (model X.prog X.w) X.A (getMethod u (L.fl a) pl) (fun fx s₂ => wpAny (model X.prog X.w) X.A (callWith pos fx.1 fx.2 args kws) (EP X pins σ Q) X.xe s₂) X.xe s := by
  simp only [Rv] at rv
  obtain ⟨b, rfl, hb⟩ := rv
  obtain rfl : u = Value.ref b := ru
  simp only [mthS] at hm
  cases e1 : insAt S n with
  | none => simp [e1] at hm
  | some q =>
    obtain ⟨c, fs⟩ := q
    simp only [e1] at hm
    split at hm
    · rename_i hn
      obtain ⟨ck, dx, ws, h1, h2, h3⟩ := insOf R hb e1
      obtain ⟨fa, fd, ps, kk, c1, c2, F, hbd, hr⟩ := (hM c f ck hm).ex
      have hl : ws.lookup (L.fl a) = none := by
        rcases fld_val a h2 h3 with ⟨_, g⟩ | ⟨x', v', g1', _⟩
        · exact g
        · rw [g1'] at hn; cases hn
      exact getmeth_ok I h1 c1 c2 hl (k fa b fd ps kk rfl rfl F hbd hr c2.kp)
    · cases hm
theorem se_meth (hM : ∀ c f, L.cok c = true → C.mth c a = some f → CalleeM X L C c a f) (ho : PE X o (tM X L C mo)) (ha : PA X (e :: es) (tMs X L C ms)) (hbase : attributeBase o (L.fl a) X.env (eval o X.env) = eval o X.env)
    (hfew : ((backTo pos (starEach (e :: es) X.env)).all (fun x => !x.1) && (backToKw pos (keywordEach [] X.env)).all (fun x => x.1.isSome)
      && decide ((e :: es).length + ([] : List Keyword).length + (if ([] : List Keyword).isEmpty then 0 else 1) < 30)) = true) (hline : (apos.endLine == pos.line) = true)
    (he : starEach (e :: es) X.env = (false, eval e X.env) :: starEach es X.env) (hpl : (backTo pos (starEach es X.env)).any (·.1) = false) : PE X (.Call (.Attribute o (L.fl a) apos) (e :: es) [] pos) (tM X L C (.meth mo a ms)) := by
  refine ⟨fun pins s σ H Q I ⟨ι, ρ, S, Q', E, hρ, R, w, tk, post⟩ => ?_⟩
  simp only [wpE] at w
  have hq : tM X L C mo σ H (fun v H1 => ∃ ι1 x S1, Grow L.K ι H ι1 H1 ∧ Rel L ι1 S1 H1 ∧ Rv L.K ι1 H1 x v ∧ match mthS C.mth x a S1 with
    | some f => wpEs C ms ρ S1 (fun xs S2 => C.call f (x :: xs) S2 Q' E) E
    | none => False) := ⟨ι, ρ, S, _, E, hρ, R, w, tk, fun ι1 H1 x v S1 g1 R1 r1 w1 => ⟨ι1, x, S1, g1, R1, r1, w1⟩⟩
  refine PySem.W.methodCall_KW (thn (ho.run pins s σ H _ I hq) fun u s1 ⟨v, H1, I1, r1, ι1, x, S1, g1, R1, rv, w1⟩ => ?_) (meth_eq hbase hfew hline)
  cases hm : mthS C.mth x a S1 with
  | none => rw [hm] at w1; exact w1.elim
  | some f =>
    rw [hm] at w1
    have hx : ∃ n, x = .loc n := by
      cases x with
      | loc n => exact ⟨n, rfl⟩
      | _ => simp [mthS] at hm
    obtain ⟨n, rfl⟩ := hx
    refine meth_go hM I1 R1 rv r1 hm fun fa b fd ps k ev eu F hbd hr kp => ?_
    subst ev eu
    have hq2 : tMs X L C ms σ H1 (fun vs H2 => ∃ ι2 xs S2, Grow L.K ι1 H1 ι2 H2 ∧ Rel L ι2 S2 H2 ∧ Rvs L.K ι2 H2 xs vs ∧ C.call f (.loc n :: xs) S2 Q' E) :=
      ⟨ι1, ρ, S1, _, E, hρ.mono g1, R1, w1, WXe.grow g1 tk, fun ι2 H2 xs vs S2 g2 R2 r2 _ w2 => ⟨ι2, xs, S2, g2, R2, r2, w2⟩⟩
    refine PySem.W.callWith_K (first := [.ref b]) (h₀ := X.base) I1.ok.mod.kin kp (thn (ha.run pos pins s1 σ H1 _ I1 hq2) fun us s2 ⟨vs, H2, I2, r2, ι2, xs, S2, g2, R2, rr, w2⟩ => ⟨I2.kIn, ?_⟩) he hpl
    exact call_go (us := .ref b :: us) (vs := .ref b :: vs) F hbd hr I2 (.cons rfl r2) R2 (Rvs.cons (rv.mono g2) rr) w2 (WXe.grow (g1.trans g2) tk) fun ι3 H3 z t S3 g3 R3 r3 w3 => post ι3 H3 z t S3 ((g1.trans g2).trans g3) R3 r3 w3
theorem se_meth0 (hM : ∀ c f, L.cok c = true → C.mth c a = some f → CalleeM X L C c a f) (ho : PE X o (tM X L C mo)) (hbase : attributeBase o (L.fl a) X.env (eval o X.env) = eval o X.env)
    (hline : (apos.endLine == pos.line) = true) : PE X (.Call (.Attribute o (L.fl a) apos) [] [] pos) (tM X L C (.meth mo a [])) := by
  refine ⟨fun pins s σ H Q I ⟨ι, ρ, S, Q', E, hρ, R, w, tk, post⟩ => ?_⟩
  simp only [wpE] at w
  have hq : tM X L C mo σ H (fun v H1 => ∃ ι1 x S1, Grow L.K ι H ι1 H1 ∧ Rel L ι1 S1 H1 ∧ Rv L.K ι1 H1 x v ∧ match mthS C.mth x a S1 with
    | some f => wpEs C [] ρ S1 (fun xs S2 => C.call f (x :: xs) S2 Q' E) E
    | none => False) := ⟨ι, ρ, S, _, E, hρ, R, w, tk, fun ι1 H1 x v S1 g1 R1 r1 w1 => ⟨ι1, x, S1, g1, R1, r1, w1⟩⟩
  refine PySem.W.methodCall_KW (thn (ho.run pins s σ H _ I hq) fun u s1 ⟨v, H1, I1, r1, ι1, x, S1, g1, R1, rv, w1⟩ => ?_) (meth_eq hbase fewNil hline)
  cases hm : mthS C.mth x a S1 with
  | none => rw [hm] at w1; exact w1.elim
  | some f =>
    rw [hm] at w1
    have hx : ∃ n, x = .loc n := by
      cases x with
      | loc n => exact ⟨n, rfl⟩
      | _ => simp [mthS] at hm
    obtain ⟨n, rfl⟩ := hx
    refine meth_go hM I1 R1 rv r1 hm fun fa b fd ps k ev eu F hbd hr kp => ?_
    subst ev eu
    simp only [wpEs] at w1
    exact PySem.W.callWith_K0 (first := [.ref b]) I1.kIn kp (call_go (us := [.ref b]) (vs := [.ref b]) F hbd hr I1 (.cons rfl .nil) R1 (Rvs.one rv) w1 (WXe.grow g1 tk) fun ι3 H3 z t S3 g3 R3 r3 w3 => post ι3 H3 z t S3 (g1.trans g3) R3 r3 w3)

/-! ### a new instance -/
theorem run_makeS {CX : CXT} {k : Nat} {f Cc : Addr} {fd : FuncData} {ps : List Str} {sp : Sp} {E : L2.St → XK} {pins : List (Addr × Obj)} {σ : L2.St} {H : Hp} {s : Shared} {Q : VK} {us : List Value} {vs : List V} (M : Mk X.K Cc f) (F : FnOk X.prog X.w X.K X.mg X.base CX k f fd ps sp) (hr : Room (k + 1) X.A) (hb : Binds X.K fd ps [])
    (hx : PassesAt CX X σ (E σ)) (I : Inv X pins σ H s) (r : Vals vs us)
    (h : ∀ x dx, H x = none → H dx = none → dx ≠ x → sp (.ref x :: vs) (upd (upd H dx (.own x)) x (.ins Cc dx [])) (fun v H2 => v = .non ∧ Q (.ref x) H2) (E σ)) :
    wpAny (model X.prog X.w) X.A (call (.ref Cc) us) (EP X pins σ Q) X.xe s := by
  have hq := h (s.heap.objs.size + 1) s.heap.objs.size (I.hok.fresh (Nat.le_succ _)) (I.hok.fresh (Nat.le_refl _)) (Nat.ne_of_lt (Nat.lt_succ_self _))
  have I2 := Inv.made (C := Cc) I
  have r2 : Vals (V.ref (s.heap.objs.size + 1) :: vs) (Value.ref (s.heap.objs.size + 1) :: us) := .cons rfl r
  have hl : (Value.ref (s.heap.objs.size + 1) :: us).length = ps.length := by
    have e := r2.length
    rw [F.len _ _ _ _ hq] at e
    exact e.symm
  have hb' := hb _ (Value.ref (s.heap.objs.size + 1) :: us) I2.kIn (by rw [List.append_nil]; exact hl)
  rw [List.append_nil] at hb'
  refine wpAny_call (make_map (f := f) I.kIn M.makes M.init (beq_iff_eq.mp M.fn) (codeAny_mono (F.run _ X.stack _ _ ⟨Value.ref (s.heap.objs.size + 1) :: us, []⟩ (Value.ref (s.heap.objs.size + 1) :: us) _ _ (E σ) (hr.make Cc us [])
    (I2.env0.make Cc us []) hb' r2 hq) fun r s' hq' => ?_))
  cases r with
  | error e => exact hx pins _ _ e s' I2 hq'
  | ok fl =>
    cases fl with
    | ret u =>
      obtain ⟨v, H', I3, rv, ev, q3⟩ := I2.after hq'
      subst ev
      exact ⟨rv, ⟨V.ref (s.heap.objs.size + 1), H', I3, rfl, q3⟩⟩
    | next => exact False.elim hq'
    | brk => exact False.elim hq'
    | cont => exact False.elim hq'
theorem make_go {x : Str} {fa : Addr} {fd : FuncData} {ps : List Str} {k : Nat} {pins : List (Addr × Obj)} {s : Shared} {σ : L2.St} {H : Hp} {ι : List Addr} {S : Sto} {xs : List Val} {vs : List V} {us : List Value} {Q' : VQ} {E : XQ} {Q : VK}
    (hck : L.cok c = true) (M : Mk X.K (L.ca c) fa) (F : FnOk X.prog X.w X.K X.mg X.base (L2.CX X.prog X.w) k fa fd ps (spC L C (C.ini c))) (hb : Binds X.K fd ps []) (hr : Room (k + 1) X.A) (I : Inv X pins σ H s) (rv : Vals vs us) (R : Rel L ι S H) (r : Rvs L.K ι H xs vs)
    (w : C.call (C.ini c) (.loc S.length :: xs) (S ++ [.ins c []]) (fun v S2 => v = .non ∧ Q' (.loc S.length) S2) E) (tk : Takes X (WXe L ι H σ E)) (post : Post L ι H Q' Q) :
    wpAny (model X.prog X.w) X.A (call (.ref (L.ca c)) us) (EP X pins σ Q) X.xe s := by
  refine run_makeS (E := fun σ => WE (WXe L ι H σ E) σ) M F hr hb (passAt tk σ) I rv fun x dx hx hdx hne => ?_
  have g1 : Grow L.K ι H ι (upd H dx (.own x)) := grow_new hdx
  have R1 : Rel L ι S (upd H dx (.own x)) := R.untold hdx
  have hx1 : (upd H dx (.own x)) x = none := by rw [upd_ne (Ne.symm hne)]; exact hx
  have g2 : Grow L.K ι (upd H dx (.own x)) (ι ++ [x]) (upd (upd H dx (.own x)) x (.ins (L.ca c) dx [])) := grow_ext hx1 x
  have R2 : Rel L (ι ++ [x]) (S ++ [.ins c []]) (upd (upd H dx (.own x)) x (.ins (L.ca c) dx [])) := R1.alloc (ob := .ins c []) hx1 ⟨hck, dx, [], upd_same, rfl, Rvs.nil⟩
  have gg := g1.trans g2
  have rx : Rv L.K (ι ++ [x]) (upd (upd H dx (.own x)) x (.ins (L.ca c) dx [])) (.loc S.length) (.ref x) := by
    simp only [Rv]
    refine ⟨x, rfl, ?_⟩
    rw [List.getElem?_append_right (by rw [R.len]; exact Nat.le_refl _), R.len]
    simp
  refine ⟨ι ++ [x], .loc S.length :: xs, S ++ [.ins c []], _, E, R2, Rvs.cons rx (Rvs.mono gg _ r), w, fun ι3 H3 z t S3 g3 R3 r3 w3 => ?_, fun ι' H' S' c' vs' d g R' xd e => ⟨rfl, ι', S', c', vs', gg.trans g, R', rfl, xd, e⟩⟩
  obtain ⟨rfl, w3⟩ := w3
  refine ⟨by simpa [Rv] using r3, post ι3 H3 _ _ S3 (gg.trans g3) R3 (rx.mono g3) w3⟩
theorem se_make {x : Str} (F : CalleeI X L C c x) (hg : Gl X x) (hd : (x == ("__debug__" : Str)) = false) (ha : PA X (e :: es) (tMs X L C ms))
    (he : starEach (e :: es) X.env = (false, eval e X.env) :: starEach es X.env) (hpl : (backTo pos (starEach es X.env)).any (·.1) = false) : PE X (.Call (.Name x p) (e :: es) [] pos) (tM X L C (.make c ms)) := by
  obtain ⟨fa, fd, ps, k, hck, hm, M, F, hb, hr⟩ := F.ex
  refine ⟨fun pins s σ H Q I ⟨ι, ρ, S, Q', E, hρ, R, w, tk, post⟩ => ?_⟩
  simp only [wpE] at w
  refine wpAny_Call_Name_kw (ld_glob I hg hm ?_ hd)
  have hq : tMs X L C ms σ H (fun vs H1 => ∃ ι1 xs S1, Grow L.K ι H ι1 H1 ∧ Rel L ι1 S1 H1 ∧ Rvs L.K ι1 H1 xs vs ∧ C.call (C.ini c) (.loc S1.length :: xs) (S1 ++ [.ins c []]) (fun v S2 => v = .non ∧ Q' (.loc S1.length) S2) E) :=
    ⟨ι, ρ, S, _, E, hρ, R, w, tk, fun ι1 H1 xs vs S1 g1 R1 r1 _ w1 => ⟨ι1, xs, S1, g1, R1, r1, w1⟩⟩
  refine PySem.W.callWith_K (h₀ := X.base) I.ok.mod.kin M.kp (thn (ha.run pos pins s σ H _ I hq) fun us s1 ⟨vs, H1, I1, r, ι1, xs, S1, g1, R1, r1, w1⟩ => ⟨I1.kIn, ?_⟩) he hpl
  exact make_go (x := x) hck M F hb hr I1 r R1 r1 w1 (WXe.grow g1 tk) fun ι2 H2 z t S2 g2 R2 r2 w2 => post ι2 H2 z t S2 (g1.trans g2) R2 r2 w2
theorem se_make0 {x : Str} (F : CalleeI X L C c x) (hg : Gl X x) (hd : (x == ("__debug__" : Str)) = false) : PE X (.Call (.Name x p) [] [] pos) (tM X L C (.make c [])) := by
  obtain ⟨fa, fd, ps, k, hck, hm, M, F, hb, hr⟩ := F.ex
  refine ⟨fun pins s σ H Q I ⟨ι, ρ, S, Q', E, hρ, R, w, tk, post⟩ => ?_⟩
  simp only [wpE, wpEs] at w
  refine wpAny_Call_Name_kw (ld_glob I hg hm ?_ hd)
  exact PySem.W.callWith_K0 I.kIn M.kp (make_go (x := x) (us := []) hck M F hb hr I .nil R Rvs.nil w tk post)

/-! ### dict displays -/
theorem pairs_go {σ : L2.St} : ∀ {ks : List Key} {ms : List ME} {trs : List (TE × TE)} {H : Hp} {ι : List Addr} {ρ : LE} {S : Sto} {Q' : List Val → Sto → Prop} {E : XQ} {Q : List (V × V) → Hp → Prop}, ks.length = ms.length → trs = (ks.zip ms).map (fun p => (tC (kV p.1), tM X L C p.2)) →
    RelE L.K ι H ρ σ → Rel L ι S H → wpEs C ms ρ S Q' E → Takes X (WXe L ι H σ E) →
    (∀ ι' H' xs vs S', Grow L.K ι H ι' H' → Rel L ι' S' H' → Rvs L.K ι' H' xs vs → xs.length = ms.length → Q' xs S' → Q ((ks.zip vs).map fun p => (kV p.1, p.2)) H') → tPairs trs σ H Q
  | [], [], trs, H, ι, ρ, S, Q', E, Q, _, e, hρ, R, w, tk, post => by
    subst e
    simp only [wpEs] at w
    exact post ι H [] [] S Grow.refl R Rvs.nil rfl w
  | k :: ks, m :: ms, trs, H, ι, ρ, S, Q', E, Q, hl, e, hρ, R, w, tk, post => by
    subst e
    rw [wpEs] at w
    show tM X L C m σ H (fun y H2 => tPairs ((ks.zip ms).map (fun p => (tC (kV p.1), tM X L C p.2))) σ H2 fun ps H3 => Q ((kV k, y) :: ps) H3)
    exact ⟨ι, ρ, S, _, E, hρ, R, w, tk, fun ι1 H1 x v S1 g1 R1 r1 w1 => pairs_go (ks := ks) (ms := ms) (by simpa using hl) rfl (hρ.mono g1) R1 w1 (WXe.grow g1 tk) fun ι2 H2 xs vs S2 g2 R2 r2 l2 w2 =>
      post ι2 H2 (x :: xs) (v :: vs) S2 (g1.trans g2) R2 (Rvs.cons (r1.mono g2) r2) (by simp [l2]) w2⟩
  | [], _ :: _, _, _, _, _, _, _, _, _, hl, _, _, _, _, _, _ => by simp at hl
  | _ :: _, [], _, _, _, _, _, _, _, _, hl, _, _, _, _, _, _ => by simp at hl
theorem merge_val {ι : List Addr} {H : Hp} {K : PySem.W.Frag} : ∀ {ks : List Key} {xs : List Val} {vs : List V} {kvs : List (Key × Val)} {ws : List (Key × V)}, Rvs K ι H xs vs → ws.map (·.1) = kvs.map (·.1) → Rvs K ι H (kvs.map (·.2)) (ws.map (·.2)) →
    (mergeK ws (ks.zip vs)).map (·.1) = ((ks.zip xs).foldl (fun a p => setK a p.1 p.2) kvs).map (·.1) ∧ Rvs K ι H (((ks.zip xs).foldl (fun a p => setK a p.1 p.2) kvs).map (·.2)) ((mergeK ws (ks.zip vs)).map (·.2))
  | [], xs, vs, kvs, ws, r, h1, h2 => by simpa [mergeK] using ⟨h1, h2⟩
  | k :: ks, [], vs, kvs, ws, r, h1, h2 => by
    simp only [Rvs] at r
    subst r
    simpa [mergeK] using ⟨h1, h2⟩
  | k :: ks, x :: xs, vs, kvs, ws, r, h1, h2 => by
    simp only [Rvs] at r
    obtain ⟨v, us, rfl, r1, r2⟩ := r
    have := setK_val (k := k) h1 h2 r1
    simp only [List.zip_cons_cons, List.foldl_cons, mergeK]
    exact merge_val (ks := ks) r2 this.1 this.2
theorem se_dsp {ks : List Key} {keys : List (Option Expr)} {trs : List (TE × TE)} (h : PPs X pos keys es trs) (ht : trs = (ks.zip ms).map (fun p => (tC (kV p.1), tM X L C p.2))) (hl1 : ks.length = ms.length) (hall : keys.all (·.isSome) = true) (hl : keys.length = es.length) (h0 : keys ≠ []) (h15 : keys.length ≤ 15) (hk : ks.length = keys.length) :
    PE X (.Dict keys es pos) (tM X L C (.dsp ks ms)) :=
  peImp (pe_disp h hall hl h0 h15) fun σ H Q ⟨ι, ρ, S, Q', E, hρ, R, w, tk, post⟩ => fun p hp => by
    simp only [wpE] at w
    have g1 : Grow L.K ι H (ι ++ [p]) (upd H p (.dK [])) := grow_ext hp p
    have R1 : Rel L (ι ++ [p]) (S ++ [.dK []]) (upd H p (.dK [])) := R.alloc (ob := .dK []) hp ⟨[], upd_same, rfl, Rvs.nil⟩
    have atp : (ι ++ [p])[S.length]? = some p := by
      rw [List.getElem?_append_right (by rw [R.len]; exact Nat.le_refl _), R.len]
      simp
    refine pairs_go hl1 ht (hρ.mono g1) R1 w (WXe.grow g1 tk) fun ι2 H2 xs vs S2 g2 R2 r2 l2 w2 => ?_
    obtain ⟨w3, w4, w5⟩ := w2
    obtain ⟨ws, e1, e2, e3⟩ := R2.obj _ _ p w4 (g2.get atp)
    have ew : ws = [] := by simpa using e2
    subst ew
    refine ⟨e1, ks.zip vs, rfl, ?_, ?_⟩
    · rw [List.length_zip]
      have := Nat.min_le_left ks.length vs.length
      omega
    · have g3 : Grow L.K ι2 H2 ι2 (upd H2 p (.dK (mergeK [] (ks.zip vs)))) := grow_upd e1 trivial
      have mv := merge_val (ks := ks) (kvs := []) (ws := []) r2 rfl Rvs.nil
      refine post ι2 _ (.loc S.length) _ _ ((g1.trans g2).trans g3) (R2.write (ob' := .dK ((ks.zip xs).foldl (fun a p => setK a p.1 p.2) [])) w4 (g2.get atp) rfl rfl e1 trivial ⟨_, upd_same, mv.1, Rvs.mono g3 _ mv.2⟩) ?_ w5
      simp only [Rv]
      exact ⟨p, rfl, g2.get atp⟩
theorem se_dsp0 : PE X (.Dict [] [] pos) (tM X L C (.dsp [] [])) :=
  peImp pe_dnewK fun σ H Q ⟨ι, ρ, S, Q', E, hρ, R, w, tk, post⟩ => fun p hp => by
    simp only [wpE, wpEs] at w
    have g1 : Grow L.K ι H (ι ++ [p]) (upd H p (.dK [])) := grow_ext hp p
    have R1 : Rel L (ι ++ [p]) (S ++ [.dK []]) (upd H p (.dK [])) := R.alloc (ob := .dK []) hp ⟨[], upd_same, rfl, Rvs.nil⟩
    refine post _ _ (.loc S.length) _ _ g1 R1 ?_ ?_
    · simp only [Rv]
      refine ⟨p, rfl, ?_⟩
      rw [List.getElem?_append_right (by rw [R.len]; exact Nat.le_refl _), R.len]
      simp
    · have := w.2.2
      simpa using this
/-! ### dict comprehensions -/
theorem dc_red {k : ItK} {its : List ME} {own : List Nat} {tg : Tg} {ke ve : ME} {g : TG} {σ : L2.St} {H : Hp} {Q : VK} (hg : TgOk L.K g tg) (hown : ∀ i ∈ tg.slots, i ∈ own) (h : tM X L C (.dc k its own tg ke ve) σ H Q) :
    tDc (tI X L C k its) g (tMA0 L C []) (tM0 L C ke) (tM0 L C ve) own σ H Q := by
  obtain ⟨ι, ρ, S, Q', E, hρ, R, w, tk, post⟩ := h
  simp only [wpE] at w
  refine ⟨ι, ρ, S, _, E, hρ, R, w, tk, fun ι1 H1 xs S1 g1 R1 w1 => ?_⟩
  cases e : itS k xs S1 with
  | none =>
    rw [e] at w1
    exact w1.elim
  | some p =>
    obtain ⟨ys, gd⟩ := p
    rw [e] at w1
    refine ⟨ys, gd, rfl, fun J wk D hD => ?_⟩
    have gA : Grow L.K ι1 H1 (ι1 ++ [D]) (upd H1 D (.dK [])) := grow_ext hD D
    have RA : Rel L (ι1 ++ [D]) (S1 ++ [.dK []]) (upd H1 D (.dK [])) := R1.alloc (ob := .dK []) hD ⟨[], upd_same, rfl, Rvs.nil⟩
    have atD : (ι1 ++ [D])[S1.length]? = some D := by
      rw [List.getElem?_append_right (by rw [R1.len]; exact Nat.le_refl _), R1.len]
      simp
    refine ⟨fun i m H' => m = ys.length - i ∧ i ≤ ys.length ∧ ∃ ι' S' acc, Grow L.K ι1 H1 ι' H' ∧ ι'[S1.length]? = some D ∧ Rel L ι' S' H' ∧ S'[S1.length]? = some (.dK acc) ∧
      dcS gd S1.length (fun x S2 K => bindT tg x (wipeL ρ own) fun ρ2 => wpE C ke ρ2 S2 (fun y S3 => wpE C ve ρ2 S3 (fun z S4 => K y z S4) (fun _ _ _ => False)) (fun _ _ _ => False)) Q' (ys.drop i) acc S', ?_, ?_⟩
    · refine ⟨ys.length, by simp, Nat.zero_le _, ι1 ++ [D], S1 ++ [.dK []], [], gA, atD, RA, by simp, ?_⟩
      simpa using w1
    · rintro i m H' ⟨rfl, hi, ι', S', acc, gg, hD', R', hacc, wl⟩
      by_cases hlt : i < ys.length
      · right
        have hy : ys[i]? = some ys[i] := by simp [hlt]
        rw [drop_cons hy] at wl
        simp only [dcS] at wl
        obtain ⟨w2, w3⟩ := wl
        obtain ⟨go, yl⟩ := wk.go i _ ι' S' H' gg R' w2 hy
        refine ⟨go, _, fun H'' q => ⟨ys.length - (i + 1), by omega, q⟩, fun x H2 y2 => ?_⟩
        obtain ⟨g2, R2, r2⟩ := yl x H2 y2
        have gg2 := gg.trans g2
        refine hg ι' H2 _ x (wipeL ρ own) (wipe σ own) _ _ (RelE.mono (g1.trans gg2) hρ |>.wipe own) r2 w3 fun ρ2 us hρ2 w4 => ?_
        refine ⟨by rw [wipe_setV (σ := σ) _ us _ hown, wipe_idem fun _ z => z], ι', ρ2, S', fun b S3 => b = true ∧ wpE C ke ρ2 S3 _ (fun _ _ _ => False), hρ2, R2, by simp only [wpA]; exact ⟨trivial, w4⟩, fun ι3 H3 b S3 g3 R3 w5 => ?_⟩
        obtain ⟨rfl, w5⟩ := w5
        rw [if_pos rfl]
        refine ⟨ι3, ρ2, S3, _, hρ2.mono g3, R3, w5, fun ι4 H4 y v S4 g4 R4 r4 w6 => ?_⟩
        refine ⟨ι4, ρ2, S4, _, hρ2.mono (g3.trans g4), R4, w6, fun ι5 H5 z u S5 g5 R5 r5 w7 => ?_⟩
        cases ek : keyOf y with
        | none => simp only [ek] at w7
        | some kk =>
          simp only [ek] at w7
          obtain ⟨h1, h2, h3⟩ := w7
          have hD5 : ι5[S1.length]? = some D := ((g3.trans g4).trans g5).get hD'
          obtain ⟨vs, e1, e2, e3⟩ := R5.obj _ _ D h1 hD5
          have g6 : Grow L.K ι5 H5 ι5 (upd H5 D (.dK (putK vs kk u))) := grow_upd e1 trivial
          have sv := setK_val (k := kk) e2 e3 r5
          refine ⟨vs, kk, keyOf_rv r4 ek, e1, by rw [keys_len e2]; exact biglt h2, rfl, hlt, ι5, _, setK acc kk z, ?_, hD5, ?_, ?_, h3⟩
          · exact (((gg2.trans g3).trans g4).trans g5).trans g6
          · exact R5.write h1 hD5 rfl rfl e1 trivial ⟨_, upd_same, sv.1, Rvs.mono g6 _ sv.2⟩
          · rw [List.getElem?_set_self (List.getElem?_eq_some_iff.mp h1).1]
      · left
        have ei : i = ys.length := by omega
        subst ei
        simp only [List.drop_length, dcS] at wl
        refine ⟨wk.stop ι' S' H' gg R' wl.1, post ι' H' (.loc S1.length) _ S' (g1.trans gg) R' ?_ wl.2⟩
        simp only [Rv]
        exact ⟨D, rfl, hD'⟩
theorem se_dc {k : ItK} {its : List ME} {ownl : List (Str × Nat)} {tg : Tg} {kx vx tgx iter : Expr} {mk mv : ME} {g : TG} {scope : Scope} (hc : X.calm = true) (hN : X.N.Nodup) (hg : TgOk L.K g tg) (hown : ∀ i ∈ tg.slots, i ∈ ownl.map (·.2))
    (hi : PI X tgx iter (tI X L C k its)) (ok : BlkOk X.N X.env.scope scope ownl)
    (hpg : ∀ (s : Shared) (H : Hp) (Cc : Addr) (cl : List (Str × Addr)) (fp : List Addr), PG (X.blk s H scope (compEnvC scope cl Cc X.env) fp) tgx g)
    (hk : ∀ (s : Shared) (H : Hp) (Cc : Addr) (cl : List (Str × Addr)) (fp : List Addr), PE (X.blk s H scope (compEnvC scope cl Cc X.env) fp) kx (tM (X.blk s H scope (compEnvC scope cl Cc X.env) fp) L C mk))
    (he : ∀ (s : Shared) (H : Hp) (Cc : Addr) (cl : List (Str × Addr)) (fp : List Addr), PE (X.blk s H scope (compEnvC scope cl Cc X.env) fp) vx (tM (X.blk s H scope (compEnvC scope cl Cc X.env) fp) L C mv))
    (hs : ∀ x, foldedSetIterable iter X.env x = pure x) : PE X (.DictComp kx vx [⟨tgx, iter, [], 0⟩] scope pos) (tM X L C (.dc k its (ownl.map (·.2)) tg mk mv)) :=
  peImp (pe_dc hc hN hi ok hpg (fun s H Cc cl fp => sts_nil) (fun s H Cc cl fp => se0 (hk s H Cc cl fp)) (fun s H Cc cl fp => se0 (he s H Cc cl fp)) hs) fun σ H Q h => dc_red hg hown h

/-! ### the exception that a suite holds -/
/-- the suite of a clause «except X as n» -/
structure XSuite (X : Cx) (L : Lk) (C : Cenv) (names : List Str) : Prop where
  ex : ∃ (X0 : Cx) (a : Addr) (oe : Obj) (cls : Value) (pn : List (Addr × Obj)) (c0 dd : Addr) (fs : List (Str × V)) (n : Nat) (vs : List Val), X = X0.suite a ((a, oe) :: pn) ∧ Zc cls (some dd) oe ∧ (∃ us, oe.data = .fields us) ∧ cls = .ref c0 ∧ XfC X.K c0 ∧
    (∀ nm ∈ names, PySem.W.findIn X.K (.ref c0) nm = some none) ∧ C.cur = some (n, vs) ∧ L.hid = some (n, a, dd, fs) ∧ ∀ (k : Nat) (nm : Str) (x : Val), names[k]? = some nm → vs[k]? = some x → ∃ v, fs.lookup nm = some v ∧ ∀ ι H, Rv L.K ι H x v
theorem se_xat {names : List Str} {nm : Str} {k : Nat} (hx : XSuite X L C names) (hk : names[k]? = some nm) (ho : PE X o (tM X L C mo)) (hb : attributeBase o nm X.env (eval o X.env) = eval o X.env) : PE X (.Attribute o nm pos) (tM X L C (.xat mo k)) := by
  obtain ⟨X0, a, oe, cls, pn, c0, dd, fs, n, vs, rfl, hz, hf, rfl, xf, nf, hc, hh, hv⟩ := hx.ex
  refine peImp (pe_xf xf (nf nm (List.mem_of_getElem? hk)) hz hf ho hb) fun σ H Q ⟨ι, ρ, S, Q', E, hρ, R, w, tk, post⟩ => ?_
  simp only [wpE] at w
  refine ⟨ι, ρ, S, _, E, hρ, R, w, tk, fun ι1 H1 x v S1 g1 R1 r1 w1 => ?_⟩
  rw [hc] at w1
  obtain ⟨rfl, w1⟩ := w1
  simp only [Rv] at r1
  obtain ⟨b, rfl, hb⟩ := r1
  obtain ⟨h1, h2⟩ := R1.hid n a dd fs hh
  rw [h1] at hb
  cases hb
  cases ev : vs[k]? with
  | none => rw [ev] at w1; exact w1.elim
  | some y =>
    rw [ev] at w1
    obtain ⟨u, e1, e2⟩ := hv k nm y hk ev
    exact ⟨rfl, rfl, dd, fs, u, rfl, h2, e1, post ι1 H1 y u S1 g1 R1 (e2 ι1 H1) w1⟩
end
end PM

namespace PM
open PySem PySem.Spec PyProof.Rows L2

/-! ### statements -/
def WXs (L : Lk) (ι : List Addr) (H : Hp) (xn : Nat → List Val → LE → Sto → Prop) : WX := fun cls d σ' H' =>
  ∃ ι' ρ' S' c vs, Grow L.K ι H ι' H' ∧ RelE L.K ι' H' ρ' σ' ∧ Rel L ι' S' H' ∧ cls = L.xc c ∧ XdOk L H' c vs d ∧ xn c vs ρ' S'
structure EndsOk (L : Lk) (ι : List Addr) (H : Hp) (D' : ED) (D : Ends) : Prop where
  nx : ∀ ι' H' ρ' σ' S', Grow L.K ι H ι' H' → RelE L.K ι' H' ρ' σ' → Rel L ι' S' H' → D'.nx ρ' S' → D.nx σ' H'
  rt : Post L ι H D'.rt D.rt
  bk : ∀ ι' H' ρ' σ' S', Grow L.K ι H ι' H' → RelE L.K ι' H' ρ' σ' → Rel L ι' S' H' → D'.bk ρ' S' → D.bk σ' H'
  ct : ∀ ι' H' ρ' σ' S', Grow L.K ι H ι' H' → RelE L.K ι' H' ρ' σ' → Rel L ι' S' H' → D'.ct ρ' S' → D.ct σ' H'
section
variable {L : Lk} {ι ι' : List Addr} {H H' : Hp} {D' : ED} {D : Ends} {X : Cx} {σ : L2.St} {ρ : LE}
theorem EndsOk.grow (g : Grow L.K ι H ι' H') (d : EndsOk L ι H D' D) : EndsOk L ι' H' D' D :=
  ⟨fun _ _ _ _ _ g2 => d.nx _ _ _ _ _ (g.trans g2), fun _ _ _ _ _ g2 => d.rt _ _ _ _ _ (g.trans g2), fun _ _ _ _ _ g2 => d.bk _ _ _ _ _ (g.trans g2), fun _ _ _ _ _ g2 => d.ct _ _ _ _ _ (g.trans g2)⟩
theorem WXs.grow {xn : Nat → List Val → LE → Sto → Prop} (g : Grow L.K ι H ι' H') (tk : Takes X (WXs L ι H xn)) : Takes X (WXs L ι' H' xn) :=
  tk.imp fun _ _ _ _ ⟨ι2, ρ2, S2, c, vs, g2, r⟩ => ⟨ι2, ρ2, S2, c, vs, g.trans g2, r⟩
theorem WXs.ex {xn : Nat → List Val → LE → Sto → Prop} (hρ : RelE L.K ι H ρ σ) (tk : Takes X (WXs L ι H xn)) : Takes X (WXe L ι H σ (fun c vs => xn c vs ρ)) :=
  tk.imp fun _ _ _ _ ⟨e, ι2, S2, c, vs, g2, r, ec, xd, x⟩ => ⟨ι2, ρ, S2, c, vs, g2, by rw [e]; exact hρ.mono g2, r, ec, xd, x⟩
end
section
variable (X : Cx) (L : Lk) (C : Cenv)
def tMS (m : MS) : TS := fun D σ H => ∃ ι ρ S D', RelE L.K ι H ρ σ ∧ Rel L ι S H ∧ wpS C m D' ρ S ∧ Takes X (WXs L ι H D'.xn) ∧ EndsOk L ι H D' D
def tMSs (ms : List MS) : TS := fun D σ H => ∃ ι ρ S D', RelE L.K ι H ρ σ ∧ Rel L ι S H ∧ wpSs C ms D' ρ S ∧ Takes X (WXs L ι H D'.xn) ∧ EndsOk L ι H D' D
end
section
variable {X : Cx} {L : Lk} {C : Cenv} {e a b c o i : Expr} {st : Stmt} {es rest : List Expr} {body sa sb : List Stmt} {m ma mb mc mo mi : ME} {s1 : MS} {ms : List ME} {bs ss ts : List MS} {pos p p2 p3 : Pos}
theorem ss_nil : PSs X [] (tMSs X L C []) := pssImp pss_nil fun D σ H ⟨ι, ρ, S, D', hρ, R, w, tk, d⟩ => by
  simp only [wpSs] at w
  exact d.nx ι H ρ σ S Grow.refl hρ R w
theorem ss_cons (h1 : PS X st (tMS X L C s1)) (h2 : PSs X body (tMSs X L C ss)) : PSs X (st :: body) (tMSs X L C (s1 :: ss)) :=
  pssImp (pss_cons h1 h2) fun D σ H ⟨ι, ρ, S, D', hρ, R, w, tk, d⟩ => by
    rw [wpSs] at w
    exact ⟨ι, ρ, S, _, hρ, R, w, tk, ⟨fun ι1 H1 ρ1 σ1 S1 g1 r1 R1 w1 => ⟨ι1, ρ1, S1, D', r1, R1, w1, WXs.grow g1 tk, d.grow g1⟩, d.rt, d.bk, d.ct⟩⟩
theorem s_asg {tg : Expr} {t : Tg} {g : TG} (hg : TgOk L.K g t) (he : PE X e (tM X L C m)) (hpg : PG X tg g) (hs : swapsWithSole [tg] e pos.line X.env = pure false) (hw : swappedStores [tg] e X.env = pure none) (h1 : (assignEach [tg] X.env).map (·.2) = [assign tg X.env]) : PS X (.Assign [tg] e pos) (tMS X L C (.asg t m)) :=
  psImp (ps_asg he hpg hs hw h1) fun D σ H ⟨ι, ρ, S, D', hρ, R, w, tk, d⟩ => by
    simp only [wpS] at w
    exact ⟨ι, ρ, S, _, _, hρ, R, w, WXs.ex hρ tk, fun ι1 H1 x v S1 g1 R1 r1 w1 => hg ι1 H1 x v ρ σ _ _ (hρ.mono g1) r1 w1 fun ρ2 us h2 w2 => d.nx ι1 H1 ρ2 _ S1 g1 h2 R1 w2⟩
theorem s_asgLc {k : ItK} {its ifs' : List ME} {ownl : List (Str × Nat)} {tg : Tg} {elt tgx iter : Expr} {ifs : List Expr} {melt : ME} {g : TG} {scope : Scope} {j : Nat} {y : Str} {py spos : Pos} (hc : X.calm = true) (hN : X.N.Nodup) (hy : X.N[j]? = some y) (hyl : X.env.scope.names.lookup y = some .local)
    (hsw : swapsWith (.ListComp elt [⟨tgx, iter, ifs, 0⟩] scope pos) (some (.Name y py)) spos.line X.env = pure true) (hg : TgOk L.K g tg) (hown : ∀ i ∈ tg.slots, i ∈ ownl.map (·.2))
    (hi : PI X tgx iter (tI X L C k its)) (ok : BlkOk X.N X.env.scope scope ownl)
    (hpg : ∀ (s : Shared) (H : Hp) (Cc : Addr) (cl : List (Str × Addr)) (fp : List Addr), PG (X.blk s H scope (compEnvC scope cl Cc X.env) fp) tgx g)
    (ht : ∀ (s : Shared) (H : Hp) (Cc : Addr) (cl : List (Str × Addr)) (fp : List Addr), PTs (X.blk s H scope (compEnvC scope cl Cc X.env) fp) ifs (tMA0 L C ifs'))
    (he : ∀ (s : Shared) (H : Hp) (Cc : Addr) (cl : List (Str × Addr)) (fp : List Addr), PE (X.blk s H scope (compEnvC scope cl Cc X.env) fp) elt (tM (X.blk s H scope (compEnvC scope cl Cc X.env) fp) L C melt))
    (hs : ∀ x, foldedSetIterable iter X.env x = pure x) : PS X (.Assign [.Name y py] (.ListComp elt [⟨tgx, iter, ifs, 0⟩] scope pos) spos) (tMS X L C (.asg (.nm j) (.lc k its (ownl.map (·.2)) tg ifs' melt))) :=
  psImp (ps_setLc hc hN hy hyl hsw hi ok hpg ht (fun s H Cc cl fp => se0 (he s H Cc cl fp)) hs) fun D σ H ⟨ι, ρ, S, D', hρ, R, w, tk, d⟩ => by
    rw [wpS] at w
    exact lc_red hg hown ⟨ι, ρ, S, _, _, hρ, R, w, WXs.ex hρ tk, fun ι1 H1 x v S1 g1 R1 r1 w1 => d.nx ι1 H1 _ _ S1 g1 ((hρ.mono g1).set r1 j) R1 w1⟩
def rSetA (X : Cx) : TSet := fun o i v H Q => ∃ r, PSet X r ∧ r o i v H Q
theorem rSetA_ok : PSet X (rSetA X) := fun pins s σ H o i v ov iv u Q I ro ri rv ⟨_, k, q⟩ => k pins s σ H o i v ov iv u Q I ro ri rv q
theorem set_dict (hu : X.A.units + 64 < cLine) : PSet X (fun o i v H Q => ∃ a H', o = .ref a ∧ DPut H a i v H' ∧ Q H') := by
  intro pins s σ H o i v ov iv u Q I ro ri rv h
  obtain ⟨a, H', rfl, g, q⟩ := h
  cases (show ov = Value.ref a from ro)
  exact d_setItem (by omega) I g ri rv fun s' I' => ⟨H', I', q⟩
theorem subD_ok {ι : List Addr} {S : Sto} {H : Hp} {z : Val} {n : Nat} {k : Key} {i v : V} {a : Addr} {kvs : List (Key × Val)} {Q' : Sto → Prop} {Q : Hp → Prop} (hu : X.A.units + 64 < cLine) (R : Rel L ι S H) (ha : ι[n]? = some a) (ri : i = kV k) (rv : Rv L.K ι H z v)
    (e : S[n]? = some (.dK kvs)) (hz : kvs.length < big) (w : Q' (S.set n (.dK (setK kvs k z)))) (post : ∀ H' S', Grow L.K ι H ι H' → Rel L ι S' H' → Q' S' → Q H') : rSetA X (.ref a) i v H Q := by
  obtain ⟨ws, h1, h2, h3⟩ := R.obj n _ a e ha
  have gg : Grow L.K ι H ι (upd H a (.dK (putK ws k v))) := grow_upd h1 trivial
  have sv := setK_val (k := k) h2 h3 rv
  refine ⟨_, set_dict hu, a, _, rfl, ?_, post _ _ gg ?_ w⟩
  · rw [ri]
    exact DPut.k h1 (by rw [keys_len h2]; exact biglt hz)
  · exact R.write (ob' := .dK (setK kvs k z)) e ha rfl rfl h1 trivial ⟨_, upd_same, sv.1, Rvs.mono gg _ sv.2⟩
theorem sub_ok {ι : List Addr} {S : Sto} {H : Hp} {x y z : Val} {o i v : V} {Q' : Sto → Prop} {Q : Hp → Prop} (hu : X.A.units + 64 < cLine) (R : Rel L ι S H) (ro : Rv L.K ι H x o) (ri : Rv L.K ι H y i) (rv : Rv L.K ι H z v) (w : subS x y z S Q')
    (post : ∀ H' S', Grow L.K ι H ι H' → Rel L ι S' H' → Q' S' → Q H') : rSetA X o i v H Q := by
  unfold subS at w
  split at w
  · rename_i n k
    simp only [Rv] at ro ri
    obtain ⟨a, rfl, ha⟩ := ro
    subst ri
    split at w
    · rename_i xs e
      obtain ⟨vs, h1, h2⟩ := R.obj n _ a e ha
      split at w
      · rename_i j e2
        have gg : Grow L.K ι H ι (upd H a (.lst (vs.set j v))) := grow_upd h1 trivial
        refine ⟨_, set_list, a, vs, k, j, rfl, rfl, h1, by rw [← h2.len]; exact e2, post _ _ gg ?_ w⟩
        exact R.write e ha rfl rfl h1 trivial ⟨vs.set j v, upd_same, (Rvs.mono gg _ h2).set j (Rv.mono gg _ rv)⟩
      · exact w.elim
    · rename_i kvs e
      exact subD_ok hu R ha (k := .inl k) rfl rv e w.1 w.2 post
    · exact w.elim
  · rename_i n k
    simp only [Rv] at ro ri
    obtain ⟨a, rfl, ha⟩ := ro
    subst ri
    split at w
    · rename_i kvs e
      exact subD_ok hu R ha (k := .inr k) rfl rv (dk_get e) w.1 w.2 post
    · exact w.elim
  · exact w.elim
theorem s_sub (hu : X.A.units + 64 < cLine) (he : PE X e (tM X L C m)) (ho : PE X o (tM X L C mo)) (hi : PE X i (tM X L C mi)) (hs : swapsWithSole [.Subscript o i p] e pos.line X.env = pure false) (hw : swappedStores [.Subscript o i p] e X.env = pure none)
    (ha : ∀ v, assign (.Subscript o i p) X.env v = (do
      let ov ← holding [v] (eval o X.env)
      let iv ← holding [v, ov] (eval i X.env)
      standAt p
      holding [v, ov, iv] (setItem ov iv v)
      release [v, ov, iv] [])) : PS X (.Assign [.Subscript o i p] e pos) (tMS X L C (.sub mo mi m)) :=
  psImp (ps_asg he (pg_sub ho hi rSetA_ok ha) hs hw) fun D σ H ⟨ι, ρ, S, D', hρ, R, w, tk, d⟩ => by
    simp only [wpS] at w
    exact ⟨ι, ρ, S, _, _, hρ, R, w, WXs.ex hρ tk, fun ι1 H1 z v S1 g1 R1 r1 w1 => ⟨ι1, ρ, S1, _, _, hρ.mono g1, R1, w1, WXs.ex (hρ.mono g1) (WXs.grow g1 tk), fun ι2 H2 x ov S2 g2 R2 r2 w2 =>
      ⟨ι2, ρ, S2, _, _, hρ.mono (g1.trans g2), R2, w2, WXs.ex (hρ.mono (g1.trans g2)) (WXs.grow (g1.trans g2) tk), fun ι3 H3 y iv S3 g3 R3 r3 w3 =>
        sub_ok hu R3 (r2.mono g3) r3 (r1.mono (g2.trans g3)) w3 fun H4 S4 g4 R4 w4 => d.nx ι3 H4 ρ σ S4 (((g1.trans g2).trans g3).trans g4) (hρ.mono (((g1.trans g2).trans g3).trans g4)) R4 w4⟩⟩⟩
theorem s_ex (he : PE X e (tM X L C m)) (hs : swapsWith e none pos.line X.env = pure false) : PS X (.Expr e pos) (tMS X L C (.ex m)) :=
  psImp (ps_expr he hs) fun D σ H ⟨ι, ρ, S, D', hρ, R, w, tk, d⟩ => by
    simp only [wpS] at w
    exact ⟨ι, ρ, S, _, _, hρ, R, w, WXs.ex hρ tk, fun ι1 H1 x v S1 g1 R1 r1 w1 => d.nx ι1 H1 ρ σ S1 g1 (hρ.mono g1) R1 w1⟩
theorem s_ret (he : PE X e (tM X L C m)) : PS X (.Return (some e) pos) (tMS X L C (.ret m)) :=
  psImp (ps_ret he) fun D σ H ⟨ι, ρ, S, D', hρ, R, w, tk, d⟩ => by
    simp only [wpS] at w
    exact ⟨ι, ρ, S, _, _, hρ, R, w, WXs.ex hρ tk, d.rt⟩
theorem s_retN : PS X (.Return none pos) (tMS X L C .retN) :=
  psImp ps_retN fun D σ H ⟨ι, ρ, S, D', hρ, R, w, tk, d⟩ => by
    simp only [wpS] at w
    exact d.rt ι H .non .non S Grow.refl R (by simp only [Rv]) w
theorem s_pass : PS X (.Pass pos) (tMS X L C .pass) := psImp ps_pass fun D σ H ⟨ι, ρ, S, D', hρ, R, w, tk, d⟩ => by
  simp only [wpS] at w
  exact d.nx ι H ρ σ S Grow.refl hρ R w
theorem s_brk : PS X (.Break pos) (tMS X L C .brk) := psImp ps_break fun D σ H ⟨ι, ρ, S, D', hρ, R, w, tk, d⟩ => by
  simp only [wpS] at w
  exact d.bk ι H ρ σ S Grow.refl hρ R w
theorem s_cnt : PS X (.Continue pos) (tMS X L C .cnt) := psImp ps_continue fun D σ H ⟨ι, ρ, S, D', hρ, R, w, tk, d⟩ => by
  simp only [wpS] at w
  exact d.ct ι H ρ σ S Grow.refl hρ R w
theorem s_ite (hc : PT X c (tMT X L C mc)) (ha : PSs X sa (tMSs X L C ss)) (hb : PSs X sb (tMSs X L C ts)) : PS X (.If c sa sb pos) (tMS X L C (.ite mc ss ts)) :=
  psImp (ps_if hc ha hb) fun D σ H ⟨ι, ρ, S, D', hρ, R, w, tk, d⟩ => by
    simp only [wpS, wpT] at w
    refine ⟨ι, ρ, S, _, _, hρ, R, w, WXs.ex hρ tk, fun ι1 H1 x v S1 g1 R1 r1 w1 => tru_mono w1 fun k hk => ?_⟩
    cases k with
    | true => exact ⟨ι1, ρ, S1, D', hρ.mono g1, R1, hk, WXs.grow g1 tk, d.grow g1⟩
    | false => exact ⟨ι1, ρ, S1, D', hρ.mono g1, R1, hk, WXs.grow g1 tk, d.grow g1⟩
theorem s_for {tgx iter : Expr} {t : Tg} {g : TG} {k : ItK} {its : List ME} (hp : PassesOwn (model X.prog X.w) X.A X.env X.xe) (hc : X.calm = true) (hg : TgOk L.K g t) (hi : PI X tgx iter (tI X L C k its)) (hpg : PG X tgx g) (hb : PSs X body (tMSs X L C bs))
    (hs : ∀ x, foldedSetIterable iter X.env x = pure x) : PS X (.For tgx iter body [] pos) (tMS X L C (.fr t k its bs)) :=
  psImp (ps_for hp hc hi hpg hb hs) fun D σ H ⟨ι, ρ, S, D', hρ, R, w, tk, d⟩ => by
    simp only [wpS] at w
    refine ⟨ι, ρ, S, _, _, hρ, R, w, WXs.ex hρ tk, fun ι1 H1 xs S1 g1 R1 w1 => ?_⟩
    cases e : itS k xs S1 with
    | none =>
      rw [e] at w1
      exact w1.elim
    | some p =>
      obtain ⟨ys, gd⟩ := p
      rw [e] at w1
      refine ⟨ys, gd, rfl, fun J wk => ?_⟩
      refine ⟨fun i m σ' H' => m = ys.length - i ∧ i ≤ ys.length ∧ ∃ ι' ρ' S', Grow L.K ι1 H1 ι' H' ∧ RelE L.K ι' H' ρ' σ' ∧ Rel L ι' S' H' ∧ forS gd t (fun D => wpSs C bs D) D' (ys.drop i) ρ' S', ?_, ?_⟩
      · exact ⟨ys.length, by simp, Nat.zero_le _, ι1, ρ, S1, Grow.refl, hρ.mono g1, R1, by simpa using w1⟩
      · rintro i m σ' H' ⟨rfl, hle, ι', ρ', S', gg, hρ', R', wl⟩
        by_cases hlt : i < ys.length
        · right
          have hy : ys[i]? = some ys[i] := by simp [hlt]
          rw [drop_cons hy] at wl
          simp only [forS] at wl
          obtain ⟨w2, w3⟩ := wl
          obtain ⟨go, yl⟩ := wk.go i _ ι' S' H' gg R' w2 hy
          refine ⟨go, _, fun σ2 H2 q => ⟨ys.length - (i + 1), by omega, q⟩, fun x H2 y2 => ?_⟩
          obtain ⟨g2, R2, r2⟩ := yl x H2 y2
          refine hg ι' H2 _ x ρ' σ' _ _ (hρ'.mono g2) r2 w3 fun ρ2 us hρ2 w4 => ?_
          have gg2 := gg.trans g2
          refine ⟨ι', ρ2, S', _, hρ2, R2, w4, WXs.grow (g1.trans gg2) tk, ⟨fun ι3 H3 ρ3 σ3 S3 g3 r3 R3 w5 => ?_, fun ι3 H3 x v S3 g3 => d.rt ι3 H3 x v S3 ((g1.trans gg2).trans g3), fun ι3 H3 ρ3 σ3 S3 g3 => d.nx ι3 H3 ρ3 σ3 S3 ((g1.trans gg2).trans g3), fun ι3 H3 ρ3 σ3 S3 g3 r3 R3 w5 => ?_⟩⟩
          · exact ⟨rfl, hlt, ι3, ρ3, S3, gg2.trans g3, r3, R3, w5⟩
          · exact ⟨rfl, hlt, ι3, ρ3, S3, gg2.trans g3, r3, R3, w5⟩
        · left
          have ei : i = ys.length := by omega
          subst ei
          simp only [List.drop_length, forS] at wl
          exact ⟨wk.stop ι' S' H' gg R' wl.1, d.nx ι' H' ρ' σ' S' (g1.trans gg) hρ' R' wl.2⟩
theorem s_whl (hp : PassesOwn (model X.prog X.w) X.A X.env X.xe) (hc : PT X c (tMT X L C mc)) (hb : PSs X body (tMSs X L C bs)) : PS X (.While c body [] pos) (tMS X L C (.whl mc bs)) :=
  psImp (ps_while hp hc hb) fun D σ H ⟨ι, ρ, S, D', hρ, R, w, tk, d⟩ => by
    simp only [wpS] at w
    obtain ⟨n, w⟩ := w
    refine ⟨fun m σ' H' => ∃ ι' ρ' S', Grow L.K ι H ι' H' ∧ RelE L.K ι' H' ρ' σ' ∧ Rel L ι' S' H' ∧ whlS (fun ρ S Q => wpT C mc ρ S Q fun c vs => D'.xn c vs ρ) (fun D => wpSs C bs D) D' m ρ' S', ⟨n, ι, ρ, S, Grow.refl, hρ, R, w⟩, ?_⟩
    rintro m σ' H' ⟨ι', ρ', S', gg, hρ', R', wl⟩
    cases m with
    | zero => exact wl.elim
    | succ m =>
      simp only [whlS, wpT] at wl
      refine ⟨ι', ρ', S', _, _, hρ', R', wl, WXs.ex hρ' (WXs.grow gg tk), fun ι1 H1 x v S1 g1 R1 r1 w1 => tru_mono w1 fun k hk => ?_⟩
      cases k with
      | true =>
        refine ⟨_, fun σ2 H2 q => ⟨m, Nat.lt_succ_self m, q⟩, ι1, ρ', S1, _, hρ'.mono g1, R1, hk, WXs.grow (gg.trans g1) tk, ⟨fun ι3 H3 ρ3 σ3 S3 g3 r3 R3 w5 => ?_, fun ι3 H3 x v S3 g3 => d.rt ι3 H3 x v S3 ((gg.trans g1).trans g3), fun ι3 H3 ρ3 σ3 S3 g3 => d.nx ι3 H3 ρ3 σ3 S3 ((gg.trans g1).trans g3), fun ι3 H3 ρ3 σ3 S3 g3 r3 R3 w5 => ?_⟩⟩
        · exact ⟨ι3, ρ3, S3, (gg.trans g1).trans g3, r3, R3, w5⟩
        · exact ⟨ι3, ρ3, S3, (gg.trans g1).trans g3, r3, R3, w5⟩
      | false => exact d.nx ι1 H1 ρ' σ' S1 (gg.trans g1) (hρ'.mono g1) R1 hk

/-! ### attributes -/
theorem s_fset {a : Nat} {p' : Pos} (hF : FldOk X.K L C.fok) (ho : PE X o (tM X L C mo)) (he : PE X e (tM X L C m)) (hs : swapsWith e (some (.Attribute o (L.fl a) p')) pos.line X.env = pure false) : PS X (.Assign [.Attribute o (L.fl a) p'] e pos) (tMS X L C (.fset mo a m)) :=
  psImp (ps_fld ho he hs) fun D σ H ⟨ι, ρ, S, D', hρ, R, w, tk, d⟩ => by
    simp only [wpS] at w
    refine ⟨ι, ρ, S, _, _, hρ, R, w, WXs.ex hρ tk, fun ι1 H1 z v S1 g1 R1 r1 w1 => ⟨ι1, ρ, S1, _, _, hρ.mono g1, R1, w1, WXs.ex (hρ.mono g1) (WXs.grow g1 tk), fun ι2 H2 x ov S2 g2 R2 r2 w2 => ?_⟩⟩
    cases x with
    | loc n =>
      simp only [fsetS] at w2
      simp only [Rv] at r2
      obtain ⟨b, rfl, hb⟩ := r2
      cases e1 : insAt S2 n with
      | none => simp only [e1] at w2
      | some q =>
        obtain ⟨c, fs⟩ := q
        simp only [e1] at w2
        obtain ⟨w0, wl, w2⟩ := w2
        obtain ⟨ck, dx, ws, h1, h2, h3⟩ := insOf R2 hb e1
        obtain ⟨f1, f2⟩ := hF.at_ c a ck w0
        have gg : Grow L.K ι2 H2 ι2 (upd H2 b (.ins (L.ca c) dx (putF (L.fl a) v ws))) := grow_upd h1 trivial
        have pv := put_val a h2 h3 (r1.mono g2)
        refine ⟨b, L.ca c, dx, ws, rfl, h1, f1, f2, by rw [flds_len h2]; omega, d.nx ι2 _ ρ σ _ ((g1.trans g2).trans gg) (hρ.mono ((g1.trans g2).trans gg)) ?_ w2⟩
        exact R2.write (ob' := .ins c (putA a z fs)) (ins_get' e1) hb rfl rfl h1 trivial ⟨ck, dx, _, upd_same, pv.1, Rvs.mono gg _ pv.2⟩
    | _ => exact w2.elim
def rIn (X : Cx) (op : Operator) : V → V → Hp → VK → Prop := fun x y H Q => ∃ r, InOp X op r ∧ r x y H Q
theorem rIn_ok {op : Operator} : InOp X op (rIn X op) := fun pins s σ H x y u v Q I rx ry ⟨_, o, q⟩ => o pins s σ H x y u v Q I rx ry q
theorem s_faug {a : Nat} {op : BOp} {p' : Pos} (hF : FldOk X.K L C.fok) (ho : PE X o (tM X L C mo)) (he : PE X e (tM X L C m)) : PS X (.AugAssign (.Attribute o (L.fl a) p') op.py e pos) (tMS X L C (.faug op mo a m)) :=
  psImp (ps_fldaug ho he rIn_ok) fun D σ H ⟨ι, ρ, S, D', hρ, R, w, tk, d⟩ => by
    simp only [wpS] at w
    refine ⟨ι, ρ, S, _, _, hρ, R, w, WXs.ex hρ tk, fun ι1 H1 x v S1 g1 R1 r1 w1 => ?_⟩
    cases x with
    | loc n =>
      simp only [fldS] at w1
      simp only [Rv] at r1
      obtain ⟨b, rfl, hb⟩ := r1
      cases e1 : insAt S1 n with
      | none => simp only [e1] at w1
      | some q =>
        obtain ⟨c, fs⟩ := q
        simp only [e1] at w1
        obtain ⟨w0, w1⟩ := w1
        obtain ⟨ck, dx, ws, h1, h2, h3⟩ := insOf R1 hb e1
        obtain ⟨f1, f2⟩ := hF.at_ c a ck w0
        rcases fld_val a h2 h3 with ⟨g1', _⟩ | ⟨x', v', g1', g2', g3'⟩
        · simp only [g1'] at w1
        · simp only [g1'] at w1
          refine ⟨b, L.ca c, dx, ws, v', rfl, h1, f1, f2, g2', ι1, ρ, S1, _, _, hρ.mono g1, R1, w1, WXs.ex (hρ.mono g1) (WXs.grow g1 tk), fun ι2 H2 y u S2 g2 R2 r2 w2 => ?_⟩
          obtain ⟨⟨i, j, rfl, rfl⟩, hop, hcl, w2⟩ := w2
          have g3'' := g3'.mono g2
          simp only [Rv] at g3'' r2
          subst g3'' r2
          have fin : ∀ (z : Int), fsetS C.fok (.loc n) a (.int z) S2 (fun S5 => D'.nx ρ S5) → ∃ dx' fs', H2 b = some (.ins (L.ca c) dx' fs') ∧ fs'.length < 1000 ∧ D.nx σ (upd H2 b (.ins (L.ca c) dx' (putF (L.fl a) (.int z) fs'))) := fun z w3 => by
            simp only [fsetS] at w3
            cases e2 : insAt S2 n with
            | none => simp only [e2] at w3
            | some q =>
              obtain ⟨c2, fs2⟩ := q
              simp only [e2] at w3
              obtain ⟨w4, wl, w5⟩ := w3
              obtain ⟨ck2, dx2, ws2, k1, k2, k3⟩ := insOf R2 (g2.get hb) e2
              have ec : c2 = c := by simpa [clsAt, e1, e2] using hcl
              subst ec
              have gg : Grow L.K ι2 H2 ι2 (upd H2 b (.ins (L.ca c2) dx2 (putF (L.fl a) (.int z) ws2))) := grow_upd k1 trivial
              have pv := put_val (x := .int z) (v := .int z) (ι := ι2) (H := H2) a k2 k3 (by simp only [Rv])
              refine ⟨dx2, ws2, k1, by rw [flds_len k2]; omega, d.nx ι2 _ ρ σ _ ((g1.trans g2).trans gg) (hρ.mono ((g1.trans g2).trans gg)) ?_ w5⟩
              exact R2.write (ob' := .ins c2 (putA a (.int z) fs2)) (ins_get' e2) (g2.get hb) rfl rfl k1 trivial ⟨ck2, dx2, _, upd_same, pv.1, Rvs.mono gg _ pv.2⟩
          rcases hop with rfl | rfl
          · exact ⟨_, in_add, i, j, rfl, rfl, fin _ w2⟩
          · exact ⟨_, in_sub, i, j, rfl, rfl, fin _ w2⟩
    | _ => exact w1.elim
/-! ### a, b = x, y -/
theorem s_par {i j : Nat} {x y : Str} {px py pt : Pos} {kt k2 : Nat} {pt2 : Pos} (hc : X.calm = true) (hN : X.N.Nodup) (hi : X.N[i]? = some x) (hj : X.N[j]? = some y) (hij : i ≠ j)
    (hx : X.env.scope.names.lookup x = some .local) (hy : X.env.scope.names.lookup y = some .local) (ha : PA X [a, b] (tMs X L C ms))
    (hw : swappedStores [.Tuple [.Name x px, .Name y py] kt pt] (.Tuple [a, b] k2 pt2) X.env = pure (some [x, y])) : PS X (.Assign [.Tuple [.Name x px, .Name y py] kt pt] (.Tuple [a, b] k2 pt2) pos) (tMS X L C (.par i j ms)) :=
  psImp (ps_par hc hN hi hj hij hx hy ha hw) fun D σ H ⟨ι, ρ, S, D', hρ, R, w, tk, d⟩ => by
    simp only [wpS] at w
    refine ⟨ι, ρ, S, _, _, hρ, R, w, WXs.ex hρ tk, fun ι1 H1 xs vs S1 g1 R1 r1 l1 w1 => ?_⟩
    rcases xs with _ | ⟨z1, _ | ⟨z2, _ | ⟨z3, xs⟩⟩⟩
    · exact w1.elim
    · exact w1.elim
    · obtain ⟨v, u, rfl, r2, r3⟩ := two_of r1
      exact ⟨v, u, rfl, d.nx ι1 H1 _ _ S1 g1 (((hρ.mono g1).set r2 i).set r3 j) R1 w1⟩
    · exact w1.elim
/-! ### rows = enumerate(xs, start=k), return [.. for .. in rows] -/
theorem RelE.setNoneL {K : PySem.W.Frag} {ι : List Addr} {H : Hp} {ρ : LE} {σ : L2.St} (h : RelE K ι H ρ σ) (i : Nat) (v : Option V) : RelE K ι H (ρ.set i none) (σ.set i v) := by
  refine ⟨by simp [h.1], fun j y e => ?_⟩
  rw [List.getElem?_set] at e
  by_cases hij : i = j
  · rw [if_pos hij] at e
    split at e <;> cases e
  · rw [if_neg hij] at e
    rw [List.getElem?_set_ne hij]
    exact h.2 j y e
theorem ss_enr {i : Nat} {x y st : Str} {py py2 kp pos2 pos3 pos4 tpos : Pos} {elts : List Expr} {kk : Nat} {ownl : List (Str × Nat)} {tg : Tg} {g : TG} {elt : Expr} {melt : ME} {scope : Scope} (hK : X.K = L.K) (hx : x = "enumerate") (hst : st = "start") (hg : Gl X x) (hm : X.mg x = none)
    (ha : PE X a (tM X L C ma)) (hb : PE X b (tM X L C mb)) (hs : starEach [a] X.env = [(false, eval a X.env)]) (hc : X.calm = true) (hN : X.N.Nodup) (hpy : PG X (.Name y py) (gName i)) (hv : PE X (.Name y py2) (tVar i)) (hgg : TgOk L.K g tg) (hown : ∀ i ∈ tg.slots, i ∈ ownl.map (·.2)) (ok : BlkOk X.N X.env.scope scope ownl)
    (hpg : ∀ (s : Shared) (H : Hp) (Cc : Addr) (cl : List (Str × Addr)) (fp : List Addr), PG (X.blk s H scope (compEnvC scope cl Cc X.env) fp) (.Tuple elts kk tpos) g)
    (he : ∀ (s : Shared) (H : Hp) (Cc : Addr) (cl : List (Str × Addr)) (fp : List Addr), PE (X.blk s H scope (compEnvC scope cl Cc X.env) fp) elt (tM (X.blk s H scope (compEnvC scope cl Cc X.env) fp) L C melt)) :
    PSs X [.Assign [.Name y py] (.Call (.Name x p) [a] [⟨some st, b, kp⟩] pos) pos2, .Return (some (.ListComp elt [⟨.Tuple elts kk tpos, .Name y py2, [], 0⟩] scope pos3)) pos4] (tMSs X L C [.enr i [ma, mb] (ownl.map (·.2)) tg melt]) := by
  subst hx hst
  refine pssImp (pss_cons (ps_asg (pe_enumS hg hm ha hb (tM_mono ma) hs) hpy) (pss_one (ps_ret (pe_lc (te := tM0 L C melt) (tt := tMA0 L C []) hc hN (pi_nameS hv) ok hpg (fun s H Cc cl fp => sts_nil) (fun s H Cc cl fp => se0 (he s H Cc cl fp)))))) ?_
  intro D σ H ⟨ι, ρ, S, D', hρ, R, w, tk, d⟩
  rw [wpSs, wpS] at w
  obtain ⟨hl, w⟩ := w
  refine enums_red hK hρ R w (WXs.ex hρ tk) fun ι1 H1 S1 xs g1 R1 w1 => ?_
  cases e : itS .enums xs S1 with
  | none =>
    rw [e] at w1
    exact w1.elim
  | some pr =>
    obtain ⟨ys, gd⟩ := pr
    rw [e] at w1
    refine ⟨ys, gd, rfl, fun n k zs a' vs e1 e2 hq ha' wk e it he1 hi1 hne => ?_⟩
    have hl2 : i < σ.length := by rw [← hρ.1]; exact hl
    have hcut : cutH (cutH (upd (upd H1 it (.ext (phI X it a'))) e (.ext (phE X e it k))) e) it = H1 := by
      funext z
      unfold cutH
      by_cases z1 : z = it
      · rw [if_pos z1, z1, hi1]
      · rw [if_neg z1]
        by_cases z2 : z = e
        · rw [if_pos z2, z2, he1]
        · rw [if_neg z2, upd_ne z2, upd_ne z1]
    have main : lcB (IteS X.K a' k) g (tMA0 L C []) (tM0 L C melt) (ownl.map (·.2)) (σ.set i (some (.ref e))) D.rt H1 := by
      rw [hK]
      exact lc_in hgg hown (RelE.setNoneL (hρ.mono g1) i _) R1 wk w1 (d.rt.grow g1)
    have gq : Grow L.K ι1 H1 ι1 (upd (upd H1 it (.ext (phI X it a'))) e (.ext (phE X e it k))) := (grow_new hi1).trans (grow_new (by rw [upd_ne hne]; exact he1))
    refine ⟨e, it, a', vs, k, by rw [List.getElem?_set_self hl2], upd_same, by rw [upd_ne (Ne.symm hne)]; exact upd_same, ?_, ?_⟩
    · rcases hq with hq | hq
      · rcases hq with hq | ⟨o, hq⟩
        · exact .inl (.inl (by rw [upd_ne (ne_of_none hq he1), upd_ne (ne_of_none hq hi1)]; exact hq))
        · exact .inl (.inr ⟨o, by rw [upd_ne (ne_of_none hq he1), upd_ne (ne_of_none hq hi1)]; exact hq⟩)
      · exact .inr hq
    · rw [hcut]
      exact main
end
end PM

namespace PM
open PySem PySem.Spec PyProof.Rows L2

/-! ### raise -/
/-- what raising asks: a new exception of the class c -/
def tRs (L : Lk) (c : Nat) (ta : TA) : L2.St → Hp → XK → Prop := fun σ H Q => ta σ H fun vs H1 => vs.length = (L.xf c).length ∧
  ∀ (d : Option Addr) (H' : Hp), ((vs = [] ∧ d = none ∧ H' = H1) ∨ vs ≠ [] ∧ ∃ (dd : Addr) (fs : List (Str × V)), d = some dd ∧ H1 dd = none ∧ H' = upd H1 dd (.xd fs) ∧ ∀ (k : Nat) (nm : Str) (v : V), (L.xf c)[k]? = some nm → vs[k]? = some v → fs.lookup nm = some v) → Q (L.xc c) d H'
structure RsOk (X : Cx) (L : Lk) (c : Nat) (x : Str) : Prop where
  go : ∀ {C : Cenv} {ms : List ME} {es : List Expr} {p pos : Pos}, PA X es (tMs X L C ms) → ms.length = es.length → es.length = (L.xf c).length → (∀ e r, es = e :: r → starEach (e :: r) X.env = (false, eval e X.env) :: starEach r X.env ∧ (backTo pos (starEach r X.env)).any (·.1) = false) → Gl X x → PMk X (.Call (.Name x p) es [] pos) (tRs L c (tMs X L C ms))
section
variable {X : Cx} {L : Lk} {C : Cenv} {e o : Expr} {es : List Expr} {m mo : ME} {ms : List ME} {pos p apos pos2 : Pos} {a c : Nat} {x : Str}
theorem flat_all {v : Val} {K : PySem.W.Frag} {ι : List Addr} {H : Hp} {u : V} (f : v.flat = true) (r : Rv K ι H v u) : ∀ ι H, Rv K ι H v u := by
  cases v with
  | non => simpa [Rv] using r
  | bl b => simpa [Rv] using r
  | int b => simpa [Rv] using r
  | str b => simpa [Rv] using r
  | _ => simp [Val.flat] at f
theorem s_rs (hxk : L.xok c = true) (hc : X.calm = true) (hR : RsOk X L c x) (hg : Gl X x) (ha : PA X es (tMs X L C ms)) (hl : es.length = (L.xf c).length) (hlm : ms.length = es.length)
    (hs : ∀ e r, es = e :: r → starEach (e :: r) X.env = (false, eval e X.env) :: starEach r X.env ∧ (backTo pos (starEach r X.env)).any (·.1) = false) : PS X (.Raise (some (.Call (.Name x p) es [] pos)) none pos2) (tMS X L C (.rs c ms)) := by
  refine ⟨fun pins s σ H D I ⟨ι, ρ, S, D', hρ, R, w, tk, d⟩ => ?_⟩
  refine (ps_raise hc tk (hR.go ha hlm hl hs hg)).run pins s σ H D I ?_
  simp only [wpS] at w
  refine ⟨ι, ρ, S, _, _, hρ, R, w, WXs.ex hρ tk, fun ι1 H1 xs vs S1 g1 R1 r1 l1 w1 => ⟨by rw [← r1.len, l1, hlm, hl], fun dd H' h => ?_⟩⟩
  obtain ⟨wf, w1⟩ := w1
  have hlen : (L.xf c).length = xs.length := by rw [l1, hlm, hl]
  rcases h with ⟨ev, rfl, rfl⟩ | ⟨ne, d0, fs, rfl, hn, rfl, hf⟩
  · have ex : xs = [] := by
      have := r1.len
      rw [ev] at this
      exact List.length_eq_zero_iff.mp this
    exact ⟨ι1, ρ, S1, c, xs, g1, hρ.mono g1, R1, rfl, ⟨hxk, hlen, wf, .inl ⟨ex, rfl⟩⟩, w1⟩
  · have gg : Grow L.K ι1 H1 ι1 (upd H1 d0 (.xd fs)) := grow_new hn
    have nx : xs ≠ [] := fun e => ne (by
      have := r1.len
      rw [e] at this
      exact List.length_eq_zero_iff.mp this.symm)
    refine ⟨ι1, ρ, S1, c, xs, g1.trans gg, hρ.mono (g1.trans gg), R1.untold hn, rfl, ⟨hxk, hlen, wf, .inr ⟨nx, d0, fs, rfl, upd_same, fun k nm y h1 h2 => ?_⟩⟩, w1⟩
    obtain ⟨v, e1, e2⟩ := r1.get h2
    refine ⟨v, hf k nm v h1 e1, flat_all ?_ e2⟩
    exact List.all_eq_true.mp wf y (List.mem_of_getElem? h2)
end

/-! ### try -/
theorem Rel.xob {L : Lk} {ι : List Addr} {S : Sto} {H : Hp} (R : Rel L ι S H) (a : Addr) (h : Option (Nat × Addr × Addr × List (Str × V))) (hh : ∀ n b d fs, h = some (n, b, d, fs) → n = S.length ∧ b = a ∧ H d = some (.xd fs)) :
    Rel { L with hid := h } (ι ++ [a]) (S ++ [.xob]) H := by
  have sp : ∀ (n : Nat) (o' : SObj), (S ++ [SObj.xob])[n]? = some o' → S[n]? = some o' ∧ n < S.length ∨ n = S.length ∧ o' = .xob := fun n o' h => by
    by_cases hl : n < S.length
    · rw [List.getElem?_append_left hl] at h; exact .inl ⟨h, hl⟩
    · rw [List.getElem?_append_right (by omega)] at h
      obtain ⟨h1, h2⟩ := List.getElem?_eq_some_iff.mp h
      simp at h1 h2
      exact .inr ⟨by omega, h2.symm⟩
  have ip : ∀ (n : Nat) (b : Addr), (ι ++ [a])[n]? = some b → n < S.length → ι[n]? = some b := fun n b h hl => by
    rw [List.getElem?_append_left (by rw [R.len]; exact hl)] at h; exact h
  have g : Grow L.K ι H (ι ++ [a]) H := ⟨⟨[a], rfl⟩, fun _ _ h => h, fun _ _ h => h⟩
  refine ⟨by simp [R.len], fun n m b o1 o2 h1 h2 h3 h4 m1 m2 => ?_, fun n o' b h1 h2 => ?_, fun n b d fs e => ?_⟩
  · rcases sp n o1 h3 with ⟨e1, l1⟩ | ⟨e1, rfl⟩
    · rcases sp m o2 h4 with ⟨e2, l2⟩ | ⟨e2, rfl⟩
      · exact R.inj n m b o1 o2 (ip n b h1 l1) (ip m b h2 l2) e1 e2 m1 m2
      · cases m2
    · cases m1
  · rcases sp n o' h1 with ⟨e1, l1⟩ | ⟨e1, rfl⟩
    · exact (R.obj n o' b e1 (ip n b h2 l1)).keep g fun u e => e
    · exact True.intro
  · obtain ⟨rfl, rfl, e3⟩ := hh n b d fs e
    refine ⟨?_, e3⟩
    show (ι ++ [b])[S.length]? = some b
    rw [List.getElem?_append_right (by rw [R.len]; exact Nat.le_refl _), R.len]
    simp
theorem Rel.unhid {L : Lk} {ι : List Addr} {S : Sto} {H : Hp} {h : Option (Nat × Addr × Addr × List (Str × V))} (hL : L.hid = none) (R : Rel { L with hid := h } ι S H) : Rel L ι S H :=
  ⟨R.len, R.inj, R.obj, fun n a d fs e => by rw [hL] at e; cases e⟩
theorem RelE.setNone {K : PySem.W.Frag} {ι : List Addr} {H : Hp} {ρ : LE} {σ : L2.St} (h : RelE K ι H ρ σ) (i : Nat) : RelE K ι H (ρ.set i none) (σ.set i none) := by
  refine ⟨by simp [h.1], fun j y e => ?_⟩
  rw [List.getElem?_set] at e
  by_cases hij : i = j
  · rw [if_pos hij] at e
    split at e <;> cases e
  · rw [if_neg hij] at e
    rw [List.getElem?_set_ne hij]
    exact h.2 j y e
/-- what a clause is given: the exception at a, of the class c, with the fields vs -/
structure SuiteOf (L : Lk) (H : Hp) (c : Nat) (vs : List Val) (d : Option Addr) (n : Nat) (a : Addr) (h : Option (Nat × Addr × Addr × List (Str × V))) : Prop where
  hid : (vs = [] ∧ h = none) ∨ ∃ dd fs, d = some dd ∧ h = some (n, a, dd, fs) ∧ H dd = some (.xd fs) ∧ ∀ (k : Nat) (nm : Str) (x : Val), (L.xf c)[k]? = some nm → vs[k]? = some x → ∃ v, fs.lookup nm = some v ∧ ∀ ι H, Rv L.K ι H x v
theorem suiteOf {L : Lk} {H : Hp} {c : Nat} {vs : List Val} {d : Option Addr} (xd : XdOk L H c vs d) (n : Nat) (a : Addr) : ∃ h, SuiteOf L H c vs d n a h := by
  obtain ⟨_, _, _, ⟨e, _⟩ | ⟨_, dd, fs, e1, e2, e3⟩⟩ := xd
  · exact ⟨none, ⟨.inl ⟨e, rfl⟩⟩⟩
  · exact ⟨some (n, a, dd, fs), ⟨.inr ⟨dd, fs, e1, rfl, e2, e3⟩⟩⟩
theorem SuiteOf.at {L : Lk} {H0 H : Hp} {c : Nat} {vs : List Val} {d : Option Addr} {n : Nat} {a : Addr} {h : Option (Nat × Addr × Addr × List (Str × V))} (f : SuiteOf L H c vs d n a h) : ∀ m b dd fs, h = some (m, b, dd, fs) → m = n ∧ b = a ∧ H dd = some (.xd fs) := fun m b dd fs e => by
  rcases f.hid with ⟨_, q⟩ | ⟨dd', fs', _, q, q2, _⟩
  · rw [q] at e; cases e
  · rw [q] at e; cases e; exact ⟨rfl, rfl, q2⟩
/-- a suite's reading: the exception at a -/
def tSui (L : Lk) (C : Cenv) (ok : Nat → Prop) (s : List MS) (a : Addr) (cls : Value) (d : Option Addr) : TS := fun D σ H => ∃ (c : Nat) (vs : List Val) (n : Nat) (h : Option (Nat × Addr × Addr × List (Str × V))) (ι : List Addr) (ρ : LE) (S : Sto) (D' : ED),
  cls = L.xc c ∧ ok c ∧ (∃ H0, SuiteOf L H0 c vs d n a h) ∧ RelE L.K ι H ρ σ ∧ Rel { L with hid := h } ι S H ∧ wpSs { C with cur := some (n, vs) } s D' ρ S ∧ (∀ c vs ρ S, ¬ D'.xn c vs ρ S) ∧ EndsOk { L with hid := h } ι H D' D
/-- what the clauses' body wishes -/
def tBody (L : Lk) (C : Cenv) (bs : List MS) (W : WX) : TS := fun D σ H => ∃ ι ρ S D', RelE L.K ι H ρ σ ∧ Rel L ι S H ∧ wpSs C bs D' ρ S ∧ (∀ cls d σ' H', WXs L ι H D'.xn cls d σ' H' → W cls d σ' H') ∧ EndsOk L ι H D' D
section
variable {X : Cx} {L : Lk} {C : Cenv} {body : List Stmt} {x n : Str} {i c : Nat} {np pos pos' : Pos} {bs ss ts : List MS}
theorem takes_no {X : Cx} {L : Lk} {ι : List Addr} {H : Hp} {xn : Nat → List Val → LE → Sto → Prop} (h : ∀ c vs ρ S, ¬ xn c vs ρ S) : Takes X (WXs L ι H xn) :=
  (takes0 (X := X)).imp fun _ _ _ _ ⟨_, ρ, S, c, vs, _, _, _, _, _, z⟩ => h c vs ρ S z
theorem grow_one {K : PySem.W.Frag} {ι : List Addr} {H : Hp} (a : Addr) : Grow K ι H (ι ++ [a]) H := ⟨⟨[a], rfl⟩, fun _ _ h => h, fun _ _ h => h⟩
/-- the body of a try, read with any wish -/
theorem body_of {W : WX} {pn : List (Addr × Obj)} {xe : Value → Shared → Prop} (tk : Takes (X.tr pn xe) W) (h : PSs (X.tr pn xe) body (tMSs (X.tr pn xe) L C bs)) : PSs (X.tr pn xe) body (tBody L C bs W) :=
  pssImp h fun D σ H ⟨ι, ρ, S, D', hρ, R, w, hw, d⟩ => ⟨ι, ρ, S, D', hρ, R, w, tk.imp hw, d⟩
/-- a suite's own soundness -/
def SuiOk (X : Cx) (L : Lk) (C : Cenv) (ok : Nat → Prop) (s : List MS) (suite : List Stmt) : Prop := ∀ (a : Addr) (oe : Obj) (cls : Value) (d : Option Addr) (pn : List (Addr × Obj)) (c : Nat) (vs : List Val) (n : Nat) (h : Option (Nat × Addr × Addr × List (Str × V))),
  Zc cls d oe → (∃ us, oe.data = .fields us) → cls = L.xc c → ok c → (∃ H0, SuiteOf L H0 c vs d n a h) → PSs (X.suite a ((a, oe) :: pn)) suite (tMSs (X.suite a ((a, oe) :: pn)) { L with hid := h } { C with cur := some (n, vs) } s)
theorem sui_of {ok : Nat → Prop} {suite : List Stmt} {s : List MS} (hs : SuiOk X L C ok s suite) (a : Addr) (oe : Obj) (cls : Value) (d : Option Addr) (pn : List (Addr × Obj)) (hz : Zc cls d oe) (hf : ∃ us, oe.data = .fields us) :
    PSs (X.suite a ((a, oe) :: pn)) suite (tSui L C ok s a cls d) :=
  ⟨fun pins st σ H D I ⟨c, vs, n, h, ι, ρ, S, D', e, ho, sf, hρ, R, w, hn, d'⟩ => (hs a oe cls d pn c vs n h hz hf e ho sf).run pins st σ H D I ⟨ι, ρ, S, D', hρ, R, w, takes_no hn, d'⟩⟩
/-- the ends of a suite, from those of the try -/
theorem sui_ends {ι ι' : List Addr} {H H' : Hp} {D' : ED} {D : Ends} {a : Addr} {h : Option (Nat × Addr × Addr × List (Str × V))} (hL : L.hid = none) (g : Grow L.K ι H ι' H') (d : EndsOk L ι H D' D) : EndsOk { L with hid := h } (ι' ++ [a]) H' (suiD none D') D :=
  ⟨fun ι2 H2 ρ2 σ2 S2 g2 r2 R2 q => d.nx ι2 H2 ρ2 σ2 S2 (g.trans ((grow_one a).trans g2)) r2 (R2.unhid hL) q, fun ι2 H2 x v S2 g2 R2 r2 q => d.rt ι2 H2 x v S2 (g.trans ((grow_one a).trans g2)) (R2.unhid hL) r2 q,
    fun ι2 H2 ρ2 σ2 S2 g2 r2 R2 q => d.bk ι2 H2 ρ2 σ2 S2 (g.trans ((grow_one a).trans g2)) r2 (R2.unhid hL) q, fun ι2 H2 ρ2 σ2 S2 g2 r2 R2 q => d.ct ι2 H2 ρ2 σ2 S2 (g.trans ((grow_one a).trans g2)) r2 (R2.unhid hL) q⟩
theorem sui_endsI {ι ι' : List Addr} {H H' : Hp} {D' : ED} {D : Ends} {a : Addr} {h : Option (Nat × Addr × Addr × List (Str × V))} (hL : L.hid = none) (g : Grow L.K ι H ι' H') (d : EndsOk L ι H D' D) :
    EndsOk { L with hid := h } (ι' ++ [a]) H' (suiD (some i) D') { nx := fun σ' H' => D.nx (σ'.set i none) H', rt := D.rt, bk := fun σ' H' => D.bk (σ'.set i none) H', ct := fun σ' H' => D.ct (σ'.set i none) H' } :=
  ⟨fun ι2 H2 ρ2 σ2 S2 g2 r2 R2 q => d.nx ι2 H2 _ _ S2 (g.trans ((grow_one a).trans g2)) (r2.setNone i) (R2.unhid hL) q, fun ι2 H2 x v S2 g2 R2 r2 q => d.rt ι2 H2 x v S2 (g.trans ((grow_one a).trans g2)) (R2.unhid hL) r2 q,
    fun ι2 H2 ρ2 σ2 S2 g2 r2 R2 q => d.bk ι2 H2 _ _ S2 (g.trans ((grow_one a).trans g2)) (r2.setNone i) (R2.unhid hL) q, fun ι2 H2 ρ2 σ2 S2 g2 r2 R2 q => d.ct ι2 H2 _ _ S2 (g.trans ((grow_one a).trans g2)) (r2.setNone i) (R2.unhid hL) q⟩
theorem tSui_mk {ok : Nat → Prop} {s : List MS} {ι ι' : List Addr} {H H' : Hp} {ρ' : LE} {σ' : L2.St} {S' : Sto} {D' : ED} {D : Ends} {c' : Nat} {vs : List Val} {cls : Value} {dd : Option Addr} {a : Addr} (hL : L.hid = none) (g : Grow L.K ι H ι' H') (d : EndsOk L ι H D' D) (r : RelE L.K ι' H' ρ' σ') (R : Rel L ι' S' H')
    (e : cls = L.xc c') (ho : ok c') (xd : XdOk L H' c' vs dd) (w : wpSs { C with cur := some (S'.length, vs) } s (suiD none D') ρ' (S' ++ [.xob])) : tSui L C ok s a cls dd D σ' H' := by
  obtain ⟨h, sf⟩ := suiteOf xd S'.length a
  exact ⟨c', vs, S'.length, h, ι' ++ [a], ρ', S' ++ [.xob], suiD none D', e, ho, ⟨H', sf⟩, r.mono (grow_one a), R.xob a h (SuiteOf.at (H0 := H') sf), w, fun _ _ _ _ z => z, sui_ends hL g d⟩
theorem tSui_mkI {ok : Nat → Prop} {s : List MS} {ι ι' : List Addr} {H H' : Hp} {ρ' : LE} {σ' : L2.St} {S' : Sto} {D' : ED} {D : Ends} {c' : Nat} {vs : List Val} {cls : Value} {dd : Option Addr} {a : Addr} (hL : L.hid = none) (g : Grow L.K ι H ι' H') (d : EndsOk L ι H D' D) (r : RelE L.K ι' H' ρ' σ') (R : Rel L ι' S' H')
    (e : cls = L.xc c') (ho : ok c') (xd : XdOk L H' c' vs dd) (w : wpSs { C with cur := some (S'.length, vs) } s (suiD (some i) D') (ρ'.set i (some (.loc S'.length))) (S' ++ [.xob])) :
    tSui L C ok s a cls dd { nx := fun σ' H' => D.nx (σ'.set i none) H', rt := D.rt, bk := fun σ' H' => D.bk (σ'.set i none) H', ct := fun σ' H' => D.ct (σ'.set i none) H' } (σ'.set i (some (.ref a))) H' := by
  obtain ⟨h, sf⟩ := suiteOf xd S'.length a
  refine ⟨c', vs, S'.length, h, ι' ++ [a], _, S' ++ [.xob], suiD (some i) D', e, ho, ⟨H', sf⟩, (r.mono (grow_one a)).set ?_ i, R.xob a h (SuiteOf.at (H0 := H') sf), w, fun _ _ _ _ z => z, sui_endsI hL g d⟩
  simp only [Rv]
  refine ⟨a, rfl, ?_⟩
  rw [List.getElem?_append_right (by rw [R.len]; exact Nat.le_refl _), R.len]
  simp
variable {b₀ b₁ : Stmt} {su su1 : List Stmt} {x1 x2 : Str} {c1 c2 : Nat} {np2 pos2' : Pos} {s1 s2 : List MS}
theorem s_tr (hs : X.stack = X.env :: X.outer) (hf : X.env.frame = some X.env.locals) (hL : L.hid = none) (hN : Names X x (L.xc c)) (hsb : ∀ c' b, L.xok c' = true → C.sub c' c = some b → PySem.W.exmOne X.K (L.xc c') (L.xc c) = some b)
    (hb : ∀ (pn : List (Addr × Obj)) (xe : Value → Shared → Prop), PassesOwn (model X.prog X.w) X.A X.env xe → PSs (X.tr pn xe) body (tMSs (X.tr pn xe) L C bs)) (hsu : SuiOk X L C (fun _ => True) ss (b₀ :: su)) :
    PS X (.Try body [.ExceptHandler (some (.Name x np)) none (b₀ :: su) pos'] [] [] pos) (tMS X L C (.tr bs c none ss)) := by
  refine ⟨fun pins st σ H D I ⟨ι, ρ, S, D', hρ, R, w, tk, d⟩ => (ps_try_many (Wout := WXs L ι H D'.xn) (tb := tBody L C bs) hs hf tk (fun W pn xe tkW ps => body_of tkW (hb pn xe ps))
    (.cons hN (fun a oe cls dd pn hz hfl => sui_of hsu a oe cls dd pn hz hfl) .nil)).run pins st σ H D I ?_⟩
  simp only [wpS] at w
  refine ⟨ι, ρ, S, _, hρ, R, w, ?_, ⟨d.nx, d.rt, d.bk, d.ct⟩⟩
  rintro cls dd σ' H' ⟨ι', ρ', S', c', vs, g, r, R', rfl, xd, z⟩
  cases e : C.sub c' c with
  | none => simp only [e] at z
  | some b =>
    simp only [e] at z
    refine ⟨b, hsb c' b xd.1 e, fun eb a ha => ?_, fun eb => ?_⟩
    · subst eb
      exact tSui_mk hL g d r R' rfl trivial xd z.2
    · subst eb
      exact ⟨ι', ρ', S', c', vs, g, r, R', rfl, xd, z⟩
theorem s_trI (hs : X.stack = X.env :: X.outer) (hf : X.env.frame = some X.env.locals) (hL : L.hid = none) (hNd : X.N.Nodup) (hi : X.N[i]? = some n) (hln : X.env.kindOf n = some .local) (hN : Names X x (L.xc c)) (hsb : ∀ c' b, L.xok c' = true → C.sub c' c = some b → PySem.W.exmOne X.K (L.xc c') (L.xc c) = some b)
    (hb : ∀ (pn : List (Addr × Obj)) (xe : Value → Shared → Prop), PassesOwn (model X.prog X.w) X.A X.env xe → PSs (X.tr pn xe) body (tMSs (X.tr pn xe) L C bs)) (hsu : SuiOk X L C (fun c' => c' = c) ss (b₀ :: su)) :
    PS X (.Try body [.ExceptHandler (some (.Name x np)) (some n) (b₀ :: su) pos'] [] [] pos) (tMS X L C (.tr bs c (some i) ss)) := by
  refine ⟨fun pins st σ H D I ⟨ι, ρ, S, D', hρ, R, w, tk, d⟩ => (ps_try_as (i := i) (Wout := WXs L ι H D'.xn) (tb := tBody L C bs) hs hf hNd hi hln hN tk (fun W pn xe tkW ps => body_of tkW (hb pn xe ps))
    (fun a oe cls dd pn hz hfl => sui_of hsu a oe cls dd pn hz hfl)).run pins st σ H D I ?_⟩
  simp only [wpS] at w
  refine ⟨ι, ρ, S, _, hρ, R, w, ?_, ⟨d.nx, d.rt, d.bk, d.ct⟩⟩
  rintro cls dd σ' H' ⟨ι', ρ', S', c', vs, g, r, R', rfl, xd, z⟩
  cases e : C.sub c' c with
  | none => simp only [e] at z
  | some b =>
    simp only [e] at z
    refine ⟨b, hsb c' b xd.1 e, fun eb a ha => ?_, fun eb => ?_⟩
    · subst eb
      exact tSui_mkI hL g d r R' rfl (z.1 rfl) xd z.2
    · subst eb
      exact ⟨ι', ρ', S', c', vs, g, r, R', rfl, xd, z⟩
/-- the suite «return isinstance(n, D)», or «return (z, isinstance(n, D))» -/
def tSuiX (i : Nat) (a : Addr) : Option Str → TS
  | none => fun D σ H => σ[i]? = some (some (.ref a)) ∧ D.rt (.bl true) H
  | some z => fun D σ H => σ[i]? = some (some (.ref a)) ∧ ∀ p, H p = none → D.rt (.ref p) (upd H p (.tup [.str z, .bl true]))
theorem s_trx {c2 : Nat} {pre : Option Str} (hs : X.stack = X.env :: X.outer) (hf : X.env.frame = some X.env.locals) (hNd : X.N.Nodup) (hi : X.N[i]? = some n) (hln : X.env.kindOf n = some .local) (hN : Names X x (L.xc c)) (hsb : ∀ c' b, L.xok c' = true → C.sub c' c = some b → PySem.W.exmOne X.K (L.xc c') (L.xc c) = some b)
    (hb : ∀ (pn : List (Addr × Obj)) (xe : Value → Shared → Prop), PassesOwn (model X.prog X.w) X.A X.env xe → PSs (X.tr pn xe) body (tMSs (X.tr pn xe) L C bs))
    (hsu : ∀ (a : Addr) (oe : Obj) (pn : List (Addr × Obj)), Zc (L.xc c2) none oe → (∃ us, oe.data = .fields us) → PSs (X.suite a ((a, oe) :: pn)) (b₀ :: su) (tSuiX i a pre)) :
    PS X (.Try body [.ExceptHandler (some (.Name x np)) (some n) (b₀ :: su) pos'] [] [] pos) (tMS X L C (.trx bs c i c2 pre)) := by
  refine ⟨fun pins st σ H D I ⟨ι, ρ, S, D', hρ, R, w, tk, d⟩ => (ps_try_as (i := i) (Wout := WXs L ι H D'.xn) (tb := tBody L C bs) (ts := fun a cls dd => fun D σ H => cls = L.xc c2 ∧ dd = none ∧ tSuiX i a pre D σ H) hs hf hNd hi hln hN tk (fun W pn xe tkW ps => body_of tkW (hb pn xe ps))
    (fun a oe cls dd pn hz hfl => ⟨fun pins st σ H D I ⟨e1, e2, h⟩ => by subst e1 e2; exact (hsu a oe pn hz hfl).run pins st σ H D I h⟩)).run pins st σ H D I ?_⟩
  simp only [wpS] at w
  refine ⟨ι, ρ, S, _, hρ, R, w, ?_, ⟨d.nx, d.rt, d.bk, d.ct⟩⟩
  rintro cls dd σ' H' ⟨ι', ρ', S', c', vs, g, r, R', rfl, xd, z⟩
  cases e : C.sub c' c with
  | none => simp only [e] at z
  | some b =>
    simp only [e] at z
    refine ⟨b, hsb c' b xd.1 e, fun eb a ha => ?_, fun eb => ?_⟩
    · subst eb
      obtain ⟨⟨rfl, rfl, hlt⟩, z⟩ := z
      have hd : dd = none := by
        obtain ⟨_, hl, _, ⟨_, e⟩ | ⟨ne, _⟩⟩ := xd
        · exact e
        · exact absurd rfl ne
      have hset : (σ'.set i (some (.ref a)))[i]? = some (some (.ref a)) := by
        rw [List.getElem?_set_self (by rw [← r.1]; exact hlt)]
      refine ⟨rfl, hd, ?_⟩
      cases pre with
      | none => exact ⟨hset, d.rt ι' H' (.bl true) (.bl true) S' g R' (by simp only [Rv]) z⟩
      | some y =>
        refine ⟨hset, fun p hp => d.rt ι' _ (.tup [.str y, .bl true]) (.ref p) S' (g.trans (grow_new hp)) (R'.untold hp) ?_ z⟩
        simp only [Rv]
        exact ⟨p, _, rfl, SqT.of upd_same, by simp only [Rvs, Rv]; exact ⟨_, _, rfl, rfl, _, _, rfl, rfl, rfl⟩⟩
    · subst eb
      exact ⟨ι', ρ', S', c', vs, g, r, R', rfl, xd, z⟩
theorem s_tr2 (hs : X.stack = X.env :: X.outer) (hf : X.env.frame = some X.env.locals) (hL : L.hid = none) (hN1 : Names X x1 (L.xc c1)) (hN2 : Names X x2 (L.xc c2)) (hsb1 : ∀ c' b, L.xok c' = true → C.sub c' c1 = some b → PySem.W.exmOne X.K (L.xc c') (L.xc c1) = some b)
    (hsb2 : ∀ c' b, L.xok c' = true → C.sub c' c2 = some b → PySem.W.exmOne X.K (L.xc c') (L.xc c2) = some b)
    (hb : ∀ (pn : List (Addr × Obj)) (xe : Value → Shared → Prop), PassesOwn (model X.prog X.w) X.A X.env xe → PSs (X.tr pn xe) body (tMSs (X.tr pn xe) L C bs)) (hsu1 : SuiOk X L C (fun _ => True) s1 (b₀ :: su)) (hsu2 : SuiOk X L C (fun _ => True) s2 (b₁ :: su1)) :
    PS X (.Try body [.ExceptHandler (some (.Name x1 np)) none (b₀ :: su) pos', .ExceptHandler (some (.Name x2 np2)) none (b₁ :: su1) pos2'] [] [] pos) (tMS X L C (.tr2 bs c1 s1 c2 s2)) := by
  refine ⟨fun pins st σ H D I ⟨ι, ρ, S, D', hρ, R, w, tk, d⟩ => (ps_try_many (Wout := WXs L ι H D'.xn) (tb := tBody L C bs) hs hf tk (fun W pn xe tkW ps => body_of tkW (hb pn xe ps))
    (.cons hN1 (fun a oe cls dd pn hz hfl => sui_of hsu1 a oe cls dd pn hz hfl) (.cons hN2 (fun a oe cls dd pn hz hfl => sui_of hsu2 a oe cls dd pn hz hfl) .nil))).run pins st σ H D I ?_⟩
  simp only [wpS] at w
  refine ⟨ι, ρ, S, _, hρ, R, w, ?_, ⟨d.nx, d.rt, d.bk, d.ct⟩⟩
  rintro cls dd σ' H' ⟨ι', ρ', S', c', vs, g, r, R', rfl, xd, z⟩
  cases e : C.sub c' c1 with
  | none => simp only [e] at z
  | some b =>
    simp only [e] at z
    refine ⟨b, hsb1 c' b xd.1 e, fun eb a ha => ?_, fun eb => ?_⟩
    · subst eb
      exact tSui_mk hL g d r R' rfl trivial xd z
    · subst eb
      simp only at z
      cases e2 : C.sub c' c2 with
      | none => simp only [e2] at z
      | some b =>
        simp only [e2] at z
        refine ⟨b, hsb2 c' b xd.1 e2, fun eb a ha => ?_, fun eb => ?_⟩
        · subst eb
          exact tSui_mk hL g d r R' rfl trivial xd z
        · subst eb
          exact ⟨ι', ρ', S', c', vs, g, r, R', rfl, xd, z⟩
end
end PM

namespace PM
open PySem PySem.Spec PyProof.Rows L2

abbrev Nm := List (Str × NameKind)
/-- the names of a program: built-ins that stand; defs, constants, classes, attributes, exception classes by number; whether an except suite is read, the fields of its exception -/
structure Tb where
  bi : List Str
  fn : Nat → Option Str
  gl : Nat → Option Str
  cn : Nat → Option Str
  an : Nat → Option Str
  mo : Nat → Bool
  xn : Nat → Option (Str × List Str)
  cm : Bool
  cur : Option (List Str)
  xi : List Nat
structure Good (X : Cx) (L : Lk) (C : Cenv) (T : Tb) (N : List Str) (df : Bool) (nm : Nm) : Prop where
  hN : X.N = N
  nd : N.Nodup
  nm : X.env.scope.names = nm
  kd : X.env.scope.kind = .function
  calm : T.cm = true → X.calm = true
  A : X.A.units + 64 < cLine
  pass : T.cm = true → PassesOwn (model X.prog X.w) X.A X.env X.xe
  K : X.K = L.K
  bi : ∀ x, T.bi.contains x = true → X.mg x = none
  gl : ∀ i x, T.gl i = some x → ∃ u w, X.mg x = some u ∧ RelV w u ∧ ∀ ι H, Rv L.K ι H (C.glo i) w
  fn : T.cm = true → ∀ i x, T.fn i = some x → Callee X L C i x
  mt : T.cm = true → ∀ a, T.mo a = true → ∀ c f, L.cok c = true → C.mth c a = some f → CalleeM X L C c a f
  mkk : T.cm = true → ∀ c x, T.cn c = some x → CalleeI X L C c x
  an : ∀ a f, T.an a = some f → L.fl a = f
  fo : FldOk X.K L C.fok
  cs : ∀ n x kvs, C.cst n = some (x, kvs) → CDk X.K X.w.params x kvs
  al : df = true → ∀ x, X.fn x = true
  fr : df = true → X.stack = X.env :: X.outer ∧ X.env.frame = some X.env.locals
  nh : T.cm = true → L.hid = none
  rs : df = true → T.cm = true → ∀ c x ns, T.xn c = some (x, ns) → ∀ pn xe, RsOk (X.tr pn xe) L c x
  xm : ∀ c x ns, T.xn c = some (x, ns) → L.xok c = true ∧ X.mg x = some (L.xc c) ∧ L.xf c = ns ∧ (ns ≠ [] → ∃ c0, L.xc c = .ref c0 ∧ XfC X.K c0 ∧ ∀ nm ∈ ns, PySem.W.findIn X.K (.ref c0) nm = some none)
  sb : ∀ c' c b q, L.xok c' = true → T.xn c = some q → C.sub c' c = some b → PySem.W.exmOne X.K (L.xc c') (L.xc c) = some b
  xi : ∀ c q, T.xi.contains c = true → T.xn c = some q → ∃ D, L.xc c = .ref D ∧ L2.ExcC X.K D
  cur : ∀ ns, T.cur = some ns → XSuite X L C ns ∨ ∃ n, C.cur = some (n, [])
def innerNm (nm : Nm) (scope : Scope) : Nm := scope.names.map fun (n, k) => if (k == .free && ScopeKind.function == .function && nm.lookup n == some .cell) then (n, .cell) else (n, k)
theorem Good.blk {X : Cx} {L : Lk} {C : Cenv} {T : Tb} {N : List Str} {df : Bool} {nm : Nm} (G : Good X L C T N df nm) (hcur : T.cur = none) {scope : Scope} (hk : scope.kind = .function) (s : Shared) (H : Hp) (Cc : Addr) (cl : List (Str × Addr)) (fp : List Addr) :
    Good (X.blk s H scope (compEnvC scope cl Cc X.env) fp) L C T N false (innerNm nm scope) where
  hN := G.hN
  nd := G.nd
  nm := by
    show (relabel scope X.env).names = innerNm nm scope
    unfold relabel innerNm
    have e : ∀ n, X.env.kindOf n = nm.lookup n := fun n => by
      show X.env.scope.names.lookup n = _
      rw [G.nm]
    simp only [G.kd, e]
  kd := hk
  calm := G.calm
  A := G.A
  pass := fun _ => PassesOwn.never
  K := G.K
  bi := G.bi
  gl := G.gl
  fn := fun hc i x h => ⟨(G.fn hc i x h).ex⟩
  mt := fun hc a ha c f hk h => ⟨(G.mt hc a ha c f hk h).ex⟩
  mkk := fun hc c x h => ⟨(G.mkk hc c x h).ex⟩
  an := G.an
  fo := G.fo
  cs := G.cs
  al := fun h => absurd h (by decide)
  fr := fun h => absurd h (by decide)
  nh := G.nh
  rs := fun h => absurd h (by decide)
  xm := G.xm
  sb := G.sb
  xi := G.xi
  cur := fun ns h => by rw [hcur] at h; cases h
theorem Good.tr {X : Cx} {L : Lk} {C : Cenv} {T : Tb} {N : List Str} {df : Bool} {nm : Nm} (G : Good X L C T N df nm) (hcur : T.cur = none) {pn : List (Addr × Obj)} {xe : Value → Shared → Prop} (hp : PassesOwn (model X.prog X.w) X.A X.env xe) :
    Good (X.tr pn xe) L C T N df nm where
  hN := G.hN
  nd := G.nd
  nm := G.nm
  kd := G.kd
  calm := G.calm
  A := G.A
  pass := fun _ => hp
  K := G.K
  bi := G.bi
  gl := G.gl
  fn := fun hc i x h => ⟨(G.fn hc i x h).ex⟩
  mt := fun hc a ha c f hk h => ⟨(G.mt hc a ha c f hk h).ex⟩
  mkk := fun hc c x h => ⟨(G.mkk hc c x h).ex⟩
  an := G.an
  fo := G.fo
  cs := G.cs
  al := G.al
  fr := G.fr
  nh := G.nh
  rs := fun hd hc c x ns h pn' xe' => G.rs hd hc c x ns h pn' xe'
  xm := G.xm
  sb := G.sb
  xi := G.xi
  cur := fun ns h => by rw [hcur] at h; cases h
theorem Good.sui {X : Cx} {L : Lk} {C : Cenv} {T : Tb} {N : List Str} {df : Bool} {nm : Nm} (G : Good X L C T N df nm) {a : Addr} {oe : Obj} {cls : Value} {d : Option Addr} {pn : List (Addr × Obj)} {c n : Nat} {vs : List Val} {h : Option (Nat × Addr × Addr × List (Str × V))}
    (hz : Zc cls d oe) (hf : ∃ us, oe.data = .fields us) (e : cls = L.xc c) {H0 : Hp} (sf : SuiteOf L H0 c vs d n a h) {cu : Option (List Str)} (hcu : ∀ ns, cu = some ns → ns ≠ [] ∧ ∃ x, T.xn c = some (x, ns)) :
    Good (X.suite a ((a, oe) :: pn)) { L with hid := h } { C with cur := some (n, vs) } { T with cm := false, cur := cu } N df nm where
  hN := G.hN
  nd := G.nd
  nm := G.nm
  kd := G.kd
  calm := fun z => nomatch z
  A := G.A
  pass := fun z => nomatch z
  K := G.K
  bi := G.bi
  gl := G.gl
  fn := fun z => nomatch z
  mt := fun z => nomatch z
  mkk := fun z => nomatch z
  an := G.an
  fo := ⟨G.fo.at_⟩
  cs := G.cs
  al := G.al
  fr := G.fr
  nh := fun z => nomatch z
  rs := fun _ z => nomatch z
  xm := G.xm
  sb := G.sb
  xi := G.xi
  cur := fun ns hn => by
    obtain ⟨hns, x, hx⟩ := hcu ns hn
    obtain ⟨_, _, m2, m3⟩ := G.xm c x ns hx
    rcases sf.hid with ⟨ev, _⟩ | ⟨dd, fs, ed, eh, _, hv⟩
    · exact .inr ⟨n, by rw [ev]⟩
    · obtain ⟨c0, k1, k2, k3⟩ := m3 hns
      subst ed eh
      refine .inl ⟨X, a, oe, cls, pn, c0, dd, fs, n, vs, rfl, hz, hf, by rw [e, k1], k2, k3, rfl, rfl, fun k nm' y h1 h2 => hv k nm' y (by rw [m2]; exact h1) h2⟩

/-! ### the check of a tree against the text -/
def isNm (x : Str) : Bool := !(x == ("__debug__" : Str)) && !(x == ("__classdict__" : Str))
def visB (nm : Nm) (x : Str) : Bool := match nm.lookup x with
  | some .local => true | some .cell => true | some .free => true | _ => false
def glB (nm : Nm) (x : Str) : Bool := match nm.lookup x with
  | some .globalImplicit => true | _ => false
def locB (df : Bool) (nm : Nm) (x : Str) : Bool := match nm.lookup x with
  | some .local => true | some .cell => df | _ => false
def bltB (T : Tb) (nm : Nm) (x y : Str) : Bool := decide (x = y) && glB nm x && T.bi.contains x
def litB : Val → Const → Bool
  | .non, .none => true
  | .bl b, .bool c => b == c
  | .int i, .int j => decide (i = j)
  | .str x, .str y => decide (x = y)
  | _, _ => false
def keysB : List Key → List (Option Expr) → Bool
  | [], [] => true
  | .inr x :: ks, some (.Constant (.str y) _ _) :: es => decide (x = y) && keysB ks es
  | .inl x :: ks, some (.Constant (.int y) _ _) :: es => decide (x = y) && keysB ks es
  | _, _ => false
def nmsB (N : List Str) (df : Bool) (nm : Nm) : List Nat → List Expr → Bool
  | [], [] => true
  | i :: is, .Name x _ :: es => decide (N[i]? = some x) && locB df nm x && nmsB N df nm is es
  | _, _ => false
def tgB (N : List Str) (df : Bool) (nm : Nm) : Tg → Expr → Bool
  | .nm i, .Name x _ => decide (N[i]? = some x) && locB df nm x
  | .tp is, .Tuple es _ _ => nmsB N df nm is es
  | _, _ => false
def kindF : ScopeKind → Bool
  | .function => true | _ => false
def ownOf (N : List Str) (own : List Nat) : List (Str × Nat) := own.map fun i => (N.getD i Str.empty, i)
/-- what a loop walks: the expressions that it asks -/
def itX (T : Tb) (nm : Nm) : ItK → Expr → Expr → Option (List Expr)
  | .seq, _, it => some [it]
  | .range, _, .Call (.Name g _) [x] [] _ => if bltB T nm g "range" then some [x] else none
  | .range2, _, .Call (.Name g _) [x, y] [] _ => if bltB T nm g "range" then some [x, y] else none
  | .zip, .Tuple .., .Call (.Name g _) [x, y] [] _ => if bltB T nm g "zip" then some [x, y] else none
  | .enum, .Tuple .., .Call (.Name g _) [x] [] _ => if bltB T nm g "enumerate" then some [x] else none
  | .rev, _, .Call (.Name g _) [x] [] _ => if bltB T nm g "reversed" then some [x] else none
  | .enums, .Tuple .., .Call (.Name g _) [x] [⟨some st, y, _⟩] _ => if (bltB T nm g "enumerate" && decide (st = "start")) = true then some [x, y] else none
  | _, _, _ => none
def badB : Expr → Bool
  | .Starred .. => false | .Slice .. => false | .Set .. => false | .SetComp .. => false | .GeneratorExp .. => false | .ListComp .. => false
  | _ => true
def baseB : Expr → Bool
  | .Call (.Attribute ..) .. => true
  | .Call .. => false
  | _ => true
def rvsB : Option Expr → Option Expr → Option Expr → Bool
  | none, none, some (.UnaryOp .USub (.Constant (.int 1) _ _) _) => true
  | _, _, _ => false
mutual
def chkE (T : Tb) (N : List Str) : ME → Nm → Expr → Bool
  | .var i, nm, .Name x _ => decide (N[i]? = some x) && visB nm x && isNm x
  | .lit v, _, .Constant c _ _ => litB v c
  | .glo i, nm, .Name x _ => decide (T.gl i = some x) && glB nm x && isNm x
  | .neg a, nm, .UnaryOp .USub e _ => chkE T N a nm e
  | .not a, nm, .UnaryOp .Not e _ => chkE T N a nm e
  | .bool true es, nm, .BoolOp .And xs _ => chkEs T N es nm xs && !xs.isEmpty
  | .bool false es, nm, .BoolOp .Or xs _ => chkEs T N es nm xs && !xs.isEmpty
  | .bin op a b, nm, .BinOp x o y _ => decide (o = op.py) && chkE T N a nm x && chkE T N b nm y
  | .cmp op a b, nm, .Compare x [o] [y] _ => decide (o = op.py) && chkE T N a nm x && chkE T N b nm y
  | .chain o1 o2 a b c, nm, .Compare x [p, q] [y, z] _ => decide (p = o1.py) && decide (q = o2.py) && chkE T N a nm x && chkE T N b nm y && chkE T N c nm z
  | .ifx t a b, nm, .IfExp z x y _ => chkE T N t nm z && chkE T N a nm x && chkE T N b nm y
  | .tup es, nm, .Tuple xs _ _ => chkEs T N es nm xs && decide (es.length ≤ big)
  | .lst es, nm, .List xs _ => chkEs T N es nm xs && decide (es.length ≤ big)
  | .ix a i, nm, .Subscript x y _ => chkE T N a nm x && chkE T N i nm y
  | .sl a lo hi, nm, .Subscript x (.Slice l h none _) _ => chkE T N a nm x && chkO T N lo nm l && chkO T N hi nm h
  | .ist a t, nm, .Call (.Name f _) [x, .Name y _] [] _ => bltB T nm f "isinstance" && bltB T nm y (Str.ofString t.py) && chkE T N a nm x
  | .tyc k a t, nm, .Compare (.Call (.Name f _) [x] [] _) [o] [.Name y _] _ => bltB T nm f "type" && bltB T nm y (Str.ofString t.py) && decide (o = if k then .Eq else .NotEq) && chkE T N a nm x
  | .bi f es, nm, .Call (.Name g _) xs [] _ => T.cm && bltB T nm g f.nm && chkEs T N es nm xs && !xs.isEmpty
  | .mt m o es, nm, .Call (.Attribute x a ap) xs [] p => decide (a = m.nm) && baseB x && (ap.endLine == p.line) && decide (xs.length < 20) && (m.isL || decide (xs.length = 1)) && chkE T N o nm x && chkEs T N es nm xs
  | .call i es, nm, .Call (.Name g _) xs [] _ => T.cm && decide (T.fn i = some g) && glB nm g && isNm g && chkEs T N es nm xs
  | .lc k its own tg ifs elt, nm, .ListComp e [⟨t, it, cs, z⟩] scope _ => (T.cm && T.cur.isNone) && decide (z = 0) && (match itX T nm k t it with
      | some xs => chkEs T N its nm xs
      | none => false) && kindF scope.kind && blkC N ⟨.function, nm, false, false, []⟩ scope (ownOf N own) && tg.slots.all own.contains && tgB N false (innerNm nm scope) tg t &&
      (match cs with
        | [] => decide (ifs.length = 0)
        | [c] => chkEs T N ifs (innerNm nm scope) [c]
        | _ => false) && chkE T N elt (innerNm nm scope) e
  | .dc k its own tg ke ve, nm, .DictComp kx vx [⟨t, it, [], z⟩] scope _ => (T.cm && T.cur.isNone) && decide (z = 0) && (match itX T nm k t it with
      | some xs => chkEs T N its nm xs
      | none => false) && kindF scope.kind && blkC N ⟨.function, nm, false, false, []⟩ scope (ownOf N own) && tg.slots.all own.contains && tgB N false (innerNm nm scope) tg t &&
      chkE T N ke (innerNm nm scope) kx && chkE T N ve (innerNm nm scope) vx
  | .fld o a, nm, .Attribute x f _ => decide (T.an a = some f) && baseB x && chkE T N o nm x
  | .xat o k, nm, .Attribute x f _ => (match T.cur with
      | some ns => decide (ns[k]? = some f)
      | none => false) && baseB x && chkE T N o nm x
  | .meth o a es, nm, .Call (.Attribute x f ap) xs [] p => (T.cm && T.mo a) && decide (T.an a = some f) && baseB x && (ap.endLine == p.line) && decide (xs.length < 20) && chkE T N o nm x && chkEs T N es nm xs
  | .make c es, nm, .Call (.Name g _) xs [] _ => T.cm && decide (T.cn c = some g) && glB nm g && isNm g && chkEs T N es nm xs
  | .bad, _, e => badB e
  | .lc2 k its own tg ifs k1 its1 tg1 ifs1 elt, nm, .ListComp e [⟨t, it, cs, z⟩, ⟨t1, it1, cs1, z1⟩] scope _ => (T.cm && T.cur.isNone) && (decide (z = 0) && decide (z1 = 0)) && (match itX T nm k t it with
      | some xs => chkEs T N its nm xs
      | none => false) && (match itX T (innerNm nm scope) k1 t1 it1 with
      | some xs => chkEs T N its1 (innerNm nm scope) xs
      | none => false) && kindF scope.kind && blkC N ⟨.function, nm, false, false, []⟩ scope (ownOf N own) && (tg.slots.all own.contains && tg1.slots.all own.contains) && (tgB N false (innerNm nm scope) tg t && tgB N false (innerNm nm scope) tg1 t1) &&
      (match cs with
        | [] => decide (ifs.length = 0)
        | [c] => chkEs T N ifs (innerNm nm scope) [c]
        | _ => false) && (match cs1 with
        | [] => decide (ifs1.length = 0)
        | [c] => chkEs T N ifs1 (innerNm nm scope) [c]
        | _ => false) && chkE T N elt (innerNm nm scope) e
  | .rvs a, nm, .Subscript x (.Slice l h st _) _ => rvsB l h st && chkE T N a nm x
  | .ixc a i, nm, .Subscript x y _ => chkE T N a nm x && chkE T N i nm y
  | .dsp ks es, nm, .Dict keys xs _ => keysB ks keys && decide (keys.length = xs.length) && decide (keys.length ≤ 15) && chkEs T N es nm xs
  | _, _, _ => false
def chkEs (T : Tb) (N : List Str) : List ME → Nm → List Expr → Bool
  | [], _, [] => true
  | m :: ms, nm, e :: es => chkE T N m nm e && chkEs T N ms nm es
  | _, _, _ => false
def chkO (T : Tb) (N : List Str) : List ME → Nm → Option Expr → Bool
  | [], _, none => true
  | [m], nm, some e => chkE T N m nm e
  | _, _, _ => false
end
end PM

namespace PM
open PySem PySem.Spec PyProof.Rows L2

/-! ### what the check says of an expression's form -/
def plainB : Expr → Bool
  | .Starred .. => false | .Slice .. => false | .Set .. => false | .SetComp .. => false | .GeneratorExp .. => false
  | _ => true
theorem chk_plain {T : Tb} {N : List Str} {m : ME} {nm : Nm} {e : Expr} (h : chkE T N m nm e = true) : plainB e = true := by
  cases e with
  | Starred a b => cases m with
    | bool k es => cases k <;> simp [chkE] at h
    | _ => simp [chkE, badB] at h
  | Slice a b c d => cases m with
    | bool k es => cases k <;> simp [chkE] at h
    | _ => simp [chkE, badB] at h
  | Set a b c => cases m with
    | bool k es => cases k <;> simp [chkE] at h
    | _ => simp [chkE, badB] at h
  | SetComp a b c d => cases m with
    | bool k es => cases k <;> simp [chkE] at h
    | _ => simp [chkE, badB] at h
  | GeneratorExp a b c d => cases m with
    | bool k es => cases k <;> simp [chkE] at h
    | _ => simp [chkE, badB] at h
  | _ => rfl
theorem star_of {e : Expr} {es : List Expr} {env : Env} (h : plainB e = true) : starEach (e :: es) env = (false, eval e env) :: starEach es env := by
  cases e <;> first | rfl | (simp [plainB] at h)
theorem mark_of {op : CmpOp} {e : Expr} (h : plainB e = true) : behindInMarks op e = false := by
  cases e <;> first | rfl | (simp [plainB] at h)
theorem fold_of {e : Expr} {env : Env} (h : plainB e = true) (x : Value) : foldedSetIterable e env x = pure x := by
  cases e <;> first | rfl | (simp [plainB] at h)
theorem ix_of {e : Expr} (h : plainB e = true) : PlainIx e := by
  intro o i
  cases e <;> first | rfl | (simp [plainB] at h)
theorem chkEs_len {T : Tb} {N : List Str} : ∀ {ms : List ME} {nm : Nm} {es : List Expr}, chkEs T N ms nm es = true → ms.length = es.length
  | [], _, [], _ => rfl
  | [], _, _ :: _, h => by simp [chkEs] at h
  | _ :: _, _, [], h => by simp [chkEs] at h
  | m :: ms, nm, e :: es, h => by
    simp only [chkEs, Bool.and_eq_true] at h
    simp [chkEs_len h.2]
theorem chkEs_star {T : Tb} {N : List Str} {env : Env} {pos : Pos} : ∀ {ms : List ME} {nm : Nm} {es : List Expr}, chkEs T N ms nm es = true → (backTo pos (starEach es env)).any (·.1) = false
  | [], _, [], _ => rfl
  | [], _, _ :: _, h => by simp [chkEs] at h
  | _ :: _, _, [], h => by simp [chkEs] at h
  | m :: ms, nm, e :: es, h => by
    simp only [chkEs, Bool.and_eq_true] at h
    rw [star_of (chk_plain h.1)]
    have := chkEs_star (env := env) (pos := pos) h.2
    unfold backTo at this ⊢
    rw [List.map_cons, List.any_cons, this]
    rfl
section
variable {X : Cx} {L : Lk} {C : Cenv} {T : Tb} {N : List Str} {df : Bool} {nm : Nm}
theorem Good.vis (G : Good X L C T N df nm) {x : Str} (h : visB nm x = true) : Vis X.env.scope x := by
  unfold visB at h
  unfold Vis
  rw [G.nm]
  split at h
  · exact .inl (by assumption)
  · exact .inr (.inl (by assumption))
  · exact .inr (.inr (by assumption))
  · cases h
theorem Good.gl' (G : Good X L C T N df nm) {x : Str} (h : glB nm x = true) : Gl X x := by
  unfold glB at h
  show X.env.scope.names.lookup x = some .globalImplicit
  rw [G.nm]
  split at h
  · assumption
  · cases h
theorem Good.loc (G : Good X L C T N df nm) {x : Str} (h : locB df nm x = true) : L2.Loc X.env.scope x ∧ (X.fn x = true ∨ X.env.scope.names.lookup x = some .local) := by
  unfold locB at h
  unfold L2.Loc
  rw [G.nm]
  split at h
  · exact ⟨.inl (by assumption), .inr (by assumption)⟩
  · exact ⟨.inr (by assumption), .inl (G.al h x)⟩
  · cases h
theorem isNm_of {x : Str} (h : isNm x = true) : (x == ("__debug__" : Str)) = false ∧ (x == ("__classdict__" : Str)) = false := by
  unfold isNm at h
  rw [Bool.and_eq_true] at h
  simpa using h
theorem Good.blt (G : Good X L C T N df nm) {x y : Str} (h : bltB T nm x y = true) : x = y ∧ Gl X x ∧ X.mg x = none := by
  unfold bltB at h
  rw [Bool.and_eq_true, Bool.and_eq_true] at h
  exact ⟨of_decide_eq_true h.1.1, G.gl' h.1.2, G.bi _ h.2⟩
theorem lit_ok {v : Val} {c : Const} {j : Nat} {pos : Pos} (h : litB v c = true) : PE X (.Constant c j pos) (tM X L C (.lit v)) := by
  cases v with
  | non => cases c <;> first | exact se_c pe_non (fun ι H => by simp only [Rv]) | (simp [litB] at h)
  | bl b =>
    cases c with
    | bool c =>
      have : b = c := by simpa [litB] using h
      subst this
      exact se_c pe_bl (fun ι H => by simp only [Rv])
    | _ => simp [litB] at h
  | int b =>
    cases c with
    | int c =>
      have : b = c := by simpa [litB] using h
      subst this
      exact se_c pe_int (fun ι H => by simp only [Rv])
    | _ => simp [litB] at h
  | str b =>
    cases c with
    | str c =>
      have : b = c := by simpa [litB] using h
      subst this
      exact se_c pe_str (fun ι H => by simp only [Rv])
    | _ => simp [litB] at h
  | tup _ => simp [litB] at h
  | loc _ => simp [litB] at h
  | cst _ _ => simp [litB] at h
def gOf (K : PySem.W.Frag) : Tg → TG
  | .nm i => gName i
  | .tp is => gTup K is.length (gAll is)
theorem gOf_ok {K : PySem.W.Frag} (t : Tg) : TgOk K (gOf K t) t := by
  cases t with
  | nm i => exact tgok_nm
  | tp is => exact tgok_tp
theorem nms_ok (G : Good X L C T N df nm) : ∀ {is : List Nat} {es : List Expr}, nmsB N df nm is es = true → PGs X es (gAll is) ∧ (assignEach es X.env).length = is.length ∧ (assignEach es X.env).findIdx? (·.1) = none
  | [], [], _ => ⟨pgs_nil, rfl, rfl⟩
  | [], _ :: _, h => by simp [nmsB] at h
  | _ :: _, [], h => by simp [nmsB] at h
  | i :: is, e :: es, h => by
    cases e with
    | Name x p =>
      simp only [nmsB, Bool.and_eq_true, decide_eq_true_eq] at h
      obtain ⟨h1, h2, h3⟩ := nms_ok G h.2
      have hl := G.loc h.1.2
      refine ⟨pgs_cons (pg_name (by rw [G.hN]; exact G.nd) (by rw [G.hN]; exact h.1.1) hl.1 hl.2) h1 rfl, ?_, ?_⟩
      · show (assignEach es X.env).length + 1 = is.length + 1
        rw [h2]
      · show ((false, assign (.Name x p) X.env) :: assignEach es X.env).findIdx? (·.1) = none
        rw [List.findIdx?_cons, h3]
        rfl
    | _ => simp [nmsB] at h
theorem tg_ok (G : Good X L C T N df nm) {t : Tg} (hc : ∀ is, t = .tp is → T.cm = true) {e : Expr} (h : tgB N df nm t e = true) : PG X e (gOf L.K t) := by
  cases t with
  | nm i =>
    cases e with
    | Name x p =>
      simp only [tgB, Bool.and_eq_true, decide_eq_true_eq] at h
      have hl := G.loc h.2
      exact pg_name (by rw [G.hN]; exact G.nd) (by rw [G.hN]; exact h.1) hl.1 hl.2
    | _ => simp [tgB] at h
  | tp is =>
    cases e with
    | Tuple es k p =>
      simp only [tgB] at h
      obtain ⟨h1, h2, h3⟩ := nms_ok G h
      rw [← G.K]
      exact pg_tup (G.calm (hc is rfl)) h1 h2 h3
    | _ => simp [tgB] at h
end
theorem ownOf_map (N : List Str) (own : List Nat) : (ownOf N own).map (·.2) = own := by
  unfold ownOf
  rw [List.map_map]
  exact List.map_id'' (fun _ => rfl) own
theorem blk_ok {N : List Str} {nm : Nm} {scope sc : Scope} {own : List (Str × Nat)} (hs : sc.names = nm) (h : blkC N ⟨.function, nm, false, false, []⟩ scope own = true) : BlkOk N sc scope own := by
  have b := blkOk_by h
  exact ⟨b.kind, b.uniq, b.ix, fun y hy e => by rw [hs]; exact b.free y hy e, b.own⟩
theorem kind_of {k : ScopeKind} (h : kindF k = true) : k = .function := by
  cases k <;> first | rfl | (simp [kindF] at h)
end PM

namespace PM
open PySem PySem.Spec PyProof.Rows L2

/-! ### a checked tree is sound -/
section
variable {L : Lk} {C : Cenv} {T : Tb} {N : List Str}
abbrev ET (L : Lk) (C : Cenv) (X : Cx) (e : Expr) (m : ME) : Prop := PE X e (tM X L C m) ∧ PT X e (tMT X L C m)
theorem et_of {X : Cx} {e : Expr} {m : ME} (hK : X.K = L.K) (h : PE X e (tM X L C m)) (he : ∀ whole, isTrue e X.env whole = (do let v ← whole; standAt e.pos; holding [v] (truthy v))) : ET L C X e m := ⟨h, se_truth hK h he⟩
theorem pt_ifx {X : Cx} {c a b : Expr} {pos : Pos} {tc ta tb : TT} (hc : PT X c tc) (ha : PT X a ta) (hb : PT X b tb) : PT X (.IfExp c a b pos) (fun σ H Q => tc σ H fun k H1 => if k = true then ta σ H1 Q else tb σ H1 Q) := by
  refine ⟨fun pins s σ H Q I h => ?_⟩
  show wpAny _ X.A (do if ← isTrue c X.env (eval c X.env) then isTrue a X.env (eval a X.env) else isTrue b X.env (eval b X.env)) _ _ _
  refine wpAny_bind (thn (hc.run pins s σ H _ I h) fun d s1 ⟨H1, I1, q1⟩ => ?_)
  cases d with
  | true => exact ha.run pins s1 σ H1 Q I1 q1
  | false => exact hb.run pins s1 σ H1 Q I1 q1
theorem se_ifx_t {X : Cx} {c a b : Expr} {pos : Pos} {mc ma mb : ME} (ht : PT X c (tMT X L C mc)) (ha : PT X a (tMT X L C ma)) (hb : PT X b (tMT X L C mb)) : PT X (.IfExp c a b pos) (tMT X L C (.ifx mc ma mb)) :=
  ptImp (pt_ifx ht ha hb) fun σ H Q ⟨ι, ρ, S, Q', E, hρ, R, w, tk, post⟩ => by
    simp only [wpE] at w
    refine ⟨ι, ρ, S, _, E, hρ, R, w, tk, fun ι1 H1 x v S1 g1 R1 r1 w1 => tru_mono w1 fun k hk => ?_⟩
    cases k with
    | true => exact ⟨ι1, ρ, S1, _, E, hρ.mono g1, R1, hk, WXe.grow g1 tk, fun ι2 H2 y u S2 g2 R2 r2 w2 => post ι2 H2 y u S2 (g1.trans g2) R2 r2 w2⟩
    | false => exact ⟨ι1, ρ, S1, _, E, hρ.mono g1, R1, hk, WXe.grow g1 tk, fun ι2 H2 y u S2 g2 R2 r2 w2 => post ι2 H2 y u S2 (g1.trans g2) R2 r2 w2⟩
/-- what a loop walks: the forms of iter -/
def itB (T : Tb) (N : List Str) (k : ItK) (its : List ME) (nm : Nm) (t it : Expr) : Bool := match itX T nm k t it with
  | some xs => chkEs T N its nm xs
  | none => false
theorem itB_spec {k : ItK} {its : List ME} {nm : Nm} {t it : Expr} (h : itB T N k its nm t it = true) :
    (k = .seq ∧ chkEs T N its nm [it] = true) ∨ (∃ g pg x p, k = .range ∧ it = .Call (.Name g pg) [x] [] p ∧ bltB T nm g "range" = true ∧ chkEs T N its nm [x] = true) ∨
    (∃ g pg x y p, k = .range2 ∧ it = .Call (.Name g pg) [x, y] [] p ∧ bltB T nm g "range" = true ∧ chkEs T N its nm [x, y] = true) ∨
    (∃ g pg x y p el kk tp, k = .zip ∧ t = .Tuple el kk tp ∧ it = .Call (.Name g pg) [x, y] [] p ∧ bltB T nm g "zip" = true ∧ chkEs T N its nm [x, y] = true) ∨
    (∃ g pg x p el kk tp, k = .enum ∧ t = .Tuple el kk tp ∧ it = .Call (.Name g pg) [x] [] p ∧ bltB T nm g "enumerate" = true ∧ chkEs T N its nm [x] = true) ∨
    (∃ g pg x p, k = .rev ∧ it = .Call (.Name g pg) [x] [] p ∧ bltB T nm g "reversed" = true ∧ chkEs T N its nm [x] = true) ∨
    (∃ g pg x y p el kk tp st kp, k = .enums ∧ t = .Tuple el kk tp ∧ it = .Call (.Name g pg) [x] [⟨some st, y, kp⟩] p ∧ (bltB T nm g "enumerate" = true ∧ st = "start") ∧ chkEs T N its nm [x, y] = true) := by
  unfold itB at h
  unfold itX at h
  split at h
  · rename_i xs e
    split at e
    · cases e
      exact .inl ⟨rfl, h⟩
    · split at e
      · cases e
        exact .inr (.inl ⟨_, _, _, _, rfl, rfl, by assumption, h⟩)
      · cases e
    · split at e
      · cases e
        exact .inr (.inr (.inl ⟨_, _, _, _, _, rfl, rfl, by assumption, h⟩))
      · cases e
    · split at e
      · cases e
        exact .inr (.inr (.inr (.inl ⟨_, _, _, _, _, _, _, _, rfl, rfl, rfl, by assumption, h⟩)))
      · cases e
    · split at e
      · cases e
        exact .inr (.inr (.inr (.inr (.inl ⟨_, _, _, _, _, _, _, rfl, rfl, rfl, by assumption, h⟩))))
      · cases e
    · split at e
      · cases e
        exact .inr (.inr (.inr (.inr (.inr (.inl ⟨_, _, _, _, rfl, rfl, by assumption, h⟩)))))
      · cases e
    · split at e
      · rename_i hb
        cases e
        rw [Bool.and_eq_true, decide_eq_true_eq] at hb
        exact .inr (.inr (.inr (.inr (.inr (.inr ⟨_, _, _, _, _, _, _, _, _, _, rfl, rfl, rfl, hb, h⟩)))))
      · cases e
    · cases e
  · cases h
theorem few_of {nm : Nm} {ms : List ME} {xs : List Expr} {env : Env} {pos : Pos} (h : chkEs T N ms nm xs = true) (hl : xs.length < 20) : ((backTo pos (starEach xs env)).all (fun x => !x.1) && (backToKw pos (keywordEach [] env)).all (fun x => x.1.isSome)
      && decide (xs.length + ([] : List Keyword).length + (if ([] : List Keyword).isEmpty then 0 else 1) < 30)) = true := by
  have h1 := chkEs_star (env := env) (pos := pos) h
  have h2 : (backTo pos (starEach xs env)).all (fun x => !x.1) = true := by
    rw [List.all_eq_true]
    intro x hx
    rw [List.any_eq_false] at h1
    simpa using h1 x hx
  rw [h2]
  have h3 : decide (xs.length + ([] : List Keyword).length + (if ([] : List Keyword).isEmpty then 0 else 1) < 30) = true := by
    rw [decide_eq_true_eq]
    show xs.length + 0 + 0 < 30
    omega
  rw [h3]
  rfl
theorem keysB_len : ∀ {ks : List Key} {keys : List (Option Expr)}, keysB ks keys = true → ks.length = keys.length
  | [], [], _ => rfl
  | [], _ :: _, h => by simp [keysB] at h
  | .inl _ :: _, [], h => by simp [keysB] at h
  | .inr _ :: _, [], h => by simp [keysB] at h
  | .inl x :: ks, k :: keys, h => by
    unfold keysB at h
    split at h
    · rename_i e1 e2; cases e1
    · rename_i e1 e2; cases e1
    · rename_i e1 e2
      cases e1
      cases e2
      simp only [Bool.and_eq_true] at h
      simp [keysB_len h.2]
    · cases h
  | .inr x :: ks, k :: keys, h => by
    unfold keysB at h
    split at h
    · rename_i e1 e2; cases e1
    · rename_i e1 e2
      cases e1
      cases e2
      simp only [Bool.and_eq_true] at h
      simp [keysB_len h.2]
    · rename_i e1 e2; cases e1
    · cases h
theorem keysB_cons {k : Key} {ks : List Key} {o : Option Expr} {keys : List (Option Expr)} (h : keysB (k :: ks) (o :: keys) = true) : (∃ e, o = some e ∧ ∀ X, PE X e (tC (kV k))) ∧ keysB ks keys = true := by
  unfold keysB at h
  split at h
  · rename_i e1 e2; cases e1
  · rename_i e1 e2
    cases e1
    cases e2
    simp only [Bool.and_eq_true, decide_eq_true_eq] at h
    obtain ⟨rfl, h2⟩ := h
    exact ⟨⟨_, rfl, fun X => pe_str⟩, h2⟩
  · rename_i e1 e2
    cases e1
    cases e2
    simp only [Bool.and_eq_true, decide_eq_true_eq] at h
    obtain ⟨rfl, h2⟩ := h
    exact ⟨⟨_, rfl, fun X => pe_int⟩, h2⟩
  · cases h
theorem keysB_some : ∀ {ks : List Key} {keys : List (Option Expr)}, keysB ks keys = true → keys.all (·.isSome) = true
  | [], [], _ => rfl
  | [], _ :: _, h => by simp [keysB] at h
  | _ :: _, [], h => by have := keysB_len h; simp at this
  | k :: ks, o :: keys, h => by
    obtain ⟨⟨e, rfl, _⟩, h2⟩ := keysB_cons h
    simp [keysB_some h2]
theorem se_xat0 {X : Cx} {o : Expr} {mo : ME} {nm : Str} {k n : Nat} {pos : Pos} (hx : C.cur = some (n, [])) (ho : PE X o (tM X L C mo)) (hb : attributeBase o nm X.env (eval o X.env) = eval o X.env) : PE X (.Attribute o nm pos) (tM X L C (.xat mo k)) := by
  refine ⟨fun pins s σ H Q I ⟨ι, ρ, S, Q', E, hρ, R, w, tk, post⟩ => ?_⟩
  refine attr_of hb (thn (ho.run pins s σ H (fun _ _ => False) I ⟨ι, ρ, S, fun _ _ => False, E, hρ, R, ?_, tk, fun _ _ _ _ _ _ _ _ z => z⟩) fun u s1 ⟨_, _, _, _, z⟩ => z.elim)
  simp only [wpE, hx] at w
  simpa using w
theorem base_of {x : Expr} {nm : Str} {env : Env} (h : baseB x = true) : attributeBase x nm env (eval x env) = eval x env := by
  cases x with
  | Call f xs kw p => cases f <;> first | rfl | (simp [baseB] at h)
  | _ => rfl
mutual
theorem soundE : ∀ (m : ME) {X : Cx} {df : Bool} {nm : Nm} {e : Expr}, Good X L C T N df nm → chkE T N m nm e = true → ET L C X e m
  | .var i, X, df, nm, e, G, h => by
    cases e with
    | Name x p =>
      simp only [chkE, Bool.and_eq_true, decide_eq_true_eq] at h
      have hn := isNm_of h.2
      exact et_of G.K (se_var (pe_var (by rw [G.hN]; exact h.1.1) (G.vis h.1.2) hn.1 hn.2)) fun _ => rfl
    | _ => simp [chkE] at h
  | .lit v, X, df, nm, e, G, h => by
    cases e with
    | Constant c j p =>
      simp only [chkE] at h
      exact et_of G.K (lit_ok h) fun _ => rfl
    | _ => simp [chkE] at h
  | .glo i, X, df, nm, e, G, h => by
    cases e with
    | Name x p =>
      simp only [chkE, Bool.and_eq_true, decide_eq_true_eq] at h
      have hn := isNm_of h.2
      obtain ⟨u, w, h1, h2, h3⟩ := G.gl i x h.1.1
      exact et_of G.K (se_glo (pe_glob (G.gl' h.1.2) h1 h2 hn.1) h3) fun _ => rfl
    | _ => simp [chkE] at h
  | .neg a, X, df, nm, e, G, h => by
    cases e with
    | UnaryOp o x p =>
      cases o with
      | USub =>
        simp only [chkE] at h
        exact et_of G.K (se_neg (soundE a G h).1) fun _ => rfl
      | _ => simp [chkE] at h
    | _ => simp [chkE] at h
  | .not a, X, df, nm, e, G, h => by
    cases e with
    | UnaryOp o x p =>
      cases o with
      | Not =>
        simp only [chkE] at h
        exact ⟨se_not G.K (soundE a G h).1, se_not_t (soundE a G h).2⟩
      | _ => simp [chkE] at h
    | _ => simp [chkE] at h
  | .bool true es, X, df, nm, e, G, h => by
    cases e with
    | BoolOp o xs p =>
      cases o with
      | And =>
        simp only [chkE, Bool.and_eq_true] at h
        cases xs with
        | nil => simp at h
        | cons x xs => exact ⟨se_bool (soundA es G h.1).1, se_bool_t (soundA es G h.1).2⟩
      | _ => simp [chkE] at h
    | _ => simp [chkE] at h
  | .bool false es, X, df, nm, e, G, h => by
    cases e with
    | BoolOp o xs p =>
      cases o with
      | Or =>
        simp only [chkE, Bool.and_eq_true] at h
        cases xs with
        | nil => simp at h
        | cons x xs => exact ⟨se_bool (soundO es G h.1).1, se_bool_t (soundO es G h.1).2⟩
      | _ => simp [chkE] at h
    | _ => simp [chkE] at h
  | .bin op a b, X, df, nm, e, G, h => by
    cases e with
    | BinOp x o y p =>
      simp only [chkE, Bool.and_eq_true, decide_eq_true_eq] at h
      obtain ⟨⟨rfl, h1⟩, h2⟩ := h
      exact et_of G.K (se_bin G.K (soundE a G h1).1 (soundE b G h2).1) fun _ => rfl
    | _ => simp [chkE] at h
  | .cmp op a b, X, df, nm, e, G, h => by
    cases e with
    | Compare x os ys p =>
      rcases os with _ | ⟨o, _ | ⟨o2, os⟩⟩ <;> rcases ys with _ | ⟨y, _ | ⟨y2, ys⟩⟩ <;> try (simp [chkE] at h; done)
      simp only [chkE, Bool.and_eq_true, decide_eq_true_eq] at h
      obtain ⟨⟨rfl, h1⟩, h2⟩ := h
      have hm := mark_of (op := op.py) (chk_plain h2)
      exact ⟨se_cmp G.K G.A (soundE a G h1).1 (soundE b G h2).1 hm, se_cmp_t G.K G.A (soundE a G h1).1 (soundE b G h2).1 hm⟩
    | _ => simp [chkE] at h
  | .chain o1 o2 a b c, X, df, nm, e, G, h => by
    cases e with
    | Compare x os ys p =>
      rcases os with _ | ⟨o, _ | ⟨o2, _ | ⟨o3, os⟩⟩⟩ <;> rcases ys with _ | ⟨y, _ | ⟨y2, _ | ⟨y3, ys⟩⟩⟩ <;> try (simp [chkE] at h; done)
      simp only [chkE, Bool.and_eq_true, decide_eq_true_eq] at h
      obtain ⟨⟨⟨⟨rfl, rfl⟩, h1⟩, h2⟩, h3⟩ := h
      have hm : lastMarks [o1.py, o2.py] [y, y2] = false := by
        show behindInMarks o2.py y2 = false
        exact mark_of (chk_plain h3)
      exact ⟨se_chain G.K G.A (soundE a G h1).1 (soundE b G h2).1 (soundE c G h3).1 hm, se_chain_t G.K G.A (soundE a G h1).1 (soundE b G h2).1 (soundE c G h3).1 hm⟩
    | _ => simp [chkE] at h
  | .ifx t a b, X, df, nm, e, G, h => by
    cases e with
    | IfExp z x y p =>
      simp only [chkE, Bool.and_eq_true] at h
      have h1 := soundE t G h.1.1
      have h2 := soundE a G h.1.2
      have h3 := soundE b G h.2
      exact ⟨se_ifx h1.2 h2.1 h3.1, se_ifx_t h1.2 h2.2 h3.2⟩
    | _ => simp [chkE] at h
  | .tup es, X, df, nm, e, G, h => by
    cases e with
    | Tuple xs k p =>
      simp only [chkE, Bool.and_eq_true, decide_eq_true_eq] at h
      exact et_of G.K (se_tup (soundEs es G h.1) h.2) fun _ => rfl
    | _ => simp [chkE] at h
  | .lst es, X, df, nm, e, G, h => by
    cases e with
    | List xs p =>
      simp only [chkE, Bool.and_eq_true, decide_eq_true_eq] at h
      exact et_of G.K (se_lst (soundEs es G h.1) h.2) fun _ => rfl
    | _ => simp [chkE] at h
  | .ix a i, X, df, nm, e, G, h => by
    cases e with
    | Subscript x y p =>
      have h' : chkE T N a nm x = true ∧ chkE T N i nm y = true := by
        cases y <;> first | (simpa [chkE] using h; done) | simpa only [chkE, Bool.and_eq_true] using h
      exact et_of G.K (se_ix G.K G.A (soundE a G h'.1).1 (soundE i G h'.2).1 (ix_of (chk_plain h'.2))) fun _ => rfl
    | _ => simp [chkE] at h
  | .sl a lo hi, X, df, nm, e, G, h => by
    cases e with
    | Subscript x y p =>
      cases y with
      | Slice l u st p2 =>
        cases st with
        | none =>
          simp only [chkE, Bool.and_eq_true] at h
          exact et_of G.K (se_sl G.K (soundE a G h.1.1).1 (soundP lo G h.1.2) (soundP hi G h.2)) fun _ => rfl
        | some _ => simp [chkE] at h
      | _ => simp [chkE] at h
    | _ => simp [chkE] at h
  | .ist a t, X, df, nm, e, G, h => by
    cases e with
    | Call f xs kw p =>
      cases f with
      | Name f pf =>
        rcases kw with _ | ⟨_, _⟩
        · rcases xs with _ | ⟨x, _ | ⟨y, _ | ⟨z, xs⟩⟩⟩ <;> try (simp [chkE] at h; done)
          cases y with
          | Name y py =>
            simp only [chkE, Bool.and_eq_true] at h
            obtain ⟨⟨h1, h2⟩, h3⟩ := h
            have b1 := G.blt h1
            have b2 := G.blt h2
            exact et_of G.K (se_ist G.K b1.1 b1.2.1 b1.2.2 b2.1 b2.2.1 b2.2.2 (soundE a G h3).1 (star_of (chk_plain h3)) rfl) fun _ => rfl
          | _ => simp [chkE] at h
        · simp [chkE] at h
      | _ => simp [chkE] at h
    | _ => simp [chkE] at h
  | .tyc k a t, X, df, nm, e, G, h => by
    cases e with
    | Compare x os ys p =>
      cases x with
      | Call f xs kw p1 =>
        cases f with
        | Name f pf =>
          rcases kw with _ | ⟨_, _⟩
          · rcases xs with _ | ⟨x, _ | ⟨z, xs⟩⟩ <;> try (simp [chkE] at h; done)
            rcases os with _ | ⟨o, _ | ⟨o2, os⟩⟩ <;> rcases ys with _ | ⟨y, _ | ⟨y2, ys⟩⟩ <;> try (simp [chkE] at h; done)
            cases y with
            | Name y py =>
              simp only [chkE, Bool.and_eq_true, decide_eq_true_eq] at h
              obtain ⟨⟨⟨h1, h2⟩, rfl⟩, h3⟩ := h
              have b1 := G.blt h1
              have b2 := G.blt h2
              exact ⟨se_tyc G.K b1.1 b1.2.1 b1.2.2 b2.1 b2.2.1 b2.2.2 (soundE a G h3).1 (star_of (chk_plain h3)) rfl, se_tyc_t G.K b1.1 b1.2.1 b1.2.2 b2.1 b2.2.1 b2.2.2 (soundE a G h3).1 (star_of (chk_plain h3)) rfl⟩
            | _ => simp [chkE] at h
          · simp [chkE] at h
        | _ => simp [chkE] at h
      | _ => simp [chkE] at h
    | _ => simp [chkE] at h
  | .bi f es, X, df, nm, e, G, h => by
    cases e with
    | Call g xs kw p =>
      cases g with
      | Name g pg =>
        rcases kw with _ | ⟨_, _⟩
        · rcases xs with _ | ⟨x, xs⟩
          · simp [chkE] at h
          · have h' : ((T.cm = true ∧ bltB T nm g f.nm = true) ∧ chkEs T N es nm (x :: xs) = true) := by
              rcases xs with _ | ⟨y, _ | ⟨z, xs⟩⟩ <;> simp only [chkE, Bool.and_eq_true] at h <;> exact h.1
            have b1 := G.blt h'.1.2
            have hs := h'.2
            rcases es with _ | ⟨m, ms⟩
            · simp [chkEs] at hs
            · have hs' := hs
              simp only [chkEs, Bool.and_eq_true] at hs'
              exact et_of G.K (se_bi G.K (G.calm h'.1.1) G.A b1.1 b1.2.1 b1.2.2 (soundEs (m :: ms) G hs) (star_of (chk_plain hs'.1)) (chkEs_star hs'.2)) fun _ => rfl
        · simp [chkE] at h
      | _ => simp [chkE] at h
    | _ => simp [chkE] at h
  | .mt m o es, X, df, nm, e, G, h => by
    cases e with
    | Call g xs kw p =>
      cases g with
      | Attribute x a ap =>
        rcases kw with _ | ⟨_, _⟩
        · have h' : ((((((a = m.nm ∧ baseB x = true) ∧ (ap.endLine == p.line) = true) ∧ xs.length < 20) ∧ (m.isL || decide (xs.length = 1)) = true) ∧ chkE T N o nm x = true) ∧ chkEs T N es nm xs = true) := by
            rcases xs with _ | ⟨x, _ | ⟨y, _ | ⟨z, xs⟩⟩⟩ <;> simpa only [chkE, Bool.and_eq_true, decide_eq_true_eq] using h
          obtain ⟨⟨⟨⟨⟨⟨rfl, hb⟩, hl⟩, hn⟩, hi⟩, ho⟩, hs⟩ := h'
          have hO := (soundE o G ho).1
          cases hm : m.isL with
          | true =>
            rcases es with _ | ⟨m1, ms⟩
            · rcases xs with _ | ⟨y, xs⟩
              · exact et_of G.K (se_mt0 G.K G.A hm hO (base_of hb) hl) fun _ => rfl
              · simp [chkEs] at hs
            · rcases xs with _ | ⟨y, xs⟩
              · simp [chkEs] at hs
              · have hs' := hs
                rw [chkEs, Bool.and_eq_true] at hs'
                exact et_of G.K (se_mt G.K G.A hm hO (soundEs (m1 :: ms) G hs) (base_of hb) (few_of hs hn) hl (star_of (chk_plain hs'.1)) (chkEs_star hs'.2)) fun _ => rfl
          | false =>
            cases m with
            | get1 =>
              rcases xs with _ | ⟨y, _ | ⟨z, xs⟩⟩
              · simp [Mt.isL] at hi
              · rcases es with _ | ⟨m1, ms⟩
                · simp [chkEs] at hs
                · have hs' := hs
                  rw [chkEs, Bool.and_eq_true] at hs'
                  exact et_of G.K (se_get1 G.K G.A G.cs hO (soundEs (m1 :: ms) G hs) (base_of hb) (few_of hs hn) hl (star_of (chk_plain hs'.1))) fun _ => rfl
              · simp [Mt.isL] at hi
            | _ => cases hm
        · rcases xs with _ | ⟨x, _ | ⟨y, _ | ⟨z, xs⟩⟩⟩ <;> simp [chkE] at h
      | _ => rcases xs with _ | ⟨x, _ | ⟨y, _ | ⟨z, xs⟩⟩⟩ <;> rcases kw with _ | ⟨_, _⟩ <;> simp [chkE] at h
    | _ => simp [chkE] at h
  | .call i es, X, df, nm, e, G, h => by
    cases e with
    | Call g xs kw p =>
      cases g with
      | Name g pg =>
        rcases kw with _ | ⟨_, _⟩
        · have h' : (((T.cm = true ∧ T.fn i = some g) ∧ glB nm g = true) ∧ isNm g = true) ∧ chkEs T N es nm xs = true := by
            rcases xs with _ | ⟨x, _ | ⟨y, _ | ⟨z, xs⟩⟩⟩ <;> simpa only [chkE, Bool.and_eq_true, decide_eq_true_eq] using h
          have F := G.fn h'.1.1.1.1 i g h'.1.1.1.2
          have hg := G.gl' h'.1.1.2
          have hn := isNm_of h'.1.2
          have hs := h'.2
          rcases es with _ | ⟨m, ms⟩
          · rcases xs with _ | ⟨x, xs⟩
            · exact et_of G.K (se_call0 F hg hn.1) fun _ => rfl
            · simp [chkEs] at hs
          · rcases xs with _ | ⟨x, xs⟩
            · simp [chkEs] at hs
            · have hs' := hs
              simp only [chkEs, Bool.and_eq_true] at hs'
              exact et_of G.K (se_call F hg hn.1 (soundEs (m :: ms) G hs) (star_of (chk_plain hs'.1)) (chkEs_star hs'.2)) fun _ => rfl
        · simp [chkE] at h
      | _ => simp [chkE] at h
    | _ => simp [chkE] at h
  | .lc k its own tg ifs elt, X, df, nm, e, G, h => by
    cases e with
    | ListComp x gs scope p =>
      rcases gs with _ | ⟨⟨t, it, cs, z⟩, _ | ⟨g2, gs⟩⟩ <;> try (simp [chkE] at h; done)
      simp only [chkE, Bool.and_eq_true, decide_eq_true_eq] at h
      obtain ⟨⟨⟨⟨⟨⟨⟨⟨⟨hcm, hcu⟩, rfl⟩, h1⟩, h2⟩, h3⟩, h4⟩, h5⟩, h6⟩, h7⟩ := h
      have hcur : T.cur = none := by simpa using hcu
      have hk := kind_of h2
      have ob := blk_ok (sc := X.env.scope) G.nm h3
      have own' : (ownOf N own).map (·.2) = own := ownOf_map N own
      have hin : PI X t it (tI X L C k its) ∧ plainB it = true := soundI its (t := t) G h1
      have hown : ∀ i ∈ tg.slots, i ∈ (ownOf N own).map (·.2) := fun i hi => by
        rw [own']
        have := List.all_eq_true.mp h4 i hi
        simpa using this
      have main := se_lc (X := X) (L := L) (C := C) (pos := p) (melt := elt) (ifs' := ifs) (elt := x) (ifs := cs) (scope := scope) (G.calm hcm) (by rw [G.hN]; exact G.nd) (gOf_ok (K := L.K) tg) hown hin.1 (by rw [G.hN]; exact ob)
        (fun s H Cc cl fp => tg_ok (G.blk hcur hk s H Cc cl fp) (fun _ _ => hcm) h5)
        (fun s H Cc cl fp => by
          rcases cs with _ | ⟨c, _ | ⟨c2, cs⟩⟩
          · have e0 : ifs = [] := by simpa using h6
            rw [e0]
            exact sts_nil
          · rcases ifs with _ | ⟨i, _ | ⟨i2, ifs⟩⟩
            · simp [chkEs] at h6
            · simp only [chkEs, Bool.and_eq_true] at h6
              exact sts_one (soundE i (G.blk hcur hk s H Cc cl fp) h6.1).2
            · simp [chkEs] at h6
          · simp at h6)
        (fun s H Cc cl fp => (soundE elt (G.blk hcur hk s H Cc cl fp) h7).1) (fold_of hin.2)
      rw [own'] at main
      exact et_of G.K main fun _ => rfl
    | _ => simp [chkE] at h
  | .lc2 k its own tg ifs k1 its1 tg1 ifs1 elt, X, df, nm, e, G, h => by
    cases e with
    | ListComp x gs scope p =>
      rcases gs with _ | ⟨⟨t, it, cs, z⟩, _ | ⟨⟨t1, it1, cs1, z1⟩, _ | ⟨g3, gs⟩⟩⟩ <;> try (simp [chkE] at h; done)
      simp only [chkE, Bool.and_eq_true, decide_eq_true_eq] at h
      obtain ⟨⟨⟨⟨⟨⟨⟨⟨⟨⟨⟨hcm, hcu⟩, rfl, rfl⟩, h1⟩, hi1⟩, h2⟩, h3⟩, h4, h4'⟩, h5, h5'⟩, h6⟩, h6'⟩, h7⟩ := h
      have hcur : T.cur = none := by simpa using hcu
      have hk := kind_of h2
      have ob := blk_ok (sc := X.env.scope) G.nm h3
      have own' : (ownOf N own).map (·.2) = own := ownOf_map N own
      have hin : PI X t it (tI X L C k its) ∧ plainB it = true := soundI its (t := t) G h1
      have hown : ∀ i ∈ tg.slots, i ∈ (ownOf N own).map (·.2) := fun i hi => by
        rw [own']
        have := List.all_eq_true.mp h4 i hi
        simpa using this
      have hown1 : ∀ i ∈ tg1.slots, i ∈ (ownOf N own).map (·.2) := fun i hi => by
        rw [own']
        have := List.all_eq_true.mp h4' i hi
        simpa using this
      have hit1 : plainB it1 = true := (soundI its1 (t := t1) (G.blk hcur hk X.s_0 X.H_0 0 [] []) hi1).2
      have main := se_lc2 (X := X) (L := L) (C := C) (pos := p) (melt := elt) (ifs' := ifs) (ifs1' := ifs1) (elt := x) (ifs := cs) (ifs1 := cs1) (scope := scope) (G.calm hcm) (by rw [G.hN]; exact G.nd) (gOf_ok (K := L.K) tg) (gOf_ok (K := L.K) tg1) hown hown1 hin.1 (by rw [G.hN]; exact ob)
        (fun s H Cc cl fp => tg_ok (G.blk hcur hk s H Cc cl fp) (fun _ _ => hcm) h5)
        (fun s H Cc cl fp => by
          rcases cs with _ | ⟨c, _ | ⟨c2, cs⟩⟩
          · have e0 : ifs = [] := by simpa using h6
            rw [e0]
            exact sts_nil
          · rcases ifs with _ | ⟨i, _ | ⟨i2, ifs⟩⟩
            · simp [chkEs] at h6
            · simp only [chkEs, Bool.and_eq_true] at h6
              exact sts_one (soundE i (G.blk hcur hk s H Cc cl fp) h6.1).2
            · simp [chkEs] at h6
          · simp at h6)
        (fun s H Cc cl fp => (soundI its1 (t := t1) (G.blk hcur hk s H Cc cl fp) hi1).1)
        (fun s H Cc cl fp => tg_ok (G.blk hcur hk s H Cc cl fp) (fun _ _ => hcm) h5')
        (fun s H Cc cl fp => by
          rcases cs1 with _ | ⟨c, _ | ⟨c2, cs1⟩⟩
          · have e0 : ifs1 = [] := by simpa using h6'
            rw [e0]
            exact sts_nil
          · rcases ifs1 with _ | ⟨i, _ | ⟨i2, ifs1⟩⟩
            · simp [chkEs] at h6'
            · simp only [chkEs, Bool.and_eq_true] at h6'
              exact sts_one (soundE i (G.blk hcur hk s H Cc cl fp) h6'.1).2
            · simp [chkEs] at h6'
          · simp at h6')
        (fun s H Cc cl fp => (soundE elt (G.blk hcur hk s H Cc cl fp) h7).1) (fold_of hin.2) (fun env x => fold_of hit1 x)
      rw [own'] at main
      exact et_of G.K main fun _ => rfl
    | _ => simp [chkE] at h
  | .rvs a, X, df, nm, e, G, h => by
    cases e with
    | Subscript x y p =>
      cases y with
      | Slice l u st p2 =>
        simp only [chkE, Bool.and_eq_true] at h
        obtain ⟨h1, h2⟩ := h
        unfold rvsB at h1
        split at h1
        · exact et_of G.K (se_rvs G.K (soundE a G h2).1) fun _ => rfl
        · cases h1
      | _ => simp [chkE] at h
    | _ => simp [chkE] at h
  | .dc k its own tg ke ve, X, df, nm, e, G, h => by
    cases e with
    | DictComp kx vx gs scope p =>
      rcases gs with _ | ⟨⟨t, it, cs, z⟩, _ | ⟨g2, gs⟩⟩ <;> try (simp [chkE] at h; done)
      rcases cs with _ | ⟨c, cs⟩ <;> try (simp [chkE] at h; done)
      simp only [chkE, Bool.and_eq_true, decide_eq_true_eq] at h
      obtain ⟨⟨⟨⟨⟨⟨⟨⟨⟨hcm, hcu⟩, rfl⟩, h1⟩, h2⟩, h3⟩, h4⟩, h5⟩, h6⟩, h7⟩ := h
      have hcur : T.cur = none := by simpa using hcu
      have hk := kind_of h2
      have ob := blk_ok (sc := X.env.scope) G.nm h3
      have own' : (ownOf N own).map (·.2) = own := ownOf_map N own
      have hin : PI X t it (tI X L C k its) ∧ plainB it = true := soundI its (t := t) G h1
      have hown : ∀ i ∈ tg.slots, i ∈ (ownOf N own).map (·.2) := fun i hi => by
        rw [own']
        have := List.all_eq_true.mp h4 i hi
        simpa using this
      have main := se_dc (X := X) (L := L) (C := C) (pos := p) (kx := kx) (vx := vx) (mk := ke) (mv := ve) (scope := scope) (G.calm hcm) (by rw [G.hN]; exact G.nd) (gOf_ok (K := L.K) tg) hown hin.1 (by rw [G.hN]; exact ob)
        (fun s H Cc cl fp => tg_ok (G.blk hcur hk s H Cc cl fp) (fun _ _ => hcm) h5)
        (fun s H Cc cl fp => (soundE ke (G.blk hcur hk s H Cc cl fp) h6).1) (fun s H Cc cl fp => (soundE ve (G.blk hcur hk s H Cc cl fp) h7).1) (fold_of hin.2)
      rw [own'] at main
      exact et_of G.K main fun _ => rfl
    | _ => simp [chkE] at h
  | .bad, X, df, nm, e, G, h => by
    refine ⟨⟨fun pins s σ H Q I ⟨ι, ρ, S, Q', E, hρ, R, w, tk, post⟩ => ?_⟩, ⟨fun pins s σ H Q I ⟨ι, ρ, S, Q', E, hρ, R, w, tk, post⟩ => ?_⟩⟩
    · simp only [wpE] at w
    · simp only [wpE] at w
  | .ixc a i, X, df, nm, e, G, h => by
    cases e with
    | Subscript x y p =>
      simp only [chkE, Bool.and_eq_true] at h
      exact et_of G.K (se_ixc G.K G.cs (soundE a G h.1).1 (soundE i G h.2).1 (ix_of (chk_plain h.2))) fun _ => rfl
    | _ => simp [chkE] at h
  | .fld o a, X, df, nm, e, G, h => by
    cases e with
    | Attribute x f p =>
      simp only [chkE, Bool.and_eq_true, decide_eq_true_eq] at h
      obtain ⟨⟨h1, h2⟩, h3⟩ := h
      have e := G.an a f h1
      subst e
      exact et_of G.K (se_fld G.K G.fo (soundE o G h3).1 (base_of h2)) fun _ => rfl
    | _ => simp [chkE] at h
  | .xat o k, X, df, nm, e, G, h => by
    cases e with
    | Attribute x f p =>
      simp only [chkE, Bool.and_eq_true] at h
      obtain ⟨⟨h1, h2⟩, h3⟩ := h
      cases hc : T.cur with
      | none => rw [hc] at h1; cases h1
      | some ns =>
        rw [hc] at h1
        have h1' : ns[k]? = some f := of_decide_eq_true h1
        rcases G.cur ns hc with hx | ⟨n, hx⟩
        · exact et_of G.K (se_xat hx h1' (soundE o G h3).1 (base_of h2)) fun _ => rfl
        · exact et_of G.K (se_xat0 hx (soundE o G h3).1 (base_of h2)) fun _ => rfl
    | _ => simp [chkE] at h
  | .meth o a es, X, df, nm, e, G, h => by
    cases e with
    | Call g xs kw p =>
      cases g with
      | Attribute x f ap =>
        rcases kw with _ | ⟨_, _⟩
        · have h' : (((((((T.cm = true ∧ T.mo a = true) ∧ T.an a = some f) ∧ baseB x = true) ∧ (ap.endLine == p.line) = true) ∧ xs.length < 20) ∧ chkE T N o nm x = true) ∧ chkEs T N es nm xs = true) := by
            rcases xs with _ | ⟨x, _ | ⟨y, _ | ⟨z, xs⟩⟩⟩ <;> simpa only [chkE, Bool.and_eq_true, decide_eq_true_eq] using h
          obtain ⟨⟨⟨⟨⟨⟨⟨hcm, hmo⟩, ha⟩, hb⟩, hl⟩, hn⟩, ho⟩, hs⟩ := h'
          have e := G.an a f ha
          subst e
          have hO := (soundE o G ho).1
          rcases es with _ | ⟨m1, ms⟩
          · rcases xs with _ | ⟨y, xs⟩
            · exact et_of G.K (se_meth0 (G.mt hcm a hmo) hO (base_of hb) hl) fun _ => rfl
            · simp [chkEs] at hs
          · rcases xs with _ | ⟨y, xs⟩
            · simp [chkEs] at hs
            · have hs' := hs
              rw [chkEs, Bool.and_eq_true] at hs'
              exact et_of G.K (se_meth (G.mt hcm a hmo) hO (soundEs (m1 :: ms) G hs) (base_of hb) (few_of hs hn) hl (star_of (chk_plain hs'.1)) (chkEs_star hs'.2)) fun _ => rfl
        · rcases xs with _ | ⟨x, _ | ⟨y, _ | ⟨z, xs⟩⟩⟩ <;> simp [chkE] at h
      | _ => rcases xs with _ | ⟨x, _ | ⟨y, _ | ⟨z, xs⟩⟩⟩ <;> rcases kw with _ | ⟨_, _⟩ <;> simp [chkE] at h
    | _ => simp [chkE] at h
  | .make c es, X, df, nm, e, G, h => by
    cases e with
    | Call g xs kw p =>
      cases g with
      | Name g pg =>
        rcases kw with _ | ⟨_, _⟩
        · have h' : (((T.cm = true ∧ T.cn c = some g) ∧ glB nm g = true) ∧ isNm g = true) ∧ chkEs T N es nm xs = true := by
            rcases xs with _ | ⟨x, _ | ⟨y, _ | ⟨z, xs⟩⟩⟩ <;> simpa only [chkE, Bool.and_eq_true, decide_eq_true_eq] using h
          have F := G.mkk h'.1.1.1.1 c g h'.1.1.1.2
          have hg := G.gl' h'.1.1.2
          have hn := isNm_of h'.1.2
          have hs := h'.2
          rcases es with _ | ⟨m, ms⟩
          · rcases xs with _ | ⟨x, xs⟩
            · exact et_of G.K (se_make0 F hg hn.1) fun _ => rfl
            · simp [chkEs] at hs
          · rcases xs with _ | ⟨x, xs⟩
            · simp [chkEs] at hs
            · have hs' := hs
              simp only [chkEs, Bool.and_eq_true] at hs'
              exact et_of G.K (se_make F hg hn.1 (soundEs (m :: ms) G hs) (star_of (chk_plain hs'.1)) (chkEs_star hs'.2)) fun _ => rfl
        · rcases xs with _ | ⟨x, _ | ⟨y, _ | ⟨z, xs⟩⟩⟩ <;> simp [chkE] at h
      | _ => rcases xs with _ | ⟨x, _ | ⟨y, _ | ⟨z, xs⟩⟩⟩ <;> rcases kw with _ | ⟨_, _⟩ <;> simp [chkE] at h
    | _ => simp [chkE] at h
  | .dsp ks es, X, df, nm, e, G, h => by
    cases e with
    | Dict keys xs p =>
      simp only [chkE, Bool.and_eq_true, decide_eq_true_eq] at h
      obtain ⟨⟨⟨h1, h2⟩, h3⟩, h4⟩ := h
      have hkl := keysB_len h1
      have hml := chkEs_len h4
      by_cases h0 : keys = []
      · subst h0
        have e1 : ks = [] := List.length_eq_zero_iff.mp hkl
        have e2 : xs = [] := List.length_eq_zero_iff.mp h2.symm
        subst e1 e2
        have e3 : es = [] := List.length_eq_zero_iff.mp hml
        subst e3
        exact et_of G.K se_dsp0 fun _ => rfl
      · exact et_of G.K (se_dsp (soundD es G h1 h2 h4) rfl (by omega) (keysB_some h1) h2 h0 h3 hkl) fun _ => rfl
    | _ => simp [chkE] at h
theorem soundD : ∀ (ms : List ME) {X : Cx} {df : Bool} {nm : Nm} {ks : List Key} {keys : List (Option Expr)} {es : List Expr} {pos : Pos}, Good X L C T N df nm → keysB ks keys = true → keys.length = es.length → chkEs T N ms nm es = true → PPs X pos keys es ((ks.zip ms).map fun p => (tC (kV p.1), tM X L C p.2))
  | [], X, df, nm, ks, keys, [], pos, G, h1, hl, h2 => by
    have e1 : keys = [] := List.length_eq_zero_iff.mp hl
    subst e1
    have e2 : ks = [] := List.length_eq_zero_iff.mp (keysB_len h1)
    subst e2
    exact pps_nil
  | [], X, df, nm, ks, keys, _ :: _, pos, G, h1, hl, h2 => by simp [chkEs] at h2
  | m :: ms, X, df, nm, ks, keys, [], pos, G, h1, hl, h2 => by simp [chkEs] at h2
  | m :: ms, X, df, nm, [], keys, e :: es, pos, G, h1, hl, h2 => by
    have := keysB_len h1
    simp at this hl
    omega
  | m :: ms, X, df, nm, k :: ks, [], e :: es, pos, G, h1, hl, h2 => by simp at hl
  | m :: ms, X, df, nm, k :: ks, o :: keys, e :: es, pos, G, h1, hl, h2 => by
    simp only [chkEs, Bool.and_eq_true] at h2
    obtain ⟨⟨k0, rfl, hk⟩, h3⟩ := keysB_cons h1
    simp only [List.zip_cons_cons, List.map_cons]
    exact pps_cons (hk X) (soundE m G h2.1).1 (soundD ms G h3 (by simpa using hl) h2.2)
theorem soundI : ∀ (its : List ME) {X : Cx} {df : Bool} {nm : Nm} {k : ItK} {t it : Expr}, Good X L C T N df nm → itB T N k its nm t it = true → PI X t it (tI X L C k its) ∧ plainB it = true
  | [], X, df, nm, k, t, it, G, h => by
    exfalso
    replace h := itB_spec h
    rcases h with ⟨_, h⟩ | ⟨_, _, _, _, _, _, _, h⟩ | ⟨_, _, _, _, _, _, _, _, h⟩ | ⟨_, _, _, _, _, _, _, _, _, _, _, _, h⟩ | ⟨_, _, _, _, _, _, _, _, _, _, _, h⟩ | ⟨_, _, _, _, _, _, _, h⟩ | ⟨_, _, _, _, _, _, _, _, _, _, _, _, _, _, h⟩ <;> simp [chkEs] at h
  | [m], X, df, nm, k, t, it, G, h => by
    replace h := itB_spec h
    rcases h with ⟨rfl, h⟩ | ⟨_, _, _, _, rfl, rfl, hb, h⟩ | ⟨_, _, _, _, _, _, _, _, h⟩ | ⟨_, _, _, _, _, _, _, _, _, _, _, _, h⟩ | ⟨_, _, _, _, _, _, _, rfl, rfl, rfl, hb, h⟩ | ⟨_, _, _, _, rfl, rfl, hb, h⟩ | ⟨_, _, _, _, _, _, _, _, _, _, _, _, _, _, h⟩
    · simp only [chkEs, Bool.and_eq_true] at h
      exact ⟨si_seq G.K (soundE m G h.1).1, chk_plain h.1⟩
    · simp only [chkEs, Bool.and_eq_true] at h
      have b := G.blt hb
      exact ⟨si_range b.1 b.2.1 b.2.2 (soundE m G h.1).1 (star_of (chk_plain h.1)), rfl⟩
    · simp [chkEs] at h
    · simp [chkEs] at h
    · simp only [chkEs, Bool.and_eq_true] at h
      have b := G.blt hb
      exact ⟨si_enum G.K b.1 b.2.1 b.2.2 (soundE m G h.1).1 (star_of (chk_plain h.1)), rfl⟩
    · simp only [chkEs, Bool.and_eq_true] at h
      have b := G.blt hb
      exact ⟨si_rev G.K b.1 b.2.1 b.2.2 (soundE m G h.1).1 (star_of (chk_plain h.1)), rfl⟩
    · simp [chkEs] at h
  | [m, n], X, df, nm, k, t, it, G, h => by
    replace h := itB_spec h
    rcases h with ⟨_, h⟩ | ⟨_, _, _, _, _, _, _, h⟩ | ⟨_, _, _, _, _, rfl, rfl, hb, h⟩ | ⟨_, _, _, _, pp, _, _, _, rfl, rfl, rfl, hb, h⟩ | ⟨_, _, _, _, _, _, _, _, _, _, _, h⟩ | ⟨_, _, _, _, _, _, _, h⟩ | ⟨_, _, _, _, _, _, _, _, _, _, rfl, rfl, rfl, ⟨hb, hst⟩, h⟩
    · simp [chkEs] at h
    · simp [chkEs] at h
    · simp only [chkEs, Bool.and_eq_true] at h
      have b := G.blt hb
      have s2 := star_of (env := X.env) (es := []) (chk_plain h.2.1)
      exact ⟨si_range2 b.1 b.2.1 b.2.2 (soundE m G h.1).1 (soundE n G h.2.1).1 (by rw [star_of (chk_plain h.1), s2]; rfl) s2, rfl⟩
    · have h' := h
      simp only [chkEs, Bool.and_eq_true] at h
      have b := G.blt hb
      have s2 := star_of (env := X.env) (es := []) (chk_plain h.2.1)
      rw [chkEs, Bool.and_eq_true] at h'
      exact ⟨si_zip G.K b.1 b.2.1 b.2.2 (soundE m G h.1).1 (soundE n G h.2.1).1 (star_of (chk_plain h.1)) s2 (chkEs_star h'.2), rfl⟩
    · simp [chkEs] at h
    · simp [chkEs] at h
    · simp only [chkEs, Bool.and_eq_true] at h
      have b := G.blt hb
      exact ⟨si_enums G.K b.1 hst b.2.1 b.2.2 (soundE m G h.1).1 (soundE n G h.2.1).1 (star_of (chk_plain h.1)), rfl⟩
  | _ :: _ :: _ :: _, X, df, nm, k, t, it, G, h => by
    exfalso
    replace h := itB_spec h
    rcases h with ⟨_, h⟩ | ⟨_, _, _, _, _, _, _, h⟩ | ⟨_, _, _, _, _, _, _, _, h⟩ | ⟨_, _, _, _, _, _, _, _, _, _, _, _, h⟩ | ⟨_, _, _, _, _, _, _, _, _, _, _, h⟩ | ⟨_, _, _, _, _, _, _, h⟩ | ⟨_, _, _, _, _, _, _, _, _, _, _, _, _, _, h⟩ <;> simp [chkEs] at h
theorem soundEs : ∀ (ms : List ME) {X : Cx} {df : Bool} {nm : Nm} {es : List Expr}, Good X L C T N df nm → chkEs T N ms nm es = true → PA X es (tMs X L C ms)
  | [], X, df, nm, [], G, h => sa_nil
  | [], X, df, nm, _ :: _, G, h => by simp [chkEs] at h
  | m :: ms, X, df, nm, [], G, h => by simp [chkEs] at h
  | m :: ms, X, df, nm, e :: es, G, h => by
    simp only [chkEs, Bool.and_eq_true] at h
    exact sa_cons (soundE m G h.1).1 (soundEs ms G h.2) (star_of (chk_plain h.1))
theorem soundP : ∀ (ms : List ME) {X : Cx} {df : Bool} {nm : Nm} {o : Option Expr}, Good X L C T N df nm → chkO T N ms nm o = true → PO X o (tMO X L C ms)
  | [], X, df, nm, none, G, h => so_none
  | [], X, df, nm, some _, G, h => by simp [chkO] at h
  | [m], X, df, nm, some e, G, h => by
    simp only [chkO] at h
    exact so_some (soundE m G h).1
  | [m], X, df, nm, none, G, h => by simp [chkO] at h
  | _ :: _ :: _, X, df, nm, o, G, h => by cases o <;> simp [chkO] at h
theorem soundA : ∀ (ms : List ME) {X : Cx} {df : Bool} {nm : Nm} {x : Expr} {es : List Expr} {pos : Pos}, Good X L C T N df nm → chkEs T N ms nm (x :: es) = true → PE X (.BoolOp .And (x :: es) pos) (tMB X L C true ms) ∧ PW X (.BoolOp .And (x :: es) pos) (tMTB X L C true ms)
  | [], X, df, nm, x, es, pos, G, h => by simp [chkEs] at h
  | [m], X, df, nm, x, [], pos, G, h => by
    simp only [chkEs, Bool.and_eq_true] at h
    exact ⟨bool_one (soundE m G h.1).1, boolt_and1 (soundE m G h.1).2⟩
  | [m], X, df, nm, x, y :: es, pos, G, h => by simp [chkEs] at h
  | m :: m2 :: ms, X, df, nm, x, [], pos, G, h => by simp [chkEs] at h
  | m :: m2 :: ms, X, df, nm, x, y :: es, pos, G, h => by
    rw [chkEs, Bool.and_eq_true] at h
    have ih := soundA (m2 :: ms) (pos := pos) G h.2
    exact ⟨bool_and G.K (soundE m G h.1).1 ih.1, boolt_and (soundE m G h.1).2 ih.2⟩
theorem soundO : ∀ (ms : List ME) {X : Cx} {df : Bool} {nm : Nm} {x : Expr} {es : List Expr} {pos : Pos}, Good X L C T N df nm → chkEs T N ms nm (x :: es) = true → PE X (.BoolOp .Or (x :: es) pos) (tMB X L C false ms) ∧ PW X (.BoolOp .Or (x :: es) pos) (tMTB X L C false ms)
  | [], X, df, nm, x, es, pos, G, h => by simp [chkEs] at h
  | [m], X, df, nm, x, [], pos, G, h => by
    simp only [chkEs, Bool.and_eq_true] at h
    exact ⟨bool_one (soundE m G h.1).1, boolt_or1 (soundE m G h.1).2⟩
  | [m], X, df, nm, x, y :: es, pos, G, h => by simp [chkEs] at h
  | m :: m2 :: ms, X, df, nm, x, [], pos, G, h => by simp [chkEs] at h
  | m :: m2 :: ms, X, df, nm, x, y :: es, pos, G, h => by
    rw [chkEs, Bool.and_eq_true] at h
    have ih := soundO (m2 :: ms) (pos := pos) G h.2
    exact ⟨bool_or G.K (soundE m G h.1).1 ih.1, boolt_or (soundE m G h.1).2 ih.2⟩
end
end
end PM

namespace PM
open PySem PySem.Spec PyProof.Rows L2

def noLc : Expr → Bool
  | .ListComp .. => false
  | .DictComp .. => false
  | _ => true
def isTup : Expr → Bool
  | .Tuple .. => true
  | _ => false
/-- name = [..]: whether the name is let go ahead of the store -/
def lcSwap (nm : Nm) (y : Str) (py : Pos) (scope : Scope) (p : Pos) : Bool :=
  (match nm.lookup y with | some .local => true | _ => false) && decide (py.line = p.line) && !(scope.names.any fun (n, k) => n == y && (k == .local || k == .cell))
def lcStay (nm : Nm) (y : Str) : Bool := match nm.lookup y with
  | some .cell => true | _ => false
def asgB (nm : Nm) (t x : Expr) : Bool := match x, t with
  | .ListComp _ [⟨_, _, _, _⟩] scope p, .Name y py => lcSwap nm y py scope p || lcStay nm y
  | .ListComp .., _ => false
  | .DictComp .., _ => false
  | .Tuple .., .Tuple ts _ _ => decide (4 ≤ ts.length)
  | x, .Tuple .. => !isTup x
  | _, .Name .. => true
  | _, _ => false
/-- x, y = a, b: what the stores do at their turns -/
def parB (nm : Nm) (x y : Str) (px py : Pos) (a b : Expr) : Bool := (match nm.lookup x with | some .local => true | _ => false) && (match nm.lookup y with | some .local => true | _ => false) && (px.line == py.line) && !(x == y) && !([a, b].all (foldedForSure 8)) && !([a, b].all (constantsAlone 8))
theorem lookB {nm : Nm} {x : Str} (h : (match nm.lookup x with | some .local => true | _ => false) = true) : nm.lookup x = some .local := by
  split at h
  · assumption
  · cases h
theorem par_sw0 {env : Env} {x y : Str} {px py pt pt2 : Pos} {kt k2 : Nat} {a b : Expr} (l1 : env.kindOf x = some .local) (l2 : env.kindOf y = some .local) (hb : env.blockKind = .function) (h3 : px.line = py.line) (h4 : ¬ x = y)
   (pa : plainB a = true) (pb : plainB b = true) (h5 : ([a, b].all (foldedForSure 8)) = false) (h6 : ([a, b].all (constantsAlone 8)) = false) :
    swappedStores [.Tuple [.Name x px, .Name y py] kt pt] (.Tuple [a, b] k2 pt2) env = pure (some [x, y]) := by
  have hd : ([x, y] : List Str).eraseDups = [x, y] := by
    have hxy : (y == x) = false := beq_eq_false_iff_ne.mpr (fun z => h4 z.symm)
    simp [List.eraseDups_cons, hxy]
  have e1 : (env.kindOf x == some NameKind.local && py.line == py.line) = true := by rw [l1]; simp
  have e2 : (env.kindOf y == some NameKind.local && py.line == py.line) = true := by rw [l2]; simp
  unfold swappedStores
  simp only [hb, List.length_cons, List.length_nil, h5, h6, List.head?_cons, Option.map_some, Option.getD_some, Expr.pos, List.filterMap_cons, List.filterMap_nil, h3, e1, e2, if_true, hd]
  rw [if_neg (by decide)]
  split
  · rename_i h
    exfalso
    revert h
    simp only [List.any_cons, List.any_nil, Bool.or_false]
    cases a <;> cases b <;> first | (intro h; cases h; done) | (simp [plainB] at pa; done) | (simp [plainB] at pb; done)
  · rfl
theorem par_sw {env : Env} {nm : Nm} {x y : Str} {px py pt pt2 : Pos} {kt k2 : Nat} {a b : Expr} (hn : env.scope.names = nm) (hk : env.scope.kind = .function) (pa : plainB a = true) (pb : plainB b = true) (h : parB nm x y px py a b = true) :
    swappedStores [.Tuple [.Name x px, .Name y py] kt pt] (.Tuple [a, b] k2 pt2) env = pure (some [x, y]) := by
  unfold parB at h
  simp only [Bool.and_eq_true, beq_iff_eq, Bool.not_eq_true', beq_eq_false_iff_ne, ne_eq] at h
  obtain ⟨⟨⟨⟨⟨h1, h2⟩, h3⟩, h4⟩, h5⟩, h6⟩ := h
  have l1 : env.kindOf x = some .local := by
    show env.scope.names.lookup x = _
    rw [hn]; exact lookB h1
  have l2 : env.kindOf y = some .local := by
    show env.scope.names.lookup y = _
    rw [hn]; exact lookB h2
  have hb : env.blockKind = .function := by
    unfold Env.blockKind
    rw [hk]
    rfl
  exact par_sw0 l1 l2 hb h3 h4 pa pb h5 h6
def Tg.isNm : Tg → Bool
  | .nm _ => true
  | _ => false
def slotB (N : List Str) (nm : Nm) : Option Nat → Option Str → Bool
  | none, none => true
  | some i, some n => decide (N[i]? = some n) && (match nm.lookup n with | some .local => true | _ => false)
  | _, _ => false
def curOf (i : Option Nat) (ns : List Str) : Option (List Str) := match i with
  | some _ => if ns = [] then none else some ns
  | none => none
/-- one except clause: the class, the name, the suite -/
def oneH : List ExceptHandler → Option (Str × Option Str × List Stmt)
  | [.ExceptHandler (some (.Name g _)) n (y :: ys) _] => some (g, n, y :: ys)
  | _ => none
def sufX : Stmt → Option (Option Str × Str × Str × Str)
  | .Return (some (.Call (.Name f _) [.Name m _, .Name g2 _] [] _)) _ => some (none, f, m, g2)
  | .Return (some (.Tuple [.Constant (.str z) _ _, .Call (.Name f _) [.Name m _, .Name g2 _] [] _] _ _)) _ => some (some z, f, m, g2)
  | _ => none
def oneX : List ExceptHandler → Option (Str × Str × Stmt)
  | [.ExceptHandler (some (.Name g _)) (some n) [s] _] => some (g, n, s)
  | _ => none
theorem oneX_inv {hs : List ExceptHandler} {g n : Str} {s : Stmt} (h : oneX hs = some (g, n, s)) : ∃ p1 p7, hs = [.ExceptHandler (some (.Name g p1)) (some n) [s] p7] := by
  unfold oneX at h
  split at h
  · cases h
    exact ⟨_, _, rfl⟩
  · cases h
theorem sufX_inv {s : Stmt} {pre : Option Str} {f m g2 : Str} (h : sufX s = some (pre, f, m, g2)) : (∃ p2 p3 p4 p5 p6, pre = none ∧ s = .Return (some (.Call (.Name f p2) [.Name m p3, .Name g2 p4] [] p5)) p6) ∨
    ∃ z j p1 p2 p3 p4 p5 k p7 p6, pre = some z ∧ s = .Return (some (.Tuple [.Constant (.str z) j p1, .Call (.Name f p2) [.Name m p3, .Name g2 p4] [] p5] k p7)) p6 := by
  unfold sufX at h
  split at h
  · cases h
    exact .inl ⟨_, _, _, _, _, rfl, rfl⟩
  · cases h
    exact .inr ⟨_, _, _, _, _, _, _, _, _, _, rfl, rfl⟩
  · cases h
def twoH : List ExceptHandler → Option (Str × List Stmt × Str × List Stmt)
  | [.ExceptHandler (some (.Name g _)) none (y :: ys) _, .ExceptHandler (some (.Name h _)) none (z :: zs) _] => some (g, y :: ys, h, z :: zs)
  | _ => none
theorem oneH_inv {hs : List ExceptHandler} {g : Str} {n : Option Str} {su : List Stmt} (h : oneH hs = some (g, n, su)) : ∃ p y ys hp, su = y :: ys ∧ hs = [.ExceptHandler (some (.Name g p)) n (y :: ys) hp] := by
  unfold oneH at h
  split at h
  · cases h
    exact ⟨_, _, _, _, rfl, rfl⟩
  · cases h
theorem twoH_inv {hs : List ExceptHandler} {g g2 : Str} {su su2 : List Stmt} (h : twoH hs = some (g, su, g2, su2)) : ∃ p y ys hp p2 z zs hp2, su = y :: ys ∧ su2 = z :: zs ∧ hs = [.ExceptHandler (some (.Name g p)) none (y :: ys) hp, .ExceptHandler (some (.Name g2 p2)) none (z :: zs) hp2] := by
  unfold twoH at h
  split at h
  · cases h
    exact ⟨_, _, _, _, _, _, _, _, rfl, rfl, rfl⟩
  · cases h
def parX : Stmt → Option (Str × Pos × Str × Pos × Expr × Expr)
  | .Assign [.Tuple [.Name x px, .Name y py] _ _] (.Tuple [a, b] _ _) _ => some (x, px, y, py, a, b)
  | _ => none
theorem parX_inv {s : Stmt} {x y : Str} {px py : Pos} {a b : Expr} (h : parX s = some (x, px, y, py, a, b)) : ∃ k pt k2 pt2 p, s = .Assign [.Tuple [.Name x px, .Name y py] k pt] (.Tuple [a, b] k2 pt2) p := by
  unfold parX at h
  split at h
  · cases h
    exact ⟨_, _, _, _, _, rfl⟩
  · cases h
/-- rows = enumerate(xs, start=k), return [.. for .. in rows] -/
def enrB (N : List Str) (df : Bool) (nm : Nm) (T : Tb) : MS → List MS → Stmt → List Stmt → Bool
  | .enr i its own tg elt, [], .Assign [.Name y _] (.Call (.Name g _) [a] [⟨some st, b, _⟩] _) _, [.Return (some (.ListComp e [⟨t, .Name y2 _, [], z⟩] scope _)) _] =>
    (T.cm && T.cur.isNone) && (bltB T nm g "enumerate" && decide (st = "start")) && chkEs T N its nm [a, b] && (decide (N[i]? = some y) && locB df nm y) && (decide (y2 = y) && visB nm y && isNm y) && decide (z = 0) && kindF scope.kind && blkC N ⟨.function, nm, false, false, []⟩ scope (ownOf N own) && tg.slots.all own.contains && tgB N false (innerNm nm scope) tg t &&
      isTup t && chkE T N elt (innerNm nm scope) e
  | _, _, _, _ => false
mutual
def chkS (N : List Str) (df : Bool) (nm : Nm) : Tb → MS → Stmt → Bool
  | T, .asg tg m, .Assign [t] x _ => tgB N df nm tg t && chkE T N m nm x && asgB nm t x && (T.cm || tg.isNm)
  | T, .sub o i m, .Assign [.Subscript x y _] z _ => chkE T N o nm x && chkE T N i nm y && chkE T N m nm z
  | T, .ex m, .Expr x _ => chkE T N m nm x && noLc x
  | T, .ret m, .Return (some x) _ => chkE T N m nm x
  | T, .retN, .Return none _ => true
  | T, .ite c a b, .If t x y _ => chkE T N c nm t && chkSs N df nm T a x && chkSs N df nm T b y
  | T, .whl c b, .While t x [] _ => T.cm && chkE T N c nm t && chkSs N df nm T b x
  | T, .fr tg k its b, .For t it x [] _ => T.cm && tgB N df nm tg t && itB T N k its nm t it && chkSs N df nm T b x
  | T, .brk, .Break _ => true
  | T, .cnt, .Continue _ => true
  | T, .pass, .Pass _ => true
  | T, .fset o a m, .Assign [.Attribute x f _] z _ => decide (T.an a = some f) && chkE T N o nm x && chkE T N m nm z
  | T, .faug op o a m, .AugAssign (.Attribute x f _) op' z _ => decide (op' = op.py) && decide (T.an a = some f) && chkE T N o nm x && chkE T N m nm z
  | T, .rs c es, .Raise (some (.Call (.Name g _) xs [] _)) none _ => T.cm && df && (match T.xn c with
    | some (x, ns) => decide (x = g) && decide (xs.length = ns.length)
    | none => false) && glB nm g && isNm g && chkEs T N es nm xs
  | T, .tr b c i s, .Try x hs el fi _ => (el.isEmpty && fi.isEmpty) && (match oneH hs with
    | some (g, n, su) => T.cm && T.cur.isNone && df && glB nm g && isNm g && slotB N nm i n && chkSs N df nm T b x && (match T.xn c with
      | some (g', ns) => decide (g' = g) && chkSs N df nm { T with cm := false, cur := curOf i ns } s su
      | none => false)
    | none => false)
  | T, .trx b c i c2 pre, .Try x hs el fi _ => (el.isEmpty && fi.isEmpty) && (match oneX hs with
    | some (g, n, s) => (match sufX s with
      | some (pre', f, m, g2) => decide (pre' = pre) && T.cm && T.cur.isNone && df && glB nm g && isNm g && slotB N nm (some i) (some n) && decide (m = n) && isNm n && visB nm n && bltB T nm f "isinstance" && glB nm g2 && isNm g2 && T.xi.contains c2 && chkSs N df nm T b x && (match T.xn c with
        | some (g', _) => decide (g' = g)
        | none => false) && (match T.xn c2 with
        | some (g', _) => decide (g' = g2)
        | none => false)
      | none => false)
    | none => false)
  | T, .tr2 b c1 s1 c2 s2, .Try x hs el fi _ => (el.isEmpty && fi.isEmpty) && (match twoH hs with
    | some (g, su, h, su2) => T.cm && T.cur.isNone && df && glB nm g && isNm g && glB nm h && isNm h && chkSs N df nm T b x &&
      (match T.xn c1 with
      | some (g', _) => decide (g' = g)
      | none => false) && (match T.xn c2 with
      | some (g', _) => decide (g' = h)
      | none => false) && chkSs N df nm { T with cm := false, cur := none } s1 su && chkSs N df nm { T with cm := false, cur := none } s2 su2
    | none => false)
  | T, .par i j es, s => (match parX s with
    | some (x, px, y, py, a, b) => T.cm && decide (N[i]? = some x) && decide (N[j]? = some y) && decide (i ≠ j) && parB nm x y px py a b && chkEs T N es nm [a, b]
    | none => false)
  | _, .bad, _ => true
  | _, _, _ => false
def chkSs (N : List Str) (df : Bool) (nm : Nm) : Tb → List MS → List Stmt → Bool
  | T, [], [] => true
  | T, m :: ms, s :: ss => (chkS N df nm T m s && chkSs N df nm T ms ss) || enrB N df nm T m ms s ss
  | _, _, _ => false
end
section
variable {L : Lk} {C : Cenv} {T : Tb} {N : List Str}
theorem swap_no {X : Cx} {x : Expr} {t : Option Expr} {n : Nat} (hp : plainB x = true) (h : noLc x = true) : swapsWith x t n X.env = pure false := by
  cases x <;> first | rfl | (simp [plainB] at hp; done) | (simp [noLc] at h; done)
theorem swap_yes {X : Cx} {df : Bool} {nm : Nm} (G : Good X L C T N df nm) {elt : Expr} {gs : List Comprehension} {scope : Scope} {p py : Pos} {y : Str} {n : Nat} (h : lcSwap nm y py scope p = true) : swapsWith (.ListComp elt gs scope p) (some (.Name y py)) n X.env = pure true := by
  unfold lcSwap at h
  simp only [Bool.and_eq_true, decide_eq_true_eq] at h
  obtain ⟨⟨h1, h2⟩, h3⟩ := h
  have hk : X.env.kindOf y = some .local := by
    show X.env.scope.names.lookup y = _
    rw [G.nm]
    split at h1
    · assumption
    · cases h1
  have hb : X.env.blockKind = .function := by
    unfold Env.blockKind
    rw [G.kd]
    rfl
  show (pure (X.env.blockKind == .function && X.env.kindOf y == some .local && py.line == (Expr.ListComp elt gs scope p).pos.line && !(scope.names.any fun (n, k) => n == y && (k == .local || k == .cell))) : Sem Bool) = pure true
  rw [hb, hk, h3, show (Expr.ListComp elt gs scope p).pos = p from rfl, h2]
  simp
theorem swap_stay {X : Cx} {df : Bool} {nm : Nm} (G : Good X L C T N df nm) {elt : Expr} {gs : List Comprehension} {scope : Scope} {p py : Pos} {y : Str} {n : Nat} (h : lcStay nm y = true) : swapsWith (.ListComp elt gs scope p) (some (.Name y py)) n X.env = pure false := by
  unfold lcStay at h
  have hk : X.env.kindOf y = some .cell := by
    show X.env.scope.names.lookup y = _
    rw [G.nm]
    split at h
    · assumption
    · cases h
  show (pure (X.env.blockKind == .function && X.env.kindOf y == some .local && py.line == (Expr.ListComp elt gs scope p).pos.line && !(scope.names.any fun (n, k) => n == y && (k == .local || k == .cell))) : Sem Bool) = pure false
  rw [hk, show ((some NameKind.cell == some NameKind.local) = false) from rfl]
  simp
theorem asg_sound {X : Cx} {df : Bool} {nm : Nm} {t x : Expr} {tg : Tg} {m : ME} {pos : Pos} (G : Good X L C T N df nm) (h0 : (T.cm || tg.isNm) = true) (h1 : tgB N df nm tg t = true) (h2 : chkE T N m nm x = true) (h3 : asgB nm t x = true) : PS X (.Assign [t] x pos) (tMS X L C (.asg tg m)) := by
  have hpg := tg_ok (L := L) G (fun is e => by subst e; simpa [Tg.isNm] using h0) h1
  have he := (soundE (L := L) (C := C) m G h2).1
  have hpl := chk_plain h2
  have h1' : (assignEach [t] X.env).map (·.2) = [assign t X.env] := by
    cases t <;> first | rfl | (cases tg <;> simp [tgB] at h1; done)
  by_cases hl : noLc x = true
  · refine s_asg (gOf_ok tg) he hpg (swap_no hpl hl) ?_ h1'
    cases t with
    | Tuple es k p =>
      cases x with
      | Tuple vs k2 p2 =>
        have hlen : 4 ≤ es.length := by simpa [asgB] using h3
        unfold swappedStores
        have hc : (!(es.length == 2 || es.length == 3)) = true := by
          have h2 : (es.length == 2) = false := beq_eq_false_iff_ne.mpr (by omega)
          have h3 : (es.length == 3) = false := beq_eq_false_iff_ne.mpr (by omega)
          rw [h2, h3]; rfl
        simp only [hc, Bool.true_or, if_true]
      | _ => first | rfl | (simp [noLc] at hl; done)
    | Name y p => rfl
    | _ => cases tg <;> simp [tgB] at h1
  · cases x with
    | ListComp elt gs scope p =>
      rcases gs with _ | ⟨⟨t2, it, cs, z⟩, _ | ⟨g2, gs⟩⟩ <;> try (simp [asgB] at h3; done)
      cases t with
      | Name y py =>
        simp only [asgB, Bool.or_eq_true] at h3
        rcases h3 with h3 | h3
        · -- the name is let go ahead of the store
          cases tg with
          | tp is => simp [tgB] at h1
          | nm j =>
            simp only [tgB, Bool.and_eq_true, decide_eq_true_eq] at h1
            cases m with
            | lc k its own tg ifs elt' =>
              simp only [chkE, Bool.and_eq_true, decide_eq_true_eq] at h2
              obtain ⟨⟨⟨⟨⟨⟨⟨⟨⟨hcm, hcu⟩, rfl⟩, a1⟩, a2⟩, a3⟩, a4⟩, a5⟩, a6⟩, a7⟩ := h2
              have hcur : T.cur = none := by simpa using hcu
              have hk := kind_of a2
              have ob := blk_ok (sc := X.env.scope) G.nm a3
              have own' : (ownOf N own).map (·.2) = own := ownOf_map N own
              have hin : PI X t2 it (tI X L C k its) ∧ plainB it = true := soundI its (t := t2) G a1
              have hown : ∀ i ∈ tg.slots, i ∈ (ownOf N own).map (·.2) := fun i hi => by
                rw [own']
                have := List.all_eq_true.mp a4 i hi
                simpa using this
              have hyl : X.env.scope.names.lookup y = some .local := by
                rw [G.nm]
                unfold lcSwap at h3
                simp only [Bool.and_eq_true] at h3
                have h4 := h3.1.1
                split at h4
                · assumption
                · cases h4
              have main := s_asgLc (X := X) (L := L) (C := C) (pos := p) (spos := pos) (py := py) (melt := elt') (ifs' := ifs) (elt := elt) (ifs := cs) (scope := scope) (j := j) (G.calm hcm) (by rw [G.hN]; exact G.nd) (by rw [G.hN]; exact h1.1) hyl (swap_yes G h3) (gOf_ok (K := L.K) tg) hown hin.1 (by rw [G.hN]; exact ob)
                (fun s H Cc cl fp => tg_ok (G.blk hcur hk s H Cc cl fp) (fun _ _ => hcm) a5)
                (fun s H Cc cl fp => by
                  rcases cs with _ | ⟨c, _ | ⟨c2, cs⟩⟩
                  · have e0 : ifs = [] := by simpa using a6
                    rw [e0]
                    exact sts_nil
                  · rcases ifs with _ | ⟨i, _ | ⟨i2, ifs⟩⟩
                    · simp [chkEs] at a6
                    · simp only [chkEs, Bool.and_eq_true] at a6
                      exact sts_one (soundE i (G.blk hcur hk s H Cc cl fp) a6.1).2
                    · simp [chkEs] at a6
                  · simp at a6)
                (fun s H Cc cl fp => (soundE elt' (G.blk hcur hk s H Cc cl fp) a7).1) (fold_of hin.2)
              rw [own'] at main
              exact main
            | bool k es => cases k <;> simp [chkE] at h2
            | _ => simp [chkE, badB] at h2
        · exact s_asg (gOf_ok tg) he hpg (swap_stay (n := pos.line) G h3) rfl h1'
      | _ => simp [asgB] at h3
    | DictComp kx vx gs scope p => cases t <;> simp [asgB] at h3
    | _ => simp [noLc] at hl
theorem swap_attr {X : Cx} {x o : Expr} {f : Str} {p : Pos} {n : Nat} (hp : plainB x = true) : swapsWith x (some (.Attribute o f p)) n X.env = pure false := by
  cases x <;> first | rfl | (simp [plainB] at hp; done)
end
section
variable {N : List Str}
theorem enr_sound {L : Lk} {C : Cenv} {T : Tb} {X : Cx} {df : Bool} {nm : Nm} {m : MS} {ms : List MS} {s : Stmt} {ss : List Stmt} (G : Good X L C T N df nm) (h : enrB N df nm T m ms s ss = true) : PSs X (s :: ss) (tMSs X L C (m :: ms)) := by
  unfold enrB at h
  split at h
  · rename_i i its own tg elt y py g pg a st b kp pc pa e t y2 py2 z scope p3 p4
    simp only [Bool.and_eq_true, decide_eq_true_eq] at h
    obtain ⟨⟨⟨⟨⟨⟨⟨⟨⟨⟨⟨⟨hcm, hcu⟩, hb, hst⟩, hs⟩, hy1, hy2⟩, ⟨hy3, hy4⟩, hy5⟩, rfl⟩, h1⟩, h2⟩, h3⟩, h4⟩, h5⟩, h6⟩ := h
    have hcur : T.cur = none := by simpa using hcu
    have hk := kind_of h1
    have ob := blk_ok (sc := X.env.scope) G.nm h2
    have own' : (ownOf N own).map (·.2) = own := ownOf_map N own
    have b1 := G.blt hb
    rcases its with _ | ⟨m1, _ | ⟨m2, _ | ⟨m3, its⟩⟩⟩ <;> try (simp [chkEs] at hs; done)
    simp only [chkEs, Bool.and_eq_true] at hs
    subst hy3
    have hn := isNm_of hy5
    have hl := G.loc hy2
    have hown : ∀ i ∈ tg.slots, i ∈ (ownOf N own).map (·.2) := fun i hi => by
      rw [own']
      have := List.all_eq_true.mp h3 i hi
      simpa using this
    cases t with
    | Tuple els kk pt =>
      have main := ss_enr (X := X) (L := L) (C := C) (pos3 := p3) (pos4 := p4) (pos2 := pa) (pos := pc) (p := pg) (kp := kp) (py := py) (py2 := py2) (tpos := pt) (melt := elt) (elt := e) (scope := scope) G.K b1.1 hst b1.2.1 b1.2.2 (soundE m1 G hs.1).1 (soundE m2 G hs.2.1).1 (star_of (chk_plain hs.1)) (G.calm hcm) (by rw [G.hN]; exact G.nd)
        (pg_name (by rw [G.hN]; exact G.nd) (by rw [G.hN]; exact hy1) hl.1 hl.2) (pe_var (by rw [G.hN]; exact hy1) (G.vis hy4) hn.1 hn.2) (gOf_ok (K := L.K) tg) hown (by rw [G.hN]; exact ob)
        (fun s H Cc cl fp => tg_ok (G.blk hcur hk s H Cc cl fp) (fun _ _ => hcm) h4)
        (fun s H Cc cl fp => (soundE elt (G.blk hcur hk s H Cc cl fp) h6).1)
      rw [own'] at main
      exact main
    | _ => simp [isTup] at h5
  · cases h
set_option maxHeartbeats 1000000 in
mutual
theorem soundS : ∀ (m : MS) {L : Lk} {C : Cenv} {T : Tb} {X : Cx} {df : Bool} {nm : Nm} {st : Stmt}, Good X L C T N df nm → chkS N df nm T m st = true → PS X st (tMS X L C m)
  | .asg tg m, L, C, T, X, df, nm, st, G, h => by
    cases st with
    | Assign ts x p =>
      rcases ts with _ | ⟨t, _ | ⟨t2, ts⟩⟩ <;> try (simp [chkS] at h; done)
      simp only [chkS, Bool.and_eq_true] at h
      exact asg_sound G h.2 h.1.1.1 h.1.1.2 h.1.2
    | _ => simp [chkS] at h
  | .sub o i m, L, C, T, X, df, nm, st, G, h => by
    cases st with
    | Assign ts z p =>
      rcases ts with _ | ⟨t, _ | ⟨t2, ts⟩⟩
      · exact absurd (show false = true from h) (by decide)
      rotate_left
      · cases t <;> exact absurd (show false = true from h) (by decide)
      cases t with
      | Subscript x y ps =>
        simp only [chkS, Bool.and_eq_true] at h
        obtain ⟨⟨h1, h2⟩, h3⟩ := h
        have hy := chk_plain h2
        have hz := chk_plain h3
        refine s_sub G.A (soundE m G h3).1 (soundE o G h1).1 (soundE i G h2).1 ?_ rfl (fun v => ?_)
        · cases z <;> first | rfl | (simp [plainB] at hz; done)
        · cases y <;> first | rfl | (simp [plainB] at hy; done)
      | _ => simp [chkS] at h
    | _ => simp [chkS] at h
  | .ex m, L, C, T, X, df, nm, st, G, h => by
    cases st with
    | Expr x p =>
      simp only [chkS, Bool.and_eq_true] at h
      exact s_ex (soundE m G h.1).1 (swap_no (chk_plain h.1) h.2)
    | _ => simp [chkS] at h
  | .ret m, L, C, T, X, df, nm, st, G, h => by
    cases st with
    | Return o p =>
      cases o with
      | some x =>
        simp only [chkS] at h
        exact s_ret (soundE m G h).1
      | none => simp [chkS] at h
    | _ => simp [chkS] at h
  | .retN, L, C, T, X, df, nm, st, G, h => by
    cases st with
    | Return o p =>
      cases o with
      | some x => simp [chkS] at h
      | none => exact s_retN
    | _ => simp [chkS] at h
  | .ite c a b, L, C, T, X, df, nm, st, G, h => by
    cases st with
    | If t x y p =>
      simp only [chkS, Bool.and_eq_true] at h
      exact s_ite (soundE c G h.1.1).2 (soundSs a G h.1.2) (soundSs b G h.2)
    | _ => simp [chkS] at h
  | .whl c b, L, C, T, X, df, nm, st, G, h => by
    cases st with
    | While t x y p =>
      rcases y with _ | ⟨_, _⟩
      · simp only [chkS, Bool.and_eq_true] at h
        exact s_whl (G.pass h.1.1) (soundE c G h.1.2).2 (soundSs b G h.2)
      · simp [chkS] at h
    | _ => simp [chkS] at h
  | .fr tg k its b, L, C, T, X, df, nm, st, G, h => by
    cases st with
    | For t it x y p =>
      rcases y with _ | ⟨_, _⟩
      · simp only [chkS, Bool.and_eq_true] at h
        have hi := soundI (L := L) (C := C) its (t := t) G h.1.2
        exact s_for (G.pass h.1.1.1) (G.calm h.1.1.1) (gOf_ok tg) hi.1 (tg_ok G (fun _ _ => h.1.1.1) h.1.1.2) (soundSs b G h.2) (fold_of hi.2)
      · simp [chkS] at h
    | _ => simp [chkS] at h
  | .par i j es, L, C, T, X, df, nm, st, G, h => by
    simp only [chkS] at h
    split at h
    · rename_i x px y py a b e
      obtain ⟨k, pt, k2, pt2, p, rfl⟩ := parX_inv e
      simp only [Bool.and_eq_true, decide_eq_true_eq] at h
      obtain ⟨⟨⟨⟨⟨hc, h1⟩, h2⟩, h3⟩, h4⟩, h5⟩ := h
      have h5' := h5
      rcases es with _ | ⟨m1, _ | ⟨m2, _ | ⟨m3, es⟩⟩⟩ <;> try (simp [chkEs] at h5'; done)
      simp only [chkEs, Bool.and_eq_true] at h5'
      have hp := h4
      unfold parB at hp
      simp only [Bool.and_eq_true] at hp
      exact s_par (G.calm hc) (by rw [G.hN]; exact G.nd) (by rw [G.hN]; exact h1) (by rw [G.hN]; exact h2) h3 (by rw [G.nm]; exact lookB hp.1.1.1.1.1) (by rw [G.nm]; exact lookB hp.1.1.1.1.2) (soundEs _ G h5)
        (par_sw G.nm G.kd (chk_plain h5'.1) (chk_plain h5'.2.1) h4)
    · cases h
  | .enr i its own tg elt, L, C, T, X, df, nm, st, G, h => by simp [chkS] at h
  | .bad, L, C, T, X, df, nm, st, G, h => ⟨fun pins s σ H D I ⟨ι, ρ, S, D', hρ, R, w, tk, d⟩ => by
    simp only [wpS] at w⟩
  | .brk, L, C, T, X, df, nm, st, G, h => by
    cases st with
    | Break p => exact s_brk
    | _ => simp [chkS] at h
  | .cnt, L, C, T, X, df, nm, st, G, h => by
    cases st with
    | Continue p => exact s_cnt
    | _ => simp [chkS] at h
  | .pass, L, C, T, X, df, nm, st, G, h => by
    cases st with
    | Pass p => exact s_pass
    | _ => simp [chkS] at h
  | .fset o a m, L, C, T, X, df, nm, st, G, h => by
    cases st with
    | Assign ts z p =>
      rcases ts with _ | ⟨t, _ | ⟨t2, ts⟩⟩
      · exact absurd (show false = true from h) (by decide)
      rotate_left
      · cases t <;> exact absurd (show false = true from h) (by decide)
      cases t with
      | Attribute x f ps =>
        simp only [chkS, Bool.and_eq_true, decide_eq_true_eq] at h
        obtain ⟨⟨h1, h2⟩, h3⟩ := h
        have e := G.an a f h1
        subst e
        exact s_fset G.fo (soundE o G h2).1 (soundE m G h3).1 (swap_attr (chk_plain h3))
      | _ => simp [chkS] at h
    | _ => simp [chkS] at h
  | .faug op o a m, L, C, T, X, df, nm, st, G, h => by
    cases st with
    | AugAssign t op' z p =>
      cases t with
      | Attribute x f ps =>
        simp only [chkS, Bool.and_eq_true, decide_eq_true_eq] at h
        obtain ⟨⟨⟨rfl, h1⟩, h2⟩, h3⟩ := h
        have e := G.an a f h1
        subst e
        exact s_faug G.fo (soundE o G h2).1 (soundE m G h3).1
      | _ => simp [chkS] at h
    | _ => simp [chkS] at h
  | .rs c es, L, C, T, X, df, nm, st, G, h => by
    cases st with
    | Raise x fr p =>
      rcases x with _ | x
      · simp [chkS] at h
      · cases x with
        | Call g xs kw pc =>
          cases g with
          | Name g pg =>
            rcases kw with _ | ⟨_, _⟩
            · rcases fr with _ | fr
              · simp only [chkS, Bool.and_eq_true] at h
                obtain ⟨⟨⟨⟨⟨h1, h2⟩, h3⟩, h4⟩, h5⟩, h6⟩ := h
                cases hx : T.xn c with
                | none => rw [hx] at h3; cases h3
                | some q =>
                  obtain ⟨x', ns⟩ := q
                  rw [hx] at h3
                  simp only [Bool.and_eq_true, decide_eq_true_eq] at h3
                  obtain ⟨rfl, hl⟩ := h3
                  have hR := G.rs h2 h1 c x' ns hx X.pn X.xe
                  obtain ⟨mk, _, m2, _⟩ := G.xm c x' ns hx
                  refine s_rs mk (G.calm h1) (show RsOk X L c x' from hR) (G.gl' h4) (soundEs es G h6) (by rw [m2]; exact hl) (chkEs_len h6) (fun e r er => ?_)
                  subst er
                  rcases es with _ | ⟨m1, ms⟩
                  · simp [chkEs] at h6
                  · simp only [chkEs, Bool.and_eq_true] at h6
                    exact ⟨star_of (chk_plain h6.1), chkEs_star h6.2⟩
              · simp [chkS] at h
            · simp [chkS] at h
          | _ => simp [chkS] at h
        | _ => simp [chkS] at h
    | _ => simp [chkS] at h
  | .tr b c i s, L, C, T, X, df, nm, st, G, h => by
    cases st with
    | Try x hs el fi p =>
      simp only [chkS, Bool.and_eq_true, List.isEmpty_iff] at h
      obtain ⟨⟨rfl, rfl⟩, h⟩ := h
      cases ho : oneH hs with
      | none => rw [ho] at h; cases h
      | some q =>
        obtain ⟨g, n, su⟩ := q
        rw [ho] at h
        obtain ⟨gp, y, ys, hp, rfl, rfl⟩ := oneH_inv ho
        simp only [Bool.and_eq_true] at h
        obtain ⟨⟨⟨⟨⟨⟨⟨h1, h2⟩, h3⟩, h4⟩, h5⟩, h6⟩, h7⟩, h8⟩ := h
        have hcur : T.cur = none := by simpa using h2
        cases hx : T.xn c with
        | none => rw [hx] at h8; cases h8
        | some q =>
          obtain ⟨g', ns⟩ := q
          rw [hx] at h8
          simp only [Bool.and_eq_true, decide_eq_true_eq] at h8
          obtain ⟨rfl, h8⟩ := h8
          obtain ⟨_, m1, m2, m3⟩ := G.xm c g' ns hx
          have hN : Names X g' (L.xc c) := ⟨G.gl' h4, (isNm_of h5).1, .inl m1⟩
          have hbody := fun (pn : List (Addr × Obj)) (xe : Value → Shared → Prop) (hp : PassesOwn (model X.prog X.w) X.A X.env xe) => soundSs b (G.tr hcur (pn := pn) hp) h7
          obtain ⟨f1, f2⟩ := G.fr h3
          rcases i with _ | i
          · rcases n with _ | n
            · refine s_tr f1 f2 (G.nh h1) hN (fun c' b k e => G.sb c' c b _ k hx e) hbody (fun a oe cls d pn c' vs n h hz hfl ec ho ⟨H0, sf⟩ => ?_)
              exact soundSs s (G.sui hz hfl ec sf (cu := none) (fun ns e => nomatch e)) h8
            · simp [slotB] at h6
          · rcases n with _ | n
            · simp [slotB] at h6
            · simp only [slotB, Bool.and_eq_true, decide_eq_true_eq] at h6
              obtain ⟨s1, s2⟩ := h6
              have hl : X.env.kindOf n = some .local := by
                show X.env.scope.names.lookup n = _
                rw [G.nm]
                split at s2
                · assumption
                · cases s2
              refine s_trI f1 f2 (G.nh h1) (by rw [G.hN]; exact G.nd) (by rw [G.hN]; exact s1) hl hN (fun c' b k e => G.sb c' c b _ k hx e) hbody (fun a oe cls d pn c' vs n h hz hfl ec ho ⟨H0, sf⟩ => ?_)
              have ho' : c' = c := ho
              subst ho'
              refine soundSs s (G.sui hz hfl ec sf (cu := curOf (some i) ns) (fun ns' e => ?_)) h8
              unfold curOf at e
              by_cases hns : ns = []
              · simp [hns] at e
              · simp only [if_neg hns, Option.some.injEq] at e
                subst e
                exact ⟨hns, g', hx⟩
    | _ => simp [chkS] at h
  | .trx b c i c2 pre, L, C, T, X, df, nm, st, G, h => by
    cases st with
    | Try x hs el fi p =>
      simp only [chkS, Bool.and_eq_true, List.isEmpty_iff] at h
      obtain ⟨⟨rfl, rfl⟩, h⟩ := h
      cases ho : oneX hs with
      | none => rw [ho] at h; cases h
      | some q =>
        obtain ⟨g, n, s0⟩ := q
        rw [ho] at h
        obtain ⟨p1, p7, rfl⟩ := oneX_inv ho
        dsimp only at h
        cases hsf : sufX s0 with
        | none => rw [hsf] at h; cases h
        | some q =>
        obtain ⟨pre', f, m, g2⟩ := q
        rw [hsf] at h
        simp only [Bool.and_eq_true, decide_eq_true_eq] at h
        obtain ⟨⟨⟨⟨⟨⟨⟨⟨⟨⟨⟨⟨⟨⟨⟨⟨rfl, h1⟩, h2⟩, h3⟩, h4⟩, h5⟩, h6⟩, rfl⟩, h7⟩, h8⟩, h9⟩, h10⟩, h11⟩, h12⟩, h13⟩, h14⟩, h15⟩ := h
        have hcur : T.cur = none := by simpa using h2
        cases hx : T.xn c with
        | none => rw [hx] at h14; cases h14
        | some q =>
          obtain ⟨g', ns⟩ := q
          rw [hx] at h14
          simp only [decide_eq_true_eq] at h14
          subst h14
          cases hx2 : T.xn c2 with
          | none => rw [hx2] at h15; cases h15
          | some q =>
            obtain ⟨g2', ns2⟩ := q
            rw [hx2] at h15
            simp only [decide_eq_true_eq] at h15
            subst h15
            obtain ⟨_, m1, _, _⟩ := G.xm c g' ns hx
            obtain ⟨_, m2, _, _⟩ := G.xm c2 g2' ns2 hx2
            obtain ⟨Dc, eD, xD⟩ := G.xi c2 _ h12 hx2
            have hN : Names X g' (L.xc c) := ⟨G.gl' h4, (isNm_of h5).1, .inl m1⟩
            simp only [slotB, Bool.and_eq_true, decide_eq_true_eq] at h6
            obtain ⟨s1, s2⟩ := h6
            have hl : X.env.kindOf m = some .local := by
              show X.env.scope.names.lookup m = _
              rw [G.nm]
              split at s2
              · assumption
              · cases s2
            obtain ⟨f1, f2⟩ := G.fr h3
            refine s_trx f1 f2 (by rw [G.hN]; exact G.nd) (by rw [G.hN]; exact s1) hl hN (fun c' b k e => G.sb c' c b _ k hx e) (fun pn xe hp => soundSs b (G.tr hcur (pn := pn) hp) h13) (fun a oe pn hz hfl => ?_)
            have G' := G.sui (pn := pn) (a := a) hz hfl rfl (H0 := fun _ => none) (vs := []) (n := 0) (h := none) ⟨.inl ⟨rfl, rfl⟩⟩ (cu := none) (fun ns e => nomatch e)
            have b1 := G'.blt h9
            have hn := isNm_of h7
            have hn2 := isNm_of h11
            obtain ⟨fe, b1, b2⟩ := b1
            subst fe
            rw [eD] at hz m2
            have cR := L2.call_isE (X := X) (a := a) (pn := pn) xD hz hfl
            have pc := fun (p2 p3 p4 p5 : Pos) => pe_callB (p := p2) (pos := p5) cR b1 b2 (by decide +kernel) (pa_cons (pe_var (pos := p3) (by rw [G'.hN]; exact s1) (G'.vis h8) hn.1 hn.2) (pa_cons (pe_glob (pos := p4) (v := .ref Dc) (u := .ref Dc) (G'.gl' h10) m2 rfl hn2.1) pa_nil rfl) rfl) (by decide) (by decide) rfl rfl
            rcases sufX_inv hsf with ⟨p2, p3, p4, p5, p6, rfl, rfl⟩ | ⟨z, j, q1, p2, p3, p4, p5, k, q7, p6, rfl, rfl⟩
            · refine pssImp (pss_one (ps_ret (pc p2 p3 p4 p5))) fun D σ H ⟨e1, e2⟩ => ?_
              exact ⟨_, e1, .ref Dc, .ref Dc, true, rfl, fun u r => r, if_pos (beq_self_eq_true _), e2⟩
            · refine pssImp (pss_one (ps_ret (pe_tup (pa_cons pe_str (pa_cons (pc p2 p3 p4 p5) pa_nil rfl) rfl)))) fun D σ H ⟨e1, e2⟩ => ?_
              exact ⟨_, e1, .ref Dc, .ref Dc, true, rfl, fun u r => r, if_pos (beq_self_eq_true _), (by show 2 ≤ sizeLine; decide), e2⟩
    | _ => simp [chkS] at h
  | .tr2 b c1 s1 c2 s2, L, C, T, X, df, nm, st, G, h => by
    cases st with
    | Try x hs el fi p =>
      simp only [chkS, Bool.and_eq_true, List.isEmpty_iff] at h
      obtain ⟨⟨rfl, rfl⟩, h⟩ := h
      cases ho : twoH hs with
      | none => rw [ho] at h; cases h
      | some q =>
        obtain ⟨g, su, gg, su2⟩ := q
        rw [ho] at h
        obtain ⟨gp, y, ys, hp, gp2, z, zs, hp2, rfl, rfl, rfl⟩ := twoH_inv ho
        simp only [Bool.and_eq_true] at h
        obtain ⟨⟨⟨⟨⟨⟨⟨⟨⟨⟨⟨h1, h2⟩, h3⟩, h4⟩, h5⟩, h6⟩, h7⟩, h8⟩, h9⟩, h10⟩, h11⟩, h12⟩ := h
        have hcur : T.cur = none := by simpa using h2
        cases hx : T.xn c1 with
        | none => rw [hx] at h9; cases h9
        | some q =>
          obtain ⟨g', ns⟩ := q
          rw [hx] at h9
          simp only [decide_eq_true_eq] at h9
          subst h9
          cases hx2 : T.xn c2 with
          | none => rw [hx2] at h10; cases h10
          | some q =>
            obtain ⟨g2', ns2⟩ := q
            rw [hx2] at h10
            simp only [decide_eq_true_eq] at h10
            subst h10
            obtain ⟨_, m1, _, _⟩ := G.xm c1 g' ns hx
            obtain ⟨_, m2, _, _⟩ := G.xm c2 g2' ns2 hx2
            have hN1 : Names X g' (L.xc c1) := ⟨G.gl' h4, (isNm_of h5).1, .inl m1⟩
            have hN2 : Names X g2' (L.xc c2) := ⟨G.gl' h6, (isNm_of h7).1, .inl m2⟩
            obtain ⟨f1, f2⟩ := G.fr h3
            refine s_tr2 f1 f2 (G.nh h1) hN1 hN2 (fun c' b k e => G.sb c' c1 b _ k hx e) (fun c' b k e => G.sb c' c2 b _ k hx2 e) (fun pn xe hp => soundSs b (G.tr hcur (pn := pn) hp) h8) (fun a oe cls d pn c' vs n h hz hfl ec ho ⟨H0, sf⟩ => ?_) (fun a oe cls d pn c' vs n h hz hfl ec ho ⟨H0, sf⟩ => ?_)
            · exact soundSs s1 (G.sui hz hfl ec sf (cu := none) (fun ns e => nomatch e)) h11
            · exact soundSs s2 (G.sui hz hfl ec sf (cu := none) (fun ns e => nomatch e)) h12
    | _ => simp [chkS] at h
theorem soundSs : ∀ (ms : List MS) {L : Lk} {C : Cenv} {T : Tb} {X : Cx} {df : Bool} {nm : Nm} {ss : List Stmt}, Good X L C T N df nm → chkSs N df nm T ms ss = true → PSs X ss (tMSs X L C ms)
  | [], L, C, T, X, df, nm, [], G, h => ss_nil
  | [], L, C, T, X, df, nm, _ :: _, G, h => by simp [chkSs] at h
  | _ :: _, L, C, T, X, df, nm, [], G, h => by simp [chkSs] at h
  | m :: ms, L, C, T, X, df, nm, s :: ss, G, h => by
    rw [chkSs, Bool.or_eq_true, Bool.and_eq_true] at h
    rcases h with h | h
    · exact ss_cons (soundS m G h.1) (soundSs ms G h.2)
    · exact enr_sound G h
end
end
end PM

namespace PM
open PySem PySem.Spec PyProof.Rows L2

/-! ### the exception classes -/
section
variable {X : Cx} {L : Lk} {c : Nat} {x : Str} {Cc : Addr}
/-- a class without an __init__ of its own, made without arguments -/
theorem pmk_own0 {bmB : List Value} {B newId initId : String} {p pos : Pos} (F : ExcBaseFacts B newId initId bmB) (q : PySem.W.excIn X.K Cc bmB newId = true) (gC : X.mg x = some (.ref Cc)) (kC : PySem.W.keepIn X.K (.ref Cc) = true) (r : Raises X (.ref Cc)) (hg : Gl X x)
    (hdb : (x == ("__debug__" : Str)) = false) : PMk X (.Call (.Name x p) [] [] pos) (fun _ H Q => Q (.ref Cc) none H) := by
  intro pins s σ H Q I h
  refine wpAny_Call_Name_kw (ld_glob I hg gC ?_ hdb)
  refine PySem.W.callWith_K0 I.kIn kC ?_
  show wpAny _ _ (call (.ref Cc) []) _ _ _
  obtain ⟨bm, N, nm, qn, bs, hdct, sn, sub, ab, col, dd, k0, k1, k2, k3, k5, mN, hC, hN, hni, T⟩ := exc_obj I.kIn q
  refine wpAny_call_exc_subT F T hC hN hni (fun h' e hm => ?_) (by show 0 ≤ sizeLine; exact Nat.zero_le _)
  exact mk_of I hm r h (I.hok.gone hm.new)
theorem rsok0 (hf : L.xf c = []) (hx : L.xc c = .ref Cc) (gC : X.mg x = some (.ref Cc)) (q : PySem.W.excIn X.K Cc [.type "ValueError", .type "Exception", .type "BaseException", .type "object"] "ValueError.__new__" = true)
    (kC : PySem.W.keepIn X.K (.ref Cc) = true) (r : Raises X (.ref Cc)) (hdb : (x == ("__debug__" : Str)) = false) : RsOk X L c x where
  go := fun {C ms es p pos} ha hlm hl hs hg => by
    rw [hf] at hl
    have e1 : es = [] := List.length_eq_zero_iff.mp hl
    subst e1
    have e2 : ms = [] := List.length_eq_zero_iff.mp hlm
    subst e2
    intro pins s σ H Q I h
    refine pmk_own0 (p := p) (pos := pos) PySem.F.excBase_ValueError q gC kC r hg hdb pins s σ H Q I ?_
    obtain ⟨ι, ρ, S, Q', E, hρ, R, w, tk, post⟩ := h
    simp only [wpEs] at w
    have := post ι H [] [] S Grow.refl R Rvs.nil rfl w
    rw [← hx]
    exact this.2 none H (.inl ⟨rfl, rfl, rfl⟩)
/-- an __init__ that keeps its two parameters as attributes -/
def spX2 (Cc : Addr) (f1 f2 : Str) : Sp := fun vs H Q _ => ∃ (a : Addr) (v1 v2 : V), vs = [.ref a, v1, v2] ∧ H a = some (exo a Cc none) ∧ ∀ dx, H dx = none → dx ≠ a →
  Q .non (upd (upd (upd H dx (exd dx [(f1, v1)])) a (exo a Cc (some dx))) dx (exd dx [(f2, v2), (f1, v1)]))
def x2B (N : List Str) (f1 f2 : Str) : List Stmt → Bool
  | [.Assign [.Attribute (.Name s1 _) g1 _] (.Name p1 _) _, .Assign [.Attribute (.Name s2 _) g2 _] (.Name p2 _) _] => decide (N = [s1, p1, p2]) && decide (s2 = s1) && decide (g1 = f1) && decide (g2 = f2) && !(s1 == ("__debug__" : Str)) && !(p1 == ("__debug__" : Str)) && !(p2 == ("__debug__" : Str)) &&
    !(s1 == ("__classdict__" : Str)) && !(p1 == ("__classdict__" : Str)) && !(p2 == ("__classdict__" : Str))
  | _ => false
def visN (sc : Scope) (N : List Str) : Bool := N.all fun x => match sc.names.lookup x with | some .local => true | _ => false
theorem x2_ok {P : Program} {w : World} {K : PySem.W.Frag} {mg : Str → Option Value} {base : Heap} {nm qual : Str} {st : Stmt} {f : Addr} {fd : FuncData} {N : List Str} {f1 f2 : Str} (T : OexC K Cc) (n1 : PySem.W.findIn K (.ref Cc) f1 = some none) (n2 : PySem.W.findIn K (.ref Cc) f2 = some none)
    (F : Fun K nm qual st f fd) (S : FnScope N N (defScope st)) (hv : visN (defScope st) N = true) (hb : x2B N f1 f2 (defBody st) = true) : FnOk P w K mg base (L2.CX P w) 1 f fd N (spX2 Cc f1 f2) := by
  unfold x2B at hb
  split at hb
  · rename_i s1 q1 g1 q2 p1 q3 q4 s2 q5 g2 q6 p2 q7 q8 eb
    simp only [Bool.and_eq_true, decide_eq_true_eq, Bool.not_eq_true'] at hb
    obtain ⟨⟨⟨⟨⟨⟨⟨⟨⟨rfl, rfl⟩, rfl⟩, rfl⟩, d1⟩, d2⟩, d3⟩, c1⟩, c2⟩, c3⟩ := hb
    refine F.okX S (fun vs H Q E z => ?_) (fun cdv A outer s H vs Q E hr z => ?_)
    · obtain ⟨a, v1, v2, rfl, _⟩ := z
      rfl
    · obtain ⟨a, v1, v2, rfl, ea, k⟩ := z
      have vis : ∀ x ∈ [s2, p1, p2], (defScope st).names.lookup x = some .local := fun x hx => by
        have := List.all_eq_true.mp hv x hx
        split at this
        · assumption
        · cases this
      have vs := vis s2 (by simp)
      have vp1 := vis p1 (by simp)
      have vp2 := vis p2 (by simp)
      rw [eb]
      refine ⟨_, pss_cons (ps_ost (f := g1) (pe_var (i := 0) rfl (.inl vs) d1 c1) (pe_var (i := 1) rfl (.inl vp1) d2 c2)) (pss_one (ps_ost (f := g2) (pe_var (i := 0) rfl (.inl vs) d1 c1) (pe_var (i := 2) rfl (.inl vp2) d3 c3))), ?_⟩
      refine ⟨v1, rfl, .ref a, rfl, a, Cc, rfl, T, n1, .inl ⟨ea, fun dx hdx hne => ?_⟩⟩
      have na : (upd (upd H dx (exd dx [(g1, v1)])) a (exo a Cc (some dx))) dx = some (exd dx [(g1, v1)]) := by rw [upd_ne hne, upd_same]
      exact ⟨v2, rfl, .ref a, rfl, a, Cc, rfl, T, n2, .inr ⟨dx, [(g1, v1)], upd_same, na, by simp, k dx hdx hne⟩⟩
  · cases hb
theorem rsok2 {fI : Addr} {fd : FuncData} {N : List Str} {f1 f2 : Str} (hf : L.xf c = [f1, f2]) (hne : f1 ≠ f2) (hx : L.xc c = .ref Cc) (T : OexC X.K Cc) (iC : PySem.W.findIn X.K (.ref Cc) "__init__" = some (some (.ref fI))) (tI : PySem.W.typeIn X.K (.ref fI) = some (.type "function"))
    (F1 : FnOk X.prog X.w X.K X.mg X.base (L2.CX X.prog X.w) 1 fI fd N (spX2 Cc f1 f2)) (hr : Room 2 X.A) (hb : Binds X.K fd N []) (hm : X.mg x = some (.ref Cc)) (hdb : (x == ("__debug__" : Str)) = false) : RsOk X L c x where
  go := fun {C ms es p pos} ha hlm hl hs hg => by
    rw [hf] at hl
    rcases es with _ | ⟨e, es⟩
    · simp at hl
    · obtain ⟨s1, s2⟩ := hs e es rfl
      intro pins s σ H Q I h
      refine pmk_oex (p := p) (dvs := []) T iC tI F1 hr hb .nil passL hg hm ha hdb s1 s2 pins s σ H Q I ?_
      obtain ⟨ι, ρ, S, Q', E, hρ, R, w, tk, post⟩ := h
      refine ⟨ι, ρ, S, _, _, hρ, R, w, tk, fun ι1 H1 xs vs S1 g1 R1 r1 l1 w1 => ?_⟩
      obtain ⟨p1, p2⟩ := post ι1 H1 xs vs S1 g1 R1 r1 l1 w1
      rw [hf] at p1
      rcases vs with _ | ⟨v1, _ | ⟨v2, _ | ⟨v3, vs⟩⟩⟩ <;> try (simp at p1; done)
      refine ⟨by simp, fun a ha => ⟨a, v1, v2, rfl, upd_same, fun dx hdx hda => ⟨rfl, dx, [(f2, v2), (f1, v1)], ?_, upd_same, ?_, ?_⟩⟩⟩
      · rw [upd_ne hda.symm, upd_same]
      · rw [upd_ne hda] at hdx
        exact hdx
      · have hd1 : H1 dx = none := by rw [upd_ne hda] at hdx; exact hdx
        have eH : upd (del (upd (upd (upd (upd H1 a (exo a Cc none)) dx (exd dx [(f1, v1)])) a (exo a Cc (some dx))) dx (exd dx [(f2, v2), (f1, v1)])) a) dx (.xd [(f2, v2), (f1, v1)]) = upd H1 dx (.xd [(f2, v2), (f1, v1)]) := by
          funext b
          by_cases hbd : b = dx
          · subst hbd
            rw [upd_same, upd_same]
          · rw [upd_ne hbd, upd_ne hbd]
            by_cases hba : b = a
            · subst hba
              rw [del_same, ha]
            · rw [del_ne hba, upd_ne hbd, upd_ne hba, upd_ne hbd, upd_ne hba]
        rw [eH, ← hx]
        refine p2 (some dx) _ (.inr ⟨by simp, dx, _, rfl, hd1, rfl, fun k nm v h1 h2 => ?_⟩)
        rw [hf] at h1
        rcases k with _ | _ | k
        · simp at h1 h2
          subst h1 h2
          have : (f1 == f2) = false := by simpa using hne
          simp [List.lookup, this]
        · simp at h1 h2
          subst h1 h2
          simp [List.lookup]
        · simp at h1
end
end PM

namespace PM
open PySem PySem.Spec PyProof.Rows L2

/-! ### defs -/
structure MD where
  np : Nat
  ns : Nat
  body : List MS
structure Pg where
  ds : Nat → Option MD
  gs : GE
def endsOf (Q : VQ) (E : XQ) : ED := ⟨fun _ S => Q .non S, Q, fun _ _ => False, fun _ _ => False, fun c vs _ S => E c vs S⟩
def startL (d : MD) (xs : List Val) : LE := xs.map some ++ List.replicate (d.ns - xs.length) none
/-- a call of the i-th def, at most n calls deep -/
def callN (P : Pg) : Nat → Nat → List Val → Sto → VQ → XQ → Prop
  | 0, _, _, _, _, _ => False
  | n + 1, i, xs, S, Q, E => match P.ds i with
    | none => False
    | some d => xs.length = d.np ∧ wpSs ⟨P.gs, callN P n, none⟩ d.body (endsOf Q E) (startL d xs) S
abbrev cenv (P : Pg) (n : Nat) : Cenv := ⟨P.gs, callN P n, none⟩
/-- the def at f has this tree -/
structure CodeOk (K : PySem.W.Frag) (T : Tb) (d : MD) (f : Addr) : Prop where
  ex : ∃ (x qual : Str) (st : Stmt) (fd : FuncData) (N ps : List Str), Fun K x qual st f fd ∧ FnScope N ps (defScope st) ∧ N.length = d.ns ∧ ps.length = d.np ∧ chkSs N true (defScope st).names T d.body (defBody st) = true ∧ Binds K fd ps []
/-- what the written part says of an exception class -/
inductive RsF (K : PySem.W.Frag) (mg : Str → Option Value) (L : Lk) (c : Nat) (x : Str) : Prop
  | zero (Cc : Addr) (hf : L.xf c = []) (hx : L.xc c = .ref Cc) (gC : mg x = some (.ref Cc)) (q : PySem.W.excIn K Cc [.type "ValueError", .type "Exception", .type "BaseException", .type "object"] "ValueError.__new__" = true)
    (kC : PySem.W.keepIn K (.ref Cc) = true) (bP : PySem.W.subIn K (.ref Cc) (.type "BaseException") = some true) (tP : PySem.W.typeIn K (.ref Cc) = some (.type "type")) (hdb : (x == ("__debug__" : Str)) = false)
  | two (Cc fI : Addr) (fd : FuncData) (N : List Str) (f1 f2 nm qual : Str) (st : Stmt) (hf : L.xf c = [f1, f2]) (hne : f1 ≠ f2) (hx : L.xc c = .ref Cc) (T : OexC K Cc) (iC : PySem.W.findIn K (.ref Cc) "__init__" = some (some (.ref fI))) (tI : PySem.W.typeIn K (.ref fI) = some (.type "function"))
    (n1 : PySem.W.findIn K (.ref Cc) f1 = some none) (n2 : PySem.W.findIn K (.ref Cc) f2 = some none) (F : Fun K nm qual st fI fd) (S : FnScope N N (defScope st)) (hv : visN (defScope st) N = true) (hb : x2B N f1 f2 (defBody st) = true) (hbd : Binds K fd N [])
    (gC : mg x = some (.ref Cc)) (hdb : (x == ("__debug__" : Str)) = false)
theorem rsOk_of {X : Cx} {L : Lk} {c : Nat} {x : Str} (h : RsF X.K X.mg L c x) (hr : Room 2 X.A) : RsOk X L c x := by
  cases h with
  | zero Cc hf hx gC q kC bP tP hdb => exact rsok0 hf hx gC q kC (raises_own bP tP) hdb
  | two Cc fI fd N f1 f2 nm qual st hf hne hx T iC tI n1 n2 F S hv hb hbd gC hdb => exact rsok2 hf hne hx T iC tI (x2_ok T n1 n2 F S hv hb) hr hbd gC hdb
/-- how the text and the trees are linked; Fa i f: the i-th def stands at f -/
structure LinkOk (w : World) (K : PySem.W.Frag) (mg : Str → Option Value) (L : Lk) (T : Tb) (P : Pg) (Fa : Nat → Addr → Prop) : Prop where
  hK : K = L.K
  cm : T.cm = true
  cur : T.cur = none
  nh : L.hid = none
  code : ∀ i f, Fa i f → ∃ d, P.ds i = some d ∧ CodeOk K T d f
  bi : ∀ x, T.bi.contains x = true → mg x = none
  gl : ∀ i x, T.gl i = some x → ∃ u v, mg x = some u ∧ RelV v u ∧ ∀ ι H, Rv L.K ι H (P.gs.glo i) v
  cs : ∀ n x kvs, P.gs.cst n = some (x, kvs) → CDk K w.params x kvs
  fn : ∀ i x, T.fn i = some x → ∃ f, mg x = some (.ref f) ∧ PySem.W.keepIn K (.ref f) = true ∧ Fa i f
  mt : ∀ a, T.mo a = true → ∀ c i, L.cok c = true → P.gs.mth c a = some i → Cls K (L.ca c) ∧ ∃ f, Meth K (L.ca c) (L.fl a) f ∧ Fa i f
  mk' : ∀ c x, T.cn c = some x → L.cok c = true ∧ mg x = some (.ref (L.ca c)) ∧ ∃ f, Mk K (L.ca c) f ∧ Fa (P.gs.ini c) f
  an : ∀ a f, T.an a = some f → L.fl a = f
  fo : FldOk K L P.gs.fok
  rs : ∀ c x ns, T.xn c = some (x, ns) → RsF K mg L c x
  xm : ∀ c x ns, T.xn c = some (x, ns) → L.xok c = true ∧ mg x = some (L.xc c) ∧ L.xf c = ns ∧ (ns ≠ [] → ∃ c0, L.xc c = .ref c0 ∧ XfC K c0 ∧ ∀ nm ∈ ns, PySem.W.findIn K (.ref c0) nm = some none)
  sb : ∀ c' c b q, L.xok c' = true → T.xn c = some q → P.gs.sub c' c = some b → PySem.W.exmOne K (L.xc c') (L.xc c) = some b
  xi : ∀ c q, T.xi.contains c = true → T.xn c = some q → ∃ D, L.xc c = .ref D ∧ L2.ExcC K D
theorem startRel {K : PySem.W.Frag} {ι : List Addr} {H : Hp} {d : MD} {N : List Str} {xs : List Val} {vs : List V} (r : Rvs K ι H xs vs) (hN : N.length = d.ns) : RelE K ι H (startL d xs) (L2.start N vs) := by
  have hl := r.len
  unfold startL L2.start
  rw [← hN, hl]
  refine ⟨by simp [hl], fun i x e => ?_⟩
  by_cases h : i < xs.length
  · rw [List.getElem?_append_left (by simpa using h), List.getElem?_map] at e
    rw [List.getElem?_append_left (by rw [List.length_map, ← hl]; exact h), List.getElem?_map]
    cases hx : xs[i]? with
    | none => rw [hx] at e; cases e
    | some y =>
      rw [hx] at e
      cases e
      obtain ⟨v, h1, h2⟩ := r.get hx
      exact ⟨v, by rw [h1]; rfl, h2⟩
  · rw [List.getElem?_append_right (by simpa using h), List.getElem?_replicate] at e
    split at e <;> cases e
section
variable {P : Program} {w : World} {K : PySem.W.Frag} {mg : Str → Option Value} {base : Heap} {L : Lk} {T : Tb} {G : Pg} {Fa : Nat → Addr → Prop}
/-- what callers know of the i-th def -/
def Knows (P : Program) (w : World) (K : PySem.W.Frag) (mg : Str → Option Value) (base : Heap) (L : Lk) (G : Pg) (n i : Nat) (f : Addr) : Prop :=
  ∃ (fd : FuncData) (ps : List Str), FnOk P w K mg base (L2.CX P w) (2 * n + 2) f fd ps (spC L (cenv G n) i) ∧ Binds K fd ps []
theorem step (hL : LinkOk w K mg L T G Fa) {n i : Nat} {d : MD} {x qual : Str} {st : Stmt} {f : Addr} {fd : FuncData} {N ps : List Str} (ih : ∀ i f, Fa i f → Knows P w K mg base L G n i f)
    (h : G.ds i = some d) (F : Fun K x qual st f fd) (S : FnScope N ps (defScope st)) (h3 : N.length = d.ns) (h4 : ps.length = d.np) (h5 : chkSs N true (defScope st).names T d.body (defBody st) = true) :
    FnOk P w K mg base (L2.CX P w) (2 * (n + 1) + 2) f fd ps (spC L (cenv G (n + 1)) i) := by
  have un : ∀ {xs : List Val} {St : Sto} {Q : VQ} {E : XQ}, callN G (n + 1) i xs St Q E → xs.length = d.np ∧ wpSs (cenv G n) d.body (endsOf Q E) (startL d xs) St := fun {xs St Q E} z => by
    rw [callN, h] at z
    exact z
  refine FnOk.mono (j := (2 * n + 3) + 1) (F.okX S (fun vs H Q E z => ?_) (fun cdv A outer s H vs Q E hr z => ?_)) (by omega)
  · obtain ⟨ι, xs, St, Q', E', R, r, w1, _⟩ := z
    rw [← r.len, (un w1).1, h4]
  · obtain ⟨ι, xs, St, Q', E', R, r, w1, post, hE⟩ := z
    refine ⟨tMSs (cxOf (L2.CX P w) P w K mg base N qual (defScope st) f cdv A outer s H E) L (cenv G n) d.body, soundSs (T := T) (N := N) (df := true) (nm := (defScope st).names) d.body ?_ h5, ?_⟩
    · exact {
        hN := rfl
        nd := S.nd
        nm := rfl
        kd := S.kind
        calm := fun _ => rfl
        A := hr.units
        pass := fun _ => passes_of rfl
        K := hL.hK
        bi := hL.bi
        gl := hL.gl
        fn := fun _ j y hj => by
          obtain ⟨f2, k1, k2, k3⟩ := hL.fn j y hj
          obtain ⟨fd2, ps2, k4, k5⟩ := ih j f2 k3
          exact ⟨⟨f2, fd2, ps2, 2 * n + 2, k1, k2, k4, k5, hr.mono (by omega)⟩⟩
        mt := fun _ a ha c i hc hm => by
          obtain ⟨k1, f2, k2, k3⟩ := hL.mt a ha c i hc hm
          obtain ⟨fd2, ps2, k4, k5⟩ := ih i f2 k3
          exact ⟨⟨f2, fd2, ps2, 2 * n + 2, k1, k2, k4, k5, hr.mono (by omega)⟩⟩
        mkk := fun _ c x hc => by
          obtain ⟨k0, k1, f2, k2, k3⟩ := hL.mk' c x hc
          obtain ⟨fd2, ps2, k4, k5⟩ := ih _ f2 k3
          exact ⟨⟨f2, fd2, ps2, 2 * n + 2, k0, k1, k2, k4, k5, hr.mono (by omega)⟩⟩
        an := hL.an
        fo := hL.fo
        cs := hL.cs
        al := fun _ _ => rfl
        fr := fun _ => ⟨rfl, rfl⟩
        nh := fun _ => hL.nh
        rs := fun _ _ c x ns hx pn xe => rsOk_of (hL.rs c x ns hx) (hr.mono (by omega))
        xm := hL.xm
        sb := hL.sb
        xi := hL.xi
        cur := fun ns hn => by rw [hL.cur] at hn; cases hn }
    · refine ⟨ι, _, St, _, ?_, R, (un w1).2, ?_, ?_⟩
      · have e := hL.hK
        rw [← e] at r ⊢
        exact startRel r h3
      · refine (takes_of (E := E) rfl rfl rfl rfl).imp fun cls dd σ' H' ⟨ι', ρ', S', c, vs', g, _, R', e, xd, q⟩ => ?_
        rw [e]
        exact hE ι' H' S' c vs' dd g R' xd q
      · exact ⟨fun ι' H' ρ' σ' S' g _ R' q => post ι' H' .non .non S' g R' (by simp only [Rv]) q, post, fun _ _ _ _ _ _ _ _ q => q.elim, fun _ _ _ _ _ _ _ _ q => q.elim⟩
theorem link (hL : LinkOk w K mg L T G Fa) : ∀ n i f, Fa i f → Knows P w K mg base L G n i f
  | 0, i, f, h => by
    obtain ⟨d, h0, h1⟩ := hL.code i f h
    obtain ⟨x, qual, st, fd, N, ps, F, S, h3, h4, h5, h6⟩ := h1.ex
    refine ⟨fd, ps, ?_, h6⟩
    have no : ∀ vs H Q E, ¬ spC L (cenv G 0) i vs H Q E := fun vs H Q E ⟨_, _, _, _, _, _, _, z, _⟩ => z
    exact ⟨fun vs H Q E z => absurd z (no vs H Q E), fun A outer s H args us vs Q E _ _ _ _ z => absurd z (no vs H Q E)⟩
  | n + 1, i, f, h => by
    obtain ⟨d, h0, h1⟩ := hL.code i f h
    obtain ⟨x, qual, st, fd, N, ps, F, S, h3, h4, h5, h6⟩ := h1.ex
    exact ⟨fd, ps, step hL (link hL n) h0 F S h3 h4 h5, h6⟩
end
theorem rvInts {K : PySem.W.Frag} {ι : List Addr} {H : Hp} : ∀ ns : List Int, Rvs K ι H (ns.map Val.int) (ns.map V.int)
  | [] => Rvs.nil
  | n :: ns => Rvs.cons (by simp only [Rv]) (rvInts ns)
/-- the law's own call -/
theorem law_sp {K : PySem.W.Frag} {L : Lk} (hK : K = L.K) (hL : L.hid = none) {C : Cenv} {i : Nat} {H : Hp} {a : Addr} {ns : List Int} (hO : Only H) (hS : SqL K H a (ns.map V.int))
    (h : C.call i [.loc 0] [.rol (ns.map Val.int)] (fun x _ => x = .bl true) (fun _ _ _ => False)) : spC L C i [.ref a] H (fun v _ => v = .bl true) fun _ _ _ => False := by
  have rr : ∀ (ι : List Addr), Rvs L.K ι H (ns.map Val.int) (ns.map V.int) := fun ι => rvInts ns
  refine ⟨[a], [.loc 0], [.rol (ns.map Val.int)], _, _, ⟨rfl, fun n m b o o' h1 h2 h3 h4 m1 m2 => ?_, fun n o b h1 h2 => ?_, fun n b d fs e => by rw [hL] at e; cases e⟩, ?_, h, fun ι' H' x v S' g R r q => ?_, fun _ _ _ _ _ _ _ _ _ z => z.elim⟩
  · rcases n with _ | n
    · simp at h3
      subst h3
      cases m1
    · simp at h3
  · rcases n with _ | n
    · simp at h1 h2
      subst h1 h2
      refine ⟨ns.map V.int, ?_, rr [a]⟩
      rw [← hK]
      rcases hS with (q | ⟨o, q⟩) | q
      · rcases hO a with z | ⟨o, xs, z⟩
        · rw [q] at z; cases z
        · rw [q] at z; cases z
      · exact .inl ⟨o, q⟩
      · exact .inr q
    · simp at h1
  · exact Rvs.one (by simp only [Rv]; exact ⟨a, rfl, rfl⟩)
  · subst q
    simpa only [Rv] using r
theorem no_exc {P : Program} {w : World} {H : Hp} {s : Shared} {e : Value} {s' : Shared} (h : L2.CX P w [] H s (fun _ _ _ => False) e s') : False := by
  obtain ⟨_, _, _, _, _, _, _, _, _, _, _, _, z⟩ := h
  exact z
/-- names by number: those of the list, else others -/
def nmAt (ns : List Str) (i : Nat) : Str := match ns[i]? with
  | some x => x
  | none => ⟨(List.replicate (1000 + i) 0).toArray⟩
theorem nmAt_inj {ns : List Str} (h : ns.Nodup) (hs : (ns.all fun x => decide (x.length < 1000)) = true) : ∀ i j, nmAt ns i = nmAt ns j → i = j := by
  have sz : ∀ (i : Nat) (x : Str), ns[i]? = some x → x.length < 1000 := fun i x e => by
    have := List.all_eq_true.mp hs x (List.mem_of_getElem? e)
    simpa using this
  have rl : ∀ i : Nat, (⟨(List.replicate (1000 + i) 0).toArray⟩ : Str).length = 1000 + i := fun i => by
    show (List.replicate (1000 + i) 0).toArray.size = _
    simp
  intro i j e
  unfold nmAt at e
  split at e
  · rename_i x hx
    split at e
    · rename_i y hy
      subst e
      exact nodup_ix h hx hy
    · have q := sz i x hx
      rw [e, rl] at q
      omega
  · split at e
    · rename_i y hy
      have q := sz j y hy
      rw [← e, rl] at q
      omega
    · have q := congrArg Str.length e
      rw [rl, rl] at q
      omega
/-- the end of a row, from the law's own call -/
theorem pm_walk {l : PySem.W.OpenLaw} {q : Program} {loose : List Str} {XP : (Str → Option Value) → Heap → Prop} {YP : World → Heap → Prop} {d : DefRec} {K : Params → PySem.W.Frag} {G : Pg} {depth lawi : Nat} {lkf : PySem.W.Frag → Lk} (hlk : ∀ K, K = (lkf K).K) (hhid : ∀ K, (lkf K).hid = none) (hn : l.most = some 63) (hdf : d.params.defaults = []) (hr : Room (2 * depth + 2) callerA)
    (hY : ∀ (w : World) (h : Heap), YP w h → (K w.params).In h)
    (F : ∀ (w : World) (mg : Str → Option Value) (fa : Addr) (h : Heap), (K w.params).In h → h.Ns mainGlobals mg → mg d.name = some (.ref fa) →
      ∃ fd : FuncData, (∀ (s : Shared) (u : Value), BindsTo s fd ⟨[u], []⟩ [("script", u)]) ∧ ∀ base : Heap, (K w.params).In base → base.Ns mainGlobals mg → FnOk l.prog w (K w.params) mg base (L2.CX l.prog w) (2 * depth + 2) fa fd ["script"] (spC (lkf (K w.params)) (cenv G depth) lawi))
    (law : ∀ ns : List Int, ns.length ≤ 63 → callN G depth lawi [.loc 0] [.rol (ns.map Val.int)] (fun x _ => x = .bl true) (fun _ _ _ => False)) :
    PySem.W.WalkO q loose XP YP l.row.toRowW d [] (fun f vs => PySem.call f vs) :=
  L2.walk_of (n := 63) (k := 2 * depth + 2) (x := "script") (CX := fun w => L2.CX l.prog w) (sp := fun w => spC (lkf (K w.params)) (cenv G depth) lawi) hn (by decide) hdf hr hY F
    (fun w H a ns hl hO hS => law_sp (hlk _) (hhid _) hO hS (law ns hl)) fun _ _ _ _ _ z => no_exc z
end PM

namespace PM
/-- of every row of a table -/
def AllL {α : Type} (P : Nat → α → Prop) : List (Nat × α) → Prop
  | [] => True
  | p :: r => P p.1 p.2 ∧ AllL P r
theorem AllL.get {α : Type} {P : Nat → α → Prop} : ∀ {l : List (Nat × α)}, AllL P l → ∀ i x, l.lookup i = some x → P i x
  | [], _, i, x, h => by cases h
  | (j, y) :: r, h, i, x, e => by
    simp only [List.lookup] at e
    split at e
    · rename_i hb
      have := eq_of_beq hb
      subst this
      cases e
      exact h.1
    · exact AllL.get h.2 i x e
end PM

namespace PM
open PySem
/-! the list lemmas again, none of them by rfl: a simp step that is rfl alone is checked by the kernel the wrong way round (it opens callN first) -/
theorem nE1 : type_of% @PM.wpE.eq_1 := by intros; rw [PM.wpE.eq_1]
theorem nE2 : type_of% @PM.wpE.eq_2 := by intros; rw [PM.wpE.eq_2]
theorem nE3 : type_of% @PM.wpE.eq_3 := by intros; rw [PM.wpE.eq_3]
theorem nE4 : type_of% @PM.wpE.eq_4 := by intros; rw [PM.wpE.eq_4]
theorem nE5 : type_of% @PM.wpE.eq_5 := by intros; rw [PM.wpE.eq_5]
theorem nE6 : type_of% @PM.wpE.eq_6 := by intros; rw [PM.wpE.eq_6]
theorem nE7 : type_of% @PM.wpE.eq_7 := by intros; rw [PM.wpE.eq_7]
theorem nE8 : type_of% @PM.wpE.eq_8 := by intros; rw [PM.wpE.eq_8]
theorem nE9 : type_of% @PM.wpE.eq_9 := by intros; rw [PM.wpE.eq_9]
theorem nE10 : type_of% @PM.wpE.eq_10 := by intros; rw [PM.wpE.eq_10]
theorem nE11 : type_of% @PM.wpE.eq_11 := by intros; rw [PM.wpE.eq_11]
theorem nE12 : type_of% @PM.wpE.eq_12 := by intros; rw [PM.wpE.eq_12]
theorem nE13 : type_of% @PM.wpE.eq_13 := by intros; rw [PM.wpE.eq_13]
theorem nE14 : type_of% @PM.wpE.eq_14 := by intros; rw [PM.wpE.eq_14]
theorem nE15 : type_of% @PM.wpE.eq_15 := by intros; rw [PM.wpE.eq_15]
theorem nE16 : type_of% @PM.wpE.eq_16 := by intros; rw [PM.wpE.eq_16]
theorem nE17 : type_of% @PM.wpE.eq_17 := by intros; rw [PM.wpE.eq_17]
theorem nE18 : type_of% @PM.wpE.eq_18 := by intros; rw [PM.wpE.eq_18]
theorem nE19 : type_of% @PM.wpE.eq_19 := by intros; rw [PM.wpE.eq_19]
theorem nE20 : type_of% @PM.wpE.eq_20 := by intros; rw [PM.wpE.eq_20]
theorem nE21 : type_of% @PM.wpE.eq_21 := by intros; rw [PM.wpE.eq_21]
theorem nE22 : type_of% @PM.wpE.eq_22 := by intros; rw [PM.wpE.eq_22]
theorem nE23 : type_of% @PM.wpE.eq_23 := by intros; rw [PM.wpE.eq_23]
theorem nE24 : type_of% @PM.wpE.eq_24 := by intros; rw [PM.wpE.eq_24]
theorem nE25 : type_of% @PM.wpE.eq_25 := by intros; rw [PM.wpE.eq_25]
theorem nE26 : type_of% @PM.wpE.eq_26 := by intros; rw [PM.wpE.eq_26]
theorem nE27 : type_of% @PM.wpE.eq_27 := by intros; rw [PM.wpE.eq_27]
theorem nE28 : type_of% @PM.wpE.eq_28 := by intros; rw [PM.wpE.eq_28]
theorem nE29 : type_of% @PM.wpE.eq_29 := by intros; rw [PM.wpE.eq_29]
theorem nE30 : type_of% @PM.wpE.eq_30 := by intros; rw [PM.wpE.eq_30]
theorem nS1 : type_of% @PM.wpS.eq_1 := by intros; rw [PM.wpS.eq_1]
theorem nS2 : type_of% @PM.wpS.eq_2 := by intros; rw [PM.wpS.eq_2]
theorem nS3 : type_of% @PM.wpS.eq_3 := by intros; rw [PM.wpS.eq_3]
theorem nS4 : type_of% @PM.wpS.eq_4 := by intros; rw [PM.wpS.eq_4]
theorem nS5 : type_of% @PM.wpS.eq_5 := by intros; rw [PM.wpS.eq_5]
theorem nS6 : type_of% @PM.wpS.eq_6 := by intros; rw [PM.wpS.eq_6]
theorem nS7 : type_of% @PM.wpS.eq_7 := by intros; rw [PM.wpS.eq_7]
theorem nS8 : type_of% @PM.wpS.eq_8 := by intros; rw [PM.wpS.eq_8]
theorem nS9 : type_of% @PM.wpS.eq_9 := by intros; rw [PM.wpS.eq_9]
theorem nS10 : type_of% @PM.wpS.eq_10 := by intros; rw [PM.wpS.eq_10]
theorem nS11 : type_of% @PM.wpS.eq_11 := by intros; rw [PM.wpS.eq_11]
theorem nS12 : type_of% @PM.wpS.eq_12 := by intros; rw [PM.wpS.eq_12]
theorem nS13 : type_of% @PM.wpS.eq_13 := by intros; rw [PM.wpS.eq_13]
theorem nS14 : type_of% @PM.wpS.eq_14 := by intros; rw [PM.wpS.eq_14]
theorem nS15 : type_of% @PM.wpS.eq_15 := by intros; rw [PM.wpS.eq_15]
theorem nS16 : type_of% @PM.wpS.eq_16 := by intros; rw [PM.wpS.eq_16]
theorem nS17 : type_of% @PM.wpS.eq_17 := by intros; rw [PM.wpS.eq_17]
theorem nS18 : type_of% @PM.wpS.eq_18 := by intros; rw [PM.wpS.eq_18]
theorem nS19 : type_of% @PM.wpS.eq_19 := by intros; rw [PM.wpS.eq_19]
theorem nS20 : type_of% @PM.wpS.eq_20 := by intros; rw [PM.wpS.eq_20]
theorem nSs1 : type_of% @PM.wpSs.eq_1 := by intros; rw [PM.wpSs.eq_1]
theorem nSs2 : type_of% @PM.wpSs.eq_2 := by intros; rw [PM.wpSs.eq_2]
theorem nEs1 : type_of% @PM.wpEs.eq_1 := by intros; rw [PM.wpEs.eq_1]
theorem nEs2 : type_of% @PM.wpEs.eq_2 := by intros; rw [PM.wpEs.eq_2]
theorem nB1 : type_of% @PM.wpB.eq_1 := by intros; rw [PM.wpB.eq_1]
theorem nB2 : type_of% @PM.wpB.eq_2 := by intros; rw [PM.wpB.eq_2]
theorem nB3 : type_of% @PM.wpB.eq_3 := by intros; rw [PM.wpB.eq_3]
theorem nA1 : type_of% @PM.wpA.eq_1 := by intros; rw [PM.wpA.eq_1]
theorem nA2 : type_of% @PM.wpA.eq_2 := by intros; rw [PM.wpA.eq_2]
theorem nA3 : type_of% @PM.wpA.eq_3 := by intros; rw [PM.wpA.eq_3]
theorem nT1 : type_of% @PM.wpT.eq_1 := by intros; rw [PM.wpT.eq_1]
theorem bnm {i : Nat} {x : Val} {ρ : LE} {Q : LE → Prop} : bindT (.nm i) x ρ Q = Q (ρ.set i (some x)) := by rw [bindT]
theorem btp {is : List Nat} {xs : List Val} {ρ : LE} {Q : LE → Prop} : bindT (.tp is) (.tup xs) ρ Q = (is.length = xs.length ∧ Q (setAll ρ is xs)) := by rw [bindT]
theorem iffeq {a b : Prop} (h : a = b) : a = b := propext (Iff.of_eq h)
theorem setz {α : Type} {a b : α} {l : List α} : (a :: l).set 0 b = b :: l := List.ext_getElem? fun _ => rfl
theorem sets {α : Type} {a b : α} {l : List α} {n : Nat} : (a :: l).set (n + 1) b = a :: l.set n b := List.ext_getElem? fun _ => rfl
theorem getz {α : Type} {a : α} {l : List α} : (a :: l)[0]? = some a := (List.getElem?_cons_zero).trans (by cases l <;> simp)
theorem gets {α : Type} {a : α} {l : List α} {n : Nat} : (a :: l)[n + 1]? = l[n]? := (List.getElem?_cons_succ).trans (by cases l <;> simp)
theorem lenc {α : Type} {a : α} {l : List α} : (a :: l).length = l.length + 1 := by rw [List.length_cons]
theorem lenn {α : Type} : ([] : List α).length = 0 := by rw [List.length_nil]
theorem apc {α : Type} {a : α} {l m : List α} : (a :: l) ++ m = a :: (l ++ m) := List.ext_getElem? fun _ => rfl
theorem apn {α : Type} {l : List α} : [] ++ l = l := List.ext_getElem? fun _ => rfl
theorem tyeq (a b : Ty) : (a == b) = decide (a = b) := by
  cases a <;> cases b <;> rfl
theorem ieq (a b : Int) : (a == b) = decide (a = b) := by
  by_cases h : a = b <;> simp [h]
theorem atV_nat {xs : List Val} {i : Nat} {v : Val} (h : xs[i]? = some v) : atV xs (i : Int) = some v := by
  have hl : i < xs.length := (List.getElem?_eq_some_iff.mp h).1
  have e : L2.ixN xs.length (i : Int) = some i := by
    unfold L2.ixN
    rw [if_pos (by omega), if_pos (by omega)]
    simp
  simp [atV, e, h]
theorem atV_0 {a : Val} {xs : List Val} : atV (a :: xs) 0 = some a := atV_nat (i := 0) rfl
theorem atV_int {xs : List Val} {i : Int} (h0 : 0 ≤ i) (h : i < xs.length) : ∃ v, atV xs i = some v ∧ v ∈ xs := by
  have hl : i.toNat < xs.length := by omega
  refine ⟨xs[i.toNat], ?_, List.getElem_mem hl⟩
  have := atV_nat (xs := xs) (i := i.toNat) (v := xs[i.toNat]) (by simp [hl])
  rwa [Int.toNat_of_nonneg h0] at this
theorem atV_1 {a b : Val} {xs : List Val} : atV (a :: b :: xs) 1 = some b := atV_nat (i := 1) rfl
theorem atV_2 {a b c : Val} {xs : List Val} : atV (a :: b :: c :: xs) 2 = some c := atV_nat (i := 2) rfl
theorem atV_3 {a b c d : Val} {xs : List Val} : atV (a :: b :: c :: d :: xs) 3 = some d := atV_nat (i := 3) rfl
theorem ixN_0 {n : Nat} : L2.ixN (n + 1) 0 = some 0 := by
  unfold L2.ixN
  rw [if_pos (by decide), if_pos (by omega)]
  rfl
theorem ixN_1 {n : Nat} : L2.ixN (n + 2) 1 = some 1 := by
  unfold L2.ixN
  rw [if_pos (by decide), if_pos (by omega)]
  rfl
theorem ixN_2 {n : Nat} : L2.ixN (n + 3) 2 = some 2 := by
  unfold L2.ixN
  rw [if_pos (by decide), if_pos (by omega)]
  rfl
/-! ### the store -/
theorem lstAt_app {S : Sto} {o : SObj} {n : Nat} (h : n < S.length) : lstAt (S ++ [o]) n = lstAt S n := by
  unfold lstAt
  rw [List.getElem?_append_left h]
theorem lstAt_lt {S : Sto} {n : Nat} (h : (lstAt S n).isSome = true) : n < S.length := by
  unfold lstAt at h
  cases e : S[n]? with
  | none => rw [e] at h; cases h
  | some o => exact (List.getElem?_eq_some_iff.mp e).1
theorem lstAt_new {S : Sto} {xs : List Val} : lstAt (S ++ [.lst xs]) S.length = some xs := by
  unfold lstAt
  simp
theorem get_new {S : Sto} {o : SObj} : (S ++ [o])[S.length]? = some o := by simp
theorem set_new {S : Sto} {o u : SObj} : (S ++ [o]).set S.length u = S ++ [u] := by simp
/-- an instance made -/
theorem mk_ini {P : Pg} {n c i : Nat} {ρ : LE} {S : Sto} {Q : VQ} {E : XQ} {es : List ME} (h : P.gs.ini c = i) : PM.wpE (cenv P n) (.make c es) ρ S Q E = PM.wpEs (cenv P n) es ρ S (fun xs S1 => callN P n i (.loc S1.length :: xs) (S1 ++ [.ins c []]) (fun v S2 => v = .non ∧ Q (.loc S1.length) S2) E) E := by
  subst h
  rw [PM.wpE]
/-! ### an item by its place -/
theorem ixS_l {S : Sto} {n : Nat} {xs : List Val} {i : Int} {v : Val} {Q : VQ} (h : lstAt S n = some xs) (a : atV xs i = some v) : ixS (.loc n) (.int i) S Q = Q v S := by
  have d : dkAt S n = none := by
    unfold lstAt at h
    unfold dkAt
    cases e : S[n]? with
    | none => rfl
    | some o => rw [e] at h; cases o <;> first | rfl | cases h
  simp only [ixS, ixD, d, itemsOf, h, a]
theorem ixS_t {S : Sto} {xs : List Val} {i : Int} {v : Val} {Q : VQ} (a : atV xs i = some v) : ixS (.tup xs) (.int i) S Q = Q v S := by
  simp only [ixS, ixD, itemsOf, a]
theorem subS_l {S : Sto} {n j : Nat} {xs : List Val} {i : Int} {v : Val} {Q : Sto → Prop} (h : S[n]? = some (.lst xs)) (a : L2.ixN xs.length i = some j) : subS (.loc n) (.int i) v S Q = Q (S.set n (.lst (xs.set j v))) := by
  simp only [subS, h, a]
/-! ### values known by their form -/
theorem v_add {S : Sto} {i j : Int} {Q : VQ} : binS .add (.int i) (.int j) S Q = Q (.int (i + j)) S := by simp only [binS]
theorem v_sub {S : Sto} {i j : Int} {Q : VQ} : binS .sub (.int i) (.int j) S Q = Q (.int (i - j)) S := by simp only [binS]
theorem v_mul {S : Sto} {i j : Int} {Q : VQ} : binS .mul (.int i) (.int j) S Q = (L2.CMul i j ∧ Q (.int (i * j)) S) := by simp only [binS]
theorem v_fdiv {S : Sto} {i j : Int} {Q : VQ} : binS .fdiv (.int i) (.int j) S Q = ((0 < j ∧ j < 2 ^ 80) ∧ Q (.int (i / j)) S) := by simp only [binS]
theorem v_mod {S : Sto} {i j : Int} {Q : VQ} : binS .mod (.int i) (.int j) S Q = (0 < j ∧ Q (.int (i % j)) S) := by simp only [binS]
theorem v_pow {S : Sto} {i j : Int} {Q : VQ} : binS .pow (.int i) (.int j) S Q = ((0 ≤ j ∧ j ≤ 1000000 ∧ i.natAbs < 2 ^ 64) ∧ Q (.int (i ^ j.toNat)) S) := by simp only [binS]
theorem v_adds {S : Sto} {a b : Str} {Q : VQ} : binS .add (.str a) (.str b) S Q = (a.length + b.length ≤ big ∧ Q (.str (a ++ b)) S) := by simp only [binS]
theorem v_addt {S : Sto} {a b : List Val} {Q : VQ} : binS .add (.tup a) (.tup b) S Q = (a.length + b.length ≤ big ∧ Q (.tup (a ++ b)) S) := by simp only [binS]
theorem v_mult {S : Sto} {a : List Val} {k : Int} {Q : VQ} : binS .mul (.tup a) (.int k) S Q = ((a ≠ [] ∧ 1 ≤ k ∧ k ≤ 1000 ∧ a.length ≤ 1000) ∧ Q (.tup (List.replicate k.toNat a).flatten) S) := by simp only [binS]
theorem v_muls {S : Sto} {a : Str} {k : Int} {Q : VQ} : binS .mul (.str a) (.int k) S Q = ((2 ≤ k ∧ k ≤ 1000 ∧ 1 ≤ a.length ∧ a.length ≤ 1000) ∧ Q (.str (repS a k.toNat)) S) := by simp only [binS]
theorem b_intt {S : Sto} {x : Str} {n : Int} (h : PySem.intText? x = some n) {Q : VQ} : biS .int [.str x] S Q = (x.length ≤ 640 ∧ Q (.int n) S) := by simp only [biS, h]
theorem v_addl {S : Sto} {a b : Nat} {xs ys : List Val} (h : mlAt S a = some xs) (k : mlAt S b = some ys) {Q : VQ} : binS .add (.loc a) (.loc b) S Q = (xs.length + ys.length ≤ big ∧ Q (.loc S.length) (S ++ [.lst (xs ++ ys)])) := by simp only [binS, h, k]
theorem v_eq {S : Sto} {x y : Val} {Q : Bool → Prop} : cmpS .eq x y S Q = eqS S x y Q := by simp only [cmpS]
theorem v_ne {S : Sto} {x y : Val} {Q : Bool → Prop} : cmpS .ne x y S Q = eqS S x y (fun b => Q (!b)) := by simp only [cmpS]
theorem v_lt {S : Sto} {i j : Int} {Q : Bool → Prop} : cmpS .lt (.int i) (.int j) S Q = Q (decide (i < j)) := by simp only [cmpS]
theorem v_le {S : Sto} {i j : Int} {Q : Bool → Prop} : cmpS .le (.int i) (.int j) S Q = Q (decide (i ≤ j)) := by simp only [cmpS]
theorem v_gt {S : Sto} {i j : Int} {Q : Bool → Prop} : cmpS .gt (.int i) (.int j) S Q = Q (decide (j < i)) := by simp only [cmpS]
theorem v_ge {S : Sto} {i j : Int} {Q : Bool → Prop} : cmpS .ge (.int i) (.int j) S Q = Q (decide (j ≤ i)) := by simp only [cmpS]
theorem v_is {S : Sto} {x : Val} {Q : Bool → Prop} : cmpS .is_ x .non S Q = Q x.isNon := by simp only [cmpS]
theorem v_nis {S : Sto} {x : Val} {Q : Bool → Prop} : cmpS .nis x .non S Q = Q (!x.isNon) := by simp only [cmpS]
theorem v_isb {S : Sto} {a b : Bool} {Q : Bool → Prop} : cmpS .is_ (.bl a) (.bl b) S Q = Q (a == b) := by simp only [cmpS]
theorem v_nisb {S : Sto} {a b : Bool} {Q : Bool → Prop} : cmpS .nis (.bl a) (.bl b) S Q = Q (!(a == b)) := by simp only [cmpS]
theorem v_les {S : Sto} {a b : Str} {Q : Bool → Prop} : cmpS .le (.str a) (.str b) S Q = Q (!decide (b.cps.toList < a.cps.toList)) := by simp only [cmpS]
theorem v_in {S : Sto} {x y : Val} {Q : Bool → Prop} : cmpS .in_ x y S Q = inS x y S Q := by simp only [cmpS]
theorem v_nin {S : Sto} {x y : Val} {Q : Bool → Prop} : cmpS .nin x y S Q = inS x y S (fun b => Q (!b)) := by simp only [cmpS]
theorem t_non {S : Sto} {Q : Bool → Prop} : tru S .non Q = Q false := by simp only [tru]
theorem t_bl {S : Sto} {b : Bool} {Q : Bool → Prop} : tru S (.bl b) Q = Q b := by simp only [tru]
theorem t_int {S : Sto} {i : Int} {Q : Bool → Prop} : tru S (.int i) Q = Q (i != 0) := by simp only [tru]
theorem t_str {S : Sto} {y : Str} {Q : Bool → Prop} : tru S (.str y) Q = (y.length ≤ big ∧ Q ((y.length : Int) != 0)) := by simp only [tru]
theorem t_tup {S : Sto} {xs : List Val} {Q : Bool → Prop} : tru S (.tup xs) Q = Q (!xs.isEmpty) := by simp only [tru]
theorem t_loc {S : Sto} {n : Nat} {xs : List Val} (h : lstAt S n = some xs) {Q : Bool → Prop} : tru S (.loc n) Q = Q (!xs.isEmpty) := by simp only [tru, h]
theorem b_lens {S : Sto} {y : Str} {Q : VQ} : biS .len [.str y] S Q = (y.length ≤ big ∧ Q (.int y.length) S) := by simp only [biS]
theorem b_lent {S : Sto} {xs : List Val} {Q : VQ} : biS .len [.tup xs] S Q = Q (.int xs.length) S := by simp only [biS, itemsOf]
theorem b_lenl {S : Sto} {n : Nat} {xs : List Val} (h : lstAt S n = some xs) {Q : VQ} : biS .len [.loc n] S Q = Q (.int xs.length) S := by simp only [biS, itemsOf, h]
theorem b_int {S : Sto} {i : Int} {Q : VQ} : biS .int [.int i] S Q = Q (.int i) S := by simp only [biS]
theorem b_intb {S : Sto} {k : Bool} {Q : VQ} : biS .int [.bl k] S Q = Q (.int (if k then 1 else 0)) S := by simp only [biS]
theorem b_abs {S : Sto} {i : Int} {Q : VQ} : biS .abs [.int i] S Q = Q (.int (if i < 0 then -i else i)) S := by simp only [biS]
theorem b_min {S : Sto} {i j : Int} {Q : VQ} : biS .min2 [.int i, .int j] S Q = Q (.int (if j < i then j else i)) S := by simp only [biS]
theorem b_max {S : Sto} {i j : Int} {Q : VQ} : biS .max2 [.int i, .int j] S Q = Q (.int (if j > i then j else i)) S := by simp only [biS]
theorem b_str {S : Sto} {i : Int} {Q : VQ} : biS .str [.int i] S Q = (i.natAbs.log2 < 1920 ∧ Q (.str (toString i)) S) := by simp only [biS]
theorem b_strs {S : Sto} {x : Str} {Q : VQ} : biS .str [.str x] S Q = Q (.str x) S := by simp only [biS]
theorem b_tupt {S : Sto} {xs : List Val} {Q : VQ} : biS .tuple [.tup xs] S Q = Q (.tup xs) S := by simp only [biS]
theorem b_tupl {S : Sto} {n : Nat} {xs : List Val} (h : lstAt S n = some xs) {Q : VQ} : biS .tuple [.loc n] S Q = Q (.tup xs) S := by simp only [biS, h]
theorem b_lstt {S : Sto} {xs : List Val} {Q : VQ} : biS .list [.tup xs] S Q = Q (.loc S.length) (S ++ [.lst xs]) := by simp only [biS, itemsOf]
theorem b_lstl {S : Sto} {n : Nat} {xs : List Val} (h : lstAt S n = some xs) {Q : VQ} : biS .list [.loc n] S Q = Q (.loc S.length) (S ++ [.lst xs]) := by simp only [biS, itemsOf, h]
theorem b_all {S : Sto} {n : Nat} {xs : List Val} {bs : List Bool} (h : lstAt S n = some xs) (k : blS xs = some bs) {Q : VQ} : biS .all [.loc n] S Q = Q (.bl (bs.all id)) S := by simp only [biS, h, Option.bind_some, k]
theorem b_any {S : Sto} {n : Nat} {xs : List Val} {bs : List Bool} (h : lstAt S n = some xs) (k : blS xs = some bs) {Q : VQ} : biS .any [.loc n] S Q = Q (.bl (bs.any id)) S := by simp only [biS, h, Option.bind_some, k]
theorem b_ord {S : Sto} {x : Str} {Q : VQ} : biS .ord [.str x] S Q = (x.length = 1 ∧ Q (.int (x.cps.getD 0 0 : Nat)) S) := by simp only [biS]
theorem r_append {S : Sto} {cst : Nat → Option (Str × List (Str × Val))} {n : Nat} {xs : List Val} (h : lstAt S n = some xs) : mtT cst .append S (.loc n) = True := by simp only [mtT, h, Option.isSome]
theorem r_extend {S : Sto} {cst : Nat → Option (Str × List (Str × Val))} {n : Nat} {xs : List Val} (h : lstAt S n = some xs) : mtT cst .extend S (.loc n) = True := by simp only [mtT, h, Option.isSome]
theorem r_pop {S : Sto} {cst : Nat → Option (Str × List (Str × Val))} {n : Nat} {xs : List Val} (h : lstAt S n = some xs) : mtT cst .pop S (.loc n) = True := by simp only [mtT, h, Option.isSome]
theorem r_pop1 {S : Sto} {cst : Nat → Option (Str × List (Str × Val))} {n : Nat} {xs : List Val} (h : lstAt S n = some xs) : mtT cst .pop1 S (.loc n) = True := by simp only [mtT, h, Option.isSome]
theorem r_reverse {S : Sto} {cst : Nat → Option (Str × List (Str × Val))} {n : Nat} {xs : List Val} (h : lstAt S n = some xs) : mtT cst .reverse S (.loc n) = True := by simp only [mtT, h, Option.isSome]
theorem r_get1 {S : Sto} {cst : Nat → Option (Str × List (Str × Val))} {n : Nat} {xs : List (L2.Key × Val)} (h : dkAt S n = some xs) : mtT cst .get1 S (.loc n) = True := by simp only [mtT, h, Option.isSome]
theorem r_get2 {S : Sto} {cst : Nat → Option (Str × List (Str × Val))} {n : Nat} {xs : List (L2.Key × Val)} (h : dkAt S n = some xs) : mtT cst .get2 S (.loc n) = True := by simp only [mtT, h, Option.isSome]
theorem r_setd {S : Sto} {cst : Nat → Option (Str × List (Str × Val))} {n : Nat} {xs : List (L2.Key × Val)} (h : dkAt S n = some xs) : mtT cst .setd S (.loc n) = True := by simp only [mtT, h, Option.isSome]
theorem m_app {S : Sto} {cst : Nat → Option (Str × List (Str × Val))} {n : Nat} {xs : List Val} {v : Val} (h : mlAt S n = some xs) {Q : VQ} : mtS cst .append (.loc n) [v] S Q = (xs.length < big ∧ Q .non (S.set n (.lst (xs ++ [v])))) := by simp only [mtS, h]
theorem m_ext {S : Sto} {cst : Nat → Option (Str × List (Str × Val))} {n k : Nat} {xs ys : List Val} (h : mlAt S n = some xs) (h2 : mlAt S k = some ys) {Q : VQ} : mtS cst .extend (.loc n) [.loc k] S Q = (xs.length + ys.length ≤ big ∧ Q .non (S.set n (.lst (xs ++ ys)))) := by simp only [mtS, h, h2]
theorem m_pop {S : Sto} {cst : Nat → Option (Str × List (Str × Val))} {n : Nat} {xs : List Val} {v : Val} (h : mlAt S n = some xs) (k : xs[xs.length - 1]? = some v) {Q : VQ} : mtS cst .pop (.loc n) [] S Q = Q v (S.set n (.lst xs.dropLast)) := by simp only [mtS, h, k]
theorem m_pop1 {S : Sto} {cst : Nat → Option (Str × List (Str × Val))} {n : Nat} {i : Int} {xs : List Val} {v : Val} (h : mlAt S n = some xs) (k : xs[i.toNat]? = some v) {Q : VQ} : mtS cst .pop1 (.loc n) [.int i] S Q = ((0 ≤ i ∧ i < xs.length ∧ xs.length ≤ big) ∧ Q v (S.set n (.lst (xs.eraseIdx i.toNat)))) := by simp only [mtS, h, k]
theorem m_rev {S : Sto} {cst : Nat → Option (Str × List (Str × Val))} {n : Nat} {xs : List Val} (h : mlAt S n = some xs) {Q : VQ} : mtS cst .reverse (.loc n) [] S Q = Q .non (S.set n (.lst xs.reverse)) := by simp only [mtS, h]
theorem m_get1 {S : Sto} {cst : Nat → Option (Str × List (Str × Val))} {n : Nat} {k : Val} {k2 : L2.Key} {kvs : List (L2.Key × Val)} (h : dkAt S n = some kvs) (h2 : keyOf k = some k2) {Q : VQ} : mtS cst .get1 (.loc n) [k] S Q = Q ((getK kvs k2).getD .non) S := by simp only [mtS, h, h2]
theorem m_get2 {S : Sto} {cst : Nat → Option (Str × List (Str × Val))} {n : Nat} {k d : Val} {k2 : L2.Key} {kvs : List (L2.Key × Val)} (h : dkAt S n = some kvs) (h2 : keyOf k = some k2) {Q : VQ} : mtS cst .get2 (.loc n) [k, d] S Q = Q ((getK kvs k2).getD d) S := by simp only [mtS, h, h2]
theorem f_get {S : Sto} {fk : Nat → Nat → Bool} {n a c : Nat} {fs : List (Nat × Val)} {v : Val} (h : S[n]? = some (.ins c fs)) (h1 : fk c a = true) (h2 : fs.lookup a = some v) {Q : VQ} : fldS fk (.loc n) a S Q = Q v S := by simp only [fldS, insAt, h, h1, h2, true_and]
theorem f_set {S : Sto} {fk : Nat → Nat → Bool} {n a c : Nat} {fs : List (Nat × Val)} {v : Val} (h : S[n]? = some (.ins c fs)) (h1 : fk c a = true) (h2 : fs.length < 100) {Q : Sto → Prop} : fsetS fk (.loc n) a v S Q = Q (S.set n (.ins c (putA a v fs))) := by simp only [fsetS, insAt, h, h1, h2, true_and]
theorem f_mth {S : Sto} {mt : Nat → Nat → Option Nat} {n a c : Nat} {fs : List (Nat × Val)} {i : Nat} (h : S[n]? = some (.ins c fs)) (h1 : fs.lookup a = none) (h2 : mt c a = some i) : mthS mt (.loc n) a S = some i := by simp only [mthS, insAt, h, h1, h2, Option.isNone, if_true]
theorem n_of {S : Sto} {xs : List Val} {n : Nat} (h : S[n]? = some (.lst xs)) : lstAt S n = some xs := by simp only [lstAt, h]
theorem n_ro {S : Sto} {xs : List Val} {n : Nat} (h : S[n]? = some (.rol xs)) : lstAt S n = some xs := by simp only [lstAt, h]
theorem m_of {S : Sto} {xs : List Val} {n : Nat} (h : S[n]? = some (.lst xs)) : mlAt S n = some xs := by simp only [mlAt, h]
/-! ### equality of data -/
theorem eqS_ii {S : Sto} {i j : Int} {Q : Bool → Prop} : eqS S (.int i) (.int j) Q = Q (decide (i = j)) := by
  have : (i == j) = decide (i = j) := ieq i j
  simp only [eqS, dat, PyData.eqv, this]
theorem eqS_ss {S : Sto} {x y : Str} {Q : Bool → Prop} : eqS S (.str x) (.str y) Q = Q (x == y) := by simp only [eqS, dat, PyData.eqv]
theorem eqS_nn {S : Sto} {Q : Bool → Prop} : eqS S .non .non Q = Q true := by simp only [eqS, dat, PyData.eqv]
theorem eqS_of {S : Sto} {x y : Val} {d e : PyData} {Q : Bool → Prop} (h1 : dat S 60 x = some d) (h2 : dat S 60 y = some e) : eqS S x y Q = Q (PyData.eqv d e) := by simp only [eqS, h1, h2]
/-- data without lists, equal to itself, at most k deep -/
def Pk (k : Nat) (x : Val) : Prop := ∃ d, (∀ S n, k ≤ n → dat S n x = some d) ∧ PyData.eqv d d = true
theorem Pk.mono {k m : Nat} {x : Val} (h : Pk k x) (hk : k ≤ m) : Pk m x := let ⟨d, h1, h2⟩ := h; ⟨d, fun S n hn => h1 S n (Nat.le_trans hk hn), h2⟩
theorem suc_of {n : Nat} (h : 1 ≤ n) : ∃ m, n = m + 1 := ⟨n - 1, by omega⟩
theorem Pk.non : Pk 1 .non := ⟨.none, fun S n hn => by obtain ⟨m, rfl⟩ := suc_of hn; simp only [dat], by simp only [PyData.eqv]⟩
theorem Pk.bl {b : Bool} : Pk 1 (.bl b) := ⟨.bool b, fun S n hn => by obtain ⟨m, rfl⟩ := suc_of hn; simp only [dat], by simp only [PyData.eqv, beq_self_eq_true]⟩
theorem Pk.int {i : Int} : Pk 1 (.int i) := ⟨.int i, fun S n hn => by obtain ⟨m, rfl⟩ := suc_of hn; simp only [dat], by simp only [PyData.eqv, beq_self_eq_true]⟩
theorem Pk.str {x : Str} : Pk 1 (.str x) := ⟨.str x, fun S n hn => by obtain ⟨m, rfl⟩ := suc_of hn; simp only [dat], by simp only [PyData.eqv, beq_self_eq_true]⟩
theorem dats_of {k : Nat} : ∀ {xs : List Val}, (∀ x ∈ xs, Pk k x) → ∃ ds, (∀ S n, k ≤ n → xs.mapM (dat S n) = some ds) ∧ PyData.eqvAll ds ds = true
  | [], _ => ⟨[], fun _ _ _ => rfl, by simp only [PyData.eqvAll]⟩
  | x :: xs, h => by
    obtain ⟨d, h1, h2⟩ := h x List.mem_cons_self
    obtain ⟨ds, h3, h4⟩ := dats_of (xs := xs) fun y hy => h y (List.mem_cons_of_mem _ hy)
    refine ⟨d :: ds, fun S n hn => ?_, ?_⟩
    · rw [List.mapM_cons, h1 S n hn, h3 S n hn]; rfl
    · simp only [PyData.eqvAll, h2, h4, Bool.and_self]
theorem Pk.tup {k : Nat} {xs : List Val} (h : ∀ x ∈ xs, Pk k x) : Pk (k + 1) (.tup xs) := by
  obtain ⟨ds, h1, h2⟩ := dats_of h
  refine ⟨.tuple ds, fun S n hn => ?_, by simp only [PyData.eqv, h2]⟩
  obtain ⟨m, rfl⟩ := suc_of (n := n) (by omega)
  simp only [dat, h1 S m (by omega), Option.map_some]
theorem Pk.eqS {k : Nat} {x : Val} (h : Pk k x) (hk : k ≤ 60) {S : Sto} {Q : Bool → Prop} : eqS S x x Q = Q true := by
  obtain ⟨d, h1, h2⟩ := h
  rw [eqS_of (h1 S 60 hk) (h1 S 60 hk), h2]
theorem eqS_lst {k : Nat} {xs : List Val} (h : ∀ x ∈ xs, Pk k x) (hk : k ≤ 59) {S : Sto} {a b : Nat} (ha : lstAt S a = some xs) (hb : lstAt S b = some xs) {Q : Bool → Prop} : eqS S (.loc a) (.loc b) Q = Q true := by
  obtain ⟨ds, h1, h2⟩ := dats_of h
  have k : ∀ c, lstAt S c = some xs → dat S 60 (.loc c) = some (.list ds) := fun c hc => by
    simp only [dat, hc, h1 S 59 hk, Option.map_some]
  rw [eqS_of (k a ha) (k b hb)]
  simp only [PyData.eqv, h2]
theorem it_r1 {S : Sto} {i : Int} : itS .range [.int i] S = if -(2 ^ 62) ≤ i ∧ i < 2 ^ 62 then some ((List.range i.toNat).map fun (i : Nat) => Val.int (i : Int), []) else none := by rw [itS]
theorem it_r2 {S : Sto} {i : Int} (hr : -(2 ^ 62) ≤ i ∧ i < 2 ^ 62) : itS .range [.int i] S = some ((List.range i.toNat).map fun (i : Nat) => Val.int (i : Int), []) := by rw [it_r1, if_pos hr]
theorem it_r3 {S : Sto} {n : Nat} (hr : -(2 ^ 62) ≤ (n : Int) ∧ (n : Int) < 2 ^ 62) : itS .range [.int n] S = some ((List.range n).map fun (i : Nat) => Val.int (i : Int), []) := by rw [it_r2 hr, Int.toNat_natCast]
theorem it_r4 {S : Sto} {n : Nat} (hr : -(2 ^ 62) ≤ (n : Int) ∧ (n : Int) < 2 ^ 62) : itS .range [.int n] S = some ((List.range' 0 n).map fun (i : Nat) => Val.int (i : Int), []) := by rw [it_r3 hr, List.range_eq_range']
theorem it_range {S : Sto} {n : Nat} (hn : n < 1000000) : itS .range [.int n] S = some ((List.range' 0 n).map fun (i : Nat) => Val.int (i : Int), []) := it_r4 ⟨by omega, by omega⟩
/-- a loop over the places of a list -/
theorem for_range {C : Cenv} {tg : Tg} {v a : Nat} {xs : List Val} {b : List MS} {D : ED} {ρ : LE} {S : Sto} (hv : ρ[v]? = some (some (.loc a))) (hl : lstAt S a = some xs) (hn : xs.length < 1000000)
    (h : forS [] tg (fun D => PM.wpSs C b D) D ((List.range' 0 xs.length).map fun (i : Nat) => Val.int (i : Int)) ρ S) : PM.wpS C (.fr tg .range [(.bi .len [(.var v)])] b) D ρ S := by
  have hi := it_range (S := S) hn
  simp only [PM.wpS, PM.wpEs, PM.wpE, hv, b_lenl hl, hi]
  exact h
/-- a loop over a list of the store -/
theorem for_seq {C : Cenv} {tg : Tg} {v a : Nat} {xs : List Val} {b : List MS} {D : ED} {ρ : LE} {S : Sto} (hv : ρ[v]? = some (some (.loc a))) (hl : lstAt S a = some xs)
    (h : forS [(a, xs)] tg (fun D => PM.wpSs C b D) D xs ρ S) : PM.wpS C (.fr tg .seq [(.var v)] b) D ρ S := by
  simp only [PM.wpS, PM.wpEs, PM.wpE, hv, itS, hl, Option.map_some]
  exact h
theorem asg_fdiv {C : Cenv} {i f v w : Nat} {c m : Int} {x : Val} {D : ED} {ρ : LE} {S : Sto} (hv : ρ[v]? = some (some (.int c))) (hw : ρ[w]? = some (some x)) (hm : 0 < m ∧ m < 2 ^ 80) (h : C.call f [.int (c / m), x] S (fun y S1 => D.nx (ρ.set i (some y)) S1) (fun c vs S1 => D.xn c vs ρ S1)) :
    PM.wpS C (.asg (.nm i) (.call f [(.bin .fdiv (.var v) (.lit (.int m))), (.var w)])) D ρ S := by
  simp only [PM.wpS, PM.wpEs, PM.wpE, hv, hw, v_fdiv, bindT]
  exact ⟨hm, h⟩
theorem Ss_cons {C : Cenv} {a : MS} {r : List MS} {D : ED} {ρ : LE} {S : Sto} (h : PM.wpS C a { D with nx := fun ρ' S' => PM.wpSs C r D ρ' S' } ρ S) : PM.wpSs C (a :: r) D ρ S := by
  rw [PM.wpSs]; exact h
theorem S_retE {C : Cenv} {e : ME} {D : ED} {ρ : LE} {S : Sto} (h : PM.wpE C e ρ S D.rt fun c vs => D.xn c vs ρ) : PM.wpS C (.ret e) D ρ S := by
  rw [PM.wpS]; exact h
theorem S_asgE {C : Cenv} {tg : Tg} {e : ME} {D : ED} {ρ : LE} {S : Sto} (h : PM.wpE C e ρ S (fun x S1 => bindT tg x ρ fun ρ2 => D.nx ρ2 S1) fun c vs => D.xn c vs ρ) : PM.wpS C (.asg tg e) D ρ S := by
  rw [PM.wpS]; exact h
/-- a list of lists, a list of new lists, are made -/
theorem lst2_e {C : Cenv} {ρ : LE} {S : Sto} {Q : VQ} {E : XQ} (h : Q (.loc (S.length + 2)) (S ++ [.lst [], .lst [], .lst [.loc S.length, .loc (S.length + 1)]])) : PM.wpE C (.lst [(.lst []), (.lst [])]) ρ S Q E := by
  simp only [PM.wpE, PM.wpEs, List.length_append, List.length_cons, List.length_nil, List.append_assoc, List.cons_append, List.nil_append, Nat.reduceAdd, Nat.zero_add]
  exact h
theorem set_self {α : Type} {l : List α} {n : Nat} {o : α} (h : l[n]? = some o) : l.set n o = l := by
  apply List.ext_getElem?
  intro i
  rw [List.getElem?_set]
  by_cases e : n = i
  · subst e
    rw [if_pos rfl, if_pos (List.getElem?_eq_some_iff.mp h).1, h]
  · rw [if_neg e]
theorem known_app {S : Sto} {o : SObj} {v : Val} (h : known S v = true) : known (S ++ [o]) v = true := by
  cases v with
  | loc n =>
    simp only [known] at h ⊢
    rw [lstAt_app (lstAt_lt h)]
    exact h
  | cst n x => exact h
  | _ => rfl
/-- a comprehension over a tuple, each turn a value by a function -/
theorem lc_pure {S : Sto} {step : Val → Sto → (Option Val → Sto → Prop) → Prop} {Q : VQ} {f : Val → Val} (P : Sto → Prop) (hP : ∀ xs, P (S ++ [.lst xs])) : ∀ (items acc : List Val), acc.length + items.length ≤ big →
    (∀ x ∈ items, ∀ S' K, P S' → step x S' K = K (some (f x)) S') → lcS [] S.length step Q items acc (S ++ [.lst acc]) = Q (.loc S.length) (S ++ [.lst (acc ++ items.map f)])
  | [], acc, _, _ => by simp [lcS, gdS]
  | x :: r, acc, hl, hs => by
    have ih := lc_pure (Q := Q) P hP r (acc ++ [f x]) (by simp at hl ⊢; omega) fun y hy => hs y (List.mem_cons_of_mem _ hy)
    simp only [lcS, gdS, true_and]
    rw [hs x List.mem_cons_self _ _ (hP acc)]
    have hb : acc.length < big := by simp at hl; omega
    simp only [get_new, set_new, ih, hb, true_and, List.map_cons, List.append_assoc, List.cons_append, List.nil_append]
theorem blS_map (f : Val → Bool) : ∀ xs : List Val, blS (xs.map fun x => .bl (f x)) = some (xs.map f)
  | [] => rfl
  | x :: xs => by simp [blS, blS_map f xs]
theorem r_str {S : Sto} {cst : Nat → Option (Str × List (Str × Val))} {a : Str} : mtT cst .join S (.str a) = True ∧ mtT cst .starts S (.str a) = True ∧ mtT cst .split S (.str a) = True ∧ mtT cst .rstrp S (.str a) = True ∧ mtT cst .rmpre S (.str a) = True ∧ mtT cst .isasc S (.str a) = True ∧ mtT cst .isdig S (.str a) = True := by
  simp only [mtT, and_self]
theorem m_join {S : Sto} {cst : Nat → Option (Str × List (Str × Val))} {n : Nat} {a : Str} {xs : List Val} {ys : List Str} (h : lstAt S n = some xs) (h2 : strS xs = some ys) {Q : VQ} : mtS cst .join (.str a) [.loc n] S Q = ((ys.map (·.length)).sum + ys.length * a.length ≤ big ∧ Q (.str (Txt.join a ys)) S) := by simp only [mtS, h, Option.bind_some, h2]
theorem m_starts {S : Sto} {cst : Nat → Option (Str × List (Str × Val))} {a b : Str} {Q : VQ} : mtS cst .starts (.str a) [.str b] S Q = Q (.bl (Txt.startswith a b)) S := by simp only [mtS]
theorem m_split {S : Sto} {cst : Nat → Option (Str × List (Str × Val))} {a b : Str} {Q : VQ} : mtS cst .split (.str a) [.str b] S Q = (((b.length == 0) = false ∧ a.length + 2 ≤ big) ∧ Q (.loc S.length) (S ++ [.lst ((Txt.split a b).map Val.str)])) := by simp only [mtS]
theorem m_rstrp {S : Sto} {cst : Nat → Option (Str × List (Str × Val))} {a b : Str} {Q : VQ} : mtS cst .rstrp (.str a) [.str b] S Q = (a.length ≤ big ∧ Q (.str (Txt.rstripChars a b)) S) := by simp only [mtS]
theorem m_rmpre {S : Sto} {cst : Nat → Option (Str × List (Str × Val))} {a b : Str} {Q : VQ} : mtS cst .rmpre (.str a) [.str b] S Q = (a.length ≤ big ∧ Q (.str (Txt.removeprefix a b)) S) := by simp only [mtS]
theorem m_isasc {S : Sto} {cst : Nat → Option (Str × List (Str × Val))} {a : Str} {Q : VQ} : mtS cst .isasc (.str a) [] S Q = Q (.bl (Txt.isascii a)) S := by simp only [mtS]
theorem m_isdig {S : Sto} {cst : Nat → Option (Str × List (Str × Val))} {a : Str} {Q : VQ} : mtS cst .isdig (.str a) [] S Q = Q (.bl (Txt.isdigit a)) S := by simp only [mtS]
theorem strS_map (ys : List Str) : strS (ys.map Val.str) = some ys := by
  induction ys with
  | nil => rfl
  | cons y ys ih => simp [strS, ih]
end PM

namespace PM
open PySem PySem.Spec PyProof.Rows L2

/-! ### what is known of a store stays -/
def Sub (S S' : Sto) : Prop := ∀ (l : Nat) (o : SObj), S[l]? = some o → S'[l]? = some o
/-- all but some places -/
def SubX (w : List Nat) (S S' : Sto) : Prop := ∀ (l : Nat) (o : SObj), l ∉ w → S[l]? = some o → S'[l]? = some o
section
variable {S S' S'' : Sto}
theorem Sub.refl : Sub S S := fun _ _ h => h
theorem Sub.trans (a : Sub S S') (b : Sub S' S'') : Sub S S'' := fun l o h => b l o (a l o h)
theorem Sub.app {t : Sto} : Sub S (S ++ t) := fun l o h => by rw [List.getElem?_append_left (List.getElem?_eq_some_iff.mp h).1]; exact h
theorem Sub.len (a : Sub S S') : S.length ≤ S'.length := by
  by_cases h : S.length = 0
  · omega
  · have hl : S.length - 1 < S.length := by omega
    have := (List.getElem?_eq_some_iff.mp (a (S.length - 1) _ (List.getElem?_eq_getElem hl))).1
    omega
theorem Sub.setN {l : Nat} {o : SObj} (a : Sub S S') (h : S.length ≤ l) : Sub S (S'.set l o) := fun k u e => by
  have := (List.getElem?_eq_some_iff.mp e).1
  rw [List.getElem?_set_ne (by omega)]
  exact a k u e
theorem Sub.lst {n : Nat} {xs : List Val} (a : Sub S S') (h : lstAt S n = some xs) : lstAt S' n = some xs := by
  unfold lstAt at h ⊢
  cases e : S[n]? with
  | none => rw [e] at h; cases h
  | some o => rw [a n o e]; rw [e] at h; exact h
theorem Sub.gd (a : Sub S S') : ∀ {g : List (Nat × List Val)}, gdS g S → gdS g S'
  | [], _ => trivial
  | _ :: _, h => ⟨a.lst h.1, Sub.gd a h.2⟩
theorem Sub.toX {w : List Nat} (a : Sub S S') : SubX w S S' := fun l o _ h => a l o h
theorem SubX.trans {w : List Nat} (a : SubX w S S') (b : SubX w S' S'') : SubX w S S'' := fun l o h e => b l o h (a l o h e)
theorem SubX.mono {w v : List Nat} (a : SubX w S S') (h : ∀ x ∈ w, x ∈ v) : SubX v S S' := fun l o hv e => a l o (fun z => hv (h l z)) e
theorem SubX.set {w : List Nat} {l : Nat} {o : SObj} (h : l ∈ w) : SubX w S (S.set l o) := fun k u hk e => by
  rw [List.getElem?_set_ne (fun z => hk (by rw [← z]; exact h))]
  exact e
theorem get_lt {l : Nat} {o : SObj} (h : S[l]? = some o) : l < S.length := (List.getElem?_eq_some_iff.mp h).1
end

/-! ### comprehensions whose turns only add to the store -/
theorem lc_sub {gd : List (Nat × List Val)} {step : Val → Sto → (Option Val → Sto → Prop) → Prop} {Q : VQ} {S1 : Sto} {ys : List Val} (F : Val → Option Val) (hg : gdS gd S1) (hl : ys.length ≤ big)
    (hs : ∀ x ∈ ys, ∀ (S : Sto) (K : Option Val → Sto → Prop), Sub S1 S → (∀ S', Sub S S' → K (F x) S') → step x S K)
    (k : ∀ S', Sub S1 S' → S'[S1.length]? = some (.lst (ys.filterMap F)) → Q (.loc S1.length) S') : lcS gd S1.length step Q ys [] (S1 ++ [.lst []]) := by
  have main : ∀ (xs : List Val) (acc : List Val) (S : Sto), acc.length + xs.length ≤ big → (∀ x ∈ xs, x ∈ ys) → Sub S1 S → S[S1.length]? = some (.lst acc) → acc ++ xs.filterMap F = ys.filterMap F → lcS gd S1.length step Q xs acc S := by
    intro xs
    induction xs with
    | nil =>
      intro acc S _ _ s h e
      simp only [List.filterMap_nil, List.append_nil] at e
      rw [lcS]
      exact ⟨s.gd hg, k S s (by rw [← e]; exact h)⟩
    | cons x xs ih =>
      intro acc S hb hm s h e
      rw [lcS]
      simp only [List.length_cons] at hb
      refine ⟨s.gd hg, hs x (hm x List.mem_cons_self) S _ s fun S' s' => ?_⟩
      have h' := s' _ _ h
      cases hF : F x with
      | none =>
        simp only [hF, List.filterMap_cons] at e
        exact ⟨h', ih acc S' (by omega) (fun y hy => hm y (List.mem_cons_of_mem _ hy)) (s.trans s') h' e⟩
      | some y =>
        simp only [hF, List.filterMap_cons] at e
        refine ⟨h', by omega, ih (acc ++ [y]) _ (by simp; omega) (fun y hy => hm y (List.mem_cons_of_mem _ hy)) ((s.trans s').setN (Nat.le_refl _)) ?_ (by rw [List.append_assoc]; exact e)⟩
        rw [List.getElem?_set, if_pos rfl, if_pos (get_lt h')]
  exact main ys [] (S1 ++ [.lst []]) (by simpa using hl) (fun _ h => h) Sub.app (by simp) rfl
/-- the same where each turn's value is known by a relation that stays -/
inductive Rows2 (R : Val → Val → Sto → Prop) (S : Sto) : List Val → List Val → Prop
  | nil : Rows2 R S [] []
  | cons {x y : Val} {xs ys : List Val} : R x y S → Rows2 R S xs ys → Rows2 R S (x :: xs) (y :: ys)
theorem Rows2.mono {R : Val → Val → Sto → Prop} {S S' : Sto} (h : ∀ x y, R x y S → R x y S') : ∀ {xs ys : List Val}, Rows2 R S xs ys → Rows2 R S' xs ys
  | _, _, .nil => .nil
  | _, _, .cons a r => .cons (h _ _ a) (Rows2.mono h r)
theorem Rows2.snoc {R : Val → Val → Sto → Prop} {S : Sto} {x y : Val} : ∀ {xs ys : List Val}, Rows2 R S xs ys → R x y S → Rows2 R S (xs ++ [x]) (ys ++ [y])
  | _, _, .nil, h => .cons h .nil
  | _, _, .cons a r, h => .cons a (Rows2.snoc r h)
theorem Rows2.len {R : Val → Val → Sto → Prop} {S : Sto} : ∀ {xs ys : List Val}, Rows2 R S xs ys → xs.length = ys.length
  | _, _, .nil => rfl
  | _, _, .cons _ r => by simp [Rows2.len r]
theorem Rows2.get {R : Val → Val → Sto → Prop} {S : Sto} : ∀ {xs ys : List Val} {i : Nat} {x : Val}, Rows2 R S xs ys → xs[i]? = some x → ∃ y, ys[i]? = some y ∧ R x y S
  | _, _, _, _, .nil, h => by simp at h
  | _, _, 0, _, .cons a r, h => by cases (show some _ = some _ from h); exact ⟨_, rfl, a⟩
  | _, _, i + 1, _, .cons a r, h => Rows2.get r (i := i) (by simpa using h)
theorem lc_rel {gd : List (Nat × List Val)} {step : Val → Sto → (Option Val → Sto → Prop) → Prop} {Q : VQ} {S1 : Sto} {ys : List Val} (R : Val → Val → Sto → Prop) (hg : gdS gd S1) (hl : ys.length ≤ big)
    (hR : ∀ x y S o, R x y S → R x y (S.set S1.length o)) (hR2 : ∀ x y S S', Sub S S' → R x y S → R x y S')
    (hs : ∀ x ∈ ys, ∀ (S : Sto) (K : Option Val → Sto → Prop), Sub S1 S → S1.length < S.length → (∀ y S', Sub S S' → R x y S' → K (some y) S') → step x S K)
    (k : ∀ S' zs, Sub S1 S' → S'[S1.length]? = some (.lst zs) → Rows2 R S' ys zs → Q (.loc S1.length) S') : lcS gd S1.length step Q ys [] (S1 ++ [.lst []]) := by
  have main : ∀ (xs pre : List Val) (acc : List Val) (S : Sto), acc.length + xs.length ≤ big → pre ++ xs = ys → Sub S1 S → S[S1.length]? = some (.lst acc) → Rows2 R S pre acc → lcS gd S1.length step Q xs acc S := by
    intro xs
    induction xs with
    | nil =>
      intro pre acc S _ e s h r
      rw [List.append_nil] at e
      subst e
      rw [lcS]
      exact ⟨s.gd hg, k S acc s h r⟩
    | cons x xs ih =>
      intro pre acc S hb e s h r
      rw [lcS]
      simp only [List.length_cons] at hb
      refine ⟨s.gd hg, hs x (by rw [← e]; simp) S _ s (get_lt h) fun y S' s' ry => ?_⟩
      have h' := s' _ _ h
      refine ⟨h', by omega, ih (pre ++ [x]) (acc ++ [y]) _ (by simp; omega) (by rw [List.append_assoc]; exact e) ((s.trans s').setN (Nat.le_refl _)) ?_ ?_⟩
      · rw [List.getElem?_set, if_pos rfl, if_pos (get_lt h')]
      · exact Rows2.snoc (Rows2.mono (fun a b q => hR a b S' _ (hR2 a b S S' s' q)) r) (hR x y S' _ ry)
  exact main ys [] [] (S1 ++ [.lst []]) (by simpa using hl) rfl Sub.app (by simp) .nil

/-! ### dicts with keys 0 .. c-1 -/
def rngK (c : Nat) (g : Nat → Val) : List (L2.Key × Val) := (List.range c).map fun (p : Nat) => (.inl ((p : Nat) : Int), g p)
theorem getK_rng {c : Nat} {g : Nat → Val} {i : Nat} (h : i < c) : getK (rngK c g) (.inl (i : Int)) = some (g i) := by
  unfold getK rngK
  have : ∀ (l : List Nat), i ∈ l → ((l.map fun (p : Nat) => ((.inl ((p : Nat) : Int) : L2.Key), g p)).find? fun kv => decide (kv.1 = .inl (i : Int))) = some (.inl (i : Int), g i) := by
    intro l
    induction l with
    | nil => intro h; cases h
    | cons p l ih =>
      intro h
      simp only [List.map_cons, List.find?_cons]
      by_cases e : p = i
      · subst e; simp
      · have : decide ((.inl (p : Int) : L2.Key) = .inl (i : Int)) = false := decide_eq_false (fun z => e (by cases z; rfl))
        rw [this]
        rcases List.mem_cons.mp h with h | h
        · exact absurd h.symm e
        · exact ih h
  rw [this _ (List.mem_range.mpr h)]
  rfl
theorem getK_rng_none {c : Nat} {g : Nat → Val} {i : Int} (h : i < 0 ∨ (c : Int) ≤ i) : getK (rngK c g) (.inl i) = none := by
  unfold getK rngK
  rw [Option.map_eq_none_iff, List.find?_eq_none]
  intro x hx
  obtain ⟨p, hp, rfl⟩ := List.mem_map.mp hx
  have := List.mem_range.mp hp
  simp only [decide_eq_true_eq]
  intro z
  cases z
  omega
theorem setK_rng {c : Nat} {g : Nat → Val} {i : Nat} {v : Val} (h : i < c) : setK (rngK c g) (.inl (i : Int)) v = rngK c fun p => if p = i then v else g p := by
  unfold setK rngK
  rw [if_pos ?_]
  · rw [List.map_map]
    refine List.map_congr_left fun p hp => ?_
    simp only [Function.comp_apply]
    by_cases e : p = i
    · subst e; simp
    · rw [if_neg e, if_neg (fun z => e (by cases z; rfl))]
  · rw [List.any_eq_true]
    exact ⟨_, List.mem_map.mpr ⟨i, List.mem_range.mpr h, rfl⟩, by simp⟩
theorem len_rng {c : Nat} {g : Nat → Val} : (rngK c g).length = c := by simp [rngK]
theorem rngK_congr {c : Nat} {g f : Nat → Val} (h : ∀ p, p < c → g p = f p) : rngK c g = rngK c f := by
  unfold rngK
  exact List.map_congr_left fun p hp => by rw [h p (List.mem_range.mp hp)]
/-- a dict comprehension over range(c): the values by a relation that stays -/
theorem dc_rng {step : Val → Sto → (Val → Val → Sto → Prop) → Prop} {Q : VQ} {S1 : Sto} {c : Nat} (R : Nat → Val → Sto → Prop) (hc : c ≤ 1000)
    (hR : ∀ p y S o, R p y S → R p y (S.set S1.length o)) (hR2 : ∀ p y S S', Sub S S' → R p y S → R p y S')
    (hs : ∀ p, p < c → ∀ (S : Sto) (K : Val → Val → Sto → Prop), Sub S1 S → S1.length < S.length → (∀ y S', Sub S S' → R p y S' → K (.int (p : Int)) y S') → step (.int (p : Int)) S K)
    (k : ∀ S' g, Sub S1 S' → S'[S1.length]? = some (.dK (rngK c g)) → (∀ p, p < c → R p (g p) S') → Q (.loc S1.length) S') :
    dcS [] S1.length step Q ((List.range' 0 c).map fun (i : Nat) => Val.int (i : Int)) [] (S1 ++ [.dK []]) := by
  have main : ∀ (m j : Nat) (g : Nat → Val) (S : Sto), j + m = c → Sub S1 S → S[S1.length]? = some (.dK (rngK j g)) → (∀ p, p < j → R p (g p) S) → dcS [] S1.length step Q ((List.range' j m).map fun (i : Nat) => Val.int (i : Int)) (rngK j g) S := by
    intro m
    induction m with
    | zero =>
      intro j g S e s h r
      simp only [List.range'_zero, List.map_nil]
      rw [dcS]
      have : j = c := by omega
      subst this
      exact ⟨trivial, k S g s h r⟩
    | succ m ih =>
      intro j g S e s h r
      rw [List.range'_succ, List.map_cons, dcS]
      refine ⟨trivial, hs j (by omega) S _ s (get_lt h) fun y S' s' ry => ?_⟩
      have h' := s' _ _ h
      show S'[S1.length]? = some (.dK (rngK j g)) ∧ (rngK j g).length < big ∧ _
      have e2 : setK (rngK j g) (.inl (j : Int)) y = rngK (j + 1) fun p => if p = j then y else g p := by
        unfold setK
        rw [if_neg ?_]
        · unfold rngK
          rw [List.range_succ, List.map_append]
          congr 1
          · refine List.map_congr_left fun p hp => ?_
            have := List.mem_range.mp hp
            show _ = (_, if p = j then y else g p)
            rw [if_neg (by omega)]
          · simp
        · rw [List.any_eq_true]
          rintro ⟨x, hx, hk⟩
          obtain ⟨p, hp, rfl⟩ := List.mem_map.mp hx
          have := List.mem_range.mp hp
          simp only [decide_eq_true_eq] at hk
          cases hk
          omega
      refine ⟨h', by rw [len_rng]; unfold big; omega, ?_⟩
      rw [e2]
      refine ih (j + 1) _ _ (by omega) ((s.trans s').setN (Nat.le_refl _)) ?_ fun p hp => ?_
      · rw [List.getElem?_set, if_pos rfl, if_pos (get_lt h')]
      · by_cases hj : p = j
        · subst hj
          rw [if_pos rfl]
          exact hR _ _ _ _ ry
        · rw [if_neg hj]
          exact hR _ _ _ _ (hR2 _ _ S S' s' (r p (by omega)))
  have := main c 0 (fun _ => .non) (S1 ++ [.dK []]) (by omega) Sub.app (by simp [rngK]) (fun p hp => by omega)
  exact this
/-! ### comprehensions, loops, by what they walk -/
theorem lcE {C : Cenv} {k : ItK} {its : List ME} {own : List Nat} {tg : Tg} {ifs : List ME} {elt : ME} {ρ : LE} {S : Sto} {Q : VQ} {E : XQ} : PM.wpE C (.lc k its own tg ifs elt) ρ S Q E = PM.wpEs C its ρ S (fun xs S1 => ∃ ys g, itS k xs S1 = some (ys, g) ∧
      lcS g S1.length (fun x S2 K => bindT tg x (wipeL ρ own) fun ρ2 => PM.wpA C ifs ρ2 S2 (fun b S3 => if b = true then PM.wpE C elt ρ2 S3 (fun y S4 => K (some y) S4) (fun _ _ _ => False) else K none S3) (fun _ _ _ => False)) Q ys [] (S1 ++ [.lst []])) E := by
  rw [nE20]
  refine congrArg (fun R => PM.wpEs C its ρ S R E) (funext fun xs => funext fun S1 => ?_)
  cases hi : itS k xs S1 with
  | none => exact propext ⟨False.elim, fun ⟨_, _, e, _⟩ => (by cases e)⟩
  | some p =>
    obtain ⟨ys, g⟩ := p
    exact propext ⟨fun h => ⟨ys, g, rfl, h⟩, fun ⟨_, _, e, h⟩ => by cases e; exact h⟩
theorem lcW {C : Cenv} {k : ItK} {its : List ME} {own : List Nat} {tg : Tg} {ifs : List ME} {elt : ME} {ρ : LE} {S : Sto} {Q : VQ} {E : XQ} (h : PM.wpEs C its ρ S (fun xs S1 => ∃ ys g, itS k xs S1 = some (ys, g) ∧
      lcS g S1.length (fun x S2 K => bindT tg x (wipeL ρ own) fun ρ2 => PM.wpA C ifs ρ2 S2 (fun b S3 => if b = true then PM.wpE C elt ρ2 S3 (fun y S4 => K (some y) S4) (fun _ _ _ => False) else K none S3) (fun _ _ _ => False)) Q ys [] (S1 ++ [.lst []])) E) :
    PM.wpE C (.lc k its own tg ifs elt) ρ S Q E := by
  rw [lcE]
  exact h
theorem frE {C : Cenv} {tg : Tg} {k : ItK} {its : List ME} {b : List MS} {D : ED} {ρ : LE} {S : Sto} : PM.wpS C (.fr tg k its b) D ρ S = PM.wpEs C its ρ S (fun xs S1 => ∃ ys g, itS k xs S1 = some (ys, g) ∧ forS g tg (fun D => PM.wpSs C b D) D ys ρ S1) (fun c vs => D.xn c vs ρ) := by
  rw [nS8]
  refine congrArg (fun R => PM.wpEs C its ρ S R (fun c vs => D.xn c vs ρ)) (funext fun xs => funext fun S1 => ?_)
  cases hi : itS k xs S1 with
  | none => exact propext ⟨False.elim, fun ⟨_, _, e, _⟩ => (by cases e)⟩
  | some p =>
    obtain ⟨ys, g⟩ := p
    exact propext ⟨fun h => ⟨ys, g, rfl, h⟩, fun ⟨_, _, e, h⟩ => by cases e; exact h⟩
theorem dcW {C : Cenv} {k : ItK} {its : List ME} {own : List Nat} {tg : Tg} {ke ve : ME} {ρ : LE} {S : Sto} {Q : VQ} {E : XQ} {xs ys : List Val} {g : List (Nat × List Val)} (hs : ∀ R : List Val → Sto → Prop, R xs S → PM.wpEs C its ρ S R E) (hi : itS k xs S = some (ys, g))
    (h : dcS g S.length (fun x S2 K => bindT tg x (wipeL ρ own) fun ρ2 => PM.wpE C ke ρ2 S2 (fun y S3 => PM.wpE C ve ρ2 S3 (fun z S4 => K y z S4) (fun _ _ _ => False)) (fun _ _ _ => False)) Q ys [] (S ++ [.dK []])) :
    PM.wpE C (.dc k its own tg ke ve) ρ S Q E := by
  rw [nE26]
  refine hs _ ?_
  show (match itS k xs S with | none => False | some (ys, g) => _)
  rw [hi]
  exact h
theorem frW {C : Cenv} {tg : Tg} {k : ItK} {its : List ME} {b : List MS} {D : ED} {ρ : LE} {S : Sto} {xs ys : List Val} {g : List (Nat × List Val)} (hs : ∀ R : List Val → Sto → Prop, R xs S → PM.wpEs C its ρ S R (fun c vs => D.xn c vs ρ)) (hi : itS k xs S = some (ys, g))
    (h : forS g tg (fun D => PM.wpSs C b D) D ys ρ S) : PM.wpS C (.fr tg k its b) D ρ S := by
  rw [nS8]
  refine hs _ ?_
  show (match itS k xs S with | none => False | some (ys, g) => _)
  rw [hi]
  exact h
/-- one dict of new lists -/
theorem dc_nil {C : Cenv} {ρ : LE} {S : Sto} {Q : VQ} {E : XQ} {c v x : Nat} (hv : ρ[v]? = some (some (.int (c : Int)))) (hx : x < ρ.length) (hc : c ≤ 1000)
    (k : ∀ S' g, Sub S S' → S'[S.length]? = some (.dK (rngK c g)) → (∀ p, p < c → ∃ m, g p = .loc m ∧ S.length < m ∧ S'[m]? = some (.lst [])) → Q (.loc S.length) S') :
    PM.wpE C (.dc .range [(.var v)] [x] (.nm x) (.var x) (.lst [])) ρ S Q E := by
  refine dcW (xs := [.int (c : Int)]) (fun R h => ?_) (it_range (by omega)) ?_
  · rw [nEs2, nE1]
    simp only [hv, nEs1]
    exact h
  refine dc_rng (R := fun p y T => ∃ m, y = .loc m ∧ S.length < m ∧ T[m]? = some (.lst [])) hc (fun p y T u h => ?_) (fun p y T T' s h => ?_) (fun p hp T K s hl k2 => ?_) fun S' g s h1 h2 => k S' g s h1 h2
  · obtain ⟨m, e, h1, h2⟩ := h
    exact ⟨m, e, h1, by rw [List.getElem?_set_ne (by omega)]; exact h2⟩
  · obtain ⟨m, e, h1, h2⟩ := h
    exact ⟨m, e, h1, s _ _ h2⟩
  · have e : ((wipeL ρ [x]).set x (some (.int (p : Int))))[x]? = some (some (.int (p : Int))) := by
      rw [List.getElem?_set, if_pos rfl, if_pos (by simp [wipeL]; exact hx)]
    simp only [bindT, nE1, e, nE12, nEs1]
    exact k2 _ _ Sub.app ⟨_, rfl, hl, get_new⟩
/-- one dict of the same value -/
theorem dc_same {C : Cenv} {ρ : LE} {S : Sto} {Q : VQ} {E : XQ} {c v x : Nat} {e : ME} {y : Val} (hv : ρ[v]? = some (some (.int (c : Int)))) (hx : x < ρ.length) (hc : c ≤ 1000)
    (he : ∀ (ρ' : LE) (S' : Sto) (Q' : VQ), Q' y S' → PM.wpE C e ρ' S' Q' (fun _ _ _ => False))
    (k : ∀ S', Sub S S' → S'[S.length]? = some (.dK (rngK c fun _ => y)) → Q (.loc S.length) S') :
    PM.wpE C (.dc .range [(.var v)] [x] (.nm x) (.var x) e) ρ S Q E := by
  refine dcW (xs := [.int (c : Int)]) (fun R h => ?_) (it_range (by omega)) ?_
  · rw [nEs2, nE1]
    simp only [hv, nEs1]
    exact h
  refine dc_rng (R := fun p z T => z = y) hc (fun p y T u h => h) (fun p y T T' s h => h) (fun p hp T K s hl k2 => ?_) fun S' g s h1 h2 => k S' s (by rw [h1, rngK_congr h2])
  have e : ((wipeL ρ [x]).set x (some (.int (p : Int))))[x]? = some (some (.int (p : Int))) := by
    rw [List.getElem?_set, if_pos rfl, if_pos (by simp [wipeL]; exact hx)]
  simp only [bindT, nE1, e]
  exact he _ _ _ (k2 _ _ Sub.refl rfl)
theorem S_fsetE {C : Cenv} {o e : ME} {a : Nat} {D : ED} {ρ : LE} {S : Sto} (h : PM.wpE C e ρ S (fun v S1 => PM.wpE C o ρ S1 (fun x S2 => fsetS C.fok x a v S2 fun S3 => D.nx ρ S3) (fun c vs => D.xn c vs ρ)) (fun c vs => D.xn c vs ρ)) : PM.wpS C (.fset o a e) D ρ S := by
  rw [PM.wpS]; exact h
/-- a loop by an invariant -/
theorem for_inv {g : List (Nat × List Val)} {tg : Tg} {body : ED → LE → Sto → Prop} {D : ED} {ys : List Val} {ρ : LE} {S : Sto} (I : Nat → LE → Sto → Prop) (h0 : I 0 ρ S)
    (hs : ∀ i x ρ S (K : LE → Sto → Prop), ys[i]? = some x → I i ρ S → (∀ ρ' S', I (i + 1) ρ' S' → K ρ' S') → gdS g S ∧ bindT tg x ρ fun ρ2 => body { D with nx := K, ct := K, bk := D.nx } ρ2 S)
    (he : ∀ ρ S, I ys.length ρ S → gdS g S ∧ D.nx ρ S) : forS g tg body D ys ρ S := by
  have main : ∀ (xs pre : List Val) (ρ : LE) (S : Sto), pre ++ xs = ys → I pre.length ρ S → forS g tg body D xs ρ S := by
    intro xs
    induction xs with
    | nil =>
      intro pre ρ S e h
      rw [List.append_nil] at e
      subst e
      rw [forS]
      exact he ρ S h
    | cons x xs ih =>
      intro pre ρ S e h
      rw [forS]
      have hx : ys[pre.length]? = some x := by rw [← e]; simp
      exact hs pre.length x ρ S _ hx h fun ρ' S' h' => ih (pre ++ [x]) ρ' S' (by rw [List.append_assoc]; exact e) (by simpa using h')
  exact main ys [] ρ S rfl h0
theorem put_get {S : Sto} {q : Nat} {o : SObj} (h : q < S.length) : (S.set q o)[q]? = some o := by rw [List.getElem?_set, if_pos rfl, if_pos h]
theorem it_seq {S : Sto} {n : Nat} {ys : List Val} (h : lstAt S n = some ys) : itS .seq [.loc n] S = some (ys, [(n, ys)]) := by simp only [itS, h, Option.map_some]
theorem it_seqt {S : Sto} {ys : List Val} : itS .seq [.tup ys] S = some (ys, []) := by simp only [itS]
/-- a list of new lists -/
theorem lc_nils {S : Sto} {Q : VQ} {c : Nat} {step : Val → Sto → (Option Val → Sto → Prop) → Prop} (hc : c ≤ 1000) (hs : ∀ x S K, K (some (.loc S.length)) (S ++ [.lst []]) → step x S K)
    (k : ∀ S' xs, Sub S S' → S'[S.length]? = some (.lst xs) → xs.length = c → (∀ p, p < c → ∃ m, xs[p]? = some (.loc m) ∧ S.length < m ∧ S'[m]? = some (.lst [])) → Q (.loc S.length) S') :
    lcS [] S.length step Q ((List.range' 0 c).map fun (i : Nat) => Val.int (i : Int)) [] (S ++ [.lst []]) := by
  refine lc_rel (fun x y T => ∃ m, y = .loc m ∧ S.length < m ∧ T[m]? = some (.lst [])) trivial (by simp [big]; omega) (fun x y T o h => ?_) (fun x y T T' s h => ?_) (fun x hx T K s hl k2 => ?_) fun S' zs s h1 h2 => ?_
  · obtain ⟨m, e, h1, h2⟩ := h
    exact ⟨m, e, h1, by rw [List.getElem?_set_ne (by omega)]; exact h2⟩
  · obtain ⟨m, e, h1, h2⟩ := h
    exact ⟨m, e, h1, s _ _ h2⟩
  · exact hs x T K (k2 _ _ Sub.app ⟨_, rfl, hl, get_new⟩)
  · refine k S' zs s h1 (by have := h2.len; simpa using this.symm) fun p hp => ?_
    obtain ⟨y, e, m, rfl, q1, q2⟩ := h2.get (i := p) (x := .int (p : Int)) (by
      rw [List.getElem?_map, List.getElem?_range' hp]
      simp)
    exact ⟨m, e, q1, q2⟩
end PM

namespace My
open PySem PM L2
/-! texts:is_integer(value, least, greatest); slots: 0:value 1:least 2:greatest -/
def b0_0 : MS := .ret (.bool true [(.tyc true (.var 0) .int), (.chain .le .le (.var 1) (.var 0) (.var 2))])
def b0 : List MS := [b0_0]
def d0 : MD := ⟨3, 3, b0⟩
/-! payloads:is_group(count); slots: 0:count -/
def b1_0 : MS := .ret (.call 0 [(.var 0), (.lit (.int 1)), (.glo 0)])
def b1 : List MS := [b1_0]
def d1 : MD := ⟨1, 1, b1⟩
/-! payloads:is_process(count, value); slots: 0:count 1:value -/
def b2_0 : MS := .ret (.bool true [(.call 1 [(.var 0)]), (.call 0 [(.var 1), (.lit (.int 0)), (.bin .sub (.var 0) (.lit (.int 1)))])])
def b2 : List MS := [b2_0]
def d2 : MD := ⟨2, 2, b2⟩
/-! payloads:kind_of(value); slots: 0:value -/
def b3_0 : MS := .ite (.bool true [(.tyc true (.var 0) .tuple), (.cmp .gt (.bi .len [(.var 0)]) (.lit (.int 0))), (.tyc true (.ix (.var 0) (.lit (.int 0))) .str)]) [.ret (.ix (.var 0) (.lit (.int 0)))] []
def b3_1 : MS := .ret (.lit .non)
def t3_1 : List MS := [b3_1]
def b3 : List MS := b3_0 :: t3_1
def d3 : MD := ⟨1, 1, b3⟩
/-! payloads:is_payload(count, value); slots: 0:count 1:value -/
def b4_0 : MS := .ret (.bool true [(.call 1 [(.var 0)]), (.call 5 [(.var 0), (.var 1), (.glo 4)])])
def b4 : List MS := [b4_0]
def d4 : MD := ⟨2, 2, b4⟩
/-! payloads:_is_nested(count, value, most); slots: 0:count 1:value 2:most 3:forms 4:form 5:item -/
def b5_0 : MS := .ite (.cmp .eq (.var 2) (.lit (.int 0))) [.ret (.lit (.bl false))] []
def b5_1 : MS := .asg (.nm 3) (.mt .get1 (.glo 7) [(.call 3 [(.var 1)])])
def b5_2 : MS := .ite (.bool false [(.cmp .is_ (.var 3) (.lit .non)), (.cmp .ne (.bi .len [(.var 1)]) (.bin .add (.bi .len [(.var 3)]) (.lit (.int 1))))]) [.ret (.lit (.bl false))] []
def b5_3 : MS := .ret (.bi .all [(.lc .zip [(.var 3), (.sl (.var 1) [(.lit (.int 1))] [])] [4, 5] (.tp [4, 5]) [] (.call 6 [(.var 0), (.var 4), (.var 5), (.bin .sub (.var 2) (.lit (.int 1)))]))])
def t5_3 : List MS := [b5_3]
def t5_2 : List MS := b5_2 :: t5_3
def t5_1 : List MS := b5_1 :: t5_2
def b5 : List MS := b5_0 :: t5_1
def d5 : MD := ⟨3, 6, b5⟩
/-! payloads:_is_item(count, form, value, most); slots: 0:count 1:form 2:value 3:most -/
def b6_0 : MS := .ite (.cmp .eq (.var 1) (.lit (.str "cell"))) [.ret (.call 0 [(.var 2), (.lit (.int 0)), (.bin .sub (.glo 2) (.lit (.int 1)))])] []
def b6_1 : MS := .ite (.cmp .eq (.var 1) (.lit (.str "value"))) [.ret (.call 0 [(.var 2), (.neg (.glo 3)), (.glo 3)])] []
def b6_2 : MS := .ite (.cmp .eq (.var 1) (.lit (.str "process"))) [.ret (.call 2 [(.var 0), (.var 2)])] []
def b6_3 : MS := .ret (.call 5 [(.var 0), (.var 2), (.var 3)])
def t6_3 : List MS := [b6_3]
def t6_2 : List MS := b6_2 :: t6_3
def t6_1 : List MS := b6_1 :: t6_2
def b6 : List MS := b6_0 :: t6_1
def d6 : MD := ⟨4, 4, b6⟩
/-! payloads:write_payload(count, payload); slots: 0:count 1:payload -/
def b7_0 : MS := .ite (.not (.call 4 [(.var 0), (.var 1)])) [.rs 2 []] []
def b7_1 : MS := .ret (.call 8 [(.var 1)])
def t7_1 : List MS := [b7_1]
def b7 : List MS := b7_0 :: t7_1
def d7 : MD := ⟨2, 2, b7⟩
/-! payloads:_text_of(item); slots: 0:item 1:each -/
def b8_0 : MS := .ite (.tyc false (.var 0) .tuple) [.ret (.bi .str [(.var 0)])] []
def b8_1 : MS := .ret (.bin .add (.bin .add (.lit (.str "(")) (.mt .join (.lit (.str " ")) [(.lc .seq [(.var 0)] [1] (.nm 1) [] (.call 8 [(.var 1)]))])) (.lit (.str ")")))
def t8_1 : List MS := [b8_1]
def b8 : List MS := b8_0 :: t8_1
def d8 : MD := ⟨1, 2, b8⟩
/-! texts:integer_of(word); slots: 0:word 1:digits 2:number -/
def b9_0 : MS := .asg (.nm 1) (.mt .rmpre (.var 0) [(.lit (.str "-"))])
def b9_1 : MS := .ite (.bool false [(.cmp .gt (.bi .len [(.var 1)]) (.glo 8)), (.not (.bool true [(.mt .isasc (.var 1) []), (.mt .isdig (.var 1) [])]))]) [.ret (.lit .non)] []
def b9_2 : MS := .asg (.nm 2) (.bi .int [(.var 0)])
def b9_3 : MS := .ret (.ifx (.cmp .eq (.bi .str [(.var 2)]) (.var 0)) (.var 2) (.lit .non))
def t9_3 : List MS := [b9_3]
def t9_2 : List MS := b9_2 :: t9_3
def t9_1 : List MS := b9_1 :: t9_2
def b9 : List MS := b9_0 :: t9_1
def d9 : MD := ⟨1, 3, b9⟩
/-! payloads:read_payload(count, text); slots: 0:count 1:text 2:payload -/
def b10_0 : MS := .asg (.nm 2) (.ifx (.tyc true (.var 1) .str) (.call 11 [(.var 1)]) (.lit .non))
def b10_1 : MS := .ite (.not (.call 4 [(.var 0), (.var 2)])) [.rs 1 []] []
def b10_2 : MS := .ret (.var 2)
def t10_2 : List MS := [b10_2]
def t10_1 : List MS := b10_1 :: t10_2
def b10 : List MS := b10_0 :: t10_1
def d10 : MD := ⟨2, 3, b10⟩
/-! payloads:_tuple_of(text); slots: 0:text 1:opened 2:word 3:digits 4:_ 5:closed -/
def l11_1_0 : MS := .ex (.mt .append (.var 1) [(.lst [(.sl (.var 2) [(.lit (.int 1))] [])])])
def l11_1_1 : MS := .cnt
def m11_1_1 : List MS := [l11_1_1]
def l11_1 : List MS := l11_1_0 :: m11_1_1
def l11_2_0 : MS := .asg (.nm 5) (.bi .tuple [(.mt .pop (.var 1) [])])
def l11_2_1 : MS := .ite (.cmp .eq (.bi .len [(.var 1)]) (.lit (.int 0))) [.ret (.lit .non)] []
def l11_2_2 : MS := .ex (.mt .append (.ix (.var 1) (.neg (.lit (.int 1)))) [(.var 5)])
def m11_2_2 : List MS := [l11_2_2]
def m11_2_1 : List MS := l11_2_1 :: m11_2_2
def l11_2 : List MS := l11_2_0 :: m11_2_1
def l11_0_0 : MS := .ite (.mt .starts (.var 2) [(.lit (.str "("))]) l11_1 []
def l11_0_1 : MS := .asg (.nm 3) (.mt .rstrp (.var 2) [(.lit (.str ")"))])
def l11_0_2 : MS := .ex (.mt .append (.ix (.var 1) (.neg (.lit (.int 1)))) [(.call 9 [(.var 3)])])
def l11_0_3 : MS := .fr (.nm 4) .range [(.bin .sub (.bi .len [(.var 2)]) (.bi .len [(.var 3)]))] l11_2
def m11_0_3 : List MS := [l11_0_3]
def m11_0_2 : List MS := l11_0_2 :: m11_0_3
def m11_0_1 : List MS := l11_0_1 :: m11_0_2
def l11_0 : List MS := l11_0_0 :: m11_0_1
def b11_0 : MS := .asg (.nm 1) (.lst [(.lst [])])
def b11_1 : MS := .fr (.nm 2) .seq [(.mt .split (.var 0) [(.lit (.str " "))])] l11_0
def b11_2 : MS := .ite (.bool false [(.cmp .ne (.bi .len [(.var 1)]) (.lit (.int 1))), (.cmp .ne (.bi .len [(.ix (.var 1) (.lit (.int 0)))]) (.lit (.int 1)))]) [.ret (.lit .non)] []
def b11_3 : MS := .ret (.ix (.ix (.var 1) (.lit (.int 0))) (.lit (.int 0)))
def t11_3 : List MS := [b11_3]
def t11_2 : List MS := b11_2 :: t11_3
def t11_1 : List MS := b11_1 :: t11_2
def b11 : List MS := b11_0 :: t11_1
def d11 : MD := ⟨1, 6, b11⟩
/-! letters:is_clock(count, value); slots: 0:count 1:value 2:pair -/
def b12_0 : MS := .ite (.bool false [(.not (.call 1 [(.var 0)])), (.tyc false (.var 1) .tuple), (.cmp .ne (.bi .len [(.var 1)]) (.var 0))]) [.ret (.lit (.bl false))] []
def b12_1 : MS := .ret (.bi .all [(.lc .seq [(.var 1)] [2] (.nm 2) [] (.call 13 [(.var 2)]))])
def t12_1 : List MS := [b12_1]
def b12 : List MS := b12_0 :: t12_1
def d12 : MD := ⟨2, 3, b12⟩
/-! letters:_is_pair(value); slots: 0:value 1:version 2:count -/
def b13_0 : MS := .ite (.bool false [(.tyc false (.var 0) .tuple), (.cmp .ne (.bi .len [(.var 0)]) (.lit (.int 2)))]) [.ret (.lit (.bl false))] []
def b13_1 : MS := .asg (.tp [1, 2]) (.var 0)
def b13_2 : MS := .ite (.not (.bool true [(.call 0 [(.var 1), (.lit (.int 0)), (.glo 5)]), (.call 0 [(.var 2), (.lit (.int 0)), (.glo 5)])])) [.ret (.lit (.bl false))] []
def b13_3 : MS := .ret (.bool false [(.cmp .gt (.var 2) (.lit (.int 0))), (.cmp .eq (.var 1) (.lit (.int 0)))])
def t13_3 : List MS := [b13_3]
def t13_2 : List MS := b13_2 :: t13_3
def t13_1 : List MS := b13_1 :: t13_2
def b13 : List MS := b13_0 :: t13_1
def d13 : MD := ⟨1, 3, b13⟩
/-! clocks:zero(count); slots: 0:count -/
def b14_0 : MS := .ret (.bin .mul (.tup [(.tup [(.lit (.int 0)), (.lit (.int 0))])]) (.var 0))
def b14 : List MS := [b14_0]
def d14 : MD := ⟨1, 1, b14⟩
/-! texts:_prints(char); slots: 0:char -/
def b15_0 : MS := .ret (.bool true [(.chain .le .le (.lit (.str " ")) (.var 0) (.lit (.str "~"))), (.cmp .ne (.bi .ord [(.var 0)]) (.glo 9))])
def b15 : List MS := [b15_0]
def d15 : MD := ⟨1, 1, b15⟩
/-! texts:is_printable(value); slots: 0:value 1:char -/
def b16_0 : MS := .ite (.tyc false (.var 0) .str) [.ret (.lit (.bl false))] []
def b16_1 : MS := .ret (.bi .all [(.lc .seq [(.var 0)] [1] (.nm 1) [] (.call 15 [(.var 1)]))])
def t16_1 : List MS := [b16_1]
def b16 : List MS := b16_0 :: t16_1
def d16 : MD := ⟨1, 2, b16⟩
/-! texts:is_output(value); slots: 0:value -/
def b17_0 : MS := .ret (.bool true [(.call 16 [(.var 0)]), (.cmp .le (.bi .len [(.var 0)]) (.glo 6))])
def b17 : List MS := [b17_0]
def d17 : MD := ⟨1, 1, b17⟩
/-! letters:is_letter(count, value); slots: 0:count 1:value 2:forms 3:form 4:item -/
def b18_0 : MS := .asg (.nm 2) (.mt .get1 (.glo 10) [(.call 3 [(.var 1)])])
def b18_1 : MS := .ite (.bool false [(.not (.call 1 [(.var 0)])), (.cmp .is_ (.var 2) (.lit .non)), (.cmp .ne (.bi .len [(.var 1)]) (.bin .add (.bi .len [(.var 2)]) (.lit (.int 1))))]) [.ret (.lit (.bl false))] []
def b18_2 : MS := .ite (.not (.bi .all [(.lc .zip [(.var 2), (.sl (.var 1) [(.lit (.int 1))] [])] [3, 4] (.tp [3, 4]) [] (.call 19 [(.var 0), (.var 3), (.var 4)]))])) [.ret (.lit (.bl false))] []
def b18_3 : MS := .ret (.bool false [(.cmp .ne (.ix (.var 1) (.lit (.int 0))) (.lit (.str "pass"))), (.call 21 [(.ix (.var 1) (.lit (.int 1))), (.ix (.var 1) (.lit (.int 4)))])])
def t18_3 : List MS := [b18_3]
def t18_2 : List MS := b18_2 :: t18_3
def t18_1 : List MS := b18_1 :: t18_2
def b18 : List MS := b18_0 :: t18_1
def d18 : MD := ⟨2, 5, b18⟩
/-! letters:_is_item(count, form, value); slots: 0:count 1:form 2:value -/
def b19_0 : MS := .ite (.cmp .eq (.var 1) (.lit (.str "number"))) [.ret (.call 0 [(.var 2), (.lit (.int 1)), (.glo 5)])] []
def b19_1 : MS := .ite (.cmp .eq (.var 1) (.lit (.str "count"))) [.ret (.call 0 [(.var 2), (.lit (.int 0)), (.glo 5)])] []
def b19_2 : MS := .ite (.cmp .eq (.var 1) (.lit (.str "payload"))) [.ret (.call 4 [(.var 0), (.var 2)])] []
def b19_3 : MS := .ite (.cmp .eq (.var 1) (.lit (.str "clock"))) [.ret (.call 12 [(.var 0), (.var 2)])] []
def b19_4 : MS := .ite (.cmp .eq (.var 1) (.lit (.str "output"))) [.ret (.call 17 [(.var 2)])] []
def b19_5 : MS := .ret (.call 20 [(.var 0), (.var 1), (.var 2)])
def t19_5 : List MS := [b19_5]
def t19_4 : List MS := b19_4 :: t19_5
def t19_3 : List MS := b19_3 :: t19_4
def t19_2 : List MS := b19_2 :: t19_3
def t19_1 : List MS := b19_1 :: t19_2
def b19 : List MS := b19_0 :: t19_1
def d19 : MD := ⟨3, 3, b19⟩
/-! letters:_is_someone(count, form, value); slots: 0:count 1:form 2:value -/
def b20_0 : MS := .ite (.bool true [(.cmp .ne (.var 1) (.lit (.str "process"))), (.call 0 [(.var 2), (.glo 1), (.glo 1)])]) [.ret (.lit (.bl true))] []
def b20_1 : MS := .ret (.bool true [(.cmp .ne (.var 1) (.lit (.str "desk"))), (.call 2 [(.var 0), (.var 2)])])
def t20_1 : List MS := [b20_1]
def b20 : List MS := b20_0 :: t20_1
def d20 : MD := ⟨3, 3, b20⟩
/-! letters:_is_clock_of(sender, clock); slots: 0:sender 1:clock -/
def b21_0 : MS := .ite (.cmp .eq (.var 0) (.glo 1)) [.ret (.cmp .eq (.var 1) (.call 14 [(.bi .len [(.var 1)])]))] []
def b21_1 : MS := .ret (.cmp .ge (.ix (.ix (.var 1) (.var 0)) (.lit (.int 1))) (.lit (.int 1)))
def t21_1 : List MS := [b21_1]
def b21 : List MS := b21_0 :: t21_1
def d21 : MD := ⟨2, 2, b21⟩
/-! letters:check_letter(count, receiver, letter); slots: 0:count 1:receiver 2:letter -/
def b22_0 : MS := .ite (.bool false [(.not (.call 18 [(.var 0), (.var 2)])), (.not (.call 23 [(.var 0), (.var 1), (.var 2)]))]) [.rs 3 []] []
def b22_1 : MS := .ret (.var 2)
def t22_1 : List MS := [b22_1]
def b22 : List MS := b22_0 :: t22_1
def d22 : MD := ⟨3, 3, b22⟩
/-! letters:_is_receiver(count, receiver, letter); slots: 0:count 1:receiver 2:letter 3:form -/
def b23_0 : MS := .asg (.nm 3) (.ixc (.glo 11) (.ix (.var 2) (.lit (.int 0))))
def b23_1 : MS := .ite (.cmp .eq (.var 3) (.lit (.str "another"))) [.ret (.bool true [(.call 2 [(.var 0), (.var 1)]), (.cmp .ne (.var 1) (.ix (.var 2) (.lit (.int 1))))])] []
def b23_2 : MS := .ret (.call 20 [(.var 0), (.var 3), (.var 1)])
def t23_2 : List MS := [b23_2]
def t23_1 : List MS := b23_1 :: t23_2
def b23 : List MS := b23_0 :: t23_1
def d23 : MD := ⟨3, 4, b23⟩
/-! tape:Tape.__init__(self); slots: 0:self -/
def b24_0 : MS := (.fset (.var 0) 2 (.lst []))
def b24_1 : MS := (.fset (.var 0) 3 (.lit (.int 0)))
def b24_2 : MS := (.fset (.var 0) 4 (.lit .non))
def b24_3 : MS := (.fset (.var 0) 5 (.lit (.bl false)))
def t24_3 : List MS := [b24_3]
def t24_2 : List MS := b24_2 :: t24_3
def t24_1 : List MS := b24_1 :: t24_2
def b24 : List MS := b24_0 :: t24_1
def d24 : MD := ⟨1, 1, b24⟩
/-! tape:Tape.append(self, record); slots: 0:self 1:record -/
def b25_0 : MS := .ex (.meth (.var 0) 6 [])
def b25_1 : MS := .ex (.mt .append (.fld (.var 0) 2) [(.var 1)])
def t25_1 : List MS := [b25_1]
def b25 : List MS := b25_0 :: t25_1
def d25 : MD := ⟨2, 2, b25⟩
/-! tape:Tape.sync(self); slots: 0:self -/
def b26_0 : MS := .ex (.meth (.var 0) 6 [])
def b26_1 : MS := (.fset (.var 0) 3 (.bi .len [(.fld (.var 0) 2)]))
def t26_1 : List MS := [b26_1]
def b26 : List MS := b26_0 :: t26_1
def d26 : MD := ⟨1, 1, b26⟩
/-! tape:Tape.records(self); slots: 0:self -/
def b27_0 : MS := .ex (.meth (.var 0) 8 [])
def b27_1 : MS := .ret (.bi .list [(.fld (.var 0) 2)])
def t27_1 : List MS := [b27_1]
def b27 : List MS := b27_0 :: t27_1
def d27 : MD := ⟨1, 1, b27⟩
/-! tape:Tape.pending(self); slots: 0:self -/
def b28_0 : MS := .ret (.bin .sub (.bi .len [(.fld (.var 0) 2)]) (.fld (.var 0) 3))
def b28 : List MS := [b28_0]
def d28 : MD := ⟨1, 1, b28⟩
/-! tape:Tape.arm(self, count); slots: 0:self 1:count -/
def b29_0 : MS := (.fset (.var 0) 4 (.var 1))
def b29 : List MS := [b29_0]
def d29 : MD := ⟨2, 2, b29⟩
/-! tape:Tape.crash(self, keep); slots: 0:self 1:keep -/
def b30_0 : MS := (.fset (.var 0) 3 (.bi .min2 [(.bin .add (.fld (.var 0) 3) (.var 1)), (.bi .len [(.fld (.var 0) 2)])]))
def b30_1 : MS := (.fset (.var 0) 2 (.sl (.fld (.var 0) 2) [] [(.fld (.var 0) 3)]))
def b30_2 : MS := (.fset (.var 0) 4 (.lit .non))
def b30_3 : MS := (.fset (.var 0) 5 (.lit (.bl false)))
def t30_3 : List MS := [b30_3]
def t30_2 : List MS := b30_2 :: t30_3
def t30_1 : List MS := b30_1 :: t30_2
def b30 : List MS := b30_0 :: t30_1
def d30 : MD := ⟨2, 2, b30⟩
/-! tape:Tape._operate(self); slots: 0:self -/
def l31_0_0 : MS := (.fset (.var 0) 5 (.lit (.bl true)))
def l31_0_1 : MS := .rs 5 []
def m31_0_1 : List MS := [l31_0_1]
def l31_0 : List MS := l31_0_0 :: m31_0_1
def b31_0 : MS := .ex (.meth (.var 0) 8 [])
def b31_1 : MS := .ite (.cmp .is_ (.fld (.var 0) 4) (.lit .non)) [.retN] []
def b31_2 : MS := .ite (.cmp .eq (.fld (.var 0) 4) (.lit (.int 0))) l31_0 []
def b31_3 : MS := (.fset (.var 0) 4 (.bin .sub (.fld (.var 0) 4) (.lit (.int 1))))
def t31_3 : List MS := [b31_3]
def t31_2 : List MS := b31_2 :: t31_3
def t31_1 : List MS := b31_1 :: t31_2
def b31 : List MS := b31_0 :: t31_1
def d31 : MD := ⟨1, 1, b31⟩
/-! tape:Tape._refuse_if_crashed(self); slots: 0:self -/
def b32_0 : MS := .ite (.fld (.var 0) 5) [.rs 5 []] []
def b32 : List MS := [b32_0]
def d32 : MD := ⟨1, 1, b32⟩
/-! machine:run(cells, payload); slots: 0:cells 1:payload 2:now 3:sends 4:outputs 5:waiting 6:step -/
def l33_0_0 : MS := .asg (.nm 6) (.mt .pop (.var 5) [])
def l33_0_1 : MS := .ite (.cmp .eq (.ix (.var 6) (.lit (.int 0))) (.lit (.str "send"))) [.ex (.mt .append (.var 3) [(.tup [(.ix (.var 6) (.lit (.int 1))), (.ix (.var 6) (.lit (.int 2)))])])] [.ite (.cmp .eq (.ix (.var 6) (.lit (.int 0))) (.lit (.str "show"))) [.ex (.mt .append (.var 4) [(.bi .str [(.ix (.var 2) (.ix (.var 6) (.lit (.int 1))))])])] [.ite (.cmp .eq (.ix (.var 6) (.lit (.int 0))) (.lit (.str "both"))) [.ex (.mt .extend (.var 5) [(.lst [(.ix (.var 6) (.lit (.int 2))), (.ix (.var 6) (.lit (.int 1)))])])] [.ite (.cmp .eq (.ix (.var 6) (.lit (.int 0))) (.lit (.str "if"))) [.ex (.mt .append (.var 5) [(.ifx (.cmp .ne (.ix (.var 2) (.ix (.var 6) (.lit (.int 1)))) (.lit (.int 0))) (.ix (.var 6) (.lit (.int 2))) (.ix (.var 6) (.lit (.int 3))))])] [.ex (.call 34 [(.var 2), (.var 6)])]]]]
def m33_0_1 : List MS := [l33_0_1]
def l33_0 : List MS := l33_0_0 :: m33_0_1
def b33_0 : MS := .asg (.nm 2) (.bi .list [(.var 0)])
def b33_1 : MS := .asg (.nm 3) (.lst [])
def b33_2 : MS := .asg (.nm 4) (.lst [])
def b33_3 : MS := .asg (.nm 5) (.lst [(.var 1)])
def b33_4 : MS := .whl (.cmp .gt (.bi .len [(.var 5)]) (.lit (.int 0))) l33_0
def b33_5 : MS := .ret (.tup [(.bi .tuple [(.var 2)]), (.var 3), (.var 4)])
def t33_5 : List MS := [b33_5]
def t33_4 : List MS := b33_4 :: t33_5
def t33_3 : List MS := b33_3 :: t33_4
def t33_2 : List MS := b33_2 :: t33_3
def t33_1 : List MS := b33_1 :: t33_2
def b33 : List MS := b33_0 :: t33_1
def d33 : MD := ⟨2, 7, b33⟩
/-! machine:_change(cells, step); slots: 0:cells 1:step 2:kind 3:cell 4:operand -/
def b34_0 : MS := .asg (.tp [2, 3, 4]) (.var 1)
def b34_1 : MS := .ite (.cmp .eq (.var 2) (.lit (.str "set"))) [.sub (.var 0) (.var 3) (.var 4)] [.ite (.cmp .eq (.var 2) (.lit (.str "add"))) [.sub (.var 0) (.var 3) (.bin .add (.ix (.var 0) (.var 3)) (.var 4))] [.sub (.var 0) (.var 3) (.ix (.var 0) (.var 4))]]
def t34_1 : List MS := [b34_1]
def b34 : List MS := b34_0 :: t34_1
def d34 : MD := ⟨2, 5, b34⟩
/-! ends:Ends.__init__(self, count); slots: 0:self 1:count 2:process -/
def b35_0 : MS := (.fset (.var 0) 15 (.dc .range [(.var 1)] [2] (.nm 2) (.var 2) (.lst [])))
def b35_1 : MS := (.fset (.var 0) 16 (.dc .range [(.var 1)] [2] (.nm 2) (.var 2) (.lst [])))
def t35_1 : List MS := [b35_1]
def b35 : List MS := b35_0 :: t35_1
def d35 : MD := ⟨2, 3, b35⟩
/-! ends:Ends.known(self, process); slots: 0:self 1:process -/
def b36_0 : MS := .ret (.bi .len [(.mt .get2 (.fld (.var 0) 15) [(.var 1), (.lst [])])])
def b36 : List MS := [b36_0]
def d36 : MD := ⟨2, 2, b36⟩
/-! ends:Ends.add(self, process, version, stays); slots: 0:self 1:process 2:version 3:stays 4:least 5:count -/
def b37_0 : MS := .ite (.cmp .ne (.var 2) (.meth (.var 0) 21 [(.var 1)])) [.ret (.lit (.bl false))] []
def b37_1 : MS := .asg (.nm 4) (.lc .seq [(.mt .get2 (.fld (.var 0) 16) [(.var 1), (.lst [])])] [5] (.nm 5) [] (.bi .min2 [(.var 5), (.var 3)]))
def b37_2 : MS := .sub (.fld (.var 0) 16) (.var 1) (.bin .add (.var 4) (.lst [(.var 3)]))
def b37_3 : MS := .sub (.fld (.var 0) 15) (.var 1) (.bin .add (.meth (.var 0) 20 [(.var 1)]) (.lst [(.var 3)]))
def b37_4 : MS := .ret (.lit (.bl true))
def t37_4 : List MS := [b37_4]
def t37_3 : List MS := b37_3 :: t37_4
def t37_2 : List MS := b37_2 :: t37_3
def t37_1 : List MS := b37_1 :: t37_2
def b37 : List MS := b37_0 :: t37_1
def d37 : MD := ⟨4, 6, b37⟩
/-! ends:Ends.row(self, process); slots: 0:self 1:process -/
def b38_0 : MS := .ret (.bi .list [(.mt .get2 (.fld (.var 0) 15) [(.var 1), (.lst [])])])
def b38 : List MS := [b38_0]
def d38 : MD := ⟨2, 2, b38⟩
/-! ends:Ends.dead(self, clock); slots: 0:self 1:clock 2:process 3:pair -/
def b39_0 : MS := .ret (.bi .any [(.lc .enum [(.var 1)] [2, 3] (.tp [2, 3]) [] (.meth (.var 0) 22 [(.var 2), (.var 3)]))])
def b39 : List MS := [b39_0]
def d39 : MD := ⟨2, 4, b39⟩
/-! ends:Ends.dead_pair(self, process, pair); slots: 0:self 1:process 2:pair 3:least 4:version 5:count -/
def b40_0 : MS := .asg (.tp [4, 5]) (.var 2)
def b40_1 : MS := .asg (.nm 3) (.mt .get2 (.fld (.var 0) 16) [(.var 1), (.lst [])])
def b40_2 : MS := .ret (.bool true [(.cmp .lt (.var 4) (.bi .len [(.var 3)])), (.cmp .lt (.ix (.var 3) (.var 4)) (.var 5))])
def t40_2 : List MS := [b40_2]
def t40_1 : List MS := b40_1 :: t40_2
def b40 : List MS := b40_0 :: t40_1
def d40 : MD := ⟨3, 6, b40⟩
/-! ends:Ends.ready(self, clock); slots: 0:self 1:clock 2:process 3:pair -/
def b41_0 : MS := .ret (.bi .all [(.lc .enum [(.var 1)] [2, 3] (.tp [2, 3]) [] (.cmp .le (.ix (.var 3) (.lit (.int 0))) (.meth (.var 0) 21 [(.var 2)])))])
def b41 : List MS := [b41_0]
def d41 : MD := ⟨2, 4, b41⟩
/-! ends:Firm.__init__(self, count, ends); slots: 0:self 1:count 2:ends 3:process -/
def b42_0 : MS := (.fset (.var 0) 17 (.var 2))
def b42_1 : MS := (.fset (.var 0) 18 (.dc .range [(.var 1)] [3] (.nm 3) (.var 3) (.tup [(.lit (.int 0)), (.lit (.int 0))])))
def t42_1 : List MS := [b42_1]
def b42 : List MS := b42_0 :: t42_1
def d42 : MD := ⟨3, 4, b42⟩
/-! ends:Firm.told(self, process, version, stays); slots: 0:self 1:process 2:version 3:stays -/
def b43_0 : MS := .sub (.fld (.var 0) 18) (.var 1) (.bi .max2 [(.meth (.var 0) 19 [(.var 1)]), (.tup [(.var 2), (.var 3)])])
def b43 : List MS := [b43_0]
def d43 : MD := ⟨4, 4, b43⟩
/-! ends:Firm.firm(self, clock); slots: 0:self 1:clock 2:process 3:pair -/
def b44_0 : MS := .ret (.bi .all [(.lc .enum [(.var 1)] [2, 3] (.tp [2, 3]) [] (.meth (.var 0) 23 [(.var 2), (.var 3)]))])
def b44 : List MS := [b44_0]
def d44 : MD := ⟨2, 4, b44⟩
/-! ends:Firm._greatest(self, process); slots: 0:self 1:process -/
def b45_0 : MS := .ret (.mt .get2 (.fld (.var 0) 18) [(.var 1), (.tup [(.lit (.int 0)), (.lit (.int 0))])])
def b45 : List MS := [b45_0]
def d45 : MD := ⟨2, 2, b45⟩
/-! ends:Firm._is_firm(self, process, pair); slots: 0:self 1:process 2:pair 3:version 4:count 5:other 6:stays -/
def b46_0 : MS := .asg (.tp [3, 4]) (.var 2)
def b46_1 : MS := .asg (.tp [5, 6]) (.meth (.var 0) 19 [(.var 1)])
def b46_2 : MS := .ite (.cmp .eq (.var 4) (.lit (.int 0))) [.ret (.lit (.bl true))] []
def b46_3 : MS := .ite (.cmp .eq (.var 5) (.var 3)) [.ret (.cmp .le (.var 4) (.var 6))] []
def b46_4 : MS := .ite (.bool false [(.cmp .lt (.var 5) (.var 3)), (.cmp .lt (.meth (.fld (.var 0) 17) 21 [(.var 1)]) (.var 5))]) [.ret (.lit (.bl false))] []
def b46_5 : MS := .ret (.not (.meth (.fld (.var 0) 17) 22 [(.var 1), (.var 2)]))
def t46_5 : List MS := [b46_5]
def t46_4 : List MS := b46_4 :: t46_5
def t46_3 : List MS := b46_3 :: t46_4
def t46_2 : List MS := b46_2 :: t46_3
def t46_1 : List MS := b46_1 :: t46_2
def b46 : List MS := b46_0 :: t46_1
def d46 : MD := ⟨3, 7, b46⟩
/-! clocks:merge(one, other); slots: 0:one 1:other 2:mine 3:theirs -/
def b47_0 : MS := .ret (.bi .tuple [(.lc .zip [(.var 0), (.var 1)] [2, 3] (.tp [2, 3]) [] (.bi .max2 [(.var 2), (.var 3)]))])
def b47 : List MS := [b47_0]
def d47 : MD := ⟨2, 4, b47⟩
/-! past:Past.__init__(self, me, count); slots: 0:self 1:me 2:count -/
def b49_0 : MS := (.fset (.var 0) 29 (.var 1))
def b49_1 : MS := (.fset (.var 0) 30 (.lst [(.glo 12)]))
def b49_2 : MS := (.fset (.var 0) 31 (.lst [(.call 14 [(.var 2)])]))
def b49_3 : MS := (.fset (.var 0) 32 (.lst [(.dsp [] [])]))
def b49_4 : MS := (.fset (.var 0) 33 (.lst []))
def b49_5 : MS := (.fset (.var 0) 34 (.lst []))
def b49_6 : MS := (.fset (.var 0) 35 (.lst []))
def b49_7 : MS := (.fset (.var 0) 36 (.dsp [] []))
def t49_7 : List MS := [b49_7]
def t49_6 : List MS := b49_6 :: t49_7
def t49_5 : List MS := b49_5 :: t49_6
def t49_4 : List MS := b49_4 :: t49_5
def t49_3 : List MS := b49_3 :: t49_4
def t49_2 : List MS := b49_2 :: t49_3
def t49_1 : List MS := b49_1 :: t49_2
def b49 : List MS := b49_0 :: t49_1
def d49 : MD := ⟨3, 3, b49⟩
/-! past:Past.take(self, sender, number, payload, clock, version); slots: 0:self 1:sender 2:number 3:payload 4:clock 5:version 6:cells 7:sends 8:outputs 9:receiver 10:sent 11:_ -/
def l50_0_0 : MS := .ex (.meth (.var 0) 45 [(.var 9), (.var 10)])
def l50_0 : List MS := [l50_0_0]
def b50_0 : MS := .asg (.tp [6, 7, 8]) (.call 33 [(.meth (.var 0) 42 []), (.var 3)])
def b50_1 : MS := .ex (.mt .append (.fld (.var 0) 33) [(.tup [(.var 1), (.var 2), (.var 3), (.var 4), (.var 5)])])
def b50_2 : MS := .ex (.mt .append (.fld (.var 0) 34) [(.var 8)])
def b50_3 : MS := .ex (.mt .append (.fld (.var 0) 35) [(.lc .seq [(.var 7)] [9, 11] (.tp [9, 11]) [] (.var 9))])
def b50_4 : MS := .ex (.mt .append (.fld (.var 0) 30) [(.var 6)])
def b50_5 : MS := .ex (.mt .append (.fld (.var 0) 31) [(.meth (.var 0) 43 [(.var 4), (.var 5)])])
def b50_6 : MS := .ex (.mt .append (.fld (.var 0) 32) [(.meth (.var 0) 44 [(.var 1)])])
def b50_7 : MS := .fr (.tp [9, 10]) .seq [(.var 7)] l50_0
def b50_8 : MS := .ret (.bi .list [(.ix (.fld (.var 0) 35) (.neg (.lit (.int 1))))])
def t50_8 : List MS := [b50_8]
def t50_7 : List MS := b50_7 :: t50_8
def t50_6 : List MS := b50_6 :: t50_7
def t50_5 : List MS := b50_5 :: t50_6
def t50_4 : List MS := b50_4 :: t50_5
def t50_3 : List MS := b50_3 :: t50_4
def t50_2 : List MS := b50_2 :: t50_3
def t50_1 : List MS := b50_1 :: t50_2
def b50 : List MS := b50_0 :: t50_1
def d50 : MD := ⟨6, 12, b50⟩
/-! past:Past.cut(self, count); slots: 0:self 1:count -/
def l51_0_0 : MS := .ex (.meth (.var 0) 46 [])
def l51_0 : List MS := [l51_0_0]
def b51_0 : MS := .whl (.cmp .gt (.meth (.var 0) 37 []) (.var 1)) l51_0
def b51 : List MS := [b51_0]
def d51 : MD := ⟨2, 2, b51⟩
/-! past:Past.size(self); slots: 0:self -/
def b52_0 : MS := .ret (.bi .len [(.fld (.var 0) 33)])
def b52 : List MS := [b52_0]
def d52 : MD := ⟨1, 1, b52⟩
/-! past:Past.inputs(self); slots: 0:self -/
def b53_0 : MS := .ret (.bi .list [(.fld (.var 0) 33)])
def b53 : List MS := [b53_0]
def d53 : MD := ⟨1, 1, b53⟩
/-! past:Past.taken(self, sender, count); slots: 0:self 1:sender 2:count 3:tally -/
def b54_0 : MS := .asg (.nm 3) (.ix (.fld (.var 0) 32) (.bi .min2 [(.var 2), (.meth (.var 0) 37 [])]))
def b54_1 : MS := .ret (.mt .get2 (.var 3) [(.var 1), (.lit (.int 0))])
def t54_1 : List MS := [b54_1]
def b54 : List MS := b54_0 :: t54_1
def d54 : MD := ⟨3, 4, b54⟩
/-! past:Past.cells(self); slots: 0:self -/
def b55_0 : MS := .ret (.ix (.fld (.var 0) 30) (.neg (.lit (.int 1))))
def b55 : List MS := [b55_0]
def d55 : MD := ⟨1, 1, b55⟩
/-! past:Past.clock(self, count); slots: 0:self 1:count -/
def b56_0 : MS := .ret (.ix (.fld (.var 0) 31) (.var 1))
def b56 : List MS := [b56_0]
def d56 : MD := ⟨2, 2, b56⟩
/-! past:Past.sends(self, receiver); slots: 0:self 1:receiver -/
def b57_0 : MS := .ret (.bi .list [(.mt .get2 (.fld (.var 0) 36) [(.var 1), (.lst [])])])
def b57 : List MS := [b57_0]
def d57 : MD := ⟨2, 2, b57⟩
/-! past:Past.outputs(self, count); slots: 0:self 1:count 2:texts 3:text -/
def b58_0 : MS := .ret (.lc2 .seq [(.sl (.fld (.var 0) 34) [] [(.var 1)])] [2, 3] (.nm 2) [] .seq [(.var 2)] (.nm 3) [] (.var 3))
def b58 : List MS := [b58_0]
def d58 : MD := ⟨2, 4, b58⟩
/-! past:Past.alive(self, ends); slots: 0:self 1:ends 2:count 3:clock -/
def l59_0_0 : MS := .ite (.meth (.var 1) 27 [(.var 3)]) [.ret (.bin .sub (.var 2) (.lit (.int 1)))] []
def l59_0 : List MS := [l59_0_0]
def b59_0 : MS := .fr (.tp [2, 3]) .enum [(.fld (.var 0) 31)] l59_0
def b59_1 : MS := .ret (.meth (.var 0) 37 [])
def t59_1 : List MS := [b59_1]
def b59 : List MS := b59_0 :: t59_1
def d59 : MD := ⟨2, 4, b59⟩
/-! past:Past._clock_behind(self, clock, version); slots: 0:self 1:clock 2:version 3:merged -/
def b60_0 : MS := .asg (.nm 3) (.call 47 [(.ix (.fld (.var 0) 31) (.neg (.lit (.int 1)))), (.var 1)])
def b60_1 : MS := .ret (.bin .add (.bin .add (.sl (.var 3) [] [(.fld (.var 0) 29)]) (.tup [(.tup [(.var 2), (.meth (.var 0) 37 [])])])) (.sl (.var 3) [(.bin .add (.fld (.var 0) 29) (.lit (.int 1)))] []))
def t60_1 : List MS := [b60_1]
def b60 : List MS := b60_0 :: t60_1
def d60 : MD := ⟨3, 4, b60⟩
/-! past:Past._tally_behind(self, sender); slots: 0:self 1:sender 2:tally -/
def b61_0 : MS := .asg (.nm 2) (.bi .dict [(.ix (.fld (.var 0) 32) (.neg (.lit (.int 1))))])
def b61_1 : MS := .sub (.var 2) (.var 1) (.bin .add (.mt .get2 (.var 2) [(.var 1), (.lit (.int 0))]) (.lit (.int 1)))
def b61_2 : MS := .ret (.var 2)
def t61_2 : List MS := [b61_2]
def t61_1 : List MS := b61_1 :: t61_2
def b61 : List MS := b61_0 :: t61_1
def d61 : MD := ⟨2, 3, b61⟩
/-! past:Past._send(self, receiver, payload); slots: 0:self 1:receiver 2:payload 3:row -/
def b62_0 : MS := .asg (.nm 3) (.mt .setd (.fld (.var 0) 36) [(.var 1), (.lst [])])
def b62_1 : MS := .ex (.mt .append (.var 3) [(.tup [(.bin .add (.bi .len [(.var 3)]) (.lit (.int 1))), (.var 2), (.ix (.fld (.var 0) 31) (.neg (.lit (.int 1))))])])
def t62_1 : List MS := [b62_1]
def b62 : List MS := b62_0 :: t62_1
def d62 : MD := ⟨3, 4, b62⟩
/-! past:Past._remove_last(self); slots: 0:self 1:receivers 2:receiver -/
def l63_0_0 : MS := .ex (.mt .pop (.ix (.fld (.var 0) 36) (.var 2)) [])
def l63_0 : List MS := [l63_0_0]
def b63_0 : MS := .ex (.mt .pop (.fld (.var 0) 33) [])
def b63_1 : MS := .ex (.mt .pop (.fld (.var 0) 34) [])
def b63_2 : MS := .ex (.mt .pop (.fld (.var 0) 30) [])
def b63_3 : MS := .ex (.mt .pop (.fld (.var 0) 31) [])
def b63_4 : MS := .ex (.mt .pop (.fld (.var 0) 32) [])
def b63_5 : MS := .asg (.nm 1) (.mt .pop (.fld (.var 0) 35) [])
def b63_6 : MS := .fr (.nm 2) .seq [(.var 1)] l63_0
def t63_6 : List MS := [b63_6]
def t63_5 : List MS := b63_5 :: t63_6
def t63_4 : List MS := b63_4 :: t63_5
def t63_3 : List MS := b63_3 :: t63_4
def t63_2 : List MS := b63_2 :: t63_3
def t63_1 : List MS := b63_1 :: t63_2
def b63 : List MS := b63_0 :: t63_1
def d63 : MD := ⟨1, 3, b63⟩
/-! process:Process.__init__(self, me, count, tape); slots: 0:self 1:me 2:count 3:tape -/
def b64_0 : MS := .ite (.not (.call 2 [(.var 2), (.var 1)])) [.rs 4 []] []
def b64_1 : MS := (.fset (.var 0) 29 (.var 1))
def b64_2 : MS := (.fset (.var 0) 51 (.var 2))
def b64_3 : MS := (.fset (.var 0) 52 (.var 3))
def b64_4 : MS := (.fset (.var 0) 53 (.make 3 [(.var 1), (.var 2)]))
def b64_5 : MS := (.fset (.var 0) 17 (.make 1 [(.var 2)]))
def b64_6 : MS := (.fset (.var 0) 54 (.make 2 [(.var 2), (.fld (.var 0) 17)]))
def b64_7 : MS := (.fset (.var 0) 3 (.tup [(.lit (.int 0)), (.lit (.int 0))]))
def b64_8 : MS := (.fset (.var 0) 55 (.lit (.int 0)))
def b64_9 : MS := (.fset (.var 0) 56 (.lit (.int 0)))
def b64_10 : MS := (.fset (.var 0) 57 (.dsp [] []))
def b64_11 : MS := (.fset (.var 0) 58 (.dsp [] []))
def b64_12 : MS := (.fset (.var 0) 59 (.lit (.int 0)))
def b64_13 : MS := .ex (.meth (.var 0) 60 [])
def t64_13 : List MS := [b64_13]
def t64_12 : List MS := b64_12 :: t64_13
def t64_11 : List MS := b64_11 :: t64_12
def t64_10 : List MS := b64_10 :: t64_11
def t64_9 : List MS := b64_9 :: t64_10
def t64_8 : List MS := b64_8 :: t64_9
def t64_7 : List MS := b64_7 :: t64_8
def t64_6 : List MS := b64_6 :: t64_7
def t64_5 : List MS := b64_5 :: t64_6
def t64_4 : List MS := b64_4 :: t64_5
def t64_3 : List MS := b64_3 :: t64_4
def t64_2 : List MS := b64_2 :: t64_3
def t64_1 : List MS := b64_1 :: t64_2
def b64 : List MS := b64_0 :: t64_1
def d64 : MD := ⟨4, 4, b64⟩
/-! process:Process.tick(self); slots: 0:self 1:letters 2:process 3:texts -/
def l65_0_0 : MS := .ex (.mt .extend (.var 1) [(.meth (.var 0) 77 [(.var 2)])])
def l65_0 : List MS := [l65_0_0]
def b65_0 : MS := .faug .add (.var 0) 56 (.lit (.int 1))
def b65_1 : MS := .ite (.cmp .eq (.bin .mod (.fld (.var 0) 56) (.glo 13)) (.lit (.int 0))) [.ex (.meth (.var 0) 63 [])] []
def b65_2 : MS := .ex (.meth (.var 0) 61 [])
def b65_3 : MS := .asg (.nm 1) (.lst [])
def b65_4 : MS := .fr (.nm 2) .range [(.fld (.var 0) 51)] l65_0
def b65_5 : MS := .asg (.nm 3) (.meth (.fld (.var 0) 53) 40 [(.fld (.var 0) 55)])
def b65_6 : MS := .ret (.bin .add (.var 1) (.meth (.var 0) 68 [(.sl (.var 3) [] [(.bin .add (.fld (.var 0) 59) (.glo 14))]), (.fld (.var 0) 59)]))
def t65_6 : List MS := [b65_6]
def t65_5 : List MS := b65_5 :: t65_6
def t65_4 : List MS := b65_4 :: t65_5
def t65_3 : List MS := b65_3 :: t65_4
def t65_2 : List MS := b65_2 :: t65_3
def t65_1 : List MS := b65_1 :: t65_2
def b65 : List MS := b65_0 :: t65_1
def d65 : MD := ⟨1, 4, b65⟩
/-! process:Process.receive(self, letter); slots: 0:self 1:letter 2:kind -/
def l66_0_0 : MS := .ex (.call 22 [(.fld (.var 0) 51), (.fld (.var 0) 29), (.var 1)])
def l66_0 : List MS := [l66_0_0]
def l66_1_0 : MS := .ret (.lst [])
def l66_1 : List MS := [l66_1_0]
def b66_0 : MS := .tr l66_0 3 none l66_1
def b66_1 : MS := .asg (.nm 2) (.ix (.var 1) (.lit (.int 0)))
def b66_2 : MS := .ite (.cmp .eq (.var 2) (.lit (.str "pass"))) [.ret (.meth (.var 0) 69 [(.var 1)])] []
def b66_3 : MS := .ite (.cmp .eq (.var 2) (.lit (.str "end"))) [.ret (.meth (.var 0) 70 [(.var 1)])] []
def b66_4 : MS := .ite (.cmp .eq (.var 2) (.lit (.str "firm"))) [.ret (.meth (.var 0) 71 [(.var 1)])] []
def b66_5 : MS := .ex (.meth (.var 0) 62 [(.var 2), (.ix (.var 1) (.lit (.int 1))), (.ix (.var 1) (.lit (.int 2)))])
def b66_6 : MS := .ret (.lst [])
def t66_6 : List MS := [b66_6]
def t66_5 : List MS := b66_5 :: t66_6
def t66_4 : List MS := b66_4 :: t66_5
def t66_3 : List MS := b66_3 :: t66_4
def t66_2 : List MS := b66_2 :: t66_3
def t66_1 : List MS := b66_1 :: t66_2
def b66 : List MS := b66_0 :: t66_1
def d66 : MD := ⟨2, 3, b66⟩
/-! process:Process.flush(self); slots: 0:self -/
def b67_0 : MS := .ex (.meth (.var 0) 63 [])
def b67 : List MS := [b67_0]
def d67 : MD := ⟨1, 1, b67⟩
/-! process:Process.version(self); slots: 0:self -/
def b68_0 : MS := .ret (.meth (.fld (.var 0) 17) 21 [(.fld (.var 0) 29)])
def b68 : List MS := [b68_0]
def d68 : MD := ⟨1, 1, b68⟩
/-! process:Process.inputs(self); slots: 0:self -/
def b69_0 : MS := .ret (.meth (.fld (.var 0) 53) 38 [])
def b69 : List MS := [b69_0]
def d69 : MD := ⟨1, 1, b69⟩
/-! process:Process.cells(self); slots: 0:self -/
def b70_0 : MS := .ret (.meth (.fld (.var 0) 53) 42 [])
def b70 : List MS := [b70_0]
def d70 : MD := ⟨1, 1, b70⟩
/-! process:Process.clock(self); slots: 0:self -/
def b71_0 : MS := .ret (.meth (.fld (.var 0) 53) 49 [(.meth (.fld (.var 0) 53) 37 [])])
def b71 : List MS := [b71_0]
def d71 : MD := ⟨1, 1, b71⟩
/-! process:Process.committed(self); slots: 0:self -/
def b72_0 : MS := .ret (.fld (.var 0) 55)
def b72 : List MS := [b72_0]
def d72 : MD := ⟨1, 1, b72⟩
/-! process:Process.outputs(self); slots: 0:self -/
def b73_0 : MS := .ret (.meth (.fld (.var 0) 53) 40 [(.meth (.fld (.var 0) 53) 37 [])])
def b73 : List MS := [b73_0]
def d73 : MD := ⟨1, 1, b73⟩
/-! process:Process.ends(self, process); slots: 0:self 1:process -/
def b74_0 : MS := .ret (.meth (.fld (.var 0) 17) 20 [(.var 1)])
def b74 : List MS := [b74_0]
def d74 : MD := ⟨2, 2, b74⟩
/-! process:Process._begin(self); slots: 0:self 1:records 2:record -/
def l75_0_0 : MS := .ex (.meth (.fld (.var 0) 52) 7 [(.tup [(.lit (.str "start"))])])
def l75_0_1 : MS := .ex (.meth (.var 0) 63 [])
def l75_0_2 : MS := .retN
def m75_0_2 : List MS := [l75_0_2]
def m75_0_1 : List MS := l75_0_1 :: m75_0_2
def l75_0 : List MS := l75_0_0 :: m75_0_1
def l75_1_0 : MS := .ex (.meth (.var 0) 72 [(.var 2)])
def l75_1 : List MS := [l75_1_0]
def b75_0 : MS := .asg (.nm 1) (.meth (.fld (.var 0) 52) 9 [])
def b75_1 : MS := .ite (.cmp .eq (.bi .len [(.var 1)]) (.lit (.int 0))) l75_0 []
def b75_2 : MS := .fr (.nm 2) .seq [(.var 1)] l75_1
def b75_3 : MS := .ex (.meth (.var 0) 64 [])
def t75_3 : List MS := [b75_3]
def t75_2 : List MS := b75_2 :: t75_3
def t75_1 : List MS := b75_1 :: t75_2
def b75 : List MS := b75_0 :: t75_1
def d75 : MD := ⟨1, 3, b75⟩
/-! process:Process._replay(self, record); slots: 0:self 1:record 2:_ 3:sender 4:number 5:payload 6:clock 7:version 8:stays 9:process -/
def l76_0_0 : MS := .asg (.tp [2, 3, 4, 5, 6]) (.var 1)
def l76_0_1 : MS := .ex (.meth (.fld (.var 0) 53) 48 [(.var 3), (.var 4), (.var 5), (.var 6), (.meth (.var 0) 73 [])])
def m76_0_1 : List MS := [l76_0_1]
def l76_0 : List MS := l76_0_0 :: m76_0_1
def l76_1_0 : MS := .asg (.tp [2, 7, 8]) (.var 1)
def l76_1_1 : MS := .ex (.meth (.var 0) 66 [(.var 7), (.var 8)])
def m76_1_1 : List MS := [l76_1_1]
def l76_1 : List MS := l76_1_0 :: m76_1_1
def l76_2_0 : MS := .asg (.tp [2, 9, 7, 8]) (.var 1)
def l76_2_1 : MS := .ex (.meth (.fld (.var 0) 17) 24 [(.var 9), (.var 7), (.var 8)])
def m76_2_1 : List MS := [l76_2_1]
def l76_2 : List MS := l76_2_0 :: m76_2_1
def b76_0 : MS := .ite (.cmp .eq (.ix (.var 1) (.lit (.int 0))) (.lit (.str "input"))) l76_0 [.ite (.cmp .eq (.ix (.var 1) (.lit (.int 0))) (.lit (.str "end"))) l76_1 [.ite (.cmp .eq (.ix (.var 1) (.lit (.int 0))) (.lit (.str "other"))) l76_2 []]]
def b76 : List MS := [b76_0]
def d76 : MD := ⟨2, 10, b76⟩
/-! process:Process._cut(self, version, stays); slots: 0:self 1:version 2:stays -/
def b77_0 : MS := .ex (.meth (.fld (.var 0) 17) 24 [(.fld (.var 0) 29), (.var 1), (.var 2)])
def b77_1 : MS := .ex (.meth (.fld (.var 0) 53) 50 [(.var 2)])
def t77_1 : List MS := [b77_1]
def b77 : List MS := b77_0 :: t77_1
def d77 : MD := ⟨3, 3, b77⟩
/-! process:Process._sync(self); slots: 0:self -/
def b78_0 : MS := .ex (.meth (.fld (.var 0) 52) 11 [])
def b78_1 : MS := .ex (.meth (.var 0) 65 [])
def t78_1 : List MS := [b78_1]
def b78 : List MS := b78_0 :: t78_1
def d78 : MD := ⟨1, 1, b78⟩
/-! process:Process._know_durable(self); slots: 0:self 1:version 2:stays -/
def b79_0 : MS := .par 1 2 [(.meth (.var 0) 73 []), (.meth (.fld (.var 0) 53) 37 [])]
def b79_1 : MS := (.fset (.var 0) 3 (.tup [(.var 1), (.var 2)]))
def b79_2 : MS := .ex (.meth (.fld (.var 0) 54) 25 [(.fld (.var 0) 29), (.var 1), (.var 2)])
def t79_2 : List MS := [b79_2]
def t79_1 : List MS := b79_1 :: t79_2
def b79 : List MS := b79_0 :: t79_1
def d79 : MD := ⟨1, 3, b79⟩
/-! process:Process._end_version(self); slots: 0:self 1:version 2:stays -/
def b80_0 : MS := .par 1 2 [(.meth (.var 0) 73 []), (.meth (.fld (.var 0) 53) 41 [(.fld (.var 0) 17)])]
def b80_1 : MS := .ex (.meth (.fld (.var 0) 52) 7 [(.tup [(.lit (.str "end")), (.var 1), (.var 2)])])
def b80_2 : MS := .ex (.meth (.fld (.var 0) 52) 11 [])
def b80_3 : MS := .ex (.meth (.var 0) 66 [(.var 1), (.var 2)])
def b80_4 : MS := .ex (.meth (.var 0) 65 [])
def b80_5 : MS := .ret (.tup [(.lit (.str "end")), (.fld (.var 0) 29), (.var 1), (.var 2)])
def t80_5 : List MS := [b80_5]
def t80_4 : List MS := b80_4 :: t80_5
def t80_3 : List MS := b80_3 :: t80_4
def t80_2 : List MS := b80_2 :: t80_3
def t80_1 : List MS := b80_1 :: t80_2
def b80 : List MS := b80_0 :: t80_1
def d80 : MD := ⟨1, 3, b80⟩
/-! process:Process._raise_committed(self); slots: 0:self -/
def l81_0_0 : MS := .ite (.not (.meth (.fld (.var 0) 54) 26 [(.meth (.fld (.var 0) 53) 49 [(.bin .add (.fld (.var 0) 55) (.lit (.int 1)))])])) [.retN] []
def l81_0_1 : MS := .faug .add (.var 0) 55 (.lit (.int 1))
def m81_0_1 : List MS := [l81_0_1]
def l81_0 : List MS := l81_0_0 :: m81_0_1
def b81_0 : MS := .whl (.cmp .lt (.fld (.var 0) 55) (.meth (.fld (.var 0) 53) 37 [])) l81_0
def b81 : List MS := [b81_0]
def d81 : MD := ⟨1, 1, b81⟩
/-! process:Process._receive_pass(self, letter); slots: 0:self 1:letter 2:committed 3:receivers 4:_ 5:sender 6:number 7:payload 8:clock -/
def b82_0 : MS := .asg (.tp [4, 5, 6, 7, 8]) (.var 1)
def b82_1 : MS := .asg (.nm 2) (.meth (.fld (.var 0) 53) 47 [(.var 5), (.fld (.var 0) 55)])
def b82_2 : MS := .ite (.cmp .le (.var 6) (.var 2)) [.ret (.lst [(.tup [(.var 5), (.tup [(.lit (.str "got")), (.fld (.var 0) 29), (.var 2)])])])] []
def b82_3 : MS := .ite (.cmp .ne (.var 6) (.bin .add (.meth (.fld (.var 0) 53) 47 [(.var 5), (.meth (.fld (.var 0) 53) 37 [])]) (.lit (.int 1)))) [.ret (.lst [])] []
def b82_4 : MS := .ite (.bool false [(.not (.meth (.fld (.var 0) 17) 28 [(.var 8)])), (.meth (.fld (.var 0) 17) 27 [(.var 8)])]) [.ret (.lst [])] []
def b82_5 : MS := .ex (.meth (.fld (.var 0) 52) 7 [(.tup [(.lit (.str "input")), (.var 5), (.var 6), (.var 7), (.var 8)])])
def b82_6 : MS := .asg (.nm 3) (.meth (.fld (.var 0) 53) 48 [(.var 5), (.var 6), (.var 7), (.var 8), (.meth (.var 0) 73 [])])
def b82_7 : MS := .ret (.meth (.var 0) 67 [(.var 3)])
def t82_7 : List MS := [b82_7]
def t82_6 : List MS := b82_6 :: t82_7
def t82_5 : List MS := b82_5 :: t82_6
def t82_4 : List MS := b82_4 :: t82_5
def t82_3 : List MS := b82_3 :: t82_4
def t82_2 : List MS := b82_2 :: t82_3
def t82_1 : List MS := b82_1 :: t82_2
def b82 : List MS := b82_0 :: t82_1
def d82 : MD := ⟨2, 9, b82⟩
/-! process:Process._last_sends(self, receivers); slots: 0:self 1:receivers 2:rows 3:letters 4:receiver -/
def l83_0_0 : MS := .ex (.mt .append (.var 3) [(.tup [(.var 4), (.meth (.var 0) 80 [(.mt .pop (.ix (.var 2) (.var 4)) [])])])])
def l83_0 : List MS := [l83_0_0]
def b83_0 : MS := .bad
def b83_1 : MS := .asg (.nm 3) (.lst [])
def b83_2 : MS := .fr (.nm 4) .rev [(.var 1)] l83_0
def b83_3 : MS := .ret (.rvs (.var 3))
def t83_3 : List MS := [b83_3]
def t83_2 : List MS := b83_2 :: t83_3
def t83_1 : List MS := b83_1 :: t83_2
def b83 : List MS := b83_0 :: t83_1
def d83 : MD := ⟨2, 5, b83⟩
/-! process:Process._pass_of(self, send); slots: 0:self 1:send 2:number 3:payload 4:clock -/
def b84_0 : MS := .asg (.tp [2, 3, 4]) (.var 1)
def b84_1 : MS := .ret (.tup [(.lit (.str "pass")), (.fld (.var 0) 29), (.var 2), (.var 3), (.var 4)])
def t84_1 : List MS := [b84_1]
def b84 : List MS := b84_0 :: t84_1
def d84 : MD := ⟨2, 5, b84⟩
/-! process:Process._receive_end(self, letter); slots: 0:self 1:letter 2:letters 3:_ 4:sender 5:version 6:stays -/
def l85_0_0 : MS := .ex (.meth (.fld (.var 0) 52) 7 [(.tup [(.lit (.str "other")), (.var 4), (.var 5), (.var 6)])])
def l85_0_1 : MS := .ex (.meth (.var 0) 63 [])
def l85_0_2 : MS := .ex (.meth (.fld (.var 0) 17) 24 [(.var 4), (.var 5), (.var 6)])
def l85_0_3 : MS := .ite (.meth (.fld (.var 0) 17) 27 [(.meth (.var 0) 49 [])]) [.asg (.nm 2) (.meth (.var 0) 78 [(.meth (.var 0) 64 [])])] []
def m85_0_3 : List MS := [l85_0_3]
def m85_0_2 : List MS := l85_0_2 :: m85_0_3
def m85_0_1 : List MS := l85_0_1 :: m85_0_2
def l85_0 : List MS := l85_0_0 :: m85_0_1
def b85_0 : MS := .asg (.tp [3, 4, 5, 6]) (.var 1)
def b85_1 : MS := .asg (.nm 2) (.lst [])
def b85_2 : MS := .ite (.cmp .eq (.var 5) (.meth (.fld (.var 0) 17) 21 [(.var 4)])) l85_0 []
def b85_3 : MS := .ret (.bin .add (.var 2) (.lst [(.tup [(.var 4), (.tup [(.lit (.str "heard")), (.fld (.var 0) 29), (.meth (.fld (.var 0) 17) 21 [(.var 4)])])])]))
def t85_3 : List MS := [b85_3]
def t85_2 : List MS := b85_2 :: t85_3
def t85_1 : List MS := b85_1 :: t85_2
def b85 : List MS := b85_0 :: t85_1
def d85 : MD := ⟨2, 7, b85⟩
/-! process:Process._to_others(self, letter); slots: 0:self 1:letter 2:process -/
def b86_0 : MS := .ret (.lc .range [(.fld (.var 0) 51)] [2] (.nm 2) [(.cmp .ne (.var 2) (.fld (.var 0) 29))] (.tup [(.var 2), (.var 1)]))
def b86 : List MS := [b86_0]
def d86 : MD := ⟨2, 3, b86⟩
/-! process:Process._receive_firm(self, letter); slots: 0:self 1:letter 2:before 3:told 4:_ 5:sender 6:version 7:stays -/
def b87_0 : MS := .asg (.tp [4, 5, 6, 7]) (.var 1)
def b87_1 : MS := .ex (.meth (.fld (.var 0) 54) 25 [(.var 5), (.var 6), (.var 7)])
def b87_2 : MS := .asg (.nm 2) (.fld (.var 0) 55)
def b87_3 : MS := .ex (.meth (.var 0) 61 [])
def b87_4 : MS := .ite (.cmp .eq (.fld (.var 0) 55) (.var 2)) [.ret (.lst [])] []
def b87_5 : MS := .asg (.nm 3) (.bi .len [(.meth (.fld (.var 0) 53) 40 [(.var 2)])])
def b87_6 : MS := .ret (.meth (.var 0) 68 [(.meth (.fld (.var 0) 53) 40 [(.fld (.var 0) 55)]), (.var 3)])
def t87_6 : List MS := [b87_6]
def t87_5 : List MS := b87_5 :: t87_6
def t87_4 : List MS := b87_4 :: t87_5
def t87_3 : List MS := b87_3 :: t87_4
def t87_2 : List MS := b87_2 :: t87_3
def t87_1 : List MS := b87_1 :: t87_2
def b87 : List MS := b87_0 :: t87_1
def d87 : MD := ⟨2, 8, b87⟩
/-! process:Process._note_number(self, kind, sender, number); slots: 0:self 1:kind 2:sender 3:number -/
def b88_0 : MS := .ite (.cmp .eq (.var 1) (.lit (.str "got"))) [.sub (.fld (.var 0) 57) (.var 2) (.bi .max2 [(.mt .get2 (.fld (.var 0) 57) [(.var 2), (.lit (.int 0))]), (.var 3)])] [.ite (.cmp .eq (.var 1) (.lit (.str "heard"))) [.sub (.fld (.var 0) 58) (.var 2) (.bi .max2 [(.mt .get2 (.fld (.var 0) 58) [(.var 2), (.lit (.int 0))]), (.var 3)])] [(.fset (.var 0) 59 (.bi .max2 [(.fld (.var 0) 59), (.var 3)]))]]
def b88 : List MS := [b88_0]
def d88 : MD := ⟨4, 4, b88⟩
/-! process:Process._letters_to(self, process); slots: 0:self 1:process 2:letters 3:got 4:sends 5:version 6:stays 7:letter 8:send -/
def l89_0_0 : MS := .asg (.tp [5, 6]) (.fld (.var 0) 3)
def l89_0_1 : MS := .asg (.nm 2) (.bin .add (.meth (.var 0) 79 [(.var 1)]) (.lst [(.tup [(.lit (.str "firm")), (.fld (.var 0) 29), (.var 5), (.var 6)])]))
def m89_0_1 : List MS := [l89_0_1]
def l89_0 : List MS := l89_0_0 :: m89_0_1
def b89_0 : MS := .asg (.nm 2) (.lst [])
def b89_1 : MS := .ite (.cmp .ne (.var 1) (.fld (.var 0) 29)) l89_0 []
def b89_2 : MS := .asg (.nm 3) (.mt .get2 (.fld (.var 0) 57) [(.var 1), (.lit (.int 0))])
def b89_3 : MS := .asg (.nm 4) (.sl (.meth (.fld (.var 0) 53) 39 [(.var 1)]) [(.var 3)] [(.bin .add (.var 3) (.glo 14))])
def b89_4 : MS := .ex (.mt .extend (.var 2) [(.lc .seq [(.var 4)] [8] (.nm 8) [] (.meth (.var 0) 80 [(.var 8)]))])
def b89_5 : MS := .ret (.lc .seq [(.var 2)] [7] (.nm 7) [] (.tup [(.var 1), (.var 7)]))
def t89_5 : List MS := [b89_5]
def t89_4 : List MS := b89_4 :: t89_5
def t89_3 : List MS := b89_3 :: t89_4
def t89_2 : List MS := b89_2 :: t89_3
def t89_1 : List MS := b89_1 :: t89_2
def b89 : List MS := b89_0 :: t89_1
def d89 : MD := ⟨2, 9, b89⟩
/-! process:Process._unheard(self, process); slots: 0:self 1:process 2:heard 3:row 4:version 5:stays -/
def b90_0 : MS := .asg (.nm 2) (.mt .get2 (.fld (.var 0) 58) [(.var 1), (.lit (.int 0))])
def b90_1 : MS := .asg (.nm 3) (.sl (.meth (.fld (.var 0) 17) 20 [(.fld (.var 0) 29)]) [(.var 2)] [(.bin .add (.var 2) (.glo 14))])
def b90_2 : MS := .ret (.lc .enums [(.var 3), (.var 2)] [4, 5] (.tp [4, 5]) [] (.tup [(.lit (.str "end")), (.fld (.var 0) 29), (.var 4), (.var 5)]))
def t90_2 : List MS := [b90_2]
def t90_1 : List MS := b90_1 :: t90_2
def b90 : List MS := b90_0 :: t90_1
def d90 : MD := ⟨2, 6, b90⟩
/-! process:Process._shows(self, texts, told); slots: 0:self 1:texts 2:told 3:rows 4:number 5:text -/
def b91_0 : MS := .enr 3 [(.sl (.var 1) [(.var 2)] []), (.bin .add (.var 2) (.lit (.int 1)))] [4, 5] (.tp [4, 5]) (.tup [(.glo 1), (.tup [(.lit (.str "show")), (.fld (.var 0) 29), (.var 4), (.var 5)])])
def b91 : List MS := [b91_0]
def d91 : MD := ⟨3, 6, b91⟩
/-! desk:Desk.__init__(self, count); slots: 0:self 1:count 2:process -/
def b92_0 : MS := (.fset (.var 0) 51 (.var 1))
def b92_1 : MS := (.fset (.var 0) 83 (.dc .range [(.var 1)] [2] (.nm 2) (.var 2) (.lst [])))
def b92_2 : MS := (.fset (.var 0) 57 (.dc .range [(.var 1)] [2] (.nm 2) (.var 2) (.lit (.int 0))))
def b92_3 : MS := (.fset (.var 0) 84 (.dc .range [(.var 1)] [2] (.nm 2) (.var 2) (.lst [])))
def t92_3 : List MS := [b92_3]
def t92_2 : List MS := b92_2 :: t92_3
def t92_1 : List MS := b92_1 :: t92_2
def b92 : List MS := b92_0 :: t92_1
def d92 : MD := ⟨2, 3, b92⟩
/-! desk:Desk.submit(self, process, payload); slots: 0:self 1:process 2:payload -/
def b93_0 : MS := .ite (.not (.call 2 [(.fld (.var 0) 51), (.var 1)])) [.rs 4 []] []
def b93_1 : MS := .ite (.not (.call 4 [(.fld (.var 0) 51), (.var 2)])) [.rs 2 []] []
def b93_2 : MS := .ex (.mt .append (.ix (.fld (.var 0) 83) (.var 1)) [(.var 2)])
def b93_3 : MS := .ret (.meth (.var 0) 85 [(.var 1), (.bin .sub (.bi .len [(.ix (.fld (.var 0) 83) (.var 1))]) (.lit (.int 1)))])
def t93_3 : List MS := [b93_3]
def t93_2 : List MS := b93_2 :: t93_3
def t93_1 : List MS := b93_1 :: t93_2
def b93 : List MS := b93_0 :: t93_1
def d93 : MD := ⟨3, 3, b93⟩
/-! desk:Desk.receive(self, letter); slots: 0:self 1:letter 2:known 3:_ 4:sender 5:number -/
def l94_0_0 : MS := .ex (.call 22 [(.fld (.var 0) 51), (.glo 1), (.var 1)])
def l94_0 : List MS := [l94_0_0]
def l94_1_0 : MS := .ret (.lst [])
def l94_1 : List MS := [l94_1_0]
def l94_2_0 : MS := .asg (.tp [3, 4, 5]) (.var 1)
def l94_2_1 : MS := .asg (.nm 2) (.bi .min2 [(.var 5), (.bi .len [(.ix (.fld (.var 0) 83) (.var 4))])])
def l94_2_2 : MS := .sub (.fld (.var 0) 57) (.var 4) (.bi .max2 [(.ix (.fld (.var 0) 57) (.var 4)), (.var 2)])
def l94_2_3 : MS := .ret (.lst [])
def m94_2_3 : List MS := [l94_2_3]
def m94_2_2 : List MS := l94_2_2 :: m94_2_3
def m94_2_1 : List MS := l94_2_1 :: m94_2_2
def l94_2 : List MS := l94_2_0 :: m94_2_1
def b94_0 : MS := .tr l94_0 3 none l94_1
def b94_1 : MS := .ite (.cmp .eq (.ix (.var 1) (.lit (.int 0))) (.lit (.str "got"))) l94_2 []
def b94_2 : MS := .ret (.meth (.var 0) 86 [(.var 1)])
def t94_2 : List MS := [b94_2]
def t94_1 : List MS := b94_1 :: t94_2
def b94 : List MS := b94_0 :: t94_1
def d94 : MD := ⟨2, 6, b94⟩
/-! desk:Desk.tick(self); slots: 0:self 1:letters 2:process -/
def l95_0_0 : MS := .ex (.mt .extend (.var 1) [(.sl (.meth (.var 0) 85 [(.var 2), (.ix (.fld (.var 0) 57) (.var 2))]) [] [(.glo 15)])])
def l95_0 : List MS := [l95_0_0]
def b95_0 : MS := .asg (.nm 1) (.lst [])
def b95_1 : MS := .fr (.nm 2) .range [(.fld (.var 0) 51)] l95_0
def b95_2 : MS := .ret (.var 1)
def t95_2 : List MS := [b95_2]
def t95_1 : List MS := b95_1 :: t95_2
def b95 : List MS := b95_0 :: t95_1
def d95 : MD := ⟨1, 3, b95⟩
/-! desk:Desk.submitted(self, process); slots: 0:self 1:process -/
def b96_0 : MS := .ret (.bi .list [(.mt .get2 (.fld (.var 0) 83) [(.var 1), (.lst [])])])
def b96 : List MS := [b96_0]
def d96 : MD := ⟨2, 2, b96⟩
/-! desk:Desk.got(self, process); slots: 0:self 1:process -/
def b97_0 : MS := .ret (.mt .get2 (.fld (.var 0) 57) [(.var 1), (.lit (.int 0))])
def b97 : List MS := [b97_0]
def d97 : MD := ⟨2, 2, b97⟩
/-! desk:Desk.shown(self, process); slots: 0:self 1:process -/
def b98_0 : MS := .ret (.bi .list [(.mt .get2 (.fld (.var 0) 84) [(.var 1), (.lst [])])])
def b98 : List MS := [b98_0]
def d98 : MD := ⟨2, 2, b98⟩
/-! desk:Desk._receive_show(self, letter); slots: 0:self 1:letter 2:shown 3:_ 4:sender 5:number 6:text -/
def b99_0 : MS := .asg (.tp [3, 4, 5, 6]) (.var 1)
def b99_1 : MS := .asg (.nm 2) (.ix (.fld (.var 0) 84) (.var 4))
def b99_2 : MS := .ite (.cmp .eq (.var 5) (.bin .add (.bi .len [(.var 2)]) (.lit (.int 1)))) [.ex (.mt .append (.var 2) [(.var 6)])] []
def b99_3 : MS := .ret (.lst [(.tup [(.var 4), (.tup [(.lit (.str "seen")), (.glo 1), (.bi .len [(.var 2)])])])])
def t99_3 : List MS := [b99_3]
def t99_2 : List MS := b99_2 :: t99_3
def t99_1 : List MS := b99_1 :: t99_2
def b99 : List MS := b99_0 :: t99_1
def d99 : MD := ⟨2, 7, b99⟩
/-! desk:Desk._passes(self, process, first); slots: 0:self 1:process 2:first 3:clock 4:rows 5:number 6:payload -/
def b100_0 : MS := .asg (.nm 3) (.call 14 [(.fld (.var 0) 51)])
def b100_1 : MS := .enr 4 [(.sl (.ix (.fld (.var 0) 83) (.var 1)) [(.var 2)] []), (.bin .add (.var 2) (.lit (.int 1)))] [5, 6] (.tp [5, 6]) (.tup [(.var 1), (.tup [(.lit (.str "pass")), (.glo 1), (.var 5), (.var 6), (.var 3)])])
def t100_1 : List MS := [b100_1]
def b100 : List MS := b100_0 :: t100_1
def d100 : MD := ⟨3, 7, b100⟩
/-! net:Net.__init__(self); slots: 0:self -/
def b101_0 : MS := (.fset (.var 0) 91 (.lst []))
def b101 : List MS := [b101_0]
def d101 : MD := ⟨1, 1, b101⟩
/-! net:Net.send(self, sender, receiver, letter); slots: 0:self 1:sender 2:receiver 3:letter -/
def b102_0 : MS := .ex (.mt .append (.fld (.var 0) 91) [(.tup [(.var 1), (.var 2), (.var 3)])])
def b102 : List MS := [b102_0]
def d102 : MD := ⟨4, 4, b102⟩
/-! net:Net.take(self, position); slots: 0:self 1:position -/
def b103_0 : MS := .ex (.meth (.var 0) 93 [(.var 1)])
def b103_1 : MS := .ret (.mt .pop1 (.fld (.var 0) 91) [(.var 1)])
def t103_1 : List MS := [b103_1]
def b103 : List MS := b103_0 :: t103_1
def d103 : MD := ⟨2, 2, b103⟩
/-! net:Net.double(self, position); slots: 0:self 1:position -/
def b104_0 : MS := .ex (.meth (.var 0) 93 [(.var 1)])
def b104_1 : MS := .ex (.mt .append (.fld (.var 0) 91) [(.ix (.fld (.var 0) 91) (.var 1))])
def t104_1 : List MS := [b104_1]
def b104 : List MS := b104_0 :: t104_1
def d104 : MD := ⟨2, 2, b104⟩
/-! net:Net.move(self, position); slots: 0:self 1:position -/
def b105_0 : MS := .ex (.mt .append (.fld (.var 0) 91) [(.meth (.var 0) 48 [(.var 1)])])
def b105 : List MS := [b105_0]
def d105 : MD := ⟨2, 2, b105⟩
/-! net:Net.packets(self); slots: 0:self -/
def b106_0 : MS := .ret (.bi .list [(.fld (.var 0) 91)])
def b106 : List MS := [b106_0]
def d106 : MD := ⟨1, 1, b106⟩
/-! net:Net._check_position(self, position); slots: 0:self 1:position -/
def b107_0 : MS := .ite (.not (.call 0 [(.var 1), (.lit (.int 0)), (.bin .sub (.bi .len [(.fld (.var 0) 91)]) (.lit (.int 1)))])) [.rs 6 [(.lit (.int 0)), (.lit (.str "position"))]] []
def b107 : List MS := [b107_0]
def d107 : MD := ⟨2, 2, b107⟩
/-! acts:forms_of(kind); slots: 0:kind -/
def b108_0 : MS := .ret (.mt .get1 (.glo 17) [(.var 0)])
def b108 : List MS := [b108_0]
def d108 : MD := ⟨1, 1, b108⟩
/-! acts:check_act(act); slots: 0:act 1:forms 2:form 3:item -/
def b109_0 : MS := .asg (.nm 1) (.call 108 [(.call 3 [(.var 0)])])
def b109_1 : MS := .ite (.bool false [(.cmp .is_ (.var 1) (.lit .non)), (.cmp .ne (.bi .len [(.var 0)]) (.bin .add (.bi .len [(.var 1)]) (.lit (.int 1))))]) [.rs 6 [(.lit (.int 0)), (.lit (.str "act"))]] []
def b109_2 : MS := .ite (.not (.bi .all [(.lc .zip [(.var 1), (.sl (.var 0) [(.lit (.int 1))] [])] [2, 3] (.tp [2, 3]) [] (.call 110 [(.var 2), (.var 3)]))])) [.rs 6 [(.lit (.int 0)), (.lit (.str "number"))]] []
def t109_2 : List MS := [b109_2]
def t109_1 : List MS := b109_1 :: t109_2
def b109 : List MS := b109_0 :: t109_1
def d109 : MD := ⟨1, 4, b109⟩
/-! acts:_is_number(form, value); slots: 0:form 1:value -/
def b110_0 : MS := .ite (.cmp .eq (.var 0) (.lit (.str "ticks"))) [.ret (.call 0 [(.var 1), (.lit (.int 1)), (.glo 16)])] []
def b110_1 : MS := .ret (.bool false [(.cmp .ne (.var 0) (.lit (.str "number"))), (.call 0 [(.var 1), (.lit (.int 0)), (.glo 5)])])
def t110_1 : List MS := [b110_1]
def b110 : List MS := b110_0 :: t110_1
def d110 : MD := ⟨2, 2, b110⟩
/-! schedule:parse_schedule(text); slots: 0:text 1:group 2:acts 3:line 4:row 5:word -/
def l111_0_0 : MS := .ite (.not (.call 16 [(.var 4)])) [.rs 6 [(.var 3), (.lit (.str "character"))]] []
def l111_0_1 : MS := .ite (.bool false [(.cmp .eq (.var 4) (.lit (.str ""))), (.mt .starts (.var 4) [(.lit (.str "#"))])]) [.cnt] []
def l111_0_2 : MS := .asg (.nm 5) (.ix (.mt .split (.var 4) [(.lit (.str " "))]) (.lit (.int 0)))
def l111_0_3 : MS := .ite (.cmp .ne (.cmp .eq (.var 5) (.lit (.str "group"))) (.cmp .is_ (.var 1) (.lit .non))) [.rs 6 [(.var 3), (.lit (.str "group"))]] []
def l111_0_4 : MS := .ite (.cmp .is_ (.var 1) (.lit .non)) [.asg (.nm 1) (.tup [(.var 3), (.ix (.call 113 [(.var 3), (.var 4), (.tup [(.lit (.str "number"))])]) (.lit (.int 0)))])] [.ex (.mt .append (.var 2) [(.tup [(.var 3), (.call 112 [(.var 3), (.var 4), (.var 5)])])])]
def m111_0_4 : List MS := [l111_0_4]
def m111_0_3 : List MS := l111_0_3 :: m111_0_4
def m111_0_2 : List MS := l111_0_2 :: m111_0_3
def m111_0_1 : List MS := l111_0_1 :: m111_0_2
def l111_0 : List MS := l111_0_0 :: m111_0_1
def b111_0 : MS := .asg (.nm 1) (.lit .non)
def b111_1 : MS := .asg (.nm 2) (.lst [])
def b111_2 : MS := .fr (.tp [3, 4]) .enums [(.mt .split (.var 0) [(.lit (.str "\n"))]), (.lit (.int 1))] l111_0
def b111_3 : MS := .ite (.cmp .is_ (.var 1) (.lit .non)) [.rs 6 [(.lit (.int 0)), (.lit (.str "group"))]] []
def b111_4 : MS := .ret (.tup [(.ix (.var 1) (.lit (.int 0))), (.ix (.var 1) (.lit (.int 1))), (.var 2)])
def t111_4 : List MS := [b111_4]
def t111_3 : List MS := b111_3 :: t111_4
def t111_2 : List MS := b111_2 :: t111_3
def t111_1 : List MS := b111_1 :: t111_2
def b111 : List MS := b111_0 :: t111_1
def d111 : MD := ⟨1, 6, b111⟩
/-! schedule:_act_of(line, row, word); slots: 0:line 1:row 2:word 3:forms 4:items -/
def b112_0 : MS := .asg (.nm 3) (.call 108 [(.var 2)])
def b112_1 : MS := .ite (.cmp .is_ (.var 3) (.lit .non)) [.rs 6 [(.var 0), (.lit (.str "verb"))]] []
def b112_2 : MS := .asg (.nm 4) (.call 113 [(.var 0), (.var 1), (.var 3)])
def b112_3 : MS := .bad
def t112_3 : List MS := [b112_3]
def t112_2 : List MS := b112_2 :: t112_3
def t112_1 : List MS := b112_1 :: t112_2
def b112 : List MS := b112_0 :: t112_1
def d112 : MD := ⟨3, 5, b112⟩
/-! schedule:_items_of(line, row, forms); slots: 0:line 1:row 2:forms 3:words 4:items 5:form 6:item 7:word -/
def l113_0_0 : MS := .ite (.cmp .is_ (.var 6) (.lit .non)) [.rs 6 [(.var 0), (.ifx (.cmp .eq (.var 5) (.lit (.str "payload"))) (.lit (.str "text")) (.lit (.str "number")))]] []
def l113_0 : List MS := [l113_0_0]
def b113_0 : MS := .bad
def b113_1 : MS := .ite (.cmp .ne (.bi .len [(.var 3)]) (.bin .add (.bi .len [(.var 2)]) (.lit (.int 1)))) [.rs 6 [(.var 0), (.lit (.str "count"))]] []
def b113_2 : MS := .asg (.nm 4) (.lc .zip [(.var 2), (.sl (.var 3) [(.lit (.int 1))] [])] [5, 7] (.tp [5, 7]) [] (.call 114 [(.var 5), (.var 7)]))
def b113_3 : MS := .fr (.tp [5, 6]) .zip [(.var 2), (.var 4)] l113_0
def b113_4 : MS := .ret (.var 4)
def t113_4 : List MS := [b113_4]
def t113_3 : List MS := b113_3 :: t113_4
def t113_2 : List MS := b113_2 :: t113_3
def t113_1 : List MS := b113_1 :: t113_2
def b113 : List MS := b113_0 :: t113_1
def d113 : MD := ⟨3, 8, b113⟩
/-! schedule:_item_of(form, word); slots: 0:form 1:word 2:number -/
def b114_0 : MS := .ite (.cmp .eq (.var 0) (.lit (.str "payload"))) [.ret (.call 115 [(.var 1)])] []
def b114_1 : MS := .asg (.nm 2) (.call 9 [(.var 1)])
def b114_2 : MS := .ret (.ifx (.call 0 [(.var 2), (.lit (.int 0)), (.glo 18)]) (.var 2) (.lit .non))
def t114_2 : List MS := [b114_2]
def t114_1 : List MS := b114_1 :: t114_2
def b114 : List MS := b114_0 :: t114_1
def d114 : MD := ⟨2, 3, b114⟩
/-! schedule:_payload_of(text); slots: 0:text -/
def l115_0_0 : MS := .ret (.call 10 [(.glo 0), (.var 0)])
def l115_0 : List MS := [l115_0_0]
def l115_1_0 : MS := .ret (.lit .non)
def l115_1 : List MS := [l115_1_0]
def b115_0 : MS := .tr l115_0 1 none l115_1
def b115 : List MS := [b115_0]
def d115 : MD := ⟨1, 1, b115⟩
/-! schedule:act_line(act); slots: 0:act 1:words 2:form 3:item -/
def l116_0_0 : MS := .ex (.call 109 [(.var 0)])
def l116_0 : List MS := [l116_0_0]
def l116_1_0 : MS := .bad
def l116_1 : List MS := [l116_1_0]
def l116_2_0 : MS := .ex (.mt .append (.var 1) [(.call 117 [(.var 2), (.var 3)])])
def l116_2 : List MS := [l116_2_0]
def b116_0 : MS := .tr l116_0 6 none l116_1
def b116_1 : MS := .asg (.nm 1) (.lst [(.ix (.var 0) (.lit (.int 0)))])
def b116_2 : MS := .fr (.tp [2, 3]) .zip [(.call 108 [(.ix (.var 0) (.lit (.int 0)))]), (.sl (.var 0) [(.lit (.int 1))] [])] l116_2
def b116_3 : MS := .ret (.mt .join (.lit (.str " ")) [(.var 1)])
def t116_3 : List MS := [b116_3]
def t116_2 : List MS := b116_2 :: t116_3
def t116_1 : List MS := b116_1 :: t116_2
def b116 : List MS := b116_0 :: t116_1
def d116 : MD := ⟨1, 4, b116⟩
/-! schedule:_word_of(form, item); slots: 0:form 1:item -/
def b117_0 : MS := .ite (.bool true [(.cmp .eq (.var 0) (.lit (.str "payload"))), (.call 4 [(.glo 0), (.var 1)])]) [.ret (.call 7 [(.glo 0), (.var 1)])] []
def b117_1 : MS := .ite (.bool true [(.cmp .ne (.var 0) (.lit (.str "payload"))), (.call 0 [(.var 1), (.lit (.int 0)), (.glo 18)])]) [.ret (.bi .str [(.var 1)])] []
def b117_2 : MS := .rs 6 [(.lit (.int 0)), (.lit (.str "act"))]
def t117_2 : List MS := [b117_2]
def t117_1 : List MS := b117_1 :: t117_2
def b117 : List MS := b117_0 :: t117_1
def d117 : MD := ⟨2, 2, b117⟩
/-! history:History.__init__(self); slots: 0:self -/
def b118_0 : MS := (.fset (.var 0) 97 (.lst []))
def b118 : List MS := [b118_0]
def d118 : MD := ⟨1, 1, b118⟩
/-! history:History.add(self, event); slots: 0:self 1:event -/
def b119_0 : MS := .ite (.not (.call 121 [(.var 1)])) [.rs 6 [(.lit (.int 0)), (.lit (.str "event"))]] []
def b119_1 : MS := .ite (.bool true [(.cmp .gt (.bi .len [(.fld (.var 0) 97)]) (.lit (.int 0))), (.cmp .lt (.ix (.var 1) (.lit (.int 1))) (.ix (.ix (.fld (.var 0) 97) (.neg (.lit (.int 1)))) (.lit (.int 1))))]) [.rs 6 [(.lit (.int 0)), (.lit (.str "time"))]] []
def b119_2 : MS := .ex (.mt .append (.fld (.var 0) 97) [(.var 1)])
def t119_2 : List MS := [b119_2]
def t119_1 : List MS := b119_1 :: t119_2
def b119 : List MS := b119_0 :: t119_1
def d119 : MD := ⟨2, 2, b119⟩
/-! history:History.events(self); slots: 0:self -/
def b120_0 : MS := .ret (.bi .list [(.fld (.var 0) 97)])
def b120 : List MS := [b120_0]
def d120 : MD := ⟨1, 1, b120⟩
/-! history:_is_event(value); slots: 0:value 1:length -/
def b121_0 : MS := .asg (.nm 1) (.mt .get1 (.glo 19) [(.call 3 [(.var 0)])])
def b121_1 : MS := .ret (.bool true [(.cmp .nis (.var 1) (.lit .non)), (.cmp .eq (.bi .len [(.var 0)]) (.var 1)), (.call 0 [(.ix (.var 0) (.lit (.int 1))), (.lit (.int 0)), (.glo 5)])])
def t121_1 : List MS := [b121_1]
def b121 : List MS := b121_0 :: t121_1
def d121 : MD := ⟨1, 2, b121⟩
/-! world:World.__init__(self, count); slots: 0:self 1:count 2:process 3:me -/
def b122_0 : MS := .ite (.not (.call 1 [(.var 1)])) [.rs 6 [(.lit (.int 0)), (.lit (.str "processes"))]] []
def b122_1 : MS := (.fset (.var 0) 51 (.var 1))
def b122_2 : MS := (.fset (.var 0) 98 (.lit (.int 0)))
def b122_3 : MS := (.fset (.var 0) 99 (.make 6 []))
def b122_4 : MS := (.fset (.var 0) 100 (.make 5 [(.var 1)]))
def b122_5 : MS := (.fset (.var 0) 101 (.make 7 []))
def b122_6 : MS := (.fset (.var 0) 102 (.dc .range [(.var 1)] [2] (.nm 2) (.var 2) (.make 0 [])))
def b122_7 : MS := (.fset (.var 0) 103 (.dc .range [(.var 1)] [3] (.nm 3) (.var 3) (.make 4 [(.var 3), (.var 1), (.ix (.fld (.var 0) 102) (.var 3))])))
def b122_8 : MS := (.fset (.var 0) 104 (.dc .range [(.var 1)] [2] (.nm 2) (.var 2) (.lit (.int 0))))
def b122_9 : MS := (.fset (.var 0) 105 (.dsp [] []))
def t122_9 : List MS := [b122_9]
def t122_8 : List MS := b122_8 :: t122_9
def t122_7 : List MS := b122_7 :: t122_8
def t122_6 : List MS := b122_6 :: t122_7
def t122_5 : List MS := b122_5 :: t122_6
def t122_4 : List MS := b122_4 :: t122_5
def t122_3 : List MS := b122_3 :: t122_4
def t122_2 : List MS := b122_2 :: t122_3
def t122_1 : List MS := b122_1 :: t122_2
def b122 : List MS := b122_0 :: t122_1
def d122 : MD := ⟨2, 4, b122⟩
/-! world:World.act(self, step); slots: 0:self 1:step 2:kind -/
def b123_0 : MS := .ex (.meth (.var 0) 107 [(.var 1)])
def b123_1 : MS := .asg (.nm 2) (.ix (.var 1) (.lit (.int 0)))
def b123_2 : MS := .ite (.cmp .eq (.var 2) (.lit (.str "tick"))) [.ex (.meth (.var 0) 115 [(.ix (.var 1) (.lit (.int 1)))])] [.ite (.cmp .eq (.var 2) (.lit (.str "calm"))) [.ex (.meth (.var 0) 120 [(.ix (.var 1) (.lit (.int 1)))])] [.ite (.cmp .eq (.var 2) (.lit (.str "round"))) [.ex (.meth (.var 0) 116 [])] [.ite (.cmp .eq (.var 2) (.lit (.str "submit"))) [.ex (.meth (.var 0) 126 [(.ix (.var 1) (.lit (.int 1))), (.ix (.var 1) (.lit (.int 2)))])] [.ite (.cmp .in_ (.var 2) (.tup [(.lit (.str "deliver")), (.lit (.str "lose")), (.lit (.str "double")), (.lit (.str "move"))])) [.ex (.meth (.var 0) 128 [(.var 2), (.ix (.var 1) (.lit (.int 1)))])] [.ex (.meth (.var 0) 129 [(.var 1)])]]]]]
def t123_2 : List MS := [b123_2]
def t123_1 : List MS := b123_1 :: t123_2
def b123 : List MS := b123_0 :: t123_1
def d123 : MD := ⟨2, 3, b123⟩
/-! world:World.time(self); slots: 0:self -/
def b124_0 : MS := .ret (.fld (.var 0) 98)
def b124 : List MS := [b124_0]
def d124 : MD := ⟨1, 1, b124⟩
/-! world:World.packets(self); slots: 0:self -/
def b125_0 : MS := .ret (.meth (.fld (.var 0) 99) 92 [])
def b125 : List MS := [b125_0]
def d125 : MD := ⟨1, 1, b125⟩
/-! world:World.is_up(self, process); slots: 0:self 1:process -/
def b126_0 : MS := .ex (.meth (.var 0) 108 [(.var 1)])
def b126_1 : MS := .ret (.cmp .nis (.ix (.fld (.var 0) 103) (.var 1)) (.lit .non))
def t126_1 : List MS := [b126_1]
def b126 : List MS := b126_0 :: t126_1
def d126 : MD := ⟨2, 2, b126⟩
/-! world:World.process(self, process); slots: 0:self 1:process -/
def b127_0 : MS := .ite (.not (.meth (.var 0) 114 [(.var 1)])) [.rs 6 [(.lit (.int 0)), (.lit (.str "state"))]] []
def b127_1 : MS := .ret (.ix (.fld (.var 0) 103) (.var 1))
def t127_1 : List MS := [b127_1]
def b127 : List MS := b127_0 :: t127_1
def d127 : MD := ⟨2, 2, b127⟩
/-! world:World.tape(self, process); slots: 0:self 1:process -/
def b128_0 : MS := .ex (.meth (.var 0) 108 [(.var 1)])
def b128_1 : MS := .ret (.ix (.fld (.var 0) 102) (.var 1))
def t128_1 : List MS := [b128_1]
def b128 : List MS := b128_0 :: t128_1
def d128 : MD := ⟨2, 2, b128⟩
/-! world:World.desk(self); slots: 0:self -/
def b129_0 : MS := .ret (.fld (.var 0) 100)
def b129 : List MS := [b129_0]
def d129 : MD := ⟨1, 1, b129⟩
/-! world:World.history(self); slots: 0:self 1:copied 2:event -/
def l130_0_0 : MS := .ex (.meth (.var 1) 24 [(.var 2)])
def l130_0 : List MS := [l130_0_0]
def b130_0 : MS := .asg (.nm 1) (.make 7 [])
def b130_1 : MS := .fr (.nm 2) .seq [(.meth (.fld (.var 0) 101) 109 [])] l130_0
def b130_2 : MS := .ret (.var 1)
def t130_2 : List MS := [b130_2]
def t130_1 : List MS := b130_1 :: t130_2
def b130 : List MS := b130_0 :: t130_1
def d130 : MD := ⟨1, 3, b130⟩
/-! world:World._check_process(self, process); slots: 0:self 1:process -/
def b131_0 : MS := .ite (.not (.call 2 [(.fld (.var 0) 51), (.var 1)])) [.rs 6 [(.lit (.int 0)), (.lit (.str "process"))]] []
def b131 : List MS := [b131_0]
def d131 : MD := ⟨2, 2, b131⟩
/-! world:World._check(self, step); slots: 0:self 1:step 2:kind -/
def b132_0 : MS := .ex (.call 109 [(.var 1)])
def b132_1 : MS := .asg (.nm 2) (.ix (.var 1) (.lit (.int 0)))
def b132_2 : MS := .ite (.cmp .in_ (.var 2) (.tup [(.lit (.str "submit")), (.lit (.str "flush")), (.lit (.str "arm")), (.lit (.str "crash")), (.lit (.str "start"))])) [.ex (.meth (.var 0) 108 [(.ix (.var 1) (.lit (.int 1)))])] []
def b132_3 : MS := .ite (.bool true [(.cmp .eq (.var 2) (.lit (.str "submit"))), (.not (.call 4 [(.fld (.var 0) 51), (.ix (.var 1) (.lit (.int 2)))]))]) [.rs 6 [(.lit (.int 0)), (.lit (.str "payload"))]] []
def b132_4 : MS := .ite (.bool true [(.cmp .in_ (.var 2) (.tup [(.lit (.str "flush")), (.lit (.str "crash"))])), (.not (.meth (.var 0) 114 [(.ix (.var 1) (.lit (.int 1)))]))]) [.rs 6 [(.lit (.int 0)), (.lit (.str "state"))]] []
def b132_5 : MS := .ite (.bool true [(.cmp .eq (.var 2) (.lit (.str "start"))), (.meth (.var 0) 114 [(.ix (.var 1) (.lit (.int 1)))])]) [.rs 6 [(.lit (.int 0)), (.lit (.str "state"))]] []
def t132_5 : List MS := [b132_5]
def t132_4 : List MS := b132_4 :: t132_5
def t132_3 : List MS := b132_3 :: t132_4
def t132_2 : List MS := b132_2 :: t132_3
def t132_1 : List MS := b132_1 :: t132_2
def b132 : List MS := b132_0 :: t132_1
def d132 : MD := ⟨2, 3, b132⟩
/-! world:World._tick(self, count); slots: 0:self 1:count 2:_ 3:me -/
def l133_1_0 : MS := .ite (.meth (.var 0) 114 [(.var 3)]) [.ex (.meth (.var 0) 119 [(.var 3), (.lit (.str "tick")), (.lit .non)])] []
def l133_1 : List MS := [l133_1_0]
def l133_0_0 : MS := .faug .add (.var 0) 98 (.lit (.int 1))
def l133_0_1 : MS := .fr (.nm 3) .range [(.fld (.var 0) 51)] l133_1
def l133_0_2 : MS := .ex (.meth (.var 0) 45 [(.glo 1), (.meth (.fld (.var 0) 100) 76 [])])
def m133_0_2 : List MS := [l133_0_2]
def m133_0_1 : List MS := l133_0_1 :: m133_0_2
def l133_0 : List MS := l133_0_0 :: m133_0_1
def b133_0 : MS := .fr (.nm 2) .range [(.var 1)] l133_0
def b133 : List MS := [b133_0]
def d133 : MD := ⟨2, 4, b133⟩
/-! world:World._calm(self, count); slots: 0:self 1:count 2:_ -/
def l134_0_0 : MS := .ex (.meth (.var 0) 115 [(.lit (.int 1))])
def l134_0_1 : MS := .ex (.meth (.var 0) 116 [])
def m134_0_1 : List MS := [l134_0_1]
def l134_0 : List MS := l134_0_0 :: m134_0_1
def b134_0 : MS := .fr (.nm 2) .range [(.var 1)] l134_0
def b134 : List MS := [b134_0]
def d134 : MD := ⟨2, 3, b134⟩
/-! world:World._deliver_all(self); slots: 0:self 1:_ -/
def l135_0_0 : MS := .ex (.meth (.var 0) 117 [(.lit (.int 0))])
def l135_0 : List MS := [l135_0_0]
def b135_0 : MS := .fr (.nm 1) .range [(.bi .len [(.meth (.fld (.var 0) 99) 92 [])])] l135_0
def b135 : List MS := [b135_0]
def d135 : MD := ⟨1, 2, b135⟩
/-! world:World._deliver(self, position); slots: 0:self 1:position 2:_ 3:receiver 4:letter -/
def b136_0 : MS := .asg (.tp [2, 3, 4]) (.meth (.fld (.var 0) 99) 48 [(.var 1)])
def b136_1 : MS := .ite (.cmp .eq (.var 3) (.glo 1)) [.ex (.meth (.var 0) 118 [(.var 4)])] [.ite (.meth (.var 0) 114 [(.var 3)]) [.ex (.meth (.var 0) 119 [(.var 3), (.lit (.str "receive")), (.var 4)])] []]
def t136_1 : List MS := [b136_1]
def b136 : List MS := b136_0 :: t136_1
def d136 : MD := ⟨2, 5, b136⟩
/-! world:World._deliver_to_desk(self, letter); slots: 0:self 1:letter 2:sender 3:before 4:letters 5:shown -/
def b137_0 : MS := .asg (.nm 2) (.ix (.var 1) (.lit (.int 1)))
def b137_1 : MS := .asg (.nm 3) (.bi .len [(.meth (.fld (.var 0) 100) 89 [(.var 2)])])
def b137_2 : MS := .asg (.nm 4) (.meth (.fld (.var 0) 100) 82 [(.var 1)])
def b137_3 : MS := .asg (.nm 5) (.meth (.fld (.var 0) 100) 89 [(.var 2)])
def b137_4 : MS := .ite (.cmp .gt (.bi .len [(.var 5)]) (.var 3)) [.ex (.meth (.var 0) 110 [(.lit (.str "show")), (.var 2), (.bi .len [(.var 5)]), (.ix (.var 5) (.neg (.lit (.int 1))))])] []
def b137_5 : MS := .ex (.meth (.var 0) 45 [(.glo 1), (.var 4)])
def t137_5 : List MS := [b137_5]
def t137_4 : List MS := b137_4 :: t137_5
def t137_3 : List MS := b137_3 :: t137_4
def t137_2 : List MS := b137_2 :: t137_3
def t137_1 : List MS := b137_1 :: t137_2
def b137 : List MS := b137_0 :: t137_1
def d137 : MD := ⟨2, 6, b137⟩
/-! world:World._submit(self, process, payload); slots: 0:self 1:process 2:payload 3:letters -/
def b138_0 : MS := .asg (.nm 3) (.meth (.fld (.var 0) 100) 87 [(.var 1), (.var 2)])
def b138_1 : MS := .ex (.meth (.var 0) 110 [(.lit (.str "submit")), (.var 1), (.bi .len [(.meth (.fld (.var 0) 100) 88 [(.var 1)])]), (.var 2)])
def b138_2 : MS := .ex (.meth (.var 0) 45 [(.glo 1), (.var 3)])
def t138_2 : List MS := [b138_2]
def t138_1 : List MS := b138_1 :: t138_2
def b138 : List MS := b138_0 :: t138_1
def d138 : MD := ⟨3, 4, b138⟩
/-! world:World._act_on_packet(self, kind, position); slots: 0:self 1:kind 2:position -/
def b139_0 : MS := .ite (.cmp .eq (.var 1) (.lit (.str "deliver"))) [.ex (.meth (.var 0) 117 [(.var 2)])] [.ite (.cmp .eq (.var 1) (.lit (.str "lose"))) [.ex (.meth (.fld (.var 0) 99) 48 [(.var 2)])] [.ite (.cmp .eq (.var 1) (.lit (.str "double"))) [.ex (.meth (.fld (.var 0) 99) 95 [(.var 2)])] [.ex (.meth (.fld (.var 0) 99) 94 [(.var 2)])]]]
def b139 : List MS := [b139_0]
def d139 : MD := ⟨3, 3, b139⟩
/-! world:World._act_on_process(self, step); slots: 0:self 1:step 2:kind 3:process -/
def b140_0 : MS := .par 2 3 [(.ix (.var 1) (.lit (.int 0))), (.ix (.var 1) (.lit (.int 1)))]
def b140_1 : MS := .ite (.cmp .eq (.var 2) (.lit (.str "flush"))) [.ex (.meth (.var 0) 119 [(.var 3), (.lit (.str "flush")), (.lit .non)])] [.ite (.cmp .eq (.var 2) (.lit (.str "crash"))) [.ex (.meth (.var 0) 121 [(.var 3)])] [.ite (.cmp .eq (.var 2) (.lit (.str "start"))) [.ex (.meth (.var 0) 124 [(.var 3), (.ix (.var 1) (.lit (.int 2)))])] [.ite (.meth (.var 0) 114 [(.var 3)]) [.ex (.meth (.ix (.fld (.var 0) 102) (.var 3)) 12 [(.ix (.var 1) (.lit (.int 2)))])] [.sub (.fld (.var 0) 105) (.var 3) (.ix (.var 1) (.lit (.int 2)))]]]]
def t140_1 : List MS := [b140_1]
def b140 : List MS := b140_0 :: t140_1
def d140 : MD := ⟨2, 4, b140⟩
/-! world:World._call(self, me, name, letter); slots: 0:self 1:me 2:name 3:letter 4:process 5:before 6:letters -/
def l141_0_0 : MS := .asg (.nm 6) (.call 148 [(.var 4), (.var 2), (.var 3)])
def l141_0 : List MS := [l141_0_0]
def l141_1_0 : MS := .ex (.meth (.var 0) 121 [(.var 1)])
def l141_1_1 : MS := .retN
def m141_1_1 : List MS := [l141_1_1]
def l141_1 : List MS := l141_1_0 :: m141_1_1
def b141_0 : MS := .asg (.nm 4) (.ix (.fld (.var 0) 103) (.var 1))
def b141_1 : MS := .asg (.nm 5) (.bi .len [(.meth (.var 4) 38 [])])
def b141_2 : MS := .tr l141_0 5 none l141_1
def b141_3 : MS := .ex (.meth (.var 0) 111 [(.var 1), (.var 5)])
def b141_4 : MS := .ex (.meth (.var 0) 112 [(.var 1), (.var 5)])
def b141_5 : MS := .ex (.meth (.var 0) 45 [(.var 1), (.var 6)])
def t141_5 : List MS := [b141_5]
def t141_4 : List MS := b141_4 :: t141_5
def t141_3 : List MS := b141_3 :: t141_4
def t141_2 : List MS := b141_2 :: t141_3
def t141_1 : List MS := b141_1 :: t141_2
def b141 : List MS := b141_0 :: t141_1
def d141 : MD := ⟨4, 7, b141⟩
/-! world:World._note_takes(self, me, before); slots: 0:self 1:me 2:before 3:sender 4:number 5:payload 6:_ 7:version -/
def l142_0_0 : MS := .ex (.meth (.var 0) 110 [(.lit (.str "take")), (.var 1), (.var 7), (.var 3), (.var 4), (.var 5)])
def l142_0 : List MS := [l142_0_0]
def b142_0 : MS := .fr (.tp [3, 4, 5, 6, 7]) .seq [(.sl (.meth (.ix (.fld (.var 0) 103) (.var 1)) 38 []) [(.var 2)] [])] l142_0
def b142 : List MS := [b142_0]
def d142 : MD := ⟨3, 8, b142⟩
/-! world:World._note_left(self, me, before); slots: 0:self 1:me 2:before 3:left -/
def b143_0 : MS := .asg (.nm 3) (.bi .len [(.meth (.ix (.fld (.var 0) 103) (.var 1)) 38 [])])
def b143_1 : MS := .ite (.cmp .lt (.var 3) (.var 2)) [.ex (.meth (.var 0) 110 [(.lit (.str "undo")), (.var 1), (.var 3)])] []
def b143_2 : MS := .sub (.fld (.var 0) 104) (.var 1) (.var 3)
def t143_2 : List MS := [b143_2]
def t143_1 : List MS := b143_1 :: t143_2
def b143 : List MS := b143_0 :: t143_1
def d143 : MD := ⟨3, 4, b143⟩
/-! world:World._go_down(self, me); slots: 0:self 1:me -/
def b144_0 : MS := .sub (.fld (.var 0) 103) (.var 1) (.lit .non)
def b144_1 : MS := .ex (.meth (.var 0) 110 [(.lit (.str "crash")), (.var 1)])
def t144_1 : List MS := [b144_1]
def b144 : List MS := b144_0 :: t144_1
def d144 : MD := ⟨2, 2, b144⟩
/-! world:World._start(self, me, keep); slots: 0:self 1:me 2:keep 3:tape 4:passing -/
def l145_0_0 : MS := .sub (.fld (.var 0) 103) (.var 1) (.make 4 [(.var 1), (.fld (.var 0) 51), (.var 3)])
def l145_0 : List MS := [l145_0_0]
def l145_1_0 : MS := .retN
def l145_1 : List MS := [l145_1_0]
def b145_0 : MS := .asg (.nm 3) (.ix (.fld (.var 0) 102) (.var 1))
def b145_1 : MS := .ex (.meth (.var 3) 10 [(.var 2)])
def b145_2 : MS := .bad
def b145_3 : MS := .ite (.cmp .nis (.var 4) (.lit .non)) [.ex (.meth (.var 3) 12 [(.var 4)])] []
def b145_4 : MS := .tr l145_0 5 none l145_1
def b145_5 : MS := .ex (.meth (.var 0) 110 [(.lit (.str "start")), (.var 1), (.meth (.ix (.fld (.var 0) 103) (.var 1)) 73 [])])
def b145_6 : MS := .ex (.meth (.var 0) 112 [(.var 1), (.ix (.fld (.var 0) 104) (.var 1))])
def t145_6 : List MS := [b145_6]
def t145_5 : List MS := b145_5 :: t145_6
def t145_4 : List MS := b145_4 :: t145_5
def t145_3 : List MS := b145_3 :: t145_4
def t145_2 : List MS := b145_2 :: t145_3
def t145_1 : List MS := b145_1 :: t145_2
def b145 : List MS := b145_0 :: t145_1
def d145 : MD := ⟨3, 5, b145⟩
/-! world:World._send(self, sender, letters); slots: 0:self 1:sender 2:letters 3:receiver 4:letter -/
def l146_0_0 : MS := .ex (.meth (.fld (.var 0) 99) 96 [(.var 1), (.var 3), (.var 4)])
def l146_0 : List MS := [l146_0_0]
def b146_0 : MS := .fr (.tp [3, 4]) .seq [(.var 2)] l146_0
def b146 : List MS := [b146_0]
def d146 : MD := ⟨3, 5, b146⟩
/-! world:_answer(process, name, letter); slots: 0:process 1:name 2:letter -/
def b148_0 : MS := .ite (.cmp .eq (.var 1) (.lit (.str "tick"))) [.ret (.meth (.var 0) 76 [])] []
def b148_1 : MS := .ite (.cmp .eq (.var 1) (.lit (.str "receive"))) [.ret (.meth (.var 0) 82 [(.var 2)])] []
def b148_2 : MS := .ex (.meth (.var 0) 81 [])
def b148_3 : MS := .ret (.lst [])
def t148_3 : List MS := [b148_3]
def t148_2 : List MS := b148_2 :: t148_3
def t148_1 : List MS := b148_1 :: t148_2
def b148 : List MS := b148_0 :: t148_1
def d148 : MD := ⟨3, 3, b148⟩
/-! schedule:run_schedule(text); slots: 0:text 1:world 2:line 3:count 4:acts 5:place 6:act -/
def l149_0_0 : MS := .ex (.call 151 [(.var 1), (.var 5), (.var 6)])
def l149_0 : List MS := [l149_0_0]
def b149_0 : MS := .asg (.tp [2, 3, 4]) (.call 111 [(.var 0)])
def b149_1 : MS := .asg (.nm 1) (.call 150 [(.var 2), (.var 3)])
def b149_2 : MS := .fr (.tp [5, 6]) .seq [(.var 4)] l149_0
def b149_3 : MS := .ret (.var 1)
def t149_3 : List MS := [b149_3]
def t149_2 : List MS := b149_2 :: t149_3
def t149_1 : List MS := b149_1 :: t149_2
def b149 : List MS := b149_0 :: t149_1
def d149 : MD := ⟨1, 7, b149⟩
/-! schedule:_world_of(line, count); slots: 0:line 1:count 2:error -/
def l150_0_0 : MS := .ret (.make 8 [(.var 1)])
def l150_0 : List MS := [l150_0_0]
def l150_1_0 : MS := .bad
def l150_1 : List MS := [l150_1_0]
def b150_0 : MS := .tr l150_0 6 (some 2) l150_1
def b150 : List MS := [b150_0]
def d150 : MD := ⟨2, 3, b150⟩
/-! schedule:_perform(world, line, act); slots: 0:world 1:line 2:act 3:error -/
def l151_0_0 : MS := .ex (.meth (.var 0) 106 [(.var 2)])
def l151_0 : List MS := [l151_0_0]
def l151_1_0 : MS := .bad
def l151_1 : List MS := [l151_1_0]
def b151_0 : MS := .tr l151_0 6 (some 3) l151_1
def b151 : List MS := [b151_0]
def d151 : MD := ⟨3, 4, b151⟩
/-! judge:Replay.__init__(self); slots: 0:self -/
def b152_0 : MS := (.fset (.var 0) 33 (.lst []))
def b152_1 : MS := (.fset (.var 0) 30 (.lst [(.glo 12)]))
def b152_2 : MS := (.fset (.var 0) 130 (.lst [(.lit (.int 0))]))
def b152_3 : MS := (.fset (.var 0) 131 (.lst []))
def b152_4 : MS := (.fset (.var 0) 36 (.lst []))
def b152_5 : MS := (.fset (.var 0) 132 (.dsp [] []))
def t152_5 : List MS := [b152_5]
def t152_4 : List MS := b152_4 :: t152_5
def t152_3 : List MS := b152_3 :: t152_4
def t152_2 : List MS := b152_2 :: t152_3
def t152_1 : List MS := b152_1 :: t152_2
def b152 : List MS := b152_0 :: t152_1
def d152 : MD := ⟨1, 1, b152⟩
/-! judge:Replay.take(self, sender, number, payload); slots: 0:self 1:sender 2:number 3:payload 4:cells 5:sends 6:outputs -/
def b153_0 : MS := .asg (.tp [4, 5, 6]) (.call 33 [(.ix (.fld (.var 0) 30) (.neg (.lit (.int 1)))), (.var 3)])
def b153_1 : MS := .ex (.mt .append (.fld (.var 0) 33) [(.tup [(.var 1), (.var 2), (.var 3)])])
def b153_2 : MS := .ex (.mt .append (.fld (.var 0) 30) [(.var 4)])
def b153_3 : MS := .ex (.mt .append (.fld (.var 0) 36) [(.var 5)])
def b153_4 : MS := .ex (.mt .extend (.fld (.var 0) 131) [(.var 6)])
def b153_5 : MS := .ex (.mt .append (.fld (.var 0) 130) [(.bi .len [(.fld (.var 0) 131)])])
def b153_6 : MS := .sub (.fld (.var 0) 132) (.var 1) (.bin .add (.meth (.var 0) 47 [(.var 1)]) (.lit (.int 1)))
def t153_6 : List MS := [b153_6]
def t153_5 : List MS := b153_5 :: t153_6
def t153_4 : List MS := b153_4 :: t153_5
def t153_3 : List MS := b153_3 :: t153_4
def t153_2 : List MS := b153_2 :: t153_3
def t153_1 : List MS := b153_1 :: t153_2
def b153 : List MS := b153_0 :: t153_1
def d153 : MD := ⟨4, 7, b153⟩
/-! judge:Replay.cut(self, count); slots: 0:self 1:count 2:sender 3:_ -/
def l154_0_0 : MS := .asg (.tp [2, 3, 3]) (.mt .pop (.fld (.var 0) 33) [])
def l154_0_1 : MS := .sub (.fld (.var 0) 132) (.var 2) (.bin .sub (.ix (.fld (.var 0) 132) (.var 2)) (.lit (.int 1)))
def l154_0_2 : MS := .ex (.mt .pop (.fld (.var 0) 30) [])
def l154_0_3 : MS := .ex (.mt .pop (.fld (.var 0) 36) [])
def l154_0_4 : MS := .ex (.mt .pop (.fld (.var 0) 130) [])
def m154_0_4 : List MS := [l154_0_4]
def m154_0_3 : List MS := l154_0_3 :: m154_0_4
def m154_0_2 : List MS := l154_0_2 :: m154_0_3
def m154_0_1 : List MS := l154_0_1 :: m154_0_2
def l154_0 : List MS := l154_0_0 :: m154_0_1
def b154_0 : MS := .whl (.cmp .gt (.meth (.var 0) 37 []) (.var 1)) l154_0
def b154_1 : MS := (.fset (.var 0) 131 (.sl (.fld (.var 0) 131) [] [(.ix (.fld (.var 0) 130) (.neg (.lit (.int 1))))]))
def t154_1 : List MS := [b154_1]
def b154 : List MS := b154_0 :: t154_1
def d154 : MD := ⟨2, 4, b154⟩
/-! judge:Replay.size(self); slots: 0:self -/
def b155_0 : MS := .ret (.bi .len [(.fld (.var 0) 33)])
def b155 : List MS := [b155_0]
def d155 : MD := ⟨1, 1, b155⟩
/-! judge:Replay.taken(self, sender); slots: 0:self 1:sender -/
def b156_0 : MS := .ret (.mt .get2 (.fld (.var 0) 132) [(.var 1), (.lit (.int 0))])
def b156 : List MS := [b156_0]
def d156 : MD := ⟨2, 2, b156⟩
/-! judge:Replay.inputs(self); slots: 0:self -/
def b157_0 : MS := .ret (.bi .list [(.fld (.var 0) 33)])
def b157 : List MS := [b157_0]
def d157 : MD := ⟨1, 1, b157⟩
/-! judge:Replay.has_output(self, number, text); slots: 0:self 1:number 2:text -/
def b158_0 : MS := .ret (.bool true [(.cmp .le (.var 1) (.bi .len [(.fld (.var 0) 131)])), (.cmp .eq (.ix (.fld (.var 0) 131) (.bin .sub (.var 1) (.lit (.int 1)))) (.var 2))])
def b158 : List MS := [b158_0]
def d158 : MD := ⟨3, 3, b158⟩
/-! judge:Replay.begins_with(self, texts); slots: 0:self 1:texts -/
def b159_0 : MS := .ret (.cmp .eq (.sl (.fld (.var 0) 131) [] [(.bi .len [(.var 1)])]) (.var 1))
def b159 : List MS := [b159_0]
def d159 : MD := ⟨2, 2, b159⟩
/-! judge:Replay.sends(self, receiver); slots: 0:self 1:receiver 2:sends 3:process 4:payload -/
def b160_0 : MS := .ret (.lc2 .seq [(.fld (.var 0) 36)] [2, 3, 4] (.nm 2) [] .seq [(.var 2)] (.tp [3, 4]) [(.cmp .eq (.var 3) (.var 1))] (.var 4))
def b160 : List MS := [b160_0]
def d160 : MD := ⟨2, 5, b160⟩
/-! judge:Replays.__init__(self); slots: 0:self -/
def b161_0 : MS := (.fset (.var 0) 133 (.dsp [] []))
def b161 : List MS := [b161_0]
def d161 : MD := ⟨1, 1, b161⟩
/-! judge:Replays.of(self, process); slots: 0:self 1:process -/
def b162_0 : MS := .ite (.cmp .nin (.var 1) (.fld (.var 0) 133)) [.sub (.fld (.var 0) 133) (.var 1) (.make 9 [])] []
def b162_1 : MS := .ret (.ix (.fld (.var 0) 133) (.var 1))
def t162_1 : List MS := [b162_1]
def b162 : List MS := b162_0 :: t162_1
def d162 : MD := ⟨2, 2, b162⟩
/-! judge:Replays.follow(self, event); slots: 0:self 1:event 2:_ 3:process 4:sender 5:number 6:payload 7:count -/
def l163_0_0 : MS := .asg (.tp [2, 2, 3, 2, 4, 5, 6]) (.var 1)
def l163_0_1 : MS := .ex (.meth (.meth (.var 0) 135 [(.var 3)]) 48 [(.var 4), (.var 5), (.var 6)])
def m163_0_1 : List MS := [l163_0_1]
def l163_0 : List MS := l163_0_0 :: m163_0_1
def l163_1_0 : MS := .asg (.tp [2, 2, 3, 7]) (.var 1)
def l163_1_1 : MS := .ex (.meth (.meth (.var 0) 135 [(.var 3)]) 50 [(.var 7)])
def m163_1_1 : List MS := [l163_1_1]
def l163_1 : List MS := l163_1_0 :: m163_1_1
def b163_0 : MS := .ite (.cmp .eq (.ix (.var 1) (.lit (.int 0))) (.lit (.str "take"))) l163_0 [.ite (.cmp .eq (.ix (.var 1) (.lit (.int 0))) (.lit (.str "undo"))) l163_1 []]
def b163 : List MS := [b163_0]
def d163 : MD := ⟨2, 8, b163⟩
/-! judge:take_fault(events); slots: 0:events 1:replays 2:submits 3:event 4:_ 5:process 6:number 7:payload 8:sender -/
def l164_1_0 : MS := .asg (.tp [4, 4, 5, 6, 7]) (.var 3)
def l164_1_1 : MS := .ex (.mt .append (.mt .setd (.var 2) [(.tup [(.var 5), (.var 6)]), (.lst [])]) [(.var 7)])
def m164_1_1 : List MS := [l164_1_1]
def l164_1 : List MS := l164_1_0 :: m164_1_1
def l164_2_0 : MS := .asg (.tp [4, 4, 5, 4, 8, 6, 7]) (.var 3)
def l164_2_1 : MS := .ite (.cmp .ne (.var 6) (.bin .add (.meth (.meth (.var 1) 135 [(.var 5)]) 47 [(.var 8)]) (.lit (.int 1)))) [.ret (.tup [(.lit (.str "number")), (.var 5), (.var 8), (.var 6)])] []
def l164_2_2 : MS := .ite (.bool true [(.cmp .eq (.var 8) (.glo 1)), (.cmp .nin (.var 7) (.mt .get2 (.var 2) [(.tup [(.var 5), (.var 6)]), (.lst [])]))]) [.ret (.tup [(.lit (.str "desk")), (.var 5), (.var 6)])] []
def m164_2_2 : List MS := [l164_2_2]
def m164_2_1 : List MS := l164_2_1 :: m164_2_2
def l164_2 : List MS := l164_2_0 :: m164_2_1
def l164_0_0 : MS := .ite (.cmp .eq (.ix (.var 3) (.lit (.int 0))) (.lit (.str "submit"))) l164_1 [.ite (.cmp .eq (.ix (.var 3) (.lit (.int 0))) (.lit (.str "take"))) l164_2 []]
def l164_0_1 : MS := .ex (.meth (.var 1) 134 [(.var 3)])
def m164_0_1 : List MS := [l164_0_1]
def l164_0 : List MS := l164_0_0 :: m164_0_1
def b164_0 : MS := .asg (.nm 1) (.make 10 [])
def b164_1 : MS := .asg (.nm 2) (.dsp [] [])
def b164_2 : MS := .fr (.nm 3) .seq [(.var 0)] l164_0
def b164_3 : MS := .ret (.lit .non)
def t164_3 : List MS := [b164_3]
def t164_2 : List MS := b164_2 :: t164_3
def t164_1 : List MS := b164_1 :: t164_2
def b164 : List MS := b164_0 :: t164_1
def d164 : MD := ⟨1, 9, b164⟩
/-! judge:undo_fault(events); slots: 0:events 1:replays 2:event 3:_ 4:process 5:count -/
def l165_1_0 : MS := .asg (.tp [3, 3, 4, 5]) (.var 2)
def l165_1_1 : MS := .ite (.cmp .le (.meth (.meth (.var 1) 135 [(.var 4)]) 37 []) (.var 5)) [.ret (.tup [(.lit (.str "undo")), (.var 4), (.var 5)])] []
def m165_1_1 : List MS := [l165_1_1]
def l165_1 : List MS := l165_1_0 :: m165_1_1
def l165_0_0 : MS := .ite (.cmp .eq (.ix (.var 2) (.lit (.int 0))) (.lit (.str "undo"))) l165_1 []
def l165_0_1 : MS := .ex (.meth (.var 1) 134 [(.var 2)])
def m165_0_1 : List MS := [l165_0_1]
def l165_0 : List MS := l165_0_0 :: m165_0_1
def b165_0 : MS := .asg (.nm 1) (.make 10 [])
def b165_1 : MS := .fr (.nm 2) .seq [(.var 0)] l165_0
def b165_2 : MS := .ret (.lit .non)
def t165_2 : List MS := [b165_2]
def t165_1 : List MS := b165_1 :: t165_2
def b165 : List MS := b165_0 :: t165_1
def d165 : MD := ⟨1, 6, b165⟩
/-! judge:show_fault(events); slots: 0:events 1:replays 2:shown 3:event 4:texts 5:replay 6:_ 7:process 8:number 9:text -/
def l166_1_0 : MS := .asg (.tp [6, 6, 7, 8, 9]) (.var 3)
def l166_1_1 : MS := .ite (.cmp .ne (.var 8) (.bin .add (.bi .len [(.var 4)]) (.lit (.int 1)))) [.ret (.tup [(.lit (.str "order")), (.var 7), (.var 8)])] []
def l166_1_2 : MS := .ite (.not (.meth (.var 5) 136 [(.var 8), (.var 9)])) [.ret (.tup [(.lit (.str "show")), (.var 7), (.var 8)])] []
def l166_1_3 : MS := .ex (.mt .append (.var 4) [(.var 9)])
def m166_1_3 : List MS := [l166_1_3]
def m166_1_2 : List MS := l166_1_2 :: m166_1_3
def m166_1_1 : List MS := l166_1_1 :: m166_1_2
def l166_1 : List MS := l166_1_0 :: m166_1_1
def l166_0_0 : MS := .ex (.meth (.var 1) 134 [(.var 3)])
def l166_0_1 : MS := .asg (.nm 4) (.mt .setd (.var 2) [(.ix (.var 3) (.lit (.int 2))), (.lst [])])
def l166_0_2 : MS := .asg (.nm 5) (.meth (.var 1) 135 [(.ix (.var 3) (.lit (.int 2)))])
def l166_0_3 : MS := .ite (.cmp .eq (.ix (.var 3) (.lit (.int 0))) (.lit (.str "show"))) l166_1 [.ite (.bool true [(.cmp .eq (.ix (.var 3) (.lit (.int 0))) (.lit (.str "undo"))), (.not (.meth (.var 5) 137 [(.var 4)]))]) [.ret (.tup [(.lit (.str "hidden")), (.ix (.var 3) (.lit (.int 2))), (.ix (.var 3) (.lit (.int 3)))])] []]
def m166_0_3 : List MS := [l166_0_3]
def m166_0_2 : List MS := l166_0_2 :: m166_0_3
def m166_0_1 : List MS := l166_0_1 :: m166_0_2
def l166_0 : List MS := l166_0_0 :: m166_0_1
def b166_0 : MS := .asg (.nm 1) (.make 10 [])
def b166_1 : MS := .asg (.nm 2) (.dsp [] [])
def b166_2 : MS := .fr (.nm 3) .seq [(.var 0)] l166_0
def b166_3 : MS := .ret (.lit .non)
def t166_3 : List MS := [b166_3]
def t166_2 : List MS := b166_2 :: t166_3
def t166_1 : List MS := b166_1 :: t166_2
def b166 : List MS := b166_0 :: t166_1
def d166 : MD := ⟨1, 10, b166⟩
/-! judge:run_fault(events); slots: 0:events 1:replays 2:event 3:process 4:fault -/
def l167_0_0 : MS := .ex (.meth (.var 1) 134 [(.var 2)])
def l167_0 : List MS := [l167_0_0]
def b167_0 : MS := .asg (.nm 1) (.make 10 [])
def b167_1 : MS := .fr (.nm 2) .seq [(.var 0)] l167_0
def b167_2 : MS := .bad
def b167_3 : MS := .ret (.lit .non)
def t167_3 : List MS := [b167_3]
def t167_2 : List MS := b167_2 :: t167_3
def t167_1 : List MS := b167_1 :: t167_2
def b167 : List MS := b167_0 :: t167_1
def d167 : MD := ⟨1, 5, b167⟩
/-! judge:_unsent_fault(replays, process); slots: 0:replays 1:process 2:rows 3:sender 4:number 5:payload 6:row -/
def l168_0_0 : MS := .ite (.cmp .eq (.var 3) (.glo 1)) [.cnt] []
def l168_0_1 : MS := .ite (.cmp .nin (.var 3) (.var 2)) [.sub (.var 2) (.var 3) (.meth (.meth (.var 0) 135 [(.var 3)]) 39 [(.var 1)])] []
def l168_0_2 : MS := .asg (.nm 6) (.ix (.var 2) (.var 3))
def l168_0_3 : MS := .ite (.bool false [(.cmp .gt (.var 4) (.bi .len [(.var 6)])), (.cmp .ne (.ix (.var 6) (.bin .sub (.var 4) (.lit (.int 1)))) (.var 5))]) [.ret (.tup [(.lit (.str "run")), (.var 1), (.var 3), (.var 4)])] []
def m168_0_3 : List MS := [l168_0_3]
def m168_0_2 : List MS := l168_0_2 :: m168_0_3
def m168_0_1 : List MS := l168_0_1 :: m168_0_2
def l168_0 : List MS := l168_0_0 :: m168_0_1
def b168_0 : MS := .asg (.nm 2) (.dsp [] [])
def b168_1 : MS := .fr (.tp [3, 4, 5]) .seq [(.meth (.meth (.var 0) 135 [(.var 1)]) 38 [])] l168_0
def b168_2 : MS := .ret (.lit .non)
def t168_2 : List MS := [b168_2]
def t168_1 : List MS := b168_1 :: t168_2
def b168 : List MS := b168_0 :: t168_1
def d168 : MD := ⟨2, 7, b168⟩
/-! judge:judge(events); slots: 0:events 1:faults 2:fault -/
def b169_0 : MS := .asg (.nm 1) (.lst [(.call 164 [(.var 0)]), (.call 165 [(.var 0)]), (.call 166 [(.var 0)]), (.call 167 [(.var 0)])])
def b169_1 : MS := .ret (.lc .seq [(.var 1)] [2] (.nm 2) [(.cmp .nis (.var 2) (.lit .non))] (.var 2))
def t169_1 : List MS := [b169_1]
def b169 : List MS := b169_0 :: t169_1
def d169 : MD := ⟨1, 3, b169⟩
def pds : Nat → Option MD
  | 0 => some d0
  | 1 => some d1
  | 2 => some d2
  | 3 => some d3
  | 4 => some d4
  | 5 => some d5
  | 6 => some d6
  | 7 => some d7
  | 8 => some d8
  | 9 => some d9
  | 10 => some d10
  | 11 => some d11
  | 12 => some d12
  | 13 => some d13
  | 14 => some d14
  | 15 => some d15
  | 16 => some d16
  | 17 => some d17
  | 18 => some d18
  | 19 => some d19
  | 20 => some d20
  | 21 => some d21
  | 22 => some d22
  | 23 => some d23
  | 24 => some d24
  | 25 => some d25
  | 26 => some d26
  | 27 => some d27
  | 28 => some d28
  | 29 => some d29
  | 30 => some d30
  | 31 => some d31
  | 32 => some d32
  | 33 => some d33
  | 34 => some d34
  | 35 => some d35
  | 36 => some d36
  | 37 => some d37
  | 38 => some d38
  | 39 => some d39
  | 40 => some d40
  | 41 => some d41
  | 42 => some d42
  | 43 => some d43
  | 44 => some d44
  | 45 => some d45
  | 46 => some d46
  | 47 => some d47
  | 49 => some d49
  | 50 => some d50
  | 51 => some d51
  | 52 => some d52
  | 53 => some d53
  | 54 => some d54
  | 55 => some d55
  | 56 => some d56
  | 57 => some d57
  | 58 => some d58
  | 59 => some d59
  | 60 => some d60
  | 61 => some d61
  | 62 => some d62
  | 63 => some d63
  | 64 => some d64
  | 65 => some d65
  | 66 => some d66
  | 67 => some d67
  | 68 => some d68
  | 69 => some d69
  | 70 => some d70
  | 71 => some d71
  | 72 => some d72
  | 73 => some d73
  | 74 => some d74
  | 75 => some d75
  | 76 => some d76
  | 77 => some d77
  | 78 => some d78
  | 79 => some d79
  | 80 => some d80
  | 81 => some d81
  | 82 => some d82
  | 83 => some d83
  | 84 => some d84
  | 85 => some d85
  | 86 => some d86
  | 87 => some d87
  | 88 => some d88
  | 89 => some d89
  | 90 => some d90
  | 91 => some d91
  | 92 => some d92
  | 93 => some d93
  | 94 => some d94
  | 95 => some d95
  | 96 => some d96
  | 97 => some d97
  | 98 => some d98
  | 99 => some d99
  | 100 => some d100
  | 101 => some d101
  | 102 => some d102
  | 103 => some d103
  | 104 => some d104
  | 105 => some d105
  | 106 => some d106
  | 107 => some d107
  | 108 => some d108
  | 109 => some d109
  | 110 => some d110
  | 111 => some d111
  | 112 => some d112
  | 113 => some d113
  | 114 => some d114
  | 115 => some d115
  | 116 => some d116
  | 117 => some d117
  | 118 => some d118
  | 119 => some d119
  | 120 => some d120
  | 121 => some d121
  | 122 => some d122
  | 123 => some d123
  | 124 => some d124
  | 125 => some d125
  | 126 => some d126
  | 127 => some d127
  | 128 => some d128
  | 129 => some d129
  | 130 => some d130
  | 131 => some d131
  | 132 => some d132
  | 133 => some d133
  | 134 => some d134
  | 135 => some d135
  | 136 => some d136
  | 137 => some d137
  | 138 => some d138
  | 139 => some d139
  | 140 => some d140
  | 141 => some d141
  | 142 => some d142
  | 143 => some d143
  | 144 => some d144
  | 145 => some d145
  | 146 => some d146
  | 148 => some d148
  | 149 => some d149
  | 150 => some d150
  | 151 => some d151
  | 152 => some d152
  | 153 => some d153
  | 154 => some d154
  | 155 => some d155
  | 156 => some d156
  | 157 => some d157
  | 158 => some d158
  | 159 => some d159
  | 160 => some d160
  | 161 => some d161
  | 162 => some d162
  | 163 => some d163
  | 164 => some d164
  | 165 => some d165
  | 166 => some d166
  | 167 => some d167
  | 168 => some d168
  | 169 => some d169
  | _ => none
def dk7 : List (Str × Val) := [("set", (.tup [(.str "cell"), (.str "value")])), ("add", (.tup [(.str "cell"), (.str "value")])), ("copy", (.tup [(.str "cell"), (.str "cell")])), ("send", (.tup [(.str "process"), (.str "payload")])), ("show", (.tup [(.str "cell")])), ("both", (.tup [(.str "payload"), (.str "payload")])), ("if", (.tup [(.str "cell"), (.str "payload"), (.str "payload")]))]
def dk10 : List (Str × Val) := [("pass", (.tup [(.str "anyone"), (.str "number"), (.str "payload"), (.str "clock")])), ("got", (.tup [(.str "process"), (.str "number")])), ("end", (.tup [(.str "process"), (.str "count"), (.str "count")])), ("heard", (.tup [(.str "process"), (.str "count")])), ("firm", (.tup [(.str "process"), (.str "count"), (.str "count")])), ("show", (.tup [(.str "process"), (.str "number"), (.str "output")])), ("seen", (.tup [(.str "desk"), (.str "count")]))]
def dk11 : List (Str × Val) := [("pass", (.str "process")), ("got", (.str "anyone")), ("end", (.str "another")), ("heard", (.str "another")), ("firm", (.str "another")), ("show", (.str "desk")), ("seen", (.str "process"))]
def dk17 : List (Str × Val) := [("tick", (.tup [(.str "ticks")])), ("calm", (.tup [(.str "ticks")])), ("round", (.tup [])), ("deliver", (.tup [(.str "number")])), ("lose", (.tup [(.str "number")])), ("double", (.tup [(.str "number")])), ("move", (.tup [(.str "number")])), ("submit", (.tup [(.str "process"), (.str "payload")])), ("flush", (.tup [(.str "process")])), ("arm", (.tup [(.str "process"), (.str "number")])), ("crash", (.tup [(.str "process")])), ("start", (.tup [(.str "process"), (.str "number")]))]
def dk19 : List (Str × Val) := [("submit", (.int (5))), ("take", (.int (7))), ("undo", (.int (4))), ("show", (.int (5))), ("crash", (.int (3))), ("start", (.int (4)))]
/-- what a law adds: its defs, the names of the dicts of the top -/
structure LP where
  lds : Nat → Option MD
  cn : Nat → Str
  dk : Nat → Bool
def pglo (cn : Nat → Str) : Nat → Val
  | 0 => (.int (10))
  | 1 => (.int (-1))
  | 2 => (.int (4))
  | 3 => (.int (1000000))
  | 4 => (.int (6))
  | 5 => (.int (1000000000000))
  | 6 => (.int (40))
  | 7 => .cst 7 (cn 7)
  | 8 => (.int (13))
  | 9 => (.int (37))
  | 10 => .cst 10 (cn 10)
  | 11 => .cst 11 (cn 11)
  | 12 => (.tup [(.int (0)), (.int (0)), (.int (0)), (.int (0))])
  | 13 => (.int (4))
  | 14 => (.int (16))
  | 15 => (.int (16))
  | 16 => (.int (1000))
  | 17 => .cst 17 (cn 17)
  | 18 => (.int (999999999999))
  | 19 => .cst 19 (cn 19)
  | _ => .non
def pcst (cn : Nat → Str) (dk : Nat → Bool) : Nat → Option (Str × List (Str × Val))
  | 7 => if dk 7 = true then some (cn 7, dk7) else none
  | 10 => if dk 10 = true then some (cn 10, dk10) else none
  | 11 => if dk 11 = true then some (cn 11, dk11) else none
  | 17 => if dk 17 = true then some (cn 17, dk17) else none
  | 19 => if dk 19 = true then some (cn 19, dk19) else none
  | _ => none
def pini : Nat → Nat
  | 0 => 24
  | 1 => 35
  | 2 => 42
  | 3 => 49
  | 4 => 64
  | 5 => 92
  | 6 => 101
  | 7 => 118
  | 8 => 122
  | 9 => 152
  | 10 => 161
  | _ => 0
def pmthl : List (Nat × List (Nat × Nat)) := [(0, [(7, 25), (11, 26), (9, 27), (13, 28), (12, 29), (10, 30), (6, 31), (8, 32)]), (1, [(21, 36), (24, 37), (20, 38), (27, 39), (22, 40), (28, 41)]), (2, [(25, 43), (26, 44), (19, 45), (23, 46)]), (3, [(48, 50), (50, 51), (37, 52), (38, 53), (47, 54), (42, 55), (49, 56), (39, 57), (40, 58), (41, 59), (43, 60), (44, 61), (45, 62), (46, 63)]), (4, ((76, 65) :: (82, 66) :: (81, 67) :: (73, 68) :: (38, 69) :: (42, 70) :: (49, 71) :: (74, 72) :: (40, 73) :: (75, 74) :: (60, 75) :: (72, 76) :: (66, 77) :: (63, 78) :: (65, 79) :: (64, 80) :: (61, 81) :: (69, 82) :: (67, 83) :: (80, 84) :: (70, 85) :: (78, 86) :: (71, 87) :: (62, 88) :: (77, 89) :: (79, 90) :: (68, 91) :: [])), (5, [(87, 93), (82, 94), (76, 95), (88, 96), (90, 97), (89, 98), (86, 99), (85, 100)]), (6, [(96, 102), (48, 103), (95, 104), (94, 105), (92, 106), (93, 107)]), (7, [(24, 119), (109, 120)]), (8, ((106, 123) :: (113, 124) :: (92, 125) :: (114, 126) :: (123, 127) :: (125, 128) :: (127, 129) :: (122, 130) :: (108, 131) :: (107, 132) :: (115, 133) :: (120, 134) :: (116, 135) :: (117, 136) :: (118, 137) :: (126, 138) :: (128, 139) :: (129, 140) :: (119, 141) :: (111, 142) :: (112, 143) :: (121, 144) :: (124, 145) :: (45, 146) :: (110, 147) :: [])), (9, [(48, 153), (50, 154), (37, 155), (47, 156), (38, 157), (136, 158), (137, 159), (39, 160)]), (10, [(135, 162), (134, 163)])]
def pmth (c a : Nat) : Option Nat := match pmthl.lookup c with
  | some r => r.lookup a
  | none => none
def pfokl : List (Nat × List (Nat × Bool)) := [(0, [(2, true), (3, true), (4, true), (5, true)]), (1, [(15, true), (16, true)]), (2, [(17, true), (18, true)]), (3, [(29, true), (30, true), (31, true), (32, true), (33, true), (34, true), (35, true), (36, true)]), (4, [(29, true), (51, true), (52, true), (53, true), (17, true), (54, true), (3, true), (55, true), (56, true), (57, true), (58, true), (59, true)]), (5, [(51, true), (83, true), (57, true), (84, true)]), (6, [(91, true)]), (7, [(97, true)]), (8, [(51, true), (98, true), (99, true), (100, true), (101, true), (102, true), (103, true), (104, true), (105, true)]), (9, [(33, true), (30, true), (130, true), (131, true), (36, true), (132, true)]), (10, [(133, true)])]
def pfok (c a : Nat) : Option Bool := match pfokl.lookup c with
  | some r => r.lookup a
  | none => none
def psubl : List (Nat × List (Nat × Bool)) := [(0, [(0, true), (1, false), (2, false), (3, false), (4, false), (5, false), (6, false)]), (1, [(0, true), (1, true), (2, false), (3, false), (4, false), (5, false), (6, false)]), (2, [(0, true), (1, false), (2, true), (3, false), (4, false), (5, false), (6, false)]), (3, [(0, true), (1, false), (2, false), (3, true), (4, false), (5, false), (6, false)]), (4, [(0, true), (1, false), (2, false), (3, false), (4, true), (5, false), (6, false)]), (5, [(0, true), (1, false), (2, false), (3, false), (4, false), (5, true), (6, false)]), (6, [(0, true), (1, false), (2, false), (3, false), (4, false), (5, false), (6, true)])]
def psub (c a : Nat) : Option Bool := match psubl.lookup c with
  | some r => r.lookup a
  | none => none
def ugs (cn : Nat → Str) (dk : Nat → Bool) : GE := ⟨pglo cn, pcst cn dk, pini, pmth, fun c a => (pfok c a).isSome, psub⟩
def UP (l : LP) : Pg := ⟨fun i => match pds i with | some d => some d | none => l.lds i, ugs l.cn l.dk⟩
theorem u0 {l : LP} {x0 x1 x2 : Val} {n : Nat} {S : Sto} {Q : VQ} {E : XQ} : callN (UP l) (n + 1) 0 [x0, x1, x2] S Q E = wpSs (cenv (UP l) n) b0 (endsOf Q E) [some x0, some x1, some x2] S := propext ⟨And.right, fun h => ⟨rfl, h⟩⟩
theorem u1 {l : LP} {x0 : Val} {n : Nat} {S : Sto} {Q : VQ} {E : XQ} : callN (UP l) (n + 1) 1 [x0] S Q E = wpSs (cenv (UP l) n) b1 (endsOf Q E) [some x0] S := propext ⟨And.right, fun h => ⟨rfl, h⟩⟩
theorem u2 {l : LP} {x0 x1 : Val} {n : Nat} {S : Sto} {Q : VQ} {E : XQ} : callN (UP l) (n + 1) 2 [x0, x1] S Q E = wpSs (cenv (UP l) n) b2 (endsOf Q E) [some x0, some x1] S := propext ⟨And.right, fun h => ⟨rfl, h⟩⟩
theorem u3 {l : LP} {x0 : Val} {n : Nat} {S : Sto} {Q : VQ} {E : XQ} : callN (UP l) (n + 1) 3 [x0] S Q E = wpSs (cenv (UP l) n) b3 (endsOf Q E) [some x0] S := propext ⟨And.right, fun h => ⟨rfl, h⟩⟩
theorem u4 {l : LP} {x0 x1 : Val} {n : Nat} {S : Sto} {Q : VQ} {E : XQ} : callN (UP l) (n + 1) 4 [x0, x1] S Q E = wpSs (cenv (UP l) n) b4 (endsOf Q E) [some x0, some x1] S := propext ⟨And.right, fun h => ⟨rfl, h⟩⟩
theorem u5 {l : LP} {x0 x1 x2 : Val} {n : Nat} {S : Sto} {Q : VQ} {E : XQ} : callN (UP l) (n + 1) 5 [x0, x1, x2] S Q E = wpSs (cenv (UP l) n) b5 (endsOf Q E) [some x0, some x1, some x2, none, none, none] S := propext ⟨And.right, fun h => ⟨rfl, h⟩⟩
theorem u6 {l : LP} {x0 x1 x2 x3 : Val} {n : Nat} {S : Sto} {Q : VQ} {E : XQ} : callN (UP l) (n + 1) 6 [x0, x1, x2, x3] S Q E = wpSs (cenv (UP l) n) b6 (endsOf Q E) [some x0, some x1, some x2, some x3] S := propext ⟨And.right, fun h => ⟨rfl, h⟩⟩
theorem u7 {l : LP} {x0 x1 : Val} {n : Nat} {S : Sto} {Q : VQ} {E : XQ} : callN (UP l) (n + 1) 7 [x0, x1] S Q E = wpSs (cenv (UP l) n) b7 (endsOf Q E) [some x0, some x1] S := propext ⟨And.right, fun h => ⟨rfl, h⟩⟩
theorem u8 {l : LP} {x0 : Val} {n : Nat} {S : Sto} {Q : VQ} {E : XQ} : callN (UP l) (n + 1) 8 [x0] S Q E = wpSs (cenv (UP l) n) b8 (endsOf Q E) [some x0, none] S := propext ⟨And.right, fun h => ⟨rfl, h⟩⟩
theorem u9 {l : LP} {x0 : Val} {n : Nat} {S : Sto} {Q : VQ} {E : XQ} : callN (UP l) (n + 1) 9 [x0] S Q E = wpSs (cenv (UP l) n) b9 (endsOf Q E) [some x0, none, none] S := propext ⟨And.right, fun h => ⟨rfl, h⟩⟩
theorem u10 {l : LP} {x0 x1 : Val} {n : Nat} {S : Sto} {Q : VQ} {E : XQ} : callN (UP l) (n + 1) 10 [x0, x1] S Q E = wpSs (cenv (UP l) n) b10 (endsOf Q E) [some x0, some x1, none] S := propext ⟨And.right, fun h => ⟨rfl, h⟩⟩
theorem u11 {l : LP} {x0 : Val} {n : Nat} {S : Sto} {Q : VQ} {E : XQ} : callN (UP l) (n + 1) 11 [x0] S Q E = wpSs (cenv (UP l) n) b11 (endsOf Q E) [some x0, none, none, none, none, none] S := propext ⟨And.right, fun h => ⟨rfl, h⟩⟩
theorem u12 {l : LP} {x0 x1 : Val} {n : Nat} {S : Sto} {Q : VQ} {E : XQ} : callN (UP l) (n + 1) 12 [x0, x1] S Q E = wpSs (cenv (UP l) n) b12 (endsOf Q E) [some x0, some x1, none] S := propext ⟨And.right, fun h => ⟨rfl, h⟩⟩
theorem u13 {l : LP} {x0 : Val} {n : Nat} {S : Sto} {Q : VQ} {E : XQ} : callN (UP l) (n + 1) 13 [x0] S Q E = wpSs (cenv (UP l) n) b13 (endsOf Q E) [some x0, none, none] S := propext ⟨And.right, fun h => ⟨rfl, h⟩⟩
theorem u14 {l : LP} {x0 : Val} {n : Nat} {S : Sto} {Q : VQ} {E : XQ} : callN (UP l) (n + 1) 14 [x0] S Q E = wpSs (cenv (UP l) n) b14 (endsOf Q E) [some x0] S := propext ⟨And.right, fun h => ⟨rfl, h⟩⟩
theorem u15 {l : LP} {x0 : Val} {n : Nat} {S : Sto} {Q : VQ} {E : XQ} : callN (UP l) (n + 1) 15 [x0] S Q E = wpSs (cenv (UP l) n) b15 (endsOf Q E) [some x0] S := propext ⟨And.right, fun h => ⟨rfl, h⟩⟩
theorem u16 {l : LP} {x0 : Val} {n : Nat} {S : Sto} {Q : VQ} {E : XQ} : callN (UP l) (n + 1) 16 [x0] S Q E = wpSs (cenv (UP l) n) b16 (endsOf Q E) [some x0, none] S := propext ⟨And.right, fun h => ⟨rfl, h⟩⟩
theorem u17 {l : LP} {x0 : Val} {n : Nat} {S : Sto} {Q : VQ} {E : XQ} : callN (UP l) (n + 1) 17 [x0] S Q E = wpSs (cenv (UP l) n) b17 (endsOf Q E) [some x0] S := propext ⟨And.right, fun h => ⟨rfl, h⟩⟩
theorem u18 {l : LP} {x0 x1 : Val} {n : Nat} {S : Sto} {Q : VQ} {E : XQ} : callN (UP l) (n + 1) 18 [x0, x1] S Q E = wpSs (cenv (UP l) n) b18 (endsOf Q E) [some x0, some x1, none, none, none] S := propext ⟨And.right, fun h => ⟨rfl, h⟩⟩
theorem u19 {l : LP} {x0 x1 x2 : Val} {n : Nat} {S : Sto} {Q : VQ} {E : XQ} : callN (UP l) (n + 1) 19 [x0, x1, x2] S Q E = wpSs (cenv (UP l) n) b19 (endsOf Q E) [some x0, some x1, some x2] S := propext ⟨And.right, fun h => ⟨rfl, h⟩⟩
theorem u20 {l : LP} {x0 x1 x2 : Val} {n : Nat} {S : Sto} {Q : VQ} {E : XQ} : callN (UP l) (n + 1) 20 [x0, x1, x2] S Q E = wpSs (cenv (UP l) n) b20 (endsOf Q E) [some x0, some x1, some x2] S := propext ⟨And.right, fun h => ⟨rfl, h⟩⟩
theorem u21 {l : LP} {x0 x1 : Val} {n : Nat} {S : Sto} {Q : VQ} {E : XQ} : callN (UP l) (n + 1) 21 [x0, x1] S Q E = wpSs (cenv (UP l) n) b21 (endsOf Q E) [some x0, some x1] S := propext ⟨And.right, fun h => ⟨rfl, h⟩⟩
theorem u22 {l : LP} {x0 x1 x2 : Val} {n : Nat} {S : Sto} {Q : VQ} {E : XQ} : callN (UP l) (n + 1) 22 [x0, x1, x2] S Q E = wpSs (cenv (UP l) n) b22 (endsOf Q E) [some x0, some x1, some x2] S := propext ⟨And.right, fun h => ⟨rfl, h⟩⟩
theorem u23 {l : LP} {x0 x1 x2 : Val} {n : Nat} {S : Sto} {Q : VQ} {E : XQ} : callN (UP l) (n + 1) 23 [x0, x1, x2] S Q E = wpSs (cenv (UP l) n) b23 (endsOf Q E) [some x0, some x1, some x2, none] S := propext ⟨And.right, fun h => ⟨rfl, h⟩⟩
theorem u24 {l : LP} {x0 : Val} {n : Nat} {S : Sto} {Q : VQ} {E : XQ} : callN (UP l) (n + 1) 24 [x0] S Q E = wpSs (cenv (UP l) n) b24 (endsOf Q E) [some x0] S := propext ⟨And.right, fun h => ⟨rfl, h⟩⟩
theorem u25 {l : LP} {x0 x1 : Val} {n : Nat} {S : Sto} {Q : VQ} {E : XQ} : callN (UP l) (n + 1) 25 [x0, x1] S Q E = wpSs (cenv (UP l) n) b25 (endsOf Q E) [some x0, some x1] S := propext ⟨And.right, fun h => ⟨rfl, h⟩⟩
theorem u26 {l : LP} {x0 : Val} {n : Nat} {S : Sto} {Q : VQ} {E : XQ} : callN (UP l) (n + 1) 26 [x0] S Q E = wpSs (cenv (UP l) n) b26 (endsOf Q E) [some x0] S := propext ⟨And.right, fun h => ⟨rfl, h⟩⟩
theorem u27 {l : LP} {x0 : Val} {n : Nat} {S : Sto} {Q : VQ} {E : XQ} : callN (UP l) (n + 1) 27 [x0] S Q E = wpSs (cenv (UP l) n) b27 (endsOf Q E) [some x0] S := propext ⟨And.right, fun h => ⟨rfl, h⟩⟩
theorem u28 {l : LP} {x0 : Val} {n : Nat} {S : Sto} {Q : VQ} {E : XQ} : callN (UP l) (n + 1) 28 [x0] S Q E = wpSs (cenv (UP l) n) b28 (endsOf Q E) [some x0] S := propext ⟨And.right, fun h => ⟨rfl, h⟩⟩
theorem u29 {l : LP} {x0 x1 : Val} {n : Nat} {S : Sto} {Q : VQ} {E : XQ} : callN (UP l) (n + 1) 29 [x0, x1] S Q E = wpSs (cenv (UP l) n) b29 (endsOf Q E) [some x0, some x1] S := propext ⟨And.right, fun h => ⟨rfl, h⟩⟩
theorem u30 {l : LP} {x0 x1 : Val} {n : Nat} {S : Sto} {Q : VQ} {E : XQ} : callN (UP l) (n + 1) 30 [x0, x1] S Q E = wpSs (cenv (UP l) n) b30 (endsOf Q E) [some x0, some x1] S := propext ⟨And.right, fun h => ⟨rfl, h⟩⟩
theorem u31 {l : LP} {x0 : Val} {n : Nat} {S : Sto} {Q : VQ} {E : XQ} : callN (UP l) (n + 1) 31 [x0] S Q E = wpSs (cenv (UP l) n) b31 (endsOf Q E) [some x0] S := propext ⟨And.right, fun h => ⟨rfl, h⟩⟩
theorem u32 {l : LP} {x0 : Val} {n : Nat} {S : Sto} {Q : VQ} {E : XQ} : callN (UP l) (n + 1) 32 [x0] S Q E = wpSs (cenv (UP l) n) b32 (endsOf Q E) [some x0] S := propext ⟨And.right, fun h => ⟨rfl, h⟩⟩
theorem u33 {l : LP} {x0 x1 : Val} {n : Nat} {S : Sto} {Q : VQ} {E : XQ} : callN (UP l) (n + 1) 33 [x0, x1] S Q E = wpSs (cenv (UP l) n) b33 (endsOf Q E) [some x0, some x1, none, none, none, none, none] S := propext ⟨And.right, fun h => ⟨rfl, h⟩⟩
theorem u34 {l : LP} {x0 x1 : Val} {n : Nat} {S : Sto} {Q : VQ} {E : XQ} : callN (UP l) (n + 1) 34 [x0, x1] S Q E = wpSs (cenv (UP l) n) b34 (endsOf Q E) [some x0, some x1, none, none, none] S := propext ⟨And.right, fun h => ⟨rfl, h⟩⟩
theorem u35 {l : LP} {x0 x1 : Val} {n : Nat} {S : Sto} {Q : VQ} {E : XQ} : callN (UP l) (n + 1) 35 [x0, x1] S Q E = wpSs (cenv (UP l) n) b35 (endsOf Q E) [some x0, some x1, none] S := propext ⟨And.right, fun h => ⟨rfl, h⟩⟩
theorem u36 {l : LP} {x0 x1 : Val} {n : Nat} {S : Sto} {Q : VQ} {E : XQ} : callN (UP l) (n + 1) 36 [x0, x1] S Q E = wpSs (cenv (UP l) n) b36 (endsOf Q E) [some x0, some x1] S := propext ⟨And.right, fun h => ⟨rfl, h⟩⟩
theorem u37 {l : LP} {x0 x1 x2 x3 : Val} {n : Nat} {S : Sto} {Q : VQ} {E : XQ} : callN (UP l) (n + 1) 37 [x0, x1, x2, x3] S Q E = wpSs (cenv (UP l) n) b37 (endsOf Q E) [some x0, some x1, some x2, some x3, none, none] S := propext ⟨And.right, fun h => ⟨rfl, h⟩⟩
theorem u38 {l : LP} {x0 x1 : Val} {n : Nat} {S : Sto} {Q : VQ} {E : XQ} : callN (UP l) (n + 1) 38 [x0, x1] S Q E = wpSs (cenv (UP l) n) b38 (endsOf Q E) [some x0, some x1] S := propext ⟨And.right, fun h => ⟨rfl, h⟩⟩
theorem u39 {l : LP} {x0 x1 : Val} {n : Nat} {S : Sto} {Q : VQ} {E : XQ} : callN (UP l) (n + 1) 39 [x0, x1] S Q E = wpSs (cenv (UP l) n) b39 (endsOf Q E) [some x0, some x1, none, none] S := propext ⟨And.right, fun h => ⟨rfl, h⟩⟩
theorem u40 {l : LP} {x0 x1 x2 : Val} {n : Nat} {S : Sto} {Q : VQ} {E : XQ} : callN (UP l) (n + 1) 40 [x0, x1, x2] S Q E = wpSs (cenv (UP l) n) b40 (endsOf Q E) [some x0, some x1, some x2, none, none, none] S := propext ⟨And.right, fun h => ⟨rfl, h⟩⟩
theorem u41 {l : LP} {x0 x1 : Val} {n : Nat} {S : Sto} {Q : VQ} {E : XQ} : callN (UP l) (n + 1) 41 [x0, x1] S Q E = wpSs (cenv (UP l) n) b41 (endsOf Q E) [some x0, some x1, none, none] S := propext ⟨And.right, fun h => ⟨rfl, h⟩⟩
theorem u42 {l : LP} {x0 x1 x2 : Val} {n : Nat} {S : Sto} {Q : VQ} {E : XQ} : callN (UP l) (n + 1) 42 [x0, x1, x2] S Q E = wpSs (cenv (UP l) n) b42 (endsOf Q E) [some x0, some x1, some x2, none] S := propext ⟨And.right, fun h => ⟨rfl, h⟩⟩
theorem u43 {l : LP} {x0 x1 x2 x3 : Val} {n : Nat} {S : Sto} {Q : VQ} {E : XQ} : callN (UP l) (n + 1) 43 [x0, x1, x2, x3] S Q E = wpSs (cenv (UP l) n) b43 (endsOf Q E) [some x0, some x1, some x2, some x3] S := propext ⟨And.right, fun h => ⟨rfl, h⟩⟩
theorem u44 {l : LP} {x0 x1 : Val} {n : Nat} {S : Sto} {Q : VQ} {E : XQ} : callN (UP l) (n + 1) 44 [x0, x1] S Q E = wpSs (cenv (UP l) n) b44 (endsOf Q E) [some x0, some x1, none, none] S := propext ⟨And.right, fun h => ⟨rfl, h⟩⟩
theorem u45 {l : LP} {x0 x1 : Val} {n : Nat} {S : Sto} {Q : VQ} {E : XQ} : callN (UP l) (n + 1) 45 [x0, x1] S Q E = wpSs (cenv (UP l) n) b45 (endsOf Q E) [some x0, some x1] S := propext ⟨And.right, fun h => ⟨rfl, h⟩⟩
theorem u46 {l : LP} {x0 x1 x2 : Val} {n : Nat} {S : Sto} {Q : VQ} {E : XQ} : callN (UP l) (n + 1) 46 [x0, x1, x2] S Q E = wpSs (cenv (UP l) n) b46 (endsOf Q E) [some x0, some x1, some x2, none, none, none, none] S := propext ⟨And.right, fun h => ⟨rfl, h⟩⟩
theorem u47 {l : LP} {x0 x1 : Val} {n : Nat} {S : Sto} {Q : VQ} {E : XQ} : callN (UP l) (n + 1) 47 [x0, x1] S Q E = wpSs (cenv (UP l) n) b47 (endsOf Q E) [some x0, some x1, none, none] S := propext ⟨And.right, fun h => ⟨rfl, h⟩⟩
theorem u49 {l : LP} {x0 x1 x2 : Val} {n : Nat} {S : Sto} {Q : VQ} {E : XQ} : callN (UP l) (n + 1) 49 [x0, x1, x2] S Q E = wpSs (cenv (UP l) n) b49 (endsOf Q E) [some x0, some x1, some x2] S := propext ⟨And.right, fun h => ⟨rfl, h⟩⟩
theorem u50 {l : LP} {x0 x1 x2 x3 x4 x5 : Val} {n : Nat} {S : Sto} {Q : VQ} {E : XQ} : callN (UP l) (n + 1) 50 [x0, x1, x2, x3, x4, x5] S Q E = wpSs (cenv (UP l) n) b50 (endsOf Q E) [some x0, some x1, some x2, some x3, some x4, some x5, none, none, none, none, none, none] S := propext ⟨And.right, fun h => ⟨rfl, h⟩⟩
theorem u51 {l : LP} {x0 x1 : Val} {n : Nat} {S : Sto} {Q : VQ} {E : XQ} : callN (UP l) (n + 1) 51 [x0, x1] S Q E = wpSs (cenv (UP l) n) b51 (endsOf Q E) [some x0, some x1] S := propext ⟨And.right, fun h => ⟨rfl, h⟩⟩
theorem u52 {l : LP} {x0 : Val} {n : Nat} {S : Sto} {Q : VQ} {E : XQ} : callN (UP l) (n + 1) 52 [x0] S Q E = wpSs (cenv (UP l) n) b52 (endsOf Q E) [some x0] S := propext ⟨And.right, fun h => ⟨rfl, h⟩⟩
theorem u53 {l : LP} {x0 : Val} {n : Nat} {S : Sto} {Q : VQ} {E : XQ} : callN (UP l) (n + 1) 53 [x0] S Q E = wpSs (cenv (UP l) n) b53 (endsOf Q E) [some x0] S := propext ⟨And.right, fun h => ⟨rfl, h⟩⟩
theorem u54 {l : LP} {x0 x1 x2 : Val} {n : Nat} {S : Sto} {Q : VQ} {E : XQ} : callN (UP l) (n + 1) 54 [x0, x1, x2] S Q E = wpSs (cenv (UP l) n) b54 (endsOf Q E) [some x0, some x1, some x2, none] S := propext ⟨And.right, fun h => ⟨rfl, h⟩⟩
theorem u55 {l : LP} {x0 : Val} {n : Nat} {S : Sto} {Q : VQ} {E : XQ} : callN (UP l) (n + 1) 55 [x0] S Q E = wpSs (cenv (UP l) n) b55 (endsOf Q E) [some x0] S := propext ⟨And.right, fun h => ⟨rfl, h⟩⟩
theorem u56 {l : LP} {x0 x1 : Val} {n : Nat} {S : Sto} {Q : VQ} {E : XQ} : callN (UP l) (n + 1) 56 [x0, x1] S Q E = wpSs (cenv (UP l) n) b56 (endsOf Q E) [some x0, some x1] S := propext ⟨And.right, fun h => ⟨rfl, h⟩⟩
theorem u57 {l : LP} {x0 x1 : Val} {n : Nat} {S : Sto} {Q : VQ} {E : XQ} : callN (UP l) (n + 1) 57 [x0, x1] S Q E = wpSs (cenv (UP l) n) b57 (endsOf Q E) [some x0, some x1] S := propext ⟨And.right, fun h => ⟨rfl, h⟩⟩
theorem u58 {l : LP} {x0 x1 : Val} {n : Nat} {S : Sto} {Q : VQ} {E : XQ} : callN (UP l) (n + 1) 58 [x0, x1] S Q E = wpSs (cenv (UP l) n) b58 (endsOf Q E) [some x0, some x1, none, none] S := propext ⟨And.right, fun h => ⟨rfl, h⟩⟩
theorem u59 {l : LP} {x0 x1 : Val} {n : Nat} {S : Sto} {Q : VQ} {E : XQ} : callN (UP l) (n + 1) 59 [x0, x1] S Q E = wpSs (cenv (UP l) n) b59 (endsOf Q E) [some x0, some x1, none, none] S := propext ⟨And.right, fun h => ⟨rfl, h⟩⟩
theorem u60 {l : LP} {x0 x1 x2 : Val} {n : Nat} {S : Sto} {Q : VQ} {E : XQ} : callN (UP l) (n + 1) 60 [x0, x1, x2] S Q E = wpSs (cenv (UP l) n) b60 (endsOf Q E) [some x0, some x1, some x2, none] S := propext ⟨And.right, fun h => ⟨rfl, h⟩⟩
theorem u61 {l : LP} {x0 x1 : Val} {n : Nat} {S : Sto} {Q : VQ} {E : XQ} : callN (UP l) (n + 1) 61 [x0, x1] S Q E = wpSs (cenv (UP l) n) b61 (endsOf Q E) [some x0, some x1, none] S := propext ⟨And.right, fun h => ⟨rfl, h⟩⟩
theorem u62 {l : LP} {x0 x1 x2 : Val} {n : Nat} {S : Sto} {Q : VQ} {E : XQ} : callN (UP l) (n + 1) 62 [x0, x1, x2] S Q E = wpSs (cenv (UP l) n) b62 (endsOf Q E) [some x0, some x1, some x2, none] S := propext ⟨And.right, fun h => ⟨rfl, h⟩⟩
theorem u63 {l : LP} {x0 : Val} {n : Nat} {S : Sto} {Q : VQ} {E : XQ} : callN (UP l) (n + 1) 63 [x0] S Q E = wpSs (cenv (UP l) n) b63 (endsOf Q E) [some x0, none, none] S := propext ⟨And.right, fun h => ⟨rfl, h⟩⟩
theorem u64 {l : LP} {x0 x1 x2 x3 : Val} {n : Nat} {S : Sto} {Q : VQ} {E : XQ} : callN (UP l) (n + 1) 64 [x0, x1, x2, x3] S Q E = wpSs (cenv (UP l) n) b64 (endsOf Q E) [some x0, some x1, some x2, some x3] S := propext ⟨And.right, fun h => ⟨rfl, h⟩⟩
theorem u65 {l : LP} {x0 : Val} {n : Nat} {S : Sto} {Q : VQ} {E : XQ} : callN (UP l) (n + 1) 65 [x0] S Q E = wpSs (cenv (UP l) n) b65 (endsOf Q E) [some x0, none, none, none] S := propext ⟨And.right, fun h => ⟨rfl, h⟩⟩
theorem u66 {l : LP} {x0 x1 : Val} {n : Nat} {S : Sto} {Q : VQ} {E : XQ} : callN (UP l) (n + 1) 66 [x0, x1] S Q E = wpSs (cenv (UP l) n) b66 (endsOf Q E) [some x0, some x1, none] S := propext ⟨And.right, fun h => ⟨rfl, h⟩⟩
theorem u67 {l : LP} {x0 : Val} {n : Nat} {S : Sto} {Q : VQ} {E : XQ} : callN (UP l) (n + 1) 67 [x0] S Q E = wpSs (cenv (UP l) n) b67 (endsOf Q E) [some x0] S := propext ⟨And.right, fun h => ⟨rfl, h⟩⟩
theorem u68 {l : LP} {x0 : Val} {n : Nat} {S : Sto} {Q : VQ} {E : XQ} : callN (UP l) (n + 1) 68 [x0] S Q E = wpSs (cenv (UP l) n) b68 (endsOf Q E) [some x0] S := propext ⟨And.right, fun h => ⟨rfl, h⟩⟩
theorem u69 {l : LP} {x0 : Val} {n : Nat} {S : Sto} {Q : VQ} {E : XQ} : callN (UP l) (n + 1) 69 [x0] S Q E = wpSs (cenv (UP l) n) b69 (endsOf Q E) [some x0] S := propext ⟨And.right, fun h => ⟨rfl, h⟩⟩
theorem u70 {l : LP} {x0 : Val} {n : Nat} {S : Sto} {Q : VQ} {E : XQ} : callN (UP l) (n + 1) 70 [x0] S Q E = wpSs (cenv (UP l) n) b70 (endsOf Q E) [some x0] S := propext ⟨And.right, fun h => ⟨rfl, h⟩⟩
theorem u71 {l : LP} {x0 : Val} {n : Nat} {S : Sto} {Q : VQ} {E : XQ} : callN (UP l) (n + 1) 71 [x0] S Q E = wpSs (cenv (UP l) n) b71 (endsOf Q E) [some x0] S := propext ⟨And.right, fun h => ⟨rfl, h⟩⟩
theorem u72 {l : LP} {x0 : Val} {n : Nat} {S : Sto} {Q : VQ} {E : XQ} : callN (UP l) (n + 1) 72 [x0] S Q E = wpSs (cenv (UP l) n) b72 (endsOf Q E) [some x0] S := propext ⟨And.right, fun h => ⟨rfl, h⟩⟩
theorem u73 {l : LP} {x0 : Val} {n : Nat} {S : Sto} {Q : VQ} {E : XQ} : callN (UP l) (n + 1) 73 [x0] S Q E = wpSs (cenv (UP l) n) b73 (endsOf Q E) [some x0] S := propext ⟨And.right, fun h => ⟨rfl, h⟩⟩
theorem u74 {l : LP} {x0 x1 : Val} {n : Nat} {S : Sto} {Q : VQ} {E : XQ} : callN (UP l) (n + 1) 74 [x0, x1] S Q E = wpSs (cenv (UP l) n) b74 (endsOf Q E) [some x0, some x1] S := propext ⟨And.right, fun h => ⟨rfl, h⟩⟩
theorem u75 {l : LP} {x0 : Val} {n : Nat} {S : Sto} {Q : VQ} {E : XQ} : callN (UP l) (n + 1) 75 [x0] S Q E = wpSs (cenv (UP l) n) b75 (endsOf Q E) [some x0, none, none] S := propext ⟨And.right, fun h => ⟨rfl, h⟩⟩
theorem u76 {l : LP} {x0 x1 : Val} {n : Nat} {S : Sto} {Q : VQ} {E : XQ} : callN (UP l) (n + 1) 76 [x0, x1] S Q E = wpSs (cenv (UP l) n) b76 (endsOf Q E) [some x0, some x1, none, none, none, none, none, none, none, none] S := propext ⟨And.right, fun h => ⟨rfl, h⟩⟩
theorem u77 {l : LP} {x0 x1 x2 : Val} {n : Nat} {S : Sto} {Q : VQ} {E : XQ} : callN (UP l) (n + 1) 77 [x0, x1, x2] S Q E = wpSs (cenv (UP l) n) b77 (endsOf Q E) [some x0, some x1, some x2] S := propext ⟨And.right, fun h => ⟨rfl, h⟩⟩
theorem u78 {l : LP} {x0 : Val} {n : Nat} {S : Sto} {Q : VQ} {E : XQ} : callN (UP l) (n + 1) 78 [x0] S Q E = wpSs (cenv (UP l) n) b78 (endsOf Q E) [some x0] S := propext ⟨And.right, fun h => ⟨rfl, h⟩⟩
theorem u79 {l : LP} {x0 : Val} {n : Nat} {S : Sto} {Q : VQ} {E : XQ} : callN (UP l) (n + 1) 79 [x0] S Q E = wpSs (cenv (UP l) n) b79 (endsOf Q E) [some x0, none, none] S := propext ⟨And.right, fun h => ⟨rfl, h⟩⟩
theorem u80 {l : LP} {x0 : Val} {n : Nat} {S : Sto} {Q : VQ} {E : XQ} : callN (UP l) (n + 1) 80 [x0] S Q E = wpSs (cenv (UP l) n) b80 (endsOf Q E) [some x0, none, none] S := propext ⟨And.right, fun h => ⟨rfl, h⟩⟩
theorem u81 {l : LP} {x0 : Val} {n : Nat} {S : Sto} {Q : VQ} {E : XQ} : callN (UP l) (n + 1) 81 [x0] S Q E = wpSs (cenv (UP l) n) b81 (endsOf Q E) [some x0] S := propext ⟨And.right, fun h => ⟨rfl, h⟩⟩
theorem u82 {l : LP} {x0 x1 : Val} {n : Nat} {S : Sto} {Q : VQ} {E : XQ} : callN (UP l) (n + 1) 82 [x0, x1] S Q E = wpSs (cenv (UP l) n) b82 (endsOf Q E) [some x0, some x1, none, none, none, none, none, none, none] S := propext ⟨And.right, fun h => ⟨rfl, h⟩⟩
theorem u83 {l : LP} {x0 x1 : Val} {n : Nat} {S : Sto} {Q : VQ} {E : XQ} : callN (UP l) (n + 1) 83 [x0, x1] S Q E = wpSs (cenv (UP l) n) b83 (endsOf Q E) [some x0, some x1, none, none, none] S := propext ⟨And.right, fun h => ⟨rfl, h⟩⟩
theorem u84 {l : LP} {x0 x1 : Val} {n : Nat} {S : Sto} {Q : VQ} {E : XQ} : callN (UP l) (n + 1) 84 [x0, x1] S Q E = wpSs (cenv (UP l) n) b84 (endsOf Q E) [some x0, some x1, none, none, none] S := propext ⟨And.right, fun h => ⟨rfl, h⟩⟩
theorem u85 {l : LP} {x0 x1 : Val} {n : Nat} {S : Sto} {Q : VQ} {E : XQ} : callN (UP l) (n + 1) 85 [x0, x1] S Q E = wpSs (cenv (UP l) n) b85 (endsOf Q E) [some x0, some x1, none, none, none, none, none] S := propext ⟨And.right, fun h => ⟨rfl, h⟩⟩
theorem u86 {l : LP} {x0 x1 : Val} {n : Nat} {S : Sto} {Q : VQ} {E : XQ} : callN (UP l) (n + 1) 86 [x0, x1] S Q E = wpSs (cenv (UP l) n) b86 (endsOf Q E) [some x0, some x1, none] S := propext ⟨And.right, fun h => ⟨rfl, h⟩⟩
theorem u87 {l : LP} {x0 x1 : Val} {n : Nat} {S : Sto} {Q : VQ} {E : XQ} : callN (UP l) (n + 1) 87 [x0, x1] S Q E = wpSs (cenv (UP l) n) b87 (endsOf Q E) [some x0, some x1, none, none, none, none, none, none] S := propext ⟨And.right, fun h => ⟨rfl, h⟩⟩
theorem u88 {l : LP} {x0 x1 x2 x3 : Val} {n : Nat} {S : Sto} {Q : VQ} {E : XQ} : callN (UP l) (n + 1) 88 [x0, x1, x2, x3] S Q E = wpSs (cenv (UP l) n) b88 (endsOf Q E) [some x0, some x1, some x2, some x3] S := propext ⟨And.right, fun h => ⟨rfl, h⟩⟩
theorem u89 {l : LP} {x0 x1 : Val} {n : Nat} {S : Sto} {Q : VQ} {E : XQ} : callN (UP l) (n + 1) 89 [x0, x1] S Q E = wpSs (cenv (UP l) n) b89 (endsOf Q E) [some x0, some x1, none, none, none, none, none, none, none] S := propext ⟨And.right, fun h => ⟨rfl, h⟩⟩
theorem u90 {l : LP} {x0 x1 : Val} {n : Nat} {S : Sto} {Q : VQ} {E : XQ} : callN (UP l) (n + 1) 90 [x0, x1] S Q E = wpSs (cenv (UP l) n) b90 (endsOf Q E) [some x0, some x1, none, none, none, none] S := propext ⟨And.right, fun h => ⟨rfl, h⟩⟩
theorem u91 {l : LP} {x0 x1 x2 : Val} {n : Nat} {S : Sto} {Q : VQ} {E : XQ} : callN (UP l) (n + 1) 91 [x0, x1, x2] S Q E = wpSs (cenv (UP l) n) b91 (endsOf Q E) [some x0, some x1, some x2, none, none, none] S := propext ⟨And.right, fun h => ⟨rfl, h⟩⟩
theorem u92 {l : LP} {x0 x1 : Val} {n : Nat} {S : Sto} {Q : VQ} {E : XQ} : callN (UP l) (n + 1) 92 [x0, x1] S Q E = wpSs (cenv (UP l) n) b92 (endsOf Q E) [some x0, some x1, none] S := propext ⟨And.right, fun h => ⟨rfl, h⟩⟩
theorem u93 {l : LP} {x0 x1 x2 : Val} {n : Nat} {S : Sto} {Q : VQ} {E : XQ} : callN (UP l) (n + 1) 93 [x0, x1, x2] S Q E = wpSs (cenv (UP l) n) b93 (endsOf Q E) [some x0, some x1, some x2] S := propext ⟨And.right, fun h => ⟨rfl, h⟩⟩
theorem u94 {l : LP} {x0 x1 : Val} {n : Nat} {S : Sto} {Q : VQ} {E : XQ} : callN (UP l) (n + 1) 94 [x0, x1] S Q E = wpSs (cenv (UP l) n) b94 (endsOf Q E) [some x0, some x1, none, none, none, none] S := propext ⟨And.right, fun h => ⟨rfl, h⟩⟩
theorem u95 {l : LP} {x0 : Val} {n : Nat} {S : Sto} {Q : VQ} {E : XQ} : callN (UP l) (n + 1) 95 [x0] S Q E = wpSs (cenv (UP l) n) b95 (endsOf Q E) [some x0, none, none] S := propext ⟨And.right, fun h => ⟨rfl, h⟩⟩
theorem u96 {l : LP} {x0 x1 : Val} {n : Nat} {S : Sto} {Q : VQ} {E : XQ} : callN (UP l) (n + 1) 96 [x0, x1] S Q E = wpSs (cenv (UP l) n) b96 (endsOf Q E) [some x0, some x1] S := propext ⟨And.right, fun h => ⟨rfl, h⟩⟩
theorem u97 {l : LP} {x0 x1 : Val} {n : Nat} {S : Sto} {Q : VQ} {E : XQ} : callN (UP l) (n + 1) 97 [x0, x1] S Q E = wpSs (cenv (UP l) n) b97 (endsOf Q E) [some x0, some x1] S := propext ⟨And.right, fun h => ⟨rfl, h⟩⟩
theorem u98 {l : LP} {x0 x1 : Val} {n : Nat} {S : Sto} {Q : VQ} {E : XQ} : callN (UP l) (n + 1) 98 [x0, x1] S Q E = wpSs (cenv (UP l) n) b98 (endsOf Q E) [some x0, some x1] S := propext ⟨And.right, fun h => ⟨rfl, h⟩⟩
theorem u99 {l : LP} {x0 x1 : Val} {n : Nat} {S : Sto} {Q : VQ} {E : XQ} : callN (UP l) (n + 1) 99 [x0, x1] S Q E = wpSs (cenv (UP l) n) b99 (endsOf Q E) [some x0, some x1, none, none, none, none, none] S := propext ⟨And.right, fun h => ⟨rfl, h⟩⟩
theorem u100 {l : LP} {x0 x1 x2 : Val} {n : Nat} {S : Sto} {Q : VQ} {E : XQ} : callN (UP l) (n + 1) 100 [x0, x1, x2] S Q E = wpSs (cenv (UP l) n) b100 (endsOf Q E) [some x0, some x1, some x2, none, none, none, none] S := propext ⟨And.right, fun h => ⟨rfl, h⟩⟩
theorem u101 {l : LP} {x0 : Val} {n : Nat} {S : Sto} {Q : VQ} {E : XQ} : callN (UP l) (n + 1) 101 [x0] S Q E = wpSs (cenv (UP l) n) b101 (endsOf Q E) [some x0] S := propext ⟨And.right, fun h => ⟨rfl, h⟩⟩
theorem u102 {l : LP} {x0 x1 x2 x3 : Val} {n : Nat} {S : Sto} {Q : VQ} {E : XQ} : callN (UP l) (n + 1) 102 [x0, x1, x2, x3] S Q E = wpSs (cenv (UP l) n) b102 (endsOf Q E) [some x0, some x1, some x2, some x3] S := propext ⟨And.right, fun h => ⟨rfl, h⟩⟩
theorem u103 {l : LP} {x0 x1 : Val} {n : Nat} {S : Sto} {Q : VQ} {E : XQ} : callN (UP l) (n + 1) 103 [x0, x1] S Q E = wpSs (cenv (UP l) n) b103 (endsOf Q E) [some x0, some x1] S := propext ⟨And.right, fun h => ⟨rfl, h⟩⟩
theorem u104 {l : LP} {x0 x1 : Val} {n : Nat} {S : Sto} {Q : VQ} {E : XQ} : callN (UP l) (n + 1) 104 [x0, x1] S Q E = wpSs (cenv (UP l) n) b104 (endsOf Q E) [some x0, some x1] S := propext ⟨And.right, fun h => ⟨rfl, h⟩⟩
theorem u105 {l : LP} {x0 x1 : Val} {n : Nat} {S : Sto} {Q : VQ} {E : XQ} : callN (UP l) (n + 1) 105 [x0, x1] S Q E = wpSs (cenv (UP l) n) b105 (endsOf Q E) [some x0, some x1] S := propext ⟨And.right, fun h => ⟨rfl, h⟩⟩
theorem u106 {l : LP} {x0 : Val} {n : Nat} {S : Sto} {Q : VQ} {E : XQ} : callN (UP l) (n + 1) 106 [x0] S Q E = wpSs (cenv (UP l) n) b106 (endsOf Q E) [some x0] S := propext ⟨And.right, fun h => ⟨rfl, h⟩⟩
theorem u107 {l : LP} {x0 x1 : Val} {n : Nat} {S : Sto} {Q : VQ} {E : XQ} : callN (UP l) (n + 1) 107 [x0, x1] S Q E = wpSs (cenv (UP l) n) b107 (endsOf Q E) [some x0, some x1] S := propext ⟨And.right, fun h => ⟨rfl, h⟩⟩
theorem u108 {l : LP} {x0 : Val} {n : Nat} {S : Sto} {Q : VQ} {E : XQ} : callN (UP l) (n + 1) 108 [x0] S Q E = wpSs (cenv (UP l) n) b108 (endsOf Q E) [some x0] S := propext ⟨And.right, fun h => ⟨rfl, h⟩⟩
theorem u109 {l : LP} {x0 : Val} {n : Nat} {S : Sto} {Q : VQ} {E : XQ} : callN (UP l) (n + 1) 109 [x0] S Q E = wpSs (cenv (UP l) n) b109 (endsOf Q E) [some x0, none, none, none] S := propext ⟨And.right, fun h => ⟨rfl, h⟩⟩
theorem u110 {l : LP} {x0 x1 : Val} {n : Nat} {S : Sto} {Q : VQ} {E : XQ} : callN (UP l) (n + 1) 110 [x0, x1] S Q E = wpSs (cenv (UP l) n) b110 (endsOf Q E) [some x0, some x1] S := propext ⟨And.right, fun h => ⟨rfl, h⟩⟩
theorem u111 {l : LP} {x0 : Val} {n : Nat} {S : Sto} {Q : VQ} {E : XQ} : callN (UP l) (n + 1) 111 [x0] S Q E = wpSs (cenv (UP l) n) b111 (endsOf Q E) [some x0, none, none, none, none, none] S := propext ⟨And.right, fun h => ⟨rfl, h⟩⟩
theorem u112 {l : LP} {x0 x1 x2 : Val} {n : Nat} {S : Sto} {Q : VQ} {E : XQ} : callN (UP l) (n + 1) 112 [x0, x1, x2] S Q E = wpSs (cenv (UP l) n) b112 (endsOf Q E) [some x0, some x1, some x2, none, none] S := propext ⟨And.right, fun h => ⟨rfl, h⟩⟩
theorem u113 {l : LP} {x0 x1 x2 : Val} {n : Nat} {S : Sto} {Q : VQ} {E : XQ} : callN (UP l) (n + 1) 113 [x0, x1, x2] S Q E = wpSs (cenv (UP l) n) b113 (endsOf Q E) [some x0, some x1, some x2, none, none, none, none, none] S := propext ⟨And.right, fun h => ⟨rfl, h⟩⟩
theorem u114 {l : LP} {x0 x1 : Val} {n : Nat} {S : Sto} {Q : VQ} {E : XQ} : callN (UP l) (n + 1) 114 [x0, x1] S Q E = wpSs (cenv (UP l) n) b114 (endsOf Q E) [some x0, some x1, none] S := propext ⟨And.right, fun h => ⟨rfl, h⟩⟩
theorem u115 {l : LP} {x0 : Val} {n : Nat} {S : Sto} {Q : VQ} {E : XQ} : callN (UP l) (n + 1) 115 [x0] S Q E = wpSs (cenv (UP l) n) b115 (endsOf Q E) [some x0] S := propext ⟨And.right, fun h => ⟨rfl, h⟩⟩
theorem u116 {l : LP} {x0 : Val} {n : Nat} {S : Sto} {Q : VQ} {E : XQ} : callN (UP l) (n + 1) 116 [x0] S Q E = wpSs (cenv (UP l) n) b116 (endsOf Q E) [some x0, none, none, none] S := propext ⟨And.right, fun h => ⟨rfl, h⟩⟩
theorem u117 {l : LP} {x0 x1 : Val} {n : Nat} {S : Sto} {Q : VQ} {E : XQ} : callN (UP l) (n + 1) 117 [x0, x1] S Q E = wpSs (cenv (UP l) n) b117 (endsOf Q E) [some x0, some x1] S := propext ⟨And.right, fun h => ⟨rfl, h⟩⟩
theorem u118 {l : LP} {x0 : Val} {n : Nat} {S : Sto} {Q : VQ} {E : XQ} : callN (UP l) (n + 1) 118 [x0] S Q E = wpSs (cenv (UP l) n) b118 (endsOf Q E) [some x0] S := propext ⟨And.right, fun h => ⟨rfl, h⟩⟩
theorem u119 {l : LP} {x0 x1 : Val} {n : Nat} {S : Sto} {Q : VQ} {E : XQ} : callN (UP l) (n + 1) 119 [x0, x1] S Q E = wpSs (cenv (UP l) n) b119 (endsOf Q E) [some x0, some x1] S := propext ⟨And.right, fun h => ⟨rfl, h⟩⟩
theorem u120 {l : LP} {x0 : Val} {n : Nat} {S : Sto} {Q : VQ} {E : XQ} : callN (UP l) (n + 1) 120 [x0] S Q E = wpSs (cenv (UP l) n) b120 (endsOf Q E) [some x0] S := propext ⟨And.right, fun h => ⟨rfl, h⟩⟩
theorem u121 {l : LP} {x0 : Val} {n : Nat} {S : Sto} {Q : VQ} {E : XQ} : callN (UP l) (n + 1) 121 [x0] S Q E = wpSs (cenv (UP l) n) b121 (endsOf Q E) [some x0, none] S := propext ⟨And.right, fun h => ⟨rfl, h⟩⟩
theorem u122 {l : LP} {x0 x1 : Val} {n : Nat} {S : Sto} {Q : VQ} {E : XQ} : callN (UP l) (n + 1) 122 [x0, x1] S Q E = wpSs (cenv (UP l) n) b122 (endsOf Q E) [some x0, some x1, none, none] S := propext ⟨And.right, fun h => ⟨rfl, h⟩⟩
theorem u123 {l : LP} {x0 x1 : Val} {n : Nat} {S : Sto} {Q : VQ} {E : XQ} : callN (UP l) (n + 1) 123 [x0, x1] S Q E = wpSs (cenv (UP l) n) b123 (endsOf Q E) [some x0, some x1, none] S := propext ⟨And.right, fun h => ⟨rfl, h⟩⟩
theorem u124 {l : LP} {x0 : Val} {n : Nat} {S : Sto} {Q : VQ} {E : XQ} : callN (UP l) (n + 1) 124 [x0] S Q E = wpSs (cenv (UP l) n) b124 (endsOf Q E) [some x0] S := propext ⟨And.right, fun h => ⟨rfl, h⟩⟩
theorem u125 {l : LP} {x0 : Val} {n : Nat} {S : Sto} {Q : VQ} {E : XQ} : callN (UP l) (n + 1) 125 [x0] S Q E = wpSs (cenv (UP l) n) b125 (endsOf Q E) [some x0] S := propext ⟨And.right, fun h => ⟨rfl, h⟩⟩
theorem u126 {l : LP} {x0 x1 : Val} {n : Nat} {S : Sto} {Q : VQ} {E : XQ} : callN (UP l) (n + 1) 126 [x0, x1] S Q E = wpSs (cenv (UP l) n) b126 (endsOf Q E) [some x0, some x1] S := propext ⟨And.right, fun h => ⟨rfl, h⟩⟩
theorem u127 {l : LP} {x0 x1 : Val} {n : Nat} {S : Sto} {Q : VQ} {E : XQ} : callN (UP l) (n + 1) 127 [x0, x1] S Q E = wpSs (cenv (UP l) n) b127 (endsOf Q E) [some x0, some x1] S := propext ⟨And.right, fun h => ⟨rfl, h⟩⟩
theorem u128 {l : LP} {x0 x1 : Val} {n : Nat} {S : Sto} {Q : VQ} {E : XQ} : callN (UP l) (n + 1) 128 [x0, x1] S Q E = wpSs (cenv (UP l) n) b128 (endsOf Q E) [some x0, some x1] S := propext ⟨And.right, fun h => ⟨rfl, h⟩⟩
theorem u129 {l : LP} {x0 : Val} {n : Nat} {S : Sto} {Q : VQ} {E : XQ} : callN (UP l) (n + 1) 129 [x0] S Q E = wpSs (cenv (UP l) n) b129 (endsOf Q E) [some x0] S := propext ⟨And.right, fun h => ⟨rfl, h⟩⟩
theorem u130 {l : LP} {x0 : Val} {n : Nat} {S : Sto} {Q : VQ} {E : XQ} : callN (UP l) (n + 1) 130 [x0] S Q E = wpSs (cenv (UP l) n) b130 (endsOf Q E) [some x0, none, none] S := propext ⟨And.right, fun h => ⟨rfl, h⟩⟩
theorem u131 {l : LP} {x0 x1 : Val} {n : Nat} {S : Sto} {Q : VQ} {E : XQ} : callN (UP l) (n + 1) 131 [x0, x1] S Q E = wpSs (cenv (UP l) n) b131 (endsOf Q E) [some x0, some x1] S := propext ⟨And.right, fun h => ⟨rfl, h⟩⟩
theorem u132 {l : LP} {x0 x1 : Val} {n : Nat} {S : Sto} {Q : VQ} {E : XQ} : callN (UP l) (n + 1) 132 [x0, x1] S Q E = wpSs (cenv (UP l) n) b132 (endsOf Q E) [some x0, some x1, none] S := propext ⟨And.right, fun h => ⟨rfl, h⟩⟩
theorem u133 {l : LP} {x0 x1 : Val} {n : Nat} {S : Sto} {Q : VQ} {E : XQ} : callN (UP l) (n + 1) 133 [x0, x1] S Q E = wpSs (cenv (UP l) n) b133 (endsOf Q E) [some x0, some x1, none, none] S := propext ⟨And.right, fun h => ⟨rfl, h⟩⟩
theorem u134 {l : LP} {x0 x1 : Val} {n : Nat} {S : Sto} {Q : VQ} {E : XQ} : callN (UP l) (n + 1) 134 [x0, x1] S Q E = wpSs (cenv (UP l) n) b134 (endsOf Q E) [some x0, some x1, none] S := propext ⟨And.right, fun h => ⟨rfl, h⟩⟩
theorem u135 {l : LP} {x0 : Val} {n : Nat} {S : Sto} {Q : VQ} {E : XQ} : callN (UP l) (n + 1) 135 [x0] S Q E = wpSs (cenv (UP l) n) b135 (endsOf Q E) [some x0, none] S := propext ⟨And.right, fun h => ⟨rfl, h⟩⟩
theorem u136 {l : LP} {x0 x1 : Val} {n : Nat} {S : Sto} {Q : VQ} {E : XQ} : callN (UP l) (n + 1) 136 [x0, x1] S Q E = wpSs (cenv (UP l) n) b136 (endsOf Q E) [some x0, some x1, none, none, none] S := propext ⟨And.right, fun h => ⟨rfl, h⟩⟩
theorem u137 {l : LP} {x0 x1 : Val} {n : Nat} {S : Sto} {Q : VQ} {E : XQ} : callN (UP l) (n + 1) 137 [x0, x1] S Q E = wpSs (cenv (UP l) n) b137 (endsOf Q E) [some x0, some x1, none, none, none, none] S := propext ⟨And.right, fun h => ⟨rfl, h⟩⟩
theorem u138 {l : LP} {x0 x1 x2 : Val} {n : Nat} {S : Sto} {Q : VQ} {E : XQ} : callN (UP l) (n + 1) 138 [x0, x1, x2] S Q E = wpSs (cenv (UP l) n) b138 (endsOf Q E) [some x0, some x1, some x2, none] S := propext ⟨And.right, fun h => ⟨rfl, h⟩⟩
theorem u139 {l : LP} {x0 x1 x2 : Val} {n : Nat} {S : Sto} {Q : VQ} {E : XQ} : callN (UP l) (n + 1) 139 [x0, x1, x2] S Q E = wpSs (cenv (UP l) n) b139 (endsOf Q E) [some x0, some x1, some x2] S := propext ⟨And.right, fun h => ⟨rfl, h⟩⟩
theorem u140 {l : LP} {x0 x1 : Val} {n : Nat} {S : Sto} {Q : VQ} {E : XQ} : callN (UP l) (n + 1) 140 [x0, x1] S Q E = wpSs (cenv (UP l) n) b140 (endsOf Q E) [some x0, some x1, none, none] S := propext ⟨And.right, fun h => ⟨rfl, h⟩⟩
theorem u141 {l : LP} {x0 x1 x2 x3 : Val} {n : Nat} {S : Sto} {Q : VQ} {E : XQ} : callN (UP l) (n + 1) 141 [x0, x1, x2, x3] S Q E = wpSs (cenv (UP l) n) b141 (endsOf Q E) [some x0, some x1, some x2, some x3, none, none, none] S := propext ⟨And.right, fun h => ⟨rfl, h⟩⟩
theorem u142 {l : LP} {x0 x1 x2 : Val} {n : Nat} {S : Sto} {Q : VQ} {E : XQ} : callN (UP l) (n + 1) 142 [x0, x1, x2] S Q E = wpSs (cenv (UP l) n) b142 (endsOf Q E) [some x0, some x1, some x2, none, none, none, none, none] S := propext ⟨And.right, fun h => ⟨rfl, h⟩⟩
theorem u143 {l : LP} {x0 x1 x2 : Val} {n : Nat} {S : Sto} {Q : VQ} {E : XQ} : callN (UP l) (n + 1) 143 [x0, x1, x2] S Q E = wpSs (cenv (UP l) n) b143 (endsOf Q E) [some x0, some x1, some x2, none] S := propext ⟨And.right, fun h => ⟨rfl, h⟩⟩
theorem u144 {l : LP} {x0 x1 : Val} {n : Nat} {S : Sto} {Q : VQ} {E : XQ} : callN (UP l) (n + 1) 144 [x0, x1] S Q E = wpSs (cenv (UP l) n) b144 (endsOf Q E) [some x0, some x1] S := propext ⟨And.right, fun h => ⟨rfl, h⟩⟩
theorem u145 {l : LP} {x0 x1 x2 : Val} {n : Nat} {S : Sto} {Q : VQ} {E : XQ} : callN (UP l) (n + 1) 145 [x0, x1, x2] S Q E = wpSs (cenv (UP l) n) b145 (endsOf Q E) [some x0, some x1, some x2, none, none] S := propext ⟨And.right, fun h => ⟨rfl, h⟩⟩
theorem u146 {l : LP} {x0 x1 x2 : Val} {n : Nat} {S : Sto} {Q : VQ} {E : XQ} : callN (UP l) (n + 1) 146 [x0, x1, x2] S Q E = wpSs (cenv (UP l) n) b146 (endsOf Q E) [some x0, some x1, some x2, none, none] S := propext ⟨And.right, fun h => ⟨rfl, h⟩⟩
theorem u148 {l : LP} {x0 x1 x2 : Val} {n : Nat} {S : Sto} {Q : VQ} {E : XQ} : callN (UP l) (n + 1) 148 [x0, x1, x2] S Q E = wpSs (cenv (UP l) n) b148 (endsOf Q E) [some x0, some x1, some x2] S := propext ⟨And.right, fun h => ⟨rfl, h⟩⟩
theorem u149 {l : LP} {x0 : Val} {n : Nat} {S : Sto} {Q : VQ} {E : XQ} : callN (UP l) (n + 1) 149 [x0] S Q E = wpSs (cenv (UP l) n) b149 (endsOf Q E) [some x0, none, none, none, none, none, none] S := propext ⟨And.right, fun h => ⟨rfl, h⟩⟩
theorem u150 {l : LP} {x0 x1 : Val} {n : Nat} {S : Sto} {Q : VQ} {E : XQ} : callN (UP l) (n + 1) 150 [x0, x1] S Q E = wpSs (cenv (UP l) n) b150 (endsOf Q E) [some x0, some x1, none] S := propext ⟨And.right, fun h => ⟨rfl, h⟩⟩
theorem u151 {l : LP} {x0 x1 x2 : Val} {n : Nat} {S : Sto} {Q : VQ} {E : XQ} : callN (UP l) (n + 1) 151 [x0, x1, x2] S Q E = wpSs (cenv (UP l) n) b151 (endsOf Q E) [some x0, some x1, some x2, none] S := propext ⟨And.right, fun h => ⟨rfl, h⟩⟩
theorem u152 {l : LP} {x0 : Val} {n : Nat} {S : Sto} {Q : VQ} {E : XQ} : callN (UP l) (n + 1) 152 [x0] S Q E = wpSs (cenv (UP l) n) b152 (endsOf Q E) [some x0] S := propext ⟨And.right, fun h => ⟨rfl, h⟩⟩
theorem u153 {l : LP} {x0 x1 x2 x3 : Val} {n : Nat} {S : Sto} {Q : VQ} {E : XQ} : callN (UP l) (n + 1) 153 [x0, x1, x2, x3] S Q E = wpSs (cenv (UP l) n) b153 (endsOf Q E) [some x0, some x1, some x2, some x3, none, none, none] S := propext ⟨And.right, fun h => ⟨rfl, h⟩⟩
theorem u154 {l : LP} {x0 x1 : Val} {n : Nat} {S : Sto} {Q : VQ} {E : XQ} : callN (UP l) (n + 1) 154 [x0, x1] S Q E = wpSs (cenv (UP l) n) b154 (endsOf Q E) [some x0, some x1, none, none] S := propext ⟨And.right, fun h => ⟨rfl, h⟩⟩
theorem u155 {l : LP} {x0 : Val} {n : Nat} {S : Sto} {Q : VQ} {E : XQ} : callN (UP l) (n + 1) 155 [x0] S Q E = wpSs (cenv (UP l) n) b155 (endsOf Q E) [some x0] S := propext ⟨And.right, fun h => ⟨rfl, h⟩⟩
theorem u156 {l : LP} {x0 x1 : Val} {n : Nat} {S : Sto} {Q : VQ} {E : XQ} : callN (UP l) (n + 1) 156 [x0, x1] S Q E = wpSs (cenv (UP l) n) b156 (endsOf Q E) [some x0, some x1] S := propext ⟨And.right, fun h => ⟨rfl, h⟩⟩
theorem u157 {l : LP} {x0 : Val} {n : Nat} {S : Sto} {Q : VQ} {E : XQ} : callN (UP l) (n + 1) 157 [x0] S Q E = wpSs (cenv (UP l) n) b157 (endsOf Q E) [some x0] S := propext ⟨And.right, fun h => ⟨rfl, h⟩⟩
theorem u158 {l : LP} {x0 x1 x2 : Val} {n : Nat} {S : Sto} {Q : VQ} {E : XQ} : callN (UP l) (n + 1) 158 [x0, x1, x2] S Q E = wpSs (cenv (UP l) n) b158 (endsOf Q E) [some x0, some x1, some x2] S := propext ⟨And.right, fun h => ⟨rfl, h⟩⟩
theorem u159 {l : LP} {x0 x1 : Val} {n : Nat} {S : Sto} {Q : VQ} {E : XQ} : callN (UP l) (n + 1) 159 [x0, x1] S Q E = wpSs (cenv (UP l) n) b159 (endsOf Q E) [some x0, some x1] S := propext ⟨And.right, fun h => ⟨rfl, h⟩⟩
theorem u160 {l : LP} {x0 x1 : Val} {n : Nat} {S : Sto} {Q : VQ} {E : XQ} : callN (UP l) (n + 1) 160 [x0, x1] S Q E = wpSs (cenv (UP l) n) b160 (endsOf Q E) [some x0, some x1, none, none, none] S := propext ⟨And.right, fun h => ⟨rfl, h⟩⟩
theorem u161 {l : LP} {x0 : Val} {n : Nat} {S : Sto} {Q : VQ} {E : XQ} : callN (UP l) (n + 1) 161 [x0] S Q E = wpSs (cenv (UP l) n) b161 (endsOf Q E) [some x0] S := propext ⟨And.right, fun h => ⟨rfl, h⟩⟩
theorem u162 {l : LP} {x0 x1 : Val} {n : Nat} {S : Sto} {Q : VQ} {E : XQ} : callN (UP l) (n + 1) 162 [x0, x1] S Q E = wpSs (cenv (UP l) n) b162 (endsOf Q E) [some x0, some x1] S := propext ⟨And.right, fun h => ⟨rfl, h⟩⟩
theorem u163 {l : LP} {x0 x1 : Val} {n : Nat} {S : Sto} {Q : VQ} {E : XQ} : callN (UP l) (n + 1) 163 [x0, x1] S Q E = wpSs (cenv (UP l) n) b163 (endsOf Q E) [some x0, some x1, none, none, none, none, none, none] S := propext ⟨And.right, fun h => ⟨rfl, h⟩⟩
theorem u164 {l : LP} {x0 : Val} {n : Nat} {S : Sto} {Q : VQ} {E : XQ} : callN (UP l) (n + 1) 164 [x0] S Q E = wpSs (cenv (UP l) n) b164 (endsOf Q E) [some x0, none, none, none, none, none, none, none, none] S := propext ⟨And.right, fun h => ⟨rfl, h⟩⟩
theorem u165 {l : LP} {x0 : Val} {n : Nat} {S : Sto} {Q : VQ} {E : XQ} : callN (UP l) (n + 1) 165 [x0] S Q E = wpSs (cenv (UP l) n) b165 (endsOf Q E) [some x0, none, none, none, none, none] S := propext ⟨And.right, fun h => ⟨rfl, h⟩⟩
theorem u166 {l : LP} {x0 : Val} {n : Nat} {S : Sto} {Q : VQ} {E : XQ} : callN (UP l) (n + 1) 166 [x0] S Q E = wpSs (cenv (UP l) n) b166 (endsOf Q E) [some x0, none, none, none, none, none, none, none, none, none] S := propext ⟨And.right, fun h => ⟨rfl, h⟩⟩
theorem u167 {l : LP} {x0 : Val} {n : Nat} {S : Sto} {Q : VQ} {E : XQ} : callN (UP l) (n + 1) 167 [x0] S Q E = wpSs (cenv (UP l) n) b167 (endsOf Q E) [some x0, none, none, none, none] S := propext ⟨And.right, fun h => ⟨rfl, h⟩⟩
theorem u168 {l : LP} {x0 x1 : Val} {n : Nat} {S : Sto} {Q : VQ} {E : XQ} : callN (UP l) (n + 1) 168 [x0, x1] S Q E = wpSs (cenv (UP l) n) b168 (endsOf Q E) [some x0, some x1, none, none, none, none, none] S := propext ⟨And.right, fun h => ⟨rfl, h⟩⟩
theorem u169 {l : LP} {x0 : Val} {n : Nat} {S : Sto} {Q : VQ} {E : XQ} : callN (UP l) (n + 1) 169 [x0] S Q E = wpSs (cenv (UP l) n) b169 (endsOf Q E) [some x0, none, none] S := propext ⟨And.right, fun h => ⟨rfl, h⟩⟩
theorem glo_0 {l : LP} : (UP l).gs.glo 0 = (.int (10)) := rfl
theorem glo_1 {l : LP} : (UP l).gs.glo 1 = (.int (-1)) := rfl
theorem glo_2 {l : LP} : (UP l).gs.glo 2 = (.int (4)) := rfl
theorem glo_3 {l : LP} : (UP l).gs.glo 3 = (.int (1000000)) := rfl
theorem glo_4 {l : LP} : (UP l).gs.glo 4 = (.int (6)) := rfl
theorem glo_5 {l : LP} : (UP l).gs.glo 5 = (.int (1000000000000)) := rfl
theorem glo_6 {l : LP} : (UP l).gs.glo 6 = (.int (40)) := rfl
theorem glo_7 {l : LP} : (UP l).gs.glo 7 = .cst 7 (l.cn 7) := rfl
theorem glo_8 {l : LP} : (UP l).gs.glo 8 = (.int (13)) := rfl
theorem glo_9 {l : LP} : (UP l).gs.glo 9 = (.int (37)) := rfl
theorem glo_10 {l : LP} : (UP l).gs.glo 10 = .cst 10 (l.cn 10) := rfl
theorem glo_11 {l : LP} : (UP l).gs.glo 11 = .cst 11 (l.cn 11) := rfl
theorem glo_12 {l : LP} : (UP l).gs.glo 12 = (.tup [(.int (0)), (.int (0)), (.int (0)), (.int (0))]) := rfl
theorem glo_13 {l : LP} : (UP l).gs.glo 13 = (.int (4)) := rfl
theorem glo_14 {l : LP} : (UP l).gs.glo 14 = (.int (16)) := rfl
theorem glo_15 {l : LP} : (UP l).gs.glo 15 = (.int (16)) := rfl
theorem glo_16 {l : LP} : (UP l).gs.glo 16 = (.int (1000)) := rfl
theorem glo_17 {l : LP} : (UP l).gs.glo 17 = .cst 17 (l.cn 17) := rfl
theorem glo_18 {l : LP} : (UP l).gs.glo 18 = (.int (999999999999)) := rfl
theorem glo_19 {l : LP} : (UP l).gs.glo 19 = .cst 19 (l.cn 19) := rfl
theorem cst_7 {l : LP} (h : l.dk 7 = true) : (UP l).gs.cst 7 = some (l.cn 7, dk7) := by show (if l.dk 7 = true then _ else none) = _; rw [if_pos h]
theorem cst_10 {l : LP} (h : l.dk 10 = true) : (UP l).gs.cst 10 = some (l.cn 10, dk10) := by show (if l.dk 10 = true then _ else none) = _; rw [if_pos h]
theorem cst_11 {l : LP} (h : l.dk 11 = true) : (UP l).gs.cst 11 = some (l.cn 11, dk11) := by show (if l.dk 11 = true then _ else none) = _; rw [if_pos h]
theorem cst_17 {l : LP} (h : l.dk 17 = true) : (UP l).gs.cst 17 = some (l.cn 17, dk17) := by show (if l.dk 17 = true then _ else none) = _; rw [if_pos h]
theorem cst_19 {l : LP} (h : l.dk 19 = true) : (UP l).gs.cst 19 = some (l.cn 19, dk19) := by show (if l.dk 19 = true then _ else none) = _; rw [if_pos h]
theorem ini_0 {l : LP} : (UP l).gs.ini 0 = 24 := rfl
theorem ini_1 {l : LP} : (UP l).gs.ini 1 = 35 := rfl
theorem ini_2 {l : LP} : (UP l).gs.ini 2 = 42 := rfl
theorem ini_3 {l : LP} : (UP l).gs.ini 3 = 49 := rfl
theorem ini_4 {l : LP} : (UP l).gs.ini 4 = 64 := rfl
theorem ini_5 {l : LP} : (UP l).gs.ini 5 = 92 := rfl
theorem ini_6 {l : LP} : (UP l).gs.ini 6 = 101 := rfl
theorem ini_7 {l : LP} : (UP l).gs.ini 7 = 118 := rfl
theorem ini_8 {l : LP} : (UP l).gs.ini 8 = 122 := rfl
theorem ini_9 {l : LP} : (UP l).gs.ini 9 = 152 := rfl
theorem ini_10 {l : LP} : (UP l).gs.ini 10 = 161 := rfl
theorem mth_0_7 {l : LP} : (UP l).gs.mth 0 7 = some 25 := rfl
theorem mth_0_11 {l : LP} : (UP l).gs.mth 0 11 = some 26 := rfl
theorem mth_0_9 {l : LP} : (UP l).gs.mth 0 9 = some 27 := rfl
theorem mth_0_13 {l : LP} : (UP l).gs.mth 0 13 = some 28 := rfl
theorem mth_0_12 {l : LP} : (UP l).gs.mth 0 12 = some 29 := rfl
theorem mth_0_10 {l : LP} : (UP l).gs.mth 0 10 = some 30 := rfl
theorem mth_0_6 {l : LP} : (UP l).gs.mth 0 6 = some 31 := rfl
theorem mth_0_8 {l : LP} : (UP l).gs.mth 0 8 = some 32 := rfl
theorem mth_1_21 {l : LP} : (UP l).gs.mth 1 21 = some 36 := rfl
theorem mth_1_24 {l : LP} : (UP l).gs.mth 1 24 = some 37 := rfl
theorem mth_1_20 {l : LP} : (UP l).gs.mth 1 20 = some 38 := rfl
theorem mth_1_27 {l : LP} : (UP l).gs.mth 1 27 = some 39 := rfl
theorem mth_1_22 {l : LP} : (UP l).gs.mth 1 22 = some 40 := rfl
theorem mth_1_28 {l : LP} : (UP l).gs.mth 1 28 = some 41 := rfl
theorem mth_2_25 {l : LP} : (UP l).gs.mth 2 25 = some 43 := rfl
theorem mth_2_26 {l : LP} : (UP l).gs.mth 2 26 = some 44 := rfl
theorem mth_2_19 {l : LP} : (UP l).gs.mth 2 19 = some 45 := rfl
theorem mth_2_23 {l : LP} : (UP l).gs.mth 2 23 = some 46 := rfl
theorem mth_3_48 {l : LP} : (UP l).gs.mth 3 48 = some 50 := rfl
theorem mth_3_50 {l : LP} : (UP l).gs.mth 3 50 = some 51 := rfl
theorem mth_3_37 {l : LP} : (UP l).gs.mth 3 37 = some 52 := rfl
theorem mth_3_38 {l : LP} : (UP l).gs.mth 3 38 = some 53 := rfl
theorem mth_3_47 {l : LP} : (UP l).gs.mth 3 47 = some 54 := rfl
theorem mth_3_42 {l : LP} : (UP l).gs.mth 3 42 = some 55 := rfl
theorem mth_3_49 {l : LP} : (UP l).gs.mth 3 49 = some 56 := rfl
theorem mth_3_39 {l : LP} : (UP l).gs.mth 3 39 = some 57 := rfl
theorem mth_3_40 {l : LP} : (UP l).gs.mth 3 40 = some 58 := rfl
theorem mth_3_41 {l : LP} : (UP l).gs.mth 3 41 = some 59 := rfl
theorem mth_3_43 {l : LP} : (UP l).gs.mth 3 43 = some 60 := rfl
theorem mth_3_44 {l : LP} : (UP l).gs.mth 3 44 = some 61 := rfl
theorem mth_3_45 {l : LP} : (UP l).gs.mth 3 45 = some 62 := rfl
theorem mth_3_46 {l : LP} : (UP l).gs.mth 3 46 = some 63 := rfl
theorem mth_4_76 {l : LP} : (UP l).gs.mth 4 76 = some 65 := rfl
theorem mth_4_82 {l : LP} : (UP l).gs.mth 4 82 = some 66 := rfl
theorem mth_4_81 {l : LP} : (UP l).gs.mth 4 81 = some 67 := rfl
theorem mth_4_73 {l : LP} : (UP l).gs.mth 4 73 = some 68 := rfl
theorem mth_4_38 {l : LP} : (UP l).gs.mth 4 38 = some 69 := rfl
theorem mth_4_42 {l : LP} : (UP l).gs.mth 4 42 = some 70 := rfl
theorem mth_4_49 {l : LP} : (UP l).gs.mth 4 49 = some 71 := rfl
theorem mth_4_74 {l : LP} : (UP l).gs.mth 4 74 = some 72 := rfl
theorem mth_4_40 {l : LP} : (UP l).gs.mth 4 40 = some 73 := rfl
theorem mth_4_75 {l : LP} : (UP l).gs.mth 4 75 = some 74 := rfl
theorem mth_4_60 {l : LP} : (UP l).gs.mth 4 60 = some 75 := rfl
theorem mth_4_72 {l : LP} : (UP l).gs.mth 4 72 = some 76 := rfl
theorem mth_4_66 {l : LP} : (UP l).gs.mth 4 66 = some 77 := rfl
theorem mth_4_63 {l : LP} : (UP l).gs.mth 4 63 = some 78 := rfl
theorem mth_4_65 {l : LP} : (UP l).gs.mth 4 65 = some 79 := rfl
theorem mth_4_64 {l : LP} : (UP l).gs.mth 4 64 = some 80 := rfl
theorem mth_4_61 {l : LP} : (UP l).gs.mth 4 61 = some 81 := rfl
theorem mth_4_69 {l : LP} : (UP l).gs.mth 4 69 = some 82 := rfl
theorem mth_4_67 {l : LP} : (UP l).gs.mth 4 67 = some 83 := rfl
theorem mth_4_80 {l : LP} : (UP l).gs.mth 4 80 = some 84 := rfl
theorem mth_4_70 {l : LP} : (UP l).gs.mth 4 70 = some 85 := rfl
theorem mth_4_78 {l : LP} : (UP l).gs.mth 4 78 = some 86 := rfl
theorem mth_4_71 {l : LP} : (UP l).gs.mth 4 71 = some 87 := rfl
theorem mth_4_62 {l : LP} : (UP l).gs.mth 4 62 = some 88 := rfl
theorem mth_4_77 {l : LP} : (UP l).gs.mth 4 77 = some 89 := rfl
theorem mth_4_79 {l : LP} : (UP l).gs.mth 4 79 = some 90 := rfl
theorem mth_4_68 {l : LP} : (UP l).gs.mth 4 68 = some 91 := rfl
theorem mth_5_87 {l : LP} : (UP l).gs.mth 5 87 = some 93 := rfl
theorem mth_5_82 {l : LP} : (UP l).gs.mth 5 82 = some 94 := rfl
theorem mth_5_76 {l : LP} : (UP l).gs.mth 5 76 = some 95 := rfl
theorem mth_5_88 {l : LP} : (UP l).gs.mth 5 88 = some 96 := rfl
theorem mth_5_90 {l : LP} : (UP l).gs.mth 5 90 = some 97 := rfl
theorem mth_5_89 {l : LP} : (UP l).gs.mth 5 89 = some 98 := rfl
theorem mth_5_86 {l : LP} : (UP l).gs.mth 5 86 = some 99 := rfl
theorem mth_5_85 {l : LP} : (UP l).gs.mth 5 85 = some 100 := rfl
theorem mth_6_96 {l : LP} : (UP l).gs.mth 6 96 = some 102 := rfl
theorem mth_6_48 {l : LP} : (UP l).gs.mth 6 48 = some 103 := rfl
theorem mth_6_95 {l : LP} : (UP l).gs.mth 6 95 = some 104 := rfl
theorem mth_6_94 {l : LP} : (UP l).gs.mth 6 94 = some 105 := rfl
theorem mth_6_92 {l : LP} : (UP l).gs.mth 6 92 = some 106 := rfl
theorem mth_6_93 {l : LP} : (UP l).gs.mth 6 93 = some 107 := rfl
theorem mth_7_24 {l : LP} : (UP l).gs.mth 7 24 = some 119 := rfl
theorem mth_7_109 {l : LP} : (UP l).gs.mth 7 109 = some 120 := rfl
theorem mth_8_106 {l : LP} : (UP l).gs.mth 8 106 = some 123 := rfl
theorem mth_8_113 {l : LP} : (UP l).gs.mth 8 113 = some 124 := rfl
theorem mth_8_92 {l : LP} : (UP l).gs.mth 8 92 = some 125 := rfl
theorem mth_8_114 {l : LP} : (UP l).gs.mth 8 114 = some 126 := rfl
theorem mth_8_123 {l : LP} : (UP l).gs.mth 8 123 = some 127 := rfl
theorem mth_8_125 {l : LP} : (UP l).gs.mth 8 125 = some 128 := rfl
theorem mth_8_127 {l : LP} : (UP l).gs.mth 8 127 = some 129 := rfl
theorem mth_8_122 {l : LP} : (UP l).gs.mth 8 122 = some 130 := rfl
theorem mth_8_108 {l : LP} : (UP l).gs.mth 8 108 = some 131 := rfl
theorem mth_8_107 {l : LP} : (UP l).gs.mth 8 107 = some 132 := rfl
theorem mth_8_115 {l : LP} : (UP l).gs.mth 8 115 = some 133 := rfl
theorem mth_8_120 {l : LP} : (UP l).gs.mth 8 120 = some 134 := rfl
theorem mth_8_116 {l : LP} : (UP l).gs.mth 8 116 = some 135 := rfl
theorem mth_8_117 {l : LP} : (UP l).gs.mth 8 117 = some 136 := rfl
theorem mth_8_118 {l : LP} : (UP l).gs.mth 8 118 = some 137 := rfl
theorem mth_8_126 {l : LP} : (UP l).gs.mth 8 126 = some 138 := rfl
theorem mth_8_128 {l : LP} : (UP l).gs.mth 8 128 = some 139 := rfl
theorem mth_8_129 {l : LP} : (UP l).gs.mth 8 129 = some 140 := rfl
theorem mth_8_119 {l : LP} : (UP l).gs.mth 8 119 = some 141 := rfl
theorem mth_8_111 {l : LP} : (UP l).gs.mth 8 111 = some 142 := rfl
theorem mth_8_112 {l : LP} : (UP l).gs.mth 8 112 = some 143 := rfl
theorem mth_8_121 {l : LP} : (UP l).gs.mth 8 121 = some 144 := rfl
theorem mth_8_124 {l : LP} : (UP l).gs.mth 8 124 = some 145 := rfl
theorem mth_8_45 {l : LP} : (UP l).gs.mth 8 45 = some 146 := rfl
theorem mth_8_110 {l : LP} : (UP l).gs.mth 8 110 = some 147 := rfl
theorem mth_9_48 {l : LP} : (UP l).gs.mth 9 48 = some 153 := rfl
theorem mth_9_50 {l : LP} : (UP l).gs.mth 9 50 = some 154 := rfl
theorem mth_9_37 {l : LP} : (UP l).gs.mth 9 37 = some 155 := rfl
theorem mth_9_47 {l : LP} : (UP l).gs.mth 9 47 = some 156 := rfl
theorem mth_9_38 {l : LP} : (UP l).gs.mth 9 38 = some 157 := rfl
theorem mth_9_136 {l : LP} : (UP l).gs.mth 9 136 = some 158 := rfl
theorem mth_9_137 {l : LP} : (UP l).gs.mth 9 137 = some 159 := rfl
theorem mth_9_39 {l : LP} : (UP l).gs.mth 9 39 = some 160 := rfl
theorem mth_10_135 {l : LP} : (UP l).gs.mth 10 135 = some 162 := rfl
theorem mth_10_134 {l : LP} : (UP l).gs.mth 10 134 = some 163 := rfl
theorem fok_0_2 {l : LP} : (UP l).gs.fok 0 2 = true := rfl
theorem fok_0_3 {l : LP} : (UP l).gs.fok 0 3 = true := rfl
theorem fok_0_4 {l : LP} : (UP l).gs.fok 0 4 = true := rfl
theorem fok_0_5 {l : LP} : (UP l).gs.fok 0 5 = true := rfl
theorem fok_1_15 {l : LP} : (UP l).gs.fok 1 15 = true := rfl
theorem fok_1_16 {l : LP} : (UP l).gs.fok 1 16 = true := rfl
theorem fok_2_17 {l : LP} : (UP l).gs.fok 2 17 = true := rfl
theorem fok_2_18 {l : LP} : (UP l).gs.fok 2 18 = true := rfl
theorem fok_3_29 {l : LP} : (UP l).gs.fok 3 29 = true := rfl
theorem fok_3_30 {l : LP} : (UP l).gs.fok 3 30 = true := rfl
theorem fok_3_31 {l : LP} : (UP l).gs.fok 3 31 = true := rfl
theorem fok_3_32 {l : LP} : (UP l).gs.fok 3 32 = true := rfl
theorem fok_3_33 {l : LP} : (UP l).gs.fok 3 33 = true := rfl
theorem fok_3_34 {l : LP} : (UP l).gs.fok 3 34 = true := rfl
theorem fok_3_35 {l : LP} : (UP l).gs.fok 3 35 = true := rfl
theorem fok_3_36 {l : LP} : (UP l).gs.fok 3 36 = true := rfl
theorem fok_4_29 {l : LP} : (UP l).gs.fok 4 29 = true := rfl
theorem fok_4_51 {l : LP} : (UP l).gs.fok 4 51 = true := rfl
theorem fok_4_52 {l : LP} : (UP l).gs.fok 4 52 = true := rfl
theorem fok_4_53 {l : LP} : (UP l).gs.fok 4 53 = true := rfl
theorem fok_4_17 {l : LP} : (UP l).gs.fok 4 17 = true := rfl
theorem fok_4_54 {l : LP} : (UP l).gs.fok 4 54 = true := rfl
theorem fok_4_3 {l : LP} : (UP l).gs.fok 4 3 = true := rfl
theorem fok_4_55 {l : LP} : (UP l).gs.fok 4 55 = true := rfl
theorem fok_4_56 {l : LP} : (UP l).gs.fok 4 56 = true := rfl
theorem fok_4_57 {l : LP} : (UP l).gs.fok 4 57 = true := rfl
theorem fok_4_58 {l : LP} : (UP l).gs.fok 4 58 = true := rfl
theorem fok_4_59 {l : LP} : (UP l).gs.fok 4 59 = true := rfl
theorem fok_5_51 {l : LP} : (UP l).gs.fok 5 51 = true := rfl
theorem fok_5_83 {l : LP} : (UP l).gs.fok 5 83 = true := rfl
theorem fok_5_57 {l : LP} : (UP l).gs.fok 5 57 = true := rfl
theorem fok_5_84 {l : LP} : (UP l).gs.fok 5 84 = true := rfl
theorem fok_6_91 {l : LP} : (UP l).gs.fok 6 91 = true := rfl
theorem fok_7_97 {l : LP} : (UP l).gs.fok 7 97 = true := rfl
theorem fok_8_51 {l : LP} : (UP l).gs.fok 8 51 = true := rfl
theorem fok_8_98 {l : LP} : (UP l).gs.fok 8 98 = true := rfl
theorem fok_8_99 {l : LP} : (UP l).gs.fok 8 99 = true := rfl
theorem fok_8_100 {l : LP} : (UP l).gs.fok 8 100 = true := rfl
theorem fok_8_101 {l : LP} : (UP l).gs.fok 8 101 = true := rfl
theorem fok_8_102 {l : LP} : (UP l).gs.fok 8 102 = true := rfl
theorem fok_8_103 {l : LP} : (UP l).gs.fok 8 103 = true := rfl
theorem fok_8_104 {l : LP} : (UP l).gs.fok 8 104 = true := rfl
theorem fok_8_105 {l : LP} : (UP l).gs.fok 8 105 = true := rfl
theorem fok_9_33 {l : LP} : (UP l).gs.fok 9 33 = true := rfl
theorem fok_9_30 {l : LP} : (UP l).gs.fok 9 30 = true := rfl
theorem fok_9_130 {l : LP} : (UP l).gs.fok 9 130 = true := rfl
theorem fok_9_131 {l : LP} : (UP l).gs.fok 9 131 = true := rfl
theorem fok_9_36 {l : LP} : (UP l).gs.fok 9 36 = true := rfl
theorem fok_9_132 {l : LP} : (UP l).gs.fok 9 132 = true := rfl
theorem fok_10_133 {l : LP} : (UP l).gs.fok 10 133 = true := rfl
theorem sub_0_0 {l : LP} : (UP l).gs.sub 0 0 = some true := rfl
theorem sub_0_1 {l : LP} : (UP l).gs.sub 0 1 = some false := rfl
theorem sub_0_2 {l : LP} : (UP l).gs.sub 0 2 = some false := rfl
theorem sub_0_3 {l : LP} : (UP l).gs.sub 0 3 = some false := rfl
theorem sub_0_4 {l : LP} : (UP l).gs.sub 0 4 = some false := rfl
theorem sub_0_5 {l : LP} : (UP l).gs.sub 0 5 = some false := rfl
theorem sub_0_6 {l : LP} : (UP l).gs.sub 0 6 = some false := rfl
theorem sub_1_0 {l : LP} : (UP l).gs.sub 1 0 = some true := rfl
theorem sub_1_1 {l : LP} : (UP l).gs.sub 1 1 = some true := rfl
theorem sub_1_2 {l : LP} : (UP l).gs.sub 1 2 = some false := rfl
theorem sub_1_3 {l : LP} : (UP l).gs.sub 1 3 = some false := rfl
theorem sub_1_4 {l : LP} : (UP l).gs.sub 1 4 = some false := rfl
theorem sub_1_5 {l : LP} : (UP l).gs.sub 1 5 = some false := rfl
theorem sub_1_6 {l : LP} : (UP l).gs.sub 1 6 = some false := rfl
theorem sub_2_0 {l : LP} : (UP l).gs.sub 2 0 = some true := rfl
theorem sub_2_1 {l : LP} : (UP l).gs.sub 2 1 = some false := rfl
theorem sub_2_2 {l : LP} : (UP l).gs.sub 2 2 = some true := rfl
theorem sub_2_3 {l : LP} : (UP l).gs.sub 2 3 = some false := rfl
theorem sub_2_4 {l : LP} : (UP l).gs.sub 2 4 = some false := rfl
theorem sub_2_5 {l : LP} : (UP l).gs.sub 2 5 = some false := rfl
theorem sub_2_6 {l : LP} : (UP l).gs.sub 2 6 = some false := rfl
theorem sub_3_0 {l : LP} : (UP l).gs.sub 3 0 = some true := rfl
theorem sub_3_1 {l : LP} : (UP l).gs.sub 3 1 = some false := rfl
theorem sub_3_2 {l : LP} : (UP l).gs.sub 3 2 = some false := rfl
theorem sub_3_3 {l : LP} : (UP l).gs.sub 3 3 = some true := rfl
theorem sub_3_4 {l : LP} : (UP l).gs.sub 3 4 = some false := rfl
theorem sub_3_5 {l : LP} : (UP l).gs.sub 3 5 = some false := rfl
theorem sub_3_6 {l : LP} : (UP l).gs.sub 3 6 = some false := rfl
theorem sub_4_0 {l : LP} : (UP l).gs.sub 4 0 = some true := rfl
theorem sub_4_1 {l : LP} : (UP l).gs.sub 4 1 = some false := rfl
theorem sub_4_2 {l : LP} : (UP l).gs.sub 4 2 = some false := rfl
theorem sub_4_3 {l : LP} : (UP l).gs.sub 4 3 = some false := rfl
theorem sub_4_4 {l : LP} : (UP l).gs.sub 4 4 = some true := rfl
theorem sub_4_5 {l : LP} : (UP l).gs.sub 4 5 = some false := rfl
theorem sub_4_6 {l : LP} : (UP l).gs.sub 4 6 = some false := rfl
theorem sub_5_0 {l : LP} : (UP l).gs.sub 5 0 = some true := rfl
theorem sub_5_1 {l : LP} : (UP l).gs.sub 5 1 = some false := rfl
theorem sub_5_2 {l : LP} : (UP l).gs.sub 5 2 = some false := rfl
theorem sub_5_3 {l : LP} : (UP l).gs.sub 5 3 = some false := rfl
theorem sub_5_4 {l : LP} : (UP l).gs.sub 5 4 = some false := rfl
theorem sub_5_5 {l : LP} : (UP l).gs.sub 5 5 = some true := rfl
theorem sub_5_6 {l : LP} : (UP l).gs.sub 5 6 = some false := rfl
theorem sub_6_0 {l : LP} : (UP l).gs.sub 6 0 = some true := rfl
theorem sub_6_1 {l : LP} : (UP l).gs.sub 6 1 = some false := rfl
theorem sub_6_2 {l : LP} : (UP l).gs.sub 6 2 = some false := rfl
theorem sub_6_3 {l : LP} : (UP l).gs.sub 6 3 = some false := rfl
theorem sub_6_4 {l : LP} : (UP l).gs.sub 6 4 = some false := rfl
theorem sub_6_5 {l : LP} : (UP l).gs.sub 6 5 = some false := rfl
theorem sub_6_6 {l : LP} : (UP l).gs.sub 6 6 = some true := rfl
end My

namespace My
open PySem PM L2
/-! law:_law_draws(script, start, most); slots: 0:script 1:start 2:most 3:draws 4:cell 5:number 6:mixed 7:k -/
def l1000_1_0 : MS := .asg (.nm 6) (.bin .mod (.bi .int [(.bin .add (.bin .mul (.var 5) (.lit (.int 44497))) (.lit (.int 41)))]) (.lit (.int 2147483647)))
def l1000_1_1 : MS := .ex (.mt .append (.var 3) [(.bin .add (.bin .mul (.var 6) (.lit (.int 2147483629))) (.bin .mod (.bi .int [(.bin .add (.bin .mul (.var 6) (.lit (.int 16807))) (.var 5))]) (.lit (.int 2147483629))))])
def l1000_1_2 : MS := .ex (.mt .append (.var 3) [(.bin .add (.bin .mul (.bin .mod (.bi .int [(.bin .add (.bin .add (.bin .mul (.var 6) (.lit (.int 69621))) (.bin .fdiv (.var 5) (.lit (.int 9)))) (.lit (.int 3)))]) (.lit (.int 2147483399))) (.lit (.int 7919))) (.bin .mod (.var 5) (.lit (.int 7919))))])
def m1000_1_2 : List MS := [l1000_1_2]
def m1000_1_1 : List MS := l1000_1_1 :: m1000_1_2
def l1000_1 : List MS := l1000_1_0 :: m1000_1_1
def l1000_3_0 : MS := .ite (.cmp .gt (.var 5) (.lit (.int 0))) [.ex (.mt .append (.var 3) [(.bin .mod (.bi .int [(.var 5)]) (.bin .pow (.lit (.int 10)) (.lit (.int 14))))])] []
def l1000_3_1 : MS := .asg (.nm 5) (.bin .fdiv (.var 5) (.bin .pow (.lit (.int 10)) (.lit (.int 14))))
def m1000_3_1 : List MS := [l1000_3_1]
def l1000_3 : List MS := l1000_3_0 :: m1000_3_1
def l1000_2_0 : MS := .fr (.nm 7) .range [(.lit (.int 12))] l1000_3
def l1000_2 : List MS := [l1000_2_0]
def l1000_0_0 : MS := .asg (.nm 5) (.bi .abs [(.bi .int [(.var 4)])])
def l1000_0_1 : MS := .ite (.cmp .lt (.var 5) (.bin .pow (.lit (.int 10)) (.lit (.int 18)))) l1000_1 l1000_2
def m1000_0_1 : List MS := [l1000_0_1]
def l1000_0 : List MS := l1000_0_0 :: m1000_0_1
def b1000_0 : MS := .asg (.nm 3) (.lst [])
def b1000_1 : MS := .fr (.nm 4) .seq [(.sl (.var 0) [(.var 1)] [])] l1000_0
def b1000_2 : MS := .ret (.sl (.var 3) [] [(.var 2)])
def t1000_2 : List MS := [b1000_2]
def t1000_1 : List MS := b1000_1 :: t1000_2
def b1000 : List MS := b1000_0 :: t1000_1
def d1000 : MD := ⟨3, 8, b1000⟩
/-! law:_law_clock(number, count); slots: 0:number 1:count 2:pairs 3:k 4:counted 5:version -/
def l1001_0_0 : MS := .asg (.nm 4) (.bin .mod (.bin .fdiv (.var 0) (.lit (.int 4))) (.lit (.int 7)))
def l1001_0_1 : MS := .asg (.nm 5) (.bin .mod (.var 0) (.lit (.int 4)))
def l1001_0_2 : MS := .ite (.cmp .eq (.var 4) (.lit (.int 0))) [.asg (.nm 5) (.lit (.int 0))] []
def l1001_0_3 : MS := .ex (.mt .append (.var 2) [(.tup [(.var 5), (.var 4)])])
def l1001_0_4 : MS := .asg (.nm 0) (.bin .fdiv (.var 0) (.lit (.int 28)))
def m1001_0_4 : List MS := [l1001_0_4]
def m1001_0_3 : List MS := l1001_0_3 :: m1001_0_4
def m1001_0_2 : List MS := l1001_0_2 :: m1001_0_3
def m1001_0_1 : List MS := l1001_0_1 :: m1001_0_2
def l1001_0 : List MS := l1001_0_0 :: m1001_0_1
def b1001_0 : MS := .asg (.nm 2) (.lst [])
def b1001_1 : MS := .fr (.nm 3) .range [(.var 1)] l1001_0
def b1001_2 : MS := .ret (.bi .tuple [(.var 2)])
def t1001_2 : List MS := [b1001_2]
def t1001_1 : List MS := b1001_1 :: t1001_2
def b1001 : List MS := b1001_0 :: t1001_1
def d1001 : MD := ⟨2, 6, b1001⟩
/-! law:_law_dead_pair(row, pair); slots: 0:row 1:pair 2:k -/
def b1002_0 : MS := .ret (.cmp .gt (.bi .len [(.lc .range [(.bi .len [(.var 0)])] [2] (.nm 2) [(.bool true [(.cmp .ge (.var 2) (.ix (.var 1) (.lit (.int 0)))), (.cmp .lt (.ix (.var 0) (.var 2)) (.ix (.var 1) (.lit (.int 1))))])] (.var 2))]) (.lit (.int 0)))
def b1002 : List MS := [b1002_0]
def d1002 : MD := ⟨2, 3, b1002⟩
/-! law:_law_dead(rows, clock); slots: 0:rows 1:clock 2:p -/
def b1003_0 : MS := .ret (.cmp .gt (.bi .len [(.lc .range [(.bi .len [(.var 1)])] [2] (.nm 2) [(.call 1002 [(.ix (.var 0) (.var 2)), (.ix (.var 1) (.var 2))])] (.var 2))]) (.lit (.int 0)))
def b1003 : List MS := [b1003_0]
def d1003 : MD := ⟨2, 3, b1003⟩
/-! law:_law_firm(rows, told, clock); slots: 0:rows 1:told 2:clock 3:p 4:version 5:counted 6:other 7:stays -/
def l1004_0_0 : MS := .asg (.tp [4, 5]) (.ix (.var 2) (.var 3))
def l1004_0_1 : MS := .asg (.tp [6, 7]) (.bi .max1 [(.bin .add (.lst [(.tup [(.lit (.int 0)), (.lit (.int 0))])]) (.ix (.var 1) (.var 3)))])
def l1004_0_2 : MS := .ite (.cmp .eq (.var 5) (.lit (.int 0))) [.cnt] []
def l1004_0_3 : MS := .ite (.bool false [(.cmp .lt (.var 6) (.var 4)), (.bool true [(.cmp .eq (.var 6) (.var 4)), (.cmp .gt (.var 5) (.var 7))])]) [.ret (.lit (.bl false))] []
def l1004_0_4 : MS := .ite (.bool true [(.cmp .gt (.var 6) (.var 4)), (.bool false [(.cmp .lt (.bi .len [(.ix (.var 0) (.var 3))]) (.var 6)), (.call 1002 [(.ix (.var 0) (.var 3)), (.ix (.var 2) (.var 3))])])]) [.ret (.lit (.bl false))] []
def m1004_0_4 : List MS := [l1004_0_4]
def m1004_0_3 : List MS := l1004_0_3 :: m1004_0_4
def m1004_0_2 : List MS := l1004_0_2 :: m1004_0_3
def m1004_0_1 : List MS := l1004_0_1 :: m1004_0_2
def l1004_0 : List MS := l1004_0_0 :: m1004_0_1
def b1004_0 : MS := .fr (.nm 3) .range [(.bi .len [(.var 2)])] l1004_0
def b1004_1 : MS := .ret (.lit (.bl true))
def t1004_1 : List MS := [b1004_1]
def b1004 : List MS := b1004_0 :: t1004_1
def d1004 : MD := ⟨3, 8, b1004⟩
/-! law:_law_is(actual, expected); slots: 0:actual 1:expected -/
def b1005_0 : MS := .ret (.bool true [(.ist (.var 0) .bool), (.cmp .eq (.var 0) (.var 1))])
def b1005 : List MS := [b1005_0]
def d1005 : MD := ⟨2, 2, b1005⟩
/-! law:law(script); slots: 0:script 1:count 2:ends 3:firm 4:rows 5:told 6:draw 7:process 8:kind 9:rest 10:one 11:other 12:merged 13:clock 14:handed 15:k 16:version 17:ready 18:pair 19:p -/
def l1006_1_0 : MS := .asg (.nm 16) (.bi .max2 [(.lit (.int 0)), (.bin .add (.bi .len [(.ix (.var 4) (.var 7))]) (.ix (.lst [(.lit (.int 0)), (.lit (.int 0)), (.lit (.int 0)), (.lit (.int 1)), (.neg (.lit (.int 1)))]) (.bin .mod (.var 9) (.lit (.int 5)))))])
def l1006_1_1 : MS := .ite (.not (.call 1005 [(.meth (.var 2) 24 [(.var 7), (.var 16), (.bin .mod (.bin .fdiv (.var 9) (.lit (.int 5))) (.lit (.int 7)))]), (.cmp .eq (.var 16) (.bi .len [(.ix (.var 4) (.var 7))]))])) [.ret (.lit (.bl false))] []
def l1006_1_2 : MS := .ite (.cmp .eq (.var 16) (.bi .len [(.ix (.var 4) (.var 7))])) [.sub (.var 4) (.var 7) (.bin .add (.ix (.var 4) (.var 7)) (.lst [(.bin .mod (.bin .fdiv (.var 9) (.lit (.int 5))) (.lit (.int 7)))]))] []
def m1006_1_2 : List MS := [l1006_1_2]
def m1006_1_1 : List MS := l1006_1_1 :: m1006_1_2
def l1006_1 : List MS := l1006_1_0 :: m1006_1_1
def l1006_2_0 : MS := .asg (.nm 18) (.tup [(.bin .mod (.var 9) (.lit (.int 4))), (.bin .mod (.bin .fdiv (.var 9) (.lit (.int 4))) (.lit (.int 7)))])
def l1006_2_1 : MS := .ite (.cmp .nis (.meth (.var 3) 25 [(.var 7), (.ix (.var 18) (.lit (.int 0))), (.ix (.var 18) (.lit (.int 1)))]) (.lit .non)) [.ret (.lit (.bl false))] []
def l1006_2_2 : MS := .sub (.var 5) (.var 7) (.bin .add (.ix (.var 5) (.var 7)) (.lst [(.var 18)]))
def m1006_2_2 : List MS := [l1006_2_2]
def m1006_2_1 : List MS := l1006_2_1 :: m1006_2_2
def l1006_2 : List MS := l1006_2_0 :: m1006_2_1
def l1006_3_0 : MS := .asg (.nm 17) (.cmp .eq (.bi .len [(.lc .range [(.var 1)] [19] (.nm 19) [(.cmp .gt (.ix (.ix (.var 13) (.var 19)) (.lit (.int 0))) (.bi .len [(.ix (.var 4) (.var 19))]))] (.var 19))]) (.lit (.int 0)))
def l1006_3_1 : MS := .ite (.bool false [(.not (.call 1005 [(.meth (.var 2) 27 [(.var 13)]), (.call 1003 [(.var 4), (.var 13)])])), (.not (.call 1005 [(.meth (.var 2) 28 [(.var 13)]), (.var 17)]))]) [.ret (.lit (.bl false))] []
def l1006_3_2 : MS := .ite (.not (.call 1005 [(.meth (.var 3) 26 [(.var 13)]), (.call 1004 [(.var 4), (.var 5), (.var 13)])])) [.ret (.lit (.bl false))] []
def m1006_3_2 : List MS := [l1006_3_2]
def m1006_3_1 : List MS := l1006_3_1 :: m1006_3_2
def l1006_3 : List MS := l1006_3_0 :: m1006_3_1
def l1006_0_0 : MS := .asg (.nm 7) (.bin .mod (.var 6) (.var 1))
def l1006_0_1 : MS := .asg (.nm 8) (.bin .mod (.bin .fdiv (.var 6) (.lit (.int 4))) (.lit (.int 4)))
def l1006_0_2 : MS := .asg (.nm 9) (.bin .fdiv (.var 6) (.lit (.int 16)))
def l1006_0_3 : MS := .ite (.cmp .eq (.var 8) (.lit (.int 0))) l1006_1 [.ite (.cmp .eq (.var 8) (.lit (.int 1))) l1006_2 []]
def l1006_0_4 : MS := .asg (.nm 10) (.call 1001 [(.bin .fdiv (.var 9) (.lit (.int 3))), (.var 1)])
def l1006_0_5 : MS := .asg (.nm 11) (.call 1001 [(.bin .fdiv (.var 9) (.lit (.int 1000))), (.var 1)])
def l1006_0_6 : MS := .asg (.nm 12) (.call 47 [(.var 10), (.var 11)])
def l1006_0_7 : MS := .ite (.bool false [(.not (.ist (.var 12) .tuple)), (.cmp .ne (.var 12) (.bi .tuple [(.lc .range [(.var 1)] [15] (.nm 15) [] (.bi .max2 [(.ix (.var 10) (.var 15)), (.ix (.var 11) (.var 15))]))]))]) [.ret (.lit (.bl false))] []
def l1006_0_8 : MS := .fr (.nm 13) .seq [(.lst [(.var 10), (.var 11), (.call 14 [(.var 1)])])] l1006_3
def l1006_0_9 : MS := .asg (.nm 14) (.meth (.var 2) 20 [(.var 7)])
def l1006_0_10 : MS := .ite (.bool false [(.not (.ist (.var 14) .list)), (.cmp .ne (.var 14) (.ix (.var 4) (.var 7))), (.cmp .ne (.meth (.var 2) 21 [(.var 7)]) (.bi .len [(.ix (.var 4) (.var 7))]))]) [.ret (.lit (.bl false))] []
def l1006_0_11 : MS := .ex (.mt .append (.var 14) [(.lit (.int 0))])
def m1006_0_11 : List MS := [l1006_0_11]
def m1006_0_10 : List MS := l1006_0_10 :: m1006_0_11
def m1006_0_9 : List MS := l1006_0_9 :: m1006_0_10
def m1006_0_8 : List MS := l1006_0_8 :: m1006_0_9
def m1006_0_7 : List MS := l1006_0_7 :: m1006_0_8
def m1006_0_6 : List MS := l1006_0_6 :: m1006_0_7
def m1006_0_5 : List MS := l1006_0_5 :: m1006_0_6
def m1006_0_4 : List MS := l1006_0_4 :: m1006_0_5
def m1006_0_3 : List MS := l1006_0_3 :: m1006_0_4
def m1006_0_2 : List MS := l1006_0_2 :: m1006_0_3
def m1006_0_1 : List MS := l1006_0_1 :: m1006_0_2
def l1006_0 : List MS := l1006_0_0 :: m1006_0_1
def b1006_0 : MS := .asg (.nm 1) (.ix (.lst [(.lit (.int 1)), (.lit (.int 2)), (.lit (.int 3)), (.lit (.int 4)), (.lit (.int 2)), (.lit (.int 3)), (.lit (.int 4)), (.lit (.int 10))]) (.bin .mod (.bi .int [(.bin .add (.bi .len [(.var 0)]) (.ifx (.cmp .gt (.bi .len [(.var 0)]) (.lit (.int 0))) (.ix (.var 0) (.lit (.int 0))) (.lit (.int 0))))]) (.lit (.int 8))))
def b1006_1 : MS := .asg (.nm 2) (.make 1 [(.var 1)])
def b1006_2 : MS := .asg (.nm 3) (.make 2 [(.var 1), (.var 2)])
def b1006_3 : MS := .asg (.nm 4) (.lc .range [(.var 1)] [15] (.nm 15) [] (.lst []))
def b1006_4 : MS := .asg (.nm 5) (.lc .range [(.var 1)] [15] (.nm 15) [] (.lst []))
def b1006_5 : MS := .ite (.cmp .ne (.call 14 [(.var 1)]) (.bi .tuple [(.lc .range [(.var 1)] [15] (.nm 15) [] (.tup [(.lit (.int 0)), (.lit (.int 0))]))])) [.ret (.lit (.bl false))] []
def b1006_6 : MS := .fr (.nm 6) .seq [(.call 1000 [(.var 0), (.lit (.int 0)), (.lit (.int 60))])] l1006_0
def b1006_7 : MS := .ret (.lit (.bl true))
def t1006_7 : List MS := [b1006_7]
def t1006_6 : List MS := b1006_6 :: t1006_7
def t1006_5 : List MS := b1006_5 :: t1006_6
def t1006_4 : List MS := b1006_4 :: t1006_5
def t1006_3 : List MS := b1006_3 :: t1006_4
def t1006_2 : List MS := b1006_2 :: t1006_3
def t1006_1 : List MS := b1006_1 :: t1006_2
def b1006 : List MS := b1006_0 :: t1006_1
def d1006 : MD := ⟨1, 20, b1006⟩
def lds : Nat → Option MD
  | 1000 => some d1000
  | 1001 => some d1001
  | 1002 => some d1002
  | 1003 => some d1003
  | 1004 => some d1004
  | 1005 => some d1005
  | 1006 => some d1006
  | _ => none
def lcn : Nat → Str
  | _ => Str.empty
def ldk : Nat → Bool
  | _ => false
def lp : LP := ⟨lds, lcn, ldk⟩
theorem u1000 {x0 x1 x2 : Val} {n : Nat} {S : Sto} {Q : VQ} {E : XQ} : callN (UP lp) (n + 1) 1000 [x0, x1, x2] S Q E = wpSs (cenv (UP lp) n) b1000 (endsOf Q E) [some x0, some x1, some x2, none, none, none, none, none] S := propext ⟨And.right, fun h => ⟨rfl, h⟩⟩
theorem u1001 {x0 x1 : Val} {n : Nat} {S : Sto} {Q : VQ} {E : XQ} : callN (UP lp) (n + 1) 1001 [x0, x1] S Q E = wpSs (cenv (UP lp) n) b1001 (endsOf Q E) [some x0, some x1, none, none, none, none] S := propext ⟨And.right, fun h => ⟨rfl, h⟩⟩
theorem u1002 {x0 x1 : Val} {n : Nat} {S : Sto} {Q : VQ} {E : XQ} : callN (UP lp) (n + 1) 1002 [x0, x1] S Q E = wpSs (cenv (UP lp) n) b1002 (endsOf Q E) [some x0, some x1, none] S := propext ⟨And.right, fun h => ⟨rfl, h⟩⟩
theorem u1003 {x0 x1 : Val} {n : Nat} {S : Sto} {Q : VQ} {E : XQ} : callN (UP lp) (n + 1) 1003 [x0, x1] S Q E = wpSs (cenv (UP lp) n) b1003 (endsOf Q E) [some x0, some x1, none] S := propext ⟨And.right, fun h => ⟨rfl, h⟩⟩
theorem u1004 {x0 x1 x2 : Val} {n : Nat} {S : Sto} {Q : VQ} {E : XQ} : callN (UP lp) (n + 1) 1004 [x0, x1, x2] S Q E = wpSs (cenv (UP lp) n) b1004 (endsOf Q E) [some x0, some x1, some x2, none, none, none, none, none] S := propext ⟨And.right, fun h => ⟨rfl, h⟩⟩
theorem u1005 {x0 x1 : Val} {n : Nat} {S : Sto} {Q : VQ} {E : XQ} : callN (UP lp) (n + 1) 1005 [x0, x1] S Q E = wpSs (cenv (UP lp) n) b1005 (endsOf Q E) [some x0, some x1] S := propext ⟨And.right, fun h => ⟨rfl, h⟩⟩
theorem u1006 {x0 : Val} {n : Nat} {S : Sto} {Q : VQ} {E : XQ} : callN (UP lp) (n + 1) 1006 [x0] S Q E = wpSs (cenv (UP lp) n) b1006 (endsOf Q E) [some x0, none, none, none, none, none, none, none, none, none, none, none, none, none, none, none, none, none, none, none] S := propext ⟨And.right, fun h => ⟨rfl, h⟩⟩
end My

namespace My
open PySem PM
variable {l : LP}
/-! ### the ends of versions, what is firm -/
def LeastOf (row L : List Int) : Prop := L.length = row.length ∧ ∀ v, v < row.length → ∀ x : Int, decide (L.getD v 0 < x) = (row.drop v).any fun r => decide (r < x)
def deadP (row : List Int) (pr : Int × Int) : Bool := (row.drop pr.1.toNat).any fun r => decide (r < pr.2)
theorem LeastOf.nil : LeastOf [] [] := ⟨rfl, fun v h => by simp at h⟩
theorem LeastOf.add {row L : List Int} (h : LeastOf row L) (s : Int) : LeastOf (row ++ [s]) (L.map (fun x => if s < x then s else x) ++ [s]) := by
  refine ⟨by simp [h.1], fun v hv x => ?_⟩
  have hl := h.1
  simp only [List.length_append, List.length_cons, List.length_nil] at hv
  by_cases e : v < row.length
  · have h1 := h.2 v e x
    rw [List.drop_append_of_le_length (by omega), List.any_append, ← h1]
    have e2 : (L.map (fun x => if s < x then s else x) ++ [s]).getD v 0 = if s < L.getD v 0 then s else L.getD v 0 := by
      simp only [List.getD_eq_getElem?_getD]
      rw [List.getElem?_append_left (by simp; omega)]
      simp only [List.getElem?_map]
      rw [List.getElem?_eq_getElem (by omega)]
      rfl
    rw [e2]
    simp only [List.any_cons, List.any_nil, Bool.or_false]
    by_cases a : s < L.getD v 0 <;> by_cases b : s < x <;> by_cases c : L.getD v 0 < x <;> simp [a, b, c] <;> omega
  · have : v = row.length := by omega
    subst this
    have e2 : (L.map (fun x => if s < x then s else x) ++ [s]).getD row.length 0 = s := by
      rw [List.getD_eq_getElem?_getD, List.getElem?_append_right (by simp; omega)]
      simp [hl]
    rw [e2]
    simp
structure EndsAt (S : Sto) (o d1 d2 c : Nat) (R : Nat → List Int) : Prop where
  obj : S[o]? = some (.ins 1 [(15, .loc d1), (16, .loc d2)])
  ne : d1 ≠ d2
  rows : ∃ g, S[d1]? = some (.dK (rngK c g)) ∧ ∀ p, p < c → ∃ m, g p = .loc m ∧ S[m]? = some (.lst ((R p).map Val.int))
  least : ∃ g, S[d2]? = some (.dK (rngK c g)) ∧ ∀ p, p < c → ∃ m L, g p = .loc m ∧ S[m]? = some (.lst (L.map Val.int)) ∧ LeastOf (R p) L
theorem EndsAt.subX {S S' : Sto} {o d1 d2 c : Nat} {R : Nat → List Int} {w : List Nat} (h : EndsAt S o d1 d2 c R) (s : SubX w S S') (hw : ∀ x ∈ w, x ≠ o ∧ x ≠ d1 ∧ x ≠ d2 ∧ ∀ L : List Int, S[x]? ≠ some (.lst (L.map Val.int))) : EndsAt S' o d1 d2 c R := by
  obtain ⟨g, h1, h2⟩ := h.rows
  obtain ⟨f, h3, h4⟩ := h.least
  have no : ∀ m (L : List Int), S[m]? = some (.lst (L.map Val.int)) → m ∉ w := fun m L e z => (hw m z).2.2.2 L e
  refine ⟨s _ _ (fun z => (hw o z).1 rfl) h.obj, h.ne, ⟨g, s _ _ (fun z => (hw d1 z).2.1 rfl) h1, fun p hp => ?_⟩, ⟨f, s _ _ (fun z => (hw d2 z).2.2.1 rfl) h3, fun p hp => ?_⟩⟩
  · obtain ⟨m, e, q⟩ := h2 p hp
    exact ⟨m, e, s _ _ (no m _ q) q⟩
  · obtain ⟨m, L, e, q, r⟩ := h4 p hp
    exact ⟨m, L, e, s _ _ (no m _ q) q, r⟩
theorem EndsAt.sub {S S' : Sto} {o d1 d2 c : Nat} {R : Nat → List Int} (h : EndsAt S o d1 d2 c R) (s : Sub S S') : EndsAt S' o d1 d2 c R := h.subX (w := []) s.toX (fun x hx => by cases hx)
theorem EndsAt.congr {S : Sto} {o d1 d2 c : Nat} {R R' : Nat → List Int} (h : EndsAt S o d1 d2 c R) (e : ∀ p, p < c → R p = R' p) : EndsAt S o d1 d2 c R' := by
  obtain ⟨g, h1, h2⟩ := h.rows
  obtain ⟨f, h3, h4⟩ := h.least
  exact ⟨h.obj, h.ne, ⟨g, h1, fun p hp => by rw [← e p hp]; exact h2 p hp⟩, ⟨f, h3, fun p hp => by rw [← e p hp]; exact h4 p hp⟩⟩
theorem dk_of {S : Sto} {n : Nat} {kvs : List (L2.Key × Val)} (h : S[n]? = some (.dK kvs)) : dkAt S n = some kvs := by simp only [dkAt, h]
theorem key_nat {p : Nat} : keyOf (.int (p : Int)) = some (.inl (p : Int)) := rfl
theorem c14 {c n : Nat} {S : Sto} {Q : VQ} {E : XQ} (h1 : 1 ≤ c) (h2 : c ≤ 1000) (k : Q (.tup ((List.replicate c (0, 0)).map pV)) S) : callN (UP l) (n + 1) 14 [.int (c : Nat)] S Q E := by
  have e : (List.replicate c [Val.tup [.int 0, .int 0]]).flatten = (List.replicate c ((0 : Int), (0 : Int))).map pV := by
    clear h1 h2 k
    induction c with
    | zero => rfl
    | succ c ih => rw [List.replicate_succ, List.replicate_succ, List.flatten_cons, ih]; rfl
  rw [u14]
  simp only [b14_0, b14, ↓nE1, ↓nE2, ↓nE3, ↓nE4, ↓nE5, ↓nE6, ↓nE7, ↓nE8, ↓nE9, ↓nE10, ↓nE11, ↓nE12, ↓nE13, ↓nE14, ↓nE15, ↓nE16, ↓nE17, ↓nE18, ↓nE19, ↓nE20, ↓nE21, ↓nE22, ↓nE23, ↓nE24, ↓nE25, ↓nE26, ↓nE27, ↓nE28, ↓nE29, ↓nE30, ↓nS1, ↓nS2, ↓nS3, ↓nS4, ↓nS5, ↓nS6, ↓nS7, ↓nS8, ↓nS9, ↓nS10, ↓nS11, ↓nS12, ↓nS13, ↓nS14, ↓nS15, ↓nS16, ↓nS17, ↓nS18, ↓nS19, ↓nS20, ↓nSs1, ↓nSs2, ↓nEs1, ↓nEs2, ↓nB1, ↓nB2, ↓nB3, ↓nA1, ↓nA2, ↓nA3, ↓nT1, ↓reduceIte, bnm, btp, setAll, wipeL, endsOf, getz, gets, setz, sets, lenc, lenn, v_add, v_sub, v_mul, v_fdiv, v_mod, v_pow, v_adds, v_addt, v_mult, v_muls, v_addl, v_eq, v_ne, v_lt, v_le, v_gt, v_ge, v_is, v_nis, v_isb, v_nisb, v_les, v_in, v_nin, t_non, t_bl, t_int, t_str, t_tup, t_loc, b_lens, b_lent, b_lenl, b_int, b_intb, b_abs, b_min, b_max, b_str, b_strs, b_tupt, b_tupl, b_lstt, b_lstl, b_all, b_any, b_ord, r_append, r_extend, r_pop, r_pop1, r_reverse, r_get1, r_get2, r_setd, m_app, m_ext, m_pop, m_pop1, m_rev, m_get1, m_get2, f_get, f_set, f_mth, r_str, m_starts, m_split, m_rstrp, m_rmpre, m_isasc, m_isdig, Int.toNat_natCast, e]
  exact ⟨⟨by simp, by omega, by omega, by decide⟩, k⟩
theorem b_maxp {S : Sto} {p q : Int × Int} {Q : VQ} : biS .max2 [pV p, pV q] S Q = Q (pV (if pltB p q = true then q else p)) S := by simp only [pV, biS]
def pmx (p q : Int × Int) : Int × Int := if pltB p q = true then q else p
theorem c47 {n : Nat} {S : Sto} {Q : VQ} {E : XQ} {as bs : List (Int × Int)} (hb : as.length ≤ 1000) (k : ∀ S', Sub S S' → Q (.tup ((as.zip bs).map fun p => pV (pmx p.1 p.2))) S') : callN (UP l) (n + 1) 47 [.tup (as.map pV), .tup (bs.map pV)] S Q E := by
  rw [u47]
  simp only [b47, b47_0, ↓nE1, ↓nE2, ↓nE3, ↓nE4, ↓nE5, ↓nE6, ↓nE7, ↓nE8, ↓nE9, ↓nE10, ↓nE11, ↓nE12, ↓nE13, ↓nE14, ↓nE15, ↓nE16, ↓nE17, ↓nE18, ↓nE19, ↓nE20, ↓nE21, ↓nE22, ↓nE23, ↓nE24, ↓nE25, ↓nE26, ↓nE27, ↓nE28, ↓nE29, ↓nE30, ↓nS1, ↓nS2, ↓nS3, ↓nS4, ↓nS5, ↓nS6, ↓nS7, ↓nS8, ↓nS9, ↓nS10, ↓nS11, ↓nS12, ↓nS13, ↓nS14, ↓nS15, ↓nS16, ↓nS17, ↓nS18, ↓nS19, ↓nS20, ↓nSs1, ↓nSs2, ↓nEs1, ↓nEs2, ↓nB1, ↓nB2, ↓nB3, ↓nA1, ↓nA2, ↓nA3, ↓nT1, ↓reduceIte, bnm, btp, setAll, wipeL, endsOf, getz, gets, setz, sets, lenc, lenn, v_add, v_sub, v_mul, v_fdiv, v_mod, v_pow, v_adds, v_addt, v_mult, v_muls, v_addl, v_eq, v_ne, v_lt, v_le, v_gt, v_ge, v_is, v_nis, v_isb, v_nisb, v_les, v_in, v_nin, t_non, t_bl, t_int, t_str, t_tup, t_loc, b_lens, b_lent, b_lenl, b_int, b_intb, b_abs, b_min, b_max, b_str, b_strs, b_tupt, b_tupl, b_lstt, b_lstl, b_all, b_any, b_ord, r_append, r_extend, r_pop, r_pop1, r_reverse, r_get1, r_get2, r_setd, m_app, m_ext, m_pop, m_pop1, m_rev, m_get1, m_get2, f_get, f_set, f_mth, r_str, m_starts, m_split, m_rstrp, m_rmpre, m_isasc, m_isdig, itS]
  refine lc_sub (fun v => match v with | .tup [.tup [.int a, .int b], .tup [.int c, .int d]] => some (pV (pmx (a, b) (c, d))) | _ => none) trivial (by simp [big]; omega) (fun x hx S2 K s2 k2 => ?_) fun S' s' h' => ?_
  · obtain ⟨⟨u, v⟩, hz, rfl⟩ := List.mem_map.mp hx
    obtain ⟨hu, hv⟩ := List.of_mem_zip hz
    obtain ⟨p, _, rfl⟩ := List.mem_map.mp hu
    obtain ⟨q, _, rfl⟩ := List.mem_map.mp hv
    simp only [↓nE1, ↓nE2, ↓nE3, ↓nE4, ↓nE5, ↓nE6, ↓nE7, ↓nE8, ↓nE9, ↓nE10, ↓nE11, ↓nE12, ↓nE13, ↓nE14, ↓nE15, ↓nE16, ↓nE17, ↓nE18, ↓nE19, ↓nE20, ↓nE21, ↓nE22, ↓nE23, ↓nE24, ↓nE25, ↓nE26, ↓nE27, ↓nE28, ↓nE29, ↓nE30, ↓nS1, ↓nS2, ↓nS3, ↓nS4, ↓nS5, ↓nS6, ↓nS7, ↓nS8, ↓nS9, ↓nS10, ↓nS11, ↓nS12, ↓nS13, ↓nS14, ↓nS15, ↓nS16, ↓nS17, ↓nS18, ↓nS19, ↓nS20, ↓nSs1, ↓nSs2, ↓nEs1, ↓nEs2, ↓nB1, ↓nB2, ↓nB3, ↓nA1, ↓nA2, ↓nA3, ↓nT1, ↓reduceIte, bnm, btp, setAll, wipeL, endsOf, getz, gets, setz, sets, lenc, lenn, v_add, v_sub, v_mul, v_fdiv, v_mod, v_pow, v_adds, v_addt, v_mult, v_muls, v_addl, v_eq, v_ne, v_lt, v_le, v_gt, v_ge, v_is, v_nis, v_isb, v_nisb, v_les, v_in, v_nin, t_non, t_bl, t_int, t_str, t_tup, t_loc, b_lens, b_lent, b_lenl, b_int, b_intb, b_abs, b_min, b_max, b_str, b_strs, b_tupt, b_tupl, b_lstt, b_lstl, b_all, b_any, b_ord, r_append, r_extend, r_pop, r_pop1, r_reverse, r_get1, r_get2, r_setd, m_app, m_ext, m_pop, m_pop1, m_rev, m_get1, m_get2, f_get, f_set, f_mth, r_str, m_starts, m_split, m_rstrp, m_rmpre, m_isasc, m_isdig, b_maxp, true_and]
    exact k2 S2 Sub.refl
  · have e : (((as.map pV).zip (bs.map pV)).map fun p => Val.tup [p.1, p.2]).filterMap (fun v => match v with | .tup [.tup [.int a, .int b], .tup [.int c, .int d]] => some (pV (pmx (a, b) (c, d))) | _ => none) = (as.zip bs).map fun p => pV (pmx p.1 p.2) := by
      rw [List.zip_map, List.map_map, List.filterMap_map]
      rw [← List.filterMap_eq_map]
      rfl
    rw [e] at h'
    simp only [↓nE1, ↓nE2, ↓nE3, ↓nE4, ↓nE5, ↓nE6, ↓nE7, ↓nE8, ↓nE9, ↓nE10, ↓nE11, ↓nE12, ↓nE13, ↓nE14, ↓nE15, ↓nE16, ↓nE17, ↓nE18, ↓nE19, ↓nE20, ↓nE21, ↓nE22, ↓nE23, ↓nE24, ↓nE25, ↓nE26, ↓nE27, ↓nE28, ↓nE29, ↓nE30, ↓nS1, ↓nS2, ↓nS3, ↓nS4, ↓nS5, ↓nS6, ↓nS7, ↓nS8, ↓nS9, ↓nS10, ↓nS11, ↓nS12, ↓nS13, ↓nS14, ↓nS15, ↓nS16, ↓nS17, ↓nS18, ↓nS19, ↓nS20, ↓nSs1, ↓nSs2, ↓nEs1, ↓nEs2, ↓nB1, ↓nB2, ↓nB3, ↓nA1, ↓nA2, ↓nA3, ↓nT1, ↓reduceIte, bnm, btp, setAll, wipeL, endsOf, getz, gets, setz, sets, lenc, lenn, v_add, v_sub, v_mul, v_fdiv, v_mod, v_pow, v_adds, v_addt, v_mult, v_muls, v_addl, v_eq, v_ne, v_lt, v_le, v_gt, v_ge, v_is, v_nis, v_isb, v_nisb, v_les, v_in, v_nin, t_non, t_bl, t_int, t_str, t_tup, t_loc, b_lens, b_lent, b_lenl, b_int, b_intb, b_abs, b_min, b_max, b_str, b_strs, b_tupt, b_tupl, b_lstt, b_lstl, b_all, b_any, b_ord, r_append, r_extend, r_pop, r_pop1, r_reverse, r_get1, r_get2, r_setd, m_app, m_ext, m_pop, m_pop1, m_rev, m_get1, m_get2, f_get, f_set, f_mth, r_str, m_starts, m_split, m_rstrp, m_rmpre, m_isasc, m_isdig, b_tupl (n_of h')]
    exact k S' s'
section
variable {o d1 d2 c n : Nat} {R : Nat → List Int} {S : Sto} {Q : VQ} {E : XQ}
/-- an item of the rows, of the least counts, with a default that is not asked -/
theorem EndsAt.row (h : EndsAt S o d1 d2 c R) {p : Nat} (hp : p < c) : ∃ m g, S[d1]? = some (.dK (rngK c g)) ∧ getK (rngK c g) (.inl (p : Int)) = some (.loc m) ∧ S[m]? = some (.lst ((R p).map Val.int)) := by
  obtain ⟨g, h1, h2⟩ := h.rows
  obtain ⟨m, e, q⟩ := h2 p hp
  exact ⟨m, g, h1, by rw [getK_rng hp, e], q⟩
theorem EndsAt.lst (h : EndsAt S o d1 d2 c R) {p : Nat} (hp : p < c) : ∃ m g L, S[d2]? = some (.dK (rngK c g)) ∧ getK (rngK c g) (.inl (p : Int)) = some (.loc m) ∧ S[m]? = some (.lst (L.map Val.int)) ∧ LeastOf (R p) L := by
  obtain ⟨g, h1, h2⟩ := h.least
  obtain ⟨m, L, e, q, r⟩ := h2 p hp
  exact ⟨m, g, L, h1, by rw [getK_rng hp, e], q, r⟩
theorem c36 {p : Nat} (h : EndsAt S o d1 d2 c R) (hp : p < c) (k : ∀ S', Sub S S' → Q (.int (R p).length) S') : callN (UP l) (n + 1) 36 [.loc o, .int (p : Int)] S Q E := by
  obtain ⟨m, g, h1, h2, h3⟩ := h.row hp
  have s : Sub S (S ++ [SObj.lst []]) := Sub.app
  rw [u36]
  simp only [b36_0, b36, ↓nE1, ↓nE2, ↓nE3, ↓nE4, ↓nE5, ↓nE6, ↓nE7, ↓nE8, ↓nE9, ↓nE10, ↓nE11, ↓nE12, ↓nE13, ↓nE14, ↓nE15, ↓nE16, ↓nE17, ↓nE18, ↓nE19, ↓nE20, ↓nE21, ↓nE22, ↓nE23, ↓nE24, ↓nE25, ↓nE26, ↓nE27, ↓nE28, ↓nE29, ↓nE30, ↓nS1, ↓nS2, ↓nS3, ↓nS4, ↓nS5, ↓nS6, ↓nS7, ↓nS8, ↓nS9, ↓nS10, ↓nS11, ↓nS12, ↓nS13, ↓nS14, ↓nS15, ↓nS16, ↓nS17, ↓nS18, ↓nS19, ↓nS20, ↓nSs1, ↓nSs2, ↓nEs1, ↓nEs2, ↓nB1, ↓nB2, ↓nB3, ↓nA1, ↓nA2, ↓nA3, ↓nT1, ↓reduceIte, bnm, btp, setAll, wipeL, endsOf, getz, gets, setz, sets, lenc, lenn, v_add, v_sub, v_mul, v_fdiv, v_mod, v_pow, v_adds, v_addt, v_mult, v_muls, v_addl, v_eq, v_ne, v_lt, v_le, v_gt, v_ge, v_is, v_nis, v_isb, v_nisb, v_les, v_in, v_nin, t_non, t_bl, t_int, t_str, t_tup, t_loc, b_lens, b_lent, b_lenl, b_int, b_intb, b_abs, b_min, b_max, b_str, b_strs, b_tupt, b_tupl, b_lstt, b_lstl, b_all, b_any, b_ord, r_append, r_extend, r_pop, r_pop1, r_reverse, r_get1, r_get2, r_setd, m_app, m_ext, m_pop, m_pop1, m_rev, m_get1, m_get2, f_get, f_set, f_mth, r_str, m_starts, m_split, m_rstrp, m_rmpre, m_isasc, m_isdig, f_get h.obj (fok_1_15 (l := l)) (v := .loc d1) rfl, r_get2 (dk_of h1), m_get2 (dk_of (s _ _ h1)) key_nat, h2, Option.getD_some, b_lenl (n_of (s _ _ h3)), List.length_map, true_and]
  exact k _ s
theorem c38 {p : Nat} (h : EndsAt S o d1 d2 c R) (hp : p < c) (k : ∀ S' m, Sub S S' → S.length ≤ m → S'[m]? = some (.lst ((R p).map Val.int)) → Q (.loc m) S') : callN (UP l) (n + 1) 38 [.loc o, .int (p : Int)] S Q E := by
  obtain ⟨m, g, h1, h2, h3⟩ := h.row hp
  have s : Sub S (S ++ [SObj.lst []]) := Sub.app
  rw [u38]
  simp only [b38_0, b38, ↓nE1, ↓nE2, ↓nE3, ↓nE4, ↓nE5, ↓nE6, ↓nE7, ↓nE8, ↓nE9, ↓nE10, ↓nE11, ↓nE12, ↓nE13, ↓nE14, ↓nE15, ↓nE16, ↓nE17, ↓nE18, ↓nE19, ↓nE20, ↓nE21, ↓nE22, ↓nE23, ↓nE24, ↓nE25, ↓nE26, ↓nE27, ↓nE28, ↓nE29, ↓nE30, ↓nS1, ↓nS2, ↓nS3, ↓nS4, ↓nS5, ↓nS6, ↓nS7, ↓nS8, ↓nS9, ↓nS10, ↓nS11, ↓nS12, ↓nS13, ↓nS14, ↓nS15, ↓nS16, ↓nS17, ↓nS18, ↓nS19, ↓nS20, ↓nSs1, ↓nSs2, ↓nEs1, ↓nEs2, ↓nB1, ↓nB2, ↓nB3, ↓nA1, ↓nA2, ↓nA3, ↓nT1, ↓reduceIte, bnm, btp, setAll, wipeL, endsOf, getz, gets, setz, sets, lenc, lenn, v_add, v_sub, v_mul, v_fdiv, v_mod, v_pow, v_adds, v_addt, v_mult, v_muls, v_addl, v_eq, v_ne, v_lt, v_le, v_gt, v_ge, v_is, v_nis, v_isb, v_nisb, v_les, v_in, v_nin, t_non, t_bl, t_int, t_str, t_tup, t_loc, b_lens, b_lent, b_lenl, b_int, b_intb, b_abs, b_min, b_max, b_str, b_strs, b_tupt, b_tupl, b_lstt, b_lstl, b_all, b_any, b_ord, r_append, r_extend, r_pop, r_pop1, r_reverse, r_get1, r_get2, r_setd, m_app, m_ext, m_pop, m_pop1, m_rev, m_get1, m_get2, f_get, f_set, f_mth, r_str, m_starts, m_split, m_rstrp, m_rmpre, m_isasc, m_isdig, f_get h.obj (fok_1_15 (l := l)) (v := .loc d1) rfl, r_get2 (dk_of h1), m_get2 (dk_of (s _ _ h1)) key_nat, h2, Option.getD_some, b_lstl (n_of (s _ _ h3)), true_and]
  exact k _ _ (s.trans Sub.app) (by simp) get_new
theorem c40 {p : Nat} {v w : Int} (h : EndsAt S o d1 d2 c R) (hp : p < c) (hv : 0 ≤ v) (k : ∀ S', Sub S S' → Q (.bl (deadP (R p) (v, w))) S') : callN (UP l) (n + 1) 40 [.loc o, .int (p : Int), .tup [.int v, .int w]] S Q E := by
  obtain ⟨m, g, L, h1, h2, h3, h4⟩ := h.lst hp
  have s : Sub S (S ++ [SObj.lst []]) := Sub.app
  rw [u40]
  simp only [b40_0, b40_1, b40_2, t40_2, t40_1, b40, ↓nE1, ↓nE2, ↓nE3, ↓nE4, ↓nE5, ↓nE6, ↓nE7, ↓nE8, ↓nE9, ↓nE10, ↓nE11, ↓nE12, ↓nE13, ↓nE14, ↓nE15, ↓nE16, ↓nE17, ↓nE18, ↓nE19, ↓nE20, ↓nE21, ↓nE22, ↓nE23, ↓nE24, ↓nE25, ↓nE26, ↓nE27, ↓nE28, ↓nE29, ↓nE30, ↓nS1, ↓nS2, ↓nS3, ↓nS4, ↓nS5, ↓nS6, ↓nS7, ↓nS8, ↓nS9, ↓nS10, ↓nS11, ↓nS12, ↓nS13, ↓nS14, ↓nS15, ↓nS16, ↓nS17, ↓nS18, ↓nS19, ↓nS20, ↓nSs1, ↓nSs2, ↓nEs1, ↓nEs2, ↓nB1, ↓nB2, ↓nB3, ↓nA1, ↓nA2, ↓nA3, ↓nT1, ↓reduceIte, bnm, btp, setAll, wipeL, endsOf, getz, gets, setz, sets, lenc, lenn, v_add, v_sub, v_mul, v_fdiv, v_mod, v_pow, v_adds, v_addt, v_mult, v_muls, v_addl, v_eq, v_ne, v_lt, v_le, v_gt, v_ge, v_is, v_nis, v_isb, v_nisb, v_les, v_in, v_nin, t_non, t_bl, t_int, t_str, t_tup, t_loc, b_lens, b_lent, b_lenl, b_int, b_intb, b_abs, b_min, b_max, b_str, b_strs, b_tupt, b_tupl, b_lstt, b_lstl, b_all, b_any, b_ord, r_append, r_extend, r_pop, r_pop1, r_reverse, r_get1, r_get2, r_setd, m_app, m_ext, m_pop, m_pop1, m_rev, m_get1, m_get2, f_get, f_set, f_mth, r_str, m_starts, m_split, m_rstrp, m_rmpre, m_isasc, m_isdig, f_get h.obj (fok_1_16 (l := l)) (v := .loc d2) rfl, r_get2 (dk_of h1), m_get2 (dk_of (s _ _ h1)) key_nat, h2, Option.getD_some, b_lenl (n_of (s _ _ h3)), List.length_map, true_and]
  have hl := h4.1
  by_cases hlt : v < (L.length : Int)
  · have hn : v.toNat < L.length := by omega
    have a : atV (L.map Val.int) v = some (.int (L.getD v.toNat 0)) := by
      have := atV_nat (xs := L.map Val.int) (i := v.toNat) (v := .int (L.getD v.toNat 0)) (by simp [hn])
      rwa [Int.toNat_of_nonneg hv] at this
    have e : deadP (R p) (v, w) = decide (L.getD v.toNat 0 < w) := (h4.2 v.toNat (by omega) w).symm
    simp only [hlt, decide_true, ↓nE1, ↓nE2, ↓nE3, ↓nE4, ↓nE5, ↓nE6, ↓nE7, ↓nE8, ↓nE9, ↓nE10, ↓nE11, ↓nE12, ↓nE13, ↓nE14, ↓nE15, ↓nE16, ↓nE17, ↓nE18, ↓nE19, ↓nE20, ↓nE21, ↓nE22, ↓nE23, ↓nE24, ↓nE25, ↓nE26, ↓nE27, ↓nE28, ↓nE29, ↓nE30, ↓nS1, ↓nS2, ↓nS3, ↓nS4, ↓nS5, ↓nS6, ↓nS7, ↓nS8, ↓nS9, ↓nS10, ↓nS11, ↓nS12, ↓nS13, ↓nS14, ↓nS15, ↓nS16, ↓nS17, ↓nS18, ↓nS19, ↓nS20, ↓nSs1, ↓nSs2, ↓nEs1, ↓nEs2, ↓nB1, ↓nB2, ↓nB3, ↓nA1, ↓nA2, ↓nA3, ↓nT1, ↓reduceIte, bnm, btp, setAll, wipeL, endsOf, getz, gets, setz, sets, lenc, lenn, v_add, v_sub, v_mul, v_fdiv, v_mod, v_pow, v_adds, v_addt, v_mult, v_muls, v_addl, v_eq, v_ne, v_lt, v_le, v_gt, v_ge, v_is, v_nis, v_isb, v_nisb, v_les, v_in, v_nin, t_non, t_bl, t_int, t_str, t_tup, t_loc, b_lens, b_lent, b_lenl, b_int, b_intb, b_abs, b_min, b_max, b_str, b_strs, b_tupt, b_tupl, b_lstt, b_lstl, b_all, b_any, b_ord, r_append, r_extend, r_pop, r_pop1, r_reverse, r_get1, r_get2, r_setd, m_app, m_ext, m_pop, m_pop1, m_rev, m_get1, m_get2, f_get, f_set, f_mth, r_str, m_starts, m_split, m_rstrp, m_rmpre, m_isasc, m_isdig, ixS_l (n_of (s _ _ h3)) a, ← e]
    exact k _ s
  · have e : deadP (R p) (v, w) = false := by
      unfold deadP
      rw [List.drop_of_length_le (by show _ ≤ v.toNat; omega)]
      rfl
    simp only [hlt, decide_false, ↓nE1, ↓nE2, ↓nE3, ↓nE4, ↓nE5, ↓nE6, ↓nE7, ↓nE8, ↓nE9, ↓nE10, ↓nE11, ↓nE12, ↓nE13, ↓nE14, ↓nE15, ↓nE16, ↓nE17, ↓nE18, ↓nE19, ↓nE20, ↓nE21, ↓nE22, ↓nE23, ↓nE24, ↓nE25, ↓nE26, ↓nE27, ↓nE28, ↓nE29, ↓nE30, ↓nS1, ↓nS2, ↓nS3, ↓nS4, ↓nS5, ↓nS6, ↓nS7, ↓nS8, ↓nS9, ↓nS10, ↓nS11, ↓nS12, ↓nS13, ↓nS14, ↓nS15, ↓nS16, ↓nS17, ↓nS18, ↓nS19, ↓nS20, ↓nSs1, ↓nSs2, ↓nEs1, ↓nEs2, ↓nB1, ↓nB2, ↓nB3, ↓nA1, ↓nA2, ↓nA3, ↓nT1, ↓reduceIte, bnm, btp, setAll, wipeL, endsOf, getz, gets, setz, sets, lenc, lenn, v_add, v_sub, v_mul, v_fdiv, v_mod, v_pow, v_adds, v_addt, v_mult, v_muls, v_addl, v_eq, v_ne, v_lt, v_le, v_gt, v_ge, v_is, v_nis, v_isb, v_nisb, v_les, v_in, v_nin, t_non, t_bl, t_int, t_str, t_tup, t_loc, b_lens, b_lent, b_lenl, b_int, b_intb, b_abs, b_min, b_max, b_str, b_strs, b_tupt, b_tupl, b_lstt, b_lstl, b_all, b_any, b_ord, r_append, r_extend, r_pop, r_pop1, r_reverse, r_get1, r_get2, r_setd, m_app, m_ext, m_pop, m_pop1, m_rev, m_get1, m_get2, f_get, f_set, f_mth, r_str, m_starts, m_split, m_rstrp, m_rmpre, m_isasc, m_isdig, Bool.false_eq_true, ← e]
    rw [e]
    simp only [Bool.false_eq_true, Bool.true_eq_false, ↓nE1, ↓nE2, ↓nE3, ↓nE4, ↓nE5, ↓nE6, ↓nE7, ↓nE8, ↓nE9, ↓nE10, ↓nE11, ↓nE12, ↓nE13, ↓nE14, ↓nE15, ↓nE16, ↓nE17, ↓nE18, ↓nE19, ↓nE20, ↓nE21, ↓nE22, ↓nE23, ↓nE24, ↓nE25, ↓nE26, ↓nE27, ↓nE28, ↓nE29, ↓nE30, ↓nS1, ↓nS2, ↓nS3, ↓nS4, ↓nS5, ↓nS6, ↓nS7, ↓nS8, ↓nS9, ↓nS10, ↓nS11, ↓nS12, ↓nS13, ↓nS14, ↓nS15, ↓nS16, ↓nS17, ↓nS18, ↓nS19, ↓nS20, ↓nSs1, ↓nSs2, ↓nEs1, ↓nEs2, ↓nB1, ↓nB2, ↓nB3, ↓nA1, ↓nA2, ↓nA3, ↓nT1, ↓reduceIte, bnm, btp, setAll, wipeL, endsOf, getz, gets, setz, sets, lenc, lenn, v_add, v_sub, v_mul, v_fdiv, v_mod, v_pow, v_adds, v_addt, v_mult, v_muls, v_addl, v_eq, v_ne, v_lt, v_le, v_gt, v_ge, v_is, v_nis, v_isb, v_nisb, v_les, v_in, v_nin, t_non, t_bl, t_int, t_str, t_tup, t_loc, b_lens, b_lent, b_lenl, b_int, b_intb, b_abs, b_min, b_max, b_str, b_strs, b_tupt, b_tupl, b_lstt, b_lstl, b_all, b_any, b_ord, r_append, r_extend, r_pop, r_pop1, r_reverse, r_get1, r_get2, r_setd, m_app, m_ext, m_pop, m_pop1, m_rev, m_get1, m_get2, f_get, f_set, f_mth, r_str, m_starts, m_split, m_rstrp, m_rmpre, m_isasc, m_isdig]
    have := k _ s
    rw [e] at this
    exact this
end
end My

namespace My
open PySem PM
variable {l : LP}
/-! ### a clock, its pairs by their places -/
def clkF (f : Nat → Int × Int → Bool) : Val → Option Val := fun v => match v with
  | .tup [.int i, .tup [.int a, .int b]] => some (.bl (f i.toNat (a, b)))
  | _ => none
def clkI (cs : List (Int × Int)) : List Val := (cs.map pV).zipIdx.map fun p => .tup [.int (p.2 : Nat), p.1]
theorem clk_map (f : Nat → Int × Int → Bool) (cs : List (Int × Int)) : (clkI cs).filterMap (clkF f) = (cs.zipIdx.map fun q => f q.2 q.1).map Val.bl := by
  unfold clkI
  rw [List.zipIdx_map, List.map_map, List.filterMap_map, List.map_map, ← List.filterMap_eq_map]
  congr 1
theorem clk_mem {cs : List (Int × Int)} {x : Val} (h : x ∈ clkI cs) : ∃ (i : Nat) (p : Int × Int), x = .tup [.int (i : Int), pV p] ∧ i < cs.length ∧ cs[i]? = some p := by
  obtain ⟨q, hq, rfl⟩ := List.mem_map.mp h
  obtain ⟨v, i⟩ := q
  have h1 := List.getElem?_eq_some_iff.mp (List.mem_zipIdx_iff_getElem?.mp hq)
  obtain ⟨h1, h2⟩ := h1
  simp only [List.length_map] at h1
  refine ⟨i, cs[i], ?_, h1, by simp [h1]⟩
  simp only [List.getElem_map] at h2
  simp [← h2]
theorem blS_bl (bs : List Bool) : blS (bs.map Val.bl) = some bs := by
  have := blS_map (fun v => match v with | .bl b => b | _ => false) (bs.map Val.bl)
  rw [List.map_map, List.map_map] at this
  have e : (bs.map (((fun x => Val.bl (match x with | .bl b => b | _ => false))) ∘ Val.bl)) = bs.map Val.bl := List.map_congr_left fun _ _ => rfl
  have e2 : (bs.map ((fun v : Val => match v with | .bl b => b | _ => false) ∘ Val.bl)) = bs := by
    conv => rhs; rw [← List.map_id bs]
    exact List.map_congr_left fun _ _ => rfl
  rw [e, e2] at this
  exact this
/-- a clock of c pairs, its versions not below zero -/
def VC (c : Nat) (cs : List (Int × Int)) : Prop := cs.length = c ∧ ∀ p ∈ cs, 0 ≤ p.1
theorem VC.at {c i : Nat} {cs : List (Int × Int)} {p : Int × Int} (h : VC c cs) (e : cs[i]? = some p) : i < c ∧ 0 ≤ p.1 := by
  obtain ⟨h1, h2⟩ := List.getElem?_eq_some_iff.mp e
  exact ⟨by rw [← h.1]; exact h1, h.2 _ (by rw [← h2]; exact List.getElem_mem h1)⟩
def deadC (R : Nat → List Int) (cs : List (Int × Int)) : Bool := (cs.zipIdx.map fun q => deadP (R q.2) q.1).any id
def readyC (R : Nat → List Int) (cs : List (Int × Int)) : Bool := (cs.zipIdx.map fun q => decide (q.1.1 ≤ ((R q.2).length : Int))).all id
theorem it_enum {S : Sto} {cs : List (Int × Int)} : itS .enum [.tup (cs.map pV)] S = some (clkI cs, []) := by simp only [itS, clkI]
theorem dk0 {d : SObj} (h : d = .dK []) : rngK 0 (fun _ => Val.non) = [] := rfl
section
variable {o d1 d2 c n : Nat} {R : Nat → List Int} {S : Sto} {Q : VQ} {E : XQ}
theorem c39 {cs : List (Int × Int)} (h : EndsAt S o d1 d2 c R) (hc : c ≤ 1000) (hv : VC c cs) (k : ∀ S', Sub S S' → Q (.bl (deadC R cs)) S') : callN (UP l) (n + 2) 39 [.loc o, .tup (cs.map pV)] S Q E := by
  rw [u39]
  simp only [b39, b39_0, ↓nE1, ↓nE2, ↓nE3, ↓nE4, ↓nE5, ↓nE6, ↓nE7, ↓nE8, ↓nE9, ↓nE10, ↓nE11, ↓nE12, ↓nE13, ↓nE14, ↓nE15, ↓nE16, ↓nE17, ↓nE18, ↓nE19, ↓nE20, ↓nE21, ↓nE22, ↓nE23, ↓nE24, ↓nE25, ↓nE26, ↓nE27, ↓nE28, ↓nE29, ↓nE30, ↓nS1, ↓nS2, ↓nS3, ↓nS4, ↓nS5, ↓nS6, ↓nS7, ↓nS8, ↓nS9, ↓nS10, ↓nS11, ↓nS12, ↓nS13, ↓nS14, ↓nS15, ↓nS16, ↓nS17, ↓nS18, ↓nS19, ↓nS20, ↓nSs1, ↓nSs2, ↓nEs1, ↓nEs2, ↓nB1, ↓nB2, ↓nB3, ↓nA1, ↓nA2, ↓nA3, ↓nT1, ↓reduceIte, bnm, btp, setAll, wipeL, endsOf, getz, gets, setz, sets, lenc, lenn, v_add, v_sub, v_mul, v_fdiv, v_mod, v_pow, v_adds, v_addt, v_mult, v_muls, v_addl, v_eq, v_ne, v_lt, v_le, v_gt, v_ge, v_is, v_nis, v_isb, v_nisb, v_les, v_in, v_nin, t_non, t_bl, t_int, t_str, t_tup, t_loc, b_lens, b_lent, b_lenl, b_int, b_intb, b_abs, b_min, b_max, b_str, b_strs, b_tupt, b_tupl, b_lstt, b_lstl, b_all, b_any, b_ord, r_append, r_extend, r_pop, r_pop1, r_reverse, r_get1, r_get2, r_setd, m_app, m_ext, m_pop, m_pop1, m_rev, m_get1, m_get2, f_get, f_set, f_mth, r_str, m_starts, m_split, m_rstrp, m_rmpre, m_isasc, m_isdig, it_enum]
  refine lc_sub (clkF fun i p => deadP (R i) p) trivial (by simp [clkI, big, hv.1]; omega) (fun x hx S2 K s2 k2 => ?_) fun S' s' h' => ?_
  · obtain ⟨i, p, rfl, hi, hp⟩ := clk_mem hx
    have vp := hv.at hp
    simp only [↓nE1, ↓nE2, ↓nE3, ↓nE4, ↓nE5, ↓nE6, ↓nE7, ↓nE8, ↓nE9, ↓nE10, ↓nE11, ↓nE12, ↓nE13, ↓nE14, ↓nE15, ↓nE16, ↓nE17, ↓nE18, ↓nE19, ↓nE20, ↓nE21, ↓nE22, ↓nE23, ↓nE24, ↓nE25, ↓nE26, ↓nE27, ↓nE28, ↓nE29, ↓nE30, ↓nS1, ↓nS2, ↓nS3, ↓nS4, ↓nS5, ↓nS6, ↓nS7, ↓nS8, ↓nS9, ↓nS10, ↓nS11, ↓nS12, ↓nS13, ↓nS14, ↓nS15, ↓nS16, ↓nS17, ↓nS18, ↓nS19, ↓nS20, ↓nSs1, ↓nSs2, ↓nEs1, ↓nEs2, ↓nB1, ↓nB2, ↓nB3, ↓nA1, ↓nA2, ↓nA3, ↓nT1, ↓reduceIte, bnm, btp, setAll, wipeL, endsOf, getz, gets, setz, sets, lenc, lenn, v_add, v_sub, v_mul, v_fdiv, v_mod, v_pow, v_adds, v_addt, v_mult, v_muls, v_addl, v_eq, v_ne, v_lt, v_le, v_gt, v_ge, v_is, v_nis, v_isb, v_nisb, v_les, v_in, v_nin, t_non, t_bl, t_int, t_str, t_tup, t_loc, b_lens, b_lent, b_lenl, b_int, b_intb, b_abs, b_min, b_max, b_str, b_strs, b_tupt, b_tupl, b_lstt, b_lstl, b_all, b_any, b_ord, r_append, r_extend, r_pop, r_pop1, r_reverse, r_get1, r_get2, r_setd, m_app, m_ext, m_pop, m_pop1, m_rev, m_get1, m_get2, f_get, f_set, f_mth, r_str, m_starts, m_split, m_rstrp, m_rmpre, m_isasc, m_isdig, true_and, f_mth (h.sub s2).obj (a := 22) rfl (mth_1_22 (l := l)), pV]
    exact c40 (h.sub s2) vp.1 vp.2 fun S3 s3 => k2 S3 s3
  · rw [clk_map] at h'
    simp only [↓nE1, ↓nE2, ↓nE3, ↓nE4, ↓nE5, ↓nE6, ↓nE7, ↓nE8, ↓nE9, ↓nE10, ↓nE11, ↓nE12, ↓nE13, ↓nE14, ↓nE15, ↓nE16, ↓nE17, ↓nE18, ↓nE19, ↓nE20, ↓nE21, ↓nE22, ↓nE23, ↓nE24, ↓nE25, ↓nE26, ↓nE27, ↓nE28, ↓nE29, ↓nE30, ↓nS1, ↓nS2, ↓nS3, ↓nS4, ↓nS5, ↓nS6, ↓nS7, ↓nS8, ↓nS9, ↓nS10, ↓nS11, ↓nS12, ↓nS13, ↓nS14, ↓nS15, ↓nS16, ↓nS17, ↓nS18, ↓nS19, ↓nS20, ↓nSs1, ↓nSs2, ↓nEs1, ↓nEs2, ↓nB1, ↓nB2, ↓nB3, ↓nA1, ↓nA2, ↓nA3, ↓nT1, ↓reduceIte, bnm, btp, setAll, wipeL, endsOf, getz, gets, setz, sets, lenc, lenn, v_add, v_sub, v_mul, v_fdiv, v_mod, v_pow, v_adds, v_addt, v_mult, v_muls, v_addl, v_eq, v_ne, v_lt, v_le, v_gt, v_ge, v_is, v_nis, v_isb, v_nisb, v_les, v_in, v_nin, t_non, t_bl, t_int, t_str, t_tup, t_loc, b_lens, b_lent, b_lenl, b_int, b_intb, b_abs, b_min, b_max, b_str, b_strs, b_tupt, b_tupl, b_lstt, b_lstl, b_all, b_any, b_ord, r_append, r_extend, r_pop, r_pop1, r_reverse, r_get1, r_get2, r_setd, m_app, m_ext, m_pop, m_pop1, m_rev, m_get1, m_get2, f_get, f_set, f_mth, r_str, m_starts, m_split, m_rstrp, m_rmpre, m_isasc, m_isdig, b_any (n_of h') (blS_bl _)]
    exact k S' s'
theorem c41 {cs : List (Int × Int)} (h : EndsAt S o d1 d2 c R) (hc : c ≤ 1000) (hv : VC c cs) (k : ∀ S', Sub S S' → Q (.bl (readyC R cs)) S') : callN (UP l) (n + 2) 41 [.loc o, .tup (cs.map pV)] S Q E := by
  rw [u41]
  simp only [b41, b41_0, ↓nE1, ↓nE2, ↓nE3, ↓nE4, ↓nE5, ↓nE6, ↓nE7, ↓nE8, ↓nE9, ↓nE10, ↓nE11, ↓nE12, ↓nE13, ↓nE14, ↓nE15, ↓nE16, ↓nE17, ↓nE18, ↓nE19, ↓nE20, ↓nE21, ↓nE22, ↓nE23, ↓nE24, ↓nE25, ↓nE26, ↓nE27, ↓nE28, ↓nE29, ↓nE30, ↓nS1, ↓nS2, ↓nS3, ↓nS4, ↓nS5, ↓nS6, ↓nS7, ↓nS8, ↓nS9, ↓nS10, ↓nS11, ↓nS12, ↓nS13, ↓nS14, ↓nS15, ↓nS16, ↓nS17, ↓nS18, ↓nS19, ↓nS20, ↓nSs1, ↓nSs2, ↓nEs1, ↓nEs2, ↓nB1, ↓nB2, ↓nB3, ↓nA1, ↓nA2, ↓nA3, ↓nT1, ↓reduceIte, bnm, btp, setAll, wipeL, endsOf, getz, gets, setz, sets, lenc, lenn, v_add, v_sub, v_mul, v_fdiv, v_mod, v_pow, v_adds, v_addt, v_mult, v_muls, v_addl, v_eq, v_ne, v_lt, v_le, v_gt, v_ge, v_is, v_nis, v_isb, v_nisb, v_les, v_in, v_nin, t_non, t_bl, t_int, t_str, t_tup, t_loc, b_lens, b_lent, b_lenl, b_int, b_intb, b_abs, b_min, b_max, b_str, b_strs, b_tupt, b_tupl, b_lstt, b_lstl, b_all, b_any, b_ord, r_append, r_extend, r_pop, r_pop1, r_reverse, r_get1, r_get2, r_setd, m_app, m_ext, m_pop, m_pop1, m_rev, m_get1, m_get2, f_get, f_set, f_mth, r_str, m_starts, m_split, m_rstrp, m_rmpre, m_isasc, m_isdig, it_enum]
  refine lc_sub (clkF fun i p => decide (p.1 ≤ ((R i).length : Int))) trivial (by simp [clkI, big, hv.1]; omega) (fun x hx S2 K s2 k2 => ?_) fun S' s' h' => ?_
  · obtain ⟨i, p, rfl, hi, hp⟩ := clk_mem hx
    have vp := hv.at hp
    simp only [↓nE1, ↓nE2, ↓nE3, ↓nE4, ↓nE5, ↓nE6, ↓nE7, ↓nE8, ↓nE9, ↓nE10, ↓nE11, ↓nE12, ↓nE13, ↓nE14, ↓nE15, ↓nE16, ↓nE17, ↓nE18, ↓nE19, ↓nE20, ↓nE21, ↓nE22, ↓nE23, ↓nE24, ↓nE25, ↓nE26, ↓nE27, ↓nE28, ↓nE29, ↓nE30, ↓nS1, ↓nS2, ↓nS3, ↓nS4, ↓nS5, ↓nS6, ↓nS7, ↓nS8, ↓nS9, ↓nS10, ↓nS11, ↓nS12, ↓nS13, ↓nS14, ↓nS15, ↓nS16, ↓nS17, ↓nS18, ↓nS19, ↓nS20, ↓nSs1, ↓nSs2, ↓nEs1, ↓nEs2, ↓nB1, ↓nB2, ↓nB3, ↓nA1, ↓nA2, ↓nA3, ↓nT1, ↓reduceIte, bnm, btp, setAll, wipeL, endsOf, getz, gets, setz, sets, lenc, lenn, v_add, v_sub, v_mul, v_fdiv, v_mod, v_pow, v_adds, v_addt, v_mult, v_muls, v_addl, v_eq, v_ne, v_lt, v_le, v_gt, v_ge, v_is, v_nis, v_isb, v_nisb, v_les, v_in, v_nin, t_non, t_bl, t_int, t_str, t_tup, t_loc, b_lens, b_lent, b_lenl, b_int, b_intb, b_abs, b_min, b_max, b_str, b_strs, b_tupt, b_tupl, b_lstt, b_lstl, b_all, b_any, b_ord, r_append, r_extend, r_pop, r_pop1, r_reverse, r_get1, r_get2, r_setd, m_app, m_ext, m_pop, m_pop1, m_rev, m_get1, m_get2, f_get, f_set, f_mth, r_str, m_starts, m_split, m_rstrp, m_rmpre, m_isasc, m_isdig, true_and, pV, ixS_t atV_0, f_mth (h.sub s2).obj (a := 21) rfl (mth_1_21 (l := l))]
    refine c36 (h.sub s2) vp.1 fun S3 s3 => ?_
    simp only [↓nE1, ↓nE2, ↓nE3, ↓nE4, ↓nE5, ↓nE6, ↓nE7, ↓nE8, ↓nE9, ↓nE10, ↓nE11, ↓nE12, ↓nE13, ↓nE14, ↓nE15, ↓nE16, ↓nE17, ↓nE18, ↓nE19, ↓nE20, ↓nE21, ↓nE22, ↓nE23, ↓nE24, ↓nE25, ↓nE26, ↓nE27, ↓nE28, ↓nE29, ↓nE30, ↓nS1, ↓nS2, ↓nS3, ↓nS4, ↓nS5, ↓nS6, ↓nS7, ↓nS8, ↓nS9, ↓nS10, ↓nS11, ↓nS12, ↓nS13, ↓nS14, ↓nS15, ↓nS16, ↓nS17, ↓nS18, ↓nS19, ↓nS20, ↓nSs1, ↓nSs2, ↓nEs1, ↓nEs2, ↓nB1, ↓nB2, ↓nB3, ↓nA1, ↓nA2, ↓nA3, ↓nT1, ↓reduceIte, bnm, btp, setAll, wipeL, endsOf, getz, gets, setz, sets, lenc, lenn, v_add, v_sub, v_mul, v_fdiv, v_mod, v_pow, v_adds, v_addt, v_mult, v_muls, v_addl, v_eq, v_ne, v_lt, v_le, v_gt, v_ge, v_is, v_nis, v_isb, v_nisb, v_les, v_in, v_nin, t_non, t_bl, t_int, t_str, t_tup, t_loc, b_lens, b_lent, b_lenl, b_int, b_intb, b_abs, b_min, b_max, b_str, b_strs, b_tupt, b_tupl, b_lstt, b_lstl, b_all, b_any, b_ord, r_append, r_extend, r_pop, r_pop1, r_reverse, r_get1, r_get2, r_setd, m_app, m_ext, m_pop, m_pop1, m_rev, m_get1, m_get2, f_get, f_set, f_mth, r_str, m_starts, m_split, m_rstrp, m_rmpre, m_isasc, m_isdig]
    exact k2 S3 s3
  · rw [clk_map] at h'
    simp only [↓nE1, ↓nE2, ↓nE3, ↓nE4, ↓nE5, ↓nE6, ↓nE7, ↓nE8, ↓nE9, ↓nE10, ↓nE11, ↓nE12, ↓nE13, ↓nE14, ↓nE15, ↓nE16, ↓nE17, ↓nE18, ↓nE19, ↓nE20, ↓nE21, ↓nE22, ↓nE23, ↓nE24, ↓nE25, ↓nE26, ↓nE27, ↓nE28, ↓nE29, ↓nE30, ↓nS1, ↓nS2, ↓nS3, ↓nS4, ↓nS5, ↓nS6, ↓nS7, ↓nS8, ↓nS9, ↓nS10, ↓nS11, ↓nS12, ↓nS13, ↓nS14, ↓nS15, ↓nS16, ↓nS17, ↓nS18, ↓nS19, ↓nS20, ↓nSs1, ↓nSs2, ↓nEs1, ↓nEs2, ↓nB1, ↓nB2, ↓nB3, ↓nA1, ↓nA2, ↓nA3, ↓nT1, ↓reduceIte, bnm, btp, setAll, wipeL, endsOf, getz, gets, setz, sets, lenc, lenn, v_add, v_sub, v_mul, v_fdiv, v_mod, v_pow, v_adds, v_addt, v_mult, v_muls, v_addl, v_eq, v_ne, v_lt, v_le, v_gt, v_ge, v_is, v_nis, v_isb, v_nisb, v_les, v_in, v_nin, t_non, t_bl, t_int, t_str, t_tup, t_loc, b_lens, b_lent, b_lenl, b_int, b_intb, b_abs, b_min, b_max, b_str, b_strs, b_tupt, b_tupl, b_lstt, b_lstl, b_all, b_any, b_ord, r_append, r_extend, r_pop, r_pop1, r_reverse, r_get1, r_get2, r_setd, m_app, m_ext, m_pop, m_pop1, m_rev, m_get1, m_get2, f_get, f_set, f_mth, r_str, m_starts, m_split, m_rstrp, m_rmpre, m_isasc, m_isdig, b_all (n_of h') (blS_bl _)]
    exact k S' s'
/-- the next end of a process is known -/
def upR (R : Nat → List Int) (p : Nat) (s : Int) : Nat → List Int := fun q => if q = p then R q ++ [s] else R q
theorem c37 {p : Nat} {v s : Int} (h : EndsAt S o d1 d2 c R) (hp : p < c) (hc : c ≤ 1000) (hb : (R p).length ≤ 1000)
    (k0 : v ≠ (R p).length → ∀ S', Sub S S' → Q (.bl false) S')
    (k1 : v = (R p).length → ∀ S', SubX [d1, d2] S S' → EndsAt S' o d1 d2 c (upR R p s) → Q (.bl true) S') : callN (UP l) (n + 2) 37 [.loc o, .int (p : Int), .int v, .int s] S Q E := by
  rw [u37]
  simp only [b37, b37_0, ↓nE1, ↓nE2, ↓nE3, ↓nE4, ↓nE5, ↓nE6, ↓nE7, ↓nE8, ↓nE9, ↓nE10, ↓nE11, ↓nE12, ↓nE13, ↓nE14, ↓nE15, ↓nE16, ↓nE17, ↓nE18, ↓nE19, ↓nE20, ↓nE21, ↓nE22, ↓nE23, ↓nE24, ↓nE25, ↓nE26, ↓nE27, ↓nE28, ↓nE29, ↓nE30, ↓nS1, ↓nS2, ↓nS3, ↓nS4, ↓nS5, ↓nS6, ↓nS7, ↓nS8, ↓nS9, ↓nS10, ↓nS11, ↓nS12, ↓nS13, ↓nS14, ↓nS15, ↓nS16, ↓nS17, ↓nS18, ↓nS19, ↓nS20, ↓nSs1, ↓nSs2, ↓nEs1, ↓nEs2, ↓nB1, ↓nB2, ↓nB3, ↓nA1, ↓nA2, ↓nA3, ↓nT1, ↓reduceIte, bnm, btp, setAll, wipeL, endsOf, getz, gets, setz, sets, lenc, lenn, v_add, v_sub, v_mul, v_fdiv, v_mod, v_pow, v_adds, v_addt, v_mult, v_muls, v_addl, v_eq, v_ne, v_lt, v_le, v_gt, v_ge, v_is, v_nis, v_isb, v_nisb, v_les, v_in, v_nin, t_non, t_bl, t_int, t_str, t_tup, t_loc, b_lens, b_lent, b_lenl, b_int, b_intb, b_abs, b_min, b_max, b_str, b_strs, b_tupt, b_tupl, b_lstt, b_lstl, b_all, b_any, b_ord, r_append, r_extend, r_pop, r_pop1, r_reverse, r_get1, r_get2, r_setd, m_app, m_ext, m_pop, m_pop1, m_rev, m_get1, m_get2, f_get, f_set, f_mth, r_str, m_starts, m_split, m_rstrp, m_rmpre, m_isasc, m_isdig, f_mth h.obj (a := 21) rfl (mth_1_21 (l := l))]
  refine c36 h hp fun S1 s1 => ?_
  by_cases hv : v = (R p).length
  case neg =>
    simp only [↓nE1, ↓nE2, ↓nE3, ↓nE4, ↓nE5, ↓nE6, ↓nE7, ↓nE8, ↓nE9, ↓nE10, ↓nE11, ↓nE12, ↓nE13, ↓nE14, ↓nE15, ↓nE16, ↓nE17, ↓nE18, ↓nE19, ↓nE20, ↓nE21, ↓nE22, ↓nE23, ↓nE24, ↓nE25, ↓nE26, ↓nE27, ↓nE28, ↓nE29, ↓nE30, ↓nS1, ↓nS2, ↓nS3, ↓nS4, ↓nS5, ↓nS6, ↓nS7, ↓nS8, ↓nS9, ↓nS10, ↓nS11, ↓nS12, ↓nS13, ↓nS14, ↓nS15, ↓nS16, ↓nS17, ↓nS18, ↓nS19, ↓nS20, ↓nSs1, ↓nSs2, ↓nEs1, ↓nEs2, ↓nB1, ↓nB2, ↓nB3, ↓nA1, ↓nA2, ↓nA3, ↓nT1, ↓reduceIte, bnm, btp, setAll, wipeL, endsOf, getz, gets, setz, sets, lenc, lenn, v_add, v_sub, v_mul, v_fdiv, v_mod, v_pow, v_adds, v_addt, v_mult, v_muls, v_addl, v_eq, v_ne, v_lt, v_le, v_gt, v_ge, v_is, v_nis, v_isb, v_nisb, v_les, v_in, v_nin, t_non, t_bl, t_int, t_str, t_tup, t_loc, b_lens, b_lent, b_lenl, b_int, b_intb, b_abs, b_min, b_max, b_str, b_strs, b_tupt, b_tupl, b_lstt, b_lstl, b_all, b_any, b_ord, r_append, r_extend, r_pop, r_pop1, r_reverse, r_get1, r_get2, r_setd, m_app, m_ext, m_pop, m_pop1, m_rev, m_get1, m_get2, f_get, f_set, f_mth, r_str, m_starts, m_split, m_rstrp, m_rmpre, m_isasc, m_isdig, reduceCtorEq, eqS_ii, eqS_ss, eqS_nn, Val.flat, Val.isNon, known, Option.isSome_some, true_and, tyB, tyS, istS, tyeq, ixN_0, ixN_1, ixN_2, hv, decide_false, Bool.not_false]
    exact k0 hv S1 s1
  have h1 := h.sub s1
  obtain ⟨m, g, L, e1, e2, e3, e4⟩ := h1.lst hp
  have sn : Sub S1 (S1 ++ [SObj.lst []]) := Sub.app
  simp only [↓nE1, ↓nE2, ↓nE3, ↓nE4, ↓nE5, ↓nE6, ↓nE7, ↓nE8, ↓nE9, ↓nE10, ↓nE11, ↓nE12, ↓nE13, ↓nE14, ↓nE15, ↓nE16, ↓nE17, ↓nE18, ↓nE19, ↓nE20, ↓nE21, ↓nE22, ↓nE23, ↓nE24, ↓nE25, ↓nE26, ↓nE27, ↓nE28, ↓nE29, ↓nE30, ↓nS1, ↓nS2, ↓nS3, ↓nS4, ↓nS5, ↓nS6, ↓nS7, ↓nS8, ↓nS9, ↓nS10, ↓nS11, ↓nS12, ↓nS13, ↓nS14, ↓nS15, ↓nS16, ↓nS17, ↓nS18, ↓nS19, ↓nS20, ↓nSs1, ↓nSs2, ↓nEs1, ↓nEs2, ↓nB1, ↓nB2, ↓nB3, ↓nA1, ↓nA2, ↓nA3, ↓nT1, ↓reduceIte, bnm, btp, setAll, wipeL, endsOf, getz, gets, setz, sets, lenc, lenn, v_add, v_sub, v_mul, v_fdiv, v_mod, v_pow, v_adds, v_addt, v_mult, v_muls, v_addl, v_eq, v_ne, v_lt, v_le, v_gt, v_ge, v_is, v_nis, v_isb, v_nisb, v_les, v_in, v_nin, t_non, t_bl, t_int, t_str, t_tup, t_loc, b_lens, b_lent, b_lenl, b_int, b_intb, b_abs, b_min, b_max, b_str, b_strs, b_tupt, b_tupl, b_lstt, b_lstl, b_all, b_any, b_ord, r_append, r_extend, r_pop, r_pop1, r_reverse, r_get1, r_get2, r_setd, m_app, m_ext, m_pop, m_pop1, m_rev, m_get1, m_get2, f_get, f_set, f_mth, r_str, m_starts, m_split, m_rstrp, m_rmpre, m_isasc, m_isdig, reduceCtorEq, eqS_ii, eqS_ss, eqS_nn, Val.flat, Val.isNon, known, Option.isSome_some, true_and, tyB, tyS, istS, tyeq, ixN_0, ixN_1, ixN_2, hv, decide_true, Bool.not_true, Bool.false_eq_true, t37_1, b37_1, f_get h1.obj (fok_1_16 (l := l)) (v := .loc d2) rfl, r_get2 (dk_of e1), m_get2 (dk_of (sn _ _ e1)) key_nat, e2, Option.getD_some, true_and, itS, n_of (sn _ _ e3), Option.map_some]
  generalize hS2 : S1 ++ [SObj.lst []] = S2 at *
  refine lc_sub (fun v => match v with | .int x => some (.int (if s < x then s else x)) | _ => none) ⟨n_of (sn _ _ e3), trivial⟩ (by simp [e4.1, big]; omega) (fun x hx S3 K s3 k3 => ?_) fun S3 s3 h3 => ?_
  · obtain ⟨y, _, rfl⟩ := List.mem_map.mp hx
    simp only [↓nE1, ↓nE2, ↓nE3, ↓nE4, ↓nE5, ↓nE6, ↓nE7, ↓nE8, ↓nE9, ↓nE10, ↓nE11, ↓nE12, ↓nE13, ↓nE14, ↓nE15, ↓nE16, ↓nE17, ↓nE18, ↓nE19, ↓nE20, ↓nE21, ↓nE22, ↓nE23, ↓nE24, ↓nE25, ↓nE26, ↓nE27, ↓nE28, ↓nE29, ↓nE30, ↓nS1, ↓nS2, ↓nS3, ↓nS4, ↓nS5, ↓nS6, ↓nS7, ↓nS8, ↓nS9, ↓nS10, ↓nS11, ↓nS12, ↓nS13, ↓nS14, ↓nS15, ↓nS16, ↓nS17, ↓nS18, ↓nS19, ↓nS20, ↓nSs1, ↓nSs2, ↓nEs1, ↓nEs2, ↓nB1, ↓nB2, ↓nB3, ↓nA1, ↓nA2, ↓nA3, ↓nT1, ↓reduceIte, bnm, btp, setAll, wipeL, endsOf, getz, gets, setz, sets, lenc, lenn, v_add, v_sub, v_mul, v_fdiv, v_mod, v_pow, v_adds, v_addt, v_mult, v_muls, v_addl, v_eq, v_ne, v_lt, v_le, v_gt, v_ge, v_is, v_nis, v_isb, v_nisb, v_les, v_in, v_nin, t_non, t_bl, t_int, t_str, t_tup, t_loc, b_lens, b_lent, b_lenl, b_int, b_intb, b_abs, b_min, b_max, b_str, b_strs, b_tupt, b_tupl, b_lstt, b_lstl, b_all, b_any, b_ord, r_append, r_extend, r_pop, r_pop1, r_reverse, r_get1, r_get2, r_setd, m_app, m_ext, m_pop, m_pop1, m_rev, m_get1, m_get2, f_get, f_set, f_mth, r_str, m_starts, m_split, m_rstrp, m_rmpre, m_isasc, m_isdig]
    exact k3 S3 Sub.refl
  have em : (L.map Val.int).filterMap (fun v => match v with | .int x => some (.int (if s < x then s else x)) | _ => none) = (L.map (fun x => if s < x then s else x)).map Val.int := by
    rw [List.filterMap_map, List.map_map, ← List.filterMap_eq_map]
    rfl
  rw [em] at h3
  have s13 : Sub S S3 := s1.trans (sn.trans s3)
  have h33 := h.sub s13
  obtain ⟨m', g', L', e1', e2', e3', e4'⟩ := h33.lst hp
  have x1 : (S3 ++ [SObj.lst [.int s]])[S3.length]? = some (.lst [.int s]) := get_new
  have x2 := Sub.app (t := [SObj.lst [.int s]]) _ _ h3
  simp only [↓nE1, ↓nE2, ↓nE3, ↓nE4, ↓nE5, ↓nE6, ↓nE7, ↓nE8, ↓nE9, ↓nE10, ↓nE11, ↓nE12, ↓nE13, ↓nE14, ↓nE15, ↓nE16, ↓nE17, ↓nE18, ↓nE19, ↓nE20, ↓nE21, ↓nE22, ↓nE23, ↓nE24, ↓nE25, ↓nE26, ↓nE27, ↓nE28, ↓nE29, ↓nE30, ↓nS1, ↓nS2, ↓nS3, ↓nS4, ↓nS5, ↓nS6, ↓nS7, ↓nS8, ↓nS9, ↓nS10, ↓nS11, ↓nS12, ↓nS13, ↓nS14, ↓nS15, ↓nS16, ↓nS17, ↓nS18, ↓nS19, ↓nS20, ↓nSs1, ↓nSs2, ↓nEs1, ↓nEs2, ↓nB1, ↓nB2, ↓nB3, ↓nA1, ↓nA2, ↓nA3, ↓nT1, ↓reduceIte, bnm, btp, setAll, wipeL, endsOf, getz, gets, setz, sets, lenc, lenn, v_add, v_sub, v_mul, v_fdiv, v_mod, v_pow, v_adds, v_addt, v_mult, v_muls, v_addl, v_eq, v_ne, v_lt, v_le, v_gt, v_ge, v_is, v_nis, v_isb, v_nisb, v_les, v_in, v_nin, t_non, t_bl, t_int, t_str, t_tup, t_loc, b_lens, b_lent, b_lenl, b_int, b_intb, b_abs, b_min, b_max, b_str, b_strs, b_tupt, b_tupl, b_lstt, b_lstl, b_all, b_any, b_ord, r_append, r_extend, r_pop, r_pop1, r_reverse, r_get1, r_get2, r_setd, m_app, m_ext, m_pop, m_pop1, m_rev, m_get1, m_get2, f_get, f_set, f_mth, r_str, m_starts, m_split, m_rstrp, m_rmpre, m_isasc, m_isdig, t37_2, b37_2, v_addl (m_of x2) (m_of x1)]
  refine ⟨by simp [e4.1, big]; omega, ?_⟩
  generalize hLs : (L.map (fun x => if s < x then s else x)).map Val.int ++ [Val.int s] = Ls
  have eLs : Ls = (L.map (fun x => if s < x then s else x) ++ [s]).map Val.int := by rw [← hLs]; simp
  generalize hS4 : S3 ++ [SObj.lst [.int s]] ++ [SObj.lst Ls] = S4
  have s34 : Sub S3 S4 := by rw [← hS4]; exact Sub.app.trans Sub.app
  have n34 : S4[(S3 ++ [SObj.lst [.int s]]).length]? = some (.lst Ls) := by rw [← hS4]; exact get_new
  generalize hq : (S3 ++ [SObj.lst [.int s]]).length = q4 at n34
  have hq3 : S3.length < q4 := by rw [← hq]; simp
  have h4 := h33.sub s34
  obtain ⟨g, r1, r2⟩ := h4.rows
  obtain ⟨f, f1, f2⟩ := h4.least
  have pq : (PM.subS (.loc d2) (.int (p : Int)) (.loc q4) S4) = fun Q => (rngK c f).length < big ∧ Q (S4.set d2 (.dK (rngK c fun i => if i = p then .loc q4 else f i))) := by
    funext Q
    simp only [subS, f1, setK_rng hp]
  simp only [f_get h4.obj (fok_1_16 (l := l)) (v := .loc d2) rfl, pq, len_rng]
  refine ⟨by unfold big; omega, ?_⟩
  generalize hS5 : S4.set d2 (.dK (rngK c fun i => if i = p then .loc q4 else f i)) = S5
  have d2l := get_lt f1
  have g5 : ∀ i, i ≠ d2 → S5[i]? = S4[i]? := fun i hi => by rw [← hS5, List.getElem?_set_ne (fun z => hi z.symm)]
  have n5 : S5[d2]? = some (.dK (rngK c fun i => if i = p then .loc q4 else f i)) := by rw [← hS5, List.getElem?_set, if_pos rfl, if_pos d2l]
  have h5 : EndsAt S5 o d1 d2 c R ∨ True := .inr trivial
  have o5 : S5[o]? = some (.ins 1 [(15, .loc d1), (16, .loc d2)]) := by
    rw [g5 o (fun z => by have := h4.obj; rw [z, f1] at this; cases this)]
    exact h4.obj
  obtain ⟨mr, er, qr⟩ := r2 p hp
  have r5 : S5[d1]? = some (.dK (rngK c g)) := by rw [g5 d1 h.ne]; exact r1
  have m5 : ∀ (i : Nat) (L : List Int), S4[i]? = some (.lst (L.map Val.int)) → S5[i]? = some (.lst (L.map Val.int)) := fun i L e => by
    rw [g5 i (fun z => by rw [z, f1] at e; cases e)]; exact e
  have sn5 : Sub S5 (S5 ++ [SObj.lst []]) := Sub.app
  -- row(process) is the method 38: walked by its own
  have c38' : ∀ {Q' : VQ}, (∀ S' m, Sub S5 S' → S5.length ≤ m → S'[m]? = some (.lst ((R p).map Val.int)) → Q' (.loc m) S') → callN (UP l) (n + 1) 38 [.loc o, .int (p : Int)] S5 Q' E := fun {Q'} kk => by
    rw [u38]
    simp only [b38_0, b38, ↓nE1, ↓nE2, ↓nE3, ↓nE4, ↓nE5, ↓nE6, ↓nE7, ↓nE8, ↓nE9, ↓nE10, ↓nE11, ↓nE12, ↓nE13, ↓nE14, ↓nE15, ↓nE16, ↓nE17, ↓nE18, ↓nE19, ↓nE20, ↓nE21, ↓nE22, ↓nE23, ↓nE24, ↓nE25, ↓nE26, ↓nE27, ↓nE28, ↓nE29, ↓nE30, ↓nS1, ↓nS2, ↓nS3, ↓nS4, ↓nS5, ↓nS6, ↓nS7, ↓nS8, ↓nS9, ↓nS10, ↓nS11, ↓nS12, ↓nS13, ↓nS14, ↓nS15, ↓nS16, ↓nS17, ↓nS18, ↓nS19, ↓nS20, ↓nSs1, ↓nSs2, ↓nEs1, ↓nEs2, ↓nB1, ↓nB2, ↓nB3, ↓nA1, ↓nA2, ↓nA3, ↓nT1, ↓reduceIte, bnm, btp, setAll, wipeL, endsOf, getz, gets, setz, sets, lenc, lenn, v_add, v_sub, v_mul, v_fdiv, v_mod, v_pow, v_adds, v_addt, v_mult, v_muls, v_addl, v_eq, v_ne, v_lt, v_le, v_gt, v_ge, v_is, v_nis, v_isb, v_nisb, v_les, v_in, v_nin, t_non, t_bl, t_int, t_str, t_tup, t_loc, b_lens, b_lent, b_lenl, b_int, b_intb, b_abs, b_min, b_max, b_str, b_strs, b_tupt, b_tupl, b_lstt, b_lstl, b_all, b_any, b_ord, r_append, r_extend, r_pop, r_pop1, r_reverse, r_get1, r_get2, r_setd, m_app, m_ext, m_pop, m_pop1, m_rev, m_get1, m_get2, f_get, f_set, f_mth, r_str, m_starts, m_split, m_rstrp, m_rmpre, m_isasc, m_isdig, f_get o5 (fok_1_15 (l := l)) (v := .loc d1) rfl, r_get2 (dk_of r5), m_get2 (dk_of (sn5 _ _ r5)) key_nat, getK_rng hp, er, Option.getD_some, b_lstl (n_of (sn5 _ _ (m5 _ _ qr))), true_and]
    exact kk _ _ (sn5.trans Sub.app) (by simp) get_new
  simp only [↓nE1, ↓nE2, ↓nE3, ↓nE4, ↓nE5, ↓nE6, ↓nE7, ↓nE8, ↓nE9, ↓nE10, ↓nE11, ↓nE12, ↓nE13, ↓nE14, ↓nE15, ↓nE16, ↓nE17, ↓nE18, ↓nE19, ↓nE20, ↓nE21, ↓nE22, ↓nE23, ↓nE24, ↓nE25, ↓nE26, ↓nE27, ↓nE28, ↓nE29, ↓nE30, ↓nS1, ↓nS2, ↓nS3, ↓nS4, ↓nS5, ↓nS6, ↓nS7, ↓nS8, ↓nS9, ↓nS10, ↓nS11, ↓nS12, ↓nS13, ↓nS14, ↓nS15, ↓nS16, ↓nS17, ↓nS18, ↓nS19, ↓nS20, ↓nSs1, ↓nSs2, ↓nEs1, ↓nEs2, ↓nB1, ↓nB2, ↓nB3, ↓nA1, ↓nA2, ↓nA3, ↓nT1, ↓reduceIte, bnm, btp, setAll, wipeL, endsOf, getz, gets, setz, sets, lenc, lenn, v_add, v_sub, v_mul, v_fdiv, v_mod, v_pow, v_adds, v_addt, v_mult, v_muls, v_addl, v_eq, v_ne, v_lt, v_le, v_gt, v_ge, v_is, v_nis, v_isb, v_nisb, v_les, v_in, v_nin, t_non, t_bl, t_int, t_str, t_tup, t_loc, b_lens, b_lent, b_lenl, b_int, b_intb, b_abs, b_min, b_max, b_str, b_strs, b_tupt, b_tupl, b_lstt, b_lstl, b_all, b_any, b_ord, r_append, r_extend, r_pop, r_pop1, r_reverse, r_get1, r_get2, r_setd, m_app, m_ext, m_pop, m_pop1, m_rev, m_get1, m_get2, f_get, f_set, f_mth, r_str, m_starts, m_split, m_rstrp, m_rmpre, m_isasc, m_isdig, t37_3, b37_3, f_mth o5 (a := 20) rfl (mth_1_20 (l := l))]
  refine c38' fun S6 m6 s6 l6 q6 => ?_
  have y1 : (S6 ++ [SObj.lst [.int s]])[S6.length]? = some (.lst [.int s]) := get_new
  have y2 := Sub.app (t := [SObj.lst [.int s]]) _ _ q6
  simp only [↓nE1, ↓nE2, ↓nE3, ↓nE4, ↓nE5, ↓nE6, ↓nE7, ↓nE8, ↓nE9, ↓nE10, ↓nE11, ↓nE12, ↓nE13, ↓nE14, ↓nE15, ↓nE16, ↓nE17, ↓nE18, ↓nE19, ↓nE20, ↓nE21, ↓nE22, ↓nE23, ↓nE24, ↓nE25, ↓nE26, ↓nE27, ↓nE28, ↓nE29, ↓nE30, ↓nS1, ↓nS2, ↓nS3, ↓nS4, ↓nS5, ↓nS6, ↓nS7, ↓nS8, ↓nS9, ↓nS10, ↓nS11, ↓nS12, ↓nS13, ↓nS14, ↓nS15, ↓nS16, ↓nS17, ↓nS18, ↓nS19, ↓nS20, ↓nSs1, ↓nSs2, ↓nEs1, ↓nEs2, ↓nB1, ↓nB2, ↓nB3, ↓nA1, ↓nA2, ↓nA3, ↓nT1, ↓reduceIte, bnm, btp, setAll, wipeL, endsOf, getz, gets, setz, sets, lenc, lenn, v_add, v_sub, v_mul, v_fdiv, v_mod, v_pow, v_adds, v_addt, v_mult, v_muls, v_addl, v_eq, v_ne, v_lt, v_le, v_gt, v_ge, v_is, v_nis, v_isb, v_nisb, v_les, v_in, v_nin, t_non, t_bl, t_int, t_str, t_tup, t_loc, b_lens, b_lent, b_lenl, b_int, b_intb, b_abs, b_min, b_max, b_str, b_strs, b_tupt, b_tupl, b_lstt, b_lstl, b_all, b_any, b_ord, r_append, r_extend, r_pop, r_pop1, r_reverse, r_get1, r_get2, r_setd, m_app, m_ext, m_pop, m_pop1, m_rev, m_get1, m_get2, f_get, f_set, f_mth, r_str, m_starts, m_split, m_rstrp, m_rmpre, m_isasc, m_isdig, v_addl (m_of y2) (m_of y1)]
  refine ⟨by simp [big]; omega, ?_⟩
  generalize hRs : (R p).map Val.int ++ [Val.int s] = Rs
  have eRs : Rs = (R p ++ [s]).map Val.int := by rw [← hRs]; simp
  generalize hS7 : S6 ++ [SObj.lst [.int s]] ++ [SObj.lst Rs] = S7
  have s67 : Sub S6 S7 := by rw [← hS7]; exact Sub.app.trans Sub.app
  have n67 : S7[(S6 ++ [SObj.lst [.int s]]).length]? = some (.lst Rs) := by rw [← hS7]; exact get_new
  generalize (S6 ++ [SObj.lst [.int s]]).length = q7 at n67
  have s57 := s6.trans s67
  have pq7 : (PM.subS (.loc d1) (.int (p : Int)) (.loc q7) S7) = fun Q => (rngK c g).length < big ∧ Q (S7.set d1 (.dK (rngK c fun i => if i = p then .loc q7 else g i))) := by
    funext Q
    simp only [subS, s57 _ _ r5, setK_rng hp]
  simp only [↓nE1, ↓nE2, ↓nE3, ↓nE4, ↓nE5, ↓nE6, ↓nE7, ↓nE8, ↓nE9, ↓nE10, ↓nE11, ↓nE12, ↓nE13, ↓nE14, ↓nE15, ↓nE16, ↓nE17, ↓nE18, ↓nE19, ↓nE20, ↓nE21, ↓nE22, ↓nE23, ↓nE24, ↓nE25, ↓nE26, ↓nE27, ↓nE28, ↓nE29, ↓nE30, ↓nS1, ↓nS2, ↓nS3, ↓nS4, ↓nS5, ↓nS6, ↓nS7, ↓nS8, ↓nS9, ↓nS10, ↓nS11, ↓nS12, ↓nS13, ↓nS14, ↓nS15, ↓nS16, ↓nS17, ↓nS18, ↓nS19, ↓nS20, ↓nSs1, ↓nSs2, ↓nEs1, ↓nEs2, ↓nB1, ↓nB2, ↓nB3, ↓nA1, ↓nA2, ↓nA3, ↓nT1, ↓reduceIte, bnm, btp, setAll, wipeL, endsOf, getz, gets, setz, sets, lenc, lenn, v_add, v_sub, v_mul, v_fdiv, v_mod, v_pow, v_adds, v_addt, v_mult, v_muls, v_addl, v_eq, v_ne, v_lt, v_le, v_gt, v_ge, v_is, v_nis, v_isb, v_nisb, v_les, v_in, v_nin, t_non, t_bl, t_int, t_str, t_tup, t_loc, b_lens, b_lent, b_lenl, b_int, b_intb, b_abs, b_min, b_max, b_str, b_strs, b_tupt, b_tupl, b_lstt, b_lstl, b_all, b_any, b_ord, r_append, r_extend, r_pop, r_pop1, r_reverse, r_get1, r_get2, r_setd, m_app, m_ext, m_pop, m_pop1, m_rev, m_get1, m_get2, f_get, f_set, f_mth, r_str, m_starts, m_split, m_rstrp, m_rmpre, m_isasc, m_isdig, f_get (s57 _ _ o5) (fok_1_15 (l := l)) (v := .loc d1) rfl, pq7, len_rng, t37_4, b37_4]
  refine ⟨by unfold big; omega, ?_⟩
  generalize hS8 : S7.set d1 (.dK (rngK c fun i => if i = p then .loc q7 else g i)) = S8
  have d1l := get_lt (s57 _ _ r5)
  have g8 : ∀ i, i ≠ d1 → S8[i]? = S7[i]? := fun i hi => by rw [← hS8, List.getElem?_set_ne (fun z => hi z.symm)]
  have n8 : S8[d1]? = some (.dK (rngK c fun i => if i = p then .loc q7 else g i)) := by rw [← hS8, List.getElem?_set, if_pos rfl, if_pos d1l]
  have m8 : ∀ (i : Nat) (L : List Int), S7[i]? = some (.lst (L.map Val.int)) → S8[i]? = some (.lst (L.map Val.int)) := fun i L e => by
    rw [g8 i (fun z => by rw [z, s57 _ _ r5] at e; cases e)]; exact e
  have m48 : ∀ (i : Nat) (L : List Int), S4[i]? = some (.lst (L.map Val.int)) → S8[i]? = some (.lst (L.map Val.int)) := fun i L e => m8 i L (s57 _ _ (m5 i L e))
  refine k1 hv S8 (fun i u hi e => ?_) ⟨?_, h.ne, ⟨_, n8, fun i hi => ?_⟩, ⟨_, by rw [g8 d2 h.ne.symm]; exact s57 _ _ n5, fun i hi => ?_⟩⟩
  · simp only [List.mem_cons, List.not_mem_nil, or_false, not_or] at hi
    rw [g8 i hi.1]
    refine s57 _ _ ?_
    rw [g5 i hi.2]
    exact s34 _ _ (s13 _ _ e)
  · rw [g8 o (fun z => by have := o5; rw [z, r5] at this; cases this)]
    exact s57 _ _ o5
  · by_cases hip : i = p
    · subst hip
      refine ⟨q7, if_pos rfl, ?_⟩
      unfold upR
      rw [if_pos rfl, ← eRs]
      rw [g8 q7 (fun z => by rw [z, s57 _ _ r5] at n67; cases n67)]
      exact n67
    · obtain ⟨mi, ei, qi⟩ := r2 i hi
      refine ⟨mi, (if_neg hip).trans ei, ?_⟩
      unfold upR
      rw [if_neg hip]
      exact m48 _ _ qi
  · by_cases hip : i = p
    · subst hip
      refine ⟨q4, L.map (fun x => if s < x then s else x) ++ [s], if_pos rfl, ?_, ?_⟩
      · rw [← eLs]
        have := m48 q4 _ (by rw [← eLs]; exact n34)
        rw [← eLs] at this
        exact this
      · unfold upR
        rw [if_pos rfl]
        exact e4.add s
    · obtain ⟨mi, Li, ei, qi, hi2⟩ := f2 i hi
      refine ⟨mi, Li, (if_neg hip).trans ei, m48 _ _ qi, ?_⟩
      unfold upR
      rw [if_neg hip]
      exact hi2
end
end My

namespace My
open PySem PM
variable {l : LP}
structure FirmAt (S : Sto) (f e dt c : Nat) (T : Nat → Int × Int) : Prop where
  obj : S[f]? = some (.ins 2 [(17, .loc e), (18, .loc dt)])
  tab : S[dt]? = some (.dK (rngK c fun p => pV (T p)))
theorem FirmAt.subX {S S' : Sto} {f e dt c : Nat} {T : Nat → Int × Int} {w : List Nat} (h : FirmAt S f e dt c T) (s : SubX w S S') (h1 : f ∉ w) (h2 : dt ∉ w) : FirmAt S' f e dt c T := ⟨s _ _ h1 h.obj, s _ _ h2 h.tab⟩
theorem FirmAt.sub {S S' : Sto} {f e dt c : Nat} {T : Nat → Int × Int} (h : FirmAt S f e dt c T) (s : Sub S S') : FirmAt S' f e dt c T := h.subX (w := []) s.toX (fun x => by cases x) (fun x => by cases x)
section
variable {o d1 d2 c n : Nat} {R : Nat → List Int} {S : Sto} {Q : VQ} {E : XQ}
theorem c35 (h : S[o]? = some (.ins 1 [])) (hc : c ≤ 1000) (k : ∀ S' d1 d2, SubX [o] S S' → S.length ≤ d1 → S.length ≤ d2 → EndsAt S' o d1 d2 c (fun _ => []) → Q .non S') : callN (UP l) (n + 1) 35 [.loc o, .int (c : Int)] S Q E := by
  have lo := get_lt h
  rw [u35]
  generalize hρ : ([some (Val.loc o), some (Val.int (c : Int)), none] : LE) = ρ
  rw [b35, b35_0]
  refine Ss_cons ?_
  refine S_fsetE ?_
  refine dc_nil (c := c) ?_ ?_ hc ?_
  · subst hρ; exact rfl
  · subst hρ; simp only [lenc, lenn]; decide
  intro S1 g s1 h1 h2
  subst hρ
  have o1 := s1 _ _ h
  simp only [↓nE1, ↓nE2, ↓nE3, ↓nE4, ↓nE5, ↓nE6, ↓nE7, ↓nE8, ↓nE9, ↓nE10, ↓nE11, ↓nE12, ↓nE13, ↓nE14, ↓nE15, ↓nE16, ↓nE17, ↓nE18, ↓nE19, ↓nE20, ↓nE21, ↓nE22, ↓nE23, ↓nE24, ↓nE25, ↓nE26, ↓nE27, ↓nE28, ↓nE29, ↓nE30, ↓nS1, ↓nS2, ↓nS3, ↓nS4, ↓nS5, ↓nS6, ↓nS7, ↓nS8, ↓nS9, ↓nS10, ↓nS11, ↓nS12, ↓nS13, ↓nS14, ↓nS15, ↓nS16, ↓nS17, ↓nS18, ↓nS19, ↓nS20, ↓nSs1, ↓nSs2, ↓nEs1, ↓nEs2, ↓nB1, ↓nB2, ↓nB3, ↓nA1, ↓nA2, ↓nA3, ↓nT1, ↓reduceIte, bnm, btp, setAll, wipeL, endsOf, getz, gets, setz, sets, lenc, lenn, v_add, v_sub, v_mul, v_fdiv, v_mod, v_pow, v_adds, v_addt, v_mult, v_muls, v_addl, v_eq, v_ne, v_lt, v_le, v_gt, v_ge, v_is, v_nis, v_isb, v_nisb, v_les, v_in, v_nin, t_non, t_bl, t_int, t_str, t_tup, t_loc, b_lens, b_lent, b_lenl, b_int, b_intb, b_abs, b_min, b_max, b_str, b_strs, b_tupt, b_tupl, b_lstt, b_lstl, b_all, b_any, b_ord, r_append, r_extend, r_pop, r_pop1, r_reverse, r_get1, r_get2, r_setd, m_app, m_ext, m_pop, m_pop1, m_rev, m_get1, m_get2, f_get, f_set, f_mth, r_str, m_starts, m_split, m_rstrp, m_rmpre, m_isasc, m_isdig, f_set o1 (fok_1_15 (l := l)) (by simp only [lenc, lenn]; decide), putA]
  generalize hS2 : S1.set o (.ins 1 [(15, .loc S.length)]) = S2
  have g2 : ∀ i, i ≠ o → S2[i]? = S1[i]? := fun i hi => by rw [← hS2, List.getElem?_set_ne (fun z => hi z.symm)]
  have o2 : S2[o]? = some (.ins 1 [(15, .loc S.length)]) := by rw [← hS2, List.getElem?_set, if_pos rfl, if_pos (get_lt o1)]
  have l2 : S2.length = S1.length := by rw [← hS2]; simp
  generalize hρ : ([some (Val.loc o), some (Val.int (c : Int)), none] : LE) = ρ
  rw [t35_1, b35_1]
  refine Ss_cons ?_
  refine S_fsetE ?_
  refine dc_nil (c := c) ?_ ?_ hc ?_
  · subst hρ; exact rfl
  · subst hρ; simp only [lenc, lenn]; decide
  intro S3 f s3 h3 h4
  subst hρ
  simp only [↓nE1, ↓nE2, ↓nE3, ↓nE4, ↓nE5, ↓nE6, ↓nE7, ↓nE8, ↓nE9, ↓nE10, ↓nE11, ↓nE12, ↓nE13, ↓nE14, ↓nE15, ↓nE16, ↓nE17, ↓nE18, ↓nE19, ↓nE20, ↓nE21, ↓nE22, ↓nE23, ↓nE24, ↓nE25, ↓nE26, ↓nE27, ↓nE28, ↓nE29, ↓nE30, ↓nS1, ↓nS2, ↓nS3, ↓nS4, ↓nS5, ↓nS6, ↓nS7, ↓nS8, ↓nS9, ↓nS10, ↓nS11, ↓nS12, ↓nS13, ↓nS14, ↓nS15, ↓nS16, ↓nS17, ↓nS18, ↓nS19, ↓nS20, ↓nSs1, ↓nSs2, ↓nEs1, ↓nEs2, ↓nB1, ↓nB2, ↓nB3, ↓nA1, ↓nA2, ↓nA3, ↓nT1, ↓reduceIte, bnm, btp, setAll, wipeL, endsOf, getz, gets, setz, sets, lenc, lenn, v_add, v_sub, v_mul, v_fdiv, v_mod, v_pow, v_adds, v_addt, v_mult, v_muls, v_addl, v_eq, v_ne, v_lt, v_le, v_gt, v_ge, v_is, v_nis, v_isb, v_nisb, v_les, v_in, v_nin, t_non, t_bl, t_int, t_str, t_tup, t_loc, b_lens, b_lent, b_lenl, b_int, b_intb, b_abs, b_min, b_max, b_str, b_strs, b_tupt, b_tupl, b_lstt, b_lstl, b_all, b_any, b_ord, r_append, r_extend, r_pop, r_pop1, r_reverse, r_get1, r_get2, r_setd, m_app, m_ext, m_pop, m_pop1, m_rev, m_get1, m_get2, f_get, f_set, f_mth, r_str, m_starts, m_split, m_rstrp, m_rmpre, m_isasc, m_isdig, f_set (s3 _ _ o2) (fok_1_16 (l := l)) (by simp only [lenc, lenn]; decide), putA]
  generalize hS4 : S3.set o (.ins 1 _) = S4
  have g4 : ∀ i, i ≠ o → S4[i]? = S3[i]? := fun i hi => by rw [← hS4, List.getElem?_set_ne (fun z => hi z.symm)]
  have o4 : S4[o]? = some (.ins 1 [(15, .loc S.length), (16, .loc S2.length)]) := by rw [← hS4, List.getElem?_set, if_pos rfl, if_pos (get_lt (s3 _ _ o2))]; rfl
  have lS1 := s1.len
  have l1 := get_lt h1
  have g : ∀ i u, i ≠ o → S1[i]? = some u → S4[i]? = some u := fun i u hi e => by
    rw [g4 i hi]
    exact s3 _ _ (by rw [g2 i hi]; exact e)
  refine k S4 S.length S2.length (fun i u hi e => g i u (by simpa using hi) (s1 _ _ e)) (Nat.le_refl _) (by omega) ⟨o4, by omega, ⟨_, g _ _ (by omega) h1, fun p hp => ?_⟩, ⟨_, by rw [g4 _ (by omega)]; exact h3, fun p hp => ?_⟩⟩
  · obtain ⟨m, e, q1, q2⟩ := h2 p hp
    exact ⟨m, e, g _ _ (by omega) q2⟩
  · obtain ⟨m, e, q1, q2⟩ := h4 p hp
    exact ⟨m, [], e, by rw [g4 _ (by omega)]; exact q2, LeastOf.nil⟩
variable {f e dt : Nat} {T : Nat → Int × Int}
theorem c42 (h : S[f]? = some (.ins 2 [])) (hc : c ≤ 1000) (k : ∀ S' dt, SubX [f] S S' → S.length ≤ dt → FirmAt S' f e dt c (fun _ => (0, 0)) → Q .non S') : callN (UP l) (n + 1) 42 [.loc f, .int (c : Int), .loc e] S Q E := by
  have lo := get_lt h
  rw [u42, b42, b42_0, nSs2]
  simp only [↓nE1, ↓nE2, ↓nE3, ↓nE4, ↓nE5, ↓nE6, ↓nE7, ↓nE8, ↓nE9, ↓nE10, ↓nE11, ↓nE12, ↓nE13, ↓nE14, ↓nE15, ↓nE16, ↓nE17, ↓nE18, ↓nE19, ↓nE20, ↓nE21, ↓nE22, ↓nE23, ↓nE24, ↓nE25, ↓nE26, ↓nE27, ↓nE28, ↓nE29, ↓nE30, ↓nS1, ↓nS2, ↓nS3, ↓nS4, ↓nS5, ↓nS6, ↓nS7, ↓nS8, ↓nS9, ↓nS10, ↓nS11, ↓nS12, ↓nS13, ↓nS14, ↓nS15, ↓nS16, ↓nS17, ↓nS18, ↓nS19, ↓nS20, ↓nSs1, ↓nSs2, ↓nEs1, ↓nEs2, ↓nB1, ↓nB2, ↓nB3, ↓nA1, ↓nA2, ↓nA3, ↓nT1, ↓reduceIte, bnm, btp, setAll, wipeL, endsOf, getz, gets, setz, sets, lenc, lenn, v_add, v_sub, v_mul, v_fdiv, v_mod, v_pow, v_adds, v_addt, v_mult, v_muls, v_addl, v_eq, v_ne, v_lt, v_le, v_gt, v_ge, v_is, v_nis, v_isb, v_nisb, v_les, v_in, v_nin, t_non, t_bl, t_int, t_str, t_tup, t_loc, b_lens, b_lent, b_lenl, b_int, b_intb, b_abs, b_min, b_max, b_str, b_strs, b_tupt, b_tupl, b_lstt, b_lstl, b_all, b_any, b_ord, r_append, r_extend, r_pop, r_pop1, r_reverse, r_get1, r_get2, r_setd, m_app, m_ext, m_pop, m_pop1, m_rev, m_get1, m_get2, f_get, f_set, f_mth, r_str, m_starts, m_split, m_rstrp, m_rmpre, m_isasc, m_isdig, f_set h (fok_2_17 (l := l)) (by simp only [lenc, lenn]; decide), putA]
  generalize hS1 : S.set f (.ins 2 [(17, .loc e)]) = S1
  have o1 : S1[f]? = some (.ins 2 [(17, .loc e)]) := by rw [← hS1, List.getElem?_set, if_pos rfl, if_pos lo]
  have l1 : S1.length = S.length := by rw [← hS1]; simp
  have g1 : ∀ i, i ≠ f → S1[i]? = S[i]? := fun i hi => by rw [← hS1, List.getElem?_set_ne (fun z => hi z.symm)]
  generalize hρ : ([some (Val.loc f), some (Val.int (c : Int)), some (Val.loc e), none] : LE) = ρ
  rw [t42_1, b42_1]
  refine Ss_cons ?_
  refine S_fsetE ?_
  refine dc_same (c := c) (y := .tup [.int 0, .int 0]) ?_ ?_ hc ?_ ?_
  · subst hρ; exact rfl
  · subst hρ; simp only [lenc, lenn]; decide
  · intro ρ' S' Q' q
    simp only [↓nE1, ↓nE2, ↓nE3, ↓nE4, ↓nE5, ↓nE6, ↓nE7, ↓nE8, ↓nE9, ↓nE10, ↓nE11, ↓nE12, ↓nE13, ↓nE14, ↓nE15, ↓nE16, ↓nE17, ↓nE18, ↓nE19, ↓nE20, ↓nE21, ↓nE22, ↓nE23, ↓nE24, ↓nE25, ↓nE26, ↓nE27, ↓nE28, ↓nE29, ↓nE30, ↓nS1, ↓nS2, ↓nS3, ↓nS4, ↓nS5, ↓nS6, ↓nS7, ↓nS8, ↓nS9, ↓nS10, ↓nS11, ↓nS12, ↓nS13, ↓nS14, ↓nS15, ↓nS16, ↓nS17, ↓nS18, ↓nS19, ↓nS20, ↓nSs1, ↓nSs2, ↓nEs1, ↓nEs2, ↓nB1, ↓nB2, ↓nB3, ↓nA1, ↓nA2, ↓nA3, ↓nT1, ↓reduceIte, bnm, btp, setAll, wipeL, endsOf, getz, gets, setz, sets, lenc, lenn, v_add, v_sub, v_mul, v_fdiv, v_mod, v_pow, v_adds, v_addt, v_mult, v_muls, v_addl, v_eq, v_ne, v_lt, v_le, v_gt, v_ge, v_is, v_nis, v_isb, v_nisb, v_les, v_in, v_nin, t_non, t_bl, t_int, t_str, t_tup, t_loc, b_lens, b_lent, b_lenl, b_int, b_intb, b_abs, b_min, b_max, b_str, b_strs, b_tupt, b_tupl, b_lstt, b_lstl, b_all, b_any, b_ord, r_append, r_extend, r_pop, r_pop1, r_reverse, r_get1, r_get2, r_setd, m_app, m_ext, m_pop, m_pop1, m_rev, m_get1, m_get2, f_get, f_set, f_mth, r_str, m_starts, m_split, m_rstrp, m_rmpre, m_isasc, m_isdig]
    exact q
  intro S2 s h1
  subst hρ
  have lf : f < S2.length := Nat.lt_of_lt_of_le lo (by have := s.len; omega)
  simp only [↓nE1, ↓nE2, ↓nE3, ↓nE4, ↓nE5, ↓nE6, ↓nE7, ↓nE8, ↓nE9, ↓nE10, ↓nE11, ↓nE12, ↓nE13, ↓nE14, ↓nE15, ↓nE16, ↓nE17, ↓nE18, ↓nE19, ↓nE20, ↓nE21, ↓nE22, ↓nE23, ↓nE24, ↓nE25, ↓nE26, ↓nE27, ↓nE28, ↓nE29, ↓nE30, ↓nS1, ↓nS2, ↓nS3, ↓nS4, ↓nS5, ↓nS6, ↓nS7, ↓nS8, ↓nS9, ↓nS10, ↓nS11, ↓nS12, ↓nS13, ↓nS14, ↓nS15, ↓nS16, ↓nS17, ↓nS18, ↓nS19, ↓nS20, ↓nSs1, ↓nSs2, ↓nEs1, ↓nEs2, ↓nB1, ↓nB2, ↓nB3, ↓nA1, ↓nA2, ↓nA3, ↓nT1, ↓reduceIte, bnm, btp, setAll, wipeL, endsOf, getz, gets, setz, sets, lenc, lenn, v_add, v_sub, v_mul, v_fdiv, v_mod, v_pow, v_adds, v_addt, v_mult, v_muls, v_addl, v_eq, v_ne, v_lt, v_le, v_gt, v_ge, v_is, v_nis, v_isb, v_nisb, v_les, v_in, v_nin, t_non, t_bl, t_int, t_str, t_tup, t_loc, b_lens, b_lent, b_lenl, b_int, b_intb, b_abs, b_min, b_max, b_str, b_strs, b_tupt, b_tupl, b_lstt, b_lstl, b_all, b_any, b_ord, r_append, r_extend, r_pop, r_pop1, r_reverse, r_get1, r_get2, r_setd, m_app, m_ext, m_pop, m_pop1, m_rev, m_get1, m_get2, f_get, f_set, f_mth, r_str, m_starts, m_split, m_rstrp, m_rmpre, m_isasc, m_isdig, f_set (s _ _ o1) (fok_2_18 (l := l)) (by simp only [lenc, lenn]; decide), putA]
  generalize hS3 : S2.set f (.ins 2 _) = S3
  refine k S3 S1.length (fun i u hi e => ?_) (by omega) ⟨by rw [← hS3, List.getElem?_set, if_pos rfl, if_pos lf]; rfl, ?_⟩
  · have hif : i ≠ f := by simpa using hi
    rw [← hS3, List.getElem?_set_ne (fun z => hif z.symm)]
    exact s _ _ (by rw [g1 i hif]; exact e)
  · rw [← hS3, List.getElem?_set_ne (by omega), h1]
    rfl
theorem c45 {p : Nat} (h : FirmAt S f e dt c T) (hp : p < c) (k : Q (pV (T p)) S) : callN (UP l) (n + 1) 45 [.loc f, .int (p : Int)] S Q E := by
  rw [u45]
  simp only [b45_0, b45, ↓nE1, ↓nE2, ↓nE3, ↓nE4, ↓nE5, ↓nE6, ↓nE7, ↓nE8, ↓nE9, ↓nE10, ↓nE11, ↓nE12, ↓nE13, ↓nE14, ↓nE15, ↓nE16, ↓nE17, ↓nE18, ↓nE19, ↓nE20, ↓nE21, ↓nE22, ↓nE23, ↓nE24, ↓nE25, ↓nE26, ↓nE27, ↓nE28, ↓nE29, ↓nE30, ↓nS1, ↓nS2, ↓nS3, ↓nS4, ↓nS5, ↓nS6, ↓nS7, ↓nS8, ↓nS9, ↓nS10, ↓nS11, ↓nS12, ↓nS13, ↓nS14, ↓nS15, ↓nS16, ↓nS17, ↓nS18, ↓nS19, ↓nS20, ↓nSs1, ↓nSs2, ↓nEs1, ↓nEs2, ↓nB1, ↓nB2, ↓nB3, ↓nA1, ↓nA2, ↓nA3, ↓nT1, ↓reduceIte, bnm, btp, setAll, wipeL, endsOf, getz, gets, setz, sets, lenc, lenn, v_add, v_sub, v_mul, v_fdiv, v_mod, v_pow, v_adds, v_addt, v_mult, v_muls, v_addl, v_eq, v_ne, v_lt, v_le, v_gt, v_ge, v_is, v_nis, v_isb, v_nisb, v_les, v_in, v_nin, t_non, t_bl, t_int, t_str, t_tup, t_loc, b_lens, b_lent, b_lenl, b_int, b_intb, b_abs, b_min, b_max, b_str, b_strs, b_tupt, b_tupl, b_lstt, b_lstl, b_all, b_any, b_ord, r_append, r_extend, r_pop, r_pop1, r_reverse, r_get1, r_get2, r_setd, m_app, m_ext, m_pop, m_pop1, m_rev, m_get1, m_get2, f_get, f_set, f_mth, r_str, m_starts, m_split, m_rstrp, m_rmpre, m_isasc, m_isdig, f_get h.obj (fok_2_18 (l := l)) (v := .loc dt) rfl, r_get2 (dk_of h.tab), m_get2 (dk_of h.tab) key_nat, getK_rng hp, Option.getD_some, true_and]
  exact k
def upT (T : Nat → Int × Int) (p : Nat) (q : Int × Int) : Nat → Int × Int := fun i => if i = p then pmx (T i) q else T i
theorem c43 {p : Nat} {v s : Int} (h : FirmAt S f e dt c T) (hp : p < c) (hc : c ≤ 1000) (k : ∀ S', SubX [dt] S S' → FirmAt S' f e dt c (upT T p (v, s)) → Q .non S') : callN (UP l) (n + 2) 43 [.loc f, .int (p : Int), .int v, .int s] S Q E := by
  rw [u43]
  simp only [b43, b43_0, ↓nE1, ↓nE2, ↓nE3, ↓nE4, ↓nE5, ↓nE6, ↓nE7, ↓nE8, ↓nE9, ↓nE10, ↓nE11, ↓nE12, ↓nE13, ↓nE14, ↓nE15, ↓nE16, ↓nE17, ↓nE18, ↓nE19, ↓nE20, ↓nE21, ↓nE22, ↓nE23, ↓nE24, ↓nE25, ↓nE26, ↓nE27, ↓nE28, ↓nE29, ↓nE30, ↓nS1, ↓nS2, ↓nS3, ↓nS4, ↓nS5, ↓nS6, ↓nS7, ↓nS8, ↓nS9, ↓nS10, ↓nS11, ↓nS12, ↓nS13, ↓nS14, ↓nS15, ↓nS16, ↓nS17, ↓nS18, ↓nS19, ↓nS20, ↓nSs1, ↓nSs2, ↓nEs1, ↓nEs2, ↓nB1, ↓nB2, ↓nB3, ↓nA1, ↓nA2, ↓nA3, ↓nT1, ↓reduceIte, bnm, btp, setAll, wipeL, endsOf, getz, gets, setz, sets, lenc, lenn, v_add, v_sub, v_mul, v_fdiv, v_mod, v_pow, v_adds, v_addt, v_mult, v_muls, v_addl, v_eq, v_ne, v_lt, v_le, v_gt, v_ge, v_is, v_nis, v_isb, v_nisb, v_les, v_in, v_nin, t_non, t_bl, t_int, t_str, t_tup, t_loc, b_lens, b_lent, b_lenl, b_int, b_intb, b_abs, b_min, b_max, b_str, b_strs, b_tupt, b_tupl, b_lstt, b_lstl, b_all, b_any, b_ord, r_append, r_extend, r_pop, r_pop1, r_reverse, r_get1, r_get2, r_setd, m_app, m_ext, m_pop, m_pop1, m_rev, m_get1, m_get2, f_get, f_set, f_mth, r_str, m_starts, m_split, m_rstrp, m_rmpre, m_isasc, m_isdig, f_mth h.obj (a := 19) rfl (mth_2_19 (l := l))]
  refine c45 h hp ?_
  have pq : (PM.subS (.loc dt) (.int (p : Int)) (pV (pmx (T p) (v, s))) S) = fun Q => (rngK c fun p => pV (T p)).length < big ∧ Q (S.set dt (.dK (rngK c fun i => if i = p then pV (pmx (T p) (v, s)) else pV (T i)))) := by
    funext Q
    simp only [subS, h.tab, setK_rng hp]
  have bm : ∀ {Q : VQ}, biS .max2 [pV (T p), .tup [.int v, .int s]] S Q = Q (pV (pmx (T p) (v, s))) S := b_maxp (q := (v, s))
  simp only [↓nE1, ↓nE2, ↓nE3, ↓nE4, ↓nE5, ↓nE6, ↓nE7, ↓nE8, ↓nE9, ↓nE10, ↓nE11, ↓nE12, ↓nE13, ↓nE14, ↓nE15, ↓nE16, ↓nE17, ↓nE18, ↓nE19, ↓nE20, ↓nE21, ↓nE22, ↓nE23, ↓nE24, ↓nE25, ↓nE26, ↓nE27, ↓nE28, ↓nE29, ↓nE30, ↓nS1, ↓nS2, ↓nS3, ↓nS4, ↓nS5, ↓nS6, ↓nS7, ↓nS8, ↓nS9, ↓nS10, ↓nS11, ↓nS12, ↓nS13, ↓nS14, ↓nS15, ↓nS16, ↓nS17, ↓nS18, ↓nS19, ↓nS20, ↓nSs1, ↓nSs2, ↓nEs1, ↓nEs2, ↓nB1, ↓nB2, ↓nB3, ↓nA1, ↓nA2, ↓nA3, ↓nT1, ↓reduceIte, bnm, btp, setAll, wipeL, endsOf, getz, gets, setz, sets, lenc, lenn, v_add, v_sub, v_mul, v_fdiv, v_mod, v_pow, v_adds, v_addt, v_mult, v_muls, v_addl, v_eq, v_ne, v_lt, v_le, v_gt, v_ge, v_is, v_nis, v_isb, v_nisb, v_les, v_in, v_nin, t_non, t_bl, t_int, t_str, t_tup, t_loc, b_lens, b_lent, b_lenl, b_int, b_intb, b_abs, b_min, b_max, b_str, b_strs, b_tupt, b_tupl, b_lstt, b_lstl, b_all, b_any, b_ord, r_append, r_extend, r_pop, r_pop1, r_reverse, r_get1, r_get2, r_setd, m_app, m_ext, m_pop, m_pop1, m_rev, m_get1, m_get2, f_get, f_set, f_mth, r_str, m_starts, m_split, m_rstrp, m_rmpre, m_isasc, m_isdig, bm, f_get h.obj (fok_2_18 (l := l)) (v := .loc dt) rfl, pq, len_rng]
  have lt := get_lt h.tab
  refine ⟨by unfold big; omega, k _ (SubX.set (by simp)) ⟨?_, ?_⟩⟩
  · rw [List.getElem?_set_ne (fun z => by have h1 := h.obj; rw [← z, h.tab] at h1; cases h1)]
    exact h.obj
  · rw [List.getElem?_set, if_pos rfl, if_pos lt]
    congr 2
    refine rngK_congr fun i hi => ?_
    unfold upT
    by_cases e : i = p
    · subst e; rw [if_pos rfl, if_pos rfl]
    · rw [if_neg e, if_neg e]
def firmP (R : Nat → List Int) (T : Nat → Int × Int) (p : Nat) (q : Int × Int) : Bool :=
  if q.2 = 0 then true else if (T p).1 = q.1 then decide (q.2 ≤ (T p).2) else if (T p).1 < q.1 ∨ ((R p).length : Int) < (T p).1 then false else !deadP (R p) q
def firmC (R : Nat → List Int) (T : Nat → Int × Int) (cs : List (Int × Int)) : Bool := (cs.zipIdx.map fun q => firmP R T q.2 q.1).all id
theorem c46 {p : Nat} {v w : Int} (h : FirmAt S f o dt c T) (he : EndsAt S o d1 d2 c R) (hp : p < c) (hv : 0 ≤ v) (k : ∀ S', Sub S S' → Q (.bl (firmP R T p (v, w))) S') : callN (UP l) (n + 2) 46 [.loc f, .int (p : Int), .tup [.int v, .int w]] S Q E := by
  rw [u46]
  simp only [b46, b46_0, ↓nE1, ↓nE2, ↓nE3, ↓nE4, ↓nE5, ↓nE6, ↓nE7, ↓nE8, ↓nE9, ↓nE10, ↓nE11, ↓nE12, ↓nE13, ↓nE14, ↓nE15, ↓nE16, ↓nE17, ↓nE18, ↓nE19, ↓nE20, ↓nE21, ↓nE22, ↓nE23, ↓nE24, ↓nE25, ↓nE26, ↓nE27, ↓nE28, ↓nE29, ↓nE30, ↓nS1, ↓nS2, ↓nS3, ↓nS4, ↓nS5, ↓nS6, ↓nS7, ↓nS8, ↓nS9, ↓nS10, ↓nS11, ↓nS12, ↓nS13, ↓nS14, ↓nS15, ↓nS16, ↓nS17, ↓nS18, ↓nS19, ↓nS20, ↓nSs1, ↓nSs2, ↓nEs1, ↓nEs2, ↓nB1, ↓nB2, ↓nB3, ↓nA1, ↓nA2, ↓nA3, ↓nT1, ↓reduceIte, bnm, btp, setAll, wipeL, endsOf, getz, gets, setz, sets, lenc, lenn, v_add, v_sub, v_mul, v_fdiv, v_mod, v_pow, v_adds, v_addt, v_mult, v_muls, v_addl, v_eq, v_ne, v_lt, v_le, v_gt, v_ge, v_is, v_nis, v_isb, v_nisb, v_les, v_in, v_nin, t_non, t_bl, t_int, t_str, t_tup, t_loc, b_lens, b_lent, b_lenl, b_int, b_intb, b_abs, b_min, b_max, b_str, b_strs, b_tupt, b_tupl, b_lstt, b_lstl, b_all, b_any, b_ord, r_append, r_extend, r_pop, r_pop1, r_reverse, r_get1, r_get2, r_setd, m_app, m_ext, m_pop, m_pop1, m_rev, m_get1, m_get2, f_get, f_set, f_mth, r_str, m_starts, m_split, m_rstrp, m_rmpre, m_isasc, m_isdig, true_and, t46_1, b46_1, f_mth h.obj (a := 19) rfl (mth_2_19 (l := l))]
  refine c45 h hp ?_
  generalize hT : T p = t at *
  obtain ⟨a, b⟩ := t
  simp only [pV, ↓nE1, ↓nE2, ↓nE3, ↓nE4, ↓nE5, ↓nE6, ↓nE7, ↓nE8, ↓nE9, ↓nE10, ↓nE11, ↓nE12, ↓nE13, ↓nE14, ↓nE15, ↓nE16, ↓nE17, ↓nE18, ↓nE19, ↓nE20, ↓nE21, ↓nE22, ↓nE23, ↓nE24, ↓nE25, ↓nE26, ↓nE27, ↓nE28, ↓nE29, ↓nE30, ↓nS1, ↓nS2, ↓nS3, ↓nS4, ↓nS5, ↓nS6, ↓nS7, ↓nS8, ↓nS9, ↓nS10, ↓nS11, ↓nS12, ↓nS13, ↓nS14, ↓nS15, ↓nS16, ↓nS17, ↓nS18, ↓nS19, ↓nS20, ↓nSs1, ↓nSs2, ↓nEs1, ↓nEs2, ↓nB1, ↓nB2, ↓nB3, ↓nA1, ↓nA2, ↓nA3, ↓nT1, ↓reduceIte, bnm, btp, setAll, wipeL, endsOf, getz, gets, setz, sets, lenc, lenn, v_add, v_sub, v_mul, v_fdiv, v_mod, v_pow, v_adds, v_addt, v_mult, v_muls, v_addl, v_eq, v_ne, v_lt, v_le, v_gt, v_ge, v_is, v_nis, v_isb, v_nisb, v_les, v_in, v_nin, t_non, t_bl, t_int, t_str, t_tup, t_loc, b_lens, b_lent, b_lenl, b_int, b_intb, b_abs, b_min, b_max, b_str, b_strs, b_tupt, b_tupl, b_lstt, b_lstl, b_all, b_any, b_ord, r_append, r_extend, r_pop, r_pop1, r_reverse, r_get1, r_get2, r_setd, m_app, m_ext, m_pop, m_pop1, m_rev, m_get1, m_get2, f_get, f_set, f_mth, r_str, m_starts, m_split, m_rstrp, m_rmpre, m_isasc, m_isdig, true_and, t46_2, b46_2, reduceCtorEq, eqS_ii, eqS_ss, eqS_nn, Val.flat, Val.isNon, known, Option.isSome_some, true_and, tyB, tyS, istS, tyeq, ixN_0, ixN_1, ixN_2]
  unfold firmP at k
  rw [hT] at k
  by_cases h0 : w = 0
  · simp only [h0, decide_true, ↓nE1, ↓nE2, ↓nE3, ↓nE4, ↓nE5, ↓nE6, ↓nE7, ↓nE8, ↓nE9, ↓nE10, ↓nE11, ↓nE12, ↓nE13, ↓nE14, ↓nE15, ↓nE16, ↓nE17, ↓nE18, ↓nE19, ↓nE20, ↓nE21, ↓nE22, ↓nE23, ↓nE24, ↓nE25, ↓nE26, ↓nE27, ↓nE28, ↓nE29, ↓nE30, ↓nS1, ↓nS2, ↓nS3, ↓nS4, ↓nS5, ↓nS6, ↓nS7, ↓nS8, ↓nS9, ↓nS10, ↓nS11, ↓nS12, ↓nS13, ↓nS14, ↓nS15, ↓nS16, ↓nS17, ↓nS18, ↓nS19, ↓nS20, ↓nSs1, ↓nSs2, ↓nEs1, ↓nEs2, ↓nB1, ↓nB2, ↓nB3, ↓nA1, ↓nA2, ↓nA3, ↓nT1, ↓reduceIte, bnm, btp, setAll, wipeL, endsOf, getz, gets, setz, sets, lenc, lenn, v_add, v_sub, v_mul, v_fdiv, v_mod, v_pow, v_adds, v_addt, v_mult, v_muls, v_addl, v_eq, v_ne, v_lt, v_le, v_gt, v_ge, v_is, v_nis, v_isb, v_nisb, v_les, v_in, v_nin, t_non, t_bl, t_int, t_str, t_tup, t_loc, b_lens, b_lent, b_lenl, b_int, b_intb, b_abs, b_min, b_max, b_str, b_strs, b_tupt, b_tupl, b_lstt, b_lstl, b_all, b_any, b_ord, r_append, r_extend, r_pop, r_pop1, r_reverse, r_get1, r_get2, r_setd, m_app, m_ext, m_pop, m_pop1, m_rev, m_get1, m_get2, f_get, f_set, f_mth, r_str, m_starts, m_split, m_rstrp, m_rmpre, m_isasc, m_isdig, if_true] at k ⊢
    exact k S Sub.refl
  simp only [h0, decide_false, ↓nE1, ↓nE2, ↓nE3, ↓nE4, ↓nE5, ↓nE6, ↓nE7, ↓nE8, ↓nE9, ↓nE10, ↓nE11, ↓nE12, ↓nE13, ↓nE14, ↓nE15, ↓nE16, ↓nE17, ↓nE18, ↓nE19, ↓nE20, ↓nE21, ↓nE22, ↓nE23, ↓nE24, ↓nE25, ↓nE26, ↓nE27, ↓nE28, ↓nE29, ↓nE30, ↓nS1, ↓nS2, ↓nS3, ↓nS4, ↓nS5, ↓nS6, ↓nS7, ↓nS8, ↓nS9, ↓nS10, ↓nS11, ↓nS12, ↓nS13, ↓nS14, ↓nS15, ↓nS16, ↓nS17, ↓nS18, ↓nS19, ↓nS20, ↓nSs1, ↓nSs2, ↓nEs1, ↓nEs2, ↓nB1, ↓nB2, ↓nB3, ↓nA1, ↓nA2, ↓nA3, ↓nT1, ↓reduceIte, bnm, btp, setAll, wipeL, endsOf, getz, gets, setz, sets, lenc, lenn, v_add, v_sub, v_mul, v_fdiv, v_mod, v_pow, v_adds, v_addt, v_mult, v_muls, v_addl, v_eq, v_ne, v_lt, v_le, v_gt, v_ge, v_is, v_nis, v_isb, v_nisb, v_les, v_in, v_nin, t_non, t_bl, t_int, t_str, t_tup, t_loc, b_lens, b_lent, b_lenl, b_int, b_intb, b_abs, b_min, b_max, b_str, b_strs, b_tupt, b_tupl, b_lstt, b_lstl, b_all, b_any, b_ord, r_append, r_extend, r_pop, r_pop1, r_reverse, r_get1, r_get2, r_setd, m_app, m_ext, m_pop, m_pop1, m_rev, m_get1, m_get2, f_get, f_set, f_mth, r_str, m_starts, m_split, m_rstrp, m_rmpre, m_isasc, m_isdig, Bool.false_eq_true, if_false, t46_3, b46_3, reduceCtorEq, eqS_ii, eqS_ss, eqS_nn, Val.flat, Val.isNon, known, Option.isSome_some, true_and, tyB, tyS, istS, tyeq, ixN_0, ixN_1, ixN_2] at k ⊢
  by_cases h1 : a = v
  · simp only [h1, decide_true, ↓nE1, ↓nE2, ↓nE3, ↓nE4, ↓nE5, ↓nE6, ↓nE7, ↓nE8, ↓nE9, ↓nE10, ↓nE11, ↓nE12, ↓nE13, ↓nE14, ↓nE15, ↓nE16, ↓nE17, ↓nE18, ↓nE19, ↓nE20, ↓nE21, ↓nE22, ↓nE23, ↓nE24, ↓nE25, ↓nE26, ↓nE27, ↓nE28, ↓nE29, ↓nE30, ↓nS1, ↓nS2, ↓nS3, ↓nS4, ↓nS5, ↓nS6, ↓nS7, ↓nS8, ↓nS9, ↓nS10, ↓nS11, ↓nS12, ↓nS13, ↓nS14, ↓nS15, ↓nS16, ↓nS17, ↓nS18, ↓nS19, ↓nS20, ↓nSs1, ↓nSs2, ↓nEs1, ↓nEs2, ↓nB1, ↓nB2, ↓nB3, ↓nA1, ↓nA2, ↓nA3, ↓nT1, ↓reduceIte, bnm, btp, setAll, wipeL, endsOf, getz, gets, setz, sets, lenc, lenn, v_add, v_sub, v_mul, v_fdiv, v_mod, v_pow, v_adds, v_addt, v_mult, v_muls, v_addl, v_eq, v_ne, v_lt, v_le, v_gt, v_ge, v_is, v_nis, v_isb, v_nisb, v_les, v_in, v_nin, t_non, t_bl, t_int, t_str, t_tup, t_loc, b_lens, b_lent, b_lenl, b_int, b_intb, b_abs, b_min, b_max, b_str, b_strs, b_tupt, b_tupl, b_lstt, b_lstl, b_all, b_any, b_ord, r_append, r_extend, r_pop, r_pop1, r_reverse, r_get1, r_get2, r_setd, m_app, m_ext, m_pop, m_pop1, m_rev, m_get1, m_get2, f_get, f_set, f_mth, r_str, m_starts, m_split, m_rstrp, m_rmpre, m_isasc, m_isdig, if_true] at k ⊢
    exact k S Sub.refl
  simp only [h1, decide_false, ↓nE1, ↓nE2, ↓nE3, ↓nE4, ↓nE5, ↓nE6, ↓nE7, ↓nE8, ↓nE9, ↓nE10, ↓nE11, ↓nE12, ↓nE13, ↓nE14, ↓nE15, ↓nE16, ↓nE17, ↓nE18, ↓nE19, ↓nE20, ↓nE21, ↓nE22, ↓nE23, ↓nE24, ↓nE25, ↓nE26, ↓nE27, ↓nE28, ↓nE29, ↓nE30, ↓nS1, ↓nS2, ↓nS3, ↓nS4, ↓nS5, ↓nS6, ↓nS7, ↓nS8, ↓nS9, ↓nS10, ↓nS11, ↓nS12, ↓nS13, ↓nS14, ↓nS15, ↓nS16, ↓nS17, ↓nS18, ↓nS19, ↓nS20, ↓nSs1, ↓nSs2, ↓nEs1, ↓nEs2, ↓nB1, ↓nB2, ↓nB3, ↓nA1, ↓nA2, ↓nA3, ↓nT1, ↓reduceIte, bnm, btp, setAll, wipeL, endsOf, getz, gets, setz, sets, lenc, lenn, v_add, v_sub, v_mul, v_fdiv, v_mod, v_pow, v_adds, v_addt, v_mult, v_muls, v_addl, v_eq, v_ne, v_lt, v_le, v_gt, v_ge, v_is, v_nis, v_isb, v_nisb, v_les, v_in, v_nin, t_non, t_bl, t_int, t_str, t_tup, t_loc, b_lens, b_lent, b_lenl, b_int, b_intb, b_abs, b_min, b_max, b_str, b_strs, b_tupt, b_tupl, b_lstt, b_lstl, b_all, b_any, b_ord, r_append, r_extend, r_pop, r_pop1, r_reverse, r_get1, r_get2, r_setd, m_app, m_ext, m_pop, m_pop1, m_rev, m_get1, m_get2, f_get, f_set, f_mth, r_str, m_starts, m_split, m_rstrp, m_rmpre, m_isasc, m_isdig, Bool.false_eq_true, if_false, t46_4, b46_4, reduceCtorEq, eqS_ii, eqS_ss, eqS_nn, Val.flat, Val.isNon, known, Option.isSome_some, true_and, tyB, tyS, istS, tyeq, ixN_0, ixN_1, ixN_2] at k ⊢
  by_cases h2 : a < v
  · simp only [h2, decide_true, ↓nE1, ↓nE2, ↓nE3, ↓nE4, ↓nE5, ↓nE6, ↓nE7, ↓nE8, ↓nE9, ↓nE10, ↓nE11, ↓nE12, ↓nE13, ↓nE14, ↓nE15, ↓nE16, ↓nE17, ↓nE18, ↓nE19, ↓nE20, ↓nE21, ↓nE22, ↓nE23, ↓nE24, ↓nE25, ↓nE26, ↓nE27, ↓nE28, ↓nE29, ↓nE30, ↓nS1, ↓nS2, ↓nS3, ↓nS4, ↓nS5, ↓nS6, ↓nS7, ↓nS8, ↓nS9, ↓nS10, ↓nS11, ↓nS12, ↓nS13, ↓nS14, ↓nS15, ↓nS16, ↓nS17, ↓nS18, ↓nS19, ↓nS20, ↓nSs1, ↓nSs2, ↓nEs1, ↓nEs2, ↓nB1, ↓nB2, ↓nB3, ↓nA1, ↓nA2, ↓nA3, ↓nT1, ↓reduceIte, bnm, btp, setAll, wipeL, endsOf, getz, gets, setz, sets, lenc, lenn, v_add, v_sub, v_mul, v_fdiv, v_mod, v_pow, v_adds, v_addt, v_mult, v_muls, v_addl, v_eq, v_ne, v_lt, v_le, v_gt, v_ge, v_is, v_nis, v_isb, v_nisb, v_les, v_in, v_nin, t_non, t_bl, t_int, t_str, t_tup, t_loc, b_lens, b_lent, b_lenl, b_int, b_intb, b_abs, b_min, b_max, b_str, b_strs, b_tupt, b_tupl, b_lstt, b_lstl, b_all, b_any, b_ord, r_append, r_extend, r_pop, r_pop1, r_reverse, r_get1, r_get2, r_setd, m_app, m_ext, m_pop, m_pop1, m_rev, m_get1, m_get2, f_get, f_set, f_mth, r_str, m_starts, m_split, m_rstrp, m_rmpre, m_isasc, m_isdig, true_or, if_true, Bool.true_eq_false, ↓reduceIte] at k ⊢
    exact k S Sub.refl
  simp only [h2, decide_false, ↓nE1, ↓nE2, ↓nE3, ↓nE4, ↓nE5, ↓nE6, ↓nE7, ↓nE8, ↓nE9, ↓nE10, ↓nE11, ↓nE12, ↓nE13, ↓nE14, ↓nE15, ↓nE16, ↓nE17, ↓nE18, ↓nE19, ↓nE20, ↓nE21, ↓nE22, ↓nE23, ↓nE24, ↓nE25, ↓nE26, ↓nE27, ↓nE28, ↓nE29, ↓nE30, ↓nS1, ↓nS2, ↓nS3, ↓nS4, ↓nS5, ↓nS6, ↓nS7, ↓nS8, ↓nS9, ↓nS10, ↓nS11, ↓nS12, ↓nS13, ↓nS14, ↓nS15, ↓nS16, ↓nS17, ↓nS18, ↓nS19, ↓nS20, ↓nSs1, ↓nSs2, ↓nEs1, ↓nEs2, ↓nB1, ↓nB2, ↓nB3, ↓nA1, ↓nA2, ↓nA3, ↓nT1, ↓reduceIte, bnm, btp, setAll, wipeL, endsOf, getz, gets, setz, sets, lenc, lenn, v_add, v_sub, v_mul, v_fdiv, v_mod, v_pow, v_adds, v_addt, v_mult, v_muls, v_addl, v_eq, v_ne, v_lt, v_le, v_gt, v_ge, v_is, v_nis, v_isb, v_nisb, v_les, v_in, v_nin, t_non, t_bl, t_int, t_str, t_tup, t_loc, b_lens, b_lent, b_lenl, b_int, b_intb, b_abs, b_min, b_max, b_str, b_strs, b_tupt, b_tupl, b_lstt, b_lstl, b_all, b_any, b_ord, r_append, r_extend, r_pop, r_pop1, r_reverse, r_get1, r_get2, r_setd, m_app, m_ext, m_pop, m_pop1, m_rev, m_get1, m_get2, f_get, f_set, f_mth, r_str, m_starts, m_split, m_rstrp, m_rmpre, m_isasc, m_isdig, false_or, f_get h.obj (fok_2_17 (l := l)) (v := .loc o) rfl, f_mth he.obj (a := 21) rfl (mth_1_21 (l := l))] at k ⊢
  refine c36 he hp fun S1 s1 => ?_
  by_cases h3 : ((R p).length : Int) < a
  · simp only [h3, decide_true, ↓nE1, ↓nE2, ↓nE3, ↓nE4, ↓nE5, ↓nE6, ↓nE7, ↓nE8, ↓nE9, ↓nE10, ↓nE11, ↓nE12, ↓nE13, ↓nE14, ↓nE15, ↓nE16, ↓nE17, ↓nE18, ↓nE19, ↓nE20, ↓nE21, ↓nE22, ↓nE23, ↓nE24, ↓nE25, ↓nE26, ↓nE27, ↓nE28, ↓nE29, ↓nE30, ↓nS1, ↓nS2, ↓nS3, ↓nS4, ↓nS5, ↓nS6, ↓nS7, ↓nS8, ↓nS9, ↓nS10, ↓nS11, ↓nS12, ↓nS13, ↓nS14, ↓nS15, ↓nS16, ↓nS17, ↓nS18, ↓nS19, ↓nS20, ↓nSs1, ↓nSs2, ↓nEs1, ↓nEs2, ↓nB1, ↓nB2, ↓nB3, ↓nA1, ↓nA2, ↓nA3, ↓nT1, ↓reduceIte, bnm, btp, setAll, wipeL, endsOf, getz, gets, setz, sets, lenc, lenn, v_add, v_sub, v_mul, v_fdiv, v_mod, v_pow, v_adds, v_addt, v_mult, v_muls, v_addl, v_eq, v_ne, v_lt, v_le, v_gt, v_ge, v_is, v_nis, v_isb, v_nisb, v_les, v_in, v_nin, t_non, t_bl, t_int, t_str, t_tup, t_loc, b_lens, b_lent, b_lenl, b_int, b_intb, b_abs, b_min, b_max, b_str, b_strs, b_tupt, b_tupl, b_lstt, b_lstl, b_all, b_any, b_ord, r_append, r_extend, r_pop, r_pop1, r_reverse, r_get1, r_get2, r_setd, m_app, m_ext, m_pop, m_pop1, m_rev, m_get1, m_get2, f_get, f_set, f_mth, r_str, m_starts, m_split, m_rstrp, m_rmpre, m_isasc, m_isdig, if_true] at k ⊢
    exact k S1 s1
  simp only [h3, decide_false, ↓nE1, ↓nE2, ↓nE3, ↓nE4, ↓nE5, ↓nE6, ↓nE7, ↓nE8, ↓nE9, ↓nE10, ↓nE11, ↓nE12, ↓nE13, ↓nE14, ↓nE15, ↓nE16, ↓nE17, ↓nE18, ↓nE19, ↓nE20, ↓nE21, ↓nE22, ↓nE23, ↓nE24, ↓nE25, ↓nE26, ↓nE27, ↓nE28, ↓nE29, ↓nE30, ↓nS1, ↓nS2, ↓nS3, ↓nS4, ↓nS5, ↓nS6, ↓nS7, ↓nS8, ↓nS9, ↓nS10, ↓nS11, ↓nS12, ↓nS13, ↓nS14, ↓nS15, ↓nS16, ↓nS17, ↓nS18, ↓nS19, ↓nS20, ↓nSs1, ↓nSs2, ↓nEs1, ↓nEs2, ↓nB1, ↓nB2, ↓nB3, ↓nA1, ↓nA2, ↓nA3, ↓nT1, ↓reduceIte, bnm, btp, setAll, wipeL, endsOf, getz, gets, setz, sets, lenc, lenn, v_add, v_sub, v_mul, v_fdiv, v_mod, v_pow, v_adds, v_addt, v_mult, v_muls, v_addl, v_eq, v_ne, v_lt, v_le, v_gt, v_ge, v_is, v_nis, v_isb, v_nisb, v_les, v_in, v_nin, t_non, t_bl, t_int, t_str, t_tup, t_loc, b_lens, b_lent, b_lenl, b_int, b_intb, b_abs, b_min, b_max, b_str, b_strs, b_tupt, b_tupl, b_lstt, b_lstl, b_all, b_any, b_ord, r_append, r_extend, r_pop, r_pop1, r_reverse, r_get1, r_get2, r_setd, m_app, m_ext, m_pop, m_pop1, m_rev, m_get1, m_get2, f_get, f_set, f_mth, r_str, m_starts, m_split, m_rstrp, m_rmpre, m_isasc, m_isdig, Bool.false_eq_true, if_false, t46_5, b46_5, f_get (h.sub s1).obj (fok_2_17 (l := l)) (v := .loc o) rfl, f_mth (he.sub s1).obj (a := 22) rfl (mth_1_22 (l := l))] at k ⊢
  refine c40 (he.sub s1) hp hv fun S2 s2 => ?_
  simp only [↓nE1, ↓nE2, ↓nE3, ↓nE4, ↓nE5, ↓nE6, ↓nE7, ↓nE8, ↓nE9, ↓nE10, ↓nE11, ↓nE12, ↓nE13, ↓nE14, ↓nE15, ↓nE16, ↓nE17, ↓nE18, ↓nE19, ↓nE20, ↓nE21, ↓nE22, ↓nE23, ↓nE24, ↓nE25, ↓nE26, ↓nE27, ↓nE28, ↓nE29, ↓nE30, ↓nS1, ↓nS2, ↓nS3, ↓nS4, ↓nS5, ↓nS6, ↓nS7, ↓nS8, ↓nS9, ↓nS10, ↓nS11, ↓nS12, ↓nS13, ↓nS14, ↓nS15, ↓nS16, ↓nS17, ↓nS18, ↓nS19, ↓nS20, ↓nSs1, ↓nSs2, ↓nEs1, ↓nEs2, ↓nB1, ↓nB2, ↓nB3, ↓nA1, ↓nA2, ↓nA3, ↓nT1, ↓reduceIte, bnm, btp, setAll, wipeL, endsOf, getz, gets, setz, sets, lenc, lenn, v_add, v_sub, v_mul, v_fdiv, v_mod, v_pow, v_adds, v_addt, v_mult, v_muls, v_addl, v_eq, v_ne, v_lt, v_le, v_gt, v_ge, v_is, v_nis, v_isb, v_nisb, v_les, v_in, v_nin, t_non, t_bl, t_int, t_str, t_tup, t_loc, b_lens, b_lent, b_lenl, b_int, b_intb, b_abs, b_min, b_max, b_str, b_strs, b_tupt, b_tupl, b_lstt, b_lstl, b_all, b_any, b_ord, r_append, r_extend, r_pop, r_pop1, r_reverse, r_get1, r_get2, r_setd, m_app, m_ext, m_pop, m_pop1, m_rev, m_get1, m_get2, f_get, f_set, f_mth, r_str, m_starts, m_split, m_rstrp, m_rmpre, m_isasc, m_isdig]
  exact k S2 (s1.trans s2)
theorem c44 {cs : List (Int × Int)} (h : FirmAt S f o dt c T) (he : EndsAt S o d1 d2 c R) (hc : c ≤ 1000) (hv : VC c cs) (k : ∀ S', Sub S S' → Q (.bl (firmC R T cs)) S') : callN (UP l) (n + 3) 44 [.loc f, .tup (cs.map pV)] S Q E := by
  rw [u44]
  simp only [b44, b44_0, ↓nE1, ↓nE2, ↓nE3, ↓nE4, ↓nE5, ↓nE6, ↓nE7, ↓nE8, ↓nE9, ↓nE10, ↓nE11, ↓nE12, ↓nE13, ↓nE14, ↓nE15, ↓nE16, ↓nE17, ↓nE18, ↓nE19, ↓nE20, ↓nE21, ↓nE22, ↓nE23, ↓nE24, ↓nE25, ↓nE26, ↓nE27, ↓nE28, ↓nE29, ↓nE30, ↓nS1, ↓nS2, ↓nS3, ↓nS4, ↓nS5, ↓nS6, ↓nS7, ↓nS8, ↓nS9, ↓nS10, ↓nS11, ↓nS12, ↓nS13, ↓nS14, ↓nS15, ↓nS16, ↓nS17, ↓nS18, ↓nS19, ↓nS20, ↓nSs1, ↓nSs2, ↓nEs1, ↓nEs2, ↓nB1, ↓nB2, ↓nB3, ↓nA1, ↓nA2, ↓nA3, ↓nT1, ↓reduceIte, bnm, btp, setAll, wipeL, endsOf, getz, gets, setz, sets, lenc, lenn, v_add, v_sub, v_mul, v_fdiv, v_mod, v_pow, v_adds, v_addt, v_mult, v_muls, v_addl, v_eq, v_ne, v_lt, v_le, v_gt, v_ge, v_is, v_nis, v_isb, v_nisb, v_les, v_in, v_nin, t_non, t_bl, t_int, t_str, t_tup, t_loc, b_lens, b_lent, b_lenl, b_int, b_intb, b_abs, b_min, b_max, b_str, b_strs, b_tupt, b_tupl, b_lstt, b_lstl, b_all, b_any, b_ord, r_append, r_extend, r_pop, r_pop1, r_reverse, r_get1, r_get2, r_setd, m_app, m_ext, m_pop, m_pop1, m_rev, m_get1, m_get2, f_get, f_set, f_mth, r_str, m_starts, m_split, m_rstrp, m_rmpre, m_isasc, m_isdig, it_enum]
  refine lc_sub (clkF fun i p => firmP R T i p) trivial (by simp [clkI, big, hv.1]; omega) (fun x hx S2 K s2 k2 => ?_) fun S' s' h' => ?_
  · obtain ⟨i, p, rfl, hi, hp⟩ := clk_mem hx
    have vp := hv.at hp
    simp only [↓nE1, ↓nE2, ↓nE3, ↓nE4, ↓nE5, ↓nE6, ↓nE7, ↓nE8, ↓nE9, ↓nE10, ↓nE11, ↓nE12, ↓nE13, ↓nE14, ↓nE15, ↓nE16, ↓nE17, ↓nE18, ↓nE19, ↓nE20, ↓nE21, ↓nE22, ↓nE23, ↓nE24, ↓nE25, ↓nE26, ↓nE27, ↓nE28, ↓nE29, ↓nE30, ↓nS1, ↓nS2, ↓nS3, ↓nS4, ↓nS5, ↓nS6, ↓nS7, ↓nS8, ↓nS9, ↓nS10, ↓nS11, ↓nS12, ↓nS13, ↓nS14, ↓nS15, ↓nS16, ↓nS17, ↓nS18, ↓nS19, ↓nS20, ↓nSs1, ↓nSs2, ↓nEs1, ↓nEs2, ↓nB1, ↓nB2, ↓nB3, ↓nA1, ↓nA2, ↓nA3, ↓nT1, ↓reduceIte, bnm, btp, setAll, wipeL, endsOf, getz, gets, setz, sets, lenc, lenn, v_add, v_sub, v_mul, v_fdiv, v_mod, v_pow, v_adds, v_addt, v_mult, v_muls, v_addl, v_eq, v_ne, v_lt, v_le, v_gt, v_ge, v_is, v_nis, v_isb, v_nisb, v_les, v_in, v_nin, t_non, t_bl, t_int, t_str, t_tup, t_loc, b_lens, b_lent, b_lenl, b_int, b_intb, b_abs, b_min, b_max, b_str, b_strs, b_tupt, b_tupl, b_lstt, b_lstl, b_all, b_any, b_ord, r_append, r_extend, r_pop, r_pop1, r_reverse, r_get1, r_get2, r_setd, m_app, m_ext, m_pop, m_pop1, m_rev, m_get1, m_get2, f_get, f_set, f_mth, r_str, m_starts, m_split, m_rstrp, m_rmpre, m_isasc, m_isdig, true_and, f_mth (h.sub s2).obj (a := 23) rfl (mth_2_23 (l := l)), pV]
    exact c46 (h.sub s2) (he.sub s2) vp.1 vp.2 fun S3 s3 => k2 S3 s3
  · rw [clk_map] at h'
    simp only [↓nE1, ↓nE2, ↓nE3, ↓nE4, ↓nE5, ↓nE6, ↓nE7, ↓nE8, ↓nE9, ↓nE10, ↓nE11, ↓nE12, ↓nE13, ↓nE14, ↓nE15, ↓nE16, ↓nE17, ↓nE18, ↓nE19, ↓nE20, ↓nE21, ↓nE22, ↓nE23, ↓nE24, ↓nE25, ↓nE26, ↓nE27, ↓nE28, ↓nE29, ↓nE30, ↓nS1, ↓nS2, ↓nS3, ↓nS4, ↓nS5, ↓nS6, ↓nS7, ↓nS8, ↓nS9, ↓nS10, ↓nS11, ↓nS12, ↓nS13, ↓nS14, ↓nS15, ↓nS16, ↓nS17, ↓nS18, ↓nS19, ↓nS20, ↓nSs1, ↓nSs2, ↓nEs1, ↓nEs2, ↓nB1, ↓nB2, ↓nB3, ↓nA1, ↓nA2, ↓nA3, ↓nT1, ↓reduceIte, bnm, btp, setAll, wipeL, endsOf, getz, gets, setz, sets, lenc, lenn, v_add, v_sub, v_mul, v_fdiv, v_mod, v_pow, v_adds, v_addt, v_mult, v_muls, v_addl, v_eq, v_ne, v_lt, v_le, v_gt, v_ge, v_is, v_nis, v_isb, v_nisb, v_les, v_in, v_nin, t_non, t_bl, t_int, t_str, t_tup, t_loc, b_lens, b_lent, b_lenl, b_int, b_intb, b_abs, b_min, b_max, b_str, b_strs, b_tupt, b_tupl, b_lstt, b_lstl, b_all, b_any, b_ord, r_append, r_extend, r_pop, r_pop1, r_reverse, r_get1, r_get2, r_setd, m_app, m_ext, m_pop, m_pop1, m_rev, m_get1, m_get2, f_get, f_set, f_mth, r_str, m_starts, m_split, m_rstrp, m_rmpre, m_isasc, m_isdig, b_all (n_of h') (blS_bl _)]
    exact k S' s'
end
end My

namespace My
open PySem PM
/-- the draws so far, at a place that nothing else holds -/
structure DrS (S0 S : Sto) (q m : Nat) (ys : List Val) (k : Nat) : Prop where
  sub : Sub S0 S
  q0 : S0.length ≤ q
  m0 : S0.length ≤ m
  ne : q ≠ m
  it : S[m]? = some (.lst ys)
  at_ : ∃ ds : List Int, S[q]? = some (.lst (ds.map Val.int)) ∧ ds.length ≤ k
theorem DrS.push {S0 S : Sto} {q m k : Nat} {ys : List Val} (h : DrS S0 S q m ys k) {ds : List Int} (e : S[q]? = some (.lst (ds.map Val.int))) (hl : ds.length ≤ k) (d : Int) : DrS S0 (S.set q (.lst (ds.map Val.int ++ [.int d]))) q m ys (k + 1) := by
  refine ⟨h.sub.setN h.q0, h.q0, h.m0, h.ne, by rw [List.getElem?_set_ne h.ne]; exact h.it, ds ++ [d], ?_, by simp; omega⟩
  rw [put_get (get_lt e)]
  simp
theorem DrS.up {S0 S : Sto} {q m k k' : Nat} {ys : List Val} (h : DrS S0 S q m ys k) (e : k ≤ k') : DrS S0 S q m ys k' := ⟨h.sub, h.q0, h.m0, h.ne, h.it, let ⟨ds, a, b⟩ := h.at_; ⟨ds, a, Nat.le_trans b e⟩⟩
section
variable {n : Nat} {D : ED} {S0 : Sto} {q m : Nat} {ys : List Val} {r0 r1 r2 : Option Val}
theorem e18 : ((10 : Int) ^ (18 : Int).toNat) = 1000000000000000000 := by decide
theorem e14 : ((10 : Int) ^ (14 : Int).toNat) = 100000000000000 := by decide
theorem mulc {i : Int} (j : Int) (h0 : 0 ≤ j) (h : j < 4000000000) : L2.CMul i j := .inr (by omega)
/-- a cell that is not great: two draws -/
theorem dr_two {x : Int} {S : Sto} {k : Nat} {r4 r6 r7 : Option Val} (h : DrS S0 S q m ys k) (hk : k + 2 ≤ 100000)
    (K : ∀ r6 S', DrS S0 S' q m ys (k + 2) → D.nx [r0, r1, r2, some (.loc q), r4, some (.int x), r6, r7] S') :
    wpSs (cenv (UP lp) n) l1000_1 D [r0, r1, r2, some (.loc q), r4, some (.int x), r6, r7] S := by
  obtain ⟨ds, hq, hl⟩ := h.at_
  have p1 : (0 : Int) < 2147483647 := by decide
  have p2 : (0 : Int) < 2147483629 := by decide
  have p3 : (0 : Int) < 2147483399 := by decide
  have p4 : (0 : Int) < 7919 := by decide
  have p5 : (0 : Int) < 9 ∧ (9 : Int) < 2 ^ 80 := by decide
  have q1 : ∀ i : Int, L2.CMul i 44497 := fun i => mulc _ (by decide) (by decide)
  have q2 : ∀ i : Int, L2.CMul i 2147483629 := fun i => mulc _ (by decide) (by decide)
  have q3 : ∀ i : Int, L2.CMul i 16807 := fun i => mulc _ (by decide) (by decide)
  have q4 : ∀ i : Int, L2.CMul i 69621 := fun i => mulc _ (by decide) (by decide)
  have q5 : ∀ i : Int, L2.CMul i 7919 := fun i => mulc _ (by decide) (by decide)
  have b1 : ds.length < big := by unfold big; omega
  have b2 : ds.length + 1 < big := by unfold big; omega
  simp only [l1000_1, l1000_1_0, ↓nE1, ↓nE2, ↓nE3, ↓nE4, ↓nE5, ↓nE6, ↓nE7, ↓nE8, ↓nE9, ↓nE10, ↓nE11, ↓nE12, ↓nE13, ↓nE14, ↓nE15, ↓nE16, ↓nE17, ↓nE18, ↓nE19, ↓nE20, ↓nE21, ↓nE22, ↓nE23, ↓nE24, ↓nE25, ↓nE26, ↓nE27, ↓nE28, ↓nE29, ↓nE30, ↓nS1, ↓nS2, ↓nS3, ↓nS4, ↓nS5, ↓nS6, ↓nS7, ↓nS8, ↓nS9, ↓nS10, ↓nS11, ↓nS12, ↓nS13, ↓nS14, ↓nS15, ↓nS16, ↓nS17, ↓nS18, ↓nS19, ↓nS20, ↓nSs1, ↓nSs2, ↓nEs1, ↓nEs2, ↓nB1, ↓nB2, ↓nB3, ↓nA1, ↓nA2, ↓nA3, ↓nT1, ↓reduceIte, bnm, btp, setAll, wipeL, endsOf, getz, gets, setz, sets, lenc, lenn, v_add, v_sub, v_mul, v_fdiv, v_mod, v_pow, v_adds, v_addt, v_mult, v_muls, v_addl, v_eq, v_ne, v_lt, v_le, v_gt, v_ge, v_is, v_nis, v_isb, v_nisb, v_les, v_in, v_nin, t_non, t_bl, t_int, t_str, t_tup, t_loc, b_lens, b_lent, b_lenl, b_int, b_intb, b_abs, b_min, b_max, b_str, b_strs, b_tupt, b_tupl, b_lstt, b_lstl, b_all, b_any, b_ord, r_append, r_extend, r_pop, r_pop1, r_reverse, r_get1, r_get2, r_setd, m_app, m_ext, m_pop, m_pop1, m_rev, m_get1, m_get2, f_get, f_set, f_mth, r_str, m_starts, m_split, m_rstrp, m_rmpre, m_isasc, m_isdig, q1, p1, true_and]
  generalize (x * 44497 + 41) % 2147483647 = y
  simp only [m1000_1_1, l1000_1_1, ↓nE1, ↓nE2, ↓nE3, ↓nE4, ↓nE5, ↓nE6, ↓nE7, ↓nE8, ↓nE9, ↓nE10, ↓nE11, ↓nE12, ↓nE13, ↓nE14, ↓nE15, ↓nE16, ↓nE17, ↓nE18, ↓nE19, ↓nE20, ↓nE21, ↓nE22, ↓nE23, ↓nE24, ↓nE25, ↓nE26, ↓nE27, ↓nE28, ↓nE29, ↓nE30, ↓nS1, ↓nS2, ↓nS3, ↓nS4, ↓nS5, ↓nS6, ↓nS7, ↓nS8, ↓nS9, ↓nS10, ↓nS11, ↓nS12, ↓nS13, ↓nS14, ↓nS15, ↓nS16, ↓nS17, ↓nS18, ↓nS19, ↓nS20, ↓nSs1, ↓nSs2, ↓nEs1, ↓nEs2, ↓nB1, ↓nB2, ↓nB3, ↓nA1, ↓nA2, ↓nA3, ↓nT1, ↓reduceIte, bnm, btp, setAll, wipeL, endsOf, getz, gets, setz, sets, lenc, lenn, v_add, v_sub, v_mul, v_fdiv, v_mod, v_pow, v_adds, v_addt, v_mult, v_muls, v_addl, v_eq, v_ne, v_lt, v_le, v_gt, v_ge, v_is, v_nis, v_isb, v_nisb, v_les, v_in, v_nin, t_non, t_bl, t_int, t_str, t_tup, t_loc, b_lens, b_lent, b_lenl, b_int, b_intb, b_abs, b_min, b_max, b_str, b_strs, b_tupt, b_tupl, b_lstt, b_lstl, b_all, b_any, b_ord, r_append, r_extend, r_pop, r_pop1, r_reverse, r_get1, r_get2, r_setd, m_app, m_ext, m_pop, m_pop1, m_rev, m_get1, m_get2, f_get, f_set, f_mth, r_str, m_starts, m_split, m_rstrp, m_rmpre, m_isasc, m_isdig, q2, q3, p2, true_and, t_loc (n_of hq), b_lenl (n_of hq), b_tupl (n_of hq), b_lstl (n_of hq), r_append (n_of hq), r_extend (n_of hq), r_pop (n_of hq), r_pop1 (n_of hq), r_reverse (n_of hq), m_app (m_of hq), m_rev (m_of hq), List.length_map, b1]
  have h1 := h.push hq hl (y * 2147483629 + (y * 16807 + x) % 2147483629)
  generalize hS1 : S.set q _ = S1 at *
  have hq1 : S1[q]? = some (.lst (ds.map Val.int ++ [.int (y * 2147483629 + (y * 16807 + x) % 2147483629)])) := by rw [← hS1, put_get (get_lt hq)]
  simp only [m1000_1_2, l1000_1_2, ↓nE1, ↓nE2, ↓nE3, ↓nE4, ↓nE5, ↓nE6, ↓nE7, ↓nE8, ↓nE9, ↓nE10, ↓nE11, ↓nE12, ↓nE13, ↓nE14, ↓nE15, ↓nE16, ↓nE17, ↓nE18, ↓nE19, ↓nE20, ↓nE21, ↓nE22, ↓nE23, ↓nE24, ↓nE25, ↓nE26, ↓nE27, ↓nE28, ↓nE29, ↓nE30, ↓nS1, ↓nS2, ↓nS3, ↓nS4, ↓nS5, ↓nS6, ↓nS7, ↓nS8, ↓nS9, ↓nS10, ↓nS11, ↓nS12, ↓nS13, ↓nS14, ↓nS15, ↓nS16, ↓nS17, ↓nS18, ↓nS19, ↓nS20, ↓nSs1, ↓nSs2, ↓nEs1, ↓nEs2, ↓nB1, ↓nB2, ↓nB3, ↓nA1, ↓nA2, ↓nA3, ↓nT1, ↓reduceIte, bnm, btp, setAll, wipeL, endsOf, getz, gets, setz, sets, lenc, lenn, v_add, v_sub, v_mul, v_fdiv, v_mod, v_pow, v_adds, v_addt, v_mult, v_muls, v_addl, v_eq, v_ne, v_lt, v_le, v_gt, v_ge, v_is, v_nis, v_isb, v_nisb, v_les, v_in, v_nin, t_non, t_bl, t_int, t_str, t_tup, t_loc, b_lens, b_lent, b_lenl, b_int, b_intb, b_abs, b_min, b_max, b_str, b_strs, b_tupt, b_tupl, b_lstt, b_lstl, b_all, b_any, b_ord, r_append, r_extend, r_pop, r_pop1, r_reverse, r_get1, r_get2, r_setd, m_app, m_ext, m_pop, m_pop1, m_rev, m_get1, m_get2, f_get, f_set, f_mth, r_str, m_starts, m_split, m_rstrp, m_rmpre, m_isasc, m_isdig, q4, q5, p3, p4, p5, true_and, t_loc (n_of hq1), b_lenl (n_of hq1), b_tupl (n_of hq1), b_lstl (n_of hq1), r_append (n_of hq1), r_extend (n_of hq1), r_pop (n_of hq1), r_pop1 (n_of hq1), r_reverse (n_of hq1), m_app (m_of hq1), m_rev (m_of hq1), List.length_append, List.length_map, b2]
  have e : ds.map Val.int ++ [Val.int (y * 2147483629 + (y * 16807 + x) % 2147483629)] = (ds ++ [y * 2147483629 + (y * 16807 + x) % 2147483629]).map Val.int := by simp
  rw [e] at hq1 ⊢
  exact K _ _ (h1.push hq1 (by simp; omega) _)
/-- a great cell: up to twelve draws -/
theorem dr_many {x : Int} {S : Sto} {k : Nat} {r4 r6 r7 : Option Val} (h : DrS S0 S q m ys k) (hk : k + 12 ≤ 100000)
    (K : ∀ r5 r7 S', DrS S0 S' q m ys (k + 12) → D.nx [r0, r1, r2, some (.loc q), r4, r5, r6, r7] S') :
    wpSs (cenv (UP lp) n) l1000_2 D [r0, r1, r2, some (.loc q), r4, some (.int x), r6, r7] S := by
  have p1 : (0 : Int) < 100000000000000 := by decide
  have p2 : (0 : Int) < 100000000000000 ∧ (100000000000000 : Int) < 2 ^ 80 := by decide
  have p3 : (0 : Int) ≤ 14 ∧ (14 : Int) ≤ 1000000 ∧ (10 : Int).natAbs < 2 ^ 64 := by decide
  generalize hρ : ([r0, r1, r2, some (Val.loc q), r4, some (Val.int x), r6, r7] : LE) = ρ
  rw [l1000_2, l1000_2_0]
  refine Ss_cons ?_
  refine frW (xs := [.int (12 : Nat)]) (fun R hR => ?_) (it_range (n := 12) (by decide)) ?_
  · rw [nEs2, nE2, nEs1]
    exact hR
  refine for_inv (fun i ρ' S' => (∃ y r7', ρ' = [r0, r1, r2, some (.loc q), r4, some (.int y), r6, r7']) ∧ DrS S0 S' q m ys (k + i)) ⟨⟨x, r7, hρ.symm⟩, h⟩ ?_ ?_
  · rintro i z ρ' S' K2 hz ⟨⟨y, r7', rfl⟩, h'⟩ hK
    obtain ⟨ds, hq, hl⟩ := h'.at_
    have hi : i < 12 := by have := (List.getElem?_eq_some_iff.mp hz).1; simpa using this
    have b1 : ds.length < big := by unfold big; omega
    refine ⟨trivial, ?_⟩
    by_cases hy : 0 < y
    · simp only [l1000_3, l1000_3_0, m1000_3_1, l1000_3_1, ↓nE1, ↓nE2, ↓nE3, ↓nE4, ↓nE5, ↓nE6, ↓nE7, ↓nE8, ↓nE9, ↓nE10, ↓nE11, ↓nE12, ↓nE13, ↓nE14, ↓nE15, ↓nE16, ↓nE17, ↓nE18, ↓nE19, ↓nE20, ↓nE21, ↓nE22, ↓nE23, ↓nE24, ↓nE25, ↓nE26, ↓nE27, ↓nE28, ↓nE29, ↓nE30, ↓nS1, ↓nS2, ↓nS3, ↓nS4, ↓nS5, ↓nS6, ↓nS7, ↓nS8, ↓nS9, ↓nS10, ↓nS11, ↓nS12, ↓nS13, ↓nS14, ↓nS15, ↓nS16, ↓nS17, ↓nS18, ↓nS19, ↓nS20, ↓nSs1, ↓nSs2, ↓nEs1, ↓nEs2, ↓nB1, ↓nB2, ↓nB3, ↓nA1, ↓nA2, ↓nA3, ↓nT1, ↓reduceIte, bnm, btp, setAll, wipeL, endsOf, getz, gets, setz, sets, lenc, lenn, v_add, v_sub, v_mul, v_fdiv, v_mod, v_pow, v_adds, v_addt, v_mult, v_muls, v_addl, v_eq, v_ne, v_lt, v_le, v_gt, v_ge, v_is, v_nis, v_isb, v_nisb, v_les, v_in, v_nin, t_non, t_bl, t_int, t_str, t_tup, t_loc, b_lens, b_lent, b_lenl, b_int, b_intb, b_abs, b_min, b_max, b_str, b_strs, b_tupt, b_tupl, b_lstt, b_lstl, b_all, b_any, b_ord, r_append, r_extend, r_pop, r_pop1, r_reverse, r_get1, r_get2, r_setd, m_app, m_ext, m_pop, m_pop1, m_rev, m_get1, m_get2, f_get, f_set, f_mth, r_str, m_starts, m_split, m_rstrp, m_rmpre, m_isasc, m_isdig, hy, decide_true, e14, p1, p2, p3, true_and, and_self, t_loc (n_of hq), b_lenl (n_of hq), b_tupl (n_of hq), b_lstl (n_of hq), r_append (n_of hq), r_extend (n_of hq), r_pop (n_of hq), r_pop1 (n_of hq), r_reverse (n_of hq), m_app (m_of hq), m_rev (m_of hq), List.length_map, b1]
      exact hK _ _ ⟨⟨_, _, rfl⟩, h'.push hq hl _⟩
    · simp only [l1000_3, l1000_3_0, m1000_3_1, l1000_3_1, ↓nE1, ↓nE2, ↓nE3, ↓nE4, ↓nE5, ↓nE6, ↓nE7, ↓nE8, ↓nE9, ↓nE10, ↓nE11, ↓nE12, ↓nE13, ↓nE14, ↓nE15, ↓nE16, ↓nE17, ↓nE18, ↓nE19, ↓nE20, ↓nE21, ↓nE22, ↓nE23, ↓nE24, ↓nE25, ↓nE26, ↓nE27, ↓nE28, ↓nE29, ↓nE30, ↓nS1, ↓nS2, ↓nS3, ↓nS4, ↓nS5, ↓nS6, ↓nS7, ↓nS8, ↓nS9, ↓nS10, ↓nS11, ↓nS12, ↓nS13, ↓nS14, ↓nS15, ↓nS16, ↓nS17, ↓nS18, ↓nS19, ↓nS20, ↓nSs1, ↓nSs2, ↓nEs1, ↓nEs2, ↓nB1, ↓nB2, ↓nB3, ↓nA1, ↓nA2, ↓nA3, ↓nT1, ↓reduceIte, bnm, btp, setAll, wipeL, endsOf, getz, gets, setz, sets, lenc, lenn, v_add, v_sub, v_mul, v_fdiv, v_mod, v_pow, v_adds, v_addt, v_mult, v_muls, v_addl, v_eq, v_ne, v_lt, v_le, v_gt, v_ge, v_is, v_nis, v_isb, v_nisb, v_les, v_in, v_nin, t_non, t_bl, t_int, t_str, t_tup, t_loc, b_lens, b_lent, b_lenl, b_int, b_intb, b_abs, b_min, b_max, b_str, b_strs, b_tupt, b_tupl, b_lstt, b_lstl, b_all, b_any, b_ord, r_append, r_extend, r_pop, r_pop1, r_reverse, r_get1, r_get2, r_setd, m_app, m_ext, m_pop, m_pop1, m_rev, m_get1, m_get2, f_get, f_set, f_mth, r_str, m_starts, m_split, m_rstrp, m_rmpre, m_isasc, m_isdig, hy, decide_false, Bool.false_eq_true, e14, p1, p2, p3, true_and, and_self]
      exact hK _ _ ⟨⟨_, _, rfl⟩, h'.up (by omega)⟩
  · rintro ρ' S' ⟨⟨y, r7', rfl⟩, h'⟩
    have e : ((List.range' 0 12).map fun (i : Nat) => Val.int (i : Int)).length = 12 := by simp
    rw [e] at h'
    refine ⟨trivial, ?_⟩
    show PM.wpSs (cenv (UP lp) n) [] D _ _
    rw [nSs1]
    exact K _ _ _ h'
end
theorem c_draws {ns : List Int} {st mo : Int} {n : Nat} {S : Sto} {Q : VQ} {E : XQ} (hn : ns.length ≤ 63) (h0 : 0 ≤ st) (hm : 0 ≤ mo) (hS : S[0]? = some (.rol (ns.map Val.int)))
    (k : ∀ S' m (ds : List Int), Sub S S' → S.length ≤ m → S'[m]? = some (.lst (ds.map Val.int)) → (ds.length : Int) ≤ mo → Q (.loc m) S') : callN (UP lp) (n + 1) 1000 [.loc 0, .int st, .int mo] S Q E := by
  have l0 : lstAt S 0 = some (ns.map Val.int) := n_ro hS
  have p3 : (0 : Int) ≤ 18 ∧ (18 : Int) ≤ 1000000 ∧ (10 : Int).natAbs < 2 ^ 64 := by decide
  rw [u1000, b1000, b1000_0, nSs2]
  simp only [↓nE1, ↓nE2, ↓nE3, ↓nE4, ↓nE5, ↓nE6, ↓nE7, ↓nE8, ↓nE9, ↓nE10, ↓nE11, ↓nE12, ↓nE13, ↓nE14, ↓nE15, ↓nE16, ↓nE17, ↓nE18, ↓nE19, ↓nE20, ↓nE21, ↓nE22, ↓nE23, ↓nE24, ↓nE25, ↓nE26, ↓nE27, ↓nE28, ↓nE29, ↓nE30, ↓nS1, ↓nS2, ↓nS3, ↓nS4, ↓nS5, ↓nS6, ↓nS7, ↓nS8, ↓nS9, ↓nS10, ↓nS11, ↓nS12, ↓nS13, ↓nS14, ↓nS15, ↓nS16, ↓nS17, ↓nS18, ↓nS19, ↓nS20, ↓nSs1, ↓nSs2, ↓nEs1, ↓nEs2, ↓nB1, ↓nB2, ↓nB3, ↓nA1, ↓nA2, ↓nA3, ↓nT1, ↓reduceIte, bnm, btp, setAll, wipeL, endsOf, getz, gets, setz, sets, lenc, lenn, v_add, v_sub, v_mul, v_fdiv, v_mod, v_pow, v_adds, v_addt, v_mult, v_muls, v_addl, v_eq, v_ne, v_lt, v_le, v_gt, v_ge, v_is, v_nis, v_isb, v_nisb, v_les, v_in, v_nin, t_non, t_bl, t_int, t_str, t_tup, t_loc, b_lens, b_lent, b_lenl, b_int, b_intb, b_abs, b_min, b_max, b_str, b_strs, b_tupt, b_tupl, b_lstt, b_lstl, b_all, b_any, b_ord, r_append, r_extend, r_pop, r_pop1, r_reverse, r_get1, r_get2, r_setd, m_app, m_ext, m_pop, m_pop1, m_rev, m_get1, m_get2, f_get, f_set, f_mth, r_str, m_starts, m_split, m_rstrp, m_rmpre, m_isasc, m_isdig]
  have s1 : Sub S (S ++ [SObj.lst []]) := Sub.app
  have sl : ∀ {R : VQ}, slS (.loc 0) (some st) none (S ++ [SObj.lst []]) R = R (.loc (S ++ [SObj.lst []]).length) (S ++ [SObj.lst []] ++ [.lst (cutL (ns.map Val.int) (some st) none)]) := fun {R} => by simp only [slS, s1.lst l0]
  have hy : ∃ cs : List Int, cutL (ns.map Val.int) (some st) none = cs.map Val.int ∧ cs.length ≤ 63 := by
    refine ⟨(ns.drop (HT.sIx (ns.map Val.int).length 0 (some st))).take (HT.sIx (ns.map Val.int).length (ns.map Val.int).length none - HT.sIx (ns.map Val.int).length 0 (some st)), by simp [cutL], ?_⟩
    rw [List.length_take, List.length_drop]
    omega
  obtain ⟨cs, hcs, hcl⟩ := hy
  rw [hcs] at sl
  have hq : (S ++ [SObj.lst []])[S.length]? = some (.lst []) := get_new
  generalize hq0 : S.length = q at *
  generalize hS1 : S ++ [SObj.lst []] = S1 at *
  have hl1 : S1.length = q + 1 := by rw [← hS1, ← hq0]; simp
  generalize hρ : ([some (Val.loc 0), some (Val.int st), some (Val.int mo), some (Val.loc q), none, none, none, none] : LE) = ρ
  rw [t1000_1, b1000_1]
  refine Ss_cons ?_
  rw [nS8]
  subst hρ
  have p1 : ∀ {K : Option Int → Prop} {i : Int}, part [.int i] K = K (some i) := fun {K i} => by simp only [part, partS]
  have p2 : ∀ {K : Option Int → Prop}, part [] K = K none := fun {K} => by simp only [part, partS]
  simp only [↓nE1, ↓nE2, ↓nE3, ↓nE4, ↓nE5, ↓nE6, ↓nE7, ↓nE8, ↓nE9, ↓nE10, ↓nE11, ↓nE12, ↓nE13, ↓nE14, ↓nE15, ↓nE16, ↓nE17, ↓nE18, ↓nE19, ↓nE20, ↓nE21, ↓nE22, ↓nE23, ↓nE24, ↓nE25, ↓nE26, ↓nE27, ↓nE28, ↓nE29, ↓nE30, ↓nS1, ↓nS2, ↓nS3, ↓nS4, ↓nS5, ↓nS6, ↓nS7, ↓nS8, ↓nS9, ↓nS10, ↓nS11, ↓nS12, ↓nS13, ↓nS14, ↓nS15, ↓nS16, ↓nS17, ↓nS18, ↓nS19, ↓nS20, ↓nSs1, ↓nSs2, ↓nEs1, ↓nEs2, ↓nB1, ↓nB2, ↓nB3, ↓nA1, ↓nA2, ↓nA3, ↓nT1, ↓reduceIte, bnm, btp, setAll, wipeL, endsOf, getz, gets, setz, sets, lenc, lenn, v_add, v_sub, v_mul, v_fdiv, v_mod, v_pow, v_adds, v_addt, v_mult, v_muls, v_addl, v_eq, v_ne, v_lt, v_le, v_gt, v_ge, v_is, v_nis, v_isb, v_nisb, v_les, v_in, v_nin, t_non, t_bl, t_int, t_str, t_tup, t_loc, b_lens, b_lent, b_lenl, b_int, b_intb, b_abs, b_min, b_max, b_str, b_strs, b_tupt, b_tupl, b_lstt, b_lstl, b_all, b_any, b_ord, r_append, r_extend, r_pop, r_pop1, r_reverse, r_get1, r_get2, r_setd, m_app, m_ext, m_pop, m_pop1, m_rev, m_get1, m_get2, f_get, f_set, f_mth, r_str, m_starts, m_split, m_rstrp, m_rmpre, m_isasc, m_isdig, p1, p2, sl]
  have hi : itS .seq [.loc S1.length] (S1 ++ [.lst (cs.map Val.int)]) = some (cs.map Val.int, [(S1.length, cs.map Val.int)]) := by
    simp only [itS, n_of (get_new (S := S1)), Option.map_some]
  rw [hi]
  have s2 : Sub S1 (S1 ++ [SObj.lst (cs.map Val.int)]) := Sub.app
  refine for_inv (fun i ρ' S' => (∃ r4 r5 r6 r7, ρ' = [some (.loc 0), some (.int st), some (.int mo), some (.loc q), r4, r5, r6, r7]) ∧ DrS S S' q S1.length (cs.map Val.int) (12 * i)) ⟨⟨_, _, _, _, rfl⟩, s1.trans s2, by omega, by omega, by omega, get_new, [], s2 _ _ hq, by simp⟩ ?_ ?_
  · rintro i z ρ' S' K2 hz ⟨⟨r4, r5, r6, r7, rfl⟩, h'⟩ hK
    have hi2 := (List.getElem?_eq_some_iff.mp hz).1
    simp only [List.length_map] at hi2
    refine ⟨⟨n_of h'.it, trivial⟩, ?_⟩
    obtain ⟨c, hc⟩ : ∃ c : Int, z = .int c := by
      simp only [List.getElem?_map, Option.map_eq_some_iff] at hz
      obtain ⟨c, _, rfl⟩ := hz
      exact ⟨c, rfl⟩
    subst hc
    simp only [l1000_0, l1000_0_0, m1000_0_1, l1000_0_1, ↓nE1, ↓nE2, ↓nE3, ↓nE4, ↓nE5, ↓nE6, ↓nE7, ↓nE8, ↓nE9, ↓nE10, ↓nE11, ↓nE12, ↓nE13, ↓nE14, ↓nE15, ↓nE16, ↓nE17, ↓nE18, ↓nE19, ↓nE20, ↓nE21, ↓nE22, ↓nE23, ↓nE24, ↓nE25, ↓nE26, ↓nE27, ↓nE28, ↓nE29, ↓nE30, ↓nS1, ↓nS2, ↓nS3, ↓nS4, ↓nS5, ↓nS6, ↓nS7, ↓nS8, ↓nS9, ↓nS10, ↓nS11, ↓nS12, ↓nS13, ↓nS14, ↓nS15, ↓nS16, ↓nS17, ↓nS18, ↓nS19, ↓nS20, ↓nSs1, ↓nSs2, ↓nEs1, ↓nEs2, ↓nB1, ↓nB2, ↓nB3, ↓nA1, ↓nA2, ↓nA3, ↓nT1, ↓reduceIte, bnm, btp, setAll, wipeL, endsOf, getz, gets, setz, sets, lenc, lenn, v_add, v_sub, v_mul, v_fdiv, v_mod, v_pow, v_adds, v_addt, v_mult, v_muls, v_addl, v_eq, v_ne, v_lt, v_le, v_gt, v_ge, v_is, v_nis, v_isb, v_nisb, v_les, v_in, v_nin, t_non, t_bl, t_int, t_str, t_tup, t_loc, b_lens, b_lent, b_lenl, b_int, b_intb, b_abs, b_min, b_max, b_str, b_strs, b_tupt, b_tupl, b_lstt, b_lstl, b_all, b_any, b_ord, r_append, r_extend, r_pop, r_pop1, r_reverse, r_get1, r_get2, r_setd, m_app, m_ext, m_pop, m_pop1, m_rev, m_get1, m_get2, f_get, f_set, f_mth, r_str, m_starts, m_split, m_rstrp, m_rmpre, m_isasc, m_isdig, e18, p3, and_self, true_and]
    by_cases hx : (if c < 0 then -c else c) < 1000000000000000000
    · simp only [hx, decide_true, ↓nE1, ↓nE2, ↓nE3, ↓nE4, ↓nE5, ↓nE6, ↓nE7, ↓nE8, ↓nE9, ↓nE10, ↓nE11, ↓nE12, ↓nE13, ↓nE14, ↓nE15, ↓nE16, ↓nE17, ↓nE18, ↓nE19, ↓nE20, ↓nE21, ↓nE22, ↓nE23, ↓nE24, ↓nE25, ↓nE26, ↓nE27, ↓nE28, ↓nE29, ↓nE30, ↓nS1, ↓nS2, ↓nS3, ↓nS4, ↓nS5, ↓nS6, ↓nS7, ↓nS8, ↓nS9, ↓nS10, ↓nS11, ↓nS12, ↓nS13, ↓nS14, ↓nS15, ↓nS16, ↓nS17, ↓nS18, ↓nS19, ↓nS20, ↓nSs1, ↓nSs2, ↓nEs1, ↓nEs2, ↓nB1, ↓nB2, ↓nB3, ↓nA1, ↓nA2, ↓nA3, ↓nT1, ↓reduceIte, bnm, btp, setAll, wipeL, endsOf, getz, gets, setz, sets, lenc, lenn, v_add, v_sub, v_mul, v_fdiv, v_mod, v_pow, v_adds, v_addt, v_mult, v_muls, v_addl, v_eq, v_ne, v_lt, v_le, v_gt, v_ge, v_is, v_nis, v_isb, v_nisb, v_les, v_in, v_nin, t_non, t_bl, t_int, t_str, t_tup, t_loc, b_lens, b_lent, b_lenl, b_int, b_intb, b_abs, b_min, b_max, b_str, b_strs, b_tupt, b_tupl, b_lstt, b_lstl, b_all, b_any, b_ord, r_append, r_extend, r_pop, r_pop1, r_reverse, r_get1, r_get2, r_setd, m_app, m_ext, m_pop, m_pop1, m_rev, m_get1, m_get2, f_get, f_set, f_mth, r_str, m_starts, m_split, m_rstrp, m_rmpre, m_isasc, m_isdig]
      exact dr_two h' (by omega) fun r6 S'' h'' => by
        exact hK _ _ ⟨⟨_, _, _, _, rfl⟩, h''.up (by omega)⟩
    · simp only [hx, decide_false, Bool.false_eq_true, ↓nE1, ↓nE2, ↓nE3, ↓nE4, ↓nE5, ↓nE6, ↓nE7, ↓nE8, ↓nE9, ↓nE10, ↓nE11, ↓nE12, ↓nE13, ↓nE14, ↓nE15, ↓nE16, ↓nE17, ↓nE18, ↓nE19, ↓nE20, ↓nE21, ↓nE22, ↓nE23, ↓nE24, ↓nE25, ↓nE26, ↓nE27, ↓nE28, ↓nE29, ↓nE30, ↓nS1, ↓nS2, ↓nS3, ↓nS4, ↓nS5, ↓nS6, ↓nS7, ↓nS8, ↓nS9, ↓nS10, ↓nS11, ↓nS12, ↓nS13, ↓nS14, ↓nS15, ↓nS16, ↓nS17, ↓nS18, ↓nS19, ↓nS20, ↓nSs1, ↓nSs2, ↓nEs1, ↓nEs2, ↓nB1, ↓nB2, ↓nB3, ↓nA1, ↓nA2, ↓nA3, ↓nT1, ↓reduceIte, bnm, btp, setAll, wipeL, endsOf, getz, gets, setz, sets, lenc, lenn, v_add, v_sub, v_mul, v_fdiv, v_mod, v_pow, v_adds, v_addt, v_mult, v_muls, v_addl, v_eq, v_ne, v_lt, v_le, v_gt, v_ge, v_is, v_nis, v_isb, v_nisb, v_les, v_in, v_nin, t_non, t_bl, t_int, t_str, t_tup, t_loc, b_lens, b_lent, b_lenl, b_int, b_intb, b_abs, b_min, b_max, b_str, b_strs, b_tupt, b_tupl, b_lstt, b_lstl, b_all, b_any, b_ord, r_append, r_extend, r_pop, r_pop1, r_reverse, r_get1, r_get2, r_setd, m_app, m_ext, m_pop, m_pop1, m_rev, m_get1, m_get2, f_get, f_set, f_mth, r_str, m_starts, m_split, m_rstrp, m_rmpre, m_isasc, m_isdig]
      exact dr_many h' (by omega) fun r5 r7 S'' h'' => by
        exact hK _ _ ⟨⟨_, _, _, _, rfl⟩, h''.up (by omega)⟩
  · rintro ρ' S' ⟨⟨r4, r5, r6, r7, rfl⟩, h'⟩
    refine ⟨⟨n_of h'.it, trivial⟩, ?_⟩
    obtain ⟨ds, hd, hl⟩ := h'.at_
    have sl2 : ∀ {R : VQ}, slS (.loc q) none (some mo) S' R = R (.loc S'.length) (S' ++ [.lst (cutL (ds.map Val.int) none (some mo))]) := fun {R} => by simp only [slS, n_of hd]
    simp only [t1000_2, b1000_2, ↓nE1, ↓nE2, ↓nE3, ↓nE4, ↓nE5, ↓nE6, ↓nE7, ↓nE8, ↓nE9, ↓nE10, ↓nE11, ↓nE12, ↓nE13, ↓nE14, ↓nE15, ↓nE16, ↓nE17, ↓nE18, ↓nE19, ↓nE20, ↓nE21, ↓nE22, ↓nE23, ↓nE24, ↓nE25, ↓nE26, ↓nE27, ↓nE28, ↓nE29, ↓nE30, ↓nS1, ↓nS2, ↓nS3, ↓nS4, ↓nS5, ↓nS6, ↓nS7, ↓nS8, ↓nS9, ↓nS10, ↓nS11, ↓nS12, ↓nS13, ↓nS14, ↓nS15, ↓nS16, ↓nS17, ↓nS18, ↓nS19, ↓nS20, ↓nSs1, ↓nSs2, ↓nEs1, ↓nEs2, ↓nB1, ↓nB2, ↓nB3, ↓nA1, ↓nA2, ↓nA3, ↓nT1, ↓reduceIte, bnm, btp, setAll, wipeL, endsOf, getz, gets, setz, sets, lenc, lenn, v_add, v_sub, v_mul, v_fdiv, v_mod, v_pow, v_adds, v_addt, v_mult, v_muls, v_addl, v_eq, v_ne, v_lt, v_le, v_gt, v_ge, v_is, v_nis, v_isb, v_nisb, v_les, v_in, v_nin, t_non, t_bl, t_int, t_str, t_tup, t_loc, b_lens, b_lent, b_lenl, b_int, b_intb, b_abs, b_min, b_max, b_str, b_strs, b_tupt, b_tupl, b_lstt, b_lstl, b_all, b_any, b_ord, r_append, r_extend, r_pop, r_pop1, r_reverse, r_get1, r_get2, r_setd, m_app, m_ext, m_pop, m_pop1, m_rev, m_get1, m_get2, f_get, f_set, f_mth, r_str, m_starts, m_split, m_rstrp, m_rmpre, m_isasc, m_isdig, p1, p2, sl2]
    have hc : cutL (ds.map Val.int) none (some mo) = (ds.take mo.toNat).map Val.int := by
      have e : HT.sIx (ds.map Val.int).length 0 none = 0 := rfl
      unfold cutL
      rw [e, List.drop_zero, Nat.sub_zero, List.map_take]
      have e2 : HT.sIx (ds.map Val.int).length (ds.map Val.int).length (some mo) = min mo.toNat (ds.map Val.int).length := by
        show (if mo < 0 then _ else min mo.toNat _) = _
        rw [if_neg (by omega)]
      rw [e2, List.take_eq_take_iff]
      omega
    refine k _ S'.length (ds.take mo.toNat) (h'.sub.trans Sub.app) (by rw [← hq0]; exact h'.sub.len) (by rw [← hc]; exact get_new) ?_
    rw [List.length_take]
    omega
end My

namespace My
open PySem PM
theorem b_pow : True := trivial
section
variable {n c : Nat} {S : Sto} {Q : VQ} {E : XQ}
theorem cl_step {y : Int} {D : ED} {q : Nat} {cs : List (Int × Int)} {r1 r3 r4 r5 : Option Val} (h1 : S[q]? = some (.lst (cs.map pV))) (b1 : cs.length < big)
    (K : ∀ y w u r3 r4 r5, 0 ≤ w → D.nx [some (.int y), r1, some (.loc q), r3, r4, r5] (S.set q (.lst ((cs ++ [(w, u)]).map pV)))) : wpSs (cenv (UP lp) n) l1001_0 D [some (.int y), r1, some (.loc q), r3, r4, r5] S := by
  have p4 : (0 : Int) < 4 ∧ (4 : Int) < 2 ^ 80 := by decide
  have p7 : (0 : Int) < 7 := by decide
  have p28 : (0 : Int) < 28 ∧ (28 : Int) < 2 ^ 80 := by decide
  simp only [l1001_0, l1001_0_0, m1001_0_1, l1001_0_1, m1001_0_2, l1001_0_2, ↓nE1, ↓nE2, ↓nE3, ↓nE4, ↓nE5, ↓nE6, ↓nE7, ↓nE8, ↓nE9, ↓nE10, ↓nE11, ↓nE12, ↓nE13, ↓nE14, ↓nE15, ↓nE16, ↓nE17, ↓nE18, ↓nE19, ↓nE20, ↓nE21, ↓nE22, ↓nE23, ↓nE24, ↓nE25, ↓nE26, ↓nE27, ↓nE28, ↓nE29, ↓nE30, ↓nS1, ↓nS2, ↓nS3, ↓nS4, ↓nS5, ↓nS6, ↓nS7, ↓nS8, ↓nS9, ↓nS10, ↓nS11, ↓nS12, ↓nS13, ↓nS14, ↓nS15, ↓nS16, ↓nS17, ↓nS18, ↓nS19, ↓nS20, ↓nSs1, ↓nSs2, ↓nEs1, ↓nEs2, ↓nB1, ↓nB2, ↓nB3, ↓nA1, ↓nA2, ↓nA3, ↓nT1, ↓reduceIte, bnm, btp, setAll, wipeL, endsOf, getz, gets, setz, sets, lenc, lenn, v_add, v_sub, v_mul, v_fdiv, v_mod, v_pow, v_adds, v_addt, v_mult, v_muls, v_addl, v_eq, v_ne, v_lt, v_le, v_gt, v_ge, v_is, v_nis, v_isb, v_nisb, v_les, v_in, v_nin, t_non, t_bl, t_int, t_str, t_tup, t_loc, b_lens, b_lent, b_lenl, b_int, b_intb, b_abs, b_min, b_max, b_str, b_strs, b_tupt, b_tupl, b_lstt, b_lstl, b_all, b_any, b_ord, r_append, r_extend, r_pop, r_pop1, r_reverse, r_get1, r_get2, r_setd, m_app, m_ext, m_pop, m_pop1, m_rev, m_get1, m_get2, f_get, f_set, f_mth, r_str, m_starts, m_split, m_rstrp, m_rmpre, m_isasc, m_isdig, reduceCtorEq, eqS_ii, eqS_ss, eqS_nn, Val.flat, Val.isNon, known, Option.isSome_some, true_and, tyB, tyS, istS, tyeq, ixN_0, ixN_1, ixN_2, p4, p7, true_and, and_self]
  generalize hu : y / 4 % 7 = u
  have hv : 0 ≤ y % 4 := Int.emod_nonneg _ (by decide)
  generalize y % 4 = v at hv
  have fin : ∀ w : Int, 0 ≤ w → ∀ r3 r4 r5, D.nx [some (.int (y / 28)), r1, some (.loc q), r3, r4, r5] (S.set q (.lst (cs.map pV ++ [.tup [.int w, .int u]]))) := fun w hw r3 r4 r5 => by
    have := K (y / 28) w u r3 r4 r5 hw
    rwa [List.map_append] at this
  by_cases h0 : u = 0
  · simp only [h0, decide_true, ↓nE1, ↓nE2, ↓nE3, ↓nE4, ↓nE5, ↓nE6, ↓nE7, ↓nE8, ↓nE9, ↓nE10, ↓nE11, ↓nE12, ↓nE13, ↓nE14, ↓nE15, ↓nE16, ↓nE17, ↓nE18, ↓nE19, ↓nE20, ↓nE21, ↓nE22, ↓nE23, ↓nE24, ↓nE25, ↓nE26, ↓nE27, ↓nE28, ↓nE29, ↓nE30, ↓nS1, ↓nS2, ↓nS3, ↓nS4, ↓nS5, ↓nS6, ↓nS7, ↓nS8, ↓nS9, ↓nS10, ↓nS11, ↓nS12, ↓nS13, ↓nS14, ↓nS15, ↓nS16, ↓nS17, ↓nS18, ↓nS19, ↓nS20, ↓nSs1, ↓nSs2, ↓nEs1, ↓nEs2, ↓nB1, ↓nB2, ↓nB3, ↓nA1, ↓nA2, ↓nA3, ↓nT1, ↓reduceIte, bnm, btp, setAll, wipeL, endsOf, getz, gets, setz, sets, lenc, lenn, v_add, v_sub, v_mul, v_fdiv, v_mod, v_pow, v_adds, v_addt, v_mult, v_muls, v_addl, v_eq, v_ne, v_lt, v_le, v_gt, v_ge, v_is, v_nis, v_isb, v_nisb, v_les, v_in, v_nin, t_non, t_bl, t_int, t_str, t_tup, t_loc, b_lens, b_lent, b_lenl, b_int, b_intb, b_abs, b_min, b_max, b_str, b_strs, b_tupt, b_tupl, b_lstt, b_lstl, b_all, b_any, b_ord, r_append, r_extend, r_pop, r_pop1, r_reverse, r_get1, r_get2, r_setd, m_app, m_ext, m_pop, m_pop1, m_rev, m_get1, m_get2, f_get, f_set, f_mth, r_str, m_starts, m_split, m_rstrp, m_rmpre, m_isasc, m_isdig, m1001_0_3, l1001_0_3, m1001_0_4, l1001_0_4, t_loc (n_of h1), b_lenl (n_of h1), b_tupl (n_of h1), b_lstl (n_of h1), r_append (n_of h1), r_extend (n_of h1), r_pop (n_of h1), r_pop1 (n_of h1), r_reverse (n_of h1), m_app (m_of h1), m_rev (m_of h1), List.length_map, b1, p28, true_and, and_self] at fin ⊢
    exact fin 0 (by decide) _ _ _
  · simp only [h0, decide_false, Bool.false_eq_true, ↓nE1, ↓nE2, ↓nE3, ↓nE4, ↓nE5, ↓nE6, ↓nE7, ↓nE8, ↓nE9, ↓nE10, ↓nE11, ↓nE12, ↓nE13, ↓nE14, ↓nE15, ↓nE16, ↓nE17, ↓nE18, ↓nE19, ↓nE20, ↓nE21, ↓nE22, ↓nE23, ↓nE24, ↓nE25, ↓nE26, ↓nE27, ↓nE28, ↓nE29, ↓nE30, ↓nS1, ↓nS2, ↓nS3, ↓nS4, ↓nS5, ↓nS6, ↓nS7, ↓nS8, ↓nS9, ↓nS10, ↓nS11, ↓nS12, ↓nS13, ↓nS14, ↓nS15, ↓nS16, ↓nS17, ↓nS18, ↓nS19, ↓nS20, ↓nSs1, ↓nSs2, ↓nEs1, ↓nEs2, ↓nB1, ↓nB2, ↓nB3, ↓nA1, ↓nA2, ↓nA3, ↓nT1, ↓reduceIte, bnm, btp, setAll, wipeL, endsOf, getz, gets, setz, sets, lenc, lenn, v_add, v_sub, v_mul, v_fdiv, v_mod, v_pow, v_adds, v_addt, v_mult, v_muls, v_addl, v_eq, v_ne, v_lt, v_le, v_gt, v_ge, v_is, v_nis, v_isb, v_nisb, v_les, v_in, v_nin, t_non, t_bl, t_int, t_str, t_tup, t_loc, b_lens, b_lent, b_lenl, b_int, b_intb, b_abs, b_min, b_max, b_str, b_strs, b_tupt, b_tupl, b_lstt, b_lstl, b_all, b_any, b_ord, r_append, r_extend, r_pop, r_pop1, r_reverse, r_get1, r_get2, r_setd, m_app, m_ext, m_pop, m_pop1, m_rev, m_get1, m_get2, f_get, f_set, f_mth, r_str, m_starts, m_split, m_rstrp, m_rmpre, m_isasc, m_isdig, m1001_0_3, l1001_0_3, m1001_0_4, l1001_0_4, t_loc (n_of h1), b_lenl (n_of h1), b_tupl (n_of h1), b_lstl (n_of h1), r_append (n_of h1), r_extend (n_of h1), r_pop (n_of h1), r_pop1 (n_of h1), r_reverse (n_of h1), m_app (m_of h1), m_rev (m_of h1), List.length_map, b1, p28, true_and, and_self]
    exact fin v hv _ _ _
/-- the law's clock -/
theorem c1001 {x : Int} (hc : c ≤ 1000) (k : ∀ S' cs, Sub S S' → VC c cs → Q (.tup (cs.map pV)) S') : callN (UP lp) (n + 1) 1001 [.int x, .int (c : Int)] S Q E := by
  rw [u1001]
  generalize hρ0 : ([some (Val.int x), some (Val.int (c : Int)), none, none, none, none] : LE) = ρ0
  rw [b1001, b1001_0]
  refine Ss_cons ?_
  refine S_asgE ?_
  rw [nE12, nEs1, bnm]
  show PM.wpSs (cenv (UP lp) n) t1001_1 _ (ρ0.set 2 (some (.loc S.length))) (S ++ [SObj.lst []])
  have s1 : Sub S (S ++ [SObj.lst []]) := Sub.app
  have hq : (S ++ [SObj.lst []])[S.length]? = some (.lst []) := get_new
  generalize hq0 : S.length = q at *
  generalize hS1 : S ++ [SObj.lst []] = S1 at *
  generalize hρ : ρ0.set 2 (some (.loc q)) = ρ
  replace hρ : [some (Val.int x), some (Val.int (c : Int)), some (Val.loc q), none, none, none] = ρ := by rw [← hρ, ← hρ0]; rfl
  clear hρ0
  rw [t1001_1, b1001_1]
  refine Ss_cons ?_
  refine frW (xs := [.int (c : Nat)]) (fun R hR => ?_) (it_range (n := c) (by omega)) ?_
  · subst hρ
    simp only [↓nE1, ↓nE2, ↓nE3, ↓nE4, ↓nE5, ↓nE6, ↓nE7, ↓nE8, ↓nE9, ↓nE10, ↓nE11, ↓nE12, ↓nE13, ↓nE14, ↓nE15, ↓nE16, ↓nE17, ↓nE18, ↓nE19, ↓nE20, ↓nE21, ↓nE22, ↓nE23, ↓nE24, ↓nE25, ↓nE26, ↓nE27, ↓nE28, ↓nE29, ↓nE30, ↓nS1, ↓nS2, ↓nS3, ↓nS4, ↓nS5, ↓nS6, ↓nS7, ↓nS8, ↓nS9, ↓nS10, ↓nS11, ↓nS12, ↓nS13, ↓nS14, ↓nS15, ↓nS16, ↓nS17, ↓nS18, ↓nS19, ↓nS20, ↓nSs1, ↓nSs2, ↓nEs1, ↓nEs2, ↓nB1, ↓nB2, ↓nB3, ↓nA1, ↓nA2, ↓nA3, ↓nT1, ↓reduceIte, bnm, btp, setAll, wipeL, endsOf, getz, gets, setz, sets, lenc, lenn, v_add, v_sub, v_mul, v_fdiv, v_mod, v_pow, v_adds, v_addt, v_mult, v_muls, v_addl, v_eq, v_ne, v_lt, v_le, v_gt, v_ge, v_is, v_nis, v_isb, v_nisb, v_les, v_in, v_nin, t_non, t_bl, t_int, t_str, t_tup, t_loc, b_lens, b_lent, b_lenl, b_int, b_intb, b_abs, b_min, b_max, b_str, b_strs, b_tupt, b_tupl, b_lstt, b_lstl, b_all, b_any, b_ord, r_append, r_extend, r_pop, r_pop1, r_reverse, r_get1, r_get2, r_setd, m_app, m_ext, m_pop, m_pop1, m_rev, m_get1, m_get2, f_get, f_set, f_mth, r_str, m_starts, m_split, m_rstrp, m_rmpre, m_isasc, m_isdig]
    exact hR
  refine for_inv (fun i ρ' S' => (∃ y r3 r4 r5, ρ' = [some (.int y), some (.int (c : Int)), some (.loc q), r3, r4, r5]) ∧ Sub S S' ∧ ∃ cs : List (Int × Int), S'[q]? = some (.lst (cs.map pV)) ∧ cs.length = i ∧ ∀ p ∈ cs, 0 ≤ p.1) ⟨⟨x, none, none, none, hρ.symm⟩, s1, [], hq, rfl, by simp⟩ ?_ ?_
  · rintro i z ρ' S' K2 hz ⟨⟨y, r3, r4, r5, rfl⟩, s', cs, h1, h2, h3⟩ hK
    have hi : i < c := by have := (List.getElem?_eq_some_iff.mp hz).1; simpa using this
    have b1 : cs.length < big := by unfold big; omega
    refine ⟨trivial, ?_⟩
    rw [bnm]
    simp only [sets, setz]
    refine cl_step h1 b1 fun y w u r3 r4 r5 hw => ?_
    refine hK _ _ ⟨⟨_, _, _, _, rfl⟩, s'.setN (by omega), cs ++ [(w, u)], put_get (get_lt h1), by simp [h2], fun p hp => ?_⟩
    rcases List.mem_append.mp hp with hp | hp
    · exact h3 p hp
    · rw [List.mem_singleton.mp hp]; exact hw
  · rintro ρ' S' ⟨⟨y, r3, r4, r5, rfl⟩, s', cs, h1, h2, h3⟩
    refine ⟨trivial, ?_⟩
    simp only [t1001_2, b1001_2, ↓nE1, ↓nE2, ↓nE3, ↓nE4, ↓nE5, ↓nE6, ↓nE7, ↓nE8, ↓nE9, ↓nE10, ↓nE11, ↓nE12, ↓nE13, ↓nE14, ↓nE15, ↓nE16, ↓nE17, ↓nE18, ↓nE19, ↓nE20, ↓nE21, ↓nE22, ↓nE23, ↓nE24, ↓nE25, ↓nE26, ↓nE27, ↓nE28, ↓nE29, ↓nE30, ↓nS1, ↓nS2, ↓nS3, ↓nS4, ↓nS5, ↓nS6, ↓nS7, ↓nS8, ↓nS9, ↓nS10, ↓nS11, ↓nS12, ↓nS13, ↓nS14, ↓nS15, ↓nS16, ↓nS17, ↓nS18, ↓nS19, ↓nS20, ↓nSs1, ↓nSs2, ↓nEs1, ↓nEs2, ↓nB1, ↓nB2, ↓nB3, ↓nA1, ↓nA2, ↓nA3, ↓nT1, ↓reduceIte, bnm, btp, setAll, wipeL, endsOf, getz, gets, setz, sets, lenc, lenn, v_add, v_sub, v_mul, v_fdiv, v_mod, v_pow, v_adds, v_addt, v_mult, v_muls, v_addl, v_eq, v_ne, v_lt, v_le, v_gt, v_ge, v_is, v_nis, v_isb, v_nisb, v_les, v_in, v_nin, t_non, t_bl, t_int, t_str, t_tup, t_loc, b_lens, b_lent, b_lenl, b_int, b_intb, b_abs, b_min, b_max, b_str, b_strs, b_tupt, b_tupl, b_lstt, b_lstl, b_all, b_any, b_ord, r_append, r_extend, r_pop, r_pop1, r_reverse, r_get1, r_get2, r_setd, m_app, m_ext, m_pop, m_pop1, m_rev, m_get1, m_get2, f_get, f_set, f_mth, r_str, m_starts, m_split, m_rstrp, m_rmpre, m_isasc, m_isdig, b_tupl (n_of h1)]
    exact k S' cs s' ⟨by rw [h2]; simp, h3⟩
theorem dead_len {row : List Int} {a b : Int} (ha : 0 ≤ a) : decide ((0 : Int) < ((((List.range' 0 row.length).map fun (i : Nat) => Val.int (i : Int)).filterMap (fun v => match v with | .int k => if (decide (a ≤ k) && decide (row.getD k.toNat 0 < b)) = true then some v else none | _ => none)).length : Int)) = deadP row (a, b) := by
  have e : (0 : Int) < ((((List.range' 0 row.length).map fun (i : Nat) => Val.int (i : Int)).filterMap (fun v => match v with | .int k => if (decide (a ≤ k) && decide (row.getD k.toNat 0 < b)) = true then some v else none | _ => none)).length : Int) ↔ deadP row (a, b) = true := by
    rw [Int.natCast_pos, List.length_pos_iff_exists_mem]
    unfold deadP
    rw [List.any_eq_true]
    constructor
    · rintro ⟨v, hv⟩
      obtain ⟨u, hu, hf⟩ := List.mem_filterMap.mp hv
      obtain ⟨i, hi, rfl⟩ := List.mem_map.mp hu
      have hi2 : i < row.length := by simpa using hi
      simp only at hf
      split at hf
      · rename_i h
        simp only [Bool.and_eq_true, decide_eq_true_eq, Int.toNat_natCast] at h
        refine ⟨row.getD i 0, ?_, by simpa using h.2⟩
        rw [List.mem_drop_iff_getElem]
        refine ⟨i - a.toNat, by omega, ?_⟩
        have : a.toNat + (i - a.toNat) = i := by omega
        simp [this, hi2]
      · cases hf
    · rintro ⟨x, hx, hb⟩
      obtain ⟨j, hj, rfl⟩ := List.mem_drop_iff_getElem.mp hx
      simp only at hj
      refine ⟨.int ((a.toNat + j : Nat) : Int), List.mem_filterMap.mpr ⟨_, List.mem_map.mpr ⟨a.toNat + j, by simp; omega, rfl⟩, ?_⟩⟩
      have h1 : a ≤ ((a.toNat + j : Nat) : Int) := by omega
      have hl : a.toNat + j < row.length := by omega
      have h2 : row.getD (a.toNat + j) 0 < b := by
        simp only [List.getD_eq_getElem?_getD, List.getElem?_eq_getElem hl, Option.getD_some]
        simpa using hb
      simp only [h1, decide_true, Int.toNat_natCast, h2, Bool.and_self, if_true]
  cases h : deadP row (a, b) with
  | true => exact decide_eq_true (e.mpr h)
  | false => exact decide_eq_false (fun z => by rw [e.mp z] at h; cases h)
theorem c1002 {m : Nat} {row : List Int} {a b : Int} (h : S[m]? = some (.lst (row.map Val.int))) (hl : row.length ≤ 1000) (ha : 0 ≤ a) (k : ∀ S', Sub S S' → Q (.bl (deadP row (a, b))) S') : callN (UP lp) (n + 1) 1002 [.loc m, .tup [.int a, .int b]] S Q E := by
  rw [u1002, b1002, b1002_0, nSs2, nS4, nE8, nE17, nEs2]
  refine lcW ?_
  rw [nEs2, nE17, nEs2]
  simp only [↓nE1, ↓nE2, ↓nE3, ↓nE4, ↓nE5, ↓nE6, ↓nE7, ↓nE8, ↓nE9, ↓nE10, ↓nE11, ↓nE12, ↓nE13, ↓nE14, ↓nE15, ↓nE16, ↓nE17, ↓nE18, ↓nE19, ↓nE21, ↓nE22, ↓nE23, ↓nE24, ↓nE25, ↓nE27, ↓nE28, ↓nE30, ↓nS1, ↓nS2, ↓nS3, ↓nS4, ↓nS5, ↓nS6, ↓nS7, ↓nS8, ↓nS9, ↓nS10, ↓nS11, ↓nS12, ↓nS13, ↓nS14, ↓nS15, ↓nS16, ↓nS17, ↓nS18, ↓nS19, ↓nS20, ↓nSs1, ↓nSs2, ↓nEs1, ↓nEs2, ↓nB1, ↓nB2, ↓nB3, ↓nA1, ↓nA2, ↓nA3, ↓nT1, ↓reduceIte, bnm, btp, setAll, wipeL, endsOf, getz, gets, setz, sets, lenc, lenn, v_add, v_sub, v_mul, v_fdiv, v_mod, v_pow, v_adds, v_addt, v_mult, v_muls, v_addl, v_eq, v_ne, v_lt, v_le, v_gt, v_ge, v_is, v_nis, v_isb, v_nisb, v_les, v_in, v_nin, t_non, t_bl, t_int, t_str, t_tup, t_loc, b_lens, b_lent, b_lenl, b_int, b_intb, b_abs, b_min, b_max, b_str, b_strs, b_tupt, b_tupl, b_lstt, b_lstl, b_all, b_any, b_ord, r_append, r_extend, r_pop, r_pop1, r_reverse, r_get1, r_get2, r_setd, m_app, m_ext, m_pop, m_pop1, m_rev, m_get1, m_get2, f_get, f_set, f_mth, r_str, m_starts, m_split, m_rstrp, m_rmpre, m_isasc, m_isdig, b_lenl (n_of h), List.length_map]
  refine ⟨_, _, it_range (by omega), ?_⟩
  refine lc_sub (fun v => match v with | .int k => if (decide (a ≤ k) && decide (row.getD k.toNat 0 < b)) = true then some v else none | _ => none) trivial (by simp [big]; omega) (fun x hx S2 K s2 k2 => ?_) fun S' s' h' => ?_
  · obtain ⟨i, hi, rfl⟩ := List.mem_map.mp hx
    have hi2 : i < row.length := by simpa using hi
    have a1 : atV (row.map Val.int) (i : Int) = some (.int (row.getD i 0)) := atV_nat (by simp [hi2])
    simp only [Int.toNat_natCast] at k2
    by_cases h1 : a ≤ (i : Int)
    · by_cases h2 : row.getD i 0 < b
      · simp only [h1, h2, decide_true, Bool.and_self, if_true] at k2
        simp only [↓nE1, ↓nE2, ↓nE3, ↓nE4, ↓nE5, ↓nE6, ↓nE7, ↓nE8, ↓nE9, ↓nE10, ↓nE11, ↓nE12, ↓nE13, ↓nE14, ↓nE15, ↓nE16, ↓nE17, ↓nE18, ↓nE19, ↓nE21, ↓nE22, ↓nE23, ↓nE24, ↓nE25, ↓nE27, ↓nE28, ↓nE30, ↓nS1, ↓nS2, ↓nS3, ↓nS4, ↓nS5, ↓nS6, ↓nS7, ↓nS8, ↓nS9, ↓nS10, ↓nS11, ↓nS12, ↓nS13, ↓nS14, ↓nS15, ↓nS16, ↓nS17, ↓nS18, ↓nS19, ↓nS20, ↓nSs1, ↓nSs2, ↓nEs1, ↓nEs2, ↓nB1, ↓nB2, ↓nB3, ↓nA1, ↓nA2, ↓nA3, ↓nT1, ↓reduceIte, bnm, btp, setAll, wipeL, endsOf, getz, gets, setz, sets, lenc, lenn, v_add, v_sub, v_mul, v_fdiv, v_mod, v_pow, v_adds, v_addt, v_mult, v_muls, v_addl, v_eq, v_ne, v_lt, v_le, v_gt, v_ge, v_is, v_nis, v_isb, v_nisb, v_les, v_in, v_nin, t_non, t_bl, t_int, t_str, t_tup, t_loc, b_lens, b_lent, b_lenl, b_int, b_intb, b_abs, b_min, b_max, b_str, b_strs, b_tupt, b_tupl, b_lstt, b_lstl, b_all, b_any, b_ord, r_append, r_extend, r_pop, r_pop1, r_reverse, r_get1, r_get2, r_setd, m_app, m_ext, m_pop, m_pop1, m_rev, m_get1, m_get2, f_get, f_set, f_mth, r_str, m_starts, m_split, m_rstrp, m_rmpre, m_isasc, m_isdig, ixS_t atV_0, ixS_t atV_1, h1, decide_true, ixS_l (n_of (s2 _ _ h)) a1, h2]
        exact k2 S2 Sub.refl
      · simp only [h1, h2, decide_true, decide_false, Bool.and_false, Bool.false_eq_true, if_false] at k2
        simp only [↓nE1, ↓nE2, ↓nE3, ↓nE4, ↓nE5, ↓nE6, ↓nE7, ↓nE8, ↓nE9, ↓nE10, ↓nE11, ↓nE12, ↓nE13, ↓nE14, ↓nE15, ↓nE16, ↓nE17, ↓nE18, ↓nE19, ↓nE21, ↓nE22, ↓nE23, ↓nE24, ↓nE25, ↓nE27, ↓nE28, ↓nE30, ↓nS1, ↓nS2, ↓nS3, ↓nS4, ↓nS5, ↓nS6, ↓nS7, ↓nS8, ↓nS9, ↓nS10, ↓nS11, ↓nS12, ↓nS13, ↓nS14, ↓nS15, ↓nS16, ↓nS17, ↓nS18, ↓nS19, ↓nS20, ↓nSs1, ↓nSs2, ↓nEs1, ↓nEs2, ↓nB1, ↓nB2, ↓nB3, ↓nA1, ↓nA2, ↓nA3, ↓nT1, ↓reduceIte, bnm, btp, setAll, wipeL, endsOf, getz, gets, setz, sets, lenc, lenn, v_add, v_sub, v_mul, v_fdiv, v_mod, v_pow, v_adds, v_addt, v_mult, v_muls, v_addl, v_eq, v_ne, v_lt, v_le, v_gt, v_ge, v_is, v_nis, v_isb, v_nisb, v_les, v_in, v_nin, t_non, t_bl, t_int, t_str, t_tup, t_loc, b_lens, b_lent, b_lenl, b_int, b_intb, b_abs, b_min, b_max, b_str, b_strs, b_tupt, b_tupl, b_lstt, b_lstl, b_all, b_any, b_ord, r_append, r_extend, r_pop, r_pop1, r_reverse, r_get1, r_get2, r_setd, m_app, m_ext, m_pop, m_pop1, m_rev, m_get1, m_get2, f_get, f_set, f_mth, r_str, m_starts, m_split, m_rstrp, m_rmpre, m_isasc, m_isdig, ixS_t atV_0, ixS_t atV_1, h1, decide_true, ixS_l (n_of (s2 _ _ h)) a1, h2, decide_false, Bool.false_eq_true]
        exact k2 S2 Sub.refl
    · simp only [h1, decide_false, Bool.false_and, Bool.false_eq_true, if_false] at k2
      simp only [↓nE1, ↓nE2, ↓nE3, ↓nE4, ↓nE5, ↓nE6, ↓nE7, ↓nE8, ↓nE9, ↓nE10, ↓nE11, ↓nE12, ↓nE13, ↓nE14, ↓nE15, ↓nE16, ↓nE17, ↓nE18, ↓nE19, ↓nE21, ↓nE22, ↓nE23, ↓nE24, ↓nE25, ↓nE27, ↓nE28, ↓nE30, ↓nS1, ↓nS2, ↓nS3, ↓nS4, ↓nS5, ↓nS6, ↓nS7, ↓nS8, ↓nS9, ↓nS10, ↓nS11, ↓nS12, ↓nS13, ↓nS14, ↓nS15, ↓nS16, ↓nS17, ↓nS18, ↓nS19, ↓nS20, ↓nSs1, ↓nSs2, ↓nEs1, ↓nEs2, ↓nB1, ↓nB2, ↓nB3, ↓nA1, ↓nA2, ↓nA3, ↓nT1, ↓reduceIte, bnm, btp, setAll, wipeL, endsOf, getz, gets, setz, sets, lenc, lenn, v_add, v_sub, v_mul, v_fdiv, v_mod, v_pow, v_adds, v_addt, v_mult, v_muls, v_addl, v_eq, v_ne, v_lt, v_le, v_gt, v_ge, v_is, v_nis, v_isb, v_nisb, v_les, v_in, v_nin, t_non, t_bl, t_int, t_str, t_tup, t_loc, b_lens, b_lent, b_lenl, b_int, b_intb, b_abs, b_min, b_max, b_str, b_strs, b_tupt, b_tupl, b_lstt, b_lstl, b_all, b_any, b_ord, r_append, r_extend, r_pop, r_pop1, r_reverse, r_get1, r_get2, r_setd, m_app, m_ext, m_pop, m_pop1, m_rev, m_get1, m_get2, f_get, f_set, f_mth, r_str, m_starts, m_split, m_rstrp, m_rmpre, m_isasc, m_isdig, ixS_t atV_0, h1, decide_false, Bool.false_eq_true]
      exact k2 S2 Sub.refl
  · simp only [↓nE1, ↓nE2, ↓nE3, ↓nE4, ↓nE5, ↓nE6, ↓nE7, ↓nE8, ↓nE9, ↓nE10, ↓nE11, ↓nE12, ↓nE13, ↓nE14, ↓nE15, ↓nE16, ↓nE17, ↓nE18, ↓nE19, ↓nE21, ↓nE22, ↓nE23, ↓nE24, ↓nE25, ↓nE27, ↓nE28, ↓nE30, ↓nS1, ↓nS2, ↓nS3, ↓nS4, ↓nS5, ↓nS6, ↓nS7, ↓nS8, ↓nS9, ↓nS10, ↓nS11, ↓nS12, ↓nS13, ↓nS14, ↓nS15, ↓nS16, ↓nS17, ↓nS18, ↓nS19, ↓nS20, ↓nSs1, ↓nSs2, ↓nEs1, ↓nEs2, ↓nB1, ↓nB2, ↓nB3, ↓nA1, ↓nA2, ↓nA3, ↓nT1, ↓reduceIte, bnm, btp, setAll, wipeL, endsOf, getz, gets, setz, sets, lenc, lenn, v_add, v_sub, v_mul, v_fdiv, v_mod, v_pow, v_adds, v_addt, v_mult, v_muls, v_addl, v_eq, v_ne, v_lt, v_le, v_gt, v_ge, v_is, v_nis, v_isb, v_nisb, v_les, v_in, v_nin, t_non, t_bl, t_int, t_str, t_tup, t_loc, b_lens, b_lent, b_lenl, b_int, b_intb, b_abs, b_min, b_max, b_str, b_strs, b_tupt, b_tupl, b_lstt, b_lstl, b_all, b_any, b_ord, r_append, r_extend, r_pop, r_pop1, r_reverse, r_get1, r_get2, r_setd, m_app, m_ext, m_pop, m_pop1, m_rev, m_get1, m_get2, f_get, f_set, f_mth, r_str, m_starts, m_split, m_rstrp, m_rmpre, m_isasc, m_isdig, b_lenl (n_of h')]
    have := k S' s'
    rw [← dead_len ha] at this
    exact this
theorem c1005 {x y : Bool} (k : Q (.bl (x == y)) S) : callN (UP lp) (n + 1) 1005 [.bl x, .bl y] S Q E := by
  have e : ∀ {Q : Bool → Prop}, eqS S (.bl x) (.bl y) Q = Q (x == y) := fun {Q} => by simp only [eqS, dat, PyData.eqv]
  rw [u1005]
  simp only [b1005_0, b1005, ↓nE1, ↓nE2, ↓nE3, ↓nE4, ↓nE5, ↓nE6, ↓nE7, ↓nE8, ↓nE9, ↓nE10, ↓nE11, ↓nE12, ↓nE13, ↓nE14, ↓nE15, ↓nE16, ↓nE17, ↓nE18, ↓nE19, ↓nE20, ↓nE21, ↓nE22, ↓nE23, ↓nE24, ↓nE25, ↓nE26, ↓nE27, ↓nE28, ↓nE29, ↓nE30, ↓nS1, ↓nS2, ↓nS3, ↓nS4, ↓nS5, ↓nS6, ↓nS7, ↓nS8, ↓nS9, ↓nS10, ↓nS11, ↓nS12, ↓nS13, ↓nS14, ↓nS15, ↓nS16, ↓nS17, ↓nS18, ↓nS19, ↓nS20, ↓nSs1, ↓nSs2, ↓nEs1, ↓nEs2, ↓nB1, ↓nB2, ↓nB3, ↓nA1, ↓nA2, ↓nA3, ↓nT1, ↓reduceIte, bnm, btp, setAll, wipeL, endsOf, getz, gets, setz, sets, lenc, lenn, v_add, v_sub, v_mul, v_fdiv, v_mod, v_pow, v_adds, v_addt, v_mult, v_muls, v_addl, v_eq, v_ne, v_lt, v_le, v_gt, v_ge, v_is, v_nis, v_isb, v_nisb, v_les, v_in, v_nin, t_non, t_bl, t_int, t_str, t_tup, t_loc, b_lens, b_lent, b_lenl, b_int, b_intb, b_abs, b_min, b_max, b_str, b_strs, b_tupt, b_tupl, b_lstt, b_lstl, b_all, b_any, b_ord, r_append, r_extend, r_pop, r_pop1, r_reverse, r_get1, r_get2, r_setd, m_app, m_ext, m_pop, m_pop1, m_rev, m_get1, m_get2, f_get, f_set, f_mth, r_str, m_starts, m_split, m_rstrp, m_rmpre, m_isasc, m_isdig, reduceCtorEq, eqS_ii, eqS_ss, eqS_nn, Val.flat, Val.isNon, known, Option.isSome_some, true_and, tyB, tyS, istS, tyeq, ixN_0, ixN_1, ixN_2, e]
  exact k
end
end My

namespace My
open PySem PM
/-- a list of lists, by their places -/
def RowsV (S : Sto) (r c : Nat) (f : Nat → List Val) : Prop := ∃ xs, S[r]? = some (.lst xs) ∧ xs.length = c ∧ ∀ p, p < c → ∃ m, xs[p]? = some (.loc m) ∧ S[m]? = some (.lst (f p))
theorem RowsV.at_ {S : Sto} {r c p : Nat} {f : Nat → List Val} (h : RowsV S r c f) (hp : p < c) : ∃ xs m, S[r]? = some (.lst xs) ∧ atV xs (p : Int) = some (.loc m) ∧ S[m]? = some (.lst (f p)) := by
  obtain ⟨xs, h1, h2, h3⟩ := h
  obtain ⟨m, e, q⟩ := h3 p hp
  exact ⟨xs, m, h1, atV_nat e, q⟩
theorem RowsV.subX {S S' : Sto} {r c : Nat} {f : Nat → List Val} {w : List Nat} (h : RowsV S r c f) (s : SubX w S S') (hr : r ∉ w) (hw : ∀ x ∈ w, ∀ p, p < c → S[x]? ≠ some (.lst (f p))) : RowsV S' r c f := by
  obtain ⟨xs, h1, h2, h3⟩ := h
  refine ⟨xs, s _ _ hr h1, h2, fun p hp => ?_⟩
  obtain ⟨m, e, q⟩ := h3 p hp
  exact ⟨m, e, s _ _ (fun z => hw m z p hp q) q⟩
theorem RowsV.sub {S S' : Sto} {r c : Nat} {f : Nat → List Val} (h : RowsV S r c f) (s : Sub S S') : RowsV S' r c f := h.subX (w := []) s.toX (fun z => by cases z) (fun x hx => by cases hx)
/-- one row is another list -/
theorem RowsV.put {S : Sto} {r c p m : Nat} {f : Nat → List Val} {v : List Val} {xs : List Val} (h : RowsV S r c f) (hx : S[r]? = some (.lst xs)) (hp : p < c) (hm : S[m]? = some (.lst v)) (hmr : m ≠ r) (hn : ∀ q, q < c → ∀ x ∈ f q, ∀ k, x ≠ .loc k) :
    RowsV (S.set r (.lst (xs.set p (.loc m)))) r c fun q => if q = p then v else f q := by
  obtain ⟨ys, h1, h2, h3⟩ := h
  rw [hx] at h1
  cases h1
  refine ⟨_, put_get (get_lt hx), by simp [h2], fun q hq => ?_⟩
  by_cases e : q = p
  · subst e
    refine ⟨m, by rw [List.getElem?_set, if_pos rfl, if_pos (by omega)], ?_⟩
    show _ = some (SObj.lst (if q = q then v else f q))
    rw [if_pos rfl, List.getElem?_set_ne (Ne.symm hmr)]
    exact hm
  · obtain ⟨k, e1, e2⟩ := h3 q hq
    refine ⟨k, by rw [List.getElem?_set_ne (fun z => e z.symm)]; exact e1, ?_⟩
    show _ = some (SObj.lst (if q = p then v else f q))
    rw [if_neg e, List.getElem?_set_ne (fun z => ?_)]
    · exact e2
    · rw [← z, hx] at e2
      have e3 : xs = f q := by cases e2; rfl
      exact hn q hq (.loc k) (by rw [← e3]; exact List.mem_of_getElem? e1) k rfl
theorem cnt_any {n : Nat} (f : Nat → Bool) : decide ((0 : Int) < ((((List.range' 0 n).map fun (i : Nat) => Val.int (i : Int)).filterMap (fun v => match v with | .int k => if f k.toNat = true then some v else none | _ => none)).length : Int)) = (List.range n).any f := by
  have e : (0 : Int) < ((((List.range' 0 n).map fun (i : Nat) => Val.int (i : Int)).filterMap (fun v => match v with | .int k => if f k.toNat = true then some v else none | _ => none)).length : Int) ↔ (List.range n).any f = true := by
    rw [Int.natCast_pos, List.length_pos_iff_exists_mem, List.any_eq_true]
    constructor
    · rintro ⟨v, hv⟩
      obtain ⟨u, hu, hf⟩ := List.mem_filterMap.mp hv
      obtain ⟨i, hi, rfl⟩ := List.mem_map.mp hu
      simp only [Int.toNat_natCast] at hf
      split at hf
      · rename_i h
        exact ⟨i, by simpa using hi, h⟩
      · cases hf
    · rintro ⟨i, hi, hf⟩
      exact ⟨.int (i : Int), List.mem_filterMap.mpr ⟨_, List.mem_map.mpr ⟨i, by simpa using hi, rfl⟩, by simp [hf]⟩⟩
  cases h : (List.range n).any f with
  | true => exact decide_eq_true (e.mpr h)
  | false => exact decide_eq_false (fun z => by rw [e.mp z] at h; cases h)
theorem zip_eq (g : Nat → Int × Int → Bool) (cs : List (Int × Int)) : (cs.zipIdx.map fun q => g q.2 q.1) = (List.range cs.length).map fun i => g i (cs.getD i (0, 0)) := by
  apply List.ext_getElem?
  intro i
  simp only [List.getElem?_map, List.getElem?_zipIdx, Option.map_map]
  by_cases h : i < cs.length
  · simp [h, List.getElem?_range]
  · simp [h]
theorem zip_any (g : Nat → Int × Int → Bool) (cs : List (Int × Int)) : (cs.zipIdx.map fun q => g q.2 q.1).any id = (List.range cs.length).any fun i => g i (cs.getD i (0, 0)) := by
  rw [zip_eq, List.any_map]; rfl
theorem zip_all (g : Nat → Int × Int → Bool) (cs : List (Int × Int)) : (cs.zipIdx.map fun q => g q.2 q.1).all id = (List.range cs.length).all fun i => g i (cs.getD i (0, 0)) := by
  rw [zip_eq, List.all_map]; rfl
def intsOf (R : Nat → List Int) : Nat → List Val := fun p => (R p).map Val.int
section
variable {n c r t : Nat} {S : Sto} {Q : VQ} {E : XQ} {R : Nat → List Int} {TT : Nat → List (Int × Int)} {cs : List (Int × Int)}
theorem atV_cs {i : Nat} (h : i < cs.length) : atV (cs.map pV) (i : Int) = some (pV (cs.getD i (0, 0))) := atV_nat (by simp [h])
theorem c1003 (h : RowsV S r c (intsOf R)) (hc : c ≤ 1000) (hl : ∀ p, p < c → (R p).length ≤ 1000) (hv : VC c cs) (k : ∀ S', Sub S S' → Q (.bl (deadC R cs)) S') : callN (UP lp) (n + 2) 1003 [.loc r, .tup (cs.map pV)] S Q E := by
  rw [u1003]
  generalize hρ : ([some (Val.loc r), some (Val.tup (cs.map pV)), none] : LE) = ρ
  rw [b1003, b1003_0, nSs2, nS4, nE8, nE17, nEs2]
  refine lcW ?_
  rw [nEs2, nE17, nEs2]
  subst hρ
  simp only [↓nE1, ↓nE2, ↓nE3, ↓nE4, ↓nE5, ↓nE6, ↓nE7, ↓nE8, ↓nE9, ↓nE10, ↓nE11, ↓nE12, ↓nE13, ↓nE14, ↓nE15, ↓nE16, ↓nE17, ↓nE18, ↓nE19, ↓nE21, ↓nE22, ↓nE23, ↓nE24, ↓nE25, ↓nE27, ↓nE28, ↓nE30, ↓nS1, ↓nS2, ↓nS3, ↓nS4, ↓nS5, ↓nS6, ↓nS7, ↓nS8, ↓nS9, ↓nS10, ↓nS11, ↓nS12, ↓nS13, ↓nS14, ↓nS15, ↓nS16, ↓nS17, ↓nS18, ↓nS19, ↓nS20, ↓nSs1, ↓nSs2, ↓nEs1, ↓nEs2, ↓nB1, ↓nB2, ↓nB3, ↓nA1, ↓nA2, ↓nA3, ↓nT1, ↓reduceIte, bnm, btp, setAll, wipeL, endsOf, getz, gets, setz, sets, lenc, lenn, v_add, v_sub, v_mul, v_fdiv, v_mod, v_pow, v_adds, v_addt, v_mult, v_muls, v_addl, v_eq, v_ne, v_lt, v_le, v_gt, v_ge, v_is, v_nis, v_isb, v_nisb, v_les, v_in, v_nin, t_non, t_bl, t_int, t_str, t_tup, t_loc, b_lens, b_lent, b_lenl, b_int, b_intb, b_abs, b_min, b_max, b_str, b_strs, b_tupt, b_tupl, b_lstt, b_lstl, b_all, b_any, b_ord, r_append, r_extend, r_pop, r_pop1, r_reverse, r_get1, r_get2, r_setd, m_app, m_ext, m_pop, m_pop1, m_rev, m_get1, m_get2, f_get, f_set, f_mth, r_str, m_starts, m_split, m_rstrp, m_rmpre, m_isasc, m_isdig, List.length_map]
  refine ⟨_, _, it_range (by rw [hv.1]; omega), ?_⟩
  refine lc_sub (fun v => match v with | .int k => if (deadP (R k.toNat) (cs.getD k.toNat (0, 0))) = true then some v else none | _ => none) trivial (by simp [big, hv.1]; omega) (fun x hx S2 K s2 k2 => ?_) fun S' s' h' => ?_
  · obtain ⟨i, hi, rfl⟩ := List.mem_map.mp hx
    have hi2 : i < cs.length := by simpa using hi
    have hic : i < c := by rw [← hv.1]; exact hi2
    obtain ⟨xs, m, h1, h2, h3⟩ := (h.sub s2).at_ hic
    have vp := hv.at (i := i) (p := cs.getD i (0, 0)) (by simp [hi2])
    simp only [Int.toNat_natCast] at k2
    simp only [↓nE1, ↓nE2, ↓nE3, ↓nE4, ↓nE5, ↓nE6, ↓nE7, ↓nE8, ↓nE9, ↓nE10, ↓nE11, ↓nE12, ↓nE13, ↓nE14, ↓nE15, ↓nE16, ↓nE17, ↓nE18, ↓nE19, ↓nE21, ↓nE22, ↓nE23, ↓nE24, ↓nE25, ↓nE27, ↓nE28, ↓nE30, ↓nS1, ↓nS2, ↓nS3, ↓nS4, ↓nS5, ↓nS6, ↓nS7, ↓nS8, ↓nS9, ↓nS10, ↓nS11, ↓nS12, ↓nS13, ↓nS14, ↓nS15, ↓nS16, ↓nS17, ↓nS18, ↓nS19, ↓nS20, ↓nSs1, ↓nSs2, ↓nEs1, ↓nEs2, ↓nB1, ↓nB2, ↓nB3, ↓nA1, ↓nA2, ↓nA3, ↓nT1, ↓reduceIte, bnm, btp, setAll, wipeL, endsOf, getz, gets, setz, sets, lenc, lenn, v_add, v_sub, v_mul, v_fdiv, v_mod, v_pow, v_adds, v_addt, v_mult, v_muls, v_addl, v_eq, v_ne, v_lt, v_le, v_gt, v_ge, v_is, v_nis, v_isb, v_nisb, v_les, v_in, v_nin, t_non, t_bl, t_int, t_str, t_tup, t_loc, b_lens, b_lent, b_lenl, b_int, b_intb, b_abs, b_min, b_max, b_str, b_strs, b_tupt, b_tupl, b_lstt, b_lstl, b_all, b_any, b_ord, r_append, r_extend, r_pop, r_pop1, r_reverse, r_get1, r_get2, r_setd, m_app, m_ext, m_pop, m_pop1, m_rev, m_get1, m_get2, f_get, f_set, f_mth, r_str, m_starts, m_split, m_rstrp, m_rmpre, m_isasc, m_isdig, ixS_l (n_of h1) h2, ixS_t (atV_cs hi2), pV]
    refine c1002 h3 (hl i hic) vp.2 fun S3 s3 => ?_
    simp only [↓nE1, ↓nE2, ↓nE3, ↓nE4, ↓nE5, ↓nE6, ↓nE7, ↓nE8, ↓nE9, ↓nE10, ↓nE11, ↓nE12, ↓nE13, ↓nE14, ↓nE15, ↓nE16, ↓nE17, ↓nE18, ↓nE19, ↓nE21, ↓nE22, ↓nE23, ↓nE24, ↓nE25, ↓nE27, ↓nE28, ↓nE30, ↓nS1, ↓nS2, ↓nS3, ↓nS4, ↓nS5, ↓nS6, ↓nS7, ↓nS8, ↓nS9, ↓nS10, ↓nS11, ↓nS12, ↓nS13, ↓nS14, ↓nS15, ↓nS16, ↓nS17, ↓nS18, ↓nS19, ↓nS20, ↓nSs1, ↓nSs2, ↓nEs1, ↓nEs2, ↓nB1, ↓nB2, ↓nB3, ↓nA1, ↓nA2, ↓nA3, ↓nT1, ↓reduceIte, bnm, btp, setAll, wipeL, endsOf, getz, gets, setz, sets, lenc, lenn, v_add, v_sub, v_mul, v_fdiv, v_mod, v_pow, v_adds, v_addt, v_mult, v_muls, v_addl, v_eq, v_ne, v_lt, v_le, v_gt, v_ge, v_is, v_nis, v_isb, v_nisb, v_les, v_in, v_nin, t_non, t_bl, t_int, t_str, t_tup, t_loc, b_lens, b_lent, b_lenl, b_int, b_intb, b_abs, b_min, b_max, b_str, b_strs, b_tupt, b_tupl, b_lstt, b_lstl, b_all, b_any, b_ord, r_append, r_extend, r_pop, r_pop1, r_reverse, r_get1, r_get2, r_setd, m_app, m_ext, m_pop, m_pop1, m_rev, m_get1, m_get2, f_get, f_set, f_mth, r_str, m_starts, m_split, m_rstrp, m_rmpre, m_isasc, m_isdig]
    cases hd : deadP (R i) ((cs.getD i (0, 0)).1, (cs.getD i (0, 0)).2) with
    | true =>
      have hd' : deadP (R i) (cs.getD i (0, 0)) = true := hd
      simp only [hd', if_true] at k2
      simp only [↓nE1, ↓nE2, ↓nE3, ↓nE4, ↓nE5, ↓nE6, ↓nE7, ↓nE8, ↓nE9, ↓nE10, ↓nE11, ↓nE12, ↓nE13, ↓nE14, ↓nE15, ↓nE16, ↓nE17, ↓nE18, ↓nE19, ↓nE21, ↓nE22, ↓nE23, ↓nE24, ↓nE25, ↓nE27, ↓nE28, ↓nE30, ↓nS1, ↓nS2, ↓nS3, ↓nS4, ↓nS5, ↓nS6, ↓nS7, ↓nS8, ↓nS9, ↓nS10, ↓nS11, ↓nS12, ↓nS13, ↓nS14, ↓nS15, ↓nS16, ↓nS17, ↓nS18, ↓nS19, ↓nS20, ↓nSs1, ↓nSs2, ↓nEs1, ↓nEs2, ↓nB1, ↓nB2, ↓nB3, ↓nA1, ↓nA2, ↓nA3, ↓nT1, ↓reduceIte, bnm, btp, setAll, wipeL, endsOf, getz, gets, setz, sets, lenc, lenn, v_add, v_sub, v_mul, v_fdiv, v_mod, v_pow, v_adds, v_addt, v_mult, v_muls, v_addl, v_eq, v_ne, v_lt, v_le, v_gt, v_ge, v_is, v_nis, v_isb, v_nisb, v_les, v_in, v_nin, t_non, t_bl, t_int, t_str, t_tup, t_loc, b_lens, b_lent, b_lenl, b_int, b_intb, b_abs, b_min, b_max, b_str, b_strs, b_tupt, b_tupl, b_lstt, b_lstl, b_all, b_any, b_ord, r_append, r_extend, r_pop, r_pop1, r_reverse, r_get1, r_get2, r_setd, m_app, m_ext, m_pop, m_pop1, m_rev, m_get1, m_get2, f_get, f_set, f_mth, r_str, m_starts, m_split, m_rstrp, m_rmpre, m_isasc, m_isdig]
      exact k2 S3 s3
    | false =>
      have hd' : deadP (R i) (cs.getD i (0, 0)) = false := hd
      simp only [hd', Bool.false_eq_true, if_false] at k2
      simp only [↓nE1, ↓nE2, ↓nE3, ↓nE4, ↓nE5, ↓nE6, ↓nE7, ↓nE8, ↓nE9, ↓nE10, ↓nE11, ↓nE12, ↓nE13, ↓nE14, ↓nE15, ↓nE16, ↓nE17, ↓nE18, ↓nE19, ↓nE21, ↓nE22, ↓nE23, ↓nE24, ↓nE25, ↓nE27, ↓nE28, ↓nE30, ↓nS1, ↓nS2, ↓nS3, ↓nS4, ↓nS5, ↓nS6, ↓nS7, ↓nS8, ↓nS9, ↓nS10, ↓nS11, ↓nS12, ↓nS13, ↓nS14, ↓nS15, ↓nS16, ↓nS17, ↓nS18, ↓nS19, ↓nS20, ↓nSs1, ↓nSs2, ↓nEs1, ↓nEs2, ↓nB1, ↓nB2, ↓nB3, ↓nA1, ↓nA2, ↓nA3, ↓nT1, ↓reduceIte, bnm, btp, setAll, wipeL, endsOf, getz, gets, setz, sets, lenc, lenn, v_add, v_sub, v_mul, v_fdiv, v_mod, v_pow, v_adds, v_addt, v_mult, v_muls, v_addl, v_eq, v_ne, v_lt, v_le, v_gt, v_ge, v_is, v_nis, v_isb, v_nisb, v_les, v_in, v_nin, t_non, t_bl, t_int, t_str, t_tup, t_loc, b_lens, b_lent, b_lenl, b_int, b_intb, b_abs, b_min, b_max, b_str, b_strs, b_tupt, b_tupl, b_lstt, b_lstl, b_all, b_any, b_ord, r_append, r_extend, r_pop, r_pop1, r_reverse, r_get1, r_get2, r_setd, m_app, m_ext, m_pop, m_pop1, m_rev, m_get1, m_get2, f_get, f_set, f_mth, r_str, m_starts, m_split, m_rstrp, m_rmpre, m_isasc, m_isdig, Bool.false_eq_true]
      exact k2 S3 s3
  · simp only [↓nE1, ↓nE2, ↓nE3, ↓nE4, ↓nE5, ↓nE6, ↓nE7, ↓nE8, ↓nE9, ↓nE10, ↓nE11, ↓nE12, ↓nE13, ↓nE14, ↓nE15, ↓nE16, ↓nE17, ↓nE18, ↓nE19, ↓nE21, ↓nE22, ↓nE23, ↓nE24, ↓nE25, ↓nE27, ↓nE28, ↓nE30, ↓nS1, ↓nS2, ↓nS3, ↓nS4, ↓nS5, ↓nS6, ↓nS7, ↓nS8, ↓nS9, ↓nS10, ↓nS11, ↓nS12, ↓nS13, ↓nS14, ↓nS15, ↓nS16, ↓nS17, ↓nS18, ↓nS19, ↓nS20, ↓nSs1, ↓nSs2, ↓nEs1, ↓nEs2, ↓nB1, ↓nB2, ↓nB3, ↓nA1, ↓nA2, ↓nA3, ↓nT1, ↓reduceIte, bnm, btp, setAll, wipeL, endsOf, getz, gets, setz, sets, lenc, lenn, v_add, v_sub, v_mul, v_fdiv, v_mod, v_pow, v_adds, v_addt, v_mult, v_muls, v_addl, v_eq, v_ne, v_lt, v_le, v_gt, v_ge, v_is, v_nis, v_isb, v_nisb, v_les, v_in, v_nin, t_non, t_bl, t_int, t_str, t_tup, t_loc, b_lens, b_lent, b_lenl, b_int, b_intb, b_abs, b_min, b_max, b_str, b_strs, b_tupt, b_tupl, b_lstt, b_lstl, b_all, b_any, b_ord, r_append, r_extend, r_pop, r_pop1, r_reverse, r_get1, r_get2, r_setd, m_app, m_ext, m_pop, m_pop1, m_rev, m_get1, m_get2, f_get, f_set, f_mth, r_str, m_starts, m_split, m_rstrp, m_rmpre, m_isasc, m_isdig, b_lenl (n_of h')]
    have := k S' s'
    unfold deadC at this
    rw [zip_any (fun i p => deadP (R i) p), ← cnt_any] at this
    exact this
theorem prS_map (ps : List (Int × Int)) : prS (ps.map pV) = some ps := by
  induction ps with
  | nil => rfl
  | cons p ps ih => show Option.map _ (prS (ps.map pV)) = _; rw [ih]; rfl
def TTm (TT : Nat → List (Int × Int)) : Nat → Int × Int := fun p => pmax (0, 0) (TT p)
/-- one pair, as the law looks at it -/
theorem fl_step {D : ED} {i : Nat} {r4 r5 r6 r7 : Option Val} (h : RowsV S r c (intsOf R)) (ht : RowsV S t c (fun p => (TT p).map pV)) (hl : ∀ p, p < c → (R p).length ≤ 1000 ∧ (TT p).length ≤ 1000) (hi : i < c) (hcs : i < cs.length) (hv : 0 ≤ (cs.getD i (0, 0)).1)
    (k1 : firmP R (TTm TT) i (cs.getD i (0, 0)) = true → ∀ S' r4 r5 r6 r7, Sub S S' → D.nx [some (.loc r), some (.loc t), some (.tup (cs.map pV)), some (.int (i : Int)), r4, r5, r6, r7] S' ∧ D.ct [some (.loc r), some (.loc t), some (.tup (cs.map pV)), some (.int (i : Int)), r4, r5, r6, r7] S')
    (k0 : firmP R (TTm TT) i (cs.getD i (0, 0)) = false → ∀ S', Sub S S' → D.rt (.bl false) S') :
    wpSs (cenv (UP lp) (n + 1)) l1004_0 D [some (.loc r), some (.loc t), some (.tup (cs.map pV)), some (.int (i : Int)), r4, r5, r6, r7] S := by
  obtain ⟨xs, m, h1, h2, h3⟩ := h.at_ hi
  obtain ⟨ys, mt, t1, t2, t3⟩ := ht.at_ hi
  have s1 : Sub S (S ++ [SObj.lst [.tup [.int 0, .int 0]]]) := Sub.app
  have x1 : (S ++ [SObj.lst [.tup [.int 0, .int 0]]])[S.length]? = some (.lst [.tup [.int 0, .int 0]]) := get_new
  obtain ⟨a, b⟩ : ∃ a b, cs.getD i (0, 0) = (a, b) := ⟨_, _, rfl⟩
  obtain ⟨a, b, hab⟩ : ∃ a b, cs.getD i (0, 0) = (a, b) := ⟨_, _, rfl⟩
  obtain ⟨u, w, huw⟩ : ∃ u w, TTm TT i = (u, w) := ⟨_, _, rfl⟩
  rw [hab] at k1 k0 hv
  have a1 : ∀ {S : Sto} {Q : VQ}, ixS (.tup (cs.map pV)) (.int (i : Int)) S Q = Q (.tup [.int a, .int b]) S := fun {S Q} => by rw [ixS_t (atV_cs hcs), hab]; rfl
  have hb := hl i hi
  have b1 : (1 : Nat) + (TT i).length ≤ big := by unfold big; omega
  simp only [l1004_0, l1004_0_0, ↓nE1, ↓nE2, ↓nE3, ↓nE4, ↓nE5, ↓nE6, ↓nE7, ↓nE8, ↓nE9, ↓nE10, ↓nE11, ↓nE12, ↓nE13, ↓nE14, ↓nE15, ↓nE16, ↓nE17, ↓nE18, ↓nE19, ↓nE21, ↓nE22, ↓nE23, ↓nE24, ↓nE25, ↓nE27, ↓nE28, ↓nE30, ↓nS1, ↓nS2, ↓nS3, ↓nS4, ↓nS5, ↓nS6, ↓nS7, ↓nS8, ↓nS9, ↓nS10, ↓nS11, ↓nS12, ↓nS13, ↓nS14, ↓nS15, ↓nS16, ↓nS17, ↓nS18, ↓nS19, ↓nS20, ↓nSs1, ↓nSs2, ↓nEs1, ↓nEs2, ↓nB1, ↓nB2, ↓nB3, ↓nA1, ↓nA2, ↓nA3, ↓nT1, ↓reduceIte, bnm, btp, setAll, wipeL, endsOf, getz, gets, setz, sets, lenc, lenn, v_add, v_sub, v_mul, v_fdiv, v_mod, v_pow, v_adds, v_addt, v_mult, v_muls, v_addl, v_eq, v_ne, v_lt, v_le, v_gt, v_ge, v_is, v_nis, v_isb, v_nisb, v_les, v_in, v_nin, t_non, t_bl, t_int, t_str, t_tup, t_loc, b_lens, b_lent, b_lenl, b_int, b_intb, b_abs, b_min, b_max, b_str, b_strs, b_tupt, b_tupl, b_lstt, b_lstl, b_all, b_any, b_ord, r_append, r_extend, r_pop, r_pop1, r_reverse, r_get1, r_get2, r_setd, m_app, m_ext, m_pop, m_pop1, m_rev, m_get1, m_get2, f_get, f_set, f_mth, r_str, m_starts, m_split, m_rstrp, m_rmpre, m_isasc, m_isdig, a1, true_and, m1004_0_1, l1004_0_1, ixS_l (n_of (s1 _ _ t1)) t2, v_addl (m_of x1) (m_of (s1 _ _ t3)), List.length_map, Nat.zero_add]
  refine ⟨b1, ?_⟩
  have e : ([Val.tup [.int 0, .int 0]] ++ (TT i).map pV) = ((0, 0) :: TT i).map pV := rfl
  rw [e]
  have x2 : (S ++ [SObj.lst [.tup [.int 0, .int 0]]] ++ [SObj.lst (((0, 0) :: TT i).map pV)])[(S ++ [SObj.lst [.tup [.int 0, .int 0]]]).length]? = some (.lst (((0, 0) :: TT i).map pV)) := get_new
  have s2 : Sub S (S ++ [SObj.lst [.tup [.int 0, .int 0]]] ++ [SObj.lst (((0, 0) :: TT i).map pV)]) := s1.trans Sub.app
  generalize (S ++ [SObj.lst [.tup [.int 0, .int 0]]]).length = q at x2 ⊢
  generalize S ++ [SObj.lst [.tup [.int 0, .int 0]]] ++ [SObj.lst (((0, 0) :: TT i).map pV)] = S2 at x2 s2 ⊢
  have bm : ∀ {Q : VQ}, biS .max1 [.loc q] S2 Q = Q (.tup [.int u, .int w]) S2 := fun {Q} => by
    have : pmax (0, 0) (TT i) = (u, w) := huw
    simp only [biS, n_of x2, Option.bind_some, prS_map, this, pV]
  simp only [bm, ↓nE1, ↓nE2, ↓nE3, ↓nE4, ↓nE5, ↓nE6, ↓nE7, ↓nE8, ↓nE9, ↓nE10, ↓nE11, ↓nE12, ↓nE13, ↓nE14, ↓nE15, ↓nE16, ↓nE17, ↓nE18, ↓nE19, ↓nE21, ↓nE22, ↓nE23, ↓nE24, ↓nE25, ↓nE27, ↓nE28, ↓nE30, ↓nS1, ↓nS2, ↓nS3, ↓nS4, ↓nS5, ↓nS6, ↓nS7, ↓nS8, ↓nS9, ↓nS10, ↓nS11, ↓nS12, ↓nS13, ↓nS14, ↓nS15, ↓nS16, ↓nS17, ↓nS18, ↓nS19, ↓nS20, ↓nSs1, ↓nSs2, ↓nEs1, ↓nEs2, ↓nB1, ↓nB2, ↓nB3, ↓nA1, ↓nA2, ↓nA3, ↓nT1, ↓reduceIte, bnm, btp, setAll, wipeL, endsOf, getz, gets, setz, sets, lenc, lenn, v_add, v_sub, v_mul, v_fdiv, v_mod, v_pow, v_adds, v_addt, v_mult, v_muls, v_addl, v_eq, v_ne, v_lt, v_le, v_gt, v_ge, v_is, v_nis, v_isb, v_nisb, v_les, v_in, v_nin, t_non, t_bl, t_int, t_str, t_tup, t_loc, b_lens, b_lent, b_lenl, b_int, b_intb, b_abs, b_min, b_max, b_str, b_strs, b_tupt, b_tupl, b_lstt, b_lstl, b_all, b_any, b_ord, r_append, r_extend, r_pop, r_pop1, r_reverse, r_get1, r_get2, r_setd, m_app, m_ext, m_pop, m_pop1, m_rev, m_get1, m_get2, f_get, f_set, f_mth, r_str, m_starts, m_split, m_rstrp, m_rmpre, m_isasc, m_isdig, true_and, m1004_0_2, l1004_0_2, reduceCtorEq, eqS_ii, eqS_ss, eqS_nn, Val.flat, Val.isNon, known, Option.isSome_some, true_and, tyB, tyS, istS, tyeq, ixN_0, ixN_1, ixN_2]
  have ef : firmP R (TTm TT) i (a, b) = (if b = 0 then true else if u = a then decide (b ≤ w) else if u < a ∨ ((R i).length : Int) < u then false else !deadP (R i) (a, b)) := by
    unfold firmP
    rw [huw]
  by_cases h0 : b = 0
  · have e : firmP R (TTm TT) i (a, b) = true := by rw [ef, if_pos h0]
    simp only [h0, decide_true, ↓nE1, ↓nE2, ↓nE3, ↓nE4, ↓nE5, ↓nE6, ↓nE7, ↓nE8, ↓nE9, ↓nE10, ↓nE11, ↓nE12, ↓nE13, ↓nE14, ↓nE15, ↓nE16, ↓nE17, ↓nE18, ↓nE19, ↓nE21, ↓nE22, ↓nE23, ↓nE24, ↓nE25, ↓nE27, ↓nE28, ↓nE30, ↓nS1, ↓nS2, ↓nS3, ↓nS4, ↓nS5, ↓nS6, ↓nS7, ↓nS8, ↓nS9, ↓nS10, ↓nS11, ↓nS12, ↓nS13, ↓nS14, ↓nS15, ↓nS16, ↓nS17, ↓nS18, ↓nS19, ↓nS20, ↓nSs1, ↓nSs2, ↓nEs1, ↓nEs2, ↓nB1, ↓nB2, ↓nB3, ↓nA1, ↓nA2, ↓nA3, ↓nT1, ↓reduceIte, bnm, btp, setAll, wipeL, endsOf, getz, gets, setz, sets, lenc, lenn, v_add, v_sub, v_mul, v_fdiv, v_mod, v_pow, v_adds, v_addt, v_mult, v_muls, v_addl, v_eq, v_ne, v_lt, v_le, v_gt, v_ge, v_is, v_nis, v_isb, v_nisb, v_les, v_in, v_nin, t_non, t_bl, t_int, t_str, t_tup, t_loc, b_lens, b_lent, b_lenl, b_int, b_intb, b_abs, b_min, b_max, b_str, b_strs, b_tupt, b_tupl, b_lstt, b_lstl, b_all, b_any, b_ord, r_append, r_extend, r_pop, r_pop1, r_reverse, r_get1, r_get2, r_setd, m_app, m_ext, m_pop, m_pop1, m_rev, m_get1, m_get2, f_get, f_set, f_mth, r_str, m_starts, m_split, m_rstrp, m_rmpre, m_isasc, m_isdig]
    exact (k1 e S2 _ _ _ _ s2).2
  rw [if_neg h0] at ef
  simp only [h0, decide_false, ↓nE1, ↓nE2, ↓nE3, ↓nE4, ↓nE5, ↓nE6, ↓nE7, ↓nE8, ↓nE9, ↓nE10, ↓nE11, ↓nE12, ↓nE13, ↓nE14, ↓nE15, ↓nE16, ↓nE17, ↓nE18, ↓nE19, ↓nE21, ↓nE22, ↓nE23, ↓nE24, ↓nE25, ↓nE27, ↓nE28, ↓nE30, ↓nS1, ↓nS2, ↓nS3, ↓nS4, ↓nS5, ↓nS6, ↓nS7, ↓nS8, ↓nS9, ↓nS10, ↓nS11, ↓nS12, ↓nS13, ↓nS14, ↓nS15, ↓nS16, ↓nS17, ↓nS18, ↓nS19, ↓nS20, ↓nSs1, ↓nSs2, ↓nEs1, ↓nEs2, ↓nB1, ↓nB2, ↓nB3, ↓nA1, ↓nA2, ↓nA3, ↓nT1, ↓reduceIte, bnm, btp, setAll, wipeL, endsOf, getz, gets, setz, sets, lenc, lenn, v_add, v_sub, v_mul, v_fdiv, v_mod, v_pow, v_adds, v_addt, v_mult, v_muls, v_addl, v_eq, v_ne, v_lt, v_le, v_gt, v_ge, v_is, v_nis, v_isb, v_nisb, v_les, v_in, v_nin, t_non, t_bl, t_int, t_str, t_tup, t_loc, b_lens, b_lent, b_lenl, b_int, b_intb, b_abs, b_min, b_max, b_str, b_strs, b_tupt, b_tupl, b_lstt, b_lstl, b_all, b_any, b_ord, r_append, r_extend, r_pop, r_pop1, r_reverse, r_get1, r_get2, r_setd, m_app, m_ext, m_pop, m_pop1, m_rev, m_get1, m_get2, f_get, f_set, f_mth, r_str, m_starts, m_split, m_rstrp, m_rmpre, m_isasc, m_isdig, Bool.false_eq_true, m1004_0_3, l1004_0_3, reduceCtorEq, eqS_ii, eqS_ss, eqS_nn, Val.flat, Val.isNon, known, Option.isSome_some, true_and, tyB, tyS, istS, tyeq, ixN_0, ixN_1, ixN_2]
  by_cases h1' : u < a
  · have hne : ¬ u = a := by omega
    have e : firmP R (TTm TT) i (a, b) = false := by rw [ef, if_neg hne, if_pos (.inl h1')]
    simp only [h1', decide_true, ↓nE1, ↓nE2, ↓nE3, ↓nE4, ↓nE5, ↓nE6, ↓nE7, ↓nE8, ↓nE9, ↓nE10, ↓nE11, ↓nE12, ↓nE13, ↓nE14, ↓nE15, ↓nE16, ↓nE17, ↓nE18, ↓nE19, ↓nE21, ↓nE22, ↓nE23, ↓nE24, ↓nE25, ↓nE27, ↓nE28, ↓nE30, ↓nS1, ↓nS2, ↓nS3, ↓nS4, ↓nS5, ↓nS6, ↓nS7, ↓nS8, ↓nS9, ↓nS10, ↓nS11, ↓nS12, ↓nS13, ↓nS14, ↓nS15, ↓nS16, ↓nS17, ↓nS18, ↓nS19, ↓nS20, ↓nSs1, ↓nSs2, ↓nEs1, ↓nEs2, ↓nB1, ↓nB2, ↓nB3, ↓nA1, ↓nA2, ↓nA3, ↓nT1, ↓reduceIte, bnm, btp, setAll, wipeL, endsOf, getz, gets, setz, sets, lenc, lenn, v_add, v_sub, v_mul, v_fdiv, v_mod, v_pow, v_adds, v_addt, v_mult, v_muls, v_addl, v_eq, v_ne, v_lt, v_le, v_gt, v_ge, v_is, v_nis, v_isb, v_nisb, v_les, v_in, v_nin, t_non, t_bl, t_int, t_str, t_tup, t_loc, b_lens, b_lent, b_lenl, b_int, b_intb, b_abs, b_min, b_max, b_str, b_strs, b_tupt, b_tupl, b_lstt, b_lstl, b_all, b_any, b_ord, r_append, r_extend, r_pop, r_pop1, r_reverse, r_get1, r_get2, r_setd, m_app, m_ext, m_pop, m_pop1, m_rev, m_get1, m_get2, f_get, f_set, f_mth, r_str, m_starts, m_split, m_rstrp, m_rmpre, m_isasc, m_isdig]
    exact k0 e S2 s2
  by_cases h2' : u = a
  · rw [if_pos h2'] at ef
    subst h2'
    by_cases h3' : b ≤ w
    · have h4 : ¬ w < b := by omega
      have e : firmP R (TTm TT) i (u, b) = true := by rw [ef, decide_eq_true h3']
      simp only [Int.lt_irrefl, decide_false, decide_true, ↓nE1, ↓nE2, ↓nE3, ↓nE4, ↓nE5, ↓nE6, ↓nE7, ↓nE8, ↓nE9, ↓nE10, ↓nE11, ↓nE12, ↓nE13, ↓nE14, ↓nE15, ↓nE16, ↓nE17, ↓nE18, ↓nE19, ↓nE21, ↓nE22, ↓nE23, ↓nE24, ↓nE25, ↓nE27, ↓nE28, ↓nE30, ↓nS1, ↓nS2, ↓nS3, ↓nS4, ↓nS5, ↓nS6, ↓nS7, ↓nS8, ↓nS9, ↓nS10, ↓nS11, ↓nS12, ↓nS13, ↓nS14, ↓nS15, ↓nS16, ↓nS17, ↓nS18, ↓nS19, ↓nS20, ↓nSs1, ↓nSs2, ↓nEs1, ↓nEs2, ↓nB1, ↓nB2, ↓nB3, ↓nA1, ↓nA2, ↓nA3, ↓nT1, ↓reduceIte, bnm, btp, setAll, wipeL, endsOf, getz, gets, setz, sets, lenc, lenn, v_add, v_sub, v_mul, v_fdiv, v_mod, v_pow, v_adds, v_addt, v_mult, v_muls, v_addl, v_eq, v_ne, v_lt, v_le, v_gt, v_ge, v_is, v_nis, v_isb, v_nisb, v_les, v_in, v_nin, t_non, t_bl, t_int, t_str, t_tup, t_loc, b_lens, b_lent, b_lenl, b_int, b_intb, b_abs, b_min, b_max, b_str, b_strs, b_tupt, b_tupl, b_lstt, b_lstl, b_all, b_any, b_ord, r_append, r_extend, r_pop, r_pop1, r_reverse, r_get1, r_get2, r_setd, m_app, m_ext, m_pop, m_pop1, m_rev, m_get1, m_get2, f_get, f_set, f_mth, r_str, m_starts, m_split, m_rstrp, m_rmpre, m_isasc, m_isdig, h4, Bool.false_eq_true, m1004_0_4, l1004_0_4, Bool.true_eq_false]
      exact (k1 e S2 _ _ _ _ s2).1
    · have h4 : w < b := by omega
      have e : firmP R (TTm TT) i (u, b) = false := by rw [ef, decide_eq_false h3']
      simp only [Int.lt_irrefl, decide_false, decide_true, ↓nE1, ↓nE2, ↓nE3, ↓nE4, ↓nE5, ↓nE6, ↓nE7, ↓nE8, ↓nE9, ↓nE10, ↓nE11, ↓nE12, ↓nE13, ↓nE14, ↓nE15, ↓nE16, ↓nE17, ↓nE18, ↓nE19, ↓nE21, ↓nE22, ↓nE23, ↓nE24, ↓nE25, ↓nE27, ↓nE28, ↓nE30, ↓nS1, ↓nS2, ↓nS3, ↓nS4, ↓nS5, ↓nS6, ↓nS7, ↓nS8, ↓nS9, ↓nS10, ↓nS11, ↓nS12, ↓nS13, ↓nS14, ↓nS15, ↓nS16, ↓nS17, ↓nS18, ↓nS19, ↓nS20, ↓nSs1, ↓nSs2, ↓nEs1, ↓nEs2, ↓nB1, ↓nB2, ↓nB3, ↓nA1, ↓nA2, ↓nA3, ↓nT1, ↓reduceIte, bnm, btp, setAll, wipeL, endsOf, getz, gets, setz, sets, lenc, lenn, v_add, v_sub, v_mul, v_fdiv, v_mod, v_pow, v_adds, v_addt, v_mult, v_muls, v_addl, v_eq, v_ne, v_lt, v_le, v_gt, v_ge, v_is, v_nis, v_isb, v_nisb, v_les, v_in, v_nin, t_non, t_bl, t_int, t_str, t_tup, t_loc, b_lens, b_lent, b_lenl, b_int, b_intb, b_abs, b_min, b_max, b_str, b_strs, b_tupt, b_tupl, b_lstt, b_lstl, b_all, b_any, b_ord, r_append, r_extend, r_pop, r_pop1, r_reverse, r_get1, r_get2, r_setd, m_app, m_ext, m_pop, m_pop1, m_rev, m_get1, m_get2, f_get, f_set, f_mth, r_str, m_starts, m_split, m_rstrp, m_rmpre, m_isasc, m_isdig, h4, Bool.false_eq_true, Bool.true_eq_false]
      exact k0 e S2 s2
  have h5 : a < u := by omega
  rw [if_neg h2'] at ef
  simp only [h1', h2', h5, decide_false, decide_true, ↓nE1, ↓nE2, ↓nE3, ↓nE4, ↓nE5, ↓nE6, ↓nE7, ↓nE8, ↓nE9, ↓nE10, ↓nE11, ↓nE12, ↓nE13, ↓nE14, ↓nE15, ↓nE16, ↓nE17, ↓nE18, ↓nE19, ↓nE21, ↓nE22, ↓nE23, ↓nE24, ↓nE25, ↓nE27, ↓nE28, ↓nE30, ↓nS1, ↓nS2, ↓nS3, ↓nS4, ↓nS5, ↓nS6, ↓nS7, ↓nS8, ↓nS9, ↓nS10, ↓nS11, ↓nS12, ↓nS13, ↓nS14, ↓nS15, ↓nS16, ↓nS17, ↓nS18, ↓nS19, ↓nS20, ↓nSs1, ↓nSs2, ↓nEs1, ↓nEs2, ↓nB1, ↓nB2, ↓nB3, ↓nA1, ↓nA2, ↓nA3, ↓nT1, ↓reduceIte, bnm, btp, setAll, wipeL, endsOf, getz, gets, setz, sets, lenc, lenn, v_add, v_sub, v_mul, v_fdiv, v_mod, v_pow, v_adds, v_addt, v_mult, v_muls, v_addl, v_eq, v_ne, v_lt, v_le, v_gt, v_ge, v_is, v_nis, v_isb, v_nisb, v_les, v_in, v_nin, t_non, t_bl, t_int, t_str, t_tup, t_loc, b_lens, b_lent, b_lenl, b_int, b_intb, b_abs, b_min, b_max, b_str, b_strs, b_tupt, b_tupl, b_lstt, b_lstl, b_all, b_any, b_ord, r_append, r_extend, r_pop, r_pop1, r_reverse, r_get1, r_get2, r_setd, m_app, m_ext, m_pop, m_pop1, m_rev, m_get1, m_get2, f_get, f_set, f_mth, r_str, m_starts, m_split, m_rstrp, m_rmpre, m_isasc, m_isdig, Bool.false_eq_true, m1004_0_4, l1004_0_4, ixS_l (n_of (s2 _ _ h1)) h2, b_lenl (n_of (s2 _ _ h3)), Bool.true_eq_false]
  have el : (intsOf R i).length = (R i).length := by simp [intsOf]
  simp only [el]
  by_cases h6 : ((R i).length : Int) < u
  · have e : firmP R (TTm TT) i (a, b) = false := by rw [ef, if_pos (.inr h6)]
    simp only [h6, decide_true, ↓nE1, ↓nE2, ↓nE3, ↓nE4, ↓nE5, ↓nE6, ↓nE7, ↓nE8, ↓nE9, ↓nE10, ↓nE11, ↓nE12, ↓nE13, ↓nE14, ↓nE15, ↓nE16, ↓nE17, ↓nE18, ↓nE19, ↓nE21, ↓nE22, ↓nE23, ↓nE24, ↓nE25, ↓nE27, ↓nE28, ↓nE30, ↓nS1, ↓nS2, ↓nS3, ↓nS4, ↓nS5, ↓nS6, ↓nS7, ↓nS8, ↓nS9, ↓nS10, ↓nS11, ↓nS12, ↓nS13, ↓nS14, ↓nS15, ↓nS16, ↓nS17, ↓nS18, ↓nS19, ↓nS20, ↓nSs1, ↓nSs2, ↓nEs1, ↓nEs2, ↓nB1, ↓nB2, ↓nB3, ↓nA1, ↓nA2, ↓nA3, ↓nT1, ↓reduceIte, bnm, btp, setAll, wipeL, endsOf, getz, gets, setz, sets, lenc, lenn, v_add, v_sub, v_mul, v_fdiv, v_mod, v_pow, v_adds, v_addt, v_mult, v_muls, v_addl, v_eq, v_ne, v_lt, v_le, v_gt, v_ge, v_is, v_nis, v_isb, v_nisb, v_les, v_in, v_nin, t_non, t_bl, t_int, t_str, t_tup, t_loc, b_lens, b_lent, b_lenl, b_int, b_intb, b_abs, b_min, b_max, b_str, b_strs, b_tupt, b_tupl, b_lstt, b_lstl, b_all, b_any, b_ord, r_append, r_extend, r_pop, r_pop1, r_reverse, r_get1, r_get2, r_setd, m_app, m_ext, m_pop, m_pop1, m_rev, m_get1, m_get2, f_get, f_set, f_mth, r_str, m_starts, m_split, m_rstrp, m_rmpre, m_isasc, m_isdig]
    exact k0 e S2 s2
  rw [if_neg (fun z => z.elim h1' h6)] at ef
  simp only [h6, decide_false, ↓nE1, ↓nE2, ↓nE3, ↓nE4, ↓nE5, ↓nE6, ↓nE7, ↓nE8, ↓nE9, ↓nE10, ↓nE11, ↓nE12, ↓nE13, ↓nE14, ↓nE15, ↓nE16, ↓nE17, ↓nE18, ↓nE19, ↓nE21, ↓nE22, ↓nE23, ↓nE24, ↓nE25, ↓nE27, ↓nE28, ↓nE30, ↓nS1, ↓nS2, ↓nS3, ↓nS4, ↓nS5, ↓nS6, ↓nS7, ↓nS8, ↓nS9, ↓nS10, ↓nS11, ↓nS12, ↓nS13, ↓nS14, ↓nS15, ↓nS16, ↓nS17, ↓nS18, ↓nS19, ↓nS20, ↓nSs1, ↓nSs2, ↓nEs1, ↓nEs2, ↓nB1, ↓nB2, ↓nB3, ↓nA1, ↓nA2, ↓nA3, ↓nT1, ↓reduceIte, bnm, btp, setAll, wipeL, endsOf, getz, gets, setz, sets, lenc, lenn, v_add, v_sub, v_mul, v_fdiv, v_mod, v_pow, v_adds, v_addt, v_mult, v_muls, v_addl, v_eq, v_ne, v_lt, v_le, v_gt, v_ge, v_is, v_nis, v_isb, v_nisb, v_les, v_in, v_nin, t_non, t_bl, t_int, t_str, t_tup, t_loc, b_lens, b_lent, b_lenl, b_int, b_intb, b_abs, b_min, b_max, b_str, b_strs, b_tupt, b_tupl, b_lstt, b_lstl, b_all, b_any, b_ord, r_append, r_extend, r_pop, r_pop1, r_reverse, r_get1, r_get2, r_setd, m_app, m_ext, m_pop, m_pop1, m_rev, m_get1, m_get2, f_get, f_set, f_mth, r_str, m_starts, m_split, m_rstrp, m_rmpre, m_isasc, m_isdig, Bool.false_eq_true, Bool.true_eq_false, ixS_l (n_of (s2 _ _ h1)) h2, a1]
  refine c1002 (s2 _ _ h3) hb.1 hv fun S3 s3 => ?_
  cases hd : deadP (R i) (a, b) with
  | true =>
    rw [hd] at ef
    simp only [↓nE1, ↓nE2, ↓nE3, ↓nE4, ↓nE5, ↓nE6, ↓nE7, ↓nE8, ↓nE9, ↓nE10, ↓nE11, ↓nE12, ↓nE13, ↓nE14, ↓nE15, ↓nE16, ↓nE17, ↓nE18, ↓nE19, ↓nE21, ↓nE22, ↓nE23, ↓nE24, ↓nE25, ↓nE27, ↓nE28, ↓nE30, ↓nS1, ↓nS2, ↓nS3, ↓nS4, ↓nS5, ↓nS6, ↓nS7, ↓nS8, ↓nS9, ↓nS10, ↓nS11, ↓nS12, ↓nS13, ↓nS14, ↓nS15, ↓nS16, ↓nS17, ↓nS18, ↓nS19, ↓nS20, ↓nSs1, ↓nSs2, ↓nEs1, ↓nEs2, ↓nB1, ↓nB2, ↓nB3, ↓nA1, ↓nA2, ↓nA3, ↓nT1, ↓reduceIte, bnm, btp, setAll, wipeL, endsOf, getz, gets, setz, sets, lenc, lenn, v_add, v_sub, v_mul, v_fdiv, v_mod, v_pow, v_adds, v_addt, v_mult, v_muls, v_addl, v_eq, v_ne, v_lt, v_le, v_gt, v_ge, v_is, v_nis, v_isb, v_nisb, v_les, v_in, v_nin, t_non, t_bl, t_int, t_str, t_tup, t_loc, b_lens, b_lent, b_lenl, b_int, b_intb, b_abs, b_min, b_max, b_str, b_strs, b_tupt, b_tupl, b_lstt, b_lstl, b_all, b_any, b_ord, r_append, r_extend, r_pop, r_pop1, r_reverse, r_get1, r_get2, r_setd, m_app, m_ext, m_pop, m_pop1, m_rev, m_get1, m_get2, f_get, f_set, f_mth, r_str, m_starts, m_split, m_rstrp, m_rmpre, m_isasc, m_isdig]
    exact k0 ef S3 (s2.trans s3)
  | false =>
    rw [hd] at ef
    simp only [↓nE1, ↓nE2, ↓nE3, ↓nE4, ↓nE5, ↓nE6, ↓nE7, ↓nE8, ↓nE9, ↓nE10, ↓nE11, ↓nE12, ↓nE13, ↓nE14, ↓nE15, ↓nE16, ↓nE17, ↓nE18, ↓nE19, ↓nE21, ↓nE22, ↓nE23, ↓nE24, ↓nE25, ↓nE27, ↓nE28, ↓nE30, ↓nS1, ↓nS2, ↓nS3, ↓nS4, ↓nS5, ↓nS6, ↓nS7, ↓nS8, ↓nS9, ↓nS10, ↓nS11, ↓nS12, ↓nS13, ↓nS14, ↓nS15, ↓nS16, ↓nS17, ↓nS18, ↓nS19, ↓nS20, ↓nSs1, ↓nSs2, ↓nEs1, ↓nEs2, ↓nB1, ↓nB2, ↓nB3, ↓nA1, ↓nA2, ↓nA3, ↓nT1, ↓reduceIte, bnm, btp, setAll, wipeL, endsOf, getz, gets, setz, sets, lenc, lenn, v_add, v_sub, v_mul, v_fdiv, v_mod, v_pow, v_adds, v_addt, v_mult, v_muls, v_addl, v_eq, v_ne, v_lt, v_le, v_gt, v_ge, v_is, v_nis, v_isb, v_nisb, v_les, v_in, v_nin, t_non, t_bl, t_int, t_str, t_tup, t_loc, b_lens, b_lent, b_lenl, b_int, b_intb, b_abs, b_min, b_max, b_str, b_strs, b_tupt, b_tupl, b_lstt, b_lstl, b_all, b_any, b_ord, r_append, r_extend, r_pop, r_pop1, r_reverse, r_get1, r_get2, r_setd, m_app, m_ext, m_pop, m_pop1, m_rev, m_get1, m_get2, f_get, f_set, f_mth, r_str, m_starts, m_split, m_rstrp, m_rmpre, m_isasc, m_isdig, Bool.false_eq_true]
    exact (k1 ef S3 _ _ _ _ (s2.trans s3)).1
theorem c1004 (h : RowsV S r c (intsOf R)) (ht : RowsV S t c (fun p => (TT p).map pV)) (hc : c ≤ 1000) (hl : ∀ p, p < c → (R p).length ≤ 1000 ∧ (TT p).length ≤ 1000) (hv : VC c cs) (k : ∀ S', Sub S S' → Q (.bl (firmC R (TTm TT) cs)) S') : callN (UP lp) (n + 2) 1004 [.loc r, .loc t, .tup (cs.map pV)] S Q E := by
  rw [u1004]
  generalize hρ : ([some (Val.loc r), some (Val.loc t), some (Val.tup (cs.map pV)), none, none, none, none, none] : LE) = ρ
  rw [b1004, b1004_0]
  refine Ss_cons ?_
  refine frW (xs := [.int (cs.length : Nat)]) (fun R hR => ?_) (it_range (n := cs.length) (by rw [hv.1]; omega)) ?_
  · subst hρ
    simp only [↓nE1, ↓nE2, ↓nE3, ↓nE4, ↓nE5, ↓nE6, ↓nE7, ↓nE8, ↓nE9, ↓nE10, ↓nE11, ↓nE12, ↓nE13, ↓nE14, ↓nE15, ↓nE16, ↓nE17, ↓nE18, ↓nE19, ↓nE21, ↓nE22, ↓nE23, ↓nE24, ↓nE25, ↓nE27, ↓nE28, ↓nE30, ↓nS1, ↓nS2, ↓nS3, ↓nS4, ↓nS5, ↓nS6, ↓nS7, ↓nS8, ↓nS9, ↓nS10, ↓nS11, ↓nS12, ↓nS13, ↓nS14, ↓nS15, ↓nS16, ↓nS17, ↓nS18, ↓nS19, ↓nS20, ↓nSs1, ↓nSs2, ↓nEs1, ↓nEs2, ↓nB1, ↓nB2, ↓nB3, ↓nA1, ↓nA2, ↓nA3, ↓nT1, ↓reduceIte, bnm, btp, setAll, wipeL, endsOf, getz, gets, setz, sets, lenc, lenn, v_add, v_sub, v_mul, v_fdiv, v_mod, v_pow, v_adds, v_addt, v_mult, v_muls, v_addl, v_eq, v_ne, v_lt, v_le, v_gt, v_ge, v_is, v_nis, v_isb, v_nisb, v_les, v_in, v_nin, t_non, t_bl, t_int, t_str, t_tup, t_loc, b_lens, b_lent, b_lenl, b_int, b_intb, b_abs, b_min, b_max, b_str, b_strs, b_tupt, b_tupl, b_lstt, b_lstl, b_all, b_any, b_ord, r_append, r_extend, r_pop, r_pop1, r_reverse, r_get1, r_get2, r_setd, m_app, m_ext, m_pop, m_pop1, m_rev, m_get1, m_get2, f_get, f_set, f_mth, r_str, m_starts, m_split, m_rstrp, m_rmpre, m_isasc, m_isdig, List.length_map]
    exact hR
  unfold firmC at k
  rw [zip_all] at k
  refine for_inv (fun i ρ' S' => (∃ r3 r4 r5 r6 r7, ρ' = [some (.loc r), some (.loc t), some (.tup (cs.map pV)), r3, r4, r5, r6, r7]) ∧ Sub S S' ∧ ∀ j, j < i → firmP R (TTm TT) j (cs.getD j (0, 0)) = true) ⟨⟨_, _, _, _, _, hρ.symm⟩, Sub.refl, fun j hj => by omega⟩ ?_ ?_
  · rintro i z ρ' S' K2 hz ⟨⟨r3, r4, r5, r6, r7, rfl⟩, s', hall⟩ hK
    have hi : i < cs.length := by have := (List.getElem?_eq_some_iff.mp hz).1; simpa using this
    have hic : i < c := by rw [← hv.1]; exact hi
    have ez : z = .int (i : Int) := by
      simp only [List.getElem?_map, Option.map_eq_some_iff] at hz
      obtain ⟨j, hj, rfl⟩ := hz
      rw [List.getElem?_range' hi] at hj
      cases hj
      congr 1
      omega
    subst ez
    have vp := hv.at (i := i) (p := cs.getD i (0, 0)) (by simp [hi])
    refine ⟨trivial, ?_⟩
    rw [bnm]
    simp only [sets, setz]
    refine fl_step (TT := TT) (h.sub s') (ht.sub s') hl hic hi vp.2 (fun hf S3 q4 q5 q6 q7 s3 => ?_) fun hf S3 s3 => ?_
    · have := hK [some (.loc r), some (.loc t), some (.tup (cs.map pV)), some (.int (i : Int)), q4, q5, q6, q7] S3 ⟨⟨_, _, _, _, _, rfl⟩, s'.trans s3, fun j hj => by
        by_cases e : j = i
        · subst e; exact hf
        · exact hall j (by omega)⟩
      exact ⟨this, this⟩
    · have := k S3 (s'.trans s3)
      have e : ((List.range cs.length).all fun i => firmP R (TTm TT) i (cs.getD i (0, 0))) = false := by
        rw [List.all_eq_false]
        exact ⟨i, List.mem_range.mpr hi, by rw [hf]; decide⟩
      rw [e] at this
      exact this
  · rintro ρ' S' ⟨⟨r3, r4, r5, r6, r7, rfl⟩, s', hall⟩
    have e0 : ((List.range' 0 cs.length).map fun (i : Nat) => Val.int (i : Int)).length = cs.length := by simp
    rw [e0] at hall
    refine ⟨trivial, ?_⟩
    have := k S' s'
    have e : ((List.range cs.length).all fun i => firmP R (TTm TT) i (cs.getD i (0, 0))) = true := by
      rw [List.all_eq_true]
      exact fun j hj => hall j (List.mem_range.mp hj)
    rw [e] at this
    simp only [t1004_1, b1004_1, ↓nE1, ↓nE2, ↓nE3, ↓nE4, ↓nE5, ↓nE6, ↓nE7, ↓nE8, ↓nE9, ↓nE10, ↓nE11, ↓nE12, ↓nE13, ↓nE14, ↓nE15, ↓nE16, ↓nE17, ↓nE18, ↓nE19, ↓nE21, ↓nE22, ↓nE23, ↓nE24, ↓nE25, ↓nE27, ↓nE28, ↓nE30, ↓nS1, ↓nS2, ↓nS3, ↓nS4, ↓nS5, ↓nS6, ↓nS7, ↓nS8, ↓nS9, ↓nS10, ↓nS11, ↓nS12, ↓nS13, ↓nS14, ↓nS15, ↓nS16, ↓nS17, ↓nS18, ↓nS19, ↓nS20, ↓nSs1, ↓nSs2, ↓nEs1, ↓nEs2, ↓nB1, ↓nB2, ↓nB3, ↓nA1, ↓nA2, ↓nA3, ↓nT1, ↓reduceIte, bnm, btp, setAll, wipeL, endsOf, getz, gets, setz, sets, lenc, lenn, v_add, v_sub, v_mul, v_fdiv, v_mod, v_pow, v_adds, v_addt, v_mult, v_muls, v_addl, v_eq, v_ne, v_lt, v_le, v_gt, v_ge, v_is, v_nis, v_isb, v_nisb, v_les, v_in, v_nin, t_non, t_bl, t_int, t_str, t_tup, t_loc, b_lens, b_lent, b_lenl, b_int, b_intb, b_abs, b_min, b_max, b_str, b_strs, b_tupt, b_tupl, b_lstt, b_lstl, b_all, b_any, b_ord, r_append, r_extend, r_pop, r_pop1, r_reverse, r_get1, r_get2, r_setd, m_app, m_ext, m_pop, m_pop1, m_rev, m_get1, m_get2, f_get, f_set, f_mth, r_str, m_starts, m_split, m_rstrp, m_rmpre, m_isasc, m_isdig]
    exact this
end
end My

namespace My
open PySem PM
structure Lc where
  o : Nat
  d1 : Nat
  d2 : Nat
  f : Nat
  dt : Nat
  r : Nat
  t : Nat
  m : Nat
structure W18 (ds : List Int) (c : Nat) (L : Lc) (S : Sto) (R R2 : Nat → List Int) (T : Nat → Int × Int) (TT : Nat → List (Int × Int)) : Prop where
  c1 : 1 ≤ c
  c2 : c ≤ 10
  en : EndsAt S L.o L.d1 L.d2 c R
  fi : FirmAt S L.f L.o L.dt c T
  rw : RowsV S L.r c (intsOf R2)
  tw : RowsV S L.t c (fun p => (TT p).map pV)
  ne : L.r ≠ L.t
  dr : S[L.m]? = some (.lst (ds.map Val.int))
section
variable {ds : List Int} {c : Nat} {L : Lc} {S S' : Sto} {R R2 R' : Nat → List Int} {T T' : Nat → Int × Int} {TT : Nat → List (Int × Int)}
theorem W18.sub (h : W18 ds c L S R R2 T TT) (s : Sub S S') : W18 ds c L S' R R2 T TT := ⟨h.c1, h.c2, h.en.sub s, h.fi.sub s, h.rw.sub s, h.tw.sub s, h.ne, s _ _ h.dr⟩
theorem RowsV.hd {r : Nat} {f : Nat → List Val} (h : RowsV S r c f) (hc : 1 ≤ c) : ∃ x xs, S[r]? = some (.lst (.loc x :: xs)) := by
  obtain ⟨xs, h1, h2, h3⟩ := h
  obtain ⟨m, e, _⟩ := h3 0 (by omega)
  cases xs with
  | nil => simp at e
  | cons y ys =>
    simp at e
    subst e
    exact ⟨m, ys, h1⟩
theorem no_ints {x : Nat} {xs : List Val} {L : List Int} : (.loc x :: xs : List Val) ≠ L.map Val.int := by
  cases L with
  | nil => simp
  | cons => simp
theorem no_prs {x : Nat} {xs : List Val} {L : List (Int × Int)} : (.loc x :: xs : List Val) ≠ L.map pV := by
  cases L with
  | nil => simp
  | cons => simp [pV]
theorem EndsAt.ks (h : EndsAt S L.o L.d1 L.d2 c R) : ∃ g f, S[L.d1]? = some (.dK (rngK c g)) ∧ S[L.d2]? = some (.dK (rngK c f)) ∧ (1 ≤ c → ∃ m, g 0 = .loc m) ∧ (1 ≤ c → ∃ m, f 0 = .loc m) := by
  obtain ⟨g, h1, h2⟩ := h.rows
  obtain ⟨f, h3, h4⟩ := h.least
  exact ⟨g, f, h1, h3, fun hc => let ⟨m, e, _⟩ := h2 0 hc; ⟨m, e⟩, fun hc => let ⟨m, _, e, _⟩ := h4 0 hc; ⟨m, e⟩⟩
theorem rng0 {c : Nat} {g f : Nat → Val} (hc : 1 ≤ c) (h : rngK c g = rngK c f) : g 0 = f 0 := by
  have h1 := getK_rng (g := g) (i := 0) (c := c) hc
  rw [h, getK_rng (i := 0) hc] at h1
  exact (Option.some.inj h1).symm
theorem W18.dts (h : W18 ds c L S R R2 T TT) : L.dt ≠ L.d1 ∧ L.dt ≠ L.d2 := by
  obtain ⟨g, f, h1, h2, h3, h4⟩ := h.en.ks
  have h5 := h.fi.tab
  refine ⟨fun z => ?_, fun z => ?_⟩
  · rw [z, h1] at h5
    obtain ⟨m, e⟩ := h3 h.c1
    have := rng0 h.c1 (SObj.dK.inj (Option.some.inj h5))
    rw [e] at this
    cases this
  · rw [z, h2] at h5
    obtain ⟨m, e⟩ := h4 h.c1
    have := rng0 h.c1 (SObj.dK.inj (Option.some.inj h5))
    rw [e] at this
    cases this
theorem kd {w : List Nat} (hw : ∀ x ∈ w, ∃ k, S[x]? = some (.dK k)) {x : Nat} {o : SObj} (h : S[x]? = some o) (hn : ∀ k, o ≠ .dK k) : x ∉ w := fun z => by
  obtain ⟨k, e⟩ := hw x z
  rw [h] at e
  exact hn k (Option.some.inj e)
theorem W18.subEnds (h : W18 ds c L S R R2 T TT) (s : SubX [L.d1, L.d2] S S') (e : EndsAt S' L.o L.d1 L.d2 c R') : W18 ds c L S' R' R2 T TT := by
  obtain ⟨g, f, h1, h2, _, _⟩ := h.en.ks
  have hw : ∀ x ∈ [L.d1, L.d2], ∃ k, S[x]? = some (.dK k) := fun x hx => by
    simp only [List.mem_cons, List.not_mem_nil, or_false] at hx
    rcases hx with rfl | rfl
    · exact ⟨_, h1⟩
    · exact ⟨_, h2⟩
  have nl : ∀ x ∈ [L.d1, L.d2], ∀ y, S[x]? ≠ some (.lst y) := fun x hx y z => by
    obtain ⟨k, e⟩ := hw x hx
    rw [z] at e
    cases e
  obtain ⟨_, _, hr⟩ := h.rw.hd h.c1
  obtain ⟨_, _, ht⟩ := h.tw.hd h.c1
  exact ⟨h.c1, h.c2, e, h.fi.subX s (kd hw h.fi.obj (fun k z => nomatch z)) (by simp [h.dts.1, h.dts.2]), h.rw.subX s (kd hw hr (fun k z => nomatch z)) (fun x hx p _ => nl x hx _), h.tw.subX s (kd hw ht (fun k z => nomatch z)) (fun x hx p _ => nl x hx _), h.ne,
    s _ _ (kd hw h.dr (fun k z => nomatch z)) h.dr⟩
theorem W18.subFirm (h : W18 ds c L S R R2 T TT) (s : SubX [L.dt] S S') (e : FirmAt S' L.f L.o L.dt c T') : W18 ds c L S' R R2 T' TT := by
  have hw : ∀ x ∈ [L.dt], ∃ k, S[x]? = some (.dK k) := fun x hx => by
    rw [List.mem_singleton.mp hx]
    exact ⟨_, h.fi.tab⟩
  have nl : ∀ x ∈ [L.dt], ∀ y, S[x]? ≠ some (.lst y) := fun x hx y z => by
    obtain ⟨k, e⟩ := hw x hx
    rw [z] at e
    cases e
  obtain ⟨_, _, hr⟩ := h.rw.hd h.c1
  obtain ⟨_, _, ht⟩ := h.tw.hd h.c1
  refine ⟨h.c1, h.c2, h.en.subX s fun x hx => ?_, e, h.rw.subX s (kd hw hr (fun k z => nomatch z)) (fun x hx p _ => nl x hx _), h.tw.subX s (kd hw ht (fun k z => nomatch z)) (fun x hx p _ => nl x hx _), h.ne, s _ _ (kd hw h.dr (fun k z => nomatch z)) h.dr⟩
  rw [List.mem_singleton.mp hx]
  exact ⟨fun z => (by have h0 := h.en.obj; rw [← z, h.fi.tab] at h0; cases h0), h.dts.1, h.dts.2, fun y => nl L.dt (by simp) _⟩
theorem W18.lstSet {x : Nat} {xs : List Val} {y : Nat} {o : SObj} (h : W18 ds c L S R R2 T TT) (hx : S[x]? = some (.lst (.loc y :: xs))) : EndsAt (S.set x o) L.o L.d1 L.d2 c R ∧ FirmAt (S.set x o) L.f L.o L.dt c T ∧ (S.set x o)[L.m]? = some (.lst (ds.map Val.int)) := by
  have s : SubX [x] S (S.set x o) := SubX.set (by simp)
  obtain ⟨g, f, h1, h2, _, _⟩ := h.en.ks
  have ne : ∀ {z : Nat} {u : SObj}, S[z]? = some u → (∀ a b, u ≠ .lst (.loc a :: b)) → x ≠ z := fun {z u} e hn q => by
    rw [q, e] at hx
    exact hn _ _ (Option.some.inj hx)
  have ni : ∀ {z : Nat}, x ≠ z → z ∉ [x] := fun {z} h q => h (List.mem_singleton.mp q).symm
  refine ⟨h.en.subX s fun z hz => ?_, h.fi.subX s (ni (ne h.fi.obj fun _ _ q => nomatch q)) (ni (ne h.fi.tab fun _ _ q => nomatch q)), s _ _ (ni (ne h.dr fun a b q => ?_)) h.dr⟩
  · rw [List.mem_singleton.mp hz]
    exact ⟨ne h.en.obj (fun _ _ q => nomatch q), ne h1 (fun _ _ q => nomatch q), ne h2 (fun _ _ q => nomatch q), fun l q => by rw [hx] at q; exact no_ints (SObj.lst.inj (Option.some.inj q))⟩
  · exact no_ints (SObj.lst.inj q).symm
theorem W18.putRow {p m : Nat} {v : List Int} {xs : List Val} (h : W18 ds c L S R R2 T TT) (hx : S[L.r]? = some (.lst xs)) (hp : p < c) (hm : S[m]? = some (.lst (v.map Val.int))) : W18 ds c L (S.set L.r (.lst (xs.set p (.loc m)))) R (fun q => if q = p then v else R2 q) T TT := by
  obtain ⟨y, ys, hr⟩ := h.rw.hd h.c1
  obtain ⟨e1, e2, e3⟩ := h.lstSet (o := .lst (xs.set p (.loc m))) hr
  have e4 := h.rw.put hx hp hm (fun z => by rw [z, hr] at hm; exact no_ints (SObj.lst.inj (Option.some.inj hm))) (fun q _ x hx k e => by
    unfold intsOf at hx
    obtain ⟨i, _, rfl⟩ := List.mem_map.mp hx
    cases e)
  refine ⟨h.c1, h.c2, e1, e2, ?_, h.tw.subX (SubX.set (w := [L.r]) (by simp)) (by simpa using h.ne.symm) (fun x hx p _ q => ?_), h.ne, e3⟩
  · have : (fun q => if q = p then v.map Val.int else intsOf R2 q) = intsOf (fun q => if q = p then v else R2 q) := by
      funext q
      show (if q = p then v.map Val.int else (R2 q).map Val.int) = (if q = p then v else R2 q).map Val.int
      split <;> rfl
    rw [← this]
    exact e4
  · rw [List.mem_singleton.mp hx, hr] at q
    exact no_prs (SObj.lst.inj (Option.some.inj q))
theorem W18.putTold {p m : Nat} {v : List (Int × Int)} {xs : List Val} (h : W18 ds c L S R R2 T TT) (hx : S[L.t]? = some (.lst xs)) (hp : p < c) (hm : S[m]? = some (.lst (v.map pV))) : W18 ds c L (S.set L.t (.lst (xs.set p (.loc m)))) R R2 T (fun q => if q = p then v else TT q) := by
  obtain ⟨y, ys, hr⟩ := h.tw.hd h.c1
  obtain ⟨e1, e2, e3⟩ := h.lstSet (o := .lst (xs.set p (.loc m))) hr
  have e4 := h.tw.put hx hp hm (fun z => by rw [z, hr] at hm; exact no_prs (SObj.lst.inj (Option.some.inj hm))) (fun q _ x hx k e => by
    obtain ⟨i, _, rfl⟩ := List.mem_map.mp hx
    cases e)
  refine ⟨h.c1, h.c2, e1, e2, h.rw.subX (SubX.set (w := [L.t]) (by simp)) (by simpa using h.ne) (fun x hx p _ q => ?_), ?_, h.ne, e3⟩
  · rw [List.mem_singleton.mp hx, hr] at q
    exact no_ints (SObj.lst.inj (Option.some.inj q))
  · have : (fun q => if q = p then v.map pV else (fun p => (TT p).map pV) q) = (fun q => (if q = p then v else TT q).map pV) := by
      funext q
      show (if q = p then v.map pV else (TT q).map pV) = (if q = p then v else TT q).map pV
      split <;> rfl
    rw [← this]
    exact e4
end
end My

namespace My
open PySem PM
def cntF (f : Nat → Bool) : Val → Option Val := fun v => match v with | .int k => if f k.toNat = true then some v else none | _ => none
theorem cnt_none {n : Nat} (f : Nat → Bool) : decide (((((List.range' 0 n).map fun (i : Nat) => Val.int (i : Int)).filterMap (cntF f)).length : Int) = 0) = (List.range n).all fun i => !f i := by
  have e := cnt_any (n := n) f
  have e0 : decide ((0 : Int) < ((((List.range' 0 n).map fun (i : Nat) => Val.int (i : Int)).filterMap (cntF f)).length : Int)) = (List.range n).any f := e
  clear e
  generalize hx : (((List.range' 0 n).map fun (i : Nat) => Val.int (i : Int)).filterMap (cntF f)).length = x at e0 ⊢
  have e2 : decide ((x : Int) = 0) = !decide ((0 : Int) < (x : Int)) := by
    by_cases h : x = 0
    · subst h; rfl
    · have h1 : ¬ ((x : Int) = 0) := by omega
      have h2 : (0 : Int) < (x : Int) := by omega
      rw [decide_eq_false h1, decide_eq_true h2]
      rfl
  rw [e2, e0, List.all_eq_not_any_not]
  simp
section
variable {ds : List Int} {c n : Nat} {L : Lc} {S : Sto} {R : Nat → List Int} {TT : Nat → List (Int × Int)} {D : ED} {cs : List (Int × Int)} {x6 x7 x8 x9 x10 x11 x12 x14 x15 x16 x17 x18 x19 : Option Val}
def LenOk (c : Nat) (R : Nat → List Int) (TT : Nat → List (Int × Int)) (k : Nat) : Prop := ∀ p, p < c → (R p).length ≤ k ∧ (TT p).length ≤ k
theorem ck_step {ρ : LE} (hρ : ρ = [some (.loc 0), some (.int (c : Int)), some (.loc L.o), some (.loc L.f), some (.loc L.r), some (.loc L.t), x6, x7, x8, x9, x10, x11, x12, some (.tup (cs.map pV)), x14, x15, x16, x17, x18, x19]) (h : W18 ds c L S R R (TTm TT) TT) (hb : LenOk c R TT 1000) (hv : VC c cs)
    (K : ∀ S' x17, Sub S S' → D.nx [some (.loc 0), some (.int (c : Int)), some (.loc L.o), some (.loc L.f), some (.loc L.r), some (.loc L.t), x6, x7, x8, x9, x10, x11, x12, some (.tup (cs.map pV)), x14, x15, x16, x17, x18, x19] S') :
    wpSs (cenv (UP lp) (n + 3)) l1006_3 D ρ S := by
  subst hρ
  have hc2 := h.c2
  simp only [l1006_3, l1006_3_0, ↓nE1, ↓nE2, ↓nE3, ↓nE4, ↓nE5, ↓nE6, ↓nE7, ↓nE8, ↓nE9, ↓nE10, ↓nE11, ↓nE12, ↓nE13, ↓nE14, ↓nE15, ↓nE16, ↓nE17, ↓nE18, ↓nE19, ↓lcE, ↓nE21, ↓nE22, ↓nE23, ↓nE24, ↓nE25, ↓nE27, ↓nE28, ↓nE30, ↓nS1, ↓nS2, ↓nS3, ↓nS4, ↓nS5, ↓nS6, ↓nS7, ↓frE, ↓nS9, ↓nS10, ↓nS11, ↓nS12, ↓nS13, ↓nS14, ↓nS15, ↓nS16, ↓nS17, ↓nS18, ↓nS19, ↓nS20, ↓nSs1, ↓nSs2, ↓nEs1, ↓nEs2, ↓nB1, ↓nB2, ↓nB3, ↓nA1, ↓nA2, ↓nA3, ↓nT1, ↓reduceIte, bnm, btp, setAll, wipeL, endsOf, getz, gets, setz, sets, lenc, lenn, v_add, v_sub, v_mul, v_fdiv, v_mod, v_pow, v_adds, v_addt, v_mult, v_muls, v_addl, v_eq, v_ne, v_lt, v_le, v_gt, v_ge, v_is, v_nis, v_isb, v_nisb, v_les, v_in, v_nin, t_non, t_bl, t_int, t_str, t_tup, t_loc, b_lens, b_lent, b_lenl, b_int, b_intb, b_abs, b_min, b_max, b_str, b_strs, b_tupt, b_tupl, b_lstt, b_lstl, b_all, b_any, b_ord, r_append, r_extend, r_pop, r_pop1, r_reverse, r_get1, r_get2, r_setd, m_app, m_ext, m_pop, m_pop1, m_rev, m_get1, m_get2, f_get, f_set, f_mth, r_str, m_starts, m_split, m_rstrp, m_rmpre, m_isasc, m_isdig]
  refine ⟨_, _, it_range (by omega), ?_⟩
  refine lc_sub (cntF fun i => decide (((R i).length : Int) < (cs.getD i (0, 0)).1)) trivial (by simp [big]; omega) (fun x hx S2 K2 s2 k2 => ?_) fun S1 s1 h1 => ?_
  · obtain ⟨i, hi, rfl⟩ := List.mem_map.mp hx
    have hi2 : i < c := by simpa using hi
    have hi3 : i < cs.length := by rw [hv.1]; exact hi2
    obtain ⟨xs, m, g1, g2, g3⟩ := (h.rw.sub s2).at_ hi2
    have el : (intsOf R i).length = (R i).length := by simp [intsOf]
    simp only [cntF, Int.toNat_natCast] at k2
    simp only [↓nE1, ↓nE2, ↓nE3, ↓nE4, ↓nE5, ↓nE6, ↓nE7, ↓nE8, ↓nE9, ↓nE10, ↓nE11, ↓nE12, ↓nE13, ↓nE14, ↓nE15, ↓nE16, ↓nE17, ↓nE18, ↓nE19, ↓lcE, ↓nE21, ↓nE22, ↓nE23, ↓nE24, ↓nE25, ↓nE27, ↓nE28, ↓nE30, ↓nS1, ↓nS2, ↓nS3, ↓nS4, ↓nS5, ↓nS6, ↓nS7, ↓frE, ↓nS9, ↓nS10, ↓nS11, ↓nS12, ↓nS13, ↓nS14, ↓nS15, ↓nS16, ↓nS17, ↓nS18, ↓nS19, ↓nS20, ↓nSs1, ↓nSs2, ↓nEs1, ↓nEs2, ↓nB1, ↓nB2, ↓nB3, ↓nA1, ↓nA2, ↓nA3, ↓nT1, ↓reduceIte, bnm, btp, setAll, wipeL, endsOf, getz, gets, setz, sets, lenc, lenn, v_add, v_sub, v_mul, v_fdiv, v_mod, v_pow, v_adds, v_addt, v_mult, v_muls, v_addl, v_eq, v_ne, v_lt, v_le, v_gt, v_ge, v_is, v_nis, v_isb, v_nisb, v_les, v_in, v_nin, t_non, t_bl, t_int, t_str, t_tup, t_loc, b_lens, b_lent, b_lenl, b_int, b_intb, b_abs, b_min, b_max, b_str, b_strs, b_tupt, b_tupl, b_lstt, b_lstl, b_all, b_any, b_ord, r_append, r_extend, r_pop, r_pop1, r_reverse, r_get1, r_get2, r_setd, m_app, m_ext, m_pop, m_pop1, m_rev, m_get1, m_get2, f_get, f_set, f_mth, r_str, m_starts, m_split, m_rstrp, m_rmpre, m_isasc, m_isdig, wipeL, ixS_t (atV_cs hi3), ixS_l (n_of g1) g2, b_lenl (n_of g3), el, pV, ixS_t atV_0]
    by_cases hd : ((R i).length : Int) < (cs.getD i (0, 0)).1
    · simp only [hd, decide_true, if_true] at k2 ⊢
      exact k2 S2 Sub.refl
    · simp only [hd, decide_false, if_false, Bool.false_eq_true] at k2 ⊢
      exact k2 S2 Sub.refl
  have hr : decide (((((List.range' 0 c).map fun (i : Nat) => Val.int (i : Int)).filterMap (cntF fun i => decide (((R i).length : Int) < (cs.getD i (0, 0)).1))).length : Int) = 0) = readyC R cs := by
    rw [cnt_none]
    unfold readyC
    rw [zip_all (fun i p => decide (p.1 ≤ ((R i).length : Int))), hv.1]
    congr 1
    funext i
    generalize (cs.getD i (0, 0)).1 = a
    generalize ((R i).length : Int) = b
    by_cases hd : b < a
    · rw [decide_eq_true hd, decide_eq_false (by omega : ¬ a ≤ b)]; rfl
    · rw [decide_eq_false hd, decide_eq_true (by omega : a ≤ b)]; rfl
  simp only [↓nE1, ↓nE2, ↓nE3, ↓nE4, ↓nE5, ↓nE6, ↓nE7, ↓nE8, ↓nE9, ↓nE10, ↓nE11, ↓nE12, ↓nE13, ↓nE14, ↓nE15, ↓nE16, ↓nE17, ↓nE18, ↓nE19, ↓lcE, ↓nE21, ↓nE22, ↓nE23, ↓nE24, ↓nE25, ↓nE27, ↓nE28, ↓nE30, ↓nS1, ↓nS2, ↓nS3, ↓nS4, ↓nS5, ↓nS6, ↓nS7, ↓frE, ↓nS9, ↓nS10, ↓nS11, ↓nS12, ↓nS13, ↓nS14, ↓nS15, ↓nS16, ↓nS17, ↓nS18, ↓nS19, ↓nS20, ↓nSs1, ↓nSs2, ↓nEs1, ↓nEs2, ↓nB1, ↓nB2, ↓nB3, ↓nA1, ↓nA2, ↓nA3, ↓nT1, ↓reduceIte, bnm, btp, setAll, wipeL, endsOf, getz, gets, setz, sets, lenc, lenn, v_add, v_sub, v_mul, v_fdiv, v_mod, v_pow, v_adds, v_addt, v_mult, v_muls, v_addl, v_eq, v_ne, v_lt, v_le, v_gt, v_ge, v_is, v_nis, v_isb, v_nisb, v_les, v_in, v_nin, t_non, t_bl, t_int, t_str, t_tup, t_loc, b_lens, b_lent, b_lenl, b_int, b_intb, b_abs, b_min, b_max, b_str, b_strs, b_tupt, b_tupl, b_lstt, b_lstl, b_all, b_any, b_ord, r_append, r_extend, r_pop, r_pop1, r_reverse, r_get1, r_get2, r_setd, m_app, m_ext, m_pop, m_pop1, m_rev, m_get1, m_get2, f_get, f_set, f_mth, r_str, m_starts, m_split, m_rstrp, m_rmpre, m_isasc, m_isdig, reduceCtorEq, eqS_ii, eqS_ss, eqS_nn, Val.flat, Val.isNon, known, Option.isSome_some, true_and, tyB, tyS, istS, tyeq, ixN_0, ixN_1, ixN_2, b_lenl (n_of h1), hr]
  clear hr h1
  have hS1 := h.sub s1
  have bb : ∀ x : Bool, (x == x) = true := fun x => by cases x <;> rfl
  simp only [m1006_3_1, l1006_3_1, ↓nE1, ↓nE2, ↓nE3, ↓nE4, ↓nE5, ↓nE6, ↓nE7, ↓nE8, ↓nE9, ↓nE10, ↓nE11, ↓nE12, ↓nE13, ↓nE14, ↓nE15, ↓nE16, ↓nE17, ↓nE18, ↓nE19, ↓lcE, ↓nE21, ↓nE22, ↓nE23, ↓nE24, ↓nE25, ↓nE27, ↓nE28, ↓nE30, ↓nS1, ↓nS2, ↓nS3, ↓nS4, ↓nS5, ↓nS6, ↓nS7, ↓frE, ↓nS9, ↓nS10, ↓nS11, ↓nS12, ↓nS13, ↓nS14, ↓nS15, ↓nS16, ↓nS17, ↓nS18, ↓nS19, ↓nS20, ↓nSs1, ↓nSs2, ↓nEs1, ↓nEs2, ↓nB1, ↓nB2, ↓nB3, ↓nA1, ↓nA2, ↓nA3, ↓nT1, ↓reduceIte, bnm, btp, setAll, wipeL, endsOf, getz, gets, setz, sets, lenc, lenn, v_add, v_sub, v_mul, v_fdiv, v_mod, v_pow, v_adds, v_addt, v_mult, v_muls, v_addl, v_eq, v_ne, v_lt, v_le, v_gt, v_ge, v_is, v_nis, v_isb, v_nisb, v_les, v_in, v_nin, t_non, t_bl, t_int, t_str, t_tup, t_loc, b_lens, b_lent, b_lenl, b_int, b_intb, b_abs, b_min, b_max, b_str, b_strs, b_tupt, b_tupl, b_lstt, b_lstl, b_all, b_any, b_ord, r_append, r_extend, r_pop, r_pop1, r_reverse, r_get1, r_get2, r_setd, m_app, m_ext, m_pop, m_pop1, m_rev, m_get1, m_get2, f_get, f_set, f_mth, r_str, m_starts, m_split, m_rstrp, m_rmpre, m_isasc, m_isdig, f_mth hS1.en.obj (a := 27) rfl (mth_1_27 (l := lp))]
  refine c39 hS1.en (by omega) hv fun S2 s2 => ?_
  have hS2 := hS1.sub s2
  try simp only [↓nE1, ↓nE2, ↓nE3, ↓nE4, ↓nE5, ↓nE6, ↓nE7, ↓nE8, ↓nE9, ↓nE10, ↓nE11, ↓nE12, ↓nE13, ↓nE14, ↓nE15, ↓nE16, ↓nE17, ↓nE18, ↓nE19, ↓lcE, ↓nE21, ↓nE22, ↓nE23, ↓nE24, ↓nE25, ↓nE27, ↓nE28, ↓nE30, ↓nS1, ↓nS2, ↓nS3, ↓nS4, ↓nS5, ↓nS6, ↓nS7, ↓frE, ↓nS9, ↓nS10, ↓nS11, ↓nS12, ↓nS13, ↓nS14, ↓nS15, ↓nS16, ↓nS17, ↓nS18, ↓nS19, ↓nS20, ↓nSs1, ↓nSs2, ↓nEs1, ↓nEs2, ↓nB1, ↓nB2, ↓nB3, ↓nA1, ↓nA2, ↓nA3, ↓nT1, ↓reduceIte, bnm, btp, setAll, wipeL, endsOf, getz, gets, setz, sets, lenc, lenn, v_add, v_sub, v_mul, v_fdiv, v_mod, v_pow, v_adds, v_addt, v_mult, v_muls, v_addl, v_eq, v_ne, v_lt, v_le, v_gt, v_ge, v_is, v_nis, v_isb, v_nisb, v_les, v_in, v_nin, t_non, t_bl, t_int, t_str, t_tup, t_loc, b_lens, b_lent, b_lenl, b_int, b_intb, b_abs, b_min, b_max, b_str, b_strs, b_tupt, b_tupl, b_lstt, b_lstl, b_all, b_any, b_ord, r_append, r_extend, r_pop, r_pop1, r_reverse, r_get1, r_get2, r_setd, m_app, m_ext, m_pop, m_pop1, m_rev, m_get1, m_get2, f_get, f_set, f_mth, r_str, m_starts, m_split, m_rstrp, m_rmpre, m_isasc, m_isdig]
  refine c1003 hS2.rw (by omega) (fun p hp => (hb p hp).1) hv fun S3 s3 => ?_
  have hS3 := hS2.sub s3
  try simp only [↓nE1, ↓nE2, ↓nE3, ↓nE4, ↓nE5, ↓nE6, ↓nE7, ↓nE8, ↓nE9, ↓nE10, ↓nE11, ↓nE12, ↓nE13, ↓nE14, ↓nE15, ↓nE16, ↓nE17, ↓nE18, ↓nE19, ↓lcE, ↓nE21, ↓nE22, ↓nE23, ↓nE24, ↓nE25, ↓nE27, ↓nE28, ↓nE30, ↓nS1, ↓nS2, ↓nS3, ↓nS4, ↓nS5, ↓nS6, ↓nS7, ↓frE, ↓nS9, ↓nS10, ↓nS11, ↓nS12, ↓nS13, ↓nS14, ↓nS15, ↓nS16, ↓nS17, ↓nS18, ↓nS19, ↓nS20, ↓nSs1, ↓nSs2, ↓nEs1, ↓nEs2, ↓nB1, ↓nB2, ↓nB3, ↓nA1, ↓nA2, ↓nA3, ↓nT1, ↓reduceIte, bnm, btp, setAll, wipeL, endsOf, getz, gets, setz, sets, lenc, lenn, v_add, v_sub, v_mul, v_fdiv, v_mod, v_pow, v_adds, v_addt, v_mult, v_muls, v_addl, v_eq, v_ne, v_lt, v_le, v_gt, v_ge, v_is, v_nis, v_isb, v_nisb, v_les, v_in, v_nin, t_non, t_bl, t_int, t_str, t_tup, t_loc, b_lens, b_lent, b_lenl, b_int, b_intb, b_abs, b_min, b_max, b_str, b_strs, b_tupt, b_tupl, b_lstt, b_lstl, b_all, b_any, b_ord, r_append, r_extend, r_pop, r_pop1, r_reverse, r_get1, r_get2, r_setd, m_app, m_ext, m_pop, m_pop1, m_rev, m_get1, m_get2, f_get, f_set, f_mth, r_str, m_starts, m_split, m_rstrp, m_rmpre, m_isasc, m_isdig]
  refine c1005 ?_
  simp only [bb, ↓nE1, ↓nE2, ↓nE3, ↓nE4, ↓nE5, ↓nE6, ↓nE7, ↓nE8, ↓nE9, ↓nE10, ↓nE11, ↓nE12, ↓nE13, ↓nE14, ↓nE15, ↓nE16, ↓nE17, ↓nE18, ↓nE19, ↓lcE, ↓nE21, ↓nE22, ↓nE23, ↓nE24, ↓nE25, ↓nE27, ↓nE28, ↓nE30, ↓nS1, ↓nS2, ↓nS3, ↓nS4, ↓nS5, ↓nS6, ↓nS7, ↓frE, ↓nS9, ↓nS10, ↓nS11, ↓nS12, ↓nS13, ↓nS14, ↓nS15, ↓nS16, ↓nS17, ↓nS18, ↓nS19, ↓nS20, ↓nSs1, ↓nSs2, ↓nEs1, ↓nEs2, ↓nB1, ↓nB2, ↓nB3, ↓nA1, ↓nA2, ↓nA3, ↓nT1, ↓reduceIte, bnm, btp, setAll, wipeL, endsOf, getz, gets, setz, sets, lenc, lenn, v_add, v_sub, v_mul, v_fdiv, v_mod, v_pow, v_adds, v_addt, v_mult, v_muls, v_addl, v_eq, v_ne, v_lt, v_le, v_gt, v_ge, v_is, v_nis, v_isb, v_nisb, v_les, v_in, v_nin, t_non, t_bl, t_int, t_str, t_tup, t_loc, b_lens, b_lent, b_lenl, b_int, b_intb, b_abs, b_min, b_max, b_str, b_strs, b_tupt, b_tupl, b_lstt, b_lstl, b_all, b_any, b_ord, r_append, r_extend, r_pop, r_pop1, r_reverse, r_get1, r_get2, r_setd, m_app, m_ext, m_pop, m_pop1, m_rev, m_get1, m_get2, f_get, f_set, f_mth, r_str, m_starts, m_split, m_rstrp, m_rmpre, m_isasc, m_isdig, Bool.not_true, Bool.false_eq_true, f_mth hS3.en.obj (a := 28) rfl (mth_1_28 (l := lp))]
  refine c41 hS3.en (by omega) hv fun S4 s4 => ?_
  have hS4 := hS3.sub s4
  try simp only [↓nE1, ↓nE2, ↓nE3, ↓nE4, ↓nE5, ↓nE6, ↓nE7, ↓nE8, ↓nE9, ↓nE10, ↓nE11, ↓nE12, ↓nE13, ↓nE14, ↓nE15, ↓nE16, ↓nE17, ↓nE18, ↓nE19, ↓lcE, ↓nE21, ↓nE22, ↓nE23, ↓nE24, ↓nE25, ↓nE27, ↓nE28, ↓nE30, ↓nS1, ↓nS2, ↓nS3, ↓nS4, ↓nS5, ↓nS6, ↓nS7, ↓frE, ↓nS9, ↓nS10, ↓nS11, ↓nS12, ↓nS13, ↓nS14, ↓nS15, ↓nS16, ↓nS17, ↓nS18, ↓nS19, ↓nS20, ↓nSs1, ↓nSs2, ↓nEs1, ↓nEs2, ↓nB1, ↓nB2, ↓nB3, ↓nA1, ↓nA2, ↓nA3, ↓nT1, ↓reduceIte, bnm, btp, setAll, wipeL, endsOf, getz, gets, setz, sets, lenc, lenn, v_add, v_sub, v_mul, v_fdiv, v_mod, v_pow, v_adds, v_addt, v_mult, v_muls, v_addl, v_eq, v_ne, v_lt, v_le, v_gt, v_ge, v_is, v_nis, v_isb, v_nisb, v_les, v_in, v_nin, t_non, t_bl, t_int, t_str, t_tup, t_loc, b_lens, b_lent, b_lenl, b_int, b_intb, b_abs, b_min, b_max, b_str, b_strs, b_tupt, b_tupl, b_lstt, b_lstl, b_all, b_any, b_ord, r_append, r_extend, r_pop, r_pop1, r_reverse, r_get1, r_get2, r_setd, m_app, m_ext, m_pop, m_pop1, m_rev, m_get1, m_get2, f_get, f_set, f_mth, r_str, m_starts, m_split, m_rstrp, m_rmpre, m_isasc, m_isdig]
  refine c1005 ?_
  simp only [bb, ↓nE1, ↓nE2, ↓nE3, ↓nE4, ↓nE5, ↓nE6, ↓nE7, ↓nE8, ↓nE9, ↓nE10, ↓nE11, ↓nE12, ↓nE13, ↓nE14, ↓nE15, ↓nE16, ↓nE17, ↓nE18, ↓nE19, ↓lcE, ↓nE21, ↓nE22, ↓nE23, ↓nE24, ↓nE25, ↓nE27, ↓nE28, ↓nE30, ↓nS1, ↓nS2, ↓nS3, ↓nS4, ↓nS5, ↓nS6, ↓nS7, ↓frE, ↓nS9, ↓nS10, ↓nS11, ↓nS12, ↓nS13, ↓nS14, ↓nS15, ↓nS16, ↓nS17, ↓nS18, ↓nS19, ↓nS20, ↓nSs1, ↓nSs2, ↓nEs1, ↓nEs2, ↓nB1, ↓nB2, ↓nB3, ↓nA1, ↓nA2, ↓nA3, ↓nT1, ↓reduceIte, bnm, btp, setAll, wipeL, endsOf, getz, gets, setz, sets, lenc, lenn, v_add, v_sub, v_mul, v_fdiv, v_mod, v_pow, v_adds, v_addt, v_mult, v_muls, v_addl, v_eq, v_ne, v_lt, v_le, v_gt, v_ge, v_is, v_nis, v_isb, v_nisb, v_les, v_in, v_nin, t_non, t_bl, t_int, t_str, t_tup, t_loc, b_lens, b_lent, b_lenl, b_int, b_intb, b_abs, b_min, b_max, b_str, b_strs, b_tupt, b_tupl, b_lstt, b_lstl, b_all, b_any, b_ord, r_append, r_extend, r_pop, r_pop1, r_reverse, r_get1, r_get2, r_setd, m_app, m_ext, m_pop, m_pop1, m_rev, m_get1, m_get2, f_get, f_set, f_mth, r_str, m_starts, m_split, m_rstrp, m_rmpre, m_isasc, m_isdig, Bool.not_true, Bool.false_eq_true, m1006_3_2, l1006_3_2, f_mth hS4.fi.obj (a := 26) rfl (mth_2_26 (l := lp))]
  refine c44 hS4.fi hS4.en (by omega) hv fun S5 s5 => ?_
  have hS5 := hS4.sub s5
  try simp only [↓nE1, ↓nE2, ↓nE3, ↓nE4, ↓nE5, ↓nE6, ↓nE7, ↓nE8, ↓nE9, ↓nE10, ↓nE11, ↓nE12, ↓nE13, ↓nE14, ↓nE15, ↓nE16, ↓nE17, ↓nE18, ↓nE19, ↓lcE, ↓nE21, ↓nE22, ↓nE23, ↓nE24, ↓nE25, ↓nE27, ↓nE28, ↓nE30, ↓nS1, ↓nS2, ↓nS3, ↓nS4, ↓nS5, ↓nS6, ↓nS7, ↓frE, ↓nS9, ↓nS10, ↓nS11, ↓nS12, ↓nS13, ↓nS14, ↓nS15, ↓nS16, ↓nS17, ↓nS18, ↓nS19, ↓nS20, ↓nSs1, ↓nSs2, ↓nEs1, ↓nEs2, ↓nB1, ↓nB2, ↓nB3, ↓nA1, ↓nA2, ↓nA3, ↓nT1, ↓reduceIte, bnm, btp, setAll, wipeL, endsOf, getz, gets, setz, sets, lenc, lenn, v_add, v_sub, v_mul, v_fdiv, v_mod, v_pow, v_adds, v_addt, v_mult, v_muls, v_addl, v_eq, v_ne, v_lt, v_le, v_gt, v_ge, v_is, v_nis, v_isb, v_nisb, v_les, v_in, v_nin, t_non, t_bl, t_int, t_str, t_tup, t_loc, b_lens, b_lent, b_lenl, b_int, b_intb, b_abs, b_min, b_max, b_str, b_strs, b_tupt, b_tupl, b_lstt, b_lstl, b_all, b_any, b_ord, r_append, r_extend, r_pop, r_pop1, r_reverse, r_get1, r_get2, r_setd, m_app, m_ext, m_pop, m_pop1, m_rev, m_get1, m_get2, f_get, f_set, f_mth, r_str, m_starts, m_split, m_rstrp, m_rmpre, m_isasc, m_isdig]
  refine c1004 hS5.rw hS5.tw (by omega) hb hv fun S6 s6 => ?_
  try simp only [↓nE1, ↓nE2, ↓nE3, ↓nE4, ↓nE5, ↓nE6, ↓nE7, ↓nE8, ↓nE9, ↓nE10, ↓nE11, ↓nE12, ↓nE13, ↓nE14, ↓nE15, ↓nE16, ↓nE17, ↓nE18, ↓nE19, ↓lcE, ↓nE21, ↓nE22, ↓nE23, ↓nE24, ↓nE25, ↓nE27, ↓nE28, ↓nE30, ↓nS1, ↓nS2, ↓nS3, ↓nS4, ↓nS5, ↓nS6, ↓nS7, ↓frE, ↓nS9, ↓nS10, ↓nS11, ↓nS12, ↓nS13, ↓nS14, ↓nS15, ↓nS16, ↓nS17, ↓nS18, ↓nS19, ↓nS20, ↓nSs1, ↓nSs2, ↓nEs1, ↓nEs2, ↓nB1, ↓nB2, ↓nB3, ↓nA1, ↓nA2, ↓nA3, ↓nT1, ↓reduceIte, bnm, btp, setAll, wipeL, endsOf, getz, gets, setz, sets, lenc, lenn, v_add, v_sub, v_mul, v_fdiv, v_mod, v_pow, v_adds, v_addt, v_mult, v_muls, v_addl, v_eq, v_ne, v_lt, v_le, v_gt, v_ge, v_is, v_nis, v_isb, v_nisb, v_les, v_in, v_nin, t_non, t_bl, t_int, t_str, t_tup, t_loc, b_lens, b_lent, b_lenl, b_int, b_intb, b_abs, b_min, b_max, b_str, b_strs, b_tupt, b_tupl, b_lstt, b_lstl, b_all, b_any, b_ord, r_append, r_extend, r_pop, r_pop1, r_reverse, r_get1, r_get2, r_setd, m_app, m_ext, m_pop, m_pop1, m_rev, m_get1, m_get2, f_get, f_set, f_mth, r_str, m_starts, m_split, m_rstrp, m_rmpre, m_isasc, m_isdig]
  refine c1005 ?_
  simp only [bb, ↓nE1, ↓nE2, ↓nE3, ↓nE4, ↓nE5, ↓nE6, ↓nE7, ↓nE8, ↓nE9, ↓nE10, ↓nE11, ↓nE12, ↓nE13, ↓nE14, ↓nE15, ↓nE16, ↓nE17, ↓nE18, ↓nE19, ↓lcE, ↓nE21, ↓nE22, ↓nE23, ↓nE24, ↓nE25, ↓nE27, ↓nE28, ↓nE30, ↓nS1, ↓nS2, ↓nS3, ↓nS4, ↓nS5, ↓nS6, ↓nS7, ↓frE, ↓nS9, ↓nS10, ↓nS11, ↓nS12, ↓nS13, ↓nS14, ↓nS15, ↓nS16, ↓nS17, ↓nS18, ↓nS19, ↓nS20, ↓nSs1, ↓nSs2, ↓nEs1, ↓nEs2, ↓nB1, ↓nB2, ↓nB3, ↓nA1, ↓nA2, ↓nA3, ↓nT1, ↓reduceIte, bnm, btp, setAll, wipeL, endsOf, getz, gets, setz, sets, lenc, lenn, v_add, v_sub, v_mul, v_fdiv, v_mod, v_pow, v_adds, v_addt, v_mult, v_muls, v_addl, v_eq, v_ne, v_lt, v_le, v_gt, v_ge, v_is, v_nis, v_isb, v_nisb, v_les, v_in, v_nin, t_non, t_bl, t_int, t_str, t_tup, t_loc, b_lens, b_lent, b_lenl, b_int, b_intb, b_abs, b_min, b_max, b_str, b_strs, b_tupt, b_tupl, b_lstt, b_lstl, b_all, b_any, b_ord, r_append, r_extend, r_pop, r_pop1, r_reverse, r_get1, r_get2, r_setd, m_app, m_ext, m_pop, m_pop1, m_rev, m_get1, m_get2, f_get, f_set, f_mth, r_str, m_starts, m_split, m_rstrp, m_rmpre, m_isasc, m_isdig, Bool.not_true, Bool.false_eq_true]
  exact K S6 _ ((((((s1.trans s2).trans s3).trans s4).trans s5).trans s6))
end
end My

namespace My
open PySem PM
theorem pmax_snoc (p q : Int × Int) (ps : List (Int × Int)) : pmax p (ps ++ [q]) = pmx (pmax p ps) q := by
  unfold pmax pmx
  rw [List.foldl_append]
  rfl
def upTT (TT : Nat → List (Int × Int)) (p : Nat) (q : Int × Int) : Nat → List (Int × Int) := fun i => if i = p then TT p ++ [q] else TT i
theorem TTm_up (TT : Nat → List (Int × Int)) (p : Nat) (q : Int × Int) : upT (TTm TT) p q = TTm (upTT TT p q) := by
  funext i
  unfold upT TTm upTT
  by_cases e : i = p
  · subst e
    rw [if_pos rfl, if_pos rfl, pmax_snoc]
  · rw [if_neg e, if_neg e]
section
variable {ds : List Int} {c n : Nat} {L : Lc} {S : Sto} {R : Nat → List Int} {TT : Nat → List (Int × Int)} {D : ED} {x6 x8 x10 x11 x12 x13 x14 x15 x16 x17 x18 x19 : Option Val} {p : Nat} {rest : Int}
theorem upR_len {k : Nat} {s : Int} (hb : LenOk c R TT k) : LenOk c (upR R p s) TT (k + 1) := fun i hi => by
  have := hb i hi
  unfold upR
  split
  · rw [List.length_append]; exact ⟨by simp; omega, by omega⟩
  · omega
theorem upTT_len {k : Nat} {q : Int × Int} (hb : LenOk c R TT k) (hp : p < c) : LenOk c R (upTT TT p q) (k + 1) := fun i hi => by
  have := hb i hi
  have h2 := hb p hp
  unfold upTT
  split
  · rw [List.length_append]; exact ⟨by omega, by simp; omega⟩
  · omega
theorem LenOk.up {k : Nat} (hb : LenOk c R TT k) : LenOk c R TT (k + 1) := fun i hi => by have := hb i hi; omega
/-- an end of a process is told -/
theorem add_step {k : Nat} (h : W18 ds c L S R R (TTm TT) TT) (hb : LenOk c R TT k) (hk : k ≤ 900) (hp : p < c)
    (K : ∀ S' R' x16, W18 ds c L S' R' R' (TTm TT) TT → LenOk c R' TT (k + 1) → D.nx [some (.loc 0), some (.int (c : Int)), some (.loc L.o), some (.loc L.f), some (.loc L.r), some (.loc L.t), x6, some (.int (p : Int)), x8, some (.int rest), x10, x11, x12, x13, x14, x15, x16, x17, x18, x19] S') :
    wpSs (cenv (UP lp) (n + 3)) l1006_1 D [some (.loc 0), some (.int (c : Int)), some (.loc L.o), some (.loc L.f), some (.loc L.r), some (.loc L.t), x6, some (.int (p : Int)), x8, some (.int rest), x10, x11, x12, x13, x14, x15, x16, x17, x18, x19] S := by
  have hbp := hb p hp
  have hc2 := h.c2
  have q5 : (0 : Int) < 5 ∧ (5 : Int) < 2 ^ 80 := by decide
  have q7 : (0 : Int) < 7 := by decide
  have el : ∀ R : Nat → List Int, (intsOf R p).length = (R p).length := fun R => by simp [intsOf]
  obtain ⟨w, a1, a2⟩ := atV_int (xs := [.int 0, .int 0, .int 0, .int 1, .int (-1)]) (i := rest % 5) (by omega) (by simp; omega)
  have hw : ∃ d : Int, w = .int d := by
    simp only [List.mem_cons, List.not_mem_nil, or_false] at a2
    rcases a2 with rfl | rfl | rfl | rfl | rfl <;> exact ⟨_, rfl⟩
  obtain ⟨d, rfl⟩ := hw
  obtain ⟨xs, m, g1, g2, g3⟩ := h.rw.at_ hp
  have e1 : (S ++ [SObj.lst [.int 0, .int 0, .int 0, .int 1, .int (-1)]])[S.length]? = some (.lst [.int 0, .int 0, .int 0, .int 1, .int (-1)]) := get_new
  have s1 : Sub S (S ++ [SObj.lst [.int 0, .int 0, .int 0, .int 1, .int (-1)]]) := Sub.app
  simp only [l1006_1, l1006_1_0, ↓nE1, ↓nE2, ↓nE3, ↓nE4, ↓nE5, ↓nE6, ↓nE7, ↓nE8, ↓nE9, ↓nE10, ↓nE11, ↓nE12, ↓nE13, ↓nE14, ↓nE15, ↓nE16, ↓nE17, ↓nE18, ↓nE19, ↓lcE, ↓nE21, ↓nE22, ↓nE23, ↓nE24, ↓nE25, ↓nE27, ↓nE28, ↓nE30, ↓nS1, ↓nS2, ↓nS3, ↓nS4, ↓nS5, ↓nS6, ↓nS7, ↓frE, ↓nS9, ↓nS10, ↓nS11, ↓nS12, ↓nS13, ↓nS14, ↓nS15, ↓nS16, ↓nS17, ↓nS18, ↓nS19, ↓nS20, ↓nSs1, ↓nSs2, ↓nEs1, ↓nEs2, ↓nB1, ↓nB2, ↓nB3, ↓nA1, ↓nA2, ↓nA3, ↓nT1, ↓reduceIte, bnm, btp, setAll, wipeL, endsOf, getz, gets, setz, sets, lenc, lenn, v_add, v_sub, v_mul, v_fdiv, v_mod, v_pow, v_adds, v_addt, v_mult, v_muls, v_addl, v_eq, v_ne, v_lt, v_le, v_gt, v_ge, v_is, v_nis, v_isb, v_nisb, v_les, v_in, v_nin, t_non, t_bl, t_int, t_str, t_tup, t_loc, b_lens, b_lent, b_lenl, b_int, b_intb, b_abs, b_min, b_max, b_str, b_strs, b_tupt, b_tupl, b_lstt, b_lstl, b_all, b_any, b_ord, r_append, r_extend, r_pop, r_pop1, r_reverse, r_get1, r_get2, r_setd, m_app, m_ext, m_pop, m_pop1, m_rev, m_get1, m_get2, f_get, f_set, f_mth, r_str, m_starts, m_split, m_rstrp, m_rmpre, m_isasc, m_isdig, ixS_l (n_of g1) g2, b_lenl (n_of g3), el, q5.1, true_and, ixS_l (n_of e1) a1]
  generalize S ++ [SObj.lst [.int 0, .int 0, .int 0, .int 1, .int (-1)]] = S1 at s1 ⊢
  generalize (if ((R p).length : Int) + d > 0 then ((R p).length : Int) + d else 0) = ve
  have hS1 := h.sub s1
  obtain ⟨xs1, m1, f1, f2, f3⟩ := hS1.rw.at_ hp
  simp only [m1006_1_1, l1006_1_1, ↓nE1, ↓nE2, ↓nE3, ↓nE4, ↓nE5, ↓nE6, ↓nE7, ↓nE8, ↓nE9, ↓nE10, ↓nE11, ↓nE12, ↓nE13, ↓nE14, ↓nE15, ↓nE16, ↓nE17, ↓nE18, ↓nE19, ↓lcE, ↓nE21, ↓nE22, ↓nE23, ↓nE24, ↓nE25, ↓nE27, ↓nE28, ↓nE30, ↓nS1, ↓nS2, ↓nS3, ↓nS4, ↓nS5, ↓nS6, ↓nS7, ↓frE, ↓nS9, ↓nS10, ↓nS11, ↓nS12, ↓nS13, ↓nS14, ↓nS15, ↓nS16, ↓nS17, ↓nS18, ↓nS19, ↓nS20, ↓nSs1, ↓nSs2, ↓nEs1, ↓nEs2, ↓nB1, ↓nB2, ↓nB3, ↓nA1, ↓nA2, ↓nA3, ↓nT1, ↓reduceIte, bnm, btp, setAll, wipeL, endsOf, getz, gets, setz, sets, lenc, lenn, v_add, v_sub, v_mul, v_fdiv, v_mod, v_pow, v_adds, v_addt, v_mult, v_muls, v_addl, v_eq, v_ne, v_lt, v_le, v_gt, v_ge, v_is, v_nis, v_isb, v_nisb, v_les, v_in, v_nin, t_non, t_bl, t_int, t_str, t_tup, t_loc, b_lens, b_lent, b_lenl, b_int, b_intb, b_abs, b_min, b_max, b_str, b_strs, b_tupt, b_tupl, b_lstt, b_lstl, b_all, b_any, b_ord, r_append, r_extend, r_pop, r_pop1, r_reverse, r_get1, r_get2, r_setd, m_app, m_ext, m_pop, m_pop1, m_rev, m_get1, m_get2, f_get, f_set, f_mth, r_str, m_starts, m_split, m_rstrp, m_rmpre, m_isasc, m_isdig, q5, q7, and_self, true_and, f_mth hS1.en.obj (a := 24) rfl (mth_1_24 (l := lp))]
  obtain ⟨s, hs⟩ : ∃ s, rest / 5 % 7 = s := ⟨_, rfl⟩
  simp only [hs]
  have bb : ∀ x : Bool, (x == x) = true := fun x => by cases x <;> rfl
  refine c37 hS1.en hp (by omega) (by omega) (fun hv S2 s2 => ?_) fun hv S2 s2 e2 => ?_
  · have hS2 := hS1.sub s2
    obtain ⟨xs2, m2, k1, k2, k3⟩ := hS2.rw.at_ hp
    simp only [↓nE1, ↓nE2, ↓nE3, ↓nE4, ↓nE5, ↓nE6, ↓nE7, ↓nE8, ↓nE9, ↓nE10, ↓nE11, ↓nE12, ↓nE13, ↓nE14, ↓nE15, ↓nE16, ↓nE17, ↓nE18, ↓nE19, ↓lcE, ↓nE21, ↓nE22, ↓nE23, ↓nE24, ↓nE25, ↓nE27, ↓nE28, ↓nE30, ↓nS1, ↓nS2, ↓nS3, ↓nS4, ↓nS5, ↓nS6, ↓nS7, ↓frE, ↓nS9, ↓nS10, ↓nS11, ↓nS12, ↓nS13, ↓nS14, ↓nS15, ↓nS16, ↓nS17, ↓nS18, ↓nS19, ↓nS20, ↓nSs1, ↓nSs2, ↓nEs1, ↓nEs2, ↓nB1, ↓nB2, ↓nB3, ↓nA1, ↓nA2, ↓nA3, ↓nT1, ↓reduceIte, bnm, btp, setAll, wipeL, endsOf, getz, gets, setz, sets, lenc, lenn, v_add, v_sub, v_mul, v_fdiv, v_mod, v_pow, v_adds, v_addt, v_mult, v_muls, v_addl, v_eq, v_ne, v_lt, v_le, v_gt, v_ge, v_is, v_nis, v_isb, v_nisb, v_les, v_in, v_nin, t_non, t_bl, t_int, t_str, t_tup, t_loc, b_lens, b_lent, b_lenl, b_int, b_intb, b_abs, b_min, b_max, b_str, b_strs, b_tupt, b_tupl, b_lstt, b_lstl, b_all, b_any, b_ord, r_append, r_extend, r_pop, r_pop1, r_reverse, r_get1, r_get2, r_setd, m_app, m_ext, m_pop, m_pop1, m_rev, m_get1, m_get2, f_get, f_set, f_mth, r_str, m_starts, m_split, m_rstrp, m_rmpre, m_isasc, m_isdig, reduceCtorEq, eqS_ii, eqS_ss, eqS_nn, Val.flat, Val.isNon, known, Option.isSome_some, true_and, tyB, tyS, istS, tyeq, ixN_0, ixN_1, ixN_2, ixS_l (n_of k1) k2, b_lenl (n_of k3), el, hv, decide_false]
    refine c1005 ?_
    simp only [bb, ↓nE1, ↓nE2, ↓nE3, ↓nE4, ↓nE5, ↓nE6, ↓nE7, ↓nE8, ↓nE9, ↓nE10, ↓nE11, ↓nE12, ↓nE13, ↓nE14, ↓nE15, ↓nE16, ↓nE17, ↓nE18, ↓nE19, ↓lcE, ↓nE21, ↓nE22, ↓nE23, ↓nE24, ↓nE25, ↓nE27, ↓nE28, ↓nE30, ↓nS1, ↓nS2, ↓nS3, ↓nS4, ↓nS5, ↓nS6, ↓nS7, ↓frE, ↓nS9, ↓nS10, ↓nS11, ↓nS12, ↓nS13, ↓nS14, ↓nS15, ↓nS16, ↓nS17, ↓nS18, ↓nS19, ↓nS20, ↓nSs1, ↓nSs2, ↓nEs1, ↓nEs2, ↓nB1, ↓nB2, ↓nB3, ↓nA1, ↓nA2, ↓nA3, ↓nT1, ↓reduceIte, bnm, btp, setAll, wipeL, endsOf, getz, gets, setz, sets, lenc, lenn, v_add, v_sub, v_mul, v_fdiv, v_mod, v_pow, v_adds, v_addt, v_mult, v_muls, v_addl, v_eq, v_ne, v_lt, v_le, v_gt, v_ge, v_is, v_nis, v_isb, v_nisb, v_les, v_in, v_nin, t_non, t_bl, t_int, t_str, t_tup, t_loc, b_lens, b_lent, b_lenl, b_int, b_intb, b_abs, b_min, b_max, b_str, b_strs, b_tupt, b_tupl, b_lstt, b_lstl, b_all, b_any, b_ord, r_append, r_extend, r_pop, r_pop1, r_reverse, r_get1, r_get2, r_setd, m_app, m_ext, m_pop, m_pop1, m_rev, m_get1, m_get2, f_get, f_set, f_mth, r_str, m_starts, m_split, m_rstrp, m_rmpre, m_isasc, m_isdig, reduceCtorEq, eqS_ii, eqS_ss, eqS_nn, Val.flat, Val.isNon, known, Option.isSome_some, true_and, tyB, tyS, istS, tyeq, ixN_0, ixN_1, ixN_2, Bool.not_true, Bool.false_eq_true, m1006_1_2, l1006_1_2, ixS_l (n_of k1) k2, b_lenl (n_of k3), el, hv, decide_false]
    exact K S2 R _ hS2 hb.up
  · have hS2 := hS1.subEnds s2 e2
    obtain ⟨xs2, m2, k1, k2, k3⟩ := hS2.rw.at_ hp
    simp only [↓nE1, ↓nE2, ↓nE3, ↓nE4, ↓nE5, ↓nE6, ↓nE7, ↓nE8, ↓nE9, ↓nE10, ↓nE11, ↓nE12, ↓nE13, ↓nE14, ↓nE15, ↓nE16, ↓nE17, ↓nE18, ↓nE19, ↓lcE, ↓nE21, ↓nE22, ↓nE23, ↓nE24, ↓nE25, ↓nE27, ↓nE28, ↓nE30, ↓nS1, ↓nS2, ↓nS3, ↓nS4, ↓nS5, ↓nS6, ↓nS7, ↓frE, ↓nS9, ↓nS10, ↓nS11, ↓nS12, ↓nS13, ↓nS14, ↓nS15, ↓nS16, ↓nS17, ↓nS18, ↓nS19, ↓nS20, ↓nSs1, ↓nSs2, ↓nEs1, ↓nEs2, ↓nB1, ↓nB2, ↓nB3, ↓nA1, ↓nA2, ↓nA3, ↓nT1, ↓reduceIte, bnm, btp, setAll, wipeL, endsOf, getz, gets, setz, sets, lenc, lenn, v_add, v_sub, v_mul, v_fdiv, v_mod, v_pow, v_adds, v_addt, v_mult, v_muls, v_addl, v_eq, v_ne, v_lt, v_le, v_gt, v_ge, v_is, v_nis, v_isb, v_nisb, v_les, v_in, v_nin, t_non, t_bl, t_int, t_str, t_tup, t_loc, b_lens, b_lent, b_lenl, b_int, b_intb, b_abs, b_min, b_max, b_str, b_strs, b_tupt, b_tupl, b_lstt, b_lstl, b_all, b_any, b_ord, r_append, r_extend, r_pop, r_pop1, r_reverse, r_get1, r_get2, r_setd, m_app, m_ext, m_pop, m_pop1, m_rev, m_get1, m_get2, f_get, f_set, f_mth, r_str, m_starts, m_split, m_rstrp, m_rmpre, m_isasc, m_isdig, reduceCtorEq, eqS_ii, eqS_ss, eqS_nn, Val.flat, Val.isNon, known, Option.isSome_some, true_and, tyB, tyS, istS, tyeq, ixN_0, ixN_1, ixN_2, ixS_l (n_of k1) k2, b_lenl (n_of k3), el, hv, decide_true]
    refine c1005 ?_
    have b3 : (R p).length + (0 + 1) ≤ big := by unfold big; omega
    have x1 : (S2 ++ [SObj.lst [.int s]])[S2.length]? = some (.lst [.int s]) := get_new
    have x2 := Sub.app (t := [SObj.lst [.int s]]) _ _ k3
    simp only [bb, ↓nE1, ↓nE2, ↓nE3, ↓nE4, ↓nE5, ↓nE6, ↓nE7, ↓nE8, ↓nE9, ↓nE10, ↓nE11, ↓nE12, ↓nE13, ↓nE14, ↓nE15, ↓nE16, ↓nE17, ↓nE18, ↓nE19, ↓lcE, ↓nE21, ↓nE22, ↓nE23, ↓nE24, ↓nE25, ↓nE27, ↓nE28, ↓nE30, ↓nS1, ↓nS2, ↓nS3, ↓nS4, ↓nS5, ↓nS6, ↓nS7, ↓frE, ↓nS9, ↓nS10, ↓nS11, ↓nS12, ↓nS13, ↓nS14, ↓nS15, ↓nS16, ↓nS17, ↓nS18, ↓nS19, ↓nS20, ↓nSs1, ↓nSs2, ↓nEs1, ↓nEs2, ↓nB1, ↓nB2, ↓nB3, ↓nA1, ↓nA2, ↓nA3, ↓nT1, ↓reduceIte, bnm, btp, setAll, wipeL, endsOf, getz, gets, setz, sets, lenc, lenn, v_add, v_sub, v_mul, v_fdiv, v_mod, v_pow, v_adds, v_addt, v_mult, v_muls, v_addl, v_eq, v_ne, v_lt, v_le, v_gt, v_ge, v_is, v_nis, v_isb, v_nisb, v_les, v_in, v_nin, t_non, t_bl, t_int, t_str, t_tup, t_loc, b_lens, b_lent, b_lenl, b_int, b_intb, b_abs, b_min, b_max, b_str, b_strs, b_tupt, b_tupl, b_lstt, b_lstl, b_all, b_any, b_ord, r_append, r_extend, r_pop, r_pop1, r_reverse, r_get1, r_get2, r_setd, m_app, m_ext, m_pop, m_pop1, m_rev, m_get1, m_get2, f_get, f_set, f_mth, r_str, m_starts, m_split, m_rstrp, m_rmpre, m_isasc, m_isdig, reduceCtorEq, eqS_ii, eqS_ss, eqS_nn, Val.flat, Val.isNon, known, Option.isSome_some, true_and, tyB, tyS, istS, tyeq, ixN_0, ixN_1, ixN_2, Bool.not_true, Bool.false_eq_true, m1006_1_2, l1006_1_2, ixS_l (n_of k1) k2, b_lenl (n_of k3), el, decide_true, q5, q7, and_self, true_and, hs, v_addl (m_of x2) (m_of x1)]
    refine ⟨b3, ?_⟩
    have s3 : Sub S2 (S2 ++ [SObj.lst [.int s]] ++ [SObj.lst (intsOf R p ++ [.int s])]) := Sub.app.trans Sub.app
    have x3 : (S2 ++ [SObj.lst [.int s]] ++ [SObj.lst (intsOf R p ++ [.int s])])[(S2 ++ [SObj.lst [.int s]]).length]? = some (.lst (intsOf R p ++ [.int s])) := get_new
    have e4 : intsOf R p ++ [.int s] = (R p ++ [s]).map Val.int := by simp [intsOf]
    rw [e4] at x3 s3 ⊢
    generalize (S2 ++ [SObj.lst [.int s]]).length = q3 at x3 ⊢
    generalize S2 ++ [SObj.lst [.int s]] ++ [SObj.lst ((R p ++ [s]).map Val.int)] = S3 at x3 s3 ⊢
    have hS3 := hS2.sub s3
    have j1 := s3 _ _ k1
    have ix : L2.ixN xs2.length (p : Int) = some p := by
      obtain ⟨ys, j3, j4, _⟩ := hS3.rw
      rw [j1] at j3
      cases j3
      unfold L2.ixN
      rw [if_pos (by omega), if_pos (by omega)]
      simp
    simp only [subS_l j1 ix]
    have hS4 := hS3.putRow j1 hp x3
    have e5 : (fun q => if q = p then R p ++ [s] else R q) = upR R p s := by
      funext q
      unfold upR
      by_cases e : q = p
      · subst e; simp
      · simp [e]
    rw [e5] at hS4
    exact K _ (upR R p s) _ hS4 (upR_len hb)
/-- a pair is told firm -/
theorem told_step {k : Nat} (h : W18 ds c L S R R (TTm TT) TT) (hb : LenOk c R TT k) (hk : k ≤ 900) (hp : p < c)
    (K : ∀ S' TT' x18, W18 ds c L S' R R (TTm TT') TT' → LenOk c R TT' (k + 1) → D.nx [some (.loc 0), some (.int (c : Int)), some (.loc L.o), some (.loc L.f), some (.loc L.r), some (.loc L.t), x6, some (.int (p : Int)), x8, some (.int rest), x10, x11, x12, x13, x14, x15, x16, x17, x18, x19] S') :
    wpSs (cenv (UP lp) (n + 3)) l1006_2 D [some (.loc 0), some (.int (c : Int)), some (.loc L.o), some (.loc L.f), some (.loc L.r), some (.loc L.t), x6, some (.int (p : Int)), x8, some (.int rest), x10, x11, x12, x13, x14, x15, x16, x17, x18, x19] S := by
  have hbp := hb p hp
  have hc2 := h.c2
  have q4 : (0 : Int) < 4 ∧ (4 : Int) < 2 ^ 80 := by decide
  have q7 : (0 : Int) < 7 := by decide
  simp only [l1006_2, l1006_2_0, m1006_2_1, l1006_2_1, ↓nE1, ↓nE2, ↓nE3, ↓nE4, ↓nE5, ↓nE6, ↓nE7, ↓nE8, ↓nE9, ↓nE10, ↓nE11, ↓nE12, ↓nE13, ↓nE14, ↓nE15, ↓nE16, ↓nE17, ↓nE18, ↓nE19, ↓lcE, ↓nE21, ↓nE22, ↓nE23, ↓nE24, ↓nE25, ↓nE27, ↓nE28, ↓nE30, ↓nS1, ↓nS2, ↓nS3, ↓nS4, ↓nS5, ↓nS6, ↓nS7, ↓frE, ↓nS9, ↓nS10, ↓nS11, ↓nS12, ↓nS13, ↓nS14, ↓nS15, ↓nS16, ↓nS17, ↓nS18, ↓nS19, ↓nS20, ↓nSs1, ↓nSs2, ↓nEs1, ↓nEs2, ↓nB1, ↓nB2, ↓nB3, ↓nA1, ↓nA2, ↓nA3, ↓nT1, ↓reduceIte, bnm, btp, setAll, wipeL, endsOf, getz, gets, setz, sets, lenc, lenn, v_add, v_sub, v_mul, v_fdiv, v_mod, v_pow, v_adds, v_addt, v_mult, v_muls, v_addl, v_eq, v_ne, v_lt, v_le, v_gt, v_ge, v_is, v_nis, v_isb, v_nisb, v_les, v_in, v_nin, t_non, t_bl, t_int, t_str, t_tup, t_loc, b_lens, b_lent, b_lenl, b_int, b_intb, b_abs, b_min, b_max, b_str, b_strs, b_tupt, b_tupl, b_lstt, b_lstl, b_all, b_any, b_ord, r_append, r_extend, r_pop, r_pop1, r_reverse, r_get1, r_get2, r_setd, m_app, m_ext, m_pop, m_pop1, m_rev, m_get1, m_get2, f_get, f_set, f_mth, r_str, m_starts, m_split, m_rstrp, m_rmpre, m_isasc, m_isdig, q4, q7, and_self, true_and, ixS_t atV_0, ixS_t atV_1, f_mth h.fi.obj (a := 25) rfl (mth_2_25 (l := lp))]
  generalize rest % 4 = u
  generalize rest / 4 % 7 = w
  refine c43 h.fi hp (by omega) fun S1 s1 f1 => ?_
  have hS1 := h.subFirm s1 f1
  obtain ⟨xs, m, g1, g2, g3⟩ := hS1.tw.at_ hp
  have b3 : (TT p).length + (0 + 1) ≤ big := by unfold big; omega
  have x1 : (S1 ++ [SObj.lst [.tup [.int u, .int w]]])[S1.length]? = some (.lst [.tup [.int u, .int w]]) := get_new
  have x2 := Sub.app (t := [SObj.lst [.tup [.int u, .int w]]]) _ _ g3
  simp only [↓nE1, ↓nE2, ↓nE3, ↓nE4, ↓nE5, ↓nE6, ↓nE7, ↓nE8, ↓nE9, ↓nE10, ↓nE11, ↓nE12, ↓nE13, ↓nE14, ↓nE15, ↓nE16, ↓nE17, ↓nE18, ↓nE19, ↓lcE, ↓nE21, ↓nE22, ↓nE23, ↓nE24, ↓nE25, ↓nE27, ↓nE28, ↓nE30, ↓nS1, ↓nS2, ↓nS3, ↓nS4, ↓nS5, ↓nS6, ↓nS7, ↓frE, ↓nS9, ↓nS10, ↓nS11, ↓nS12, ↓nS13, ↓nS14, ↓nS15, ↓nS16, ↓nS17, ↓nS18, ↓nS19, ↓nS20, ↓nSs1, ↓nSs2, ↓nEs1, ↓nEs2, ↓nB1, ↓nB2, ↓nB3, ↓nA1, ↓nA2, ↓nA3, ↓nT1, ↓reduceIte, bnm, btp, setAll, wipeL, endsOf, getz, gets, setz, sets, lenc, lenn, v_add, v_sub, v_mul, v_fdiv, v_mod, v_pow, v_adds, v_addt, v_mult, v_muls, v_addl, v_eq, v_ne, v_lt, v_le, v_gt, v_ge, v_is, v_nis, v_isb, v_nisb, v_les, v_in, v_nin, t_non, t_bl, t_int, t_str, t_tup, t_loc, b_lens, b_lent, b_lenl, b_int, b_intb, b_abs, b_min, b_max, b_str, b_strs, b_tupt, b_tupl, b_lstt, b_lstl, b_all, b_any, b_ord, r_append, r_extend, r_pop, r_pop1, r_reverse, r_get1, r_get2, r_setd, m_app, m_ext, m_pop, m_pop1, m_rev, m_get1, m_get2, f_get, f_set, f_mth, r_str, m_starts, m_split, m_rstrp, m_rmpre, m_isasc, m_isdig, reduceCtorEq, eqS_ii, eqS_ss, eqS_nn, Val.flat, Val.isNon, known, Option.isSome_some, true_and, tyB, tyS, istS, tyeq, ixN_0, ixN_1, ixN_2, Bool.not_true, Bool.false_eq_true, m1006_2_2, l1006_2_2, ixS_l (n_of g1) g2, v_addl (m_of x2) (m_of x1), List.length_map]
  refine ⟨b3, ?_⟩
  have e4 : (TT p).map pV ++ [.tup [.int u, .int w]] = (TT p ++ [(u, w)]).map pV := by simp [pV]
  have s3 : Sub S1 (S1 ++ [SObj.lst [.tup [.int u, .int w]]] ++ [SObj.lst ((TT p).map pV ++ [.tup [.int u, .int w]])]) := Sub.app.trans Sub.app
  have x3 : (S1 ++ [SObj.lst [.tup [.int u, .int w]]] ++ [SObj.lst ((TT p).map pV ++ [.tup [.int u, .int w]])])[(S1 ++ [SObj.lst [.tup [.int u, .int w]]]).length]? = some (.lst ((TT p).map pV ++ [.tup [.int u, .int w]])) := get_new
  rw [e4] at x3 s3 ⊢
  generalize (S1 ++ [SObj.lst [.tup [.int u, .int w]]]).length = q3 at x3 ⊢
  generalize S1 ++ [SObj.lst [.tup [.int u, .int w]]] ++ [SObj.lst ((TT p ++ [(u, w)]).map pV)] = S3 at x3 s3 ⊢
  have hS3 := hS1.sub s3
  have j1 := s3 _ _ g1
  have ix : L2.ixN xs.length (p : Int) = some p := by
    obtain ⟨ys, j3, j4, _⟩ := hS3.tw
    rw [j1] at j3
    cases j3
    unfold L2.ixN
    rw [if_pos (by omega), if_pos (by omega)]
    simp
  simp only [subS_l j1 ix]
  have hS4 := hS3.putTold j1 hp x3
  rw [TTm_up] at hS4
  exact K _ (upTT TT p (u, w)) _ hS4 (upTT_len hb hp)
end
end My

namespace My
open PySem PM
theorem Pk.prs {ps : List (Int × Int)} : Pk 3 (.tup (ps.map pV)) := Pk.tup (k := 2) fun x hx => by
  obtain ⟨p, _, rfl⟩ := List.mem_map.mp hx
  exact Pk.tup (k := 1) fun y hy => by
    simp only [List.mem_cons, List.not_mem_nil, or_false] at hy
    rcases hy with rfl | rfl <;> exact Pk.int
theorem mx_map {c : Nat} {as bs : List (Int × Int)} (ha : as.length = c) (hb : bs.length = c) : ((List.range' 0 c).map fun (i : Nat) => Val.int (i : Int)).filterMap (fun v => match v with | .int k => some (pV (pmx (as.getD k.toNat (0, 0)) (bs.getD k.toNat (0, 0)))) | _ => none) = (as.zip bs).map fun p => pV (pmx p.1 p.2) := by
  rw [List.filterMap_map]
  have e : ((fun v => match v with | .int k => some (pV (pmx (as.getD k.toNat (0, 0)) (bs.getD k.toNat (0, 0)))) | _ => none) ∘ fun (i : Nat) => Val.int (i : Int)) = fun (i : Nat) => some (pV (pmx (as.getD i (0, 0)) (bs.getD i (0, 0)))) := by
    funext i
    simp only [Function.comp_apply, Int.toNat_natCast]
  rw [e, List.filterMap_eq_map']
  apply List.ext_getElem?
  intro i
  simp only [List.getElem?_map]
  by_cases h : i < c
  · rw [List.getElem?_range' h, List.getElem?_eq_getElem (by simp; omega), List.getElem_zip]
    simp [ha, hb, h]
  · rw [List.getElem?_eq_none (by simp; omega), List.getElem?_eq_none (by simp; omega)]
    rfl
section
variable {ds : List Int} {c n : Nat} {L : Lc} {S : Sto} {R : Nat → List Int} {TT : Nat → List (Int × Int)} {D : ED} {x6 x7 x8 x9 x10 x11 x12 x13 x14 x15 x16 x17 x18 x19 : Option Val}
def ρ18 (L : Lc) (c : Nat) (x : List (Option Val)) : LE := [some (.loc 0), some (.int (c : Int)), some (.loc L.o), some (.loc L.f), some (.loc L.r), some (.loc L.t)] ++ x
/-- what is handed out -/
theorem hand_step {p : Nat} (h : W18 ds c L S R R (TTm TT) TT) (hb : LenOk c R TT 1000) (hp : p < c)
    (K : ∀ S' x14, W18 ds c L S' R R (TTm TT) TT → D.nx [some (.loc 0), some (.int (c : Int)), some (.loc L.o), some (.loc L.f), some (.loc L.r), some (.loc L.t), x6, some (.int (p : Int)), x8, x9, x10, x11, x12, x13, x14, x15, x16, x17, x18, x19] S') :
    wpSs (cenv (UP lp) (n + 3)) m1006_0_9 D [some (.loc 0), some (.int (c : Int)), some (.loc L.o), some (.loc L.f), some (.loc L.r), some (.loc L.t), x6, some (.int (p : Int)), x8, x9, x10, x11, x12, x13, x14, x15, x16, x17, x18, x19] S := by
  have hbp := hb p hp
  simp only [m1006_0_9, l1006_0_9, ↓nE1, ↓nE2, ↓nE3, ↓nE4, ↓nE5, ↓nE6, ↓nE7, ↓nE8, ↓nE9, ↓nE10, ↓nE11, ↓nE12, ↓nE13, ↓nE14, ↓nE15, ↓nE16, ↓nE17, ↓nE18, ↓nE19, ↓lcE, ↓nE21, ↓nE22, ↓nE23, ↓nE24, ↓nE25, ↓nE27, ↓nE28, ↓nE30, ↓nS1, ↓nS2, ↓nS3, ↓nS4, ↓nS5, ↓nS6, ↓nS7, ↓frE, ↓nS9, ↓nS10, ↓nS11, ↓nS12, ↓nS13, ↓nS14, ↓nS15, ↓nS16, ↓nS17, ↓nS18, ↓nS19, ↓nS20, ↓nSs1, ↓nSs2, ↓nEs1, ↓nEs2, ↓nB1, ↓nB2, ↓nB3, ↓nA1, ↓nA2, ↓nA3, ↓nT1, ↓reduceIte, bnm, btp, setAll, wipeL, endsOf, getz, gets, setz, sets, lenc, lenn, v_add, v_sub, v_mul, v_fdiv, v_mod, v_pow, v_adds, v_addt, v_mult, v_muls, v_addl, v_eq, v_ne, v_lt, v_le, v_gt, v_ge, v_is, v_nis, v_isb, v_nisb, v_les, v_in, v_nin, t_non, t_bl, t_int, t_str, t_tup, t_loc, b_lens, b_lent, b_lenl, b_int, b_intb, b_abs, b_min, b_max, b_str, b_strs, b_tupt, b_tupl, b_lstt, b_lstl, b_all, b_any, b_ord, r_append, r_extend, r_pop, r_pop1, r_reverse, r_get1, r_get2, r_setd, m_app, m_ext, m_pop, m_pop1, m_rev, m_get1, m_get2, f_get, f_set, f_mth, r_str, m_starts, m_split, m_rstrp, m_rmpre, m_isasc, m_isdig, f_mth h.en.obj (a := 20) rfl (mth_1_20 (l := lp))]
  refine c38 h.en hp fun S1 m s1 l1 e1 => ?_
  have hS1 := h.sub s1
  obtain ⟨xs, q, g1, g2, g3⟩ := hS1.rw.at_ hp
  have eq1 : ∀ {Q : Bool → Prop}, eqS S1 (.loc m) (.loc q) Q = Q true := fun {Q} => eqS_lst (k := 1) (xs := (R p).map Val.int) (fun x hx => by
    obtain ⟨i, _, rfl⟩ := List.mem_map.mp hx
    exact Pk.int) (by decide) (n_of e1) (n_of g3)
  simp only [↓nE1, ↓nE2, ↓nE3, ↓nE4, ↓nE5, ↓nE6, ↓nE7, ↓nE8, ↓nE9, ↓nE10, ↓nE11, ↓nE12, ↓nE13, ↓nE14, ↓nE15, ↓nE16, ↓nE17, ↓nE18, ↓nE19, ↓lcE, ↓nE21, ↓nE22, ↓nE23, ↓nE24, ↓nE25, ↓nE27, ↓nE28, ↓nE30, ↓nS1, ↓nS2, ↓nS3, ↓nS4, ↓nS5, ↓nS6, ↓nS7, ↓frE, ↓nS9, ↓nS10, ↓nS11, ↓nS12, ↓nS13, ↓nS14, ↓nS15, ↓nS16, ↓nS17, ↓nS18, ↓nS19, ↓nS20, ↓nSs1, ↓nSs2, ↓nEs1, ↓nEs2, ↓nB1, ↓nB2, ↓nB3, ↓nA1, ↓nA2, ↓nA3, ↓nT1, ↓reduceIte, bnm, btp, setAll, wipeL, endsOf, getz, gets, setz, sets, lenc, lenn, v_add, v_sub, v_mul, v_fdiv, v_mod, v_pow, v_adds, v_addt, v_mult, v_muls, v_addl, v_eq, v_ne, v_lt, v_le, v_gt, v_ge, v_is, v_nis, v_isb, v_nisb, v_les, v_in, v_nin, t_non, t_bl, t_int, t_str, t_tup, t_loc, b_lens, b_lent, b_lenl, b_int, b_intb, b_abs, b_min, b_max, b_str, b_strs, b_tupt, b_tupl, b_lstt, b_lstl, b_all, b_any, b_ord, r_append, r_extend, r_pop, r_pop1, r_reverse, r_get1, r_get2, r_setd, m_app, m_ext, m_pop, m_pop1, m_rev, m_get1, m_get2, f_get, f_set, f_mth, r_str, m_starts, m_split, m_rstrp, m_rmpre, m_isasc, m_isdig, m1006_0_10, l1006_0_10, reduceCtorEq, eqS_ii, eqS_ss, eqS_nn, Val.flat, Val.isNon, known, Option.isSome_some, true_and, tyB, tyS, istS, tyeq, ixN_0, ixN_1, ixN_2, n_of e1, Option.isSome_some, beq_self_eq_true, Bool.not_true, Bool.false_eq_true, ixS_l (n_of g1) g2, eq1, f_mth hS1.en.obj (a := 21) rfl (mth_1_21 (l := lp))]
  refine c36 hS1.en hp fun S2 s2 => ?_
  have hS2 := hS1.sub s2
  obtain ⟨xs2, q2, k1, k2, k3⟩ := hS2.rw.at_ hp
  have e2 := s2 _ _ e1
  have b1 : (R p).length < big := by unfold big; omega
  have el : (intsOf R p).length = (R p).length := by simp [intsOf]
  simp only [↓nE1, ↓nE2, ↓nE3, ↓nE4, ↓nE5, ↓nE6, ↓nE7, ↓nE8, ↓nE9, ↓nE10, ↓nE11, ↓nE12, ↓nE13, ↓nE14, ↓nE15, ↓nE16, ↓nE17, ↓nE18, ↓nE19, ↓lcE, ↓nE21, ↓nE22, ↓nE23, ↓nE24, ↓nE25, ↓nE27, ↓nE28, ↓nE30, ↓nS1, ↓nS2, ↓nS3, ↓nS4, ↓nS5, ↓nS6, ↓nS7, ↓frE, ↓nS9, ↓nS10, ↓nS11, ↓nS12, ↓nS13, ↓nS14, ↓nS15, ↓nS16, ↓nS17, ↓nS18, ↓nS19, ↓nS20, ↓nSs1, ↓nSs2, ↓nEs1, ↓nEs2, ↓nB1, ↓nB2, ↓nB3, ↓nA1, ↓nA2, ↓nA3, ↓nT1, ↓reduceIte, bnm, btp, setAll, wipeL, endsOf, getz, gets, setz, sets, lenc, lenn, v_add, v_sub, v_mul, v_fdiv, v_mod, v_pow, v_adds, v_addt, v_mult, v_muls, v_addl, v_eq, v_ne, v_lt, v_le, v_gt, v_ge, v_is, v_nis, v_isb, v_nisb, v_les, v_in, v_nin, t_non, t_bl, t_int, t_str, t_tup, t_loc, b_lens, b_lent, b_lenl, b_int, b_intb, b_abs, b_min, b_max, b_str, b_strs, b_tupt, b_tupl, b_lstt, b_lstl, b_all, b_any, b_ord, r_append, r_extend, r_pop, r_pop1, r_reverse, r_get1, r_get2, r_setd, m_app, m_ext, m_pop, m_pop1, m_rev, m_get1, m_get2, f_get, f_set, f_mth, r_str, m_starts, m_split, m_rstrp, m_rmpre, m_isasc, m_isdig, reduceCtorEq, eqS_ii, eqS_ss, eqS_nn, Val.flat, Val.isNon, known, Option.isSome_some, true_and, tyB, tyS, istS, tyeq, ixN_0, ixN_1, ixN_2, ixS_l (n_of k1) k2, b_lenl (n_of k3), el, decide_true, Bool.not_true, Bool.false_eq_true, m1006_0_11, l1006_0_11, t_loc (n_of e2), b_lenl (n_of e2), b_tupl (n_of e2), b_lstl (n_of e2), r_append (n_of e2), r_extend (n_of e2), r_pop (n_of e2), r_pop1 (n_of e2), r_reverse (n_of e2), m_app (m_of e2), m_rev (m_of e2), List.length_map, b1]
  exact K _ _ (h.sub ((s1.trans s2).setN l1))
/-- the three clocks, the greater pairs -/
theorem mid_step {p : Nat} {rest : Int} (h : W18 ds c L S R R (TTm TT) TT) (hb : LenOk c R TT 1000) (hp : p < c)
    (K : ∀ S' x10 x11 x12 x13 x14 x15 x17, W18 ds c L S' R R (TTm TT) TT → D.nx [some (.loc 0), some (.int (c : Int)), some (.loc L.o), some (.loc L.f), some (.loc L.r), some (.loc L.t), x6, some (.int (p : Int)), x8, some (.int rest), x10, x11, x12, x13, x14, x15, x16, x17, x18, x19] S') :
    wpSs (cenv (UP lp) (n + 3)) m1006_0_4 D [some (.loc 0), some (.int (c : Int)), some (.loc L.o), some (.loc L.f), some (.loc L.r), some (.loc L.t), x6, some (.int (p : Int)), x8, some (.int rest), x10, x11, x12, x13, x14, x15, x16, x17, x18, x19] S := by
  have hc1 := h.c1
  have hc2 := h.c2
  have q3 : (0 : Int) < 3 ∧ (3 : Int) < 2 ^ 80 := by decide
  have q1000 : (0 : Int) < 1000 ∧ (1000 : Int) < 2 ^ 80 := by decide
  simp only [m1006_0_4, l1006_0_4, ↓nE1, ↓nE2, ↓nE3, ↓nE4, ↓nE5, ↓nE6, ↓nE7, ↓nE8, ↓nE9, ↓nE10, ↓nE11, ↓nE12, ↓nE13, ↓nE14, ↓nE15, ↓nE16, ↓nE17, ↓nE18, ↓nE19, ↓lcE, ↓nE21, ↓nE22, ↓nE23, ↓nE24, ↓nE25, ↓nE27, ↓nE28, ↓nE30, ↓nS1, ↓nS2, ↓nS3, ↓nS4, ↓nS5, ↓nS6, ↓nS7, ↓frE, ↓nS9, ↓nS10, ↓nS11, ↓nS12, ↓nS13, ↓nS14, ↓nS15, ↓nS16, ↓nS17, ↓nS18, ↓nS19, ↓nS20, ↓nSs1, ↓nSs2, ↓nEs1, ↓nEs2, ↓nB1, ↓nB2, ↓nB3, ↓nA1, ↓nA2, ↓nA3, ↓nT1, ↓reduceIte, bnm, btp, setAll, wipeL, endsOf, getz, gets, setz, sets, lenc, lenn, v_add, v_sub, v_mul, v_fdiv, v_mod, v_pow, v_adds, v_addt, v_mult, v_muls, v_addl, v_eq, v_ne, v_lt, v_le, v_gt, v_ge, v_is, v_nis, v_isb, v_nisb, v_les, v_in, v_nin, t_non, t_bl, t_int, t_str, t_tup, t_loc, b_lens, b_lent, b_lenl, b_int, b_intb, b_abs, b_min, b_max, b_str, b_strs, b_tupt, b_tupl, b_lstt, b_lstl, b_all, b_any, b_ord, r_append, r_extend, r_pop, r_pop1, r_reverse, r_get1, r_get2, r_setd, m_app, m_ext, m_pop, m_pop1, m_rev, m_get1, m_get2, f_get, f_set, f_mth, r_str, m_starts, m_split, m_rstrp, m_rmpre, m_isasc, m_isdig, q3, true_and, and_self]
  refine c1001 (by omega) fun S1 as s1 ha => ?_
  simp only [↓nE1, ↓nE2, ↓nE3, ↓nE4, ↓nE5, ↓nE6, ↓nE7, ↓nE8, ↓nE9, ↓nE10, ↓nE11, ↓nE12, ↓nE13, ↓nE14, ↓nE15, ↓nE16, ↓nE17, ↓nE18, ↓nE19, ↓lcE, ↓nE21, ↓nE22, ↓nE23, ↓nE24, ↓nE25, ↓nE27, ↓nE28, ↓nE30, ↓nS1, ↓nS2, ↓nS3, ↓nS4, ↓nS5, ↓nS6, ↓nS7, ↓frE, ↓nS9, ↓nS10, ↓nS11, ↓nS12, ↓nS13, ↓nS14, ↓nS15, ↓nS16, ↓nS17, ↓nS18, ↓nS19, ↓nS20, ↓nSs1, ↓nSs2, ↓nEs1, ↓nEs2, ↓nB1, ↓nB2, ↓nB3, ↓nA1, ↓nA2, ↓nA3, ↓nT1, ↓reduceIte, bnm, btp, setAll, wipeL, endsOf, getz, gets, setz, sets, lenc, lenn, v_add, v_sub, v_mul, v_fdiv, v_mod, v_pow, v_adds, v_addt, v_mult, v_muls, v_addl, v_eq, v_ne, v_lt, v_le, v_gt, v_ge, v_is, v_nis, v_isb, v_nisb, v_les, v_in, v_nin, t_non, t_bl, t_int, t_str, t_tup, t_loc, b_lens, b_lent, b_lenl, b_int, b_intb, b_abs, b_min, b_max, b_str, b_strs, b_tupt, b_tupl, b_lstt, b_lstl, b_all, b_any, b_ord, r_append, r_extend, r_pop, r_pop1, r_reverse, r_get1, r_get2, r_setd, m_app, m_ext, m_pop, m_pop1, m_rev, m_get1, m_get2, f_get, f_set, f_mth, r_str, m_starts, m_split, m_rstrp, m_rmpre, m_isasc, m_isdig, m1006_0_5, l1006_0_5, q1000, true_and, and_self]
  refine c1001 (by omega) fun S2 bs s2 hb2 => ?_
  simp only [↓nE1, ↓nE2, ↓nE3, ↓nE4, ↓nE5, ↓nE6, ↓nE7, ↓nE8, ↓nE9, ↓nE10, ↓nE11, ↓nE12, ↓nE13, ↓nE14, ↓nE15, ↓nE16, ↓nE17, ↓nE18, ↓nE19, ↓lcE, ↓nE21, ↓nE22, ↓nE23, ↓nE24, ↓nE25, ↓nE27, ↓nE28, ↓nE30, ↓nS1, ↓nS2, ↓nS3, ↓nS4, ↓nS5, ↓nS6, ↓nS7, ↓frE, ↓nS9, ↓nS10, ↓nS11, ↓nS12, ↓nS13, ↓nS14, ↓nS15, ↓nS16, ↓nS17, ↓nS18, ↓nS19, ↓nS20, ↓nSs1, ↓nSs2, ↓nEs1, ↓nEs2, ↓nB1, ↓nB2, ↓nB3, ↓nA1, ↓nA2, ↓nA3, ↓nT1, ↓reduceIte, bnm, btp, setAll, wipeL, endsOf, getz, gets, setz, sets, lenc, lenn, v_add, v_sub, v_mul, v_fdiv, v_mod, v_pow, v_adds, v_addt, v_mult, v_muls, v_addl, v_eq, v_ne, v_lt, v_le, v_gt, v_ge, v_is, v_nis, v_isb, v_nisb, v_les, v_in, v_nin, t_non, t_bl, t_int, t_str, t_tup, t_loc, b_lens, b_lent, b_lenl, b_int, b_intb, b_abs, b_min, b_max, b_str, b_strs, b_tupt, b_tupl, b_lstt, b_lstl, b_all, b_any, b_ord, r_append, r_extend, r_pop, r_pop1, r_reverse, r_get1, r_get2, r_setd, m_app, m_ext, m_pop, m_pop1, m_rev, m_get1, m_get2, f_get, f_set, f_mth, r_str, m_starts, m_split, m_rstrp, m_rmpre, m_isasc, m_isdig, m1006_0_6, l1006_0_6]
  refine c47 (by rw [ha.1]; omega) fun S3 s3 => ?_
  simp only [↓nE1, ↓nE2, ↓nE3, ↓nE4, ↓nE5, ↓nE6, ↓nE7, ↓nE8, ↓nE9, ↓nE10, ↓nE11, ↓nE12, ↓nE13, ↓nE14, ↓nE15, ↓nE16, ↓nE17, ↓nE18, ↓nE19, ↓lcE, ↓nE21, ↓nE22, ↓nE23, ↓nE24, ↓nE25, ↓nE27, ↓nE28, ↓nE30, ↓nS1, ↓nS2, ↓nS3, ↓nS4, ↓nS5, ↓nS6, ↓nS7, ↓frE, ↓nS9, ↓nS10, ↓nS11, ↓nS12, ↓nS13, ↓nS14, ↓nS15, ↓nS16, ↓nS17, ↓nS18, ↓nS19, ↓nS20, ↓nSs1, ↓nSs2, ↓nEs1, ↓nEs2, ↓nB1, ↓nB2, ↓nB3, ↓nA1, ↓nA2, ↓nA3, ↓nT1, ↓reduceIte, bnm, btp, setAll, wipeL, endsOf, getz, gets, setz, sets, lenc, lenn, v_add, v_sub, v_mul, v_fdiv, v_mod, v_pow, v_adds, v_addt, v_mult, v_muls, v_addl, v_eq, v_ne, v_lt, v_le, v_gt, v_ge, v_is, v_nis, v_isb, v_nisb, v_les, v_in, v_nin, t_non, t_bl, t_int, t_str, t_tup, t_loc, b_lens, b_lent, b_lenl, b_int, b_intb, b_abs, b_min, b_max, b_str, b_strs, b_tupt, b_tupl, b_lstt, b_lstl, b_all, b_any, b_ord, r_append, r_extend, r_pop, r_pop1, r_reverse, r_get1, r_get2, r_setd, m_app, m_ext, m_pop, m_pop1, m_rev, m_get1, m_get2, f_get, f_set, f_mth, r_str, m_starts, m_split, m_rstrp, m_rmpre, m_isasc, m_isdig, m1006_0_7, l1006_0_7, reduceCtorEq, eqS_ii, eqS_ss, eqS_nn, Val.flat, Val.isNon, known, Option.isSome_some, true_and, tyB, tyS, istS, tyeq, ixN_0, ixN_1, ixN_2, beq_self_eq_true, Bool.not_true, Bool.false_eq_true]
  refine ⟨_, _, it_range (by omega), ?_⟩
  refine lc_sub (fun v => match v with | .int k => some (pV (pmx (as.getD k.toNat (0, 0)) (bs.getD k.toNat (0, 0)))) | _ => none) trivial (by simp [big]; omega) (fun x hx S2 K2 s2 k2 => ?_) fun S4 s4 h4 => ?_
  · obtain ⟨i, hi, rfl⟩ := List.mem_map.mp hx
    have hi2 : i < c := by simpa using hi
    simp only [Int.toNat_natCast] at k2
    have bm : ∀ {a b : Int × Int} {S : Sto} {Q : VQ}, biS .max2 [pV a, pV b] S Q = Q (pV (pmx a b)) S := fun {a b S Q} => b_maxp
    simp only [↓nE1, ↓nE2, ↓nE3, ↓nE4, ↓nE5, ↓nE6, ↓nE7, ↓nE8, ↓nE9, ↓nE10, ↓nE11, ↓nE12, ↓nE13, ↓nE14, ↓nE15, ↓nE16, ↓nE17, ↓nE18, ↓nE19, ↓lcE, ↓nE21, ↓nE22, ↓nE23, ↓nE24, ↓nE25, ↓nE27, ↓nE28, ↓nE30, ↓nS1, ↓nS2, ↓nS3, ↓nS4, ↓nS5, ↓nS6, ↓nS7, ↓frE, ↓nS9, ↓nS10, ↓nS11, ↓nS12, ↓nS13, ↓nS14, ↓nS15, ↓nS16, ↓nS17, ↓nS18, ↓nS19, ↓nS20, ↓nSs1, ↓nSs2, ↓nEs1, ↓nEs2, ↓nB1, ↓nB2, ↓nB3, ↓nA1, ↓nA2, ↓nA3, ↓nT1, ↓reduceIte, bnm, btp, setAll, wipeL, endsOf, getz, gets, setz, sets, lenc, lenn, v_add, v_sub, v_mul, v_fdiv, v_mod, v_pow, v_adds, v_addt, v_mult, v_muls, v_addl, v_eq, v_ne, v_lt, v_le, v_gt, v_ge, v_is, v_nis, v_isb, v_nisb, v_les, v_in, v_nin, t_non, t_bl, t_int, t_str, t_tup, t_loc, b_lens, b_lent, b_lenl, b_int, b_intb, b_abs, b_min, b_max, b_str, b_strs, b_tupt, b_tupl, b_lstt, b_lstl, b_all, b_any, b_ord, r_append, r_extend, r_pop, r_pop1, r_reverse, r_get1, r_get2, r_setd, m_app, m_ext, m_pop, m_pop1, m_rev, m_get1, m_get2, f_get, f_set, f_mth, r_str, m_starts, m_split, m_rstrp, m_rmpre, m_isasc, m_isdig, wipeL, ixS_t (atV_cs (cs := as) (i := i) (by rw [ha.1]; exact hi2)), ixS_t (atV_cs (cs := bs) (i := i) (by rw [hb2.1]; exact hi2)), bm]
    exact k2 S2 Sub.refl
  rw [mx_map ha.1 hb2.1] at h4
  have ps : ∃ ps : List (Int × Int), ((as.zip bs).map fun p => pV (pmx p.1 p.2)) = ps.map pV := ⟨(as.zip bs).map fun p => pmx p.1 p.2, by simp [List.map_map]⟩
  obtain ⟨ps, hps⟩ := ps
  rw [hps] at h4 ⊢
  have eq1 : ∀ {S : Sto} {Q : Bool → Prop}, eqS S (.tup (ps.map pV)) (.tup (ps.map pV)) Q = Q true := fun {S Q} => Pk.prs.eqS (by decide)
  simp only [↓nE1, ↓nE2, ↓nE3, ↓nE4, ↓nE5, ↓nE6, ↓nE7, ↓nE8, ↓nE9, ↓nE10, ↓nE11, ↓nE12, ↓nE13, ↓nE14, ↓nE15, ↓nE16, ↓nE17, ↓nE18, ↓nE19, ↓lcE, ↓nE21, ↓nE22, ↓nE23, ↓nE24, ↓nE25, ↓nE27, ↓nE28, ↓nE30, ↓nS1, ↓nS2, ↓nS3, ↓nS4, ↓nS5, ↓nS6, ↓nS7, ↓frE, ↓nS9, ↓nS10, ↓nS11, ↓nS12, ↓nS13, ↓nS14, ↓nS15, ↓nS16, ↓nS17, ↓nS18, ↓nS19, ↓nS20, ↓nSs1, ↓nSs2, ↓nEs1, ↓nEs2, ↓nB1, ↓nB2, ↓nB3, ↓nA1, ↓nA2, ↓nA3, ↓nT1, ↓reduceIte, bnm, btp, setAll, wipeL, endsOf, getz, gets, setz, sets, lenc, lenn, v_add, v_sub, v_mul, v_fdiv, v_mod, v_pow, v_adds, v_addt, v_mult, v_muls, v_addl, v_eq, v_ne, v_lt, v_le, v_gt, v_ge, v_is, v_nis, v_isb, v_nisb, v_les, v_in, v_nin, t_non, t_bl, t_int, t_str, t_tup, t_loc, b_lens, b_lent, b_lenl, b_int, b_intb, b_abs, b_min, b_max, b_str, b_strs, b_tupt, b_tupl, b_lstt, b_lstl, b_all, b_any, b_ord, r_append, r_extend, r_pop, r_pop1, r_reverse, r_get1, r_get2, r_setd, m_app, m_ext, m_pop, m_pop1, m_rev, m_get1, m_get2, f_get, f_set, f_mth, r_str, m_starts, m_split, m_rstrp, m_rmpre, m_isasc, m_isdig, b_tupl (n_of h4), eq1, Bool.not_true, Bool.false_eq_true]
  have hS4 := h.sub (s1.trans (s2.trans (s3.trans s4)))
  simp only [m1006_0_8, l1006_0_8, ↓nE1, ↓nE2, ↓nE3, ↓nE4, ↓nE5, ↓nE6, ↓nE7, ↓nE8, ↓nE9, ↓nE10, ↓nE11, ↓nE12, ↓nE13, ↓nE14, ↓nE15, ↓nE16, ↓nE17, ↓nE18, ↓nE19, ↓lcE, ↓nE21, ↓nE22, ↓nE23, ↓nE24, ↓nE25, ↓nE27, ↓nE28, ↓nE30, ↓nS1, ↓nS2, ↓nS3, ↓nS4, ↓nS5, ↓nS6, ↓nS7, ↓frE, ↓nS9, ↓nS10, ↓nS11, ↓nS12, ↓nS13, ↓nS14, ↓nS15, ↓nS16, ↓nS17, ↓nS18, ↓nS19, ↓nS20, ↓nSs1, ↓nSs2, ↓nEs1, ↓nEs2, ↓nB1, ↓nB2, ↓nB3, ↓nA1, ↓nA2, ↓nA3, ↓nT1, ↓reduceIte, bnm, btp, setAll, wipeL, endsOf, getz, gets, setz, sets, lenc, lenn, v_add, v_sub, v_mul, v_fdiv, v_mod, v_pow, v_adds, v_addt, v_mult, v_muls, v_addl, v_eq, v_ne, v_lt, v_le, v_gt, v_ge, v_is, v_nis, v_isb, v_nisb, v_les, v_in, v_nin, t_non, t_bl, t_int, t_str, t_tup, t_loc, b_lens, b_lent, b_lenl, b_int, b_intb, b_abs, b_min, b_max, b_str, b_strs, b_tupt, b_tupl, b_lstt, b_lstl, b_all, b_any, b_ord, r_append, r_extend, r_pop, r_pop1, r_reverse, r_get1, r_get2, r_setd, m_app, m_ext, m_pop, m_pop1, m_rev, m_get1, m_get2, f_get, f_set, f_mth, r_str, m_starts, m_split, m_rstrp, m_rmpre, m_isasc, m_isdig]
  refine c14 hc1 (by omega) ?_
  have vz : VC c (List.replicate c ((0 : Int), (0 : Int))) := ⟨by simp, fun p hp => by rw [(List.mem_replicate.mp hp).2]; decide⟩
  try simp only [↓nE1, ↓nE2, ↓nE3, ↓nE4, ↓nE5, ↓nE6, ↓nE7, ↓nE8, ↓nE9, ↓nE10, ↓nE11, ↓nE12, ↓nE13, ↓nE14, ↓nE15, ↓nE16, ↓nE17, ↓nE18, ↓nE19, ↓lcE, ↓nE21, ↓nE22, ↓nE23, ↓nE24, ↓nE25, ↓nE27, ↓nE28, ↓nE30, ↓nS1, ↓nS2, ↓nS3, ↓nS4, ↓nS5, ↓nS6, ↓nS7, ↓frE, ↓nS9, ↓nS10, ↓nS11, ↓nS12, ↓nS13, ↓nS14, ↓nS15, ↓nS16, ↓nS17, ↓nS18, ↓nS19, ↓nS20, ↓nSs1, ↓nSs2, ↓nEs1, ↓nEs2, ↓nB1, ↓nB2, ↓nB3, ↓nA1, ↓nA2, ↓nA3, ↓nT1, ↓reduceIte, bnm, btp, setAll, wipeL, endsOf, getz, gets, setz, sets, lenc, lenn, v_add, v_sub, v_mul, v_fdiv, v_mod, v_pow, v_adds, v_addt, v_mult, v_muls, v_addl, v_eq, v_ne, v_lt, v_le, v_gt, v_ge, v_is, v_nis, v_isb, v_nisb, v_les, v_in, v_nin, t_non, t_bl, t_int, t_str, t_tup, t_loc, b_lens, b_lent, b_lenl, b_int, b_intb, b_abs, b_min, b_max, b_str, b_strs, b_tupt, b_tupl, b_lstt, b_lstl, b_all, b_any, b_ord, r_append, r_extend, r_pop, r_pop1, r_reverse, r_get1, r_get2, r_setd, m_app, m_ext, m_pop, m_pop1, m_rev, m_get1, m_get2, f_get, f_set, f_mth, r_str, m_starts, m_split, m_rstrp, m_rmpre, m_isasc, m_isdig]
  have x1 : ∀ {ys : List Val}, (S4 ++ [SObj.lst ys])[S4.length]? = some (.lst ys) := fun {ys} => get_new
  refine ⟨_, _, it_seq (n_of x1), ?_⟩
  refine for_inv (fun i ρ' S' => (∃ x13 x17, ρ' = [some (.loc 0), some (.int (c : Int)), some (.loc L.o), some (.loc L.f), some (.loc L.r), some (.loc L.t), x6, some (.int (p : Int)), x8, some (.int rest), some (.tup (as.map pV)), some (.tup (bs.map pV)), some (.tup (ps.map pV)), x13, x14, x15, x16, x17, x18, x19]) ∧ Sub (S4 ++ [SObj.lst [.tup (as.map pV), .tup (bs.map pV), .tup ((List.replicate c ((0 : Int), (0 : Int))).map pV)]]) S') ⟨⟨_, _, rfl⟩, Sub.refl⟩ ?_ ?_
  · rintro i z ρ' S' K2 hz ⟨⟨y13, y17, hρ'⟩, s'⟩ hK
    refine ⟨⟨n_of (s' _ _ x1), trivial⟩, ?_⟩
    have hz2 : ∃ cs, z = .tup (cs.map pV) ∧ VC c cs := by
      have := List.mem_of_getElem? hz
      simp only [List.mem_cons, List.not_mem_nil, or_false] at this
      rcases this with rfl | rfl | rfl
      · exact ⟨as, rfl, ha⟩
      · exact ⟨bs, rfl, hb2⟩
      · exact ⟨_, rfl, vz⟩
    obtain ⟨cs, rfl, hcs⟩ := hz2
    rw [bnm]
    exact ck_step (by rw [hρ']; rfl) (hS4.sub (Sub.app.trans s')) hb hcs fun S5 x17 s5 => hK _ _ ⟨⟨_, _, rfl⟩, s'.trans s5⟩
  · rintro ρ' S' ⟨⟨y13, y17, rfl⟩, s'⟩
    refine ⟨⟨n_of (s' _ _ x1), trivial⟩, ?_⟩
    refine hand_step (hS4.sub (Sub.app.trans s')) hb hp fun S6 x14 h6 => ?_
    exact K S6 _ _ _ _ _ _ _ h6
end
end My

namespace My
open PySem PM
theorem c47' : True := trivial
section
variable {ds : List Int} {c n : Nat} {L : Lc} {S : Sto} {R : Nat → List Int} {TT : Nat → List (Int × Int)} {D : ED} {x7 x8 x9 x10 x11 x12 x13 x14 x15 x16 x17 x18 x19 : Option Val}
theorem turn {ρ : LE} {d : Int} {k : Nat} (hρ : ρ = [some (.loc 0), some (.int (c : Int)), some (.loc L.o), some (.loc L.f), some (.loc L.r), some (.loc L.t), some (.int d), x7, x8, x9, x10, x11, x12, x13, x14, x15, x16, x17, x18, x19])
    (h : W18 ds c L S R R (TTm TT) TT) (hb : LenOk c R TT k) (hk : k ≤ 900)
    (K : ∀ S' R' TT' x7 x8 x9 x10 x11 x12 x13 x14 x15 x16 x17 x18 x19, W18 ds c L S' R' R' (TTm TT') TT' → LenOk c R' TT' (k + 1) → D.nx [some (.loc 0), some (.int (c : Int)), some (.loc L.o), some (.loc L.f), some (.loc L.r), some (.loc L.t), some (.int d), x7, x8, x9, x10, x11, x12, x13, x14, x15, x16, x17, x18, x19] S') :
    wpSs (cenv (UP lp) (n + 3)) l1006_0 D ρ S := by
  subst hρ
  have hc1 := h.c1
  have hc2 := h.c2
  have q4 : (0 : Int) < 4 ∧ (4 : Int) < 2 ^ 80 := by decide
  have q16 : (0 : Int) < 16 ∧ (16 : Int) < 2 ^ 80 := by decide
  have qc : (0 : Int) < (c : Int) := by omega
  have hp0 := Int.emod_nonneg d (b := (c : Int)) (by omega)
  have hp1 := Int.emod_lt_of_pos d qc
  obtain ⟨p, hp⟩ : ∃ p : Nat, d % (c : Int) = p := ⟨(d % (c : Int)).toNat, by omega⟩
  have hpc : p < c := by omega
  simp only [l1006_0, l1006_0_0, m1006_0_1, l1006_0_1, m1006_0_2, l1006_0_2, m1006_0_3, l1006_0_3, ↓nE1, ↓nE2, ↓nE3, ↓nE4, ↓nE5, ↓nE6, ↓nE7, ↓nE8, ↓nE9, ↓nE10, ↓nE11, ↓nE12, ↓nE13, ↓nE14, ↓nE15, ↓nE16, ↓nE17, ↓nE18, ↓nE19, ↓nE21, ↓nE22, ↓nE23, ↓nE24, ↓nE25, ↓nE27, ↓nE28, ↓nE30, ↓nS1, ↓nS2, ↓nS3, ↓nS4, ↓nS5, ↓nS6, ↓nS7, ↓nS8, ↓nS9, ↓nS10, ↓nS11, ↓nS12, ↓nS13, ↓nS14, ↓nS15, ↓nS16, ↓nS17, ↓nS18, ↓nS19, ↓nS20, ↓nSs1, ↓nSs2, ↓nEs1, ↓nEs2, ↓nB1, ↓nB2, ↓nB3, ↓nA1, ↓nA2, ↓nA3, ↓nT1, ↓reduceIte, bnm, btp, setAll, wipeL, endsOf, getz, gets, setz, sets, lenc, lenn, v_add, v_sub, v_mul, v_fdiv, v_mod, v_pow, v_adds, v_addt, v_mult, v_muls, v_addl, v_eq, v_ne, v_lt, v_le, v_gt, v_ge, v_is, v_nis, v_isb, v_nisb, v_les, v_in, v_nin, t_non, t_bl, t_int, t_str, t_tup, t_loc, b_lens, b_lent, b_lenl, b_int, b_intb, b_abs, b_min, b_max, b_str, b_strs, b_tupt, b_tupl, b_lstt, b_lstl, b_all, b_any, b_ord, r_append, r_extend, r_pop, r_pop1, r_reverse, r_get1, r_get2, r_setd, m_app, m_ext, m_pop, m_pop1, m_rev, m_get1, m_get2, f_get, f_set, f_mth, r_str, m_starts, m_split, m_rstrp, m_rmpre, m_isasc, m_isdig, reduceCtorEq, eqS_ii, eqS_ss, eqS_nn, Val.flat, Val.isNon, known, Option.isSome_some, true_and, tyB, tyS, istS, tyeq, ixN_0, ixN_1, ixN_2, q4, q16, qc, hp, true_and, and_self]
  generalize d / 16 = rest
  generalize d / 4 % 4 = kd
  have fin : ∀ {R' : Nat → List Int} {TT' : Nat → List (Int × Int)} {S' : Sto} {x10 x11 x12 x13 x14 x15 x16 x17 x18 x19 : Option Val}, W18 ds c L S' R' R' (TTm TT') TT' → LenOk c R' TT' (k + 1) → wpSs (cenv (UP lp) (n + 3)) m1006_0_4 D [some (.loc 0), some (.int (c : Int)), some (.loc L.o), some (.loc L.f), some (.loc L.r), some (.loc L.t), some (.int d), some (.int (p : Int)), some (.int kd), some (.int rest), x10, x11, x12, x13, x14, x15, x16, x17, x18, x19] S' := fun {R' TT' S' x10 x11 x12 x13 x14 x15 x16 x17 x18 x19} h' hb' =>
    mid_step h' (fun i hi => by have := hb' i hi; omega) hpc fun S2 y10 y11 y12 y13 y14 y15 y17 h2 => K S2 R' TT' _ _ _ _ _ _ _ _ _ _ _ _ _ h2 hb'
  by_cases h0 : kd = 0
  · simp only [h0, decide_true, ↓nE1, ↓nE2, ↓nE3, ↓nE4, ↓nE5, ↓nE6, ↓nE7, ↓nE8, ↓nE9, ↓nE10, ↓nE11, ↓nE12, ↓nE13, ↓nE14, ↓nE15, ↓nE16, ↓nE17, ↓nE18, ↓nE19, ↓nE21, ↓nE22, ↓nE23, ↓nE24, ↓nE25, ↓nE27, ↓nE28, ↓nE30, ↓nS1, ↓nS2, ↓nS3, ↓nS4, ↓nS5, ↓nS6, ↓nS7, ↓nS8, ↓nS9, ↓nS10, ↓nS11, ↓nS12, ↓nS13, ↓nS14, ↓nS15, ↓nS16, ↓nS17, ↓nS18, ↓nS19, ↓nS20, ↓nSs1, ↓nSs2, ↓nEs1, ↓nEs2, ↓nB1, ↓nB2, ↓nB3, ↓nA1, ↓nA2, ↓nA3, ↓nT1, ↓reduceIte, bnm, btp, setAll, wipeL, endsOf, getz, gets, setz, sets, lenc, lenn, v_add, v_sub, v_mul, v_fdiv, v_mod, v_pow, v_adds, v_addt, v_mult, v_muls, v_addl, v_eq, v_ne, v_lt, v_le, v_gt, v_ge, v_is, v_nis, v_isb, v_nisb, v_les, v_in, v_nin, t_non, t_bl, t_int, t_str, t_tup, t_loc, b_lens, b_lent, b_lenl, b_int, b_intb, b_abs, b_min, b_max, b_str, b_strs, b_tupt, b_tupl, b_lstt, b_lstl, b_all, b_any, b_ord, r_append, r_extend, r_pop, r_pop1, r_reverse, r_get1, r_get2, r_setd, m_app, m_ext, m_pop, m_pop1, m_rev, m_get1, m_get2, f_get, f_set, f_mth, r_str, m_starts, m_split, m_rstrp, m_rmpre, m_isasc, m_isdig]
    refine add_step h hb hk hpc fun S' R' y16 h' hb' => ?_
    rw [h0] at fin
    exact fin h' hb'
  · simp only [h0, decide_false, Bool.false_eq_true, ↓nE1, ↓nE2, ↓nE3, ↓nE4, ↓nE5, ↓nE6, ↓nE7, ↓nE8, ↓nE9, ↓nE10, ↓nE11, ↓nE12, ↓nE13, ↓nE14, ↓nE15, ↓nE16, ↓nE17, ↓nE18, ↓nE19, ↓nE21, ↓nE22, ↓nE23, ↓nE24, ↓nE25, ↓nE27, ↓nE28, ↓nE30, ↓nS1, ↓nS2, ↓nS3, ↓nS4, ↓nS5, ↓nS6, ↓nS7, ↓nS8, ↓nS9, ↓nS10, ↓nS11, ↓nS12, ↓nS13, ↓nS14, ↓nS15, ↓nS16, ↓nS17, ↓nS18, ↓nS19, ↓nS20, ↓nSs1, ↓nSs2, ↓nEs1, ↓nEs2, ↓nB1, ↓nB2, ↓nB3, ↓nA1, ↓nA2, ↓nA3, ↓nT1, ↓reduceIte, bnm, btp, setAll, wipeL, endsOf, getz, gets, setz, sets, lenc, lenn, v_add, v_sub, v_mul, v_fdiv, v_mod, v_pow, v_adds, v_addt, v_mult, v_muls, v_addl, v_eq, v_ne, v_lt, v_le, v_gt, v_ge, v_is, v_nis, v_isb, v_nisb, v_les, v_in, v_nin, t_non, t_bl, t_int, t_str, t_tup, t_loc, b_lens, b_lent, b_lenl, b_int, b_intb, b_abs, b_min, b_max, b_str, b_strs, b_tupt, b_tupl, b_lstt, b_lstl, b_all, b_any, b_ord, r_append, r_extend, r_pop, r_pop1, r_reverse, r_get1, r_get2, r_setd, m_app, m_ext, m_pop, m_pop1, m_rev, m_get1, m_get2, f_get, f_set, f_mth, r_str, m_starts, m_split, m_rstrp, m_rmpre, m_isasc, m_isdig, reduceCtorEq, eqS_ii, eqS_ss, eqS_nn, Val.flat, Val.isNon, known, Option.isSome_some, true_and, tyB, tyS, istS, tyeq, ixN_0, ixN_1, ixN_2]
    by_cases h1 : kd = 1
    · simp only [h1, decide_true, ↓nE1, ↓nE2, ↓nE3, ↓nE4, ↓nE5, ↓nE6, ↓nE7, ↓nE8, ↓nE9, ↓nE10, ↓nE11, ↓nE12, ↓nE13, ↓nE14, ↓nE15, ↓nE16, ↓nE17, ↓nE18, ↓nE19, ↓nE21, ↓nE22, ↓nE23, ↓nE24, ↓nE25, ↓nE27, ↓nE28, ↓nE30, ↓nS1, ↓nS2, ↓nS3, ↓nS4, ↓nS5, ↓nS6, ↓nS7, ↓nS8, ↓nS9, ↓nS10, ↓nS11, ↓nS12, ↓nS13, ↓nS14, ↓nS15, ↓nS16, ↓nS17, ↓nS18, ↓nS19, ↓nS20, ↓nSs1, ↓nSs2, ↓nEs1, ↓nEs2, ↓nB1, ↓nB2, ↓nB3, ↓nA1, ↓nA2, ↓nA3, ↓nT1, ↓reduceIte, bnm, btp, setAll, wipeL, endsOf, getz, gets, setz, sets, lenc, lenn, v_add, v_sub, v_mul, v_fdiv, v_mod, v_pow, v_adds, v_addt, v_mult, v_muls, v_addl, v_eq, v_ne, v_lt, v_le, v_gt, v_ge, v_is, v_nis, v_isb, v_nisb, v_les, v_in, v_nin, t_non, t_bl, t_int, t_str, t_tup, t_loc, b_lens, b_lent, b_lenl, b_int, b_intb, b_abs, b_min, b_max, b_str, b_strs, b_tupt, b_tupl, b_lstt, b_lstl, b_all, b_any, b_ord, r_append, r_extend, r_pop, r_pop1, r_reverse, r_get1, r_get2, r_setd, m_app, m_ext, m_pop, m_pop1, m_rev, m_get1, m_get2, f_get, f_set, f_mth, r_str, m_starts, m_split, m_rstrp, m_rmpre, m_isasc, m_isdig]
      refine told_step h hb hk hpc fun S' TT' y18 h' hb' => ?_
      rw [h1] at fin
      exact fin h' hb'
    · simp only [h1, decide_false, Bool.false_eq_true, ↓nE1, ↓nE2, ↓nE3, ↓nE4, ↓nE5, ↓nE6, ↓nE7, ↓nE8, ↓nE9, ↓nE10, ↓nE11, ↓nE12, ↓nE13, ↓nE14, ↓nE15, ↓nE16, ↓nE17, ↓nE18, ↓nE19, ↓nE21, ↓nE22, ↓nE23, ↓nE24, ↓nE25, ↓nE27, ↓nE28, ↓nE30, ↓nS1, ↓nS2, ↓nS3, ↓nS4, ↓nS5, ↓nS6, ↓nS7, ↓nS8, ↓nS9, ↓nS10, ↓nS11, ↓nS12, ↓nS13, ↓nS14, ↓nS15, ↓nS16, ↓nS17, ↓nS18, ↓nS19, ↓nS20, ↓nSs1, ↓nSs2, ↓nEs1, ↓nEs2, ↓nB1, ↓nB2, ↓nB3, ↓nA1, ↓nA2, ↓nA3, ↓nT1, ↓reduceIte, bnm, btp, setAll, wipeL, endsOf, getz, gets, setz, sets, lenc, lenn, v_add, v_sub, v_mul, v_fdiv, v_mod, v_pow, v_adds, v_addt, v_mult, v_muls, v_addl, v_eq, v_ne, v_lt, v_le, v_gt, v_ge, v_is, v_nis, v_isb, v_nisb, v_les, v_in, v_nin, t_non, t_bl, t_int, t_str, t_tup, t_loc, b_lens, b_lent, b_lenl, b_int, b_intb, b_abs, b_min, b_max, b_str, b_strs, b_tupt, b_tupl, b_lstt, b_lstl, b_all, b_any, b_ord, r_append, r_extend, r_pop, r_pop1, r_reverse, r_get1, r_get2, r_setd, m_app, m_ext, m_pop, m_pop1, m_rev, m_get1, m_get2, f_get, f_set, f_mth, r_str, m_starts, m_split, m_rstrp, m_rmpre, m_isasc, m_isdig]
      exact fin h hb.up
theorem RowsV.nils {r : Nat} {xs : List Val} (h1 : S[r]? = some (.lst xs)) (h2 : xs.length = c) (h3 : ∀ p, p < c → ∃ m, xs[p]? = some (.loc m) ∧ r < m ∧ S[m]? = some (.lst [])) {f : Nat → List Val} (hf : ∀ p, f p = []) : RowsV S r c f :=
  ⟨xs, h1, h2, fun p hp => let ⟨m, e, _, q⟩ := h3 p hp; ⟨m, e, by rw [hf]; exact q⟩⟩
theorem tup_eq {S : Sto} {Q : VQ} {m : Nat} {ps : List Val} (h : S[m]? = some (.lst ps)) : biS .tuple [.loc m] S Q = Q (.tup ps) S := b_tupl (n_of h)
theorem zero_map {c : Nat} : ((List.range' 0 c).map fun (i : Nat) => Val.int (i : Int)).filterMap (fun _ => some (Val.tup [.int 0, .int 0])) = (List.replicate c ((0 : Int), (0 : Int))).map pV := by
  rw [List.filterMap_map]
  have e : ((fun _ => some (Val.tup [.int 0, .int 0])) ∘ fun (i : Nat) => Val.int (i : Int)) = fun (i : Nat) => some (Val.tup [.int 0, .int 0]) := rfl
  rw [e, List.filterMap_eq_map', List.map_replicate]
  apply List.ext_getElem?
  intro i
  by_cases h : i < c
  · rw [List.getElem?_map, List.getElem?_range' h, List.getElem?_replicate, if_pos h]
    rfl
  · rw [List.getElem?_eq_none (by simp; omega), List.getElem?_eq_none (by simp; omega)]
/-- from the list of draws on -/
theorem tail6 {ρ : LE} {ns : List Int} {o d1 d2 f dt r t : Nat} (hns : ns.length ≤ 63) (hρ : ρ = [some (.loc 0), some (.int (c : Int)), some (.loc o), some (.loc f), some (.loc r), some (.loc t), none, none, none, none, none, none, none, none, none, none, none, none, none, none])
    (h0 : S[0]? = some (.rol (ns.map Val.int))) (hc1 : 1 ≤ c) (hc2 : c ≤ 10) (he : EndsAt S o d1 d2 c (fun _ => [])) (hf : FirmAt S f o dt c (fun _ => (0, 0))) (hr : RowsV S r c (intsOf fun _ => [])) (ht : RowsV S t c (fun _ => [])) (hne : r ≠ t)
    (K : ∀ S', D.rt (.bl true) S') : wpSs (cenv (UP lp) (n + 3)) t1006_6 D ρ S := by
  rw [t1006_6, b1006_6, nSs2, frE]
  subst hρ
  simp only [↓nE1, ↓nE2, ↓nE3, ↓nE4, ↓nE5, ↓nE6, ↓nE7, ↓nE8, ↓nE9, ↓nE10, ↓nE11, ↓nE12, ↓nE13, ↓nE14, ↓nE15, ↓nE16, ↓nE17, ↓nE18, ↓nE19, ↓nE21, ↓nE22, ↓nE23, ↓nE24, ↓nE25, ↓nE27, ↓nE28, ↓nE30, ↓nS1, ↓nS2, ↓nS3, ↓nS4, ↓nS5, ↓nS6, ↓nS7, ↓nS8, ↓nS9, ↓nS10, ↓nS11, ↓nS12, ↓nS13, ↓nS14, ↓nS15, ↓nS16, ↓nS17, ↓nS18, ↓nS19, ↓nS20, ↓nSs1, ↓nSs2, ↓nEs1, ↓nEs2, ↓nB1, ↓nB2, ↓nB3, ↓nA1, ↓nA2, ↓nA3, ↓nT1, ↓reduceIte, bnm, btp, setAll, wipeL, endsOf, getz, gets, setz, sets, lenc, lenn, v_add, v_sub, v_mul, v_fdiv, v_mod, v_pow, v_adds, v_addt, v_mult, v_muls, v_addl, v_eq, v_ne, v_lt, v_le, v_gt, v_ge, v_is, v_nis, v_isb, v_nisb, v_les, v_in, v_nin, t_non, t_bl, t_int, t_str, t_tup, t_loc, b_lens, b_lent, b_lenl, b_int, b_intb, b_abs, b_min, b_max, b_str, b_strs, b_tupt, b_tupl, b_lstt, b_lstl, b_all, b_any, b_ord, r_append, r_extend, r_pop, r_pop1, r_reverse, r_get1, r_get2, r_setd, m_app, m_ext, m_pop, m_pop1, m_rev, m_get1, m_get2, f_get, f_set, f_mth, r_str, m_starts, m_split, m_rstrp, m_rmpre, m_isasc, m_isdig]
  refine c_draws hns (by decide) (by decide) h0 fun S1 m ds s1 l1 e1 hl => ?_
  have hdl : ds.length ≤ 60 := by omega
  refine ⟨_, _, it_seq (n_of e1), ?_⟩
  have w0 : W18 ds c ⟨o, d1, d2, f, dt, r, t, m⟩ S1 (fun _ => []) (fun _ => []) (TTm fun _ => []) (fun _ => []) := ⟨hc1, hc2, he.sub s1, hf.sub s1, hr.sub s1, ht.sub s1, hne, e1⟩
  refine for_inv (fun i ρ' S' => (∃ x6 x7 x8 x9 x10 x11 x12 x13 x14 x15 x16 x17 x18 x19, ρ' = [some (.loc 0), some (.int (c : Int)), some (.loc o), some (.loc f), some (.loc r), some (.loc t), x6, x7, x8, x9, x10, x11, x12, x13, x14, x15, x16, x17, x18, x19]) ∧ ∃ R TT, W18 ds c ⟨o, d1, d2, f, dt, r, t, m⟩ S' R R (TTm TT) TT ∧ LenOk c R TT i) ⟨⟨_, _, _, _, _, _, _, _, _, _, _, _, _, _, rfl⟩, _, _, w0, fun p hp => ⟨by simp, by simp⟩⟩ ?_ ?_
  · rintro i z ρ' S' K2 hz ⟨⟨x6, x7, x8, x9, x10, x11, x12, x13, x14, x15, x16, x17, x18, x19, hρ'⟩, R, TT, w, lk⟩ hK
    have hi : i < ds.length := by have := (List.getElem?_eq_some_iff.mp hz).1; simpa using this
    refine ⟨⟨n_of w.dr, trivial⟩, ?_⟩
    have hz2 : ∃ d : Int, z = .int d := by
      simp only [List.getElem?_map, Option.map_eq_some_iff] at hz
      obtain ⟨d, _, rfl⟩ := hz
      exact ⟨d, rfl⟩
    obtain ⟨d, hd⟩ := hz2
    rw [bnm]
    refine turn (d := d) (by rw [hρ', hd]; rfl) w lk (by omega) fun S2 R' TT' y7 y8 y9 y10 y11 y12 y13 y14 y15 y16 y17 y18 y19 w' lk' => hK _ _ ⟨⟨_, _, _, _, _, _, _, _, _, _, _, _, _, _, rfl⟩, _, _, w', lk'⟩
  · rintro ρ' S' ⟨_, R, TT, w, lk⟩
    refine ⟨⟨n_of w.dr, trivial⟩, ?_⟩
    simp only [t1006_7, b1006_7, ↓nE1, ↓nE2, ↓nE3, ↓nE4, ↓nE5, ↓nE6, ↓nE7, ↓nE8, ↓nE9, ↓nE10, ↓nE11, ↓nE12, ↓nE13, ↓nE14, ↓nE15, ↓nE16, ↓nE17, ↓nE18, ↓nE19, ↓nE21, ↓nE22, ↓nE23, ↓nE24, ↓nE25, ↓nE27, ↓nE28, ↓nE30, ↓nS1, ↓nS2, ↓nS3, ↓nS4, ↓nS5, ↓nS6, ↓nS7, ↓nS8, ↓nS9, ↓nS10, ↓nS11, ↓nS12, ↓nS13, ↓nS14, ↓nS15, ↓nS16, ↓nS17, ↓nS18, ↓nS19, ↓nS20, ↓nSs1, ↓nSs2, ↓nEs1, ↓nEs2, ↓nB1, ↓nB2, ↓nB3, ↓nA1, ↓nA2, ↓nA3, ↓nT1, ↓reduceIte, bnm, btp, setAll, wipeL, endsOf, getz, gets, setz, sets, lenc, lenn, v_add, v_sub, v_mul, v_fdiv, v_mod, v_pow, v_adds, v_addt, v_mult, v_muls, v_addl, v_eq, v_ne, v_lt, v_le, v_gt, v_ge, v_is, v_nis, v_isb, v_nisb, v_les, v_in, v_nin, t_non, t_bl, t_int, t_str, t_tup, t_loc, b_lens, b_lent, b_lenl, b_int, b_intb, b_abs, b_min, b_max, b_str, b_strs, b_tupt, b_tupl, b_lstt, b_lstl, b_all, b_any, b_ord, r_append, r_extend, r_pop, r_pop1, r_reverse, r_get1, r_get2, r_setd, m_app, m_ext, m_pop, m_pop1, m_rev, m_get1, m_get2, f_get, f_set, f_mth, r_str, m_starts, m_split, m_rstrp, m_rmpre, m_isasc, m_isdig]
    exact K S'
theorem tail5 {ρ : LE} {ns : List Int} {o d1 d2 f dt r t : Nat} (hns : ns.length ≤ 63) (hρ : ρ = [some (.loc 0), some (.int (c : Int)), some (.loc o), some (.loc f), some (.loc r), some (.loc t), none, none, none, none, none, none, none, none, none, none, none, none, none, none])
    (h0 : S[0]? = some (.rol (ns.map Val.int))) (hc1 : 1 ≤ c) (hc2 : c ≤ 10) (he : EndsAt S o d1 d2 c (fun _ => [])) (hf : FirmAt S f o dt c (fun _ => (0, 0))) (hr : RowsV S r c (intsOf fun _ => [])) (ht : RowsV S t c (fun _ => [])) (hne : r ≠ t)
    (K : ∀ S', D.rt (.bl true) S') : wpSs (cenv (UP lp) (n + 3)) t1006_5 D ρ S := by
  have eq1 : ∀ {S : Sto} {Q : Bool → Prop}, eqS S (.tup ((List.replicate c ((0 : Int), (0 : Int))).map pV)) (.tup ((List.replicate c ((0 : Int), (0 : Int))).map pV)) Q = Q true := fun {S Q} => Pk.prs.eqS (by decide)
  subst hρ
  simp only [t1006_5, b1006_5, ↓nE1, ↓nE2, ↓nE3, ↓nE4, ↓nE5, ↓nE6, ↓nE7, ↓nE8, ↓nE9, ↓nE10, ↓nE11, ↓nE12, ↓nE13, ↓nE14, ↓nE15, ↓nE16, ↓nE17, ↓nE18, ↓nE19, ↓nE21, ↓nE22, ↓nE23, ↓nE24, ↓nE25, ↓nE27, ↓nE28, ↓nE30, ↓nS1, ↓nS2, ↓nS3, ↓nS4, ↓nS5, ↓nS6, ↓nS7, ↓nS8, ↓nS9, ↓nS10, ↓nS11, ↓nS12, ↓nS13, ↓nS14, ↓nS15, ↓nS16, ↓nS17, ↓nS18, ↓nS19, ↓nS20, ↓nSs1, ↓nSs2, ↓nEs1, ↓nEs2, ↓nB1, ↓nB2, ↓nB3, ↓nA1, ↓nA2, ↓nA3, ↓nT1, ↓reduceIte, bnm, btp, setAll, wipeL, endsOf, getz, gets, setz, sets, lenc, lenn, v_add, v_sub, v_mul, v_fdiv, v_mod, v_pow, v_adds, v_addt, v_mult, v_muls, v_addl, v_eq, v_ne, v_lt, v_le, v_gt, v_ge, v_is, v_nis, v_isb, v_nisb, v_les, v_in, v_nin, t_non, t_bl, t_int, t_str, t_tup, t_loc, b_lens, b_lent, b_lenl, b_int, b_intb, b_abs, b_min, b_max, b_str, b_strs, b_tupt, b_tupl, b_lstt, b_lstl, b_all, b_any, b_ord, r_append, r_extend, r_pop, r_pop1, r_reverse, r_get1, r_get2, r_setd, m_app, m_ext, m_pop, m_pop1, m_rev, m_get1, m_get2, f_get, f_set, f_mth, r_str, m_starts, m_split, m_rstrp, m_rmpre, m_isasc, m_isdig]
  refine c14 hc1 (by omega) ?_
  simp only [↓nE1, ↓nE2, ↓nE3, ↓nE4, ↓nE5, ↓nE6, ↓nE7, ↓nE8, ↓nE9, ↓nE10, ↓nE11, ↓nE12, ↓nE13, ↓nE14, ↓nE15, ↓nE16, ↓nE17, ↓nE18, ↓nE19, ↓lcE, ↓nE21, ↓nE22, ↓nE23, ↓nE24, ↓nE25, ↓nE27, ↓nE28, ↓nE30, ↓nS1, ↓nS2, ↓nS3, ↓nS4, ↓nS5, ↓nS6, ↓nS7, ↓frE, ↓nS9, ↓nS10, ↓nS11, ↓nS12, ↓nS13, ↓nS14, ↓nS15, ↓nS16, ↓nS17, ↓nS18, ↓nS19, ↓nS20, ↓nSs1, ↓nSs2, ↓nEs1, ↓nEs2, ↓nB1, ↓nB2, ↓nB3, ↓nA1, ↓nA2, ↓nA3, ↓nT1, ↓reduceIte, bnm, btp, setAll, wipeL, endsOf, getz, gets, setz, sets, lenc, lenn, v_add, v_sub, v_mul, v_fdiv, v_mod, v_pow, v_adds, v_addt, v_mult, v_muls, v_addl, v_eq, v_ne, v_lt, v_le, v_gt, v_ge, v_is, v_nis, v_isb, v_nisb, v_les, v_in, v_nin, t_non, t_bl, t_int, t_str, t_tup, t_loc, b_lens, b_lent, b_lenl, b_int, b_intb, b_abs, b_min, b_max, b_str, b_strs, b_tupt, b_tupl, b_lstt, b_lstl, b_all, b_any, b_ord, r_append, r_extend, r_pop, r_pop1, r_reverse, r_get1, r_get2, r_setd, m_app, m_ext, m_pop, m_pop1, m_rev, m_get1, m_get2, f_get, f_set, f_mth, r_str, m_starts, m_split, m_rstrp, m_rmpre, m_isasc, m_isdig]
  refine ⟨_, _, it_range (by omega), ?_⟩
  refine lc_sub (fun _ => some (Val.tup [.int 0, .int 0])) trivial (by simp [big]; omega) (fun x hx T K2 s k2 => ?_) fun S3 s3 e3 => ?_
  · exact k2 T Sub.refl
  rw [zero_map] at e3
  simp only [↓nE1, ↓nE2, ↓nE3, ↓nE4, ↓nE5, ↓nE6, ↓nE7, ↓nE8, ↓nE9, ↓nE10, ↓nE11, ↓nE12, ↓nE13, ↓nE14, ↓nE15, ↓nE16, ↓nE17, ↓nE18, ↓nE19, ↓nE21, ↓nE22, ↓nE23, ↓nE24, ↓nE25, ↓nE27, ↓nE28, ↓nE30, ↓nS1, ↓nS2, ↓nS3, ↓nS4, ↓nS5, ↓nS6, ↓nS7, ↓nS8, ↓nS9, ↓nS10, ↓nS11, ↓nS12, ↓nS13, ↓nS14, ↓nS15, ↓nS16, ↓nS17, ↓nS18, ↓nS19, ↓nS20, ↓nSs1, ↓nSs2, ↓nEs1, ↓nEs2, ↓nB1, ↓nB2, ↓nB3, ↓nA1, ↓nA2, ↓nA3, ↓nT1, ↓reduceIte, bnm, btp, setAll, wipeL, endsOf, getz, gets, setz, sets, lenc, lenn, v_add, v_sub, v_mul, v_fdiv, v_mod, v_pow, v_adds, v_addt, v_mult, v_muls, v_addl, v_eq, v_ne, v_lt, v_le, v_gt, v_ge, v_is, v_nis, v_isb, v_nisb, v_les, v_in, v_nin, t_non, t_bl, t_int, t_str, t_tup, t_loc, b_lens, b_lent, b_lenl, b_int, b_intb, b_abs, b_min, b_max, b_str, b_strs, b_tupt, b_tupl, b_lstt, b_lstl, b_all, b_any, b_ord, r_append, r_extend, r_pop, r_pop1, r_reverse, r_get1, r_get2, r_setd, m_app, m_ext, m_pop, m_pop1, m_rev, m_get1, m_get2, f_get, f_set, f_mth, r_str, m_starts, m_split, m_rstrp, m_rmpre, m_isasc, m_isdig, reduceCtorEq, eqS_ii, eqS_ss, eqS_nn, Val.flat, Val.isNon, known, Option.isSome_some, true_and, tyB, tyS, istS, tyeq, ixN_0, ixN_1, ixN_2, tup_eq e3, eq1, Bool.not_true, Bool.false_eq_true]
  exact tail6 hns rfl (s3 _ _ h0) hc1 hc2 (he.sub s3) (hf.sub s3) (hr.sub s3) (ht.sub s3) hne K
theorem tail4 {ρ : LE} {ns : List Int} {o d1 d2 f dt r : Nat} (hns : ns.length ≤ 63) (hρ : ρ = [some (.loc 0), some (.int (c : Int)), some (.loc o), some (.loc f), some (.loc r), none, none, none, none, none, none, none, none, none, none, none, none, none, none, none])
    (h0 : S[0]? = some (.rol (ns.map Val.int))) (hc1 : 1 ≤ c) (hc2 : c ≤ 10) (he : EndsAt S o d1 d2 c (fun _ => [])) (hf : FirmAt S f o dt c (fun _ => (0, 0))) (hr : RowsV S r c (intsOf fun _ => []))
    (K : ∀ S', D.rt (.bl true) S') : wpSs (cenv (UP lp) (n + 3)) t1006_4 D ρ S := by
  obtain ⟨_, hr0, _⟩ := id hr
  have lr := get_lt hr0
  subst hρ
  simp only [t1006_4, b1006_4, ↓nE1, ↓nE2, ↓nE3, ↓nE4, ↓nE5, ↓nE6, ↓nE7, ↓nE8, ↓nE9, ↓nE10, ↓nE11, ↓nE12, ↓nE13, ↓nE14, ↓nE15, ↓nE16, ↓nE17, ↓nE18, ↓nE19, ↓lcE, ↓nE21, ↓nE22, ↓nE23, ↓nE24, ↓nE25, ↓nE27, ↓nE28, ↓nE30, ↓nS1, ↓nS2, ↓nS3, ↓nS4, ↓nS5, ↓nS6, ↓nS7, ↓frE, ↓nS9, ↓nS10, ↓nS11, ↓nS12, ↓nS13, ↓nS14, ↓nS15, ↓nS16, ↓nS17, ↓nS18, ↓nS19, ↓nS20, ↓nSs1, ↓nSs2, ↓nEs1, ↓nEs2, ↓nB1, ↓nB2, ↓nB3, ↓nA1, ↓nA2, ↓nA3, ↓nT1, ↓reduceIte, bnm, btp, setAll, wipeL, endsOf, getz, gets, setz, sets, lenc, lenn, v_add, v_sub, v_mul, v_fdiv, v_mod, v_pow, v_adds, v_addt, v_mult, v_muls, v_addl, v_eq, v_ne, v_lt, v_le, v_gt, v_ge, v_is, v_nis, v_isb, v_nisb, v_les, v_in, v_nin, t_non, t_bl, t_int, t_str, t_tup, t_loc, b_lens, b_lent, b_lenl, b_int, b_intb, b_abs, b_min, b_max, b_str, b_strs, b_tupt, b_tupl, b_lstt, b_lstl, b_all, b_any, b_ord, r_append, r_extend, r_pop, r_pop1, r_reverse, r_get1, r_get2, r_setd, m_app, m_ext, m_pop, m_pop1, m_rev, m_get1, m_get2, f_get, f_set, f_mth, r_str, m_starts, m_split, m_rstrp, m_rmpre, m_isasc, m_isdig]
  refine ⟨_, _, it_range (by omega), ?_⟩
  refine lc_nils (by omega) (fun x S K k => ?_) fun S2 ys s2 e2 l2 r2 => ?_
  · exact k
  have ht : RowsV S2 S.length c (fun _ => []) := RowsV.nils e2 l2 r2 fun _ => rfl
  exact tail5 hns rfl (s2 _ _ h0) hc1 hc2 (he.sub s2) (hf.sub s2) (hr.sub s2) ht (by omega) K
theorem tail3 {ρ : LE} {ns : List Int} {o d1 d2 f dt : Nat} (hns : ns.length ≤ 63) (hρ : ρ = [some (.loc 0), some (.int (c : Int)), some (.loc o), some (.loc f), none, none, none, none, none, none, none, none, none, none, none, none, none, none, none, none])
    (h0 : S[0]? = some (.rol (ns.map Val.int))) (hc1 : 1 ≤ c) (hc2 : c ≤ 10) (he : EndsAt S o d1 d2 c (fun _ => [])) (hf : FirmAt S f o dt c (fun _ => (0, 0)))
    (K : ∀ S', D.rt (.bl true) S') : wpSs (cenv (UP lp) (n + 3)) t1006_3 D ρ S := by
  subst hρ
  simp only [t1006_3, b1006_3, ↓nE1, ↓nE2, ↓nE3, ↓nE4, ↓nE5, ↓nE6, ↓nE7, ↓nE8, ↓nE9, ↓nE10, ↓nE11, ↓nE12, ↓nE13, ↓nE14, ↓nE15, ↓nE16, ↓nE17, ↓nE18, ↓nE19, ↓lcE, ↓nE21, ↓nE22, ↓nE23, ↓nE24, ↓nE25, ↓nE27, ↓nE28, ↓nE30, ↓nS1, ↓nS2, ↓nS3, ↓nS4, ↓nS5, ↓nS6, ↓nS7, ↓frE, ↓nS9, ↓nS10, ↓nS11, ↓nS12, ↓nS13, ↓nS14, ↓nS15, ↓nS16, ↓nS17, ↓nS18, ↓nS19, ↓nS20, ↓nSs1, ↓nSs2, ↓nEs1, ↓nEs2, ↓nB1, ↓nB2, ↓nB3, ↓nA1, ↓nA2, ↓nA3, ↓nT1, ↓reduceIte, bnm, btp, setAll, wipeL, endsOf, getz, gets, setz, sets, lenc, lenn, v_add, v_sub, v_mul, v_fdiv, v_mod, v_pow, v_adds, v_addt, v_mult, v_muls, v_addl, v_eq, v_ne, v_lt, v_le, v_gt, v_ge, v_is, v_nis, v_isb, v_nisb, v_les, v_in, v_nin, t_non, t_bl, t_int, t_str, t_tup, t_loc, b_lens, b_lent, b_lenl, b_int, b_intb, b_abs, b_min, b_max, b_str, b_strs, b_tupt, b_tupl, b_lstt, b_lstl, b_all, b_any, b_ord, r_append, r_extend, r_pop, r_pop1, r_reverse, r_get1, r_get2, r_setd, m_app, m_ext, m_pop, m_pop1, m_rev, m_get1, m_get2, f_get, f_set, f_mth, r_str, m_starts, m_split, m_rstrp, m_rmpre, m_isasc, m_isdig]
  refine ⟨_, _, it_range (by omega), ?_⟩
  refine lc_nils (by omega) (fun x S K k => ?_) fun S1 xs s1 e1 l1 r1 => ?_
  · exact k
  have hr : RowsV S1 S.length c (intsOf fun _ => []) := RowsV.nils e1 l1 r1 fun _ => rfl
  generalize hρ : ([some (.loc 0), some (.int (c : Int)), some (.loc o), some (.loc f), some (.loc S.length), none, none, none, none, none, none, none, none, none, none, none, none, none, none, none] : LE) = ρ
  exact tail4 hns hρ.symm (s1 _ _ h0) hc1 hc2 (he.sub s1) (hf.sub s1) hr K
theorem tail2 {ρ : LE} {ns : List Int} {o d1 d2 : Nat} (hns : ns.length ≤ 63) (hρ : ρ = [some (.loc 0), some (.int (c : Int)), some (.loc o), none, none, none, none, none, none, none, none, none, none, none, none, none, none, none, none, none])
    (h0 : S[0]? = some (.rol (ns.map Val.int))) (hc1 : 1 ≤ c) (hc2 : c ≤ 10) (he : EndsAt S o d1 d2 c (fun _ => []))
    (K : ∀ S', D.rt (.bl true) S') : wpSs (cenv (UP lp) (n + 3)) t1006_2 D ρ S := by
  have lo := get_lt he.obj
  subst hρ
  simp only [t1006_2, b1006_2, ↓nE1, ↓nE2, ↓nE3, ↓nE4, ↓nE5, ↓nE6, ↓nE7, ↓nE8, ↓nE9, ↓nE10, ↓nE11, ↓nE12, ↓nE13, ↓nE14, ↓nE15, ↓nE16, ↓nE17, ↓nE18, ↓nE19, ↓nE21, ↓nE22, ↓nE23, ↓nE24, ↓nE25, ↓nE27, ↓nE28, ↓nE30, ↓nS1, ↓nS2, ↓nS3, ↓nS4, ↓nS5, ↓nS6, ↓nS7, ↓nS8, ↓nS9, ↓nS10, ↓nS11, ↓nS12, ↓nS13, ↓nS14, ↓nS15, ↓nS16, ↓nS17, ↓nS18, ↓nS19, ↓nS20, ↓nSs1, ↓nSs2, ↓nEs1, ↓nEs2, ↓nB1, ↓nB2, ↓nB3, ↓nA1, ↓nA2, ↓nA3, ↓nT1, ↓reduceIte, bnm, btp, setAll, wipeL, endsOf, getz, gets, setz, sets, lenc, lenn, v_add, v_sub, v_mul, v_fdiv, v_mod, v_pow, v_adds, v_addt, v_mult, v_muls, v_addl, v_eq, v_ne, v_lt, v_le, v_gt, v_ge, v_is, v_nis, v_isb, v_nisb, v_les, v_in, v_nin, t_non, t_bl, t_int, t_str, t_tup, t_loc, b_lens, b_lent, b_lenl, b_int, b_intb, b_abs, b_min, b_max, b_str, b_strs, b_tupt, b_tupl, b_lstt, b_lstl, b_all, b_any, b_ord, r_append, r_extend, r_pop, r_pop1, r_reverse, r_get1, r_get2, r_setd, m_app, m_ext, m_pop, m_pop1, m_rev, m_get1, m_get2, f_get, f_set, f_mth, r_str, m_starts, m_split, m_rstrp, m_rmpre, m_isasc, m_isdig, ↓mk_ini (ini_2 (l := lp))]
  refine c42 (n := n + 2) (e := o) get_new (by omega) fun S3 dt s3 l3 f3 => ?_
  refine ⟨rfl, ?_⟩
  have h3 : S3[0]? = some (.rol (ns.map Val.int)) := s3 _ _ (by have := get_lt h0; simp; omega) (by rw [List.getElem?_append_left (get_lt h0)]; exact h0)
  have e3 : EndsAt S3 o d1 d2 c (fun _ => []) := (he.sub (Sub.app (t := [SObj.ins 2 []]))).subX s3 fun y hy => by
    obtain ⟨g, g', k1, k2, _, _⟩ := he.ks (L := ⟨o, d1, d2, 0, 0, 0, 0, 0⟩)
    have k3 : d1 < S.length := get_lt k1
    have k4 : d2 < S.length := get_lt k2
    rw [List.mem_singleton.mp hy]
    refine ⟨by omega, by omega, by omega, fun l => ?_⟩
    rw [get_new]
    exact fun z => nomatch z
  clear he h0
  generalize hρ : ([some (.loc 0), some (.int (c : Int)), some (.loc o), some (.loc S.length), none, none, none, none, none, none, none, none, none, none, none, none, none, none, none, none] : LE) = ρ
  exact tail3 hns hρ.symm h3 hc1 hc2 e3 f3 K
theorem tail1 {ρ : LE} {ns : List Int} (hns : ns.length ≤ 63) (hρ : ρ = [some (.loc 0), some (.int (c : Int)), none, none, none, none, none, none, none, none, none, none, none, none, none, none, none, none, none, none])
    (h0 : S[0]? = some (.rol (ns.map Val.int))) (hc1 : 1 ≤ c) (hc2 : c ≤ 10)
    (K : ∀ S', D.rt (.bl true) S') : wpSs (cenv (UP lp) (n + 3)) t1006_1 D ρ S := by
  have q0 := get_lt h0
  subst hρ
  simp only [t1006_1, b1006_1, ↓nE1, ↓nE2, ↓nE3, ↓nE4, ↓nE5, ↓nE6, ↓nE7, ↓nE8, ↓nE9, ↓nE10, ↓nE11, ↓nE12, ↓nE13, ↓nE14, ↓nE15, ↓nE16, ↓nE17, ↓nE18, ↓nE19, ↓nE21, ↓nE22, ↓nE23, ↓nE24, ↓nE25, ↓nE27, ↓nE28, ↓nE30, ↓nS1, ↓nS2, ↓nS3, ↓nS4, ↓nS5, ↓nS6, ↓nS7, ↓nS8, ↓nS9, ↓nS10, ↓nS11, ↓nS12, ↓nS13, ↓nS14, ↓nS15, ↓nS16, ↓nS17, ↓nS18, ↓nS19, ↓nS20, ↓nSs1, ↓nSs2, ↓nEs1, ↓nEs2, ↓nB1, ↓nB2, ↓nB3, ↓nA1, ↓nA2, ↓nA3, ↓nT1, ↓reduceIte, bnm, btp, setAll, wipeL, endsOf, getz, gets, setz, sets, lenc, lenn, v_add, v_sub, v_mul, v_fdiv, v_mod, v_pow, v_adds, v_addt, v_mult, v_muls, v_addl, v_eq, v_ne, v_lt, v_le, v_gt, v_ge, v_is, v_nis, v_isb, v_nisb, v_les, v_in, v_nin, t_non, t_bl, t_int, t_str, t_tup, t_loc, b_lens, b_lent, b_lenl, b_int, b_intb, b_abs, b_min, b_max, b_str, b_strs, b_tupt, b_tupl, b_lstt, b_lstl, b_all, b_any, b_ord, r_append, r_extend, r_pop, r_pop1, r_reverse, r_get1, r_get2, r_setd, m_app, m_ext, m_pop, m_pop1, m_rev, m_get1, m_get2, f_get, f_set, f_mth, r_str, m_starts, m_split, m_rstrp, m_rmpre, m_isasc, m_isdig, ↓mk_ini (ini_1 (l := lp))]
  refine c35 (n := n + 2) get_new (by omega) fun S2 d1 d2 s2 l1 l2 e2 => ?_
  refine ⟨rfl, ?_⟩
  have h2 : S2[0]? = some (.rol (ns.map Val.int)) := s2 _ _ (by simp; omega) (by rw [List.getElem?_append_left q0]; exact h0)
  generalize hρ : ([some (.loc 0), some (.int (c : Int)), some (.loc S.length), none, none, none, none, none, none, none, none, none, none, none, none, none, none, none, none, none] : LE) = ρ
  exact tail2 hns hρ.symm h2 hc1 hc2 e2 K
theorem tail0 {ρ : LE} {ns : List Int} (hns : ns.length ≤ 63) (hρ : ρ = [some (.loc 0), none, none, none, none, none, none, none, none, none, none, none, none, none, none, none, none, none, none, none])
    (h0 : S[0]? = some (.rol (ns.map Val.int))) (K : ∀ S', D.rt (.bl true) S') : wpSs (cenv (UP lp) (n + 3)) b1006 D ρ S := by
  have q8 : (0 : Int) < 8 := by decide
  have l0 : lstAt S 0 = some (ns.map Val.int) := n_ro h0
  have main : ∀ x : Int, PM.ixS (.loc S.length) (.int (x % 8)) (S ++ [SObj.lst [.int 1, .int 2, .int 3, .int 4, .int 2, .int 3, .int 4, .int 10]]) (fun v S1 => wpSs (cenv (UP lp) (n + 3)) t1006_1 D [some (.loc 0), some v, none, none, none, none, none, none, none, none, none, none, none, none, none, none, none, none, none, none] S1) := by
    intro x
    obtain ⟨w, a1, a2⟩ := atV_int (xs := [.int 1, .int 2, .int 3, .int 4, .int 2, .int 3, .int 4, .int 10]) (i := x % 8) (by omega) (by simp; omega)
    have e1 : (S ++ [SObj.lst [.int 1, .int 2, .int 3, .int 4, .int 2, .int 3, .int 4, .int 10]])[S.length]? = some (.lst [.int 1, .int 2, .int 3, .int 4, .int 2, .int 3, .int 4, .int 10]) := get_new
    have hw : ∃ c : Nat, w = .int (c : Int) ∧ 1 ≤ c ∧ c ≤ 10 := by
      simp only [List.mem_cons, List.not_mem_nil, or_false] at a2
      rcases a2 with rfl | rfl | rfl | rfl | rfl | rfl | rfl | rfl
      · exact ⟨1, rfl, by decide, by decide⟩
      · exact ⟨2, rfl, by decide, by decide⟩
      · exact ⟨3, rfl, by decide, by decide⟩
      · exact ⟨4, rfl, by decide, by decide⟩
      · exact ⟨2, rfl, by decide, by decide⟩
      · exact ⟨3, rfl, by decide, by decide⟩
      · exact ⟨4, rfl, by decide, by decide⟩
      · exact ⟨10, rfl, by decide, by decide⟩
    obtain ⟨c, hw, hc1, hc2⟩ := hw
    rw [ixS_l (n_of e1) a1]
    have h1 : (S ++ [SObj.lst [.int 1, .int 2, .int 3, .int 4, .int 2, .int 3, .int 4, .int 10]])[0]? = some (.rol (ns.map Val.int)) := Sub.app _ _ h0
    generalize S ++ [SObj.lst [.int 1, .int 2, .int 3, .int 4, .int 2, .int 3, .int 4, .int 10]] = S1 at h1 ⊢
    exact tail1 hns (by rw [hw]) h1 hc1 hc2 K
  subst hρ
  have e8 : ([Val.int 1, .int 2, .int 3, .int 4, .int 2, .int 3, .int 4, .int 10] : List Val).length = 8 := rfl
  by_cases hn : (0 : Int) < (ns.length : Int)
  · have hn2 : 0 < ns.length := by omega
    have a0 : atV (ns.map Val.int) 0 = some (.int ns[0]) := atV_nat (i := 0) (by simp [hn2])
    simp only [b1006, b1006_0, ↓nE1, ↓nE2, ↓nE3, ↓nE4, ↓nE5, ↓nE6, ↓nE7, ↓nE8, ↓nE9, ↓nE10, ↓nE11, ↓nE12, ↓nE13, ↓nE14, ↓nE15, ↓nE16, ↓nE17, ↓nE18, ↓nE19, ↓nE21, ↓nE22, ↓nE23, ↓nE24, ↓nE25, ↓nE27, ↓nE28, ↓nE30, ↓nS1, ↓nS2, ↓nS3, ↓nS4, ↓nS5, ↓nS6, ↓nS7, ↓nS8, ↓nS9, ↓nS10, ↓nS11, ↓nS12, ↓nS13, ↓nS14, ↓nS15, ↓nS16, ↓nS17, ↓nS18, ↓nS19, ↓nS20, ↓nSs1, ↓nSs2, ↓nEs1, ↓nEs2, ↓nB1, ↓nB2, ↓nB3, ↓nA1, ↓nA2, ↓nA3, ↓nT1, ↓reduceIte, bnm, btp, setAll, wipeL, endsOf, getz, gets, setz, sets, lenc, lenn, v_add, v_sub, v_mul, v_fdiv, v_mod, v_pow, v_adds, v_addt, v_mult, v_muls, v_addl, v_eq, v_ne, v_lt, v_le, v_gt, v_ge, v_is, v_nis, v_isb, v_nisb, v_les, v_in, v_nin, t_non, t_bl, t_int, t_str, t_tup, t_loc, b_lens, b_lent, b_lenl, b_int, b_intb, b_abs, b_min, b_max, b_str, b_strs, b_tupt, b_tupl, b_lstt, b_lstl, b_all, b_any, b_ord, r_append, r_extend, r_pop, r_pop1, r_reverse, r_get1, r_get2, r_setd, m_app, m_ext, m_pop, m_pop1, m_rev, m_get1, m_get2, f_get, f_set, f_mth, r_str, m_starts, m_split, m_rstrp, m_rmpre, m_isasc, m_isdig, n_of, b_lenl (Sub.lst Sub.app l0), List.length_map, hn, decide_true, ixS_l (Sub.lst Sub.app l0) a0, q8, true_and]
    exact main _
  · simp only [b1006, b1006_0, ↓nE1, ↓nE2, ↓nE3, ↓nE4, ↓nE5, ↓nE6, ↓nE7, ↓nE8, ↓nE9, ↓nE10, ↓nE11, ↓nE12, ↓nE13, ↓nE14, ↓nE15, ↓nE16, ↓nE17, ↓nE18, ↓nE19, ↓nE21, ↓nE22, ↓nE23, ↓nE24, ↓nE25, ↓nE27, ↓nE28, ↓nE30, ↓nS1, ↓nS2, ↓nS3, ↓nS4, ↓nS5, ↓nS6, ↓nS7, ↓nS8, ↓nS9, ↓nS10, ↓nS11, ↓nS12, ↓nS13, ↓nS14, ↓nS15, ↓nS16, ↓nS17, ↓nS18, ↓nS19, ↓nS20, ↓nSs1, ↓nSs2, ↓nEs1, ↓nEs2, ↓nB1, ↓nB2, ↓nB3, ↓nA1, ↓nA2, ↓nA3, ↓nT1, ↓reduceIte, bnm, btp, setAll, wipeL, endsOf, getz, gets, setz, sets, lenc, lenn, v_add, v_sub, v_mul, v_fdiv, v_mod, v_pow, v_adds, v_addt, v_mult, v_muls, v_addl, v_eq, v_ne, v_lt, v_le, v_gt, v_ge, v_is, v_nis, v_isb, v_nisb, v_les, v_in, v_nin, t_non, t_bl, t_int, t_str, t_tup, t_loc, b_lens, b_lent, b_lenl, b_int, b_intb, b_abs, b_min, b_max, b_str, b_strs, b_tupt, b_tupl, b_lstt, b_lstl, b_all, b_any, b_ord, r_append, r_extend, r_pop, r_pop1, r_reverse, r_get1, r_get2, r_setd, m_app, m_ext, m_pop, m_pop1, m_rev, m_get1, m_get2, f_get, f_set, f_mth, r_str, m_starts, m_split, m_rstrp, m_rmpre, m_isasc, m_isdig, n_of, b_lenl (Sub.lst Sub.app l0), List.length_map, hn, decide_false, Bool.false_eq_true, q8, true_and]
    exact main _
end
theorem law_n {n : Nat} {Q : VQ} {E : XQ} (ns : List Int) (hn : ns.length ≤ 63) (hQ : ∀ S, Q (.bl true) S) : callN (UP lp) (n + 4) 1006 [.loc 0] [.rol (ns.map Val.int)] Q E := by
  rw [u1006]
  generalize hS : ([SObj.rol (ns.map Val.int)] : Sto) = S
  generalize hρ : ([some (Val.loc 0), none, none, none, none, none, none, none, none, none, none, none, none, none, none, none, none, none, none, none] : LE) = ρ
  have hD : ∀ S', (endsOf Q E).rt (.bl true) S' := hQ
  generalize endsOf Q E = D at *
  exact tail0 hn hρ.symm (by rw [← hS]; rfl) hD
theorem law_m {m n : Nat} {Q : VQ} {E : XQ} (hm : m = n + 4) (ns : List Int) (hn : ns.length ≤ 63) (hQ : ∀ S, Q (.bl true) S) : callN (UP lp) m 1006 [.loc 0] [.rol (ns.map Val.int)] Q E := by
  subst hm
  exact law_n ns hn hQ
def lawQ : VQ := fun x _ => x = .bl true
def lawE : XQ := fun _ _ _ => False
theorem law_p (ns : List Int) (hn : ns.length ≤ 63) : callN (UP lp) 6 1006 [.loc 0] [.rol (ns.map Val.int)] lawQ lawE := law_m (n := 2) rfl ns hn fun _ => rfl
theorem law_true : ∀ ns : List Int, ns.length ≤ 63 → callN (UP lp) 6 1006 [.loc 0] [.rol (ns.map Val.int)] (fun x _ => x = .bl true) (fun _ _ _ => False) := by
  intro ns hn
  exact law_p ns hn
end My

namespace My
open PySem PySem.Spec PyProof.Rows PM L2
def top (i : Nat) : Stmt := PySem.Challenge.pw_firmground_k18_clocks_and_ends.main.body.getD i (.Pass ⟨0, 0, 0, 0⟩)
def inCls : Stmt → Nat → Stmt
  | .ClassDef _ _ _ body _ _ _ _ _ _ _, j => body.getD j (.Pass ⟨0, 0, 0, 0⟩)
  | _, _ => .Pass ⟨0, 0, 0, 0⟩
abbrev s35 : Stmt := inCls (top 1) 0
abbrev s36 : Stmt := inCls (top 1) 1
abbrev s37 : Stmt := inCls (top 1) 2
abbrev s38 : Stmt := inCls (top 1) 3
abbrev s39 : Stmt := inCls (top 1) 4
abbrev s40 : Stmt := inCls (top 1) 5
abbrev s41 : Stmt := inCls (top 1) 6
abbrev s42 : Stmt := inCls (top 2) 0
abbrev s43 : Stmt := inCls (top 2) 1
abbrev s44 : Stmt := inCls (top 2) 2
abbrev s45 : Stmt := inCls (top 2) 3
abbrev s46 : Stmt := inCls (top 2) 4
abbrev s14 : Stmt := top 4
abbrev s47 : Stmt := top 5
abbrev s1000 : Stmt := top 7
abbrev s1001 : Stmt := top 8
abbrev s1002 : Stmt := top 9
abbrev s1003 : Stmt := top 10
abbrev s1004 : Stmt := top 11
abbrev s1005 : Stmt := top 12
abbrev s1006 : Stmt := top 13
def bil : List Str := ["abs", "all", "any", "bool", "enumerate", "int", "isinstance", "len", "list", "max", "min", "range", "tuple", "zip"]
def fnl : List (Nat × Str) := [(14, "zero"), (47, "merge"), (1000, "_law_draws"), (1001, "_law_clock"), (1002, "_law_dead_pair"), (1003, "_law_dead"), (1004, "_law_firm"), (1005, "_law_is"), (1006, "law")]
def gll : List (Nat × Str) := []
def cnl : List (Nat × Str) := [(1, "Ends"), (2, "Firm")]
def anl : List Str := ("line" : Str) :: ("reason" : Str) :: ("_records" : Str) :: ("_durable" : Str) :: ("_passing" : Str) :: ("_crashed" : Str) :: ("_operate" : Str) :: ("append" : Str) :: ("_refuse_if_crashed" : Str) :: ("records" : Str) :: ("crash" : Str) :: ("sync" : Str) :: ("arm" : Str) :: ("pending" : Str) :: ("__init__" : Str) :: ("_rows" : Str) :: ("_least" : Str) :: ("_ends" : Str) :: ("_told" : Str) :: ("_greatest" : Str) :: ("row" : Str) :: ("known" : Str) :: ("dead_pair" : Str) :: ("_is_firm" : Str) :: ("add" : Str) :: ("told" : Str) :: ("firm" : Str) :: ("dead" : Str) :: ("ready" : Str) :: ("_me" : Str) :: ("_cells" : Str) :: ("_clocks" : Str) :: ("_tallies" : Str) :: ("_inputs" : Str) :: ("_texts" : Str) :: ("_receivers" : Str) :: ("_sends" : Str) :: ("size" : Str) :: ("inputs" : Str) :: ("sends" : Str) :: ("outputs" : Str) :: ("alive" : Str) :: ("cells" : Str) :: ("_clock_behind" : Str) :: ("_tally_behind" : Str) :: ("_send" : Str) :: ("_remove_last" : Str) :: ("taken" : Str) :: ("take" : Str) :: ("clock" : Str) :: ("cut" : Str) :: ("_count" : Str) :: ("_tape" : Str) :: ("_past" : Str) :: ("_firm" : Str) :: ("_committed" : Str) :: ("_ticks" : Str) :: ("_got" : Str) :: ("_heard" : Str) :: ("_seen" : Str) :: ("_begin" : Str) :: ("_raise_committed" : Str) :: ("_note_number" : Str) :: ("_sync" : Str) :: ("_end_version" : Str) :: ("_know_durable" : Str) :: ("_cut" : Str) :: ("_last_sends" : Str) :: ("_shows" : Str) :: ("_receive_pass" : Str) :: ("_receive_end" : Str) :: ("_receive_firm" : Str) :: ("_replay" : Str) :: ("version" : Str) :: ("committed" : Str) :: ("ends" : Str) :: ("tick" : Str) :: ("_letters_to" : Str) :: ("_to_others" : Str) :: ("_unheard" : Str) :: ("_pass_of" : Str) :: ("flush" : Str) :: ("receive" : Str) :: ("_submitted" : Str) :: ("_shown" : Str) :: ("_passes" : Str) :: ("_receive_show" : Str) :: ("submit" : Str) :: ("submitted" : Str) :: ("shown" : Str) :: ("got" : Str) :: ("_packets" : Str) :: ("packets" : Str) :: ("_check_position" : Str) :: ("move" : Str) :: ("double" : Str) :: ("send" : Str) :: ("_events" : Str) :: ("_time" : Str) :: ("_net" : Str) :: ("_desk" : Str) :: ("_history" : Str) :: ("_tapes" : Str) :: ("_processes" : Str) :: ("_sizes" : Str) :: ("_arms" : Str) :: ("act" : Str) :: ("_check" : Str) :: ("_check_process" : Str) :: ("events" : Str) :: ("_note" : Str) :: ("_note_takes" : Str) :: ("_note_left" : Str) :: ("time" : Str) :: ("is_up" : Str) :: ("_tick" : Str) :: ("_deliver_all" : Str) :: ("_deliver" : Str) :: ("_deliver_to_desk" : Str) :: ("_call" : Str) :: ("_calm" : Str) :: ("_go_down" : Str) :: ("history" : Str) :: ("process" : Str) :: ("_start" : Str) :: ("tape" : Str) :: ("_submit" : Str) :: ("desk" : Str) :: ("_act_on_packet" : Str) :: ("_act_on_process" : Str) :: ("_totals" : Str) :: ("_outputs" : Str) :: ("_tally" : Str) :: ("_replays" : Str) :: ("follow" : Str) :: ("of" : Str) :: ("has_output" : Str) :: ("begins_with" : Str) :: []
def mol : List Nat := [19, 23, 24, 27, 22, 26, 21, 28, 20, 25]
def xnl : List (Nat × (Str × List Str)) := []
def tb : Tb := ⟨bil, fun i => fnl.lookup i, fun i => gll.lookup i, fun i => cnl.lookup i, fun a => anl[a]?, fun a => mol.contains a, fun i => xnl.lookup i, true, none, []⟩
theorem sc35 : FnScope ["self", "count", "process"] ["self", "count"] (defScope s35) := ⟨rfl, rfl, rfl, by decide +kernel, rfl, by decide +kernel, by decide +kernel⟩
theorem ck35 : chkSs ["self", "count", "process"] true (defScope s35).names tb d35.body (defBody s35) = true := by decide +kernel
theorem sc36 : FnScope ["self", "process"] ["self", "process"] (defScope s36) := ⟨rfl, rfl, rfl, by decide +kernel, rfl, by decide +kernel, by decide +kernel⟩
theorem ck36 : chkSs ["self", "process"] true (defScope s36).names tb d36.body (defBody s36) = true := by decide +kernel
theorem sc37 : FnScope ["self", "process", "version", "stays", "least", "count"] ["self", "process", "version", "stays"] (defScope s37) := ⟨rfl, rfl, rfl, by decide +kernel, rfl, by decide +kernel, by decide +kernel⟩
theorem ck37 : chkSs ["self", "process", "version", "stays", "least", "count"] true (defScope s37).names tb d37.body (defBody s37) = true := by decide +kernel
theorem sc38 : FnScope ["self", "process"] ["self", "process"] (defScope s38) := ⟨rfl, rfl, rfl, by decide +kernel, rfl, by decide +kernel, by decide +kernel⟩
theorem ck38 : chkSs ["self", "process"] true (defScope s38).names tb d38.body (defBody s38) = true := by decide +kernel
theorem sc39 : FnScope ["self", "clock", "process", "pair"] ["self", "clock"] (defScope s39) := ⟨rfl, rfl, rfl, by decide +kernel, rfl, by decide +kernel, by decide +kernel⟩
theorem ck39 : chkSs ["self", "clock", "process", "pair"] true (defScope s39).names tb d39.body (defBody s39) = true := by decide +kernel
theorem sc40 : FnScope ["self", "process", "pair", "least", "version", "count"] ["self", "process", "pair"] (defScope s40) := ⟨rfl, rfl, rfl, by decide +kernel, rfl, by decide +kernel, by decide +kernel⟩
theorem ck40 : chkSs ["self", "process", "pair", "least", "version", "count"] true (defScope s40).names tb d40.body (defBody s40) = true := by decide +kernel
theorem sc41 : FnScope ["self", "clock", "process", "pair"] ["self", "clock"] (defScope s41) := ⟨rfl, rfl, rfl, by decide +kernel, rfl, by decide +kernel, by decide +kernel⟩
theorem ck41 : chkSs ["self", "clock", "process", "pair"] true (defScope s41).names tb d41.body (defBody s41) = true := by decide +kernel
theorem sc42 : FnScope ["self", "count", "ends", "process"] ["self", "count", "ends"] (defScope s42) := ⟨rfl, rfl, rfl, by decide +kernel, rfl, by decide +kernel, by decide +kernel⟩
theorem ck42 : chkSs ["self", "count", "ends", "process"] true (defScope s42).names tb d42.body (defBody s42) = true := by decide +kernel
theorem sc43 : FnScope ["self", "process", "version", "stays"] ["self", "process", "version", "stays"] (defScope s43) := ⟨rfl, rfl, rfl, by decide +kernel, rfl, by decide +kernel, by decide +kernel⟩
theorem ck43 : chkSs ["self", "process", "version", "stays"] true (defScope s43).names tb d43.body (defBody s43) = true := by decide +kernel
theorem sc44 : FnScope ["self", "clock", "process", "pair"] ["self", "clock"] (defScope s44) := ⟨rfl, rfl, rfl, by decide +kernel, rfl, by decide +kernel, by decide +kernel⟩
theorem ck44 : chkSs ["self", "clock", "process", "pair"] true (defScope s44).names tb d44.body (defBody s44) = true := by decide +kernel
theorem sc45 : FnScope ["self", "process"] ["self", "process"] (defScope s45) := ⟨rfl, rfl, rfl, by decide +kernel, rfl, by decide +kernel, by decide +kernel⟩
theorem ck45 : chkSs ["self", "process"] true (defScope s45).names tb d45.body (defBody s45) = true := by decide +kernel
theorem sc46 : FnScope ["self", "process", "pair", "version", "count", "other", "stays"] ["self", "process", "pair"] (defScope s46) := ⟨rfl, rfl, rfl, by decide +kernel, rfl, by decide +kernel, by decide +kernel⟩
theorem ck46 : chkSs ["self", "process", "pair", "version", "count", "other", "stays"] true (defScope s46).names tb d46.body (defBody s46) = true := by decide +kernel
theorem sc14 : FnScope ["count"] ["count"] (defScope s14) := ⟨rfl, rfl, rfl, by decide +kernel, rfl, by decide +kernel, by decide +kernel⟩
theorem ck14 : chkSs ["count"] true (defScope s14).names tb d14.body (defBody s14) = true := by decide +kernel
theorem sc47 : FnScope ["one", "other", "mine", "theirs"] ["one", "other"] (defScope s47) := ⟨rfl, rfl, rfl, by decide +kernel, rfl, by decide +kernel, by decide +kernel⟩
theorem ck47 : chkSs ["one", "other", "mine", "theirs"] true (defScope s47).names tb d47.body (defBody s47) = true := by decide +kernel
theorem sc1000 : FnScope ["script", "start", "most", "draws", "cell", "number", "mixed", "k"] ["script", "start", "most"] (defScope s1000) := ⟨rfl, rfl, rfl, by decide +kernel, rfl, by decide +kernel, by decide +kernel⟩
theorem ck1000 : chkSs ["script", "start", "most", "draws", "cell", "number", "mixed", "k"] true (defScope s1000).names tb d1000.body (defBody s1000) = true := by decide +kernel
theorem sc1001 : FnScope ["number", "count", "pairs", "k", "counted", "version"] ["number", "count"] (defScope s1001) := ⟨rfl, rfl, rfl, by decide +kernel, rfl, by decide +kernel, by decide +kernel⟩
theorem ck1001 : chkSs ["number", "count", "pairs", "k", "counted", "version"] true (defScope s1001).names tb d1001.body (defBody s1001) = true := by decide +kernel
theorem sc1002 : FnScope ["row", "pair", "k"] ["row", "pair"] (defScope s1002) := ⟨rfl, rfl, rfl, by decide +kernel, rfl, by decide +kernel, by decide +kernel⟩
theorem ck1002 : chkSs ["row", "pair", "k"] true (defScope s1002).names tb d1002.body (defBody s1002) = true := by decide +kernel
theorem sc1003 : FnScope ["rows", "clock", "p"] ["rows", "clock"] (defScope s1003) := ⟨rfl, rfl, rfl, by decide +kernel, rfl, by decide +kernel, by decide +kernel⟩
theorem ck1003 : chkSs ["rows", "clock", "p"] true (defScope s1003).names tb d1003.body (defBody s1003) = true := by decide +kernel
theorem sc1004 : FnScope ["rows", "told", "clock", "p", "version", "counted", "other", "stays"] ["rows", "told", "clock"] (defScope s1004) := ⟨rfl, rfl, rfl, by decide +kernel, rfl, by decide +kernel, by decide +kernel⟩
theorem ck1004 : chkSs ["rows", "told", "clock", "p", "version", "counted", "other", "stays"] true (defScope s1004).names tb d1004.body (defBody s1004) = true := by decide +kernel
theorem sc1005 : FnScope ["actual", "expected"] ["actual", "expected"] (defScope s1005) := ⟨rfl, rfl, rfl, by decide +kernel, rfl, by decide +kernel, by decide +kernel⟩
theorem ck1005 : chkSs ["actual", "expected"] true (defScope s1005).names tb d1005.body (defBody s1005) = true := by decide +kernel
theorem sc1006 : FnScope ["script", "count", "ends", "firm", "rows", "told", "draw", "process", "kind", "rest", "one", "other", "merged", "clock", "handed", "k", "version", "ready", "pair", "p"] ["script"] (defScope s1006) := ⟨rfl, rfl, rfl, by decide +kernel, rfl, by decide +kernel, by decide +kernel⟩
theorem ck1006 : chkSs ["script", "count", "ends", "firm", "rows", "told", "draw", "process", "kind", "rest", "one", "other", "merged", "clock", "handed", "k", "version", "ready", "pair", "p"] true (defScope s1006).names tb d1006.body (defBody s1006) = true := by decide +kernel
def cnm : Nat → Str
  | 1 => "Ends"
  | 2 => "Firm"
  | _ => Str.empty
def xnm : Nat → Str
  | _ => Str.empty
def xfl : Nat → List Str
  | _ => []
theorem anj : ∀ i j, nmAt anl i = nmAt anl j → i = j := nmAt_inj (by decide +kernel) (by decide +kernel)
def lkf (K : PySem.W.Frag) : Lk := ⟨K, fun c => coOf K (cnm c), nmAt anl, fun c => .ref (coOf K (xnm c)), xfl, none, fun c => (cnl.lookup c).isSome, fun c => (xnl.lookup c).isSome, anj⟩
set_option maxHeartbeats 0 in
theorem all_mk {l : PySem.W.OpenLaw} {w : World} {K : PySem.W.Frag} {h : Heap} {mg : Str → Option Value} {fa C1 C2 f35 f36 f37 f38 f39 f40 f41 f42 f43 f44 f45 f46 f14 f47 f1000 f1001 f1002 f1003 f1004 f1005 f1006 : Addr} (X : K.In h) (G : h.Ns mainGlobals mg) (hfa : mg "law" = some (.ref fa))
    {od35 an35 : Option Addr} {sl35 : Array (Option Value)} {oc35 kV35 dc35 pm35 cd35 ct35 : Value}
    {od36 an36 : Option Addr} {sl36 : Array (Option Value)} {oc36 kV36 dc36 pm36 cd36 ct36 : Value}
    {od37 an37 : Option Addr} {sl37 : Array (Option Value)} {oc37 kV37 dc37 pm37 cd37 ct37 : Value}
    {od38 an38 : Option Addr} {sl38 : Array (Option Value)} {oc38 kV38 dc38 pm38 cd38 ct38 : Value}
    {od39 an39 : Option Addr} {sl39 : Array (Option Value)} {oc39 kV39 dc39 pm39 cd39 ct39 : Value}
    {od40 an40 : Option Addr} {sl40 : Array (Option Value)} {oc40 kV40 dc40 pm40 cd40 ct40 : Value}
    {od41 an41 : Option Addr} {sl41 : Array (Option Value)} {oc41 kV41 dc41 pm41 cd41 ct41 : Value}
    {od42 an42 : Option Addr} {sl42 : Array (Option Value)} {oc42 kV42 dc42 pm42 cd42 ct42 : Value}
    {od43 an43 : Option Addr} {sl43 : Array (Option Value)} {oc43 kV43 dc43 pm43 cd43 ct43 : Value}
    {od44 an44 : Option Addr} {sl44 : Array (Option Value)} {oc44 kV44 dc44 pm44 cd44 ct44 : Value}
    {od45 an45 : Option Addr} {sl45 : Array (Option Value)} {oc45 kV45 dc45 pm45 cd45 ct45 : Value}
    {od46 an46 : Option Addr} {sl46 : Array (Option Value)} {oc46 kV46 dc46 pm46 cd46 ct46 : Value}
    {od14 an14 : Option Addr} {sl14 : Array (Option Value)} {oc14 kV14 dc14 pm14 cd14 ct14 : Value}
    {od47 an47 : Option Addr} {sl47 : Array (Option Value)} {oc47 kV47 dc47 pm47 cd47 ct47 : Value}
    {od1000 an1000 : Option Addr} {sl1000 : Array (Option Value)} {oc1000 kV1000 dc1000 pm1000 cd1000 ct1000 : Value}
    {od1001 an1001 : Option Addr} {sl1001 : Array (Option Value)} {oc1001 kV1001 dc1001 pm1001 cd1001 ct1001 : Value}
    {od1002 an1002 : Option Addr} {sl1002 : Array (Option Value)} {oc1002 kV1002 dc1002 pm1002 cd1002 ct1002 : Value}
    {od1003 an1003 : Option Addr} {sl1003 : Array (Option Value)} {oc1003 kV1003 dc1003 pm1003 cd1003 ct1003 : Value}
    {od1004 an1004 : Option Addr} {sl1004 : Array (Option Value)} {oc1004 kV1004 dc1004 pm1004 cd1004 ct1004 : Value}
    {od1005 an1005 : Option Addr} {sl1005 : Array (Option Value)} {oc1005 kV1005 dc1005 pm1005 cd1005 ct1005 : Value}
    {od1006 an1006 : Option Addr} {sl1006 : Array (Option Value)} {oc1006 kV1006 dc1006 pm1006 cd1006 ct1006 : Value}
    (aC1 : PySem.W.nsIn K mainGlobals "Ends" = some (some (.ref C1)))
    (aC2 : PySem.W.nsIn K mainGlobals "Firm" = some (some (.ref C2)))
    (a35 : PySem.W.findIn K (.ref C1) "__init__" = some (some (.ref f35)))
    (i35 : PySem.W.isFn K (.ref f35) = true)
    (l35 : K.lookup f35 = some ⟨oc35, od35, .func (PySem.W.fnOf "__init__" "Ends.__init__" (defArgs s35) (defBody s35) (defScope s35) .none kV35 dc35 pm35 an35 cd35 ct35), sl35⟩)
    (c35 : PySem.W.codeIn K cd35 "Ends.__init__" = true)
    (k35 : PySem.W.keepIn K (.ref f35) = true)
    (a36 : PySem.W.findIn K (.ref C1) "known" = some (some (.ref f36)))
    (i36 : PySem.W.isFn K (.ref f36) = true)
    (l36 : K.lookup f36 = some ⟨oc36, od36, .func (PySem.W.fnOf "known" "Ends.known" (defArgs s36) (defBody s36) (defScope s36) .none kV36 dc36 pm36 an36 cd36 ct36), sl36⟩)
    (c36 : PySem.W.codeIn K cd36 "Ends.known" = true)
    (k36 : PySem.W.keepIn K (.ref f36) = true)
    (a37 : PySem.W.findIn K (.ref C1) "add" = some (some (.ref f37)))
    (i37 : PySem.W.isFn K (.ref f37) = true)
    (l37 : K.lookup f37 = some ⟨oc37, od37, .func (PySem.W.fnOf "add" "Ends.add" (defArgs s37) (defBody s37) (defScope s37) .none kV37 dc37 pm37 an37 cd37 ct37), sl37⟩)
    (c37 : PySem.W.codeIn K cd37 "Ends.add" = true)
    (k37 : PySem.W.keepIn K (.ref f37) = true)
    (a38 : PySem.W.findIn K (.ref C1) "row" = some (some (.ref f38)))
    (i38 : PySem.W.isFn K (.ref f38) = true)
    (l38 : K.lookup f38 = some ⟨oc38, od38, .func (PySem.W.fnOf "row" "Ends.row" (defArgs s38) (defBody s38) (defScope s38) .none kV38 dc38 pm38 an38 cd38 ct38), sl38⟩)
    (c38 : PySem.W.codeIn K cd38 "Ends.row" = true)
    (k38 : PySem.W.keepIn K (.ref f38) = true)
    (a39 : PySem.W.findIn K (.ref C1) "dead" = some (some (.ref f39)))
    (i39 : PySem.W.isFn K (.ref f39) = true)
    (l39 : K.lookup f39 = some ⟨oc39, od39, .func (PySem.W.fnOf "dead" "Ends.dead" (defArgs s39) (defBody s39) (defScope s39) .none kV39 dc39 pm39 an39 cd39 ct39), sl39⟩)
    (c39 : PySem.W.codeIn K cd39 "Ends.dead" = true)
    (k39 : PySem.W.keepIn K (.ref f39) = true)
    (a40 : PySem.W.findIn K (.ref C1) "dead_pair" = some (some (.ref f40)))
    (i40 : PySem.W.isFn K (.ref f40) = true)
    (l40 : K.lookup f40 = some ⟨oc40, od40, .func (PySem.W.fnOf "dead_pair" "Ends.dead_pair" (defArgs s40) (defBody s40) (defScope s40) .none kV40 dc40 pm40 an40 cd40 ct40), sl40⟩)
    (c40 : PySem.W.codeIn K cd40 "Ends.dead_pair" = true)
    (k40 : PySem.W.keepIn K (.ref f40) = true)
    (a41 : PySem.W.findIn K (.ref C1) "ready" = some (some (.ref f41)))
    (i41 : PySem.W.isFn K (.ref f41) = true)
    (l41 : K.lookup f41 = some ⟨oc41, od41, .func (PySem.W.fnOf "ready" "Ends.ready" (defArgs s41) (defBody s41) (defScope s41) .none kV41 dc41 pm41 an41 cd41 ct41), sl41⟩)
    (c41 : PySem.W.codeIn K cd41 "Ends.ready" = true)
    (k41 : PySem.W.keepIn K (.ref f41) = true)
    (a42 : PySem.W.findIn K (.ref C2) "__init__" = some (some (.ref f42)))
    (i42 : PySem.W.isFn K (.ref f42) = true)
    (l42 : K.lookup f42 = some ⟨oc42, od42, .func (PySem.W.fnOf "__init__" "Firm.__init__" (defArgs s42) (defBody s42) (defScope s42) .none kV42 dc42 pm42 an42 cd42 ct42), sl42⟩)
    (c42 : PySem.W.codeIn K cd42 "Firm.__init__" = true)
    (k42 : PySem.W.keepIn K (.ref f42) = true)
    (a43 : PySem.W.findIn K (.ref C2) "told" = some (some (.ref f43)))
    (i43 : PySem.W.isFn K (.ref f43) = true)
    (l43 : K.lookup f43 = some ⟨oc43, od43, .func (PySem.W.fnOf "told" "Firm.told" (defArgs s43) (defBody s43) (defScope s43) .none kV43 dc43 pm43 an43 cd43 ct43), sl43⟩)
    (c43 : PySem.W.codeIn K cd43 "Firm.told" = true)
    (k43 : PySem.W.keepIn K (.ref f43) = true)
    (a44 : PySem.W.findIn K (.ref C2) "firm" = some (some (.ref f44)))
    (i44 : PySem.W.isFn K (.ref f44) = true)
    (l44 : K.lookup f44 = some ⟨oc44, od44, .func (PySem.W.fnOf "firm" "Firm.firm" (defArgs s44) (defBody s44) (defScope s44) .none kV44 dc44 pm44 an44 cd44 ct44), sl44⟩)
    (c44 : PySem.W.codeIn K cd44 "Firm.firm" = true)
    (k44 : PySem.W.keepIn K (.ref f44) = true)
    (a45 : PySem.W.findIn K (.ref C2) "_greatest" = some (some (.ref f45)))
    (i45 : PySem.W.isFn K (.ref f45) = true)
    (l45 : K.lookup f45 = some ⟨oc45, od45, .func (PySem.W.fnOf "_greatest" "Firm._greatest" (defArgs s45) (defBody s45) (defScope s45) .none kV45 dc45 pm45 an45 cd45 ct45), sl45⟩)
    (c45 : PySem.W.codeIn K cd45 "Firm._greatest" = true)
    (k45 : PySem.W.keepIn K (.ref f45) = true)
    (a46 : PySem.W.findIn K (.ref C2) "_is_firm" = some (some (.ref f46)))
    (i46 : PySem.W.isFn K (.ref f46) = true)
    (l46 : K.lookup f46 = some ⟨oc46, od46, .func (PySem.W.fnOf "_is_firm" "Firm._is_firm" (defArgs s46) (defBody s46) (defScope s46) .none kV46 dc46 pm46 an46 cd46 ct46), sl46⟩)
    (c46 : PySem.W.codeIn K cd46 "Firm._is_firm" = true)
    (k46 : PySem.W.keepIn K (.ref f46) = true)
    (a14 : PySem.W.nsIn K mainGlobals "zero" = some (some (.ref f14)))
    (l14 : K.lookup f14 = some ⟨oc14, od14, .func (PySem.W.fnOf "zero" "zero" (defArgs s14) (defBody s14) (defScope s14) .none kV14 dc14 pm14 an14 cd14 ct14), sl14⟩)
    (c14 : PySem.W.codeIn K cd14 "zero" = true)
    (k14 : PySem.W.keepIn K (.ref f14) = true)
    (a47 : PySem.W.nsIn K mainGlobals "merge" = some (some (.ref f47)))
    (l47 : K.lookup f47 = some ⟨oc47, od47, .func (PySem.W.fnOf "merge" "merge" (defArgs s47) (defBody s47) (defScope s47) .none kV47 dc47 pm47 an47 cd47 ct47), sl47⟩)
    (c47 : PySem.W.codeIn K cd47 "merge" = true)
    (k47 : PySem.W.keepIn K (.ref f47) = true)
    (a1000 : PySem.W.nsIn K mainGlobals "_law_draws" = some (some (.ref f1000)))
    (l1000 : K.lookup f1000 = some ⟨oc1000, od1000, .func (PySem.W.fnOf "_law_draws" "_law_draws" (defArgs s1000) (defBody s1000) (defScope s1000) .none kV1000 dc1000 pm1000 an1000 cd1000 ct1000), sl1000⟩)
    (c1000 : PySem.W.codeIn K cd1000 "_law_draws" = true)
    (k1000 : PySem.W.keepIn K (.ref f1000) = true)
    (a1001 : PySem.W.nsIn K mainGlobals "_law_clock" = some (some (.ref f1001)))
    (l1001 : K.lookup f1001 = some ⟨oc1001, od1001, .func (PySem.W.fnOf "_law_clock" "_law_clock" (defArgs s1001) (defBody s1001) (defScope s1001) .none kV1001 dc1001 pm1001 an1001 cd1001 ct1001), sl1001⟩)
    (c1001 : PySem.W.codeIn K cd1001 "_law_clock" = true)
    (k1001 : PySem.W.keepIn K (.ref f1001) = true)
    (a1002 : PySem.W.nsIn K mainGlobals "_law_dead_pair" = some (some (.ref f1002)))
    (l1002 : K.lookup f1002 = some ⟨oc1002, od1002, .func (PySem.W.fnOf "_law_dead_pair" "_law_dead_pair" (defArgs s1002) (defBody s1002) (defScope s1002) .none kV1002 dc1002 pm1002 an1002 cd1002 ct1002), sl1002⟩)
    (c1002 : PySem.W.codeIn K cd1002 "_law_dead_pair" = true)
    (k1002 : PySem.W.keepIn K (.ref f1002) = true)
    (a1003 : PySem.W.nsIn K mainGlobals "_law_dead" = some (some (.ref f1003)))
    (l1003 : K.lookup f1003 = some ⟨oc1003, od1003, .func (PySem.W.fnOf "_law_dead" "_law_dead" (defArgs s1003) (defBody s1003) (defScope s1003) .none kV1003 dc1003 pm1003 an1003 cd1003 ct1003), sl1003⟩)
    (c1003 : PySem.W.codeIn K cd1003 "_law_dead" = true)
    (k1003 : PySem.W.keepIn K (.ref f1003) = true)
    (a1004 : PySem.W.nsIn K mainGlobals "_law_firm" = some (some (.ref f1004)))
    (l1004 : K.lookup f1004 = some ⟨oc1004, od1004, .func (PySem.W.fnOf "_law_firm" "_law_firm" (defArgs s1004) (defBody s1004) (defScope s1004) .none kV1004 dc1004 pm1004 an1004 cd1004 ct1004), sl1004⟩)
    (c1004 : PySem.W.codeIn K cd1004 "_law_firm" = true)
    (k1004 : PySem.W.keepIn K (.ref f1004) = true)
    (a1005 : PySem.W.nsIn K mainGlobals "_law_is" = some (some (.ref f1005)))
    (l1005 : K.lookup f1005 = some ⟨oc1005, od1005, .func (PySem.W.fnOf "_law_is" "_law_is" (defArgs s1005) (defBody s1005) (defScope s1005) .none kV1005 dc1005 pm1005 an1005 cd1005 ct1005), sl1005⟩)
    (c1005 : PySem.W.codeIn K cd1005 "_law_is" = true)
    (k1005 : PySem.W.keepIn K (.ref f1005) = true)
    (a1006 : PySem.W.nsIn K mainGlobals "law" = some (some (.ref f1006)))
    (l1006 : K.lookup f1006 = some ⟨oc1006, od1006, .func (PySem.W.fnOf "law" "law" (defArgs s1006) (defBody s1006) (defScope s1006) .none kV1006 dc1006 pm1006 an1006 cd1006 ct1006), sl1006⟩)
    (c1006 : PySem.W.codeIn K cd1006 "law" = true)
    (k1006 : PySem.W.keepIn K (.ref f1006) = true)
    (pg1 : PySem.W.plainGet K C1 Str.empty = true)
    (hd1 : PySem.W.hasDictIn K C1 = true)
    (po1 : PySem.W.plainOver K C1 = true)
    (sa1 : PySem.W.findIn K (.ref C1) "__setattr__" = some (some (.builtin "object.__setattr__")))
    (mk1 : PySem.W.makesIn K C1 = true)
    (kc1 : PySem.W.keepIn K (.ref C1) = true)
    (n1_15 : PySem.W.findIn K (.ref C1) "_rows" = some none)
    (n1_16 : PySem.W.findIn K (.ref C1) "_least" = some none)
    (pg2 : PySem.W.plainGet K C2 Str.empty = true)
    (hd2 : PySem.W.hasDictIn K C2 = true)
    (po2 : PySem.W.plainOver K C2 = true)
    (sa2 : PySem.W.findIn K (.ref C2) "__setattr__" = some (some (.builtin "object.__setattr__")))
    (mk2 : PySem.W.makesIn K C2 = true)
    (kc2 : PySem.W.keepIn K (.ref C2) = true)
    (n2_17 : PySem.W.findIn K (.ref C2) "_ends" = some none)
    (n2_18 : PySem.W.findIn K (.ref C2) "_told" = some none)
    (z0 : PySem.W.nsIn K mainGlobals "abs" = some none)
    (z1 : PySem.W.nsIn K mainGlobals "all" = some none)
    (z2 : PySem.W.nsIn K mainGlobals "any" = some none)
    (z3 : PySem.W.nsIn K mainGlobals "bool" = some none)
    (z4 : PySem.W.nsIn K mainGlobals "enumerate" = some none)
    (z5 : PySem.W.nsIn K mainGlobals "int" = some none)
    (z6 : PySem.W.nsIn K mainGlobals "isinstance" = some none)
    (z7 : PySem.W.nsIn K mainGlobals "len" = some none)
    (z8 : PySem.W.nsIn K mainGlobals "list" = some none)
    (z9 : PySem.W.nsIn K mainGlobals "max" = some none)
    (z10 : PySem.W.nsIn K mainGlobals "min" = some none)
    (z11 : PySem.W.nsIn K mainGlobals "range" = some none)
    (z12 : PySem.W.nsIn K mainGlobals "tuple" = some none)
    (z13 : PySem.W.nsIn K mainGlobals "zip" = some none)
    : ∃ fd : FuncData, (∀ (s : Shared) (v : Value), BindsTo s fd ⟨[v], []⟩ [("script", v)]) ∧ ∀ base : Heap, K.In base → base.Ns mainGlobals mg → FnOk l.prog w K mg base (L2.CX l.prog w) (2 * 6 + 2) fa fd ["script"] (spC (lkf K) (cenv (UP lp) 6) 1006) := by
  have e := hfa.symm.trans (PySem.W.mg_of X G a1006)
  have e2 : f1006 = fa := by cases e; rfl
  subst e2
  have eC1 : coOf K "Ends" = C1 := by unfold coOf; rw [aC1]
  have eC2 : coOf K "Firm" = C2 := by unfold coOf; rw [aC2]
  have F35 := fun_mk (st := s35) l35 c35 k35
  have b35_ := F35.binds (ps := ["self", "count"]) fun _ _ _ _ _ _ us hl => match us, hl with | [_, _], _ => rfl
  have D35 : CodeOk K tb d35 f35 := ⟨_, _, _, _, _, _, F35, sc35, rfl, rfl, ck35, b35_⟩
  have F36 := fun_mk (st := s36) l36 c36 k36
  have b36_ := F36.binds (ps := ["self", "process"]) fun _ _ _ _ _ _ us hl => match us, hl with | [_, _], _ => rfl
  have D36 : CodeOk K tb d36 f36 := ⟨_, _, _, _, _, _, F36, sc36, rfl, rfl, ck36, b36_⟩
  have F37 := fun_mk (st := s37) l37 c37 k37
  have b37_ := F37.binds (ps := ["self", "process", "version", "stays"]) fun _ _ _ _ _ _ us hl => match us, hl with | [_, _, _, _], _ => rfl
  have D37 : CodeOk K tb d37 f37 := ⟨_, _, _, _, _, _, F37, sc37, rfl, rfl, ck37, b37_⟩
  have F38 := fun_mk (st := s38) l38 c38 k38
  have b38_ := F38.binds (ps := ["self", "process"]) fun _ _ _ _ _ _ us hl => match us, hl with | [_, _], _ => rfl
  have D38 : CodeOk K tb d38 f38 := ⟨_, _, _, _, _, _, F38, sc38, rfl, rfl, ck38, b38_⟩
  have F39 := fun_mk (st := s39) l39 c39 k39
  have b39_ := F39.binds (ps := ["self", "clock"]) fun _ _ _ _ _ _ us hl => match us, hl with | [_, _], _ => rfl
  have D39 : CodeOk K tb d39 f39 := ⟨_, _, _, _, _, _, F39, sc39, rfl, rfl, ck39, b39_⟩
  have F40 := fun_mk (st := s40) l40 c40 k40
  have b40_ := F40.binds (ps := ["self", "process", "pair"]) fun _ _ _ _ _ _ us hl => match us, hl with | [_, _, _], _ => rfl
  have D40 : CodeOk K tb d40 f40 := ⟨_, _, _, _, _, _, F40, sc40, rfl, rfl, ck40, b40_⟩
  have F41 := fun_mk (st := s41) l41 c41 k41
  have b41_ := F41.binds (ps := ["self", "clock"]) fun _ _ _ _ _ _ us hl => match us, hl with | [_, _], _ => rfl
  have D41 : CodeOk K tb d41 f41 := ⟨_, _, _, _, _, _, F41, sc41, rfl, rfl, ck41, b41_⟩
  have F42 := fun_mk (st := s42) l42 c42 k42
  have b42_ := F42.binds (ps := ["self", "count", "ends"]) fun _ _ _ _ _ _ us hl => match us, hl with | [_, _, _], _ => rfl
  have D42 : CodeOk K tb d42 f42 := ⟨_, _, _, _, _, _, F42, sc42, rfl, rfl, ck42, b42_⟩
  have F43 := fun_mk (st := s43) l43 c43 k43
  have b43_ := F43.binds (ps := ["self", "process", "version", "stays"]) fun _ _ _ _ _ _ us hl => match us, hl with | [_, _, _, _], _ => rfl
  have D43 : CodeOk K tb d43 f43 := ⟨_, _, _, _, _, _, F43, sc43, rfl, rfl, ck43, b43_⟩
  have F44 := fun_mk (st := s44) l44 c44 k44
  have b44_ := F44.binds (ps := ["self", "clock"]) fun _ _ _ _ _ _ us hl => match us, hl with | [_, _], _ => rfl
  have D44 : CodeOk K tb d44 f44 := ⟨_, _, _, _, _, _, F44, sc44, rfl, rfl, ck44, b44_⟩
  have F45 := fun_mk (st := s45) l45 c45 k45
  have b45_ := F45.binds (ps := ["self", "process"]) fun _ _ _ _ _ _ us hl => match us, hl with | [_, _], _ => rfl
  have D45 : CodeOk K tb d45 f45 := ⟨_, _, _, _, _, _, F45, sc45, rfl, rfl, ck45, b45_⟩
  have F46 := fun_mk (st := s46) l46 c46 k46
  have b46_ := F46.binds (ps := ["self", "process", "pair"]) fun _ _ _ _ _ _ us hl => match us, hl with | [_, _, _], _ => rfl
  have D46 : CodeOk K tb d46 f46 := ⟨_, _, _, _, _, _, F46, sc46, rfl, rfl, ck46, b46_⟩
  have F14 := fun_mk (st := s14) l14 c14 k14
  have b14_ := F14.binds (ps := ["count"]) fun _ _ _ _ _ _ us hl => match us, hl with | [_], _ => rfl
  have D14 : CodeOk K tb d14 f14 := ⟨_, _, _, _, _, _, F14, sc14, rfl, rfl, ck14, b14_⟩
  have F47 := fun_mk (st := s47) l47 c47 k47
  have b47_ := F47.binds (ps := ["one", "other"]) fun _ _ _ _ _ _ us hl => match us, hl with | [_, _], _ => rfl
  have D47 : CodeOk K tb d47 f47 := ⟨_, _, _, _, _, _, F47, sc47, rfl, rfl, ck47, b47_⟩
  have F1000 := fun_mk (st := s1000) l1000 c1000 k1000
  have b1000_ := F1000.binds (ps := ["script", "start", "most"]) fun _ _ _ _ _ _ us hl => match us, hl with | [_, _, _], _ => rfl
  have D1000 : CodeOk K tb d1000 f1000 := ⟨_, _, _, _, _, _, F1000, sc1000, rfl, rfl, ck1000, b1000_⟩
  have F1001 := fun_mk (st := s1001) l1001 c1001 k1001
  have b1001_ := F1001.binds (ps := ["number", "count"]) fun _ _ _ _ _ _ us hl => match us, hl with | [_, _], _ => rfl
  have D1001 : CodeOk K tb d1001 f1001 := ⟨_, _, _, _, _, _, F1001, sc1001, rfl, rfl, ck1001, b1001_⟩
  have F1002 := fun_mk (st := s1002) l1002 c1002 k1002
  have b1002_ := F1002.binds (ps := ["row", "pair"]) fun _ _ _ _ _ _ us hl => match us, hl with | [_, _], _ => rfl
  have D1002 : CodeOk K tb d1002 f1002 := ⟨_, _, _, _, _, _, F1002, sc1002, rfl, rfl, ck1002, b1002_⟩
  have F1003 := fun_mk (st := s1003) l1003 c1003 k1003
  have b1003_ := F1003.binds (ps := ["rows", "clock"]) fun _ _ _ _ _ _ us hl => match us, hl with | [_, _], _ => rfl
  have D1003 : CodeOk K tb d1003 f1003 := ⟨_, _, _, _, _, _, F1003, sc1003, rfl, rfl, ck1003, b1003_⟩
  have F1004 := fun_mk (st := s1004) l1004 c1004 k1004
  have b1004_ := F1004.binds (ps := ["rows", "told", "clock"]) fun _ _ _ _ _ _ us hl => match us, hl with | [_, _, _], _ => rfl
  have D1004 : CodeOk K tb d1004 f1004 := ⟨_, _, _, _, _, _, F1004, sc1004, rfl, rfl, ck1004, b1004_⟩
  have F1005 := fun_mk (st := s1005) l1005 c1005 k1005
  have b1005_ := F1005.binds (ps := ["actual", "expected"]) fun _ _ _ _ _ _ us hl => match us, hl with | [_, _], _ => rfl
  have D1005 : CodeOk K tb d1005 f1005 := ⟨_, _, _, _, _, _, F1005, sc1005, rfl, rfl, ck1005, b1005_⟩
  have F1006 := fun_mk (st := s1006) l1006 c1006 k1006
  have b1006_ := F1006.binds (ps := ["script"]) fun _ _ _ _ _ _ us hl => match us, hl with | [_], _ => rfl
  have D1006 : CodeOk K tb d1006 f1006 := ⟨_, _, _, _, _, _, F1006, sc1006, rfl, rfl, ck1006, b1006_⟩
  have hL : LinkOk w K mg (lkf K) tb (UP lp) (fun i f => [(35, f35), (36, f36), (37, f37), (38, f38), (39, f39), (40, f40), (41, f41), (42, f42), (43, f43), (44, f44), (45, f45), (46, f46), (14, f14), (47, f47), (1000, f1000), (1001, f1001), (1002, f1002), (1003, f1003), (1004, f1004), (1005, f1005), (1006, f1006)].lookup i = some f) :=
    { hK := rfl, cm := rfl, cur := rfl, nh := rfl
      code := AllL.get (P := fun i f => ∃ d, (UP lp).ds i = some d ∧ CodeOk K tb d f) ⟨⟨_, rfl, D35⟩, ⟨_, rfl, D36⟩, ⟨_, rfl, D37⟩, ⟨_, rfl, D38⟩, ⟨_, rfl, D39⟩, ⟨_, rfl, D40⟩, ⟨_, rfl, D41⟩, ⟨_, rfl, D42⟩, ⟨_, rfl, D43⟩, ⟨_, rfl, D44⟩, ⟨_, rfl, D45⟩, ⟨_, rfl, D46⟩, ⟨_, rfl, D14⟩, ⟨_, rfl, D47⟩, ⟨_, rfl, D1000⟩, ⟨_, rfl, D1001⟩, ⟨_, rfl, D1002⟩, ⟨_, rfl, D1003⟩, ⟨_, rfl, D1004⟩, ⟨_, rfl, D1005⟩, ⟨_, rfl, D1006⟩, trivial⟩
      bi := fun x h => by
        have h2 : x ∈ bil := by simpa [tb] using h
        simp only [bil, List.mem_cons, List.not_mem_nil, or_false] at h2
        rcases h2 with rfl | rfl | rfl | rfl | rfl | rfl | rfl | rfl | rfl | rfl | rfl | rfl | rfl | rfl
        · exact PySem.W.mg_none_of X G z0
        · exact PySem.W.mg_none_of X G z1
        · exact PySem.W.mg_none_of X G z2
        · exact PySem.W.mg_none_of X G z3
        · exact PySem.W.mg_none_of X G z4
        · exact PySem.W.mg_none_of X G z5
        · exact PySem.W.mg_none_of X G z6
        · exact PySem.W.mg_none_of X G z7
        · exact PySem.W.mg_none_of X G z8
        · exact PySem.W.mg_none_of X G z9
        · exact PySem.W.mg_none_of X G z10
        · exact PySem.W.mg_none_of X G z11
        · exact PySem.W.mg_none_of X G z12
        · exact PySem.W.mg_none_of X G z13
      gl := AllL.get (P := fun i x => ∃ u v, mg x = some u ∧ RelV v u ∧ ∀ ι H, Rv K ι H ((UP lp).gs.glo i) v) (l := gll) trivial
      cs := fun n x kvs h => by
        have h2 : pcst lcn ldk n = some (x, kvs) := h
        unfold pcst at h2
        split at h2
        · rw [if_neg (show ¬ ldk 7 = true by decide)] at h2; cases h2
        · rw [if_neg (show ¬ ldk 10 = true by decide)] at h2; cases h2
        · rw [if_neg (show ¬ ldk 11 = true by decide)] at h2; cases h2
        · rw [if_neg (show ¬ ldk 17 = true by decide)] at h2; cases h2
        · rw [if_neg (show ¬ ldk 19 = true by decide)] at h2; cases h2
        · cases h2
      fn := AllL.get (P := fun i x => ∃ f, mg x = some (.ref f) ∧ PySem.W.keepIn K (.ref f) = true ∧ [(35, f35), (36, f36), (37, f37), (38, f38), (39, f39), (40, f40), (41, f41), (42, f42), (43, f43), (44, f44), (45, f45), (46, f46), (14, f14), (47, f47), (1000, f1000), (1001, f1001), (1002, f1002), (1003, f1003), (1004, f1004), (1005, f1005), (1006, f1006)].lookup i = some f) (l := fnl) ⟨⟨f14, PySem.W.mg_of X G a14, k14, rfl⟩, ⟨f47, PySem.W.mg_of X G a47, k47, rfl⟩, ⟨f1000, PySem.W.mg_of X G a1000, k1000, rfl⟩, ⟨f1001, PySem.W.mg_of X G a1001, k1001, rfl⟩, ⟨f1002, PySem.W.mg_of X G a1002, k1002, rfl⟩, ⟨f1003, PySem.W.mg_of X G a1003, k1003, rfl⟩, ⟨f1004, PySem.W.mg_of X G a1004, k1004, rfl⟩, ⟨f1005, PySem.W.mg_of X G a1005, k1005, rfl⟩, ⟨f1006, PySem.W.mg_of X G a1006, k1006, rfl⟩, trivial⟩
      mt := fun a ha c i hc h => by
        have hc2 : (cnl.lookup c).isSome = true := hc
        obtain ⟨x, hx⟩ := Option.isSome_iff_exists.mp hc2
        refine AllL.get (P := fun c _ => ∀ a i, (UP lp).gs.mth c a = some i → mol.contains a = true → Cls K ((lkf K).ca c) ∧ ∃ f, Meth K ((lkf K).ca c) ((lkf K).fl a) f ∧ [(35, f35), (36, f36), (37, f37), (38, f38), (39, f39), (40, f40), (41, f41), (42, f42), (43, f43), (44, f44), (45, f45), (46, f46), (14, f14), (47, f47), (1000, f1000), (1001, f1001), (1002, f1002), (1003, f1003), (1004, f1004), (1005, f1005), (1006, f1006)].lookup i = some f) (l := cnl) ?_ c x hx a i h ha
        exact ⟨AllL.get (P := fun a i => mol.contains a = true → Cls K ((lkf K).ca 1) ∧ ∃ f, Meth K ((lkf K).ca 1) ((lkf K).fl a) f ∧ [(35, f35), (36, f36), (37, f37), (38, f38), (39, f39), (40, f40), (41, f41), (42, f42), (43, f43), (44, f44), (45, f45), (46, f46), (14, f14), (47, f47), (1000, f1000), (1001, f1001), (1002, f1002), (1003, f1003), (1004, f1004), (1005, f1005), (1006, f1006)].lookup i = some f) ⟨fun _ => ⟨by show Cls K (coOf K (cnm 1)); rw [show coOf K (cnm 1) = C1 from eC1]; exact ⟨pg1, hd1, po1, sa1⟩, f36, by show Meth K (coOf K (cnm 1)) _ _; rw [show coOf K (cnm 1) = C1 from eC1]; exact ⟨a36, i36, k36⟩, rfl⟩, fun _ => ⟨by show Cls K (coOf K (cnm 1)); rw [show coOf K (cnm 1) = C1 from eC1]; exact ⟨pg1, hd1, po1, sa1⟩, f37, by show Meth K (coOf K (cnm 1)) _ _; rw [show coOf K (cnm 1) = C1 from eC1]; exact ⟨a37, i37, k37⟩, rfl⟩, fun _ => ⟨by show Cls K (coOf K (cnm 1)); rw [show coOf K (cnm 1) = C1 from eC1]; exact ⟨pg1, hd1, po1, sa1⟩, f38, by show Meth K (coOf K (cnm 1)) _ _; rw [show coOf K (cnm 1) = C1 from eC1]; exact ⟨a38, i38, k38⟩, rfl⟩, fun _ => ⟨by show Cls K (coOf K (cnm 1)); rw [show coOf K (cnm 1) = C1 from eC1]; exact ⟨pg1, hd1, po1, sa1⟩, f39, by show Meth K (coOf K (cnm 1)) _ _; rw [show coOf K (cnm 1) = C1 from eC1]; exact ⟨a39, i39, k39⟩, rfl⟩, fun _ => ⟨by show Cls K (coOf K (cnm 1)); rw [show coOf K (cnm 1) = C1 from eC1]; exact ⟨pg1, hd1, po1, sa1⟩, f40, by show Meth K (coOf K (cnm 1)) _ _; rw [show coOf K (cnm 1) = C1 from eC1]; exact ⟨a40, i40, k40⟩, rfl⟩, fun _ => ⟨by show Cls K (coOf K (cnm 1)); rw [show coOf K (cnm 1) = C1 from eC1]; exact ⟨pg1, hd1, po1, sa1⟩, f41, by show Meth K (coOf K (cnm 1)) _ _; rw [show coOf K (cnm 1) = C1 from eC1]; exact ⟨a41, i41, k41⟩, rfl⟩, trivial⟩, AllL.get (P := fun a i => mol.contains a = true → Cls K ((lkf K).ca 2) ∧ ∃ f, Meth K ((lkf K).ca 2) ((lkf K).fl a) f ∧ [(35, f35), (36, f36), (37, f37), (38, f38), (39, f39), (40, f40), (41, f41), (42, f42), (43, f43), (44, f44), (45, f45), (46, f46), (14, f14), (47, f47), (1000, f1000), (1001, f1001), (1002, f1002), (1003, f1003), (1004, f1004), (1005, f1005), (1006, f1006)].lookup i = some f) ⟨fun _ => ⟨by show Cls K (coOf K (cnm 2)); rw [show coOf K (cnm 2) = C2 from eC2]; exact ⟨pg2, hd2, po2, sa2⟩, f43, by show Meth K (coOf K (cnm 2)) _ _; rw [show coOf K (cnm 2) = C2 from eC2]; exact ⟨a43, i43, k43⟩, rfl⟩, fun _ => ⟨by show Cls K (coOf K (cnm 2)); rw [show coOf K (cnm 2) = C2 from eC2]; exact ⟨pg2, hd2, po2, sa2⟩, f44, by show Meth K (coOf K (cnm 2)) _ _; rw [show coOf K (cnm 2) = C2 from eC2]; exact ⟨a44, i44, k44⟩, rfl⟩, fun _ => ⟨by show Cls K (coOf K (cnm 2)); rw [show coOf K (cnm 2) = C2 from eC2]; exact ⟨pg2, hd2, po2, sa2⟩, f45, by show Meth K (coOf K (cnm 2)) _ _; rw [show coOf K (cnm 2) = C2 from eC2]; exact ⟨a45, i45, k45⟩, rfl⟩, fun _ => ⟨by show Cls K (coOf K (cnm 2)); rw [show coOf K (cnm 2) = C2 from eC2]; exact ⟨pg2, hd2, po2, sa2⟩, f46, by show Meth K (coOf K (cnm 2)) _ _; rw [show coOf K (cnm 2) = C2 from eC2]; exact ⟨a46, i46, k46⟩, rfl⟩, trivial⟩, trivial⟩
      mk' := AllL.get (P := fun c x => (lkf K).cok c = true ∧ mg x = some (.ref ((lkf K).ca c)) ∧ ∃ f, Mk K ((lkf K).ca c) f ∧ [(35, f35), (36, f36), (37, f37), (38, f38), (39, f39), (40, f40), (41, f41), (42, f42), (43, f43), (44, f44), (45, f45), (46, f46), (14, f14), (47, f47), (1000, f1000), (1001, f1001), (1002, f1002), (1003, f1003), (1004, f1004), (1005, f1005), (1006, f1006)].lookup ((UP lp).gs.ini c) = some f) (l := cnl) ⟨⟨rfl, by show mg _ = some (.ref (coOf K (cnm 1))); rw [show coOf K (cnm 1) = C1 from eC1]; exact PySem.W.mg_of X G aC1, f35, by show Mk K (coOf K (cnm 1)) _; rw [show coOf K (cnm 1) = C1 from eC1]; exact ⟨mk1, a35, i35, kc1⟩, rfl⟩, ⟨rfl, by show mg _ = some (.ref (coOf K (cnm 2))); rw [show coOf K (cnm 2) = C2 from eC2]; exact PySem.W.mg_of X G aC2, f42, by show Mk K (coOf K (cnm 2)) _; rw [show coOf K (cnm 2) = C2 from eC2]; exact ⟨mk2, a42, i42, kc2⟩, rfl⟩, trivial⟩
      an := fun a f h => by show nmAt anl a = f; unfold nmAt; rw [show anl[a]? = some f from h]
      fo := ⟨fun c a hc h => by
        have hc2 : (cnl.lookup c).isSome = true := hc
        obtain ⟨x, hx⟩ := Option.isSome_iff_exists.mp hc2
        have h2 : (pfok c a).isSome = true := h
        obtain ⟨i, hi⟩ := Option.isSome_iff_exists.mp h2
        refine AllL.get (P := fun c _ => ∀ a i, pfok c a = some i → Cls K ((lkf K).ca c) ∧ NoAttr K ((lkf K).ca c) ((lkf K).fl a)) (l := cnl) ?_ c x hx a i hi
        exact ⟨AllL.get (P := fun a (_ : Bool) => Cls K ((lkf K).ca 1) ∧ NoAttr K ((lkf K).ca 1) ((lkf K).fl a)) ⟨⟨by show Cls K (coOf K (cnm 1)); rw [show coOf K (cnm 1) = C1 from eC1]; exact ⟨pg1, hd1, po1, sa1⟩, by show NoAttr K (coOf K (cnm 1)) _; rw [show coOf K (cnm 1) = C1 from eC1]; exact n1_15⟩, ⟨by show Cls K (coOf K (cnm 1)); rw [show coOf K (cnm 1) = C1 from eC1]; exact ⟨pg1, hd1, po1, sa1⟩, by show NoAttr K (coOf K (cnm 1)) _; rw [show coOf K (cnm 1) = C1 from eC1]; exact n1_16⟩, trivial⟩, AllL.get (P := fun a (_ : Bool) => Cls K ((lkf K).ca 2) ∧ NoAttr K ((lkf K).ca 2) ((lkf K).fl a)) ⟨⟨by show Cls K (coOf K (cnm 2)); rw [show coOf K (cnm 2) = C2 from eC2]; exact ⟨pg2, hd2, po2, sa2⟩, by show NoAttr K (coOf K (cnm 2)) _; rw [show coOf K (cnm 2) = C2 from eC2]; exact n2_17⟩, ⟨by show Cls K (coOf K (cnm 2)); rw [show coOf K (cnm 2) = C2 from eC2]; exact ⟨pg2, hd2, po2, sa2⟩, by show NoAttr K (coOf K (cnm 2)) _; rw [show coOf K (cnm 2) = C2 from eC2]; exact n2_18⟩, trivial⟩, trivial⟩⟩
      rs := fun c x ns h => AllL.get (P := fun c (q : Str × List Str) => RsF K mg (lkf K) c q.1) (l := xnl) trivial c (x, ns) h
      xm := fun c x ns h => AllL.get (P := fun c (q : Str × List Str) => (lkf K).xok c = true ∧ mg q.1 = some ((lkf K).xc c) ∧ (lkf K).xf c = q.2 ∧ (q.2 ≠ [] → ∃ c0, (lkf K).xc c = .ref c0 ∧ XfC K c0 ∧ ∀ nm ∈ q.2, PySem.W.findIn K (.ref c0) nm = some none)) (l := xnl) trivial c (x, ns) h
      xi := fun c q hk hq => by have hk2 : ([] : List Nat).contains c = true := hk; cases hk2
      sb := fun c' c b q hk hq h => by
        have hc2 : (xnl.lookup c').isSome = true := hk
        obtain ⟨x, hx⟩ := Option.isSome_iff_exists.mp hc2
        refine AllL.get (P := fun c' _ => ∀ c (q : Str × List Str), xnl.lookup c = some q → ∀ b, psub c' c = some b → PySem.W.exmOne K ((lkf K).xc c') ((lkf K).xc c) = some b) (l := xnl) ?_ c' x hx c q hq b h
        exact trivial }
  refine ⟨PySem.W.fnOf "law" "law" (defArgs s1006) (defBody s1006) (defScope s1006) .none kV1006 dc1006 pm1006 an1006 cd1006 ct1006, fun s v => .of_eq rfl, fun base _ _ => ?_⟩
  exact step (P := l.prog) (w := w) (base := base) hL (n := 5) (link hL 5) (i := 1006) rfl F1006 sc1006 rfl rfl ck1006
theorem small_room : Room (2 * 6 + 2) callerA := ⟨rfl, by decide, by decide⟩
end My
open PySem PySem.W PyProof.Rows
set_option maxRecDepth 100000 in
set_option maxHeartbeats 0 in
theorem PySem.Challenge.cw_firmground_k18_clocks_and_ends_holds : PySem.Challenge.rw_firmground_k18_clocks_and_ends.Holds := by
  w_on; o_law; k_head; (case hw => w_witness2)
  k_fill
  refine PM.pm_walk (l := PySem.Challenge.rw_firmground_k18_clocks_and_ends) (G := My.UP My.lp) (depth := 6) (lawi := 1006) (lkf := My.lkf) (fun _ => rfl) (fun _ => rfl) rfl rfl My.small_room (fun w h Y => PySem.W.kIn_of Y) ?F My.law_true
  case F =>
    intro w mg fa h KX G hmg
    refine' My.all_mk KX G hmg ?aC1 ?aC2 ?a35 ?i35 ?l35 ?c35 ?k35 ?a36 ?i36 ?l36 ?c36 ?k36 ?a37 ?i37 ?l37 ?c37 ?k37 ?a38 ?i38 ?l38 ?c38 ?k38 ?a39 ?i39 ?l39 ?c39 ?k39 ?a40 ?i40 ?l40 ?c40 ?k40 ?a41 ?i41 ?l41 ?c41 ?k41 ?a42 ?i42 ?l42 ?c42 ?k42 ?a43 ?i43 ?l43 ?c43 ?k43 ?a44 ?i44 ?l44 ?c44 ?k44 ?a45 ?i45 ?l45 ?c45 ?k45 ?a46 ?i46 ?l46 ?c46 ?k46 ?a14 ?l14 ?c14 ?k14 ?a47 ?l47 ?c47 ?k47 ?a1000 ?l1000 ?c1000 ?k1000 ?a1001 ?l1001 ?c1001 ?k1001 ?a1002 ?l1002 ?c1002 ?k1002 ?a1003 ?l1003 ?c1003 ?k1003 ?a1004 ?l1004 ?c1004 ?k1004 ?a1005 ?l1005 ?c1005 ?k1005 ?a1006 ?l1006 ?c1006 ?k1006 ?pg1 ?hd1 ?po1 ?sa1 ?mk1 ?kc1 ?n1_15 ?n1_16 ?pg2 ?hd2 ?po2 ?sa2 ?mk2 ?kc2 ?n2_17 ?n2_18 ?z0 ?z1 ?z2 ?z3 ?z4 ?z5 ?z6 ?z7 ?z8 ?z9 ?z10 ?z11 ?z12 ?z13
    (case aC1 => k_is); (case aC2 => k_is); (case a35 => k_is); (case i35 => k_is); (case l35 => k_is); (case c35 => k_is); (case k35 => k_is); (case a36 => k_is); (case i36 => k_is); (case l36 => k_is); (case c36 => k_is); (case k36 => k_is); (case a37 => k_is); (case i37 => k_is); (case l37 => k_is); (case c37 => k_is); (case k37 => k_is); (case a38 => k_is); (case i38 => k_is); (case l38 => k_is); (case c38 => k_is); (case k38 => k_is); (case a39 => k_is); (case i39 => k_is); (case l39 => k_is); (case c39 => k_is); (case k39 => k_is); (case a40 => k_is); (case i40 => k_is); (case l40 => k_is); (case c40 => k_is); (case k40 => k_is); (case a41 => k_is); (case i41 => k_is); (case l41 => k_is); (case c41 => k_is); (case k41 => k_is); (case a42 => k_is); (case i42 => k_is); (case l42 => k_is); (case c42 => k_is); (case k42 => k_is); (case a43 => k_is); (case i43 => k_is); (case l43 => k_is); (case c43 => k_is); (case k43 => k_is); (case a44 => k_is); (case i44 => k_is); (case l44 => k_is); (case c44 => k_is); (case k44 => k_is); (case a45 => k_is); (case i45 => k_is); (case l45 => k_is); (case c45 => k_is); (case k45 => k_is); (case a46 => k_is); (case i46 => k_is); (case l46 => k_is); (case c46 => k_is); (case k46 => k_is); (case a14 => k_is); (case l14 => k_is); (case c14 => k_is); (case k14 => k_is); (case a47 => k_is); (case l47 => k_is); (case c47 => k_is); (case k47 => k_is); (case a1000 => k_is); (case l1000 => k_is); (case c1000 => k_is); (case k1000 => k_is); (case a1001 => k_is); (case l1001 => k_is); (case c1001 => k_is); (case k1001 => k_is); (case a1002 => k_is); (case l1002 => k_is); (case c1002 => k_is); (case k1002 => k_is); (case a1003 => k_is); (case l1003 => k_is); (case c1003 => k_is); (case k1003 => k_is); (case a1004 => k_is); (case l1004 => k_is); (case c1004 => k_is); (case k1004 => k_is); (case a1005 => k_is); (case l1005 => k_is); (case c1005 => k_is); (case k1005 => k_is); (case a1006 => k_is); (case l1006 => k_is); (case c1006 => k_is); (case k1006 => k_is); (case pg1 => k_is); (case hd1 => k_is); (case po1 => k_is); (case sa1 => k_is); (case mk1 => k_is); (case kc1 => k_is); (case n1_15 => k_is); (case n1_16 => k_is); (case pg2 => k_is); (case hd2 => k_is); (case po2 => k_is); (case sa2 => k_is); (case mk2 => k_is); (case kc2 => k_is); (case n2_17 => k_is); (case n2_18 => k_is); (case z0 => k_is); (case z1 => k_is); (case z2 => k_is); (case z3 => k_is); (case z4 => k_is); (case z5 => k_is); (case z6 => k_is); (case z7 => k_is); (case z8 => k_is); (case z9 => k_is); (case z10 => k_is); (case z11 => k_is); (case z12 => k_is); (case z13 => k_is)
