import PyProof.Rows.All
import Wide.All
import OpenK.AllK
import Wide.FinOn
import HandS.ForMost
import HandS.Exc
import HandS.TryMany
import HandS.WordsExc
import HandS.IsInst
import HandS.Wide
import HandS.TupAny
import HandS.TupMul
import HandS.Zip
import HandS.Style
import HandS.CallSlots
import HandS.TupLe
import HandS.Flow
import PyProof.TypeEq
import HandS.RaiseMore
import HandS.NoneIn
import PySem.Challenge.RW_firmground_k02_payloads
set_option Elab.async false
set_option linter.all false
set_option maxRecDepth 100000
/-! PM: a small language over the hand layer: values as trees, a store of numbered objects, what a body asks as a function of its tree. -/
namespace PM
open PySem PySem.Spec PyProof.Rows L2

/-! ### values, the store -/
inductive Val where
  | non | bl (b : Bool) | int (i : Int) | str (x : Str) | tup (xs : List Val) | loc (n : Nat) | cst (n : Nat) (x : Str)
/-- where a constant of the program's top stands -/
def coOf (K : PySem.W.Frag) (x : Str) : Addr := match PySem.W.nsIn K mainGlobals x with
  | some (some (.ref a)) => a
  | _ => 0
inductive SObj where
  | lst (xs : List Val) | rol (xs : List Val) | dK (kvs : List (Key × Val)) | ins (c : Nat) (fs : List (Nat × Val))
abbrev Sto := List SObj
abbrev LE := List (Option Val)
def SObj.mut : SObj → Bool
  | .rol _ => false
  | _ => true

/-! ### the relation -/
mutual
def Rv (K : PySem.W.Frag) (ι : List Addr) (H : Hp) : Val → V → Prop
  | .non, v => v = .non
  | .bl b, v => v = .bl b
  | .int i, v => v = .int i
  | .str x, v => v = .str x
  | .tup xs, v => ∃ a vs, v = .ref a ∧ SqT K H a vs ∧ Rvs K ι H xs vs
  | .loc n, v => ∃ a, v = .ref a ∧ ι[n]? = some a
  | .cst _ x, v => v = .ref (coOf K x)
def Rvs (K : PySem.W.Frag) (ι : List Addr) (H : Hp) : List Val → List V → Prop
  | [], vs => vs = []
  | x :: xs, vs => ∃ v ws, vs = v :: ws ∧ Rv K ι H x v ∧ Rvs K ι H xs ws
end
def Grow (K : PySem.W.Frag) (ι : List Addr) (H : Hp) (ι' : List Addr) (H' : Hp) : Prop :=
  (∃ t, ι' = ι ++ t) ∧ ∀ a vs, SqT K H a vs → SqT K H' a vs
section
variable {K : PySem.W.Frag} {ι ι' ι'' : List Addr} {H H' H'' : Hp}
theorem Grow.refl : Grow K ι H ι H := ⟨⟨[], by simp⟩, fun _ _ h => h⟩
theorem Grow.trans (a : Grow K ι H ι' H') (b : Grow K ι' H' ι'' H'') : Grow K ι H ι'' H'' := by
  obtain ⟨⟨t, rfl⟩, a2⟩ := a
  obtain ⟨⟨u, rfl⟩, b2⟩ := b
  exact ⟨⟨t ++ u, by simp⟩, fun x y h => b2 x y (a2 x y h)⟩
theorem Grow.get (g : Grow K ι H ι' H') {n : Nat} {a : Addr} (h : ι[n]? = some a) : ι'[n]? = some a := by
  obtain ⟨⟨t, rfl⟩, _⟩ := g
  obtain ⟨h1, h2⟩ := List.getElem?_eq_some_iff.mp h
  rw [List.getElem?_append_left h1]
  exact h
mutual
theorem Rv.mono (g : Grow K ι H ι' H') : ∀ (x : Val) {v : V}, Rv K ι H x v → Rv K ι' H' x v
  | .non, v, h => by simpa [Rv] using h
  | .bl b, v, h => by simpa [Rv] using h
  | .int i, v, h => by simpa [Rv] using h
  | .str x, v, h => by simpa [Rv] using h
  | .tup xs, v, h => by
    simp only [Rv] at h ⊢
    obtain ⟨a, vs, e, hs, hr⟩ := h
    exact ⟨a, vs, e, g.2 _ _ hs, Rvs.mono g xs hr⟩
  | .loc n, v, h => by
    simp only [Rv] at h ⊢
    obtain ⟨a, e, hn⟩ := h
    exact ⟨a, e, g.get hn⟩
  | .cst n x, v, h => by simpa [Rv] using h
theorem Rvs.mono (g : Grow K ι H ι' H') : ∀ (xs : List Val) {vs : List V}, Rvs K ι H xs vs → Rvs K ι' H' xs vs
  | [], vs, h => by simpa [Rvs] using h
  | x :: xs, vs, h => by
    simp only [Rvs] at h ⊢
    obtain ⟨v, ws, e, h1, h2⟩ := h
    exact ⟨v, ws, e, Rv.mono g x h1, Rvs.mono g xs h2⟩
end
theorem Rvs.len : ∀ {xs : List Val} {vs : List V}, Rvs K ι H xs vs → xs.length = vs.length
  | [], vs, h => by simp only [Rvs] at h; subst h; rfl
  | x :: xs, vs, h => by
    simp only [Rvs] at h
    obtain ⟨v, ws, rfl, _, h2⟩ := h
    simp [Rvs.len h2]
theorem Rvs.get : ∀ {xs : List Val} {vs : List V} {i : Nat} {x : Val}, Rvs K ι H xs vs → xs[i]? = some x → ∃ v, vs[i]? = some v ∧ Rv K ι H x v
  | [], _, _, _, _, e => by simp at e
  | y :: xs, vs, 0, x, h, e => by
    simp only [Rvs] at h
    obtain ⟨v, ws, rfl, h1, _⟩ := h
    simp at e
    subst e
    exact ⟨v, rfl, h1⟩
  | y :: xs, vs, i + 1, x, h, e => by
    simp only [Rvs] at h
    obtain ⟨v, ws, rfl, _, h2⟩ := h
    obtain ⟨w, e1, r⟩ := Rvs.get (i := i) h2 (by simpa using e)
    exact ⟨w, by simpa using e1, r⟩
theorem Rvs.append : ∀ {xs ys : List Val} {vs ws : List V}, Rvs K ι H xs vs → Rvs K ι H ys ws → Rvs K ι H (xs ++ ys) (vs ++ ws)
  | [], ys, vs, ws, h, k => by simp only [Rvs] at h; subst h; exact k
  | x :: xs, ys, vs, ws, h, k => by
    simp only [Rvs] at h
    obtain ⟨v, us, rfl, h1, h2⟩ := h
    simp only [List.cons_append, Rvs]
    exact ⟨v, us ++ ws, rfl, h1, Rvs.append h2 k⟩
theorem Rvs.one {x : Val} {v : V} (h : Rv K ι H x v) : Rvs K ι H [x] [v] := by
  simp only [Rvs]
  exact ⟨v, [], rfl, h, rfl⟩
theorem Rvs.nil : Rvs K ι H [] [] := by simp only [Rvs]
theorem Rvs.cons {x : Val} {v : V} {xs : List Val} {vs : List V} (h : Rv K ι H x v) (k : Rvs K ι H xs vs) : Rvs K ι H (x :: xs) (v :: vs) := by
  simp only [Rvs]
  exact ⟨v, vs, rfl, h, k⟩
theorem Rvs.drop : ∀ (n : Nat) {xs : List Val} {vs : List V}, Rvs K ι H xs vs → Rvs K ι H (xs.drop n) (vs.drop n)
  | 0, _, _, h => h
  | n + 1, [], vs, h => by simp only [Rvs] at h; subst h; exact Rvs.nil
  | n + 1, x :: xs, vs, h => by
    simp only [Rvs] at h
    obtain ⟨v, us, rfl, h1, h2⟩ := h
    exact Rvs.drop n h2
theorem Rvs.take : ∀ (n : Nat) {xs : List Val} {vs : List V}, Rvs K ι H xs vs → Rvs K ι H (xs.take n) (vs.take n)
  | 0, _, _, h => Rvs.nil
  | n + 1, [], vs, h => by simp only [Rvs] at h; subst h; exact Rvs.nil
  | n + 1, x :: xs, vs, h => by
    simp only [Rvs] at h
    obtain ⟨v, us, rfl, h1, h2⟩ := h
    exact Rvs.cons h1 (Rvs.take n h2)
theorem Rvs.set : ∀ {xs : List Val} {vs : List V} {x : Val} {v : V} (i : Nat), Rvs K ι H xs vs → Rv K ι H x v → Rvs K ι H (xs.set i x) (vs.set i v)
  | [], vs, x, v, i, h, k => by simp only [Rvs] at h; subst h; exact Rvs.nil
  | y :: xs, vs, x, v, 0, h, k => by
    simp only [Rvs] at h
    obtain ⟨w, us, rfl, h1, h2⟩ := h
    exact Rvs.cons k h2
  | y :: xs, vs, x, v, i + 1, h, k => by
    simp only [Rvs] at h
    obtain ⟨w, us, rfl, h1, h2⟩ := h
    exact Rvs.cons h1 (Rvs.set i h2 k)
end

/-! ### the store at the heap -/
/-- the linking: the written part, classes, fields, exception classes -/
structure Lk where
  K : PySem.W.Frag
  ca : Nat → Addr
  fl : Nat → Str
  xc : Nat → Value
  finj : ∀ i j, fl i = fl j → i = j
def RoL (K : PySem.W.Frag) (H : Hp) (a : Addr) (vs : List V) : Prop :=
  (∃ o, H a = some (.frz o (.lst vs))) ∨
    ∃ (o : Obj) (its : Array Value) (n : Nat), K.lookup a = some o ∧ o.cls = .type "list" ∧ o.dict = none ∧ o.data = .seq its n ∧ its.size ≤ sizeLine ∧ Vals vs its.toList
theorem RoL.sq {K : PySem.W.Frag} {H : Hp} {a : Addr} {vs : List V} (h : RoL K H a vs) : SqL K H a vs := by
  rcases h with ⟨o, h⟩ | h
  · exact .inl (.inr ⟨o, h⟩)
  · exact .inr h
def Ro (L : Lk) (ι : List Addr) (H : Hp) (a : Addr) : SObj → Prop
  | .lst xs => ∃ vs, H a = some (.lst vs) ∧ Rvs L.K ι H xs vs
  | .rol xs => ∃ vs, RoL L.K H a vs ∧ Rvs L.K ι H xs vs
  | .dK kvs => ∃ ws, H a = some (.dK ws) ∧ ws.map (·.1) = kvs.map (·.1) ∧ Rvs L.K ι H (kvs.map (·.2)) (ws.map (·.2))
  | .ins c fs => ∃ dx ws, H a = some (.ins (L.ca c) dx ws) ∧ ws.map (·.1) = fs.map (fun p => L.fl p.1) ∧ Rvs L.K ι H (fs.map (·.2)) (ws.map (·.2))
structure Rel (L : Lk) (ι : List Addr) (S : Sto) (H : Hp) : Prop where
  len : ι.length = S.length
  inj : ∀ (n m : Nat) (a : Addr) (o o' : SObj), ι[n]? = some a → ι[m]? = some a → S[n]? = some o → S[m]? = some o' → o.mut = true → o'.mut = true → n = m
  obj : ∀ (n : Nat) (o : SObj) (a : Addr), S[n]? = some o → ι[n]? = some a → Ro L ι H a o
def RelE (K : PySem.W.Frag) (ι : List Addr) (H : Hp) (ρ : LE) (σ : L2.St) : Prop :=
  ρ.length = σ.length ∧ ∀ (i : Nat) (x : Val), ρ[i]? = some (some x) → ∃ v, σ[i]? = some (some v) ∧ Rv K ι H x v
section
variable {L : Lk} {K : PySem.W.Frag} {ι ι' : List Addr} {H H' : Hp} {S : Sto} {ρ : LE} {σ : L2.St}
theorem RelE.mono (g : Grow K ι H ι' H') (h : RelE K ι H ρ σ) : RelE K ι' H' ρ σ :=
  ⟨h.1, fun i x e => let ⟨v, e1, r⟩ := h.2 i x e; ⟨v, e1, Rv.mono g x r⟩⟩
theorem RelE.set (h : RelE K ι H ρ σ) {x : Val} {v : V} (r : Rv K ι H x v) (i : Nat) : RelE K ι H (ρ.set i (some x)) (σ.set i (some v)) := by
  refine ⟨by simp [h.1], fun j y e => ?_⟩
  rw [List.getElem?_set] at e
  rw [List.getElem?_set]
  by_cases hij : i = j
  · subst hij
    simp only [if_true] at e ⊢
    by_cases hl : i < ρ.length
    · rw [if_pos hl] at e
      rw [if_pos (by rw [← h.1]; exact hl)]
      cases e
      exact ⟨v, rfl, r⟩
    · rw [if_neg hl] at e
      cases e
  · rw [if_neg hij] at e ⊢
    exact h.2 j y e
theorem Rel.addr (R : Rel L ι S H) {n : Nat} {o : SObj} (h : S[n]? = some o) : ∃ a, ι[n]? = some a ∧ Ro L ι H a o := by
  have hl : n < ι.length := by
    rw [R.len]
    exact (List.getElem?_eq_some_iff.mp h).1
  exact ⟨ι[n], by simp [hl], R.obj n o _ h (by simp [hl])⟩
theorem Ro.mut_some {a : Addr} {o : SObj} (h : Ro L ι H a o) (m : o.mut = true) : ∃ u, H a = some u := by
  cases o with
  | lst xs => obtain ⟨vs, e, _⟩ := h; exact ⟨_, e⟩
  | rol xs => exact absurd m (by simp [SObj.mut])
  | dK xs => obtain ⟨vs, e, _⟩ := h; exact ⟨_, e⟩
  | ins c xs => obtain ⟨dx, vs, e, _⟩ := h; exact ⟨_, e⟩
/-- an object's relation stays where its place in the heap stays -/
theorem Ro.keep {a : Addr} {o : SObj} (g : Grow L.K ι H ι' H') (hk : ∀ u, H a = some u → H' a = some u) (h : Ro L ι H a o) : Ro L ι' H' a o := by
  cases o with
  | lst xs => obtain ⟨vs, e, r⟩ := h; exact ⟨vs, hk _ e, Rvs.mono g _ r⟩
  | rol xs =>
    obtain ⟨vs, e, r⟩ := h
    refine ⟨vs, ?_, Rvs.mono g _ r⟩
    rcases e with ⟨ob, e⟩ | e
    · exact .inl ⟨ob, hk _ e⟩
    · exact .inr e
  | dK xs => obtain ⟨vs, e, e2, r⟩ := h; exact ⟨vs, hk _ e, e2, Rvs.mono g _ r⟩
  | ins c xs => obtain ⟨dx, vs, e, e2, r⟩ := h; exact ⟨dx, vs, hk _ e, e2, Rvs.mono g _ r⟩
theorem rd_upd {a p : Addr} {o u : HO} (hn : H p = none) (h : Rd H a u) : Rd (upd H p o) a u := by
  rcases h with h | ⟨z, h⟩
  · exact .inl (by rw [upd_ne (ne_of_none h hn)]; exact h)
  · exact .inr ⟨z, by rw [upd_ne (ne_of_none h hn)]; exact h⟩
theorem grow_new {p : Addr} {o : HO} (hn : H p = none) : Grow K ι H ι (upd H p o) :=
  ⟨⟨[], by simp⟩, fun a vs h => by
    rcases h with h | h
    · exact .inl (rd_upd hn h)
    · exact .inr h⟩
theorem grow_ext {p : Addr} {o : HO} (hn : H p = none) (q : Addr) : Grow K ι H (ι ++ [q]) (upd H p o) :=
  ⟨⟨[q], rfl⟩, (grow_new (ι := ι) hn).2⟩
/-- a new object that the store doesn't name (a tuple) -/
theorem Rel.untold (R : Rel L ι S H) {p : Addr} {o : HO} (hn : H p = none) : Rel L ι S (upd H p o) :=
  ⟨R.len, R.inj, fun n ob a h1 h2 => (R.obj n ob a h1 h2).keep (grow_new hn) fun u e => by rw [upd_ne (ne_of_none e hn)]; exact e⟩
/-- a new object of the store -/
theorem Rel.alloc (R : Rel L ι S H) {p : Addr} {o : HO} {ob : SObj} (hn : H p = none) (hr : Ro L (ι ++ [p]) (upd H p o) p ob) : Rel L (ι ++ [p]) (S ++ [ob]) (upd H p o) := by
  have old : ∀ (n : Nat) (ob' : SObj) (a : Addr), S[n]? = some ob' → ι[n]? = some a → ob'.mut = true → a ≠ p := fun n ob' a h1 h2 m => by
    obtain ⟨u, e⟩ := (R.obj n ob' a h1 h2).mut_some m
    exact ne_of_none e hn
  have sp : ∀ (n : Nat) (o' : SObj), (S ++ [ob])[n]? = some o' → S[n]? = some o' ∧ n < S.length ∨ n = S.length ∧ o' = ob := fun n o' h => by
    by_cases hl : n < S.length
    · rw [List.getElem?_append_left hl] at h; exact .inl ⟨h, hl⟩
    · rw [List.getElem?_append_right (by omega)] at h
      obtain ⟨h1, h2⟩ := List.getElem?_eq_some_iff.mp h
      simp at h1 h2
      exact .inr ⟨by omega, h2.symm⟩
  have ip : ∀ (n : Nat) (a : Addr), (ι ++ [p])[n]? = some a → n < S.length → ι[n]? = some a := fun n a h hl => by
    rw [List.getElem?_append_left (by rw [R.len]; exact hl)] at h; exact h
  have il : ∀ (a : Addr), (ι ++ [p])[S.length]? = some a → a = p := fun a h => by
    rw [List.getElem?_append_right (by rw [R.len]; exact Nat.le_refl _)] at h
    rw [R.len] at h
    simp at h
    exact h.symm
  refine ⟨by simp [R.len], fun n m a o1 o2 h1 h2 h3 h4 m1 m2 => ?_, fun n o' a h1 h2 => ?_⟩
  · rcases sp n o1 h3 with ⟨e1, l1⟩ | ⟨e1, e1'⟩ <;> rcases sp m o2 h4 with ⟨e2, l2⟩ | ⟨e2, e2'⟩
    · exact R.inj n m a o1 o2 (ip n a h1 l1) (ip m a h2 l2) e1 e2 m1 m2
    · rw [e2] at h2
      exact absurd (il a h2) (old n o1 a e1 (ip n a h1 l1) m1)
    · rw [e1] at h1
      exact absurd (il a h1) (old m o2 a e2 (ip m a h2 l2) m2)
    · omega
  · rcases sp n o' h1 with ⟨e1, l1⟩ | ⟨e1, e1'⟩
    · exact (R.obj n o' a e1 (ip n a h2 l1)).keep (grow_ext hn p) fun u e => by rw [upd_ne (ne_of_none e hn)]; exact e
    · rw [e1] at h2
      obtain rfl := il a h2
      rw [e1']
      exact hr
theorem sqt_upd {a b : Addr} {o u : HO} {vs : List V} (h : H b = some o) (ho : (∀ xs, o ≠ .tup xs) ∧ ∀ z xs, o ≠ .frz z xs) (k : SqT K H a vs) : SqT K (upd H b u) a vs := by
  rcases k with (k | ⟨z, k⟩) | k
  · exact .inl (.inl (by rw [upd_ne (ne_of k h (fun e => ho.1 vs e.symm))]; exact k))
  · exact .inl (.inr ⟨z, by rw [upd_ne (ne_of k h (fun e => ho.2 z _ e.symm))]; exact k⟩)
  · exact .inr k
theorem grow_upd {b : Addr} {o u : HO} (h : H b = some o) (ho : (∀ xs, o ≠ .tup xs) ∧ ∀ z xs, o ≠ .frz z xs) : Grow K ι H ι (upd H b u) :=
  ⟨⟨[], by simp⟩, fun a vs k => sqt_upd h ho k⟩
/-- an object of the store changes in its place -/
theorem Rel.write (R : Rel L ι S H) {n : Nat} {a : Addr} {ob ob' : SObj} {o u : HO} (hS : S[n]? = some ob) (ha : ι[n]? = some a) (m : ob.mut = true) (m' : ob'.mut = true) (h : H a = some o)
    (ho : (∀ xs, o ≠ .tup xs) ∧ ∀ z xs, o ≠ .frz z xs) (hr : Ro L ι (upd H a u) a ob') : Rel L ι (S.set n ob') (upd H a u) := by
  have gs : ∀ (k : Nat) (o' : SObj), (S.set n ob')[k]? = some o' → (k = n ∧ o' = ob') ∨ (k ≠ n ∧ S[k]? = some o') := fun k o' e => by
    rw [List.getElem?_set] at e
    by_cases hk : n = k
    · rw [if_pos hk] at e
      split at e
      · exact .inl ⟨hk.symm, (Option.some.inj e).symm⟩
      · cases e
    · rw [if_neg hk] at e
      exact .inr ⟨fun z => hk z.symm, e⟩
  refine ⟨by simp [R.len], fun i j b o1 o2 h1 h2 h3 h4 m1 m2 => ?_, fun k o' b h1 h2 => ?_⟩
  · rcases gs i o1 h3 with ⟨e1, e1'⟩ | ⟨e1, e1'⟩ <;> rcases gs j o2 h4 with ⟨e2, e2'⟩ | ⟨e2, e2'⟩
    · omega
    · rw [e1] at h1 ⊢
      exact R.inj n j b ob o2 h1 h2 hS e2' m m2
    · rw [e2] at h2 ⊢
      exact R.inj i n b o1 ob h1 h2 e1' hS m1 m
    · exact R.inj i j b o1 o2 h1 h2 e1' e2' m1 m2
  · rcases gs k o' h1 with ⟨e1, e1'⟩ | ⟨e1, e1'⟩
    · rw [e1, ha] at h2
      cases h2
      rw [e1']
      exact hr
    · have r := R.obj k o' b e1' h2
      by_cases hm : o'.mut = true
      · have nb : b ≠ a := fun z => by
          subst z
          exact e1 (R.inj k n b o' ob h2 ha e1' hS hm m)
        exact r.keep (grow_upd h ho) fun u e => by rw [upd_ne nb]; exact e
      · cases o' with
        | rol xs =>
          obtain ⟨vs, e, rr⟩ := r
          refine ⟨vs, ?_, Rvs.mono (grow_upd h ho) _ rr⟩
          rcases e with ⟨z, e⟩ | e
          · exact .inl ⟨z, by rw [upd_ne (ne_of e h (fun q => ho.2 _ _ q.symm))]; exact e⟩
          · exact .inr e
        | lst xs => exact absurd rfl hm
        | dK xs => exact absurd rfl hm
        | ins c xs => exact absurd rfl hm
end
end PM

namespace PM
open PySem PySem.Spec PyProof.Rows L2

inductive BOp where | add | sub | mul | fdiv | mod | pow
  deriving DecidableEq
inductive COp where | eq | ne | lt | le | gt | ge | is_ | nis | in_ | nin
  deriving DecidableEq
inductive Bi where | len | int | abs | min2 | max2 | str | tuple | list | all | any | ord
  deriving DecidableEq
inductive Mt where | append | extend | pop | get1
  deriving DecidableEq
inductive ItK where | seq | range | range2 | enum | zip
  deriving DecidableEq
inductive Tg where | nm (i : Nat) | tp (is : List Nat)
inductive Ty where | int | bool | str | tuple | list
  deriving DecidableEq
inductive ME where
  | var (i : Nat) | lit (v : Val) | glo (x : Nat)
  | neg (a : ME) | not (a : ME) | bool (k : Bool) (es : List ME)
  | bin (op : BOp) (a b : ME) | cmp (op : COp) (a b : ME) | chain (o1 o2 : COp) (a b c : ME)
  | ifx (t a b : ME) | tup (es : List ME) | lst (es : List ME)
  | ix (a i : ME) | sl (a : ME) (lo hi : List ME)
  | ist (a : ME) (T : Ty) | tyc (k : Bool) (a : ME) (T : Ty)
  | bi (f : Bi) (es : List ME) | mt (m : Mt) (o : ME) (es : List ME) | call (f : Nat) (es : List ME)
  | lc (k : ItK) (its : List ME) (own : List Nat) (tg : Tg) (ifs : List ME) (elt : ME)
inductive MS where
  | asg (tg : Tg) (e : ME) | sub (o i e : ME) | ex (e : ME) | ret (e : ME) | retN
  | ite (c : ME) (a b : List MS) | whl (c : ME) (b : List MS) | fr (tg : Tg) (k : ItK) (its : List ME) (b : List MS)
  | brk | cnt | pass

abbrev VQ := Val → Sto → Prop
abbrev XQ := Nat → Sto → Prop
structure GE where
  glo : Nat → Val
  cst : Nat → Option (Str × List (Str × Val))
structure Cenv where
  call : Nat → List Val → Sto → VQ → XQ → Prop
  glo : Nat → Val
  cst : Nat → Option (Str × List (Str × Val))

/-! ### operations on values -/
def Val.flat : Val → Bool
  | .non => true | .bl _ => true | .int _ => true | .str _ => true | _ => false
def Val.isNon : Val → Bool
  | .non => true | _ => false
def lstAt (S : Sto) (n : Nat) : Option (List Val) := match S[n]? with
  | some (.lst xs) => some xs
  | some (.rol xs) => some xs
  | _ => none
def mlAt (S : Sto) (n : Nat) : Option (List Val) := match S[n]? with
  | some (.lst xs) => some xs
  | _ => none
def dat (S : Sto) : Nat → Val → Option PyData
  | 0, _ => none
  | _ + 1, .non => some .none
  | _ + 1, .bl b => some (.bool b)
  | _ + 1, .int i => some (.int i)
  | _ + 1, .str x => some (.str x)
  | n + 1, .tup xs => (xs.mapM (dat S n)).map PyData.tuple
  | n + 1, .loc l => match lstAt S l with
    | some xs => (xs.mapM (dat S n)).map PyData.list
    | none => none
  | _ + 1, .cst _ _ => none
def eqF : Val → Val → Bool
  | .non, .non => true
  | .bl a, .bl b => a == b
  | .bl a, .int b => (if a then 1 else 0) == b
  | .int a, .bl b => a == (if b then 1 else 0)
  | .int a, .int b => a == b
  | .str a, .str b => a == b
  | _, _ => false
def eqS (S : Sto) (x y : Val) (Q : Bool → Prop) : Prop :=
  if x.flat && y.flat then Q (eqF x y) else match dat S 60 x, dat S 60 y with
    | some d, some e => SeqAt.shaped d = true ∧ SeqAt.shaped e = true ∧ Q (PyData.eqv d e)
    | _, _ => False
def itemsOf (S : Sto) : Val → Option (List Val)
  | .tup xs => some xs
  | .loc n => lstAt S n
  | _ => none
def Val.isStr : Val → Bool | .str _ => true | _ => false
def cmpS (op : COp) (x y : Val) (S : Sto) (Q : Bool → Prop) : Prop :=
  match op, x, y with
  | .eq, x, y => eqS S x y Q
  | .ne, x, y => eqS S x y (fun b => Q (!b))
  | .lt, .int i, .int j => Q (decide (i < j))
  | .le, .int i, .int j => Q (decide (i ≤ j))
  | .gt, .int i, .int j => Q (decide (j < i))
  | .ge, .int i, .int j => Q (decide (j ≤ i))
  | .is_, x, .non => Q x.isNon
  | .nis, x, .non => Q (!x.isNon)
  | .is_, .bl a, .bl b => Q (a == b)
  | .nis, .bl a, .bl b => Q (!(a == b))
  | .in_, x, y => match itemsOf S y with
    | some xs => x.flat = true ∧ xs.all Val.flat = true ∧ Q (xs.any fun z => eqF z x)
    | none => False
  | .nin, x, y => match itemsOf S y with
    | some xs => x.flat = true ∧ xs.all Val.flat = true ∧ Q (!(xs.any fun z => eqF z x))
    | none => False
  | _, _, _ => False
def big : Nat := 1000000
def binS (op : BOp) (x y : Val) (S : Sto) (Q : VQ) : Prop :=
  match op, x, y with
  | .add, .int i, .int j => Q (.int (i + j)) S
  | .sub, .int i, .int j => Q (.int (i - j)) S
  | .mul, .int i, .int j => CMul i j ∧ Q (.int (i * j)) S
  | .fdiv, .int i, .int j => (0 < j ∧ j < 2 ^ 80) ∧ Q (.int (i / j)) S
  | .mod, .int i, .int j => 0 < j ∧ Q (.int (i % j)) S
  | .pow, .int i, .int j => (0 ≤ j ∧ j ≤ 1000000 ∧ i.natAbs < 2 ^ 64) ∧ Q (.int (i ^ j.toNat)) S
  | .add, .str a, .str b => a.length + b.length ≤ big ∧ Q (.str (a ++ b)) S
  | .add, .tup a, .tup b => a.length + b.length ≤ big ∧ Q (.tup (a ++ b)) S
  | .mul, .tup a, .int k => (a ≠ [] ∧ 2 ≤ k ∧ k ≤ 1000 ∧ a.length ≤ 1000) ∧ Q (.tup (List.replicate k.toNat a).flatten) S
  | .add, .loc a, .loc b => match mlAt S a, mlAt S b with
    | some xs, some ys => xs.length + ys.length ≤ big ∧ Q (.loc S.length) (S ++ [.lst (xs ++ ys)])
    | _, _ => False
  | _, _, _ => False
def atV (xs : List Val) (i : Int) : Option Val := (ixN xs.length i).bind fun j => xs[j]?
def ixS (x y : Val) (S : Sto) (Q : VQ) : Prop :=
  match y with
  | .int i => match x with
    | .str z => z.length ≤ big ∧ match L2.atI z.cps.toList i with
      | some c => Q (.str ⟨#[c]⟩) S
      | none => False
    | x => match itemsOf S x with
      | some xs => match atV xs i with
        | some v => Q v S
        | none => False
      | none => False
  | _ => False
def cutL (xs : List Val) (lo hi : Option Int) : List Val := (xs.drop (HT.sIx xs.length 0 lo)).take (HT.sIx xs.length xs.length hi - HT.sIx xs.length 0 lo)
def partS : List Val → Option (Option Int)
  | [] => some none
  | [.int i] => some (some i)
  | _ => none
def slS (x : Val) (l h : Option Int) (S : Sto) (Q : VQ) : Prop :=
  match x with
  | .tup xs => Q (.tup (cutL xs l h)) S
  | .str z => z.length ≤ big ∧ Q (.str (cutS z l h)) S
  | .loc n => match lstAt S n with
    | some xs => Q (.loc S.length) (S ++ [.lst (cutL xs l h)])
    | none => False
  | _ => False
def part (xs : List Val) (K : Option Int → Prop) : Prop := match partS xs with
  | some l => K l
  | none => False
def tyS (S : Sto) : Val → Option Ty
  | .bl _ => some .bool
  | .int _ => some .int
  | .str _ => some .str
  | .tup _ => some .tuple
  | .loc n => match lstAt S n with
    | some _ => some .list
    | none => none
  | .non => none
  | .cst _ _ => none
def Ty.py : Ty → String
  | .int => "int" | .bool => "bool" | .str => "str" | .tuple => "tuple" | .list => "list"
def tyN : Option Ty → String
  | some T => T.py
  | none => "NoneType"
def Bi.fv : Bi → Value
  | .len => .builtin "len" | .int => .type "int" | .abs => .builtin "abs" | .min2 => .builtin "min" | .max2 => .builtin "max" | .str => .type "str"
  | .tuple => .type "tuple" | .list => .type "list" | .all => .builtin "all" | .any => .builtin "any" | .ord => .builtin "ord"
def Bi.nm : Bi → Str
  | .len => "len" | .int => "int" | .abs => "abs" | .min2 => "min" | .max2 => "max" | .str => "str"
  | .tuple => "tuple" | .list => "list" | .all => "all" | .any => "any" | .ord => "ord"
def istS (S : Sto) (x : Val) (T : Ty) : Bool := match T with
  | .int => tyS S x == some .int || tyS S x == some .bool
  | T => tyS S x == some T
def tyB (k : Bool) (S : Sto) (x : Val) (T : Ty) : Bool := match k with
  | true => tyS S x == some T
  | false => !(tyS S x == some T)
/-- the value's class is known -/
def known (S : Sto) : Val → Bool
  | .loc n => (lstAt S n).isSome
  | .cst _ _ => false
  | _ => true
def tru (S : Sto) (x : Val) (Q : Bool → Prop) : Prop := match x with
  | .non => Q false
  | .bl b => Q b
  | .int i => Q (i != 0)
  | .str y => y.length ≤ big ∧ Q ((y.length : Int) != 0)
  | .tup xs => Q (!xs.isEmpty)
  | .loc n => match lstAt S n with
    | some xs => Q (!xs.isEmpty)
    | none => False
  | .cst _ _ => False
def blS : List Val → Option (List Bool)
  | [] => some []
  | .bl b :: r => (blS r).map (b :: ·)
  | _ => none
def biS (f : Bi) (xs : List Val) (S : Sto) (Q : VQ) : Prop :=
  match f, xs with
  | .len, [x] => match x with
    | .str y => y.length ≤ big ∧ Q (.int y.length) S
    | x => match itemsOf S x with
      | some xs => Q (.int xs.length) S
      | none => False
  | .int, [.int i] => Q (.int i) S
  | .int, [.bl k] => Q (.int (if k then 1 else 0)) S
  | .abs, [.int i] => Q (.int (if i < 0 then -i else i)) S
  | .min2, [.int i, .int j] => Q (.int (if j < i then j else i)) S
  | .max2, [.int i, .int j] => Q (.int (if j > i then j else i)) S
  | .str, [.int i] => i.natAbs.log2 < 1920 ∧ Q (.str (toString i)) S
  | .str, [.str x] => Q (.str x) S
  | .tuple, [.tup xs] => Q (.tup xs) S
  | .tuple, [.loc n] => match lstAt S n with
    | some xs => Q (.tup xs) S
    | none => False
  | .list, [x] => match itemsOf S x with
    | some xs => Q (.loc S.length) (S ++ [.lst xs])
    | none => False
  | .all, [.loc n] => match (lstAt S n).bind blS with
    | some bs => Q (.bl (bs.all id)) S
    | none => False
  | .any, [.loc n] => match (lstAt S n).bind blS with
    | some bs => Q (.bl (bs.any id)) S
    | none => False
  | .ord, [.str x] => x.length = 1 ∧ Q (.int (x.cps.getD 0 0 : Nat)) S
  | _, _ => False
/-- the receiver is of the method's type -/
def mtT (cst : Nat → Option (Str × List (Str × Val))) (m : Mt) (S : Sto) (x : Val) : Prop := match m, x with
  | .append, .loc n => (lstAt S n).isSome = true
  | .extend, .loc n => (lstAt S n).isSome = true
  | .pop, .loc n => (lstAt S n).isSome = true
  | .get1, .cst n y => ∃ kvs, cst n = some (y, kvs)
  | _, _ => False
/-- a method of a built-in type -/
def mtS (cst : Nat → Option (Str × List (Str × Val))) (m : Mt) (x : Val) (es : List Val) (S : Sto) (Q : VQ) : Prop :=
  match m, x, es with
  | .append, .loc n, [v] => match mlAt S n with
    | some xs => xs.length < big ∧ Q .non (S.set n (.lst (xs ++ [v])))
    | none => False
  | .extend, .loc n, [.loc k] => match mlAt S n, mlAt S k with
    | some xs, some ys => xs.length + ys.length ≤ big ∧ Q .non (S.set n (.lst (xs ++ ys)))
    | _, _ => False
  | .pop, .loc n, [] => match mlAt S n with
    | some xs => match xs[xs.length - 1]? with
      | some v => Q v (S.set n (.lst xs.dropLast))
      | none => False
    | none => False
  | .get1, .cst n y, [.str z] => match cst n with
    | some (x, kvs) => x = y ∧ Q ((kvs.lookup z).getD .non) S
    | none => False
  | .get1, .cst n y, [.non] => match cst n with
    | some (x, _) => x = y ∧ Q .non S
    | none => False
  | _, _, _ => False
/-- what is walked: its items, and what must stand while it is walked -/
def itS (k : ItK) (xs : List Val) (S : Sto) : Option (List Val × List (Nat × List Val)) :=
  match k, xs with
  | .seq, [.tup ys] => some (ys, [])
  | .seq, [.loc n] => (lstAt S n).map fun ys => (ys, [(n, ys)])
  | .range, [.int j] => if -(2 ^ 62) ≤ j ∧ j < 2 ^ 62 then some ((List.range j.toNat).map fun (i : Nat) => Val.int (i : Int), []) else none
  | .range2, [.int a, .int j] => if (-(2 ^ 62) ≤ a ∧ a < 2 ^ 62) ∧ -(2 ^ 62) ≤ j ∧ j < 2 ^ 62 then some ((List.range (j - a).toNat).map fun (i : Nat) => Val.int (a + (i : Int)), []) else none
  | .zip, [.tup xs, .tup ys] => some ((xs.zip ys).map fun p => .tup [p.1, p.2], [])
  | .zip, [.loc n, .loc k] => match lstAt S n, lstAt S k with
    | some xs, some ys => some ((xs.zip ys).map fun p => .tup [p.1, p.2], [(n, xs), (k, ys)])
    | _, _ => none
  | .enum, [.loc n] => (lstAt S n).map fun ys => (ys.zipIdx.map fun p => .tup [.int (p.2 : Nat), p.1], [(n, ys)])
  | _, _ => none
def gdS : List (Nat × List Val) → Sto → Prop
  | [], _ => True
  | p :: g, S => lstAt S p.1 = some p.2 ∧ gdS g S
def setAll : LE → List Nat → List Val → LE
  | ρ, i :: is, x :: xs => setAll (ρ.set i (some x)) is xs
  | ρ, _, _ => ρ
def bindT (tg : Tg) (x : Val) (ρ : LE) (Q : LE → Prop) : Prop := match tg, x with
  | .nm i, x => Q (ρ.set i (some x))
  | .tp is, .tup xs => is.length = xs.length ∧ Q (setAll ρ is xs)
  | _, _ => False
def wipeL (ρ : LE) : List Nat → LE
  | [] => ρ
  | v :: vs => (wipeL ρ vs).set v none
/-- a comprehension's turns -/
def lcS (g : List (Nat × List Val)) (l : Nat) (step : Val → Sto → (Option Val → Sto → Prop) → Prop) (Q : VQ) : List Val → List Val → Sto → Prop
  | [], acc, S => gdS g S ∧ Q (.loc l) S
  | x :: r, acc, S => gdS g S ∧ step x S fun o S' => match o with
    | none => S'[l]? = some (.lst acc) ∧ lcS g l step Q r acc S'
    | some y => S'[l]? = some (.lst acc) ∧ acc.length < big ∧ lcS g l step Q r (acc ++ [y]) (S'.set l (.lst (acc ++ [y])))

/-! ### what an expression, a test asks -/
mutual
def wpE (C : Cenv) : ME → LE → Sto → VQ → XQ → Prop
  | .var i, ρ, S, Q, _ => match ρ[i]? with
    | some (some x) => Q x S
    | _ => False
  | .lit v, _, S, Q, _ => Q v S
  | .glo x, _, S, Q, _ => Q (C.glo x) S
  | .neg a, ρ, S, Q, E => wpE C a ρ S (fun x S1 => match x with
    | .int i => Q (.int (-i)) S1
    | _ => False) E
  | .not a, ρ, S, Q, E => wpE C a ρ S (fun x S1 => tru S1 x fun b => Q (.bl (!b)) S1) E
  | .bool k es, ρ, S, Q, E => wpB C k es ρ S Q E
  | .bin op a b, ρ, S, Q, E => wpE C a ρ S (fun x S1 => wpE C b ρ S1 (fun y S2 => binS op x y S2 Q) E) E
  | .cmp op a b, ρ, S, Q, E => wpE C a ρ S (fun x S1 => wpE C b ρ S1 (fun y S2 => cmpS op x y S2 fun k => Q (.bl k) S2) E) E
  | .chain o1 o2 a b c, ρ, S, Q, E => wpE C a ρ S (fun x S1 => wpE C b ρ S1 (fun y S2 => cmpS o1 x y S2 fun k =>
      if k = true then wpE C c ρ S2 (fun z S3 => cmpS o2 y z S3 fun k => Q (.bl k) S3) E else Q (.bl false) S2) E) E
  | .ifx t a b, ρ, S, Q, E => wpE C t ρ S (fun x S1 => tru S1 x fun k => if k = true then wpE C a ρ S1 Q E else wpE C b ρ S1 Q E) E
  | .tup es, ρ, S, Q, E => wpEs C es ρ S (fun xs S1 => Q (.tup xs) S1) E
  | .lst es, ρ, S, Q, E => wpEs C es ρ S (fun xs S1 => Q (.loc S1.length) (S1 ++ [.lst xs])) E
  | .ix a i, ρ, S, Q, E => wpE C a ρ S (fun x S1 => wpE C i ρ S1 (fun y S2 => ixS x y S2 Q) E) E
  | .sl a lo hi, ρ, S, Q, E => wpE C a ρ S (fun x S1 => wpEs C lo ρ S1 (fun l S2 => part l fun l => wpEs C hi ρ S2 (fun h S3 => part h fun h => slS x l h S3 Q) E) E) E
  | .ist a T, ρ, S, Q, E => wpE C a ρ S (fun x S1 => known S1 x = true ∧ Q (.bl (istS S1 x T)) S1) E
  | .tyc k a T, ρ, S, Q, E => wpE C a ρ S (fun x S1 => known S1 x = true ∧ Q (.bl (tyB k S1 x T)) S1) E
  | .bi f es, ρ, S, Q, E => wpEs C es ρ S (fun xs S1 => biS f xs S1 Q) E
  | .mt m o es, ρ, S, Q, E => wpE C o ρ S (fun x S1 => mtT C.cst m S1 x ∧ wpEs C es ρ S1 (fun xs S2 => mtS C.cst m x xs S2 Q) E) E
  | .call f es, ρ, S, Q, E => wpEs C es ρ S (fun xs S1 => C.call f xs S1 Q E) E
  | .lc k its own tg ifs elt, ρ, S, Q, E => wpEs C its ρ S (fun xs S1 => match itS k xs S1 with
    | none => False
    | some (ys, g) => lcS g S1.length (fun x S2 K => bindT tg x (wipeL ρ own) fun ρ2 => wpA C ifs ρ2 S2 (fun b S3 =>
        if b = true then wpE C elt ρ2 S3 (fun y S4 => K (some y) S4) (fun _ _ => False) else K none S3) (fun _ _ => False)) Q ys [] (S1 ++ [.lst []])) E
def wpEs (C : Cenv) : List ME → LE → Sto → (List Val → Sto → Prop) → XQ → Prop
  | [], _, S, Q, _ => Q [] S
  | e :: es, ρ, S, Q, E => wpE C e ρ S (fun x S1 => wpEs C es ρ S1 (fun xs S2 => Q (x :: xs) S2) E) E
/-- and, or as values: all but the last are truth values -/
def wpB (C : Cenv) (k : Bool) : List ME → LE → Sto → VQ → XQ → Prop
  | [], _, _, _, _ => False
  | e :: es, ρ, S, Q, E => match es with
    | [] => wpE C e ρ S Q E
    | _ :: _ => wpE C e ρ S (fun x S1 => tru S1 x fun b => if b = k then wpB C k es ρ S1 Q E else Q x S1) E
/-- a clause's tests: none or one -/
def wpA (C : Cenv) : List ME → LE → Sto → (Bool → Sto → Prop) → XQ → Prop
  | [], _, S, Q, _ => Q true S
  | e :: es, ρ, S, Q, E => match es with
    | [] => wpE C e ρ S (fun x S1 => tru S1 x fun b => Q b S1) E
    | _ :: _ => False
end
/-- a test -/
def wpT (C : Cenv) (m : ME) (ρ : LE) (S : Sto) (Q : Bool → Sto → Prop) (E : XQ) : Prop := wpE C m ρ S (fun x S1 => tru S1 x fun b => Q b S1) E

/-! ### statements -/
structure ED where
  nx : LE → Sto → Prop
  rt : VQ
  bk : LE → Sto → Prop
  ct : LE → Sto → Prop
  xn : Nat → LE → Sto → Prop
def subS (o i v : Val) (S : Sto) (Q : Sto → Prop) : Prop := match o, i with
  | .loc n, .int k => match S[n]? with
    | some (.lst xs) => match ixN xs.length k with
      | some j => Q (S.set n (.lst (xs.set j v)))
      | none => False
    | _ => False
  | _, _ => False
def forS (g : List (Nat × List Val)) (tg : Tg) (body : ED → LE → Sto → Prop) (D : ED) : List Val → LE → Sto → Prop
  | [], ρ, S => gdS g S ∧ D.nx ρ S
  | x :: r, ρ, S => gdS g S ∧ bindT tg x ρ fun ρ2 => body { D with nx := forS g tg body D r, ct := forS g tg body D r, bk := D.nx } ρ2 S
def whlS (test : LE → Sto → (Bool → Sto → Prop) → Prop) (body : ED → LE → Sto → Prop) (D : ED) : Nat → LE → Sto → Prop
  | 0, _, _ => False
  | n + 1, ρ, S => test ρ S fun b S1 => if b = true then body { D with nx := whlS test body D n, ct := whlS test body D n, bk := D.nx } ρ S1 else D.nx ρ S1
mutual
def wpS (C : Cenv) : MS → ED → LE → Sto → Prop
  | .asg tg e, D, ρ, S => wpE C e ρ S (fun x S1 => bindT tg x ρ fun ρ2 => D.nx ρ2 S1) (fun c => D.xn c ρ)
  | .sub o i e, D, ρ, S => wpE C e ρ S (fun v S1 => wpE C o ρ S1 (fun x S2 => wpE C i ρ S2 (fun y S3 => subS x y v S3 fun S4 => D.nx ρ S4) (fun c => D.xn c ρ)) (fun c => D.xn c ρ)) (fun c => D.xn c ρ)
  | .ex e, D, ρ, S => wpE C e ρ S (fun _ S1 => D.nx ρ S1) (fun c => D.xn c ρ)
  | .ret e, D, ρ, S => wpE C e ρ S D.rt (fun c => D.xn c ρ)
  | .retN, D, _, S => D.rt .non S
  | .ite c a b, D, ρ, S => wpT C c ρ S (fun k S1 => if k = true then wpSs C a D ρ S1 else wpSs C b D ρ S1) (fun c => D.xn c ρ)
  | .whl c b, D, ρ, S => ∃ n, whlS (fun ρ S Q => wpT C c ρ S Q (fun c => D.xn c ρ)) (fun D => wpSs C b D) D n ρ S
  | .fr tg k its b, D, ρ, S => wpEs C its ρ S (fun xs S1 => match itS k xs S1 with
    | none => False
    | some (ys, g) => forS g tg (fun D => wpSs C b D) D ys ρ S1) (fun c => D.xn c ρ)
  | .brk, D, ρ, S => D.bk ρ S
  | .cnt, D, ρ, S => D.ct ρ S
  | .pass, D, ρ, S => D.nx ρ S
def wpSs (C : Cenv) : List MS → ED → LE → Sto → Prop
  | [], D, ρ, S => D.nx ρ S
  | s :: r, D, ρ, S => wpS C s { D with nx := fun ρ' S' => wpSs C r D ρ' S' } ρ S
end
end PM

namespace PM
open PySem PySem.Spec PyProof.Rows L2

theorem bigle {n : Nat} (h : n ≤ big) : n ≤ sizeLine := Nat.le_trans h (by decide)
theorem biglt {n : Nat} (h : n < big) : n < sizeLine := Nat.lt_of_lt_of_le h (by decide)

/-! ### readings -/
def Post (L : Lk) (ι : List Addr) (H : Hp) (Q' : VQ) (Q : VK) : Prop :=
  ∀ ι' H' x v S', Grow L.K ι H ι' H' → Rel L ι' S' H' → Rv L.K ι' H' x v → Q' x S' → Q v H'
def PostT (L : Lk) (ι : List Addr) (H : Hp) (Q' : Bool → Sto → Prop) (Q : Bool → Hp → Prop) : Prop :=
  ∀ ι' H' b S', Grow L.K ι H ι' H' → Rel L ι' S' H' → Q' b S' → Q b H'
def PostA (L : Lk) (ι : List Addr) (H : Hp) (n : Nat) (Q' : List Val → Sto → Prop) (Q : List V → Hp → Prop) : Prop :=
  ∀ ι' H' xs vs S', Grow L.K ι H ι' H' → Rel L ι' S' H' → Rvs L.K ι' H' xs vs → xs.length = n → Q' xs S' → Q vs H'
def WXe (L : Lk) (ι : List Addr) (H : Hp) (σ : L2.St) (E : XQ) : WX := fun cls _ σ' H' =>
  σ' = σ ∧ ∃ ι' S' c, Grow L.K ι H ι' H' ∧ Rel L ι' S' H' ∧ cls = L.xc c ∧ E c S'
theorem WXe.grow {X : Cx} {L : Lk} {ι ι' : List Addr} {H H' : Hp} {σ : L2.St} {E : XQ} (g : Grow L.K ι H ι' H') (tk : Takes X (WXe L ι H σ E)) : Takes X (WXe L ι' H' σ E) :=
  tk.imp fun _ _ _ _ ⟨e, ι2, S2, c, g2, r⟩ => ⟨e, ι2, S2, c, g.trans g2, r⟩
section
variable (X : Cx) (L : Lk) (C : Cenv)
def tM (m : ME) : TE := fun σ H Q => ∃ ι ρ S Q' E, RelE L.K ι H ρ σ ∧ Rel L ι S H ∧ wpE C m ρ S Q' E ∧ Takes X (WXe L ι H σ E) ∧ Post L ι H Q' Q
def tMs (es : List ME) : TA := fun σ H Q => ∃ ι ρ S Q' E, RelE L.K ι H ρ σ ∧ Rel L ι S H ∧ wpEs C es ρ S Q' E ∧ Takes X (WXe L ι H σ E) ∧ PostA L ι H es.length Q' Q
def tMT (m : ME) : TT := fun σ H Q => ∃ ι ρ S Q' E, RelE L.K ι H ρ σ ∧ Rel L ι S H ∧ wpE C m ρ S Q' E ∧ Takes X (WXe L ι H σ E) ∧
  ∀ ι' H' x v S', Grow L.K ι H ι' H' → Rel L ι' S' H' → Rv L.K ι' H' x v → Q' x S' → tru S' x fun b => Q b H'
def tMB (k : Bool) (es : List ME) : TE := fun σ H Q => ∃ ι ρ S Q' E, RelE L.K ι H ρ σ ∧ Rel L ι S H ∧ wpB C k es ρ S Q' E ∧ Takes X (WXe L ι H σ E) ∧ Post L ι H Q' Q
def tMTB (k : Bool) (es : List ME) : TT := fun σ H Q => ∃ ι ρ S Q' E, RelE L.K ι H ρ σ ∧ Rel L ι S H ∧ wpB C k es ρ S Q' E ∧ Takes X (WXe L ι H σ E) ∧
  ∀ ι' H' x v S', Grow L.K ι H ι' H' → Rel L ι' S' H' → Rv L.K ι' H' x v → Q' x S' → tru S' x fun b => Q b H'
def tMA (es : List ME) : TT := fun σ H Q => ∃ ι ρ S Q' E, RelE L.K ι H ρ σ ∧ Rel L ι S H ∧ wpA C es ρ S Q' E ∧ Takes X (WXe L ι H σ E) ∧ PostT L ι H Q' Q
end
theorem peImp {X : Cx} {e : Expr} {t t' : TE} (h : PE X e t) (i : ∀ σ H Q, t' σ H Q → t σ H Q) : PE X e t' := ⟨fun pins s σ H Q I q => h.run pins s σ H Q I (i σ H Q q)⟩
theorem ptImp {X : Cx} {e : Expr} {t t' : TT} (h : PT X e t) (i : ∀ σ H Q, t' σ H Q → t σ H Q) : PT X e t' := ⟨fun pins s σ H Q I q => h.run pins s σ H Q I (i σ H Q q)⟩
theorem paImp {X : Cx} {e : List Expr} {t t' : TA} (h : PA X e t) (i : ∀ σ H Q, t' σ H Q → t σ H Q) : PA X e t' := ⟨fun pos pins s σ H Q I q => h.run pos pins s σ H Q I (i σ H Q q)⟩
theorem pssImp {X : Cx} {e : List Stmt} {t t' : TS} (h : PSs X e t) (i : ∀ (D : Ends) (σ : L2.St) (H : Hp), t' D σ H → t D σ H) : PSs X e t' := ⟨fun pins s σ H D I q => h.run pins s σ H D I (i D σ H q)⟩
theorem psImp {X : Cx} {e : Stmt} {t t' : TS} (h : PS X e t) (i : ∀ (D : Ends) (σ : L2.St) (H : Hp), t' D σ H → t D σ H) : PS X e t' := ⟨fun pins s σ H D I q => h.run pins s σ H D I (i D σ H q)⟩

/-! ### the truth of a value -/
theorem seqOf {L : Lk} {ι : List Addr} {S : Sto} {H : Hp} {n : Nat} {a : Addr} {xs : List Val} (R : Rel L ι S H) (ha : ι[n]? = some a) (h : lstAt S n = some xs) :
    ∃ vs, SqL L.K H a vs ∧ Rvs L.K ι H xs vs := by
  unfold lstAt at h
  split at h
  · rename_i ys e
    cases h
    obtain ⟨vs, e1, r⟩ := R.obj n _ a e ha
    exact ⟨vs, SqL.of e1, r⟩
  · rename_i ys e
    cases h
    obtain ⟨vs, e1, r⟩ := R.obj n _ a e ha
    exact ⟨vs, e1.sq, r⟩
  · cases h
theorem mlOf {L : Lk} {ι : List Addr} {S : Sto} {H : Hp} {n : Nat} {a : Addr} {xs : List Val} (R : Rel L ι S H) (ha : ι[n]? = some a) (h : mlAt S n = some xs) :
    ∃ vs, H a = some (.lst vs) ∧ Rvs L.K ι H xs vs := by
  unfold mlAt at h
  split at h
  · rename_i ys e
    cases h
    exact R.obj n _ a e ha
  · cases h
/-- a new list -/
theorem postAlloc {L : Lk} {ι : List Addr} {S : Sto} {H : Hp} {p : Addr} {xs : List Val} {vs : List V} {Q' : VQ} {Q : VK} (R : Rel L ι S H) (hp : H p = none) (post : Post L ι H Q' Q) (r : Rvs L.K ι H xs vs)
    (w : Q' (.loc S.length) (S ++ [.lst xs])) : Q (.ref p) (upd H p (.lst vs)) := by
  refine post (ι ++ [p]) _ (.loc S.length) (.ref p) _ (grow_ext hp p) (R.alloc (ob := .lst xs) hp ⟨vs, upd_same, Rvs.mono (grow_ext hp p) _ r⟩) ?_ w
  simp only [Rv]
  refine ⟨p, rfl, ?_⟩
  rw [List.getElem?_append_right (by rw [R.len]; exact Nat.le_refl _), R.len]
  simp
theorem itemsSq {L : Lk} {ι : List Addr} {S : Sto} {H : Hp} {x : Val} {v : V} {xs : List Val} (R : Rel L ι S H) (r : Rv L.K ι H x v) (h : itemsOf S x = some xs) :
    ∃ a vs, v = .ref a ∧ (SqL L.K H a vs ∨ SqT L.K H a vs) ∧ Rvs L.K ι H xs vs := by
  cases x with
  | tup ys =>
    simp only [itemsOf] at h
    cases h
    simp only [Rv] at r
    obtain ⟨a, vs, rfl, h1, h2⟩ := r
    exact ⟨a, vs, rfl, .inr h1, h2⟩
  | loc n =>
    simp only [itemsOf] at h
    simp only [Rv] at r
    obtain ⟨a, rfl, ha⟩ := r
    obtain ⟨vs, h1, h2⟩ := seqOf R ha h
    exact ⟨a, vs, rfl, .inl h1, h2⟩
  | _ => simp [itemsOf] at h
theorem isEmptyRvs {K : PySem.W.Frag} {ι : List Addr} {H : Hp} {xs : List Val} {vs : List V} (h : Rvs K ι H xs vs) : xs.isEmpty = vs.isEmpty := by
  have := h.len
  cases xs <;> cases vs <;> simp_all
theorem tru_ok' {L : Lk} {ι : List Addr} {S : Sto} {H : Hp} {x : Val} {v : V} {Q : Bool → Prop} (R : Rel L ι S H) (r : Rv L.K ι H x v) (h : tru S x Q) : ∃ k, TruV L.K v H k ∧ Q k := by
  cases x with
  | non => simp only [Rv] at r; subst r; exact ⟨false, rfl, h⟩
  | bl b => simp only [Rv] at r; subst r; exact ⟨b, rfl, h⟩
  | int i => simp only [Rv] at r; subst r; exact ⟨_, rfl, h⟩
  | str y => simp only [Rv] at r; subst r; exact ⟨_, ⟨bigle h.1, rfl⟩, h.2⟩
  | tup xs =>
    simp only [Rv] at r
    obtain ⟨a, vs, rfl, h1, h2⟩ := r
    exact ⟨_, .inr (.inl ⟨vs, h1, rfl⟩), by rw [← isEmptyRvs h2]; exact h⟩
  | loc n =>
    simp only [Rv] at r
    obtain ⟨a, rfl, ha⟩ := r
    simp only [tru] at h
    split at h
    · rename_i xs e
      obtain ⟨vs, h1, h2⟩ := seqOf R ha e
      exact ⟨_, .inl ⟨vs, h1, rfl⟩, by rw [← isEmptyRvs h2]; exact h⟩
    · exact h.elim
  | cst n y => exact False.elim h
theorem tru_mono {S : Sto} {x : Val} {Q Q' : Bool → Prop} (h : tru S x Q) (i : ∀ b, Q b → Q' b) : tru S x Q' := by
  cases x with
  | str y => exact ⟨h.1, i _ h.2⟩
  | loc n =>
    simp only [tru] at h ⊢
    split at h
    · exact i _ h
    · exact h
  | cst n y => exact h
  | _ => exact i _ h
/-- what is known twice of a value's truth -/
theorem tru_dup {S : Sto} {x : Val} {Q : Bool → Bool → Prop} (h : tru S x fun b => tru S x fun c => Q b c) : tru S x fun b => Q b b := by
  cases x with
  | str y => exact ⟨h.1, h.2.2⟩
  | loc n =>
    simp only [tru] at h ⊢
    cases hl : lstAt S n with
    | none => simp only [hl] at h
    | some xs => simp only [hl] at h ⊢; exact h
  | cst n y => exact (h : False).elim
  | _ => exact h

/-! ### small expressions -/
section
variable {X : Cx} {L : Lk} {C : Cenv} {e a b c : Expr} {m ma mb mc : ME} {pos : Pos}
theorem se_var {i : Nat} {x : Str} (h : PE X (.Name x pos) (tVar i)) : PE X (.Name x pos) (tM X L C (.var i)) :=
  peImp h fun σ H Q ⟨ι, ρ, S, Q', E, hρ, R, w, tk, post⟩ => by
    simp only [wpE] at w
    split at w
    · rename_i y e
      obtain ⟨v, e1, r⟩ := hρ.2 i y e
      exact ⟨v, e1, post ι H y v S Grow.refl R r w⟩
    · exact w.elim
theorem se_c {v : V} {x : Val} (h : PE X e (tC v)) (r : ∀ ι H, Rv L.K ι H x v) : PE X e (tM X L C (.lit x)) :=
  peImp h fun σ H Q ⟨ι, ρ, S, Q', E, hρ, R, w, tk, post⟩ => by
    simp only [wpE] at w
    exact post ι H x v S Grow.refl R (r ι H) w
theorem se_glo {v : V} {i : Nat} (h : PE X e (tC v)) (r : ∀ ι H, Rv L.K ι H (C.glo i) v) : PE X e (tM X L C (.glo i)) :=
  peImp h fun σ H Q ⟨ι, ρ, S, Q', E, hρ, R, w, tk, post⟩ => by
    simp only [wpE] at w
    exact post ι H _ v S Grow.refl R (r ι H) w
theorem se_neg (ha : PE X a (tM X L C ma)) : PE X (.UnaryOp .USub a pos) (tM X L C (.neg ma)) :=
  peImp (pe_un un_neg ha) fun σ H Q ⟨ι, ρ, S, Q', E, hρ, R, w, tk, post⟩ => by
    simp only [wpE] at w
    refine ⟨ι, ρ, S, _, E, hρ, R, w, tk, fun ι1 H1 x v S1 g1 R1 r1 w1 => ?_⟩
    cases x with
    | int i =>
      simp only [Rv] at r1
      exact ⟨i, r1, post ι1 H1 (.int (-i)) _ S1 g1 R1 (by simp only [Rv]) w1⟩
    | _ => exact w1.elim
theorem se_not (hK : X.K = L.K) (ha : PE X a (tM X L C ma)) : PE X (.UnaryOp .Not a pos) (tM X L C (.not ma)) :=
  peImp (pe_notT ha) fun σ H Q ⟨ι, ρ, S, Q', E, hρ, R, w, tk, post⟩ => by
    simp only [wpE] at w
    refine ⟨ι, ρ, S, _, E, hρ, R, w, tk, fun ι1 H1 x v S1 g1 R1 r1 w1 => ?_⟩
    obtain ⟨k, h1, h2⟩ := tru_ok' R1 r1 w1
    exact ⟨k, by rw [hK]; exact h1, post ι1 H1 (.bl (!k)) _ S1 g1 R1 (by simp only [Rv]) h2⟩
theorem se_not_t (ha : PT X a (tMT X L C ma)) : PT X (.UnaryOp .Not a pos) (tMT X L C (.not ma)) :=
  ptImp (pt_not ha) fun σ H Q ⟨ι, ρ, S, Q', E, hρ, R, w, tk, post⟩ => by
    simp only [wpE] at w
    refine ⟨ι, ρ, S, _, E, hρ, R, w, tk, fun ι1 H1 x v S1 g1 R1 r1 w1 => ?_⟩
    refine tru_mono w1 fun b hb => ?_
    exact post ι1 H1 (.bl (!b)) (.bl (!b)) S1 g1 R1 (by simp only [Rv]) hb
/-- a value's truth as a test -/
theorem se_truth (hK : X.K = L.K) (ha : PE X a (tM X L C ma)) (he : ∀ whole, isTrue a X.env whole = (do let v ← whole; standAt a.pos; holding [v] (truthy v))) : PT X a (tMT X L C ma) :=
  ptImp (pt_truth ha he) fun σ H Q ⟨ι, ρ, S, Q', E, hρ, R, w, tk, post⟩ => by
    refine ⟨ι, ρ, S, _, E, hρ, R, w, tk, fun ι1 H1 x v S1 g1 R1 r1 w1 => ?_⟩
    obtain ⟨k, h1, h2⟩ := tru_ok' R1 r1 (post ι1 H1 x v S1 g1 R1 r1 w1)
    exact ⟨k, by rw [hK]; exact h1, h2⟩

/-! ### two-place operations -/
def rBin (X : Cx) (op : Operator) : R2 := fun x y H Q => ∃ r, OpR X (binaryOp op) r ∧ r x y H Q
theorem rBin_ok {op : Operator} : OpR X (binaryOp op) (rBin X op) := fun pins s σ H x y v u Q I rx ry ⟨_, o, q⟩ => o pins s σ H x y v u Q I rx ry q
def BOp.py : BOp → Operator
  | .add => .Add | .sub => .Sub | .mul => .Mult | .fdiv => .FloorDiv | .mod => .Mod | .pow => .Pow
theorem bin_ok {op : BOp} {ι : List Addr} {S : Sto} {H : Hp} {x y : Val} {v u : V} {Q' : VQ} {Q : VK} (hK : X.K = L.K) (R : Rel L ι S H) (rx : Rv L.K ι H x v) (ry : Rv L.K ι H y u) (w : binS op x y S Q') (post : Post L ι H Q' Q) :
    rBin X op.py v u H Q := by
  unfold binS at w
  split at w
  · simp only [Rv] at rx ry
    subst rx ry
    exact ⟨_, op_add, _, _, rfl, rfl, post ι H (.int _) _ S Grow.refl R (by simp only [Rv]) w⟩
  · simp only [Rv] at rx ry
    subst rx ry
    exact ⟨_, op_sub, _, _, rfl, rfl, post ι H (.int _) _ S Grow.refl R (by simp only [Rv]) w⟩
  · simp only [Rv] at rx ry
    subst rx ry
    exact ⟨_, op_mul, _, _, rfl, rfl, w.1, post ι H (.int _) _ S Grow.refl R (by simp only [Rv]) w.2⟩
  · rename_i i j
    simp only [Rv] at rx ry
    subst rx ry
    refine ⟨_, op_fdivW, _, _, rfl, rfl, ?_, post ι H (.int _) _ S Grow.refl R (by simp only [Rv]) w.2⟩
    exact wide_div (b := 80) w.1.1 (by have := w.1; omega) (by decide) (by decide)
  · simp only [Rv] at rx ry
    subst rx ry
    exact ⟨_, op_mod, _, _, rfl, rfl, w.1, post ι H (.int _) _ S Grow.refl R (by simp only [Rv]) w.2⟩
  · simp only [Rv] at rx ry
    subst rx ry
    exact ⟨_, op_pow, _, _, rfl, rfl, w.1, post ι H (.int _) _ S Grow.refl R (by simp only [Rv]) w.2⟩
  · simp only [Rv] at rx ry
    subst rx ry
    exact ⟨_, op_add_str, _, _, rfl, rfl, bigle w.1, post ι H (.str _) _ S Grow.refl R (by simp only [Rv]) w.2⟩
  · rename_i xs ys
    simp only [Rv] at rx ry
    obtain ⟨a, vs, rfl, h1, h2⟩ := rx
    obtain ⟨b, us, rfl, h3, h4⟩ := ry
    refine ⟨_, op_catA, a, b, vs, us, rfl, rfl, by rw [hK]; exact h1, by rw [hK]; exact h3, by rw [← h2.len, ← h4.len]; exact bigle w.1, fun e => ?_, fun _ e => ?_, fun _ _ p hp => ?_⟩
    · have : xs = [] := by
        have := h2.len
        rw [e] at this
        exact List.length_eq_zero_iff.mp this
      subst this
      exact post ι H (.tup ([] ++ ys)) _ S Grow.refl R (by simp only [Rv, List.nil_append]; exact ⟨b, us, rfl, h3, h4⟩) w.2
    · have : ys = [] := by
        have := h4.len
        rw [e] at this
        exact List.length_eq_zero_iff.mp this
      subst this
      exact post ι H (.tup (xs ++ [])) _ S Grow.refl R (by simp only [Rv, List.append_nil]; exact ⟨a, vs, rfl, h1, h2⟩) w.2
    · refine post ι _ (.tup (xs ++ ys)) _ S (grow_new hp) (R.untold hp) ?_ w.2
      simp only [Rv]
      exact ⟨p, vs ++ us, rfl, SqT.of upd_same, Rvs.mono (grow_new hp) _ (h2.append h4)⟩
  · rename_i xs k
    simp only [Rv] at rx ry
    subst ry
    obtain ⟨a, vs, rfl, h1, h2⟩ := rx
    obtain ⟨⟨w1, w2, w3, w4⟩, w5⟩ := w
    have fl : ∀ m : Nat, Rvs L.K ι H (List.replicate m xs).flatten (List.replicate m vs).flatten := fun m => by
      induction m with
      | zero => exact Rvs.nil
      | succ m ih =>
        rw [List.replicate_succ, List.replicate_succ, List.flatten_cons, List.flatten_cons]
        exact h2.append ih
    refine ⟨_, op_repT, a, k, vs, rfl, rfl, by rw [hK]; exact h1, fun e => ?_, w2, w3, by rw [← h2.len]; exact w4, fun p hp => ?_⟩
    · have := h2.len
      rw [e] at this
      exact w1 (List.length_eq_zero_iff.mp this)
    · refine post ι _ (.tup (List.replicate k.toNat xs).flatten) _ S (grow_new hp) (R.untold hp) ?_ w5
      simp only [Rv]
      exact ⟨p, _, rfl, SqT.of upd_same, Rvs.mono (grow_new hp) _ (fl k.toNat)⟩
  · rename_i n k
    simp only [Rv] at rx ry
    obtain ⟨a, rfl, ha⟩ := rx
    obtain ⟨b, rfl, hb⟩ := ry
    split at w
    · rename_i xs ys e1 e2
      obtain ⟨vs, h1, h2⟩ := mlOf R ha e1
      obtain ⟨us, h3, h4⟩ := mlOf R hb e2
      refine ⟨_, op_cat, a, b, vs, us, rfl, rfl, h1, h3, by rw [← h2.len, ← h4.len]; exact bigle w.1, fun p hp => ?_⟩
      exact postAlloc R hp post (h2.append h4) w.2
    · exact w.elim
  · exact w.elim
theorem se_bin {op : BOp} (hK : X.K = L.K) (ha : PE X a (tM X L C ma)) (hb : PE X b (tM X L C mb)) : PE X (.BinOp a op.py b pos) (tM X L C (.bin op ma mb)) :=
  peImp (pe_op rBin_ok ha hb) fun σ H Q ⟨ι, ρ, S, Q', E, hρ, R, w, tk, post⟩ => by
    simp only [wpE] at w
    exact ⟨ι, ρ, S, _, E, hρ, R, w, tk, fun ι1 H1 x v S1 g1 R1 r1 w1 => ⟨ι1, ρ, S1, _, E, hρ.mono g1, R1, w1, WXe.grow g1 tk, fun ι2 H2 y u S2 g2 R2 r2 w2 =>
      bin_ok hK R2 (r1.mono g2) r2 w2 fun ι3 H3 z t S3 g3 R3 r3 w3 => post ι3 H3 z t S3 (g1.trans (g2.trans g3)) R3 r3 w3⟩⟩

/-! ### comparisons -/
def COp.py : COp → CmpOp
  | .eq => .Eq | .ne => .NotEq | .lt => .Lt | .le => .LtE | .gt => .Gt | .ge => .GtE | .is_ => .Is | .nis => .IsNot | .in_ => .In | .nin => .NotIn
def rCmp (X : Cx) (op : CmpOp) : R2 := fun x y H Q => ∃ r, OpR X (compareOp op) r ∧ r x y H Q
theorem rCmp_ok {op : CmpOp} : OpR X (compareOp op) (rCmp X op) := fun pins s σ H x y v u Q I rx ry ⟨_, o, q⟩ => o pins s σ H x y v u Q I rx ry q
mutual
theorem dpOf {ι : List Addr} {S : Sto} {H : Hp} (R : Rel L ι S H) : ∀ (n : Nat) (x : Val) {v : V} {d : PyData}, Rv L.K ι H x v → dat S n x = some d → Dp L.K H v d
  | 0, _, _, _, _, h => by simp [dat] at h
  | n + 1, .non, v, d, r, h => by
    simp only [dat, Option.some.injEq] at h
    simp only [Rv] at r
    subst r h
    exact .non
  | n + 1, .bl b, v, d, r, h => by
    simp only [dat, Option.some.injEq] at h
    simp only [Rv] at r
    subst r h
    exact .bl b
  | n + 1, .int b, v, d, r, h => by
    simp only [dat, Option.some.injEq] at h
    simp only [Rv] at r
    subst r h
    exact .int b
  | n + 1, .str b, v, d, r, h => by
    simp only [dat, Option.some.injEq] at h
    simp only [Rv] at r
    subst r h
    exact .str b
  | n + 1, .tup xs, v, d, r, h => by
    simp only [dat, Option.map_eq_some_iff] at h
    obtain ⟨ds, h1, rfl⟩ := h
    simp only [Rv] at r
    obtain ⟨a, vs, rfl, h2, h3⟩ := r
    exact .tup h2 (dpsOf R n xs h3 h1)
  | n + 1, .loc l, v, d, r, h => by
    simp only [dat] at h
    split at h
    · rename_i xs e
      simp only [Option.map_eq_some_iff] at h
      obtain ⟨ds, h1, rfl⟩ := h
      simp only [Rv] at r
      obtain ⟨a, rfl, ha⟩ := r
      obtain ⟨vs, h2, h3⟩ := seqOf R ha e
      exact .lst h2 (dpsOf R n xs h3 h1)
    · cases h
  | n + 1, .cst _ _, v, d, r, h => by simp [dat] at h
theorem dpsOf {ι : List Addr} {S : Sto} {H : Hp} (R : Rel L ι S H) : ∀ (n : Nat) (xs : List Val) {vs : List V} {ds : List PyData}, Rvs L.K ι H xs vs → xs.mapM (dat S n) = some ds → DpAll L.K H vs ds
  | n, [], vs, ds, r, h => by
    simp only [Rvs] at r
    subst r
    simp at h
    subst h
    exact .nil
  | n, x :: xs, vs, ds, r, h => by
    simp only [Rvs] at r
    obtain ⟨v, ws, rfl, h1, h2⟩ := r
    rw [List.mapM_cons] at h
    simp only [Option.bind_eq_bind, Option.bind_eq_some_iff, Option.pure_def, Option.some.injEq] at h
    obtain ⟨d, e1, ds', e2, rfl⟩ := h
    exact .cons (dpOf R n x h1 e1) (dpsOf R n xs h2 e2)
end
/-- an answer of == by data, or by scalars -/
def EqA (K : PySem.W.Frag) (H : Hp) (v u : V) (Q : Bool → Prop) : Prop :=
  (scal v u = true ∧ Q (decide (v = u))) ∨ ∃ d e, Dp K H v d ∧ Dp K H u e ∧ SeqAt.shaped d = true ∧ SeqAt.shaped e = true ∧ Q (PyData.eqv d e)
theorem str_dec {a b : Str} : decide (V.str a = V.str b) = (a == b) := dec_str
theorem eq_ok {ι : List Addr} {S : Sto} {H : Hp} {x y : Val} {v u : V} {Q : Bool → Prop} (R : Rel L ι S H) (rx : Rv L.K ι H x v) (ry : Rv L.K ι H y u) (w : eqS S x y Q) : EqA L.K H v u Q := by
  unfold eqS at w
  split at w
  · rename_i h
    rw [Bool.and_eq_true] at h
    cases x with
    | tup xs => simp [Val.flat] at h
    | loc n => simp [Val.flat] at h
    | cst n z => simp [Val.flat] at h
    | non =>
      simp only [Rv] at rx
      subst rx
      cases y with
      | tup xs => simp [Val.flat] at h
      | loc n => simp [Val.flat] at h
      | cst n z => simp [Val.flat] at h
      | _ => simp only [Rv] at ry; subst ry; exact .inl ⟨rfl, by simpa [eqF] using w⟩
    | str a =>
      simp only [Rv] at rx
      subst rx
      cases y with
      | tup xs => simp [Val.flat] at h
      | loc n => simp [Val.flat] at h
      | cst n z => simp [Val.flat] at h
      | str b => simp only [Rv] at ry; subst ry; exact .inl ⟨rfl, by rw [dec_str]; exact w⟩
      | _ => simp only [Rv] at ry; subst ry; exact .inl ⟨rfl, by simpa [eqF] using w⟩
    | int a =>
      simp only [Rv] at rx
      subst rx
      cases y with
      | tup xs => simp [Val.flat] at h
      | loc n => simp [Val.flat] at h
      | cst n z => simp [Val.flat] at h
      | int b => simp only [Rv] at ry; subst ry; exact .inl ⟨rfl, by rw [dec_int]; exact w⟩
      | bl b => simp only [Rv] at ry; subst ry; exact .inr ⟨_, _, .int a, .bl b, rfl, rfl, w⟩
      | _ => simp only [Rv] at ry; subst ry; exact .inl ⟨rfl, by simpa [eqF] using w⟩
    | bl a =>
      simp only [Rv] at rx
      subst rx
      cases y with
      | tup xs => simp [Val.flat] at h
      | loc n => simp [Val.flat] at h
      | cst n z => simp [Val.flat] at h
      | bl b => simp only [Rv] at ry; subst ry; exact .inl ⟨rfl, by rw [dec_bl]; exact w⟩
      | int b => simp only [Rv] at ry; subst ry; exact .inr ⟨_, _, .bl a, .int b, rfl, rfl, w⟩
      | _ => simp only [Rv] at ry; subst ry; exact .inl ⟨rfl, by simpa [eqF] using w⟩
  · split at w
    · rename_i d e h1 h2
      exact .inr ⟨d, e, dpOf R _ x rx h1, dpOf R _ y ry h2, w.1, w.2.1, w.2.2⟩
    · exact w.elim
theorem flat_v {ι : List Addr} {H : Hp} {K : PySem.W.Frag} {x : Val} {v : V} (f : x.flat = true) (r : Rv K ι H x v) : flatV v = true := by
  cases x with
  | non => simp only [Rv] at r; subst r; rfl
  | bl b => simp only [Rv] at r; subst r; rfl
  | int b => simp only [Rv] at r; subst r; rfl
  | str b => simp only [Rv] at r; subst r; rfl
  | tup xs => simp [Val.flat] at f
  | loc n => simp [Val.flat] at f
  | cst n z => simp [Val.flat] at f
theorem eqF_v {ι : List Addr} {H : Hp} {K : PySem.W.Frag} {x y : Val} {v u : V} (f : x.flat = true) (r : Rv K ι H x v) (g : y.flat = true) (q : Rv K ι H y u) : eqV v u = eqF x y := by
  cases x <;> cases y <;> first | (simp [Val.flat] at f; done) | (simp [Val.flat] at g; done) | (simp only [Rv] at r q; subst r q; rfl)
theorem in_v {ι : List Addr} {H : Hp} {K : PySem.W.Frag} {x : Val} {v : V} (f : x.flat = true) (r : Rv K ι H x v) : ∀ (ys : List Val) {us : List V}, ys.all Val.flat = true → Rvs K ι H ys us → us.all flatV = true ∧ inV v us = ys.any fun z => eqF z x
  | [], us, _, q => by simp only [Rvs] at q; subst q; exact ⟨rfl, rfl⟩
  | y :: ys, us, g, q => by
    simp only [Rvs] at q
    obtain ⟨u, ws, rfl, h1, h2⟩ := q
    rw [List.all_cons, Bool.and_eq_true] at g
    obtain ⟨i1, i2⟩ := in_v f r ys g.2 h2
    refine ⟨by rw [List.all_cons, flat_v g.1 h1, i1]; rfl, ?_⟩
    unfold inV at i2 ⊢
    rw [List.any_cons, List.any_cons, i2, eqF_v g.1 h1 f r]
theorem cmp_ok {op : COp} {ι : List Addr} {S : Sto} {H : Hp} {x y : Val} {v u : V} {Q' : Bool → Prop} {Q : VK} (hK : X.K = L.K) (hu : X.A.units + 64 < cLine) (R : Rel L ι S H) (rx : Rv L.K ι H x v) (ry : Rv L.K ι H y u) (w : cmpS op x y S Q')
    (post : ∀ b, Q' b → Q (.bl b) H) : rCmp X op.py v u H Q := by
  unfold cmpS at w
  split at w
  · rcases eq_ok R rx ry w with ⟨h1, h2⟩ | ⟨d, e, h1, h2, h3, h4, h5⟩
    · exact ⟨_, op_eq, h1, post _ h2⟩
    · exact ⟨_, op_eqD hu, d, e, by rw [hK]; exact h1, by rw [hK]; exact h2, h3, h4, post _ h5⟩
  · rcases eq_ok R rx ry w with ⟨h1, h2⟩ | ⟨d, e, h1, h2, h3, h4, h5⟩
    · exact ⟨_, op_ne, h1, post _ h2⟩
    · exact ⟨_, op_neD hu, d, e, by rw [hK]; exact h1, by rw [hK]; exact h2, h3, h4, post _ h5⟩
  · simp only [Rv] at rx ry; subst rx ry; exact ⟨_, op_lt, _, _, rfl, rfl, post _ w⟩
  · simp only [Rv] at rx ry; subst rx ry; exact ⟨_, op_le, _, _, rfl, rfl, post _ w⟩
  · simp only [Rv] at rx ry; subst rx ry; exact ⟨_, op_gt, _, _, rfl, rfl, post _ w⟩
  · simp only [Rv] at rx ry; subst rx ry; exact ⟨_, op_ge, _, _, rfl, rfl, post _ w⟩
  · simp only [Rv] at ry
    subst ry
    refine ⟨_, op_isN, rfl, ?_⟩
    have e : decide (v = V.non) = x.isNon := by
      cases x with
      | non => simp only [Rv] at rx; subst rx; rfl
      | bl b => simp only [Rv] at rx; subst rx; rfl
      | int b => simp only [Rv] at rx; subst rx; rfl
      | str b => simp only [Rv] at rx; subst rx; rfl
      | tup b => simp only [Rv] at rx; obtain ⟨a, vs, rfl, _⟩ := rx; rfl
      | loc b => simp only [Rv] at rx; obtain ⟨a, rfl, _⟩ := rx; rfl
      | cst b y => simp only [Rv] at rx; subst rx; rfl
    rw [e]
    exact post _ w
  · simp only [Rv] at ry
    subst ry
    refine ⟨_, op_notN, rfl, ?_⟩
    have e : (!decide (v = V.non)) = !x.isNon := by
      cases x with
      | non => simp only [Rv] at rx; subst rx; rfl
      | bl b => simp only [Rv] at rx; subst rx; rfl
      | int b => simp only [Rv] at rx; subst rx; rfl
      | str b => simp only [Rv] at rx; subst rx; rfl
      | tup b => simp only [Rv] at rx; obtain ⟨a, vs, rfl, _⟩ := rx; rfl
      | loc b => simp only [Rv] at rx; obtain ⟨a, rfl, _⟩ := rx; rfl
      | cst b y => simp only [Rv] at rx; subst rx; rfl
    rw [e]
    exact post _ w
  · rename_i a b
    simp only [Rv] at rx ry
    subst rx ry
    refine ⟨_, op_isBl, a, b, rfl, rfl, ?_⟩
    rw [show decide (a = b) = (a == b) by cases a <;> cases b <;> rfl]
    exact post _ w
  · rename_i a b
    simp only [Rv] at rx ry
    subst rx ry
    refine ⟨_, op_notBl, a, b, rfl, rfl, ?_⟩
    rw [show decide (a = b) = (a == b) by cases a <;> cases b <;> rfl]
    exact post _ w
  · split at w
    · rename_i xs e
      obtain ⟨a, vs, rfl, h1, h2⟩ := itemsSq R ry e
      obtain ⟨i1, i2⟩ := in_v w.1 rx xs w.2.1 h2
      refine ⟨_, op_in_seq, a, vs, rfl, by rw [hK]; exact h1, flat_v w.1 rx, i1, ?_⟩
      show Q (.bl (inV v vs)) H
      rw [i2]
      exact post _ w.2.2
    · exact w.elim
  · split at w
    · rename_i xs e
      obtain ⟨a, vs, rfl, h1, h2⟩ := itemsSq R ry e
      obtain ⟨i1, i2⟩ := in_v w.1 rx xs w.2.1 h2
      refine ⟨_, op_notIn_seq, a, vs, rfl, by rw [hK]; exact h1, flat_v w.1 rx, i1, ?_⟩
      show Q (.bl (!inV v vs)) H
      rw [i2]
      exact post _ w.2.2
    · exact w.elim
  · exact w.elim
theorem se_cmp {op : COp} (hK : X.K = L.K) (hu : X.A.units + 64 < cLine) (ha : PE X a (tM X L C ma)) (hb : PE X b (tM X L C mb)) (hm : behindInMarks op.py b = false) : PE X (.Compare a [op.py] [b] pos) (tM X L C (.cmp op ma mb)) :=
  peImp (pe_cmpR rCmp_ok ha hb hm) fun σ H Q ⟨ι, ρ, S, Q', E, hρ, R, w, tk, post⟩ => by
    simp only [wpE] at w
    exact ⟨ι, ρ, S, _, E, hρ, R, w, tk, fun ι1 H1 x v S1 g1 R1 r1 w1 => ⟨ι1, ρ, S1, _, E, hρ.mono g1, R1, w1, WXe.grow g1 tk, fun ι2 H2 y u S2 g2 R2 r2 w2 =>
      cmp_ok hK hu R2 (r1.mono g2) r2 w2 fun k q => post ι2 H2 (.bl k) _ S2 (g1.trans g2) R2 (by simp only [Rv]) q⟩⟩
theorem se_cmp_t {op : COp} (hK : X.K = L.K) (hu : X.A.units + 64 < cLine) (ha : PE X a (tM X L C ma)) (hb : PE X b (tM X L C mb)) (hm : behindInMarks op.py b = false) : PT X (.Compare a [op.py] [b] pos) (tMT X L C (.cmp op ma mb)) :=
  ptImp (pt_cmpR rCmp_ok ha hb hm) fun σ H Q ⟨ι, ρ, S, Q', E, hρ, R, w, tk, post⟩ => by
    simp only [wpE] at w
    exact ⟨ι, ρ, S, _, E, hρ, R, w, tk, fun ι1 H1 x v S1 g1 R1 r1 w1 => ⟨ι1, ρ, S1, _, E, hρ.mono g1, R1, w1, WXe.grow g1 tk, fun ι2 H2 y u S2 g2 R2 r2 w2 =>
      cmp_ok hK hu R2 (r1.mono g2) r2 w2 fun k q => ⟨k, rfl, post ι2 H2 (.bl k) (.bl k) S2 (g1.trans g2) R2 (by simp only [Rv]) q⟩⟩⟩
theorem chain_red {o1 o2 : COp} {σ : L2.St} {H : Hp} {Q : VK} (hK : X.K = L.K) (hu : X.A.units + 64 < cLine)
    (h : ∃ ι ρ S Q' E, RelE L.K ι H ρ σ ∧ Rel L ι S H ∧ wpE C (.chain o1 o2 ma mb mc) ρ S Q' E ∧ Takes X (WXe L ι H σ E) ∧ ∀ ι' H' k S', Grow L.K ι H ι' H' → Rel L ι' S' H' → Q' (.bl k) S' → Q (.bl k) H') :
    tChain (rCmp X o1.py) (rCmp X o2.py) (tM X L C ma) (tM X L C mb) (tM X L C mc) σ H Q := by
  obtain ⟨ι, ρ, S, Q', E, hρ, R, w, tk, post⟩ := h
  simp only [wpE] at w
  exact ⟨ι, ρ, S, _, E, hρ, R, w, tk, fun ι1 H1 x v S1 g1 R1 r1 w1 => ⟨ι1, ρ, S1, _, E, hρ.mono g1, R1, w1, WXe.grow g1 tk, fun ι2 H2 y u S2 g2 R2 r2 w2 =>
    cmp_ok hK hu R2 (r1.mono g2) r2 w2 fun k q => ⟨k, rfl, by
      cases k with
      | false => exact post ι2 H2 false S2 (g1.trans g2) R2 q
      | true =>
        exact ⟨ι2, ρ, S2, _, E, hρ.mono (g1.trans g2), R2, q, WXe.grow (g1.trans g2) tk, fun ι3 H3 z t S3 g3 R3 r3 w3 =>
          cmp_ok hK hu R3 (r2.mono g3) r3 w3 fun k q => post ι3 H3 k S3 ((g1.trans g2).trans g3) R3 q⟩⟩⟩⟩
theorem se_chain {o1 o2 : COp} (hK : X.K = L.K) (hu : X.A.units + 64 < cLine) (ha : PE X a (tM X L C ma)) (hb : PE X b (tM X L C mb)) (hc : PE X c (tM X L C mc)) (hm : lastMarks [o1.py, o2.py] [b, c] = false) :
    PE X (.Compare a [o1.py, o2.py] [b, c] pos) (tM X L C (.chain o1 o2 ma mb mc)) :=
  peImp (pe_chain rCmp_ok rCmp_ok ha hb hc hm) fun σ H Q ⟨ι, ρ, S, Q', E, hρ, R, w, tk, post⟩ => chain_red hK hu ⟨ι, ρ, S, Q', E, hρ, R, w, tk, fun ι' H' k S' g R q => post ι' H' (.bl k) _ S' g R (by simp only [Rv]) q⟩
theorem se_chain_t {o1 o2 : COp} (hK : X.K = L.K) (hu : X.A.units + 64 < cLine) (ha : PE X a (tM X L C ma)) (hb : PE X b (tM X L C mb)) (hc : PE X c (tM X L C mc)) (hm : lastMarks [o1.py, o2.py] [b, c] = false) :
    PT X (.Compare a [o1.py, o2.py] [b, c] pos) (tMT X L C (.chain o1 o2 ma mb mc)) :=
  ptImp (pt_chain rCmp_ok rCmp_ok ha hb hc hm) fun σ H Q ⟨ι, ρ, S, Q', E, hρ, R, w, tk, post⟩ =>
    chain_red hK hu ⟨ι, ρ, S, Q', E, hρ, R, w, tk, fun ι' H' k S' g R q => ⟨k, rfl, post ι' H' (.bl k) (.bl k) S' g R (by simp only [Rv]) q⟩⟩
end
end PM

namespace PM
open PySem PySem.Spec PyProof.Rows L2

section
variable {X : Cx} {L : Lk} {C : Cenv} {e a b c : Expr} {es rest : List Expr} {m ma mb mc : ME} {ms : List ME} {pos : Pos}
theorem se_ifx (ht : PT X c (tMT X L C mc)) (ha : PE X a (tM X L C ma)) (hb : PE X b (tM X L C mb)) : PE X (.IfExp c a b pos) (tM X L C (.ifx mc ma mb)) :=
  peImp (pe_ifExp ht ha hb) fun σ H Q ⟨ι, ρ, S, Q', E, hρ, R, w, tk, post⟩ => by
    simp only [wpE] at w
    refine ⟨ι, ρ, S, _, E, hρ, R, w, tk, fun ι1 H1 x v S1 g1 R1 r1 w1 => tru_mono w1 fun k hk => ?_⟩
    cases k with
    | true => exact ⟨ι1, ρ, S1, _, E, hρ.mono g1, R1, hk, WXe.grow g1 tk, fun ι2 H2 y u S2 g2 R2 r2 w2 => post ι2 H2 y u S2 (g1.trans g2) R2 r2 w2⟩
    | false => exact ⟨ι1, ρ, S1, _, E, hρ.mono g1, R1, hk, WXe.grow g1 tk, fun ι2 H2 y u S2 g2 R2 r2 w2 => post ι2 H2 y u S2 (g1.trans g2) R2 r2 w2⟩
/-! ### and, or -/
theorem bool_and (hK : X.K = L.K) (ha : PE X a (tM X L C ma)) (hb : PE X (.BoolOp .And (b :: rest) pos) (tMB X L C true (mb :: ms))) : PE X (.BoolOp .And (a :: b :: rest) pos) (tMB X L C true (ma :: mb :: ms)) :=
  peImp (pe_andT ha hb) fun σ H Q ⟨ι, ρ, S, Q', E, hρ, R, w, tk, post⟩ => by
    rw [wpB] at w
    refine ⟨ι, ρ, S, _, E, hρ, R, w, tk, fun ι1 H1 x v S1 g1 R1 r1 w1 => ?_⟩
    obtain ⟨k, h1, h2⟩ := tru_ok' R1 r1 w1
    refine ⟨k, by rw [hK]; exact h1, ?_⟩
    cases k with
    | true => exact ⟨ι1, ρ, S1, _, E, hρ.mono g1, R1, h2, WXe.grow g1 tk, fun ι2 H2 y u S2 g2 R2 r2 w2 => post ι2 H2 y u S2 (g1.trans g2) R2 r2 w2⟩
    | false => exact post ι1 H1 x v S1 g1 R1 r1 h2
theorem bool_or (hK : X.K = L.K) (ha : PE X a (tM X L C ma)) (hb : PE X (.BoolOp .Or (b :: rest) pos) (tMB X L C false (mb :: ms))) : PE X (.BoolOp .Or (a :: b :: rest) pos) (tMB X L C false (ma :: mb :: ms)) :=
  peImp (pe_orT ha hb) fun σ H Q ⟨ι, ρ, S, Q', E, hρ, R, w, tk, post⟩ => by
    rw [wpB] at w
    refine ⟨ι, ρ, S, _, E, hρ, R, w, tk, fun ι1 H1 x v S1 g1 R1 r1 w1 => ?_⟩
    obtain ⟨k, h1, h2⟩ := tru_ok' R1 r1 w1
    refine ⟨k, by rw [hK]; exact h1, ?_⟩
    cases k with
    | false => exact ⟨ι1, ρ, S1, _, E, hρ.mono g1, R1, h2, WXe.grow g1 tk, fun ι2 H2 y u S2 g2 R2 r2 w2 => post ι2 H2 y u S2 (g1.trans g2) R2 r2 w2⟩
    | true => exact post ι1 H1 x v S1 g1 R1 r1 h2
theorem bool_one {op : BoolOp} {k : Bool} (ha : PE X a (tM X L C ma)) : PE X (.BoolOp op [a] pos) (tMB X L C k [ma]) :=
  peImp (pe_one ha) fun σ H Q ⟨ι, ρ, S, Q', E, hρ, R, w, tk, post⟩ => by
    rw [wpB] at w
    exact ⟨ι, ρ, S, _, E, hρ, R, w, tk, post⟩
theorem se_bool {op : BoolOp} {k : Bool} (h : PE X (.BoolOp op es pos) (tMB X L C k ms)) : PE X (.BoolOp op es pos) (tM X L C (.bool k ms)) :=
  peImp h fun σ H Q ⟨ι, ρ, S, Q', E, hρ, R, w, tk, post⟩ => by
    simp only [wpE] at w
    exact ⟨ι, ρ, S, _, E, hρ, R, w, tk, post⟩
theorem tru_ex {S : Sto} {x : Val} {P : Bool → Prop} (h : tru S x P) : ∃ b, P b ∧ ∀ Q : Bool → Prop, tru S x Q ↔ Q b := by
  cases x with
  | non => exact ⟨_, h, fun Q => Iff.rfl⟩
  | bl b => exact ⟨_, h, fun Q => Iff.rfl⟩
  | int b => exact ⟨_, h, fun Q => Iff.rfl⟩
  | tup b => exact ⟨_, h, fun Q => Iff.rfl⟩
  | str y => exact ⟨_, h.2, fun Q => ⟨fun q => q.2, fun q => ⟨h.1, q⟩⟩⟩
  | loc n =>
    simp only [tru] at h
    split at h
    · rename_i xs e
      exact ⟨_, h, fun Q => by simp only [tru, e]⟩
    · exact h.elim
  | cst n y => exact False.elim h
theorem boolt_and (ha : PT X a (tMT X L C ma)) (hb : PW X (.BoolOp .And (b :: rest) pos) (tMTB X L C true (mb :: ms))) : PW X (.BoolOp .And (a :: b :: rest) pos) (tMTB X L C true (ma :: mb :: ms)) :=
  ⟨fun wh pins s σ H Q I ⟨ι, ρ, S, Q', E, hρ, R, w, tk, post⟩ => (pw_and ha hb).run wh pins s σ H Q I (by
    rw [wpB] at w
    refine ⟨ι, ρ, S, _, E, hρ, R, w, tk, fun ι1 H1 x v S1 g1 R1 r1 w1 => ?_⟩
    obtain ⟨k, hk, iff⟩ := tru_ex w1
    refine (iff _).mpr ?_
    cases k with
    | true => exact ⟨ι1, ρ, S1, _, E, hρ.mono g1, R1, hk, WXe.grow g1 tk, fun ι2 H2 y u S2 g2 R2 r2 w2 => post ι2 H2 y u S2 (g1.trans g2) R2 r2 w2⟩
    | false => exact (iff _).mp (post ι1 H1 x v S1 g1 R1 r1 hk))⟩
theorem boolt_or (ha : PT X a (tMT X L C ma)) (hb : PW X (.BoolOp .Or (b :: rest) pos) (tMTB X L C false (mb :: ms))) : PW X (.BoolOp .Or (a :: b :: rest) pos) (tMTB X L C false (ma :: mb :: ms)) :=
  ⟨fun wh pins s σ H Q I ⟨ι, ρ, S, Q', E, hρ, R, w, tk, post⟩ => (pw_or ha hb).run wh pins s σ H Q I (by
    rw [wpB] at w
    refine ⟨ι, ρ, S, _, E, hρ, R, w, tk, fun ι1 H1 x v S1 g1 R1 r1 w1 => ?_⟩
    obtain ⟨k, hk, iff⟩ := tru_ex w1
    refine (iff _).mpr ?_
    cases k with
    | false => exact ⟨ι1, ρ, S1, _, E, hρ.mono g1, R1, hk, WXe.grow g1 tk, fun ι2 H2 y u S2 g2 R2 r2 w2 => post ι2 H2 y u S2 (g1.trans g2) R2 r2 w2⟩
    | true => exact (iff _).mp (post ι1 H1 x v S1 g1 R1 r1 hk))⟩
theorem boolt_and1 {k : Bool} (ha : PT X a (tMT X L C ma)) : PW X (.BoolOp .And [a] pos) (tMTB X L C k [ma]) :=
  ⟨fun wh pins s σ H Q I ⟨ι, ρ, S, Q', E, hρ, R, w, tk, post⟩ => (pw_and1 ha).run wh pins s σ H Q I (by
    rw [wpB] at w
    exact ⟨ι, ρ, S, _, E, hρ, R, w, tk, post⟩)⟩
theorem boolt_or1 {k : Bool} (ha : PT X a (tMT X L C ma)) : PW X (.BoolOp .Or [a] pos) (tMTB X L C k [ma]) :=
  ⟨fun wh pins s σ H Q I ⟨ι, ρ, S, Q', E, hρ, R, w, tk, post⟩ => (pw_or1 ha).run wh pins s σ H Q I (by
    rw [wpB] at w
    exact ⟨ι, ρ, S, _, E, hρ, R, w, tk, post⟩)⟩
theorem se_bool_t {op : BoolOp} {k : Bool} (h : PW X (.BoolOp op es pos) (tMTB X L C k ms)) : PT X (.BoolOp op es pos) (tMT X L C (.bool k ms)) :=
  ptImp h.pt fun σ H Q ⟨ι, ρ, S, Q', E, hρ, R, w, tk, post⟩ => by
    simp only [wpE] at w
    exact ⟨ι, ρ, S, _, E, hρ, R, w, tk, post⟩

/-! ### argument lists, displays -/
theorem sa_nil : PA X [] (tMs X L C []) :=
  paImp pa_nil fun σ H Q ⟨ι, ρ, S, Q', E, hρ, R, w, tk, post⟩ => by
    simp only [wpEs] at w
    exact post ι H [] [] S Grow.refl R Rvs.nil rfl w
theorem sa_cons (ha : PE X a (tM X L C ma)) (hb : PA X es (tMs X L C ms)) (hs : starEach (a :: es) X.env = (false, eval a X.env) :: starEach es X.env) : PA X (a :: es) (tMs X L C (ma :: ms)) :=
  paImp (pa_cons ha hb hs) fun σ H Q ⟨ι, ρ, S, Q', E, hρ, R, w, tk, post⟩ => by
    rw [wpEs] at w
    exact ⟨ι, ρ, S, _, E, hρ, R, w, tk, fun ι1 H1 x v S1 g1 R1 r1 w1 => ⟨ι1, ρ, S1, _, E, hρ.mono g1, R1, w1, WXe.grow g1 tk, fun ι2 H2 xs vs S2 g2 R2 r2 l2 w2 =>
      post ι2 H2 (x :: xs) (v :: vs) S2 (g1.trans g2) R2 (Rvs.cons (r1.mono g2) r2) (by simp [l2]) w2⟩⟩
theorem se_tup {k : Nat} (h : PA X es (tMs X L C ms)) (hz : ms.length ≤ big) : PE X (.Tuple es k pos) (tM X L C (.tup ms)) :=
  peImp (pe_tup h) fun σ H Q ⟨ι, ρ, S, Q', E, hρ, R, w, tk, post⟩ => by
    simp only [wpE] at w
    refine ⟨ι, ρ, S, _, E, hρ, R, w, tk, fun ι1 H1 xs vs S1 g1 R1 r1 l1 w1 => ⟨by rw [← r1.len, l1]; exact bigle hz, fun p hp => ?_⟩⟩
    refine post ι1 _ (.tup xs) _ S1 (g1.trans (grow_new hp)) (R1.untold hp) ?_ w1
    simp only [Rv]
    exact ⟨p, vs, rfl, SqT.of upd_same, Rvs.mono (grow_new hp) _ r1⟩
theorem se_lst (h : PA X es (tMs X L C ms)) (hz : ms.length ≤ big) : PE X (.List es pos) (tM X L C (.lst ms)) :=
  peImp (pe_lst h) fun σ H Q ⟨ι, ρ, S, Q', E, hρ, R, w, tk, post⟩ => by
    simp only [wpE] at w
    refine ⟨ι, ρ, S, _, E, hρ, R, w, tk, fun ι1 H1 xs vs S1 g1 R1 r1 l1 w1 => ⟨by rw [← r1.len, l1]; exact bigle hz, fun p hp => ?_⟩⟩
    exact postAlloc R1 hp (fun ι2 H2 x v S2 g2 R2 r2 w2 => post ι2 H2 x v S2 (g1.trans g2) R2 r2 w2) r1 w1

/-! ### subscripts, slices -/
def rIxA (X : Cx) : R2 := fun x y H Q => ∃ r, IxR X r ∧ r x y H Q
theorem rIxA_ok : IxR X (rIxA X) := fun va sl pins s σ H x y v u Q I rx ry ⟨_, o, q⟩ hs => o va sl pins s σ H x y v u Q I rx ry q hs
theorem atRv {ι : List Addr} {H : Hp} {K : PySem.W.Frag} {xs : List Val} {vs : List V} {i : Int} {x : Val} (r : Rvs K ι H xs vs) (h : atV xs i = some x) : ∃ v, atI vs i = some v ∧ Rv K ι H x v := by
  unfold atV at h
  unfold atI
  rw [← r.len]
  simp only [Option.bind_eq_some_iff] at h ⊢
  obtain ⟨j, h1, h2⟩ := h
  obtain ⟨v, h3, h4⟩ := r.get h2
  exact ⟨v, ⟨j, h1, h3⟩, h4⟩
theorem ix_ok {ι : List Addr} {S : Sto} {H : Hp} {x y : Val} {v u : V} {Q' : VQ} {Q : VK} (hK : X.K = L.K) (R : Rel L ι S H) (rx : Rv L.K ι H x v) (ry : Rv L.K ι H y u) (w : ixS x y S Q') (post : Post L ι H Q' Q) : rIxA X v u H Q := by
  cases y with
  | int i =>
    simp only [Rv] at ry
    subst ry
    have seq : ∀ xs z, itemsOf S x = some xs → atV xs i = some z → Q' z S → rIxA X v (.int i) H Q := fun xs z e e2 w => by
      obtain ⟨a, vs, rfl, h1, h2⟩ := itemsSq R rx e
      obtain ⟨t, h3, h4⟩ := atRv h2 e2
      rcases h1 with h1 | h1
      · exact ⟨_, ix_list, a, vs, i, t, rfl, rfl, by rw [hK]; exact h1, h3, post ι H z t S Grow.refl R h4 w⟩
      · exact ⟨_, ix_tup, a, vs, i, t, rfl, rfl, by rw [hK]; exact h1, h3, post ι H z t S Grow.refl R h4 w⟩
    cases x with
    | str z =>
      simp only [ixS] at w
      obtain ⟨w1, w2⟩ := w
      simp only [Rv] at rx
      subst rx
      cases hc : L2.atI z.cps.toList i with
      | none => rw [hc] at w2; exact w2.elim
      | some c =>
        rw [hc] at w2
        exact ⟨_, ix_str, z, i, c, rfl, rfl, bigle w1, hc, post ι H (.str ⟨#[c]⟩) _ S Grow.refl R (by simp only [Rv]) w2⟩
    | tup zs =>
      simp only [ixS, itemsOf] at w
      cases e2 : atV zs i with
      | none => rw [e2] at w; exact w.elim
      | some z => rw [e2] at w; exact seq zs z rfl e2 w
    | loc n =>
      simp only [ixS] at w
      cases e : itemsOf S (.loc n) with
      | none => rw [e] at w; exact w.elim
      | some zs =>
        rw [e] at w
        simp only at w
        cases e2 : atV zs i with
        | none => rw [e2] at w; exact w.elim
        | some z => rw [e2] at w; exact seq zs z e e2 w
    | _ => simp [ixS, itemsOf] at w
  | _ => simp [ixS] at w
theorem se_ix (hK : X.K = L.K) (ha : PE X a (tM X L C ma)) (hb : PE X b (tM X L C mb)) (hp : PlainIx b) : PE X (.Subscript a b pos) (tM X L C (.ix ma mb)) :=
  peImp (pe_ix rIxA_ok ha hb hp) fun σ H Q ⟨ι, ρ, S, Q', E, hρ, R, w, tk, post⟩ => by
    simp only [wpE] at w
    exact ⟨ι, ρ, S, _, E, hρ, R, w, tk, fun ι1 H1 x v S1 g1 R1 r1 w1 => ⟨ι1, ρ, S1, _, E, hρ.mono g1, R1, w1, WXe.grow g1 tk, fun ι2 H2 y u S2 g2 R2 r2 w2 =>
      ix_ok hK R2 (r1.mono g2) r2 w2 fun ι3 H3 z t S3 g3 R3 r3 w3 => post ι3 H3 z t S3 (g1.trans (g2.trans g3)) R3 r3 w3⟩⟩
/-- the part of a slice: none or one -/
def tMO (X : Cx) (L : Lk) (C : Cenv) (es : List ME) : TO := fun σ H Q => ∃ ι ρ S Q' E, RelE L.K ι H ρ σ ∧ Rel L ι S H ∧ wpEs C es ρ S Q' E ∧ Takes X (WXe L ι H σ E) ∧
  ∀ ι' H' xs S', Grow L.K ι H ι' H' → Rel L ι' S' H' → Q' xs S' → ∃ o, partS xs = some o ∧ Q o H'
theorem so_none : PO X none (tMO X L C []) := ⟨fun pins s σ H Q I ⟨ι, ρ, S, Q', E, hρ, R, w, tk, post⟩ => po_none.run pins s σ H Q I (by
  simp only [wpEs] at w
  obtain ⟨o, h1, h2⟩ := post ι H [] S Grow.refl R w
  simp only [partS, Option.some.injEq] at h1
  subst h1
  exact h2)⟩
theorem so_some (ha : PE X a (tM X L C ma)) : PO X (some a) (tMO X L C [ma]) := ⟨fun pins s σ H Q I ⟨ι, ρ, S, Q', E, hρ, R, w, tk, post⟩ => (po_some ha).run pins s σ H Q I (by
  rw [wpEs] at w
  refine ⟨ι, ρ, S, _, E, hρ, R, w, tk, fun ι1 H1 x v S1 g1 R1 r1 w1 => ?_⟩
  simp only [wpEs] at w1
  obtain ⟨o, h1, h2⟩ := post ι1 H1 [x] S1 g1 R1 w1
  cases x with
  | int i =>
    simp only [Rv] at r1
    simp only [partS, Option.some.injEq] at h1
    subst h1
    exact ⟨i, r1, h2⟩
  | _ => simp [partS] at h1)⟩
def rSlX (X : Cx) : V → Option Int → Option Int → Hp → VK → Prop := fun x l h H Q => ∃ r, SlR X r ∧ r x l h H Q
theorem rSlX_ok : SlR X (rSlX X) := fun pins s σ H x v vl vu lo hi sl Q I rx hs pl pu ⟨_, o, q⟩ => o pins s σ H x v vl vu lo hi sl Q I rx hs pl pu q
theorem cutRv {ι : List Addr} {H : Hp} {K : PySem.W.Frag} {xs : List Val} {vs : List V} {l h : Option Int} (r : Rvs K ι H xs vs) : Rvs K ι H (cutL xs l h) (cutV vs l h) := by
  unfold cutL cutV
  rw [← r.len]
  exact (r.drop _).take _
theorem sl_ok {ι : List Addr} {S : Sto} {H : Hp} {x : Val} {v : V} {l h : Option Int} {Q' : VQ} {Q : VK} (hK : X.K = L.K) (R : Rel L ι S H) (rx : Rv L.K ι H x v) (w : slS x l h S Q') (post : Post L ι H Q' Q) : rSlX X v l h H Q := by
  unfold slS at w
  cases x with
  | tup xs =>
    simp only [Rv] at rx
    obtain ⟨a, vs, rfl, h1, h2⟩ := rx
    refine ⟨_, sl_tupA, a, vs, rfl, by rw [hK]; exact h1, fun hw => ?_, fun _ p hp => ?_⟩
    · refine post ι H (.tup (cutL xs l h)) _ S Grow.refl R ?_ w
      have ec : cutL xs l h = xs := by
        unfold cutL
        rw [← h2.len] at hw
        rw [hw.1, hw.2]
        simp
      rw [ec]
      simp only [Rv]
      exact ⟨a, vs, rfl, h1, h2⟩
    · refine post ι _ (.tup (cutL xs l h)) _ S (grow_new hp) (R.untold hp) ?_ w
      simp only [Rv]
      exact ⟨p, _, rfl, SqT.of upd_same, Rvs.mono (grow_new hp) _ (cutRv h2)⟩
  | str z =>
    simp only [Rv] at rx
    subst rx
    exact ⟨_, sl_str, z, rfl, bigle w.1, post ι H (.str (cutS z l h)) _ S Grow.refl R (by simp only [Rv]) w.2⟩
  | loc n =>
    simp only [Rv] at rx
    obtain ⟨a, rfl, ha⟩ := rx
    simp only at w
    split at w
    · rename_i xs e
      obtain ⟨vs, h1, h2⟩ := seqOf R ha e
      exact ⟨_, sl_list, a, vs, rfl, by rw [hK]; exact h1, fun p hp => postAlloc R hp post (cutRv h2) w⟩
    · exact w.elim
  | _ => exact w.elim
theorem se_sl {lo hi : Option Expr} {ml mh : List ME} {p2 : Pos} (hK : X.K = L.K) (ha : PE X a (tM X L C ma)) (hl : PO X lo (tMO X L C ml)) (hh : PO X hi (tMO X L C mh)) : PE X (.Subscript a (.Slice lo hi none p2) pos) (tM X L C (.sl ma ml mh)) :=
  peImp (pe_slice rSlX_ok ha hl hh) fun σ H Q ⟨ι, ρ, S, Q', E, hρ, R, w, tk, post⟩ => by
    simp only [wpE] at w
    refine ⟨ι, ρ, S, _, E, hρ, R, w, tk, fun ι1 H1 x v S1 g1 R1 r1 w1 => ⟨ι1, ρ, S1, _, E, hρ.mono g1, R1, w1, WXe.grow g1 tk, fun ι2 H2 xs S2 g2 R2 w2 => ?_⟩⟩
    unfold part at w2
    cases e1 : partS xs with
    | none =>
      rw [e1] at w2
      exact w2.elim
    | some l =>
      rw [e1] at w2
      refine ⟨l, rfl, ι2, ρ, S2, _, E, hρ.mono (g1.trans g2), R2, w2, WXe.grow (g1.trans g2) tk, fun ι3 H3 ys S3 g3 R3 w3 => ?_⟩
      cases e2 : partS ys with
      | none =>
        rw [e2] at w3
        exact w3.elim
      | some h =>
        rw [e2] at w3
        exact ⟨h, rfl, sl_ok hK R3 (r1.mono (g2.trans g3)) w3 fun ι4 H4 z t S4 g4 R4 r4 w4 => post ι4 H4 z t S4 (g1.trans (g2.trans (g3.trans g4))) R4 r4 w4⟩
end
end PM

namespace PM
open PySem PySem.Spec PyProof.Rows L2

section
variable {X : Cx} {L : Lk} {C : Cenv} {e a b c : Expr} {es rest : List Expr} {m ma mb mc : ME} {ms : List ME} {pos p p2 : Pos}
/-! ### types -/
theorem tyx_of {ι : List Addr} {S : Sto} {H : Hp} {x : Val} {v : V} (R : Rel L ι S H) (r : Rv L.K ι H x v) (k : known S x = true) : TyX L.K H v (.type (tyN (tyS S x))) := by
  cases x with
  | non => simp only [Rv] at r; subst r; exact .base .non
  | bl b => simp only [Rv] at r; subst r; exact .base (.bl b)
  | int b => simp only [Rv] at r; subst r; exact .base (.int b)
  | str b => simp only [Rv] at r; subst r; exact .base (.str b)
  | tup xs =>
    simp only [Rv] at r
    obtain ⟨a, vs, rfl, h, _⟩ := r
    rcases h with (h | ⟨o, h⟩) | ⟨o, its, n, h1, h2, _⟩
    · exact .base (.tup h)
    · exact .fTuple h
    · exact .kTuple h1 h2
  | cst n y => simp [known] at k
  | loc n =>
    simp only [Rv] at r
    obtain ⟨a, rfl, ha⟩ := r
    have e : tyN (tyS S (.loc n)) = "list" := by
      simp only [known] at k
      simp only [tyS]
      cases hl : lstAt S n with
      | none => rw [hl] at k; cases k
      | some xs => rfl
    rw [e]
    simp only [known] at k
    unfold lstAt at k
    split at k
    · rename_i ys e
      obtain ⟨vs, e1, _⟩ := R.obj n _ a e ha
      exact .base (.lst e1)
    · rename_i ys e
      obtain ⟨vs, e1, _⟩ := R.obj n _ a e ha
      rcases e1 with ⟨o, e1⟩ | ⟨o, its, n, h1, h2, _⟩
      · exact .base (.frz e1)
      · exact .kList h1 h2
    · cases k
theorem kit_all (S : Sto) (x : Val) (T : Ty) : kitB (tyN (tyS S x)) T.py = some (istS S x T) := by
  have : istS S x T = (match T with | .int => tyS S x == some .int || tyS S x == some .bool | T => tyS S x == some T) := rfl
  rw [this]
  cases tyS S x with
  | none => cases T <;> decide +kernel
  | some t => cases t <;> cases T <;> decide +kernel
theorem boot_ty (T : Ty) : bootBuiltins (Str.ofString T.py) = some (.type T.py) := by cases T <;> decide +kernel
theorem ofTy (T : Ty) {x : Str} (h : x = Str.ofString T.py) : x ≠ "__name__" ∧ (x == ("__debug__" : Str)) = false := by
  subst h
  cases T <;> exact ⟨by decide +kernel, by decide +kernel⟩
theorem pe_tyname {T : Ty} {x : Str} (hx : x = Str.ofString T.py) (hg : Gl X x) (hm : X.mg x = none) : PE X (.Name x p) (tC (.ty T.py)) :=
  pe_bltn hg hm (by rw [hx]; exact boot_ty T) rfl (ofTy T hx).1 (ofTy T hx).2
theorem se_ist {T : Ty} {x : Str} {y : Str} (hK : X.K = L.K) (hy : y = "isinstance") (hgy : Gl X y) (hmy : X.mg y = none) (hx : x = Str.ofString T.py) (hg : Gl X x) (hm : X.mg x = none) (ha : PE X a (tM X L C ma))
    (hs : starEach [a, .Name x p] X.env = (false, eval a X.env) :: starEach [.Name x p] X.env) (hpl : (backTo pos (starEach [.Name x p] X.env)).any (·.1) = false) : PE X (.Call (.Name y p2) [a, .Name x p] [] pos) (tM X L C (.ist ma T)) := by
  subst hy
  exact peImp (pe_callB call_isi hgy hmy (by decide +kernel) (pa_cons ha (pa_cons (pe_tyname hx hg hm) pa_nil rfl) hs) (by decide) (by decide) hs hpl) fun σ H Q ⟨ι, ρ, S, Q', E, hρ, R, w, tk, post⟩ => by
    simp only [wpE] at w
    refine ⟨ι, ρ, S, _, E, hρ, R, w, tk, fun ι1 H1 x v S1 g1 R1 r1 w1 => ?_⟩
    refine ⟨v, .ty T.py, .type (tyN (tyS S1 x)), .type T.py, _, rfl, .ty _, by rw [hK]; exact tyx_of R1 r1 w1.1, kit_ty (kit_all S1 x T), ?_⟩
    exact post ι1 H1 (.bl _) _ S1 g1 R1 (by simp only [Rv]) w1.2

/-! ### builtins -/
def rBiA (X : Cx) (f : Value) : List V → Hp → VK → Prop := fun xs H Q => ∃ r, CallR X f r ∧ r xs H Q
theorem rBiA_ok {f : Value} : CallR X f (rBiA X f) := fun pins s σ H xs us Q I rx ⟨_, o, q⟩ => o pins s σ H xs us Q I rx q
theorem bls_of {ι : List Addr} {H : Hp} {K : PySem.W.Frag} : ∀ {xs : List Val} {vs : List V} {bs : List Bool}, Rvs K ι H xs vs → blS xs = some bs → vs = bs.map V.bl
  | [], vs, bs, r, h => by
    simp only [Rvs] at r
    simp only [blS, Option.some.injEq] at h
    subst r h
    rfl
  | x :: xs, vs, bs, r, h => by
    simp only [Rvs] at r
    obtain ⟨v, ws, rfl, h1, h2⟩ := r
    cases x with
    | bl b =>
      simp only [blS, Option.map_eq_some_iff] at h
      obtain ⟨cs, h3, rfl⟩ := h
      simp only [Rv] at h1
      rw [h1, bls_of h2 h3]
      rfl
    | _ => simp [blS] at h
theorem one_of {ι : List Addr} {H : Hp} {K : PySem.W.Frag} {x : Val} {vs : List V} (r : Rvs K ι H [x] vs) : ∃ v, vs = [v] ∧ Rv K ι H x v := by
  simp only [Rvs] at r
  obtain ⟨v, ws, rfl, h1, rfl⟩ := r
  exact ⟨v, rfl, h1⟩
theorem two_of {ι : List Addr} {H : Hp} {K : PySem.W.Frag} {x y : Val} {vs : List V} (r : Rvs K ι H [x, y] vs) : ∃ v u, vs = [v, u] ∧ Rv K ι H x v ∧ Rv K ι H y u := by
  simp only [Rvs] at r
  obtain ⟨v, ws, rfl, h1, u, ws2, rfl, h2, rfl⟩ := r
  exact ⟨v, u, rfl, h1, h2⟩
theorem bi_ok {f : Bi} {ι : List Addr} {S : Sto} {H : Hp} {xs : List Val} {vs : List V} {Q' : VQ} {Q : VK} (hK : X.K = L.K) (hc : X.calm = true) (R : Rel L ι S H) (r : Rvs L.K ι H xs vs) (w : biS f xs S Q') (post : Post L ι H Q' Q) : rBiA X f.fv vs H Q := by
  unfold biS at w
  split at w
  · rename_i x
    obtain ⟨v, rfl, r1⟩ := one_of r
    split at w
    · simp only [Rv] at r1
      subst r1
      exact ⟨_, call_len, _, _, rfl, ⟨bigle w.1, rfl⟩, post ι H (.int _) _ S Grow.refl R (by simp only [Rv]) w.2⟩
    · split at w
      · rename_i ys e
        obtain ⟨a, us, rfl, h1, h2⟩ := itemsSq R r1 e
        refine ⟨_, call_len_seq, a, us, rfl, by rw [hK]; exact h1, ?_⟩
        rw [← h2.len]
        exact post ι H (.int _) _ S Grow.refl R (by simp only [Rv]) w
      · exact w.elim
  · obtain ⟨v, rfl, r1⟩ := one_of r
    simp only [Rv] at r1
    subst r1
    exact ⟨_, call_int1, .inl ⟨_, rfl, post ι H (.int _) _ S Grow.refl R (by simp only [Rv]) w⟩⟩
  · obtain ⟨v, rfl, r1⟩ := one_of r
    simp only [Rv] at r1
    subst r1
    exact ⟨_, call_int1, .inr ⟨_, rfl, post ι H (.int _) _ S Grow.refl R (by simp only [Rv]) w⟩⟩
  · obtain ⟨v, rfl, r1⟩ := one_of r
    simp only [Rv] at r1
    subst r1
    exact ⟨_, call_abs, _, rfl, post ι H (.int _) _ S Grow.refl R (by simp only [Rv]) w⟩
  · obtain ⟨v, u, rfl, r1, r2⟩ := two_of r
    simp only [Rv] at r1 r2
    subst r1 r2
    exact ⟨_, call_min2 hc, _, _, rfl, post ι H (.int _) _ S Grow.refl R (by simp only [Rv]) w⟩
  · obtain ⟨v, u, rfl, r1, r2⟩ := two_of r
    simp only [Rv] at r1 r2
    subst r1 r2
    exact ⟨_, call_max2 hc, _, _, rfl, post ι H (.int _) _ S Grow.refl R (by simp only [Rv]) w⟩
  · obtain ⟨v, rfl, r1⟩ := one_of r
    simp only [Rv] at r1
    subst r1
    exact ⟨_, call_str_int, _, rfl, w.1, post ι H (.str _) _ S Grow.refl R (by simp only [Rv]) w.2⟩
  · obtain ⟨v, rfl, r1⟩ := one_of r
    simp only [Rv] at r1
    subst r1
    exact ⟨_, SkE.call_str_str, _, rfl, post ι H (.str _) _ S Grow.refl R (by simp only [Rv]) w⟩
  · obtain ⟨v, rfl, r1⟩ := one_of r
    have r1' := r1
    simp only [Rv] at r1
    obtain ⟨a, us, rfl, h1, h2⟩ := r1
    exact ⟨_, call_tupleT, a, us, rfl, by rw [hK]; exact h1, post ι H _ _ S Grow.refl R r1' w⟩
  · rename_i n
    obtain ⟨v, rfl, r1⟩ := one_of r
    simp only [Rv] at r1
    obtain ⟨a, rfl, ha⟩ := r1
    split at w
    · rename_i ys e
      obtain ⟨us, h1, h2⟩ := seqOf R ha e
      refine ⟨_, call_tuple_of, a, us, rfl, .inl ⟨by rw [hK]; exact h1, fun p hp => ?_⟩⟩
      refine post ι _ (.tup ys) _ S (grow_new hp) (R.untold hp) ?_ w
      simp only [Rv]
      exact ⟨p, us, rfl, SqT.of upd_same, Rvs.mono (grow_new hp) _ h2⟩
    · exact w.elim
  · obtain ⟨v, rfl, r1⟩ := one_of r
    split at w
    · rename_i ys e
      obtain ⟨a, us, rfl, h1, h2⟩ := itemsSq R r1 e
      exact ⟨_, call_list_of, a, us, rfl, by rw [hK]; exact h1, fun p hp => postAlloc R hp post h2 w⟩
    · exact w.elim
  · rename_i n
    obtain ⟨v, rfl, r1⟩ := one_of r
    simp only [Rv] at r1
    obtain ⟨a, rfl, ha⟩ := r1
    split at w
    · rename_i bs e
      simp only [Option.bind_eq_some_iff] at e
      obtain ⟨ys, e1, e2⟩ := e
      obtain ⟨us, h1, h2⟩ := seqOf R ha e1
      have := bls_of h2 e2
      subst this
      exact ⟨_, cr_all hc, a, bs, rfl, by rw [hK]; exact h1, post ι H (.bl _) _ S Grow.refl R (by simp only [Rv]) w⟩
    · exact w.elim
  · rename_i n
    obtain ⟨v, rfl, r1⟩ := one_of r
    simp only [Rv] at r1
    obtain ⟨a, rfl, ha⟩ := r1
    split at w
    · rename_i bs e
      simp only [Option.bind_eq_some_iff] at e
      obtain ⟨ys, e1, e2⟩ := e
      obtain ⟨us, h1, h2⟩ := seqOf R ha e1
      have := bls_of h2 e2
      subst this
      exact ⟨_, cr_any hc, a, bs, rfl, by rw [hK]; exact h1, post ι H (.bl _) _ S Grow.refl R (by simp only [Rv]) w⟩
    · exact w.elim
  · obtain ⟨v, rfl, r1⟩ := one_of r
    simp only [Rv] at r1
    subst r1
    exact ⟨_, call_ord, _, rfl, w.1, post ι H (.int _) _ S Grow.refl R (by simp only [Rv]) w.2⟩
  · exact w.elim
theorem bi_boot (f : Bi) : bootBuiltins f.nm = some f.fv := by cases f <;> decide +kernel
theorem bi_nm (f : Bi) : f.nm ≠ "__name__" ∧ (f.nm == ("__debug__" : Str)) = false := by cases f <;> exact ⟨by decide +kernel, by decide +kernel⟩
theorem se_bi {f : Bi} {x : Str} (hK : X.K = L.K) (hc : X.calm = true) (hx : x = f.nm) (hg : Gl X x) (hm : X.mg x = none) (ha : PA X (e :: es) (tMs X L C ms))
    (he : starEach (e :: es) X.env = (false, eval e X.env) :: starEach es X.env) (hpl : (backTo pos (starEach es X.env)).any (·.1) = false) : PE X (.Call (.Name x p) (e :: es) [] pos) (tM X L C (.bi f ms)) := by
  subst hx
  have h : PE X (.Call (.Name f.nm p) (e :: es) [] pos) (tCB (rBiA X f.fv) (tMs X L C ms)) := by
    have hb := bi_boot f
    have hn := bi_nm f
    have ok := rBiA_ok (X := X) (f := f.fv)
    generalize hq : f.nm = q at *
    generalize hv : f.fv = fv at *
    have : (∃ id, fv = .builtin id) ∨ ∃ T, fv = .type T := by
      subst hv
      cases f <;> first | exact .inl ⟨_, rfl⟩ | exact .inr ⟨_, rfl⟩
    rcases this with ⟨id, rfl⟩ | ⟨T, rfl⟩
    · exact pe_callB ok hg hm hb ha hn.1 hn.2 he hpl
    · exact pe_callTy ok hg hm hb ha hn.1 hn.2 he hpl
  exact peImp h fun σ H Q ⟨ι, ρ, S, Q', E, hρ, R, w, tk, post⟩ => by
    simp only [wpE] at w
    exact ⟨ι, ρ, S, _, E, hρ, R, w, tk, fun ι1 H1 xs vs S1 g1 R1 r1 _ w1 => bi_ok hK hc R1 r1 w1 fun ι2 H2 z t S2 g2 R2 r2 w2 => post ι2 H2 z t S2 (g1.trans g2) R2 r2 w2⟩

/-! ### calls of defs -/
/-- what a def of the program promises, by what a call asks -/
def spC (L : Lk) (C : Cenv) (i : Nat) : Sp := fun vs H Q E => ∃ ι xs S Q' E', Rel L ι S H ∧ Rvs L.K ι H xs vs ∧ C.call i xs S Q' E' ∧ Post L ι H Q' Q ∧
  ∀ ι' H' S' c d, Grow L.K ι H ι' H' → Rel L ι' S' H' → E' c S' → E (L.xc c) d H'
structure Callee (X : Cx) (L : Lk) (C : Cenv) (i : Nat) (x : Str) : Prop where
  ex : ∃ (f : Addr) (fd : FuncData) (ps : List Str) (k : Nat), X.mg x = some (.ref f) ∧ PySem.W.keepIn X.K (.ref f) = true ∧ FnOk X.prog X.w X.K X.mg X.base (L2.CX X.prog X.w) k f fd ps (spC L C i) ∧ Binds X.K fd ps [] ∧ Room k X.A
theorem call_go {i : Nat} {f : Addr} {fd : FuncData} {ps : List Str} {k : Nat} {pins : List (Addr × Obj)} {s : Shared} {σ : L2.St} {H : Hp} {ι : List Addr} {S : Sto} {xs : List Val} {vs : List V} {us : List Value} {Q' : VQ} {E : XQ} {Q : VK}
    (F : FnOk X.prog X.w X.K X.mg X.base (L2.CX X.prog X.w) k f fd ps (spC L C i)) (hb : Binds X.K fd ps []) (hr : Room k X.A) (I : Inv X pins σ H s) (rv : Vals vs us) (R : Rel L ι S H) (r : Rvs L.K ι H xs vs) (w : C.call i xs S Q' E) (tk : Takes X (WXe L ι H σ E)) (post : Post L ι H Q' Q) :
    wpAny (model X.prog X.w) X.A (call (.ref f) us) (EP X pins σ Q) X.xe s := by
  refine run_fnS (E := fun σ => WE (WXe L ι H σ E) σ) F hr hb ?_ I rv ?_
  · exact passAt tk σ
  · exact ⟨ι, xs, S, Q', E, R, r, w, post, fun ι' H' S' c d g R' e => ⟨rfl, ι', S', c, g, R', rfl, e⟩⟩
theorem se_call {i : Nat} {x : Str} (F : Callee X L C i x) (hg : Gl X x) (hd : (x == ("__debug__" : Str)) = false) (ha : PA X (e :: es) (tMs X L C ms))
    (he : starEach (e :: es) X.env = (false, eval e X.env) :: starEach es X.env) (hpl : (backTo pos (starEach es X.env)).any (·.1) = false) : PE X (.Call (.Name x p) (e :: es) [] pos) (tM X L C (.call i ms)) := by
  obtain ⟨f, fd, ps, k, hm, hk, F, hb, hr⟩ := F.ex
  refine ⟨fun pins s σ H Q I ⟨ι, ρ, S, Q', E, hρ, R, w, tk, post⟩ => ?_⟩
  simp only [wpE] at w
  refine wpAny_Call_Name_kw (ld_glob I hg hm ?_ hd)
  have hq : tMs X L C ms σ H (fun vs H1 => ∃ ι1 xs S1, Grow L.K ι H ι1 H1 ∧ Rel L ι1 S1 H1 ∧ Rvs L.K ι1 H1 xs vs ∧ C.call i xs S1 Q' E) :=
    ⟨ι, ρ, S, _, E, hρ, R, w, tk, fun ι1 H1 xs vs S1 g1 R1 r1 _ w1 => ⟨ι1, xs, S1, g1, R1, r1, w1⟩⟩
  refine PySem.W.callWith_K (h₀ := X.base) I.ok.mod.kin hk (thn (ha.run pos pins s σ H _ I hq) fun us s1 ⟨vs, H1, I1, r, ι1, xs, S1, g1, R1, r1, w1⟩ => ⟨I1.kIn, ?_⟩) he hpl
  exact call_go F hb hr I1 r R1 r1 w1 (WXe.grow g1 tk) fun ι2 H2 z t S2 g2 R2 r2 w2 => post ι2 H2 z t S2 (g1.trans g2) R2 r2 w2
theorem se_call0 {i : Nat} {x : Str} (F : Callee X L C i x) (hg : Gl X x) (hd : (x == ("__debug__" : Str)) = false) : PE X (.Call (.Name x p) [] [] pos) (tM X L C (.call i [])) := by
  obtain ⟨f, fd, ps, k, hm, hk, F, hb, hr⟩ := F.ex
  refine ⟨fun pins s σ H Q I ⟨ι, ρ, S, Q', E, hρ, R, w, tk, post⟩ => ?_⟩
  simp only [wpE, wpEs] at w
  refine wpAny_Call_Name_kw (ld_glob I hg hm ?_ hd)
  exact PySem.W.callWith_K0 I.kIn hk (call_go (us := []) F hb hr I .nil R Rvs.nil w tk post)
end
end PM

namespace PM
open PySem PySem.Spec PyProof.Rows L2
open PySem.TypeEq
theorem slot_type_ne : Slot "type" (cmpInfo .NotEq).2.1 "object.__ne__" :=
  .of (owner := "object") (n := "__ne__") (by rw [typeLookup_type, builtinLookup_eq_fast]; kernel_rfl) (by decide +kernel) (by decide +kernel) (by decide +kernel)
    (by first | exact .inl (by decide +kernel) | exact .inr (by decide +kernel)) (by rw [isSubtype_type]; kernel_rfl)
theorem slot_type_ne_refl : Slot "type" (cmpInfo .NotEq).2.2 "object.__ne__" :=
  .of (owner := "object") (n := "__ne__") (by rw [typeLookup_type, builtinLookup_eq_fast]; kernel_rfl) (by decide +kernel) (by decide +kernel) (by decide +kernel)
    (by first | exact .inl (by decide +kernel) | exact .inr (by decide +kernel)) (by rw [isSubtype_type]; kernel_rfl)
theorem slot_type_eq' : Slot "type" "__eq__" "object.__eq__" := slot_type_eq

theorem object_ne_same {X : String} (hX : ∀ s' : Shared, s'.TypeIs (.type X) "type") : Gives (Builtin.«object.__ne__» ⟨[.type X, .type X], []⟩) (.val (.bool false)) := by
  intro prog w A R s h
  unfold Builtin.«object.__ne__»
  repeat (first
    | (refine wpAny_bind (m := callSpecialIfBound? (.type X) (Str.ofString "__eq__") [.type X])
        (wpAny_callSpecialIfBound?_slot (hX s) slot_type_eq' (call_gives slot_type_eq (hX s) F.entry_object_eq (F.args_object_eq_2 _ _) (object_eq_same rfl (by simp)) ?_)))
    | wp_step)
  refine wpAny_bind (wpAny_truthy_bool ?_)
  exact wpAny_pure h
theorem object_ne_other {X Y : String} (hX : ∀ s' : Shared, s'.TypeIs (.type X) "type") (hne : (Value.type X == Value.type Y) = false) : Gives (Builtin.«object.__ne__» ⟨[.type X, .type Y], []⟩) (.val .notImplemented) := by
  intro prog w A R s h
  unfold Builtin.«object.__ne__»
  repeat (first
    | (refine wpAny_bind (m := callSpecialIfBound? (.type X) (Str.ofString "__eq__") [.type Y])
        (wpAny_callSpecialIfBound?_slot (hX s) slot_type_eq' (call_gives slot_type_eq (hX s) F.entry_object_eq (F.args_object_eq_2 _ _) (object_eq_other rfl hne) ?_)))
    | wp_step)
  exact wpAny_pure h
theorem ne_same_decline {M : Model} {A : Around} {E : Value → Shared → Prop} {s : Shared} {a b : Value} {T id : String} {k : Bool} {Q : Value → Shared → Prop} (ha : ∀ s' : Shared, s'.TypeIs a T) (hb : ∀ s' : Shared, s'.TypeIs b T)
    (h1 : Slot T (cmpInfo .NotEq).2.1 id) (h2 : Slot T (cmpInfo .NotEq).2.2 id) (hv : [a, b].any Value.onHeap = false) (hk : isSame a b = pure k)
    (hc : wpAny M A (call (.builtin id) [a, b]) (fun v s₁ => v = .notImplemented ∧ wpAny M A (call (.builtin id) [b, a]) (fun v s₂ => v = .notImplemented ∧ Q (.bool (!k)) s₂) E s₁) E s) :
    wpAny M A (richCompare .NotEq a b) Q E s := by
  rcases hi : cmpInfo CmpOp.NotEq with ⟨sym, f, r⟩
  rw [hi] at h1 h2
  simp only [richCompare, hi, (ha s).oneThing_none]
  try with_reducible refine wpAny_holding ?_
  refine wpAny_bind (wpAny_cRoomFor_or (.inl hv) ?_)
  refine wpAny_bind (wpAny_typeOf (ha s) (wpAny_bind (wpAny_typeOf (hb s) ?_)))
  simp only [bne_self_eq_false, Bool.false_eq_true, if_false, pure_bind, Bool.not_false, if_true]
  refine wpAny_bind (m := tryCompare a _ b) (wpAny_tryCompare_declines (ha s) h1 (wpAny_mono hc (fun v s₁ h₁ => ⟨h₁.1, ?_⟩) fun _ _ x => x))
  refine wpAny_bind (m := tryCompare b _ a) (wpAny_tryCompare_declines (hb s₁) h2 (wpAny_mono h₁.2 (fun v s₂ h₂ => ⟨h₂.1, ?_⟩) fun _ _ x => x))
  refine wpAny_bind (wpAny_rule (wpAny_bind (wpAny_of_eq hk (wpAny_pure h₂.2))))
section
variable {prog : Program} {w : World} {A : Around} {E : Value → Shared → Prop} {s : Shared} {Q : Value → Shared → Prop}
theorem ne_type_same {X : String} (hX : ∀ s' : Shared, s'.TypeIs (.type X) "type") (h : Q (.bool false) s) : wpAny (model prog w) A (compareOp .NotEq (.type X) (.type X)) Q E s := by
  show wpAny _ A (richCompare .NotEq _ _) Q E s
  exact wpAny_richCompare_same (T := "type") (hX s) (hX s) slot_type_ne
    (call_gives slot_type_ne (hX s) F.cmpEntry_ne (F.cmpArgs_ne _ _) (object_ne_same hX) ⟨(by intro e; cases e), h⟩)
theorem ne_type_other {X Y : String} (hX : ∀ s' : Shared, s'.TypeIs (.type X) "type") (hY : ∀ s' : Shared, s'.TypeIs (.type Y) "type") (hne : (Value.type X == Value.type Y) = false) (h : Q (.bool true) s) : wpAny (model prog w) A (compareOp .NotEq (.type X) (.type Y)) Q E s := by
  have hne' : (Value.type Y == Value.type X) = false := by
    rw [Bool.eq_false_iff] at hne ⊢
    intro e
    exact hne (by rw [beq_iff_eq] at e ⊢; exact e.symm)
  show wpAny _ A (richCompare .NotEq _ _) Q E s
  exact ne_same_decline (T := "type") (k := false) hX hY slot_type_ne slot_type_ne_refl rfl (by rw [isSame_plain rfl, hne])
    (call_gives slot_type_ne (hX s) F.cmpEntry_ne (F.cmpArgs_ne _ _) (object_ne_other hX hne)
      ⟨rfl, call_gives slot_type_ne_refl (hY s) F.cmpEntry_ne (F.cmpArgs_ne _ _) (object_ne_other hY hne') ⟨rfl, h⟩⟩)
end
theorem meta_all (T : Option Ty) (s' : Shared) : s'.TypeIs (.type (tyN T)) "type" := by
  cases T with
  | none => exact meta_NoneType s'
  | some t => cases t <;> first | exact meta_int s' | exact meta_bool s' | exact meta_str s' | exact meta_tuple s' | exact meta_list s'
theorem tyN_ne (a b : Option Ty) (h : a ≠ b) : (Value.type (tyN a) == Value.type (tyN b)) = false := by
  cases a with
  | none => cases b with
    | none => exact absurd rfl h
    | some t => cases t <;> decide +kernel
  | some u => cases b with
    | none => cases u <;> decide +kernel
    | some t => cases u <;> cases t <;> first | (exact absurd rfl h) | decide +kernel
section
variable {X : Cx} {L : Lk} {C : Cenv} {a : Expr} {ma : ME} {pos p p2 p3 : Pos}
/-- == and != of two built-in classes -/
theorem op_eqTy : OpR X (compareOp .Eq) (fun x y H Q => ∃ a b : Option Ty, x = .ty (tyN a) ∧ y = .ty (tyN b) ∧ Q (.bl (a == b)) H) := by
  intro pins s σ H x y v u Q I rx ry h
  obtain ⟨a, b, rfl, rfl, q⟩ := h
  cases (show v = Value.type (tyN a) from rx)
  cases (show u = Value.type (tyN b) from ry)
  by_cases e : a = b
  · subst e
    exact eq_type_same (meta_all a) ⟨.bl true, H, I, rfl, by simpa using q⟩
  · exact eq_type_other (meta_all a) (meta_all b) (tyN_ne a b e) ⟨.bl false, H, I, rfl, by rw [show (a == b) = false from beq_false_of_ne e] at q; exact q⟩
theorem op_neTy : OpR X (compareOp .NotEq) (fun x y H Q => ∃ a b : Option Ty, x = .ty (tyN a) ∧ y = .ty (tyN b) ∧ Q (.bl (!(a == b))) H) := by
  intro pins s σ H x y v u Q I rx ry h
  obtain ⟨a, b, rfl, rfl, q⟩ := h
  cases (show v = Value.type (tyN a) from rx)
  cases (show u = Value.type (tyN b) from ry)
  by_cases e : a = b
  · subst e
    exact ne_type_same (meta_all a) ⟨.bl false, H, I, rfl, by simpa using q⟩
  · exact ne_type_other (meta_all a) (meta_all b) (tyN_ne a b e) ⟨.bl true, H, I, rfl, by rw [show (a == b) = false from beq_false_of_ne e] at q; exact q⟩
/-- type(x) -/
theorem call_typeA (S : Sto) (ι : List Addr) : CallR X (.type "type") (fun xs H Q => ∃ (L : Lk) (S : Sto) (ι : List Addr) (x : Val) (v : V), xs = [v] ∧ X.K = L.K ∧ Rel L ι S H ∧ Rv L.K ι H x v ∧ known S x = true ∧ Q (.ty (tyN (tyS S x))) H) := by
  intro pins s σ H xs us Q I r h
  obtain ⟨L, S, ι, x, v, rfl, hK, R, rv, k, q⟩ := h
  obtain ⟨u, rfl, rx⟩ := vals1 r
  have nb : ∀ T : Option Ty, (Value.type (tyN T) == Value.type "builtin_function_or_method") = false := fun T => by
    cases T with
    | none => decide +kernel
    | some t => cases t <;> decide +kernel
  have go : ∀ {s1 : Shared}, s1 = s → s1.TypeIs u (tyN (tyS S x)) → wpAny (model X.prog X.w) X.A (call (.type "type") [u]) (EP X pins σ Q) X.xe s := fun {s1} e t => by
    subst e
    exact call_type_of t (nb _) ⟨.ty _, H, I, rfl, q⟩
  cases x with
  | non => simp only [Rv] at rv; subst rv; cases rx; exact go rfl (show s.TypeIs Value.none "NoneType" from rfl)
  | bl b => simp only [Rv] at rv; subst rv; cases rx; exact go rfl (show s.TypeIs (Value.bool b) "bool" from rfl)
  | int b => simp only [Rv] at rv; subst rv; obtain ⟨t, rfl⟩ := rx; exact go rfl (show s.TypeIs (Value.int b t) "int" from rfl)
  | str b => simp only [Rv] at rv; subst rv; obtain ⟨t, rfl⟩ := rx; exact go rfl (show s.TypeIs (Value.str b t) "str" from rfl)
  | tup ys =>
    simp only [Rv] at rv
    obtain ⟨a, vs, rfl, h1, _⟩ := rv
    cases rx
    obtain ⟨its, _, p, _⟩ := I.tuple (by rw [hK]; exact h1)
    exact go rfl p.typeIs
  | cst n y => simp [known] at k
  | loc n =>
    simp only [Rv] at rv
    obtain ⟨a, rfl, ha⟩ := rv
    cases rx
    simp only [known] at k
    cases hl : lstAt S n with
    | none => rw [hl] at k; cases k
    | some ys =>
      obtain ⟨vs, h1, _⟩ := seqOf R ha hl
      obtain ⟨its, _, p, _⟩ := I.list (by rw [hK]; exact h1)
      refine go rfl ?_
      simp only [tyS, hl]
      exact p.isList.typeIs
end
end PM

namespace PM
open PySem PySem.Spec PyProof.Rows L2
open RZ (ItzT pi_zipA)

section
variable {X : Cx} {L : Lk} {C : Cenv} {e a b c : Expr} {es rest : List Expr} {m ma mb mc : ME} {ms : List ME} {pos p p2 p3 : Pos}
/-! ### type(x) == T -/
theorem se_tyc {k : Bool} {T : Ty} {x y : Str} (hK : X.K = L.K) (hy : y = "type") (hgy : Gl X y) (hmy : X.mg y = none) (hx : x = Str.ofString T.py) (hg : Gl X x) (hm : X.mg x = none) (ha : PE X a (tM X L C ma))
    (hs : starEach [a] X.env = (false, eval a X.env) :: starEach [] X.env) (hpl : (backTo p2 (starEach [] X.env)).any (·.1) = false) :
    PE X (.Compare (.Call (.Name y p) [a] [] p2) [if k then .Eq else .NotEq] [.Name x p3] pos) (tM X L C (.tyc k ma T)) := by
  subst hy
  have ht : PE X (.Call (.Name "type" p) [a] [] p2) _ := pe_callTy (call_typeA [] []) hgy hmy (by decide +kernel) (pa_cons ha pa_nil hs) (by decide) (by decide) hs hpl
  have hn : PE X (.Name x p3) _ := pe_tyname hx hg hm
  cases k with
  | true =>
    exact peImp (pe_cmpR op_eqTy ht hn (nomark _)) fun σ H Q ⟨ι, ρ, S, Q', E, hρ, R, w, tk, post⟩ => by
      simp only [wpE] at w
      refine ⟨ι, ρ, S, _, E, hρ, R, w, tk, fun ι1 H1 x v S1 g1 R1 r1 w1 => ?_⟩
      exact ⟨L, S1, ι1, x, v, rfl, hK, R1, r1, w1.1, tyS S1 x, some T, rfl, rfl, post ι1 H1 (.bl _) _ S1 g1 R1 (by simp only [Rv]; rfl) w1.2⟩
  | false =>
    exact peImp (pe_cmpR op_neTy ht hn (nomark _)) fun σ H Q ⟨ι, ρ, S, Q', E, hρ, R, w, tk, post⟩ => by
      simp only [wpE] at w
      refine ⟨ι, ρ, S, _, E, hρ, R, w, tk, fun ι1 H1 x v S1 g1 R1 r1 w1 => ?_⟩
      exact ⟨L, S1, ι1, x, v, rfl, hK, R1, r1, w1.1, tyS S1 x, some T, rfl, rfl, post ι1 H1 (.bl _) _ S1 g1 R1 (by simp only [Rv]; rfl) w1.2⟩
theorem se_tyc_t {k : Bool} {T : Ty} {x y : Str} (hK : X.K = L.K) (hy : y = "type") (hgy : Gl X y) (hmy : X.mg y = none) (hx : x = Str.ofString T.py) (hg : Gl X x) (hm : X.mg x = none) (ha : PE X a (tM X L C ma))
    (hs : starEach [a] X.env = (false, eval a X.env) :: starEach [] X.env) (hpl : (backTo p2 (starEach [] X.env)).any (·.1) = false) :
    PT X (.Compare (.Call (.Name y p) [a] [] p2) [if k then .Eq else .NotEq] [.Name x p3] pos) (tMT X L C (.tyc k ma T)) := by
  subst hy
  have ht : PE X (.Call (.Name "type" p) [a] [] p2) _ := pe_callTy (call_typeA [] []) hgy hmy (by decide +kernel) (pa_cons ha pa_nil hs) (by decide) (by decide) hs hpl
  have hn : PE X (.Name x p3) _ := pe_tyname hx hg hm
  cases k with
  | true =>
    exact ptImp (pt_cmpR op_eqTy ht hn (nomark _)) fun σ H Q ⟨ι, ρ, S, Q', E, hρ, R, w, tk, post⟩ => by
      simp only [wpE] at w
      refine ⟨ι, ρ, S, _, E, hρ, R, w, tk, fun ι1 H1 x v S1 g1 R1 r1 w1 => ?_⟩
      exact ⟨L, S1, ι1, x, v, rfl, hK, R1, r1, w1.1, tyS S1 x, some T, rfl, rfl, _, rfl, post ι1 H1 (.bl _) (.bl _) S1 g1 R1 (by simp only [Rv]; rfl) w1.2⟩
  | false =>
    exact ptImp (pt_cmpR op_neTy ht hn (nomark _)) fun σ H Q ⟨ι, ρ, S, Q', E, hρ, R, w, tk, post⟩ => by
      simp only [wpE] at w
      refine ⟨ι, ρ, S, _, E, hρ, R, w, tk, fun ι1 H1 x v S1 g1 R1 r1 w1 => ?_⟩
      exact ⟨L, S1, ι1, x, v, rfl, hK, R1, r1, w1.1, tyS S1 x, some T, rfl, rfl, _, rfl, post ι1 H1 (.bl _) (.bl _) S1 g1 R1 (by simp only [Rv]; rfl) w1.2⟩

/-! ### what is walked -/
/-- J yields the items ys, while g stands -/
structure Wk (L : Lk) (ι0 : List Addr) (H0 : Hp) (J : It) (ys : List Val) (g : List (Nat × List Val)) : Prop where
  go : ∀ i y ι S H, Grow L.K ι0 H0 ι H → Rel L ι S H → gdS g S → ys[i]? = some y → J.go i H ∧ ∀ x H', J.yld i H x H' → Grow L.K ι H ι H' ∧ Rel L ι S H' ∧ Rv L.K ι H' y x
  stop : ∀ ι S H, Grow L.K ι0 H0 ι H → Rel L ι S H → gdS g S → J.stop ys.length H
def tI (X : Cx) (L : Lk) (C : Cenv) (k : ItK) (its : List ME) : TI := fun σ H R => ∃ ι ρ S Q' E, RelE L.K ι H ρ σ ∧ Rel L ι S H ∧ wpEs C its ρ S Q' E ∧ Takes X (WXe L ι H σ E) ∧
  ∀ ι' H' xs S', Grow L.K ι H ι' H' → Rel L ι' S' H' → Q' xs S' → ∃ ys g, itS k xs S' = some (ys, g) ∧ ∀ J, Wk L ι' H' J ys g → R J H'
theorem wk_list {ι : List Addr} {S : Sto} {H : Hp} {n : Nat} {a : Addr} {ys : List Val} (R : Rel L ι S H) (ha : ι[n]? = some a) (h : lstAt S n = some ys) : Wk L ι H (Itl L.K a) ys [(n, ys)] where
  go := fun i y ι' S' H' g R' gd hy => by
    simp only [gdS, and_true] at gd
    obtain ⟨vs, h1, h2⟩ := seqOf R' (g.get ha) gd
    obtain ⟨v, h3, h4⟩ := h2.get hy
    refine ⟨⟨vs, v, h1, h3⟩, fun x H2 yl => ?_⟩
    obtain ⟨e, hx⟩ := yl
    subst e
    have : vs[i]? = some x := hx vs h1
    rw [h3] at this
    cases this
    exact ⟨Grow.refl, R', h4⟩
  stop := fun ι' S' H' g R' gd => by
    simp only [gdS, and_true] at gd
    obtain ⟨vs, h1, h2⟩ := seqOf R' (g.get ha) gd
    exact ⟨vs, h1, by rw [h2.len]; exact Nat.le_refl _⟩
theorem wk_tup {ι : List Addr} {H : Hp} {a : Addr} {ys : List Val} {vs : List V} (h1 : SqT L.K H a vs) (h2 : Rvs L.K ι H ys vs) : Wk L ι H (Itt L.K a) ys [] where
  go := fun i y ι' S' H' g R' gd hy => by
    obtain ⟨v, h3, h4⟩ := (Rvs.mono g _ h2).get hy
    have h1' := g.2 _ _ h1
    refine ⟨⟨vs, v, h1', h3⟩, fun x H2 yl => ?_⟩
    obtain ⟨e, hx⟩ := yl
    subst e
    have : vs[i]? = some x := hx vs h1'
    rw [h3] at this
    cases this
    exact ⟨Grow.refl, R', h4⟩
  stop := fun ι' S' H' g R' gd => ⟨vs, g.2 _ _ h1, by rw [h2.len]; exact Nat.le_refl _⟩
theorem wk_rng {ι : List Addr} {H : Hp} {lo : Int} {n : Nat} : Wk L ι H (Itr lo n) ((List.range n).map fun (i : Nat) => Val.int (lo + (i : Int))) [] where
  go := fun i y ι' S' H' g R' gd hy => by
    simp only [List.getElem?_map, Option.map_eq_some_iff] at hy
    obtain ⟨j, h1, rfl⟩ := hy
    obtain ⟨h2, h3⟩ := List.getElem?_eq_some_iff.mp h1
    simp at h2 h3
    subst h3
    refine ⟨h2, fun x H2 yl => ?_⟩
    obtain ⟨rfl, rfl⟩ := yl
    exact ⟨Grow.refl, R', by simp only [Rv]⟩
  stop := fun ι' S' H' g R' gd => by
    show n ≤ _
    simp
theorem piImp {tg : Expr} {t t' : TI} (h : PI X tg e t) (i : ∀ σ H R, t' σ H R → t σ H R) : PI X tg e t' := ⟨fun pins s σ H R I q => h.run pins s σ H R I (i σ H R q)⟩
theorem si_seq {tg : Expr} (hK : X.K = L.K) (hl : PE X a (tM X L C ma)) : PI X tg a (tI X L C .seq [ma]) := by
  refine ⟨fun pins s σ H RR I ⟨ι, ρ, S, Q', E, hρ, R, w, tk, post⟩ => ?_⟩
  simp only [wpEs] at w
  have hq : tM X L C ma σ H (fun v H1 => ∃ ι1 x S1, Grow L.K ι H ι1 H1 ∧ Rel L ι1 S1 H1 ∧ Rv L.K ι1 H1 x v ∧ Q' [x] S1) := ⟨ι, ρ, S, _, E, hρ, R, w, tk, fun ι1 H1 x v S1 g1 R1 r1 w1 => ⟨ι1, x, S1, g1, R1, r1, w1⟩⟩
  refine thn (hl.run pins s σ H _ I hq) fun u s1 ⟨v, H1, I1, r1, ι1, x, S1, g1, R1, rv, w1⟩ => ?_
  obtain ⟨ys, g, e, q⟩ := post ι1 H1 [x] S1 g1 R1 w1
  cases x with
  | tup zs =>
    simp only [itS, Option.some.injEq, Prod.mk.injEq] at e
    obtain ⟨rfl, rfl⟩ := e
    simp only [Rv] at rv
    obtain ⟨a', vs, rfl, h1, h2⟩ := rv
    cases r1
    obtain ⟨its, rv, p, hz⟩ := I1.tuple (by rw [hK]; exact h1)
    refine wpAny_pyIter_tuple (show s1.heap.IsTuple a' its.toArray from p) ?_
    refine ⟨s1.heap.objs.size, [s1.heap.objs.size], _, _, H1, rfl, I1.kept (t' := s1.toks) fun b o e => Heap.get?_push_of_some _ e, turn_tuple a' _, ⟨_, Heap.get?_push_size _ rfl, rfl, rfl⟩, fun b hb => ?_, ?_⟩
    · have e : b = s1.heap.objs.size := by simpa using hb
      subst e
      exact I1.fpOk (Nat.le_refl _) (I1.hok.fresh (Nat.le_refl _))
    · rw [hK]
      exact q _ (wk_tup h1 h2)
  | loc n =>
    simp only [itS, Option.map_eq_some_iff] at e
    obtain ⟨zs, e1, e2⟩ := e
    simp only [Prod.mk.injEq] at e2
    obtain ⟨rfl, rfl⟩ := e2
    simp only [Rv] at rv
    obtain ⟨a', rfl, ha⟩ := rv
    cases r1
    obtain ⟨vs, h1, h2⟩ := seqOf R1 ha e1
    obtain ⟨its, rv, p, hz⟩ := I1.list (by rw [hK]; exact h1)
    refine wpAny_pyIter_list p.isList ?_
    refine ⟨s1.heap.objs.size, [s1.heap.objs.size], _, _, H1, rfl, I1.kept (t' := s1.toks) fun b o e => Heap.get?_push_of_some _ e, turn_list a' _, ⟨_, Heap.get?_push_size _ rfl, rfl, rfl⟩, fun b hb => ?_, ?_⟩
    · have e : b = s1.heap.objs.size := by simpa using hb
      subst e
      exact I1.fpOk (Nat.le_refl _) (I1.hok.fresh (Nat.le_refl _))
    · rw [hK]
      exact q _ (wk_list R1 ha e1)
  | _ => simp [itS] at e
theorem itS_range {S : Sto} {xs ys : List Val} {g : List (Nat × List Val)} (h : itS .range xs S = some (ys, g)) : ∃ j : Int, xs = [.int j] ∧ (-(2 ^ 62) ≤ j ∧ j < 2 ^ 62) ∧ ys = (List.range j.toNat).map (fun (i : Nat) => Val.int (i : Int)) ∧ g = [] := by
  match xs, h with
  | [.int j], h =>
    simp only [itS] at h
    split at h
    · rename_i hb
      simp only [Option.some.injEq, Prod.mk.injEq] at h
      exact ⟨j, rfl, hb, h.1.symm, h.2.symm⟩
    · cases h
  | [], h => simp [itS] at h
  | [.non], h => simp [itS] at h
  | [.bl _], h => simp [itS] at h
  | [.str _], h => simp [itS] at h
  | [.tup _], h => simp [itS] at h
  | [.loc _], h => simp [itS] at h
  | [.cst _ _], h => simp [itS] at h
  | _ :: _ :: _, h => simp [itS] at h
theorem itS_range2 {S : Sto} {xs ys : List Val} {g : List (Nat × List Val)} (h : itS .range2 xs S = some (ys, g)) : ∃ a j : Int, xs = [.int a, .int j] ∧ ((-(2 ^ 62) ≤ a ∧ a < 2 ^ 62) ∧ -(2 ^ 62) ≤ j ∧ j < 2 ^ 62) ∧ ys = (List.range (j - a).toNat).map (fun (i : Nat) => Val.int (a + (i : Int))) ∧ g = [] := by
  rcases xs with _ | ⟨x, _ | ⟨y, _ | ⟨z, xs⟩⟩⟩
  · simp [itS] at h
  · cases x <;> simp [itS] at h
  · cases x with
    | int a =>
      cases y with
      | int j =>
        simp only [itS] at h
        split at h
        · rename_i hb
          simp only [Option.some.injEq, Prod.mk.injEq] at h
          exact ⟨a, j, rfl, hb, h.1.symm, h.2.symm⟩
        · cases h
      | _ => simp [itS] at h
    | _ => cases y <;> simp [itS] at h
  · cases x <;> cases y <;> simp [itS] at h
theorem si_range {tg : Expr} {x : Str} (hx : x = "range") (hg : Gl X x) (hm : X.mg x = none) (hl : PE X a (tM X L C ma)) (hs : starEach [a] X.env = [(false, eval a X.env)]) : PI X tg (.Call (.Name x p) [a] [] pos) (tI X L C .range [ma]) := by
  subst hx
  exact piImp (pi_range1 hg hm (sa_cons hl sa_nil hs) hs) fun σ H RR ⟨ι, ρ, S, Q', E, hρ, R, w, tk, post⟩ => by
    refine ⟨ι, ρ, S, Q', E, hρ, R, w, tk, fun ι1 H1 xs vs S1 g1 R1 r1 _ w1 => ?_⟩
    obtain ⟨ys, g, e, q⟩ := post ι1 H1 xs S1 g1 R1 w1
    obtain ⟨j, rfl, hb, rfl, rfl⟩ := itS_range e
    obtain ⟨v, rfl, r2⟩ := one_of r1
    simp only [Rv] at r2
    subst r2
    refine ⟨j, rfl, hb.1, hb.2, q _ ?_⟩
    have := wk_rng (L := L) (ι := ι1) (H := H1) (lo := 0) (n := j.toNat)
    simpa using this
theorem si_range2 {tg : Expr} {x : Str} (hx : x = "range") (hg : Gl X x) (hm : X.mg x = none) (hl : PE X a (tM X L C ma)) (hh : PE X b (tM X L C mb)) (hs : starEach [a, b] X.env = [(false, eval a X.env), (false, eval b X.env)]) (hs2 : starEach [b] X.env = [(false, eval b X.env)]) :
    PI X tg (.Call (.Name x p) [a, b] [] pos) (tI X L C .range2 [ma, mb]) := by
  subst hx
  exact piImp (pi_range2 hg hm (sa_cons hl (sa_cons hh sa_nil hs2) (by rw [hs, hs2])) hs hs2) fun σ H RR ⟨ι, ρ, S, Q', E, hρ, R, w, tk, post⟩ => by
    refine ⟨ι, ρ, S, Q', E, hρ, R, w, tk, fun ι1 H1 xs vs S1 g1 R1 r1 _ w1 => ?_⟩
    obtain ⟨ys, g, e, q⟩ := post ι1 H1 xs S1 g1 R1 w1
    obtain ⟨lo, j, rfl, hb, rfl, rfl⟩ := itS_range2 e
    obtain ⟨v, u, rfl, r2, r3⟩ := two_of r1
    simp only [Rv] at r2 r3
    subst r2 r3
    exact ⟨lo, j, rfl, ⟨hb.1.1, hb.1.2, hb.2.1, hb.2.2⟩, q _ wk_rng⟩
/-! ### zip, enumerate -/
theorem zip_get {xs ys : List Val} {i : Nat} {z : Val} (h : ((xs.zip ys).map fun p => Val.tup [p.1, p.2])[i]? = some z) : ∃ x y, xs[i]? = some x ∧ ys[i]? = some y ∧ z = .tup [x, y] := by
  simp only [List.getElem?_map, Option.map_eq_some_iff] at h
  obtain ⟨p, h1, rfl⟩ := h
  have := List.getElem?_zip_eq_some.mp h1
  exact ⟨p.1, p.2, this.1, this.2, rfl⟩
theorem pair_rv {ι : List Addr} {S : Sto} {H : Hp} {x y : Val} {v u : V} {T : Addr} (R : Rel L ι S H) (hT : H T = none) (hx : Rv L.K ι H x v) (hy : Rv L.K ι H y u) :
    Grow L.K ι H ι (upd H T (.tup [v, u])) ∧ Rel L ι S (upd H T (.tup [v, u])) ∧ Rv L.K ι (upd H T (.tup [v, u])) (.tup [x, y]) (.ref T) := by
  refine ⟨grow_new hT, R.untold hT, ?_⟩
  simp only [Rv]
  exact ⟨T, [v, u], rfl, SqT.of upd_same, Rvs.mono (grow_new hT) _ (Rvs.cons hx (Rvs.one hy))⟩
theorem wk_zipT {ι : List Addr} {H : Hp} {a b : Addr} {xs ys : List Val} {vs us : List V} (h1 : SqT L.K H a vs) (h2 : Rvs L.K ι H xs vs) (h3 : SqT L.K H b us) (h4 : Rvs L.K ι H ys us) :
    Wk L ι H (ItzT L.K a b) ((xs.zip ys).map fun p => .tup [p.1, p.2]) [] where
  go := fun i z ι' S' H' g R' gd hz => by
    obtain ⟨x, y, ex, ey, rfl⟩ := zip_get hz
    obtain ⟨v, e1, r1⟩ := (Rvs.mono g _ h2).get ex
    obtain ⟨u, e2, r2⟩ := (Rvs.mono g _ h4).get ey
    have q1 := g.2 _ _ h1
    have q2 := g.2 _ _ h3
    refine ⟨⟨vs, us, v, u, q1, q2, e1, e2⟩, fun w H2 yl => ?_⟩
    obtain ⟨T, v', u', rfl, hT, rfl, f1, f2⟩ := yl
    have g1 := f1 vs q1
    have g2 := f2 us q2
    rw [e1] at g1
    rw [e2] at g2
    cases g1
    cases g2
    exact pair_rv R' hT r1 r2
  stop := fun ι' S' H' g R' gd => by
    refine ⟨vs, us, g.2 _ _ h1, g.2 _ _ h3, ?_⟩
    simp only [List.length_map, List.length_zip]
    rw [h2.len, h4.len]
    omega
theorem wk_zipL {ι : List Addr} {S : Sto} {H : Hp} {n k : Nat} {a b : Addr} {xs ys : List Val} (ha : ι[n]? = some a) (hb : ι[k]? = some b) :
    Wk L ι H (Itz L.K a b) ((xs.zip ys).map fun p => .tup [p.1, p.2]) [(n, xs), (k, ys)] where
  go := fun i z ι' S' H' g R' gd hz => by
    simp only [gdS, and_true] at gd
    obtain ⟨vs, q1, h2⟩ := seqOf R' (g.get ha) gd.1
    obtain ⟨us, q2, h4⟩ := seqOf R' (g.get hb) gd.2
    obtain ⟨x, y, ex, ey, rfl⟩ := zip_get hz
    obtain ⟨v, e1, r1⟩ := h2.get ex
    obtain ⟨u, e2, r2⟩ := h4.get ey
    refine ⟨⟨vs, us, v, u, q1, q2, e1, e2⟩, fun w H2 yl => ?_⟩
    obtain ⟨T, v', u', rfl, hT, rfl, f1, f2⟩ := yl
    have g1 := f1 vs q1
    have g2 := f2 us q2
    rw [e1] at g1
    rw [e2] at g2
    cases g1
    cases g2
    exact pair_rv R' hT r1 r2
  stop := fun ι' S' H' g R' gd => by
    simp only [gdS, and_true] at gd
    obtain ⟨vs, q1, h2⟩ := seqOf R' (g.get ha) gd.1
    obtain ⟨us, q2, h4⟩ := seqOf R' (g.get hb) gd.2
    refine ⟨vs, us, q1, q2, ?_⟩
    simp only [List.length_map, List.length_zip]
    rw [h2.len, h4.len]
    omega
theorem wk_enum {ι : List Addr} {H : Hp} {n : Nat} {a : Addr} {ys : List Val} (ha : ι[n]? = some a) : Wk L ι H (Ite L.K a) (ys.zipIdx.map fun p => .tup [.int (p.2 : Nat), p.1]) [(n, ys)] where
  go := fun i z ι' S' H' g R' gd hz => by
    simp only [gdS, and_true] at gd
    obtain ⟨vs, q1, h2⟩ := seqOf R' (g.get ha) gd
    simp only [List.getElem?_map, Option.map_eq_some_iff, List.getElem?_zipIdx] at hz
    obtain ⟨p, ⟨x, hx, rfl⟩, rfl⟩ := hz
    obtain ⟨v, e1, r1⟩ := h2.get hx
    refine ⟨⟨vs, v, q1, e1⟩, fun w H2 yl => ?_⟩
    obtain ⟨T, v', rfl, hT, rfl, f1⟩ := yl
    have g1 := f1 vs q1
    rw [e1] at g1
    cases g1
    have := pair_rv (x := .int ((i : Nat) : Int)) (v := V.int ((i : Nat) : Int)) R' hT (by simp only [Rv]) r1
    simpa using this
  stop := fun ι' S' H' g R' gd => by
    simp only [gdS, and_true] at gd
    obtain ⟨vs, q1, h2⟩ := seqOf R' (g.get ha) gd
    refine ⟨vs, q1, ?_⟩
    simp only [List.length_map, List.length_zipIdx]
    rw [h2.len]
    exact Nat.le_refl _
theorem si_zip {elts : List Expr} {kk : Nat} {tpos : Pos} {x : Str} (hK : X.K = L.K) (hx : x = "zip") (hg : Gl X x) (hm : X.mg x = none) (hl : PE X a (tM X L C ma)) (hh : PE X b (tM X L C mb)) (hs : starEach [a, b] X.env = (false, eval a X.env) :: starEach [b] X.env) (hs2 : starEach [b] X.env = [(false, eval b X.env)])
    (hpl : (backTo pos (starEach [b] X.env)).any (·.1) = false) : PI X (.Tuple elts kk tpos) (.Call (.Name x p) [a, b] [] pos) (tI X L C .zip [ma, mb]) := by
  subst hx
  exact piImp (pi_zipA hg hm (sa_cons hl (sa_cons hh sa_nil hs2) hs) hs hpl) fun σ H RR ⟨ι, ρ, S, Q', E, hρ, R, w, tk, post⟩ => by
    refine ⟨ι, ρ, S, Q', E, hρ, R, w, tk, fun ι1 H1 xs vs S1 g1 R1 r1 l1 w1 => ?_⟩
    obtain ⟨ys, g, e, q⟩ := post ι1 H1 xs S1 g1 R1 w1
    rcases xs with _ | ⟨x, _ | ⟨y, _ | ⟨z, xs⟩⟩⟩
    · simp at l1
    · simp at l1
    · obtain ⟨v, u, rfl, r2, r3⟩ := two_of r1
      cases x with
      | tup zs =>
        cases y with
        | tup ws =>
          simp only [itS, Option.some.injEq, Prod.mk.injEq] at e
          obtain ⟨rfl, rfl⟩ := e
          simp only [Rv] at r2 r3
          obtain ⟨a', vs, rfl, h1, h2⟩ := r2
          obtain ⟨b', us, rfl, h3, h4⟩ := r3
          exact ⟨a', b', vs, us, rfl, .inr ⟨by rw [hK]; exact h1, by rw [hK]; exact h3, by rw [hK]; exact q _ (wk_zipT h1 h2 h3 h4)⟩⟩
        | _ => simp [itS] at e
      | loc n =>
        cases y with
        | loc k =>
          simp only [Rv] at r2 r3
          obtain ⟨a', rfl, ha⟩ := r2
          obtain ⟨b', rfl, hb⟩ := r3
          cases e1 : lstAt S1 n with
          | none => simp [itS, e1] at e
          | some zs =>
            cases e2 : lstAt S1 k with
            | none => simp [itS, e1, e2] at e
            | some ws =>
              simp only [itS, e1, e2, Option.some.injEq, Prod.mk.injEq] at e
              obtain ⟨rfl, rfl⟩ := e
              obtain ⟨vs, h1, h2⟩ := seqOf R1 ha e1
              obtain ⟨us, h3, h4⟩ := seqOf R1 hb e2
              exact ⟨a', b', vs, us, rfl, .inl ⟨by rw [hK]; exact h1, by rw [hK]; exact h3, by rw [hK]; exact q _ (wk_zipL (S := S1) ha hb)⟩⟩
        | _ => simp [itS] at e
      | _ => cases y <;> simp [itS] at e
    · simp at l1
theorem si_enum {elts : List Expr} {kk : Nat} {tpos : Pos} {x : Str} (hK : X.K = L.K) (hx : x = "enumerate") (hg : Gl X x) (hm : X.mg x = none) (hl : PE X a (tM X L C ma)) (hs : starEach [a] X.env = [(false, eval a X.env)]) :
    PI X (.Tuple elts kk tpos) (.Call (.Name x p) [a] [] pos) (tI X L C .enum [ma]) := by
  subst hx
  exact piImp (pi_enum hg hm (sa_cons hl sa_nil hs) hs) fun σ H RR ⟨ι, ρ, S, Q', E, hρ, R, w, tk, post⟩ => by
    refine ⟨ι, ρ, S, Q', E, hρ, R, w, tk, fun ι1 H1 xs vs S1 g1 R1 r1 l1 w1 => ?_⟩
    obtain ⟨ys, g, e, q⟩ := post ι1 H1 xs S1 g1 R1 w1
    rcases xs with _ | ⟨x, _ | ⟨y, xs⟩⟩
    · simp at l1
    · obtain ⟨v, rfl, r2⟩ := one_of r1
      cases x with
      | loc n =>
        simp only [Rv] at r2
        obtain ⟨a', rfl, ha⟩ := r2
        cases e1 : lstAt S1 n with
        | none => simp [itS, e1] at e
        | some zs =>
          simp only [itS, e1, Option.map_some, Option.some.injEq, Prod.mk.injEq] at e
          obtain ⟨rfl, rfl⟩ := e
          obtain ⟨vs, h1, h2⟩ := seqOf R1 ha e1
          exact ⟨a', vs, rfl, by rw [hK]; exact h1, by rw [hK]; exact q _ (wk_enum ha)⟩
      | _ => simp [itS] at e
    · simp at l1
end
end PM

namespace PM
open PySem PySem.Spec PyProof.Rows L2

/-! ### constants of the top -/
def CstOk (K : PySem.W.Frag) (x : Val) (u : Value) : Prop := ∃ w, RelV w u ∧ ∀ ι H, Rv K ι H x w
def CstsOk (K : PySem.W.Frag) : List Val → List Value → Prop
  | [], us => us = []
  | x :: xs, us => ∃ u r, us = u :: r ∧ CstOk K x u ∧ CstsOk K xs r
section
variable {K : PySem.W.Frag}
theorem cst_non : CstOk K .non .none := ⟨.non, rfl, fun _ _ => by simp only [Rv]⟩
theorem cst_int {i : Int} {t : Tok} : CstOk K (.int i) (.int i t) := ⟨.int i, ⟨t, rfl⟩, fun _ _ => by simp only [Rv]⟩
theorem cst_str {x : Str} {t : Tok} : CstOk K (.str x) (.str x t) := ⟨.str x, ⟨t, rfl⟩, fun _ _ => by simp only [Rv]⟩
theorem csts_nil : CstsOk K [] [] := rfl
theorem csts_cons {x : Val} {xs : List Val} {u : Value} {us : List Value} (h : CstOk K x u) (hs : CstsOk K xs us) : CstsOk K (x :: xs) (u :: us) := ⟨u, us, rfl, h, hs⟩
theorem csts_rel : ∀ {xs : List Val} {us : List Value}, CstsOk K xs us → ∃ vs, Vals vs us ∧ ∀ ι H, Rvs K ι H xs vs
  | [], us, h => by
    cases h
    exact ⟨[], .nil, fun _ _ => Rvs.nil⟩
  | x :: xs, us, ⟨u, r, e, ⟨w, h1, h2⟩, hs⟩ => by
    subst e
    obtain ⟨vs, k1, k2⟩ := csts_rel hs
    exact ⟨w :: vs, .cons h1 k1, fun ι H => Rvs.cons (h2 ι H) (k2 ι H)⟩
theorem cst_tup {xs : List Val} {us : List Value} {n : Nat} {a : Addr} {dc : Option Addr} {sl : Array (Option Value)} (h : K.lookup a = some ⟨.type "tuple", dc, .seq us.toArray n, sl⟩) (hz : us.length ≤ sizeLine) (hs : CstsOk K xs us) : CstOk K (.tup xs) (.ref a) := by
  obtain ⟨vs, k1, k2⟩ := csts_rel hs
  refine ⟨.ref a, rfl, fun ι H => ?_⟩
  simp only [Rv]
  exact ⟨a, vs, rfl, .inr ⟨_, us.toArray, n, h, rfl, rfl, by simpa using hz, by simpa using k1⟩, k2 ι H⟩
end
/-- a constant: its name, its value -/
def CstAt (K : PySem.W.Frag) (x : Str) (v : Val) : Prop := ∃ u, PySem.W.nsIn K mainGlobals x = some (some u) ∧ CstOk K v u
/-- the entries of a dict of the top with text keys -/
def Ents (K : PySem.W.Frag) (P : Params) : List (Str × Val) → List DictEntry → Prop
  | [], es => es = []
  | p :: kvs, es => ∃ (h : Int) (t : Tok) (u : Value) (r : List DictEntry), es = ⟨h, .str p.1 t, u⟩ :: r ∧ h = PyData.keyHash P p.1 ∧ CstOk K p.2 u ∧ Ents K P kvs r
def CDk (K : PySem.W.Frag) (P : Params) (x : Str) (kvs : List (Str × Val)) : Prop :=
  ∃ (a : Addr) (es : List DictEntry) (n : Nat), PySem.W.nsIn K mainGlobals x = some (some (.ref a)) ∧ K.lookup a = some ⟨.type "dict", none, .dict es.toArray n, #[]⟩ ∧ (a == sysModules) = false ∧ Ents K P kvs es
theorem cstAt_mk {K : PySem.W.Frag} {x : Str} {v : Val} {u : Value} (h : PySem.W.nsIn K mainGlobals x = some (some u)) (h2 : CstOk K v u) : CstAt K x v := ⟨u, h, h2⟩
theorem cdk_mk {K : PySem.W.Frag} {P : Params} {x : Str} {kvs : List (Str × Val)} {a : Addr} {es : List DictEntry} {n : Nat} {oc : Value} {od : Option Addr} {dt : Data} {sl : Array (Option Value)} (h1 : PySem.W.nsIn K mainGlobals x = some (some (.ref a))) (h2 : K.lookup a = some ⟨oc, od, dt, sl⟩)
    (e : (⟨oc, od, dt, sl⟩ : Obj) = ⟨.type "dict", none, .dict es.toArray n, #[]⟩) (h3 : (a == sysModules) = false) (h4 : Ents K P kvs es) : CDk K P x kvs := ⟨a, es, n, h1, by rw [h2, e], h3, h4⟩
theorem cst_tupG {K : PySem.W.Frag} {xs : List Val} {us : List Value} {n : Nat} {a : Addr} {oc : Value} {od dc : Option Addr} {dt : Data} {sl : Array (Option Value)} (h : K.lookup a = some ⟨oc, od, dt, sl⟩)
    (e : (⟨oc, od, dt, sl⟩ : Obj) = ⟨.type "tuple", dc, .seq us.toArray n, sl⟩) (hz : us.length ≤ sizeLine) (hs : CstsOk K xs us) : CstOk K (.tup xs) (.ref a) := cst_tup (h.trans (congrArg some e)) hz hs
section
variable {K : PySem.W.Frag} {P : Params}
theorem ents_nil : Ents K P [] [] := rfl
theorem ents_cons {x : Str} {v : Val} {kvs : List (Str × Val)} {t : Tok} {u : Value} {r : List DictEntry} (h : CstOk K v u) (hs : Ents K P kvs r) : Ents K P ((x, v) :: kvs) (⟨PyData.keyHash P x, .str x t, u⟩ :: r) := ⟨_, t, u, r, rfl, rfl, h, hs⟩
theorem ents_lit : ∀ {kvs : List (Str × Val)} {es : List DictEntry}, Ents K P kvs es → PySem.W.KeysLit P es
  | [], es, h => by cases h; exact trivial
  | p :: kvs, es, ⟨h, t, u, r, e, e2, _, hs⟩ => by
    subst e
    exact ⟨⟨p.1, t, rfl, e2⟩, ents_lit hs⟩
theorem ents_find : ∀ {kvs : List (Str × Val)} {es : List DictEntry}, Ents K P kvs es → ∀ (f : Value → Bool) (z : Str), (∀ x t, f (.str x t) = decide (x = z)) →
    (∃ v u h k, kvs.lookup z = some v ∧ es.find? (fun e => f e.key) = some ⟨h, k, u⟩ ∧ CstOk K v u) ∨ (kvs.lookup z = none ∧ es.find? (fun e => f e.key) = none)
  | [], es, h, f, z, hf => by
    cases h
    exact .inr ⟨rfl, rfl⟩
  | p :: kvs, es, ⟨h, t, u, r, e, e2, hv, hs⟩, f, z, hf => by
    subst e
    by_cases c : p.1 = z
    · refine .inl ⟨p.2, u, h, .str p.1 t, ?_, ?_, hv⟩
      · obtain ⟨y, v⟩ := p
        have : (z == y) = true := by rw [← c]; exact beq_self_eq_true _
        simp [List.lookup, this]
      · have : f (.str p.1 t) = true := by rw [hf]; exact decide_eq_true c
        simp [List.find?, this]
    · have e3 : ((p :: kvs).lookup z) = kvs.lookup z := by
        obtain ⟨y, v⟩ := p
        have : (z == y) = false := by
          rw [beq_eq_false_iff_ne]
          exact fun q => c q.symm
        simp [List.lookup, this]
      have e4 : (⟨h, .str p.1 t, u⟩ :: r : List DictEntry).find? (fun e => f e.key) = r.find? fun e => f e.key := by
        have : f (.str p.1 t) = false := by rw [hf]; exact decide_eq_false c
        simp [List.find?, this]
      rw [e3, e4]
      exact ents_find hs f z hf
theorem CDk.co {x : Str} {kvs : List (Str × Val)} (h : CDk K P x kvs) : ∃ (es : List DictEntry) (n : Nat), K.lookup (coOf K x) = some ⟨.type "dict", none, .dict es.toArray n, #[]⟩ ∧ (coOf K x == sysModules) = false ∧ Ents K P kvs es := by
  obtain ⟨a, es, n, h1, h2, h3, h4⟩ := h
  have : coOf K x = a := by unfold coOf; rw [h1]
  rw [this]
  exact ⟨es, n, h2, h3, h4⟩
end
/-! ### methods of lists -/
def Mt.nm : Mt → Str
  | .append => "append" | .extend => "extend" | .pop => "pop" | .get1 => "get"
def Mt.ty : Mt → String
  | .append => "list" | .extend => "list" | .pop => "list" | .get1 => "dict"
def Mt.id : Mt → String
  | .append => "list.append" | .extend => "list.extend" | .pop => "list.pop" | .get1 => "dict.get"
def Mt.isL : Mt → Bool
  | .get1 => false | _ => true
def Mt.r : Mt → V → List V → Hp → VK → Prop
  | .append => rAppend | .extend => rExtend | .pop => rPop | .get1 => fun _ _ _ _ => False
theorem Mt.r_ok {X : Cx} (m : Mt) : MtR X m.id m.r := by
  cases m with
  | append => exact fun pins s σ H x xs v us Q I rx rv h => mt_append pins s σ H x xs v us Q I rx rv h
  | extend => exact fun pins s σ H x xs v us Q I rx rv h => mt_extend pins s σ H x xs v us Q I rx rv h
  | pop => exact fun pins s σ H x xs v us Q I rx rv h => mt_pop pins s σ H x xs v us Q I rx rv h
  | get1 => exact fun pins s σ H x xs v us Q I rx rv h => h.elim
theorem Mt.plain (m : Mt) : PlainAttrs m.ty := by
  cases m with
  | get1 => exact F.plainAttrs_dict
  | _ => exact F.plainAttrs_list
theorem Mt.slot (m : Mt) : Slot m.ty m.nm m.id := by
  cases m with
  | append => exact F.slot_list_append
  | extend => exact F.slot_list_extend
  | pop => exact F.slot_list_pop
  | get1 => exact F.slot_dict_get
theorem Mt.mty (m : Mt) : typeOf (.builtin m.id) = pure (.type "method_descriptor") := by
  cases m with
  | append => exact F.type_list_append
  | extend => exact F.type_list_extend
  | pop => exact F.type_list_pop
  | get1 => exact F.type_dict_get
section
variable {X : Cx} {L : Lk} {C : Cenv} {a e o : Expr} {es : List Expr} {m : Mt} {mo : ME} {ms : List ME} {apos cpos : Pos}
theorem mt_ty {ι : List Addr} {S : Sto} {H : Hp} {x : Val} {v : V} (hm : m.isL = true) (R : Rel L ι S H) (r : Rv L.K ι H x v) {cst : Nat → Option (Str × List (Str × Val))} (t : mtT cst m S x) : tyV L.K m.ty v H := by
  have key : ∀ n, x = .loc n → (lstAt S n).isSome = true → tyV L.K "list" v H := fun n e h => by
    subst e
    simp only [Rv] at r
    obtain ⟨b, rfl, hb⟩ := r
    obtain ⟨xs, hx⟩ := Option.isSome_iff_exists.mp h
    obtain ⟨vs, h1, _⟩ := seqOf R hb hx
    exact .inl ⟨rfl, vs, h1⟩
  cases m with
  | get1 => cases hm
  | append => cases x with
    | loc n => exact key n rfl t
    | _ => exact False.elim t
  | extend => cases x with
    | loc n => exact key n rfl t
    | _ => exact False.elim t
  | pop => cases x with
    | loc n => exact key n rfl t
    | _ => exact False.elim t
theorem dropLast_rv {K : PySem.W.Frag} {ι : List Addr} {H : Hp} {xs : List Val} {vs : List V} (h : Rvs K ι H xs vs) : Rvs K ι H xs.dropLast vs.dropLast := by
  rw [List.dropLast_eq_take, List.dropLast_eq_take, h.len]
  exact h.take _
theorem ml_get {S : Sto} {n : Nat} {xs : List Val} (h : mlAt S n = some xs) : S[n]? = some (.lst xs) := by
  unfold mlAt at h
  split at h
  · rename_i ys e
    cases h
    exact e
  · cases h
theorem mt_r {cst : Nat → Option (Str × List (Str × Val))} {ι : List Addr} {S : Sto} {H : Hp} {x : Val} {v : V} {xs : List Val} {vs : List V} {Q' : VQ} {Q : VK} (hm : m.isL = true) (R : Rel L ι S H) (r : Rv L.K ι H x v) (rs : Rvs L.K ι H xs vs)
    (w : mtS cst m x xs S Q') (post : ∀ H' y u S', Grow L.K ι H ι H' → Rel L ι S' H' → Rv L.K ι H' y u → Q' y S' → Q u H') : m.r v vs H Q := by
  cases m with
  | get1 => cases hm
  | append =>
    rcases xs with _ | ⟨y, _ | ⟨z, xs⟩⟩
    · cases x <;> simp [mtS] at w
    · cases x with
      | loc n =>
        obtain ⟨u, rfl, ru⟩ := one_of rs
        simp only [Rv] at r
        obtain ⟨b, rfl, hb⟩ := r
        cases e1 : mlAt S n with
        | none => simp [mtS, e1] at w
        | some ys =>
          simp only [mtS, e1] at w
          obtain ⟨us, h1, h2⟩ := mlOf R hb e1
          have gg : Grow L.K ι H ι (upd H b (.lst (us ++ [u]))) := grow_upd h1 ⟨fun _ => by simp, fun _ _ => by simp⟩
          refine ⟨b, us, u, rfl, rfl, h1, by rw [← h2.len]; exact biglt w.1, post _ .non _ _ gg ?_ (by simp only [Rv]) w.2⟩
          exact R.write (ml_get e1) hb rfl rfl h1 ⟨fun _ => by simp, fun _ _ => by simp⟩ ⟨_, upd_same, (Rvs.mono gg _ h2).append (Rvs.one (Rv.mono gg _ ru))⟩
      | _ => simp [mtS] at w
    · cases x <;> simp [mtS] at w
  | extend =>
    rcases xs with _ | ⟨y, _ | ⟨z, xs⟩⟩
    · cases x <;> simp [mtS] at w
    · cases x with
      | loc n =>
        cases y with
        | loc k =>
          obtain ⟨u, rfl, ru⟩ := one_of rs
          simp only [Rv] at r ru
          obtain ⟨b, rfl, hb⟩ := r
          obtain ⟨c, rfl, hc⟩ := ru
          cases e1 : mlAt S n with
          | none => simp [mtS, e1] at w
          | some ys =>
            cases e2 : mlAt S k with
            | none => simp [mtS, e1, e2] at w
            | some zs =>
              simp only [mtS, e1, e2] at w
              obtain ⟨us, h1, h2⟩ := mlOf R hb e1
              obtain ⟨ts, h3, h4⟩ := mlOf R hc e2
              have gg : Grow L.K ι H ι (upd H b (.lst (us ++ ts))) := grow_upd h1 ⟨fun _ => by simp, fun _ _ => by simp⟩
              refine ⟨b, c, us, ts, rfl, rfl, h1, h3, by rw [← h2.len, ← h4.len]; exact bigle w.1, post _ .non _ _ gg ?_ (by simp only [Rv]) w.2⟩
              exact R.write (ml_get e1) hb rfl rfl h1 ⟨fun _ => by simp, fun _ _ => by simp⟩ ⟨_, upd_same, (Rvs.mono gg _ h2).append (Rvs.mono gg _ h4)⟩
        | _ => simp [mtS] at w
      | _ => cases y <;> simp [mtS] at w
    · cases x <;> simp [mtS] at w
  | pop =>
    rcases xs with _ | ⟨z, xs⟩
    · cases x with
      | loc n =>
        simp only [Rvs] at rs
        subst rs
        simp only [Rv] at r
        obtain ⟨b, rfl, hb⟩ := r
        cases e1 : mlAt S n with
        | none => simp [mtS, e1] at w
        | some ys =>
          simp only [mtS, e1] at w
          obtain ⟨us, h1, h2⟩ := mlOf R hb e1
          cases e2 : ys[ys.length - 1]? with
          | none => simp [e2] at w
          | some y =>
            simp only [e2] at w
            obtain ⟨u, h3, h4⟩ := h2.get e2
            have gg : Grow L.K ι H ι (upd H b (.lst us.dropLast)) := grow_upd h1 ⟨fun _ => by simp, fun _ _ => by simp⟩
            refine ⟨b, us, u, rfl, rfl, h1, by rw [← h2.len]; exact h3, post _ y _ _ gg ?_ (Rv.mono gg _ h4) w⟩
            exact R.write (ml_get e1) hb rfl rfl h1 ⟨fun _ => by simp, fun _ _ => by simp⟩ ⟨_, upd_same, Rvs.mono gg _ (dropLast_rv h2)⟩
      | _ => simp [mtS] at w
    · cases x <;> simp [mtS] at w
/-- o.m(..) of a list -/
theorem se_mt0 (hK : X.K = L.K) (hm : m.isL = true) (ho : PE X o (tM X L C mo)) (hbase : attributeBase o m.nm X.env (eval o X.env) = eval o X.env) (hline : (apos.endLine == cpos.line) = true) :
    PE X (.Call (.Attribute o m.nm apos) [] [] cpos) (tM X L C (.mt m mo [])) :=
  peImp (pe_bm0 (T := m.ty) (id := m.id) m.plain m.slot m.mty m.r_ok ho hbase hline) fun σ H Q ⟨ι, ρ, S, Q', E, hρ, R, w, tk, post⟩ => by
    simp only [wpE, wpEs] at w
    refine ⟨ι, ρ, S, _, E, hρ, R, w, tk, fun ι1 H1 x v S1 g1 R1 r1 w1 => ⟨by rw [hK]; exact mt_ty hm R1 r1 w1.1, ?_⟩⟩
    exact mt_r hm R1 r1 Rvs.nil w1.2 fun H' y u S' g r ry q => post ι1 H' y u S' (g1.trans g) r ry q
theorem se_mt (hK : X.K = L.K) (hm : m.isL = true) (ho : PE X o (tM X L C mo)) (ha : PA X (e :: es) (tMs X L C ms)) (hbase : attributeBase o m.nm X.env (eval o X.env) = eval o X.env)
    (hfew : ((backTo cpos (starEach (e :: es) X.env)).all (fun x => !x.1) && (backToKw cpos (keywordEach [] X.env)).all (fun x => x.1.isSome)
      && decide ((e :: es).length + ([] : List Keyword).length + (if ([] : List Keyword).isEmpty then 0 else 1) < 30)) = true)
    (hline : (apos.endLine == cpos.line) = true) (hs : starEach (e :: es) X.env = (false, eval e X.env) :: starEach es X.env) (hpl : (backTo cpos (starEach es X.env)).any (·.1) = false) :
    PE X (.Call (.Attribute o m.nm apos) (e :: es) [] cpos) (tM X L C (.mt m mo ms)) :=
  peImp (pe_bm (T := m.ty) (id := m.id) m.plain m.slot m.mty m.r_ok ho ha hbase hfew hline hs hpl) fun σ H Q ⟨ι, ρ, S, Q', E, hρ, R, w, tk, post⟩ => by
    simp only [wpE] at w
    refine ⟨ι, ρ, S, _, E, hρ, R, w, tk, fun ι1 H1 x v S1 g1 R1 r1 w1 => ⟨by rw [hK]; exact mt_ty hm R1 r1 w1.1, ?_⟩⟩
    refine ⟨ι1, ρ, S1, _, E, hρ.mono g1, R1, w1.2, WXe.grow g1 tk, fun ι2 H2 xs vs S2 g2 R2 r2 _ w2 => ?_⟩
    exact mt_r hm R2 (Rv.mono g2 _ r1) r2 w2 fun H' y u S' g r ry q => post ι2 H' y u S' ((g1.trans g2).trans g) r ry q
/-- d.get(k) of a constant dict -/
theorem find_arr {es : List DictEntry} {f : Value → Bool} : es.toArray.find? (fun e => f e.key) = es.find? fun e => f e.key := List.find?_toArray ..
theorem none_map_K {K : PySem.W.Frag} {P : Program} {w : World} {h : Heap} {d : Addr} {es : List DictEntry} {n : Nat} (X : K.In h) (hl : K.lookup d = some ⟨.type "dict", none, .dict es.toArray n, #[]⟩) (hk : PySem.W.KeysLit w.params es) :
    h.MapOf (noneKind P w) d (fun k => findBy (noneKind P w).is es.toArray k) :=
  ⟨_, es.toArray, n, X _ _ hl, ⟨rfl, rfl, rfl⟩, rfl, fun e he => by
    obtain ⟨x, t, e1, e2⟩ := hk.all e (by simpa using he)
    refine ⟨some (.inr x), ?_, ?_⟩
    · rw [e1]
      exact decide_eq_true rfl
    · exact e2, fun _ => rfl⟩
theorem se_get1 (hK : X.K = L.K) (hcs : ∀ n x kvs, C.cst n = some (x, kvs) → CDk X.K X.w.params x kvs) (ho : PE X o (tM X L C mo)) (he : PA X [e] (tMs X L C ms)) (hbase : attributeBase o "get" X.env (eval o X.env) = eval o X.env)
    (hfew : ((backTo cpos (starEach [e] X.env)).all (fun x => !x.1) && (backToKw cpos (keywordEach [] X.env)).all (fun x => x.1.isSome)
      && decide (([e] : List Expr).length + ([] : List Keyword).length + (if ([] : List Keyword).isEmpty then 0 else 1) < 30)) = true)
    (hline : (apos.endLine == cpos.line) = true) (hs : starEach [e] X.env = [(false, eval e X.env)]) :
    PE X (.Call (.Attribute o "get" apos) [e] [] cpos) (tM X L C (.mt .get1 mo ms)) := by
  refine ⟨fun pins s σ H Q I ⟨ι, ρ, S, Q', E, hρ, R, w, tk, post⟩ => ?_⟩
  simp only [wpE] at w
  have hq : tM X L C mo σ H (fun v H1 => ∃ ι1 x S1, Grow L.K ι H ι1 H1 ∧ Rel L ι1 S1 H1 ∧ Rv L.K ι1 H1 x v ∧ mtT C.cst .get1 S1 x ∧ wpEs C ms ρ S1 (fun xs S2 => mtS C.cst .get1 x xs S2 Q') E) :=
    ⟨ι, ρ, S, _, E, hρ, R, w, tk, fun ι1 H1 x v S1 g1 R1 r1 w1 => ⟨ι1, x, S1, g1, R1, r1, w1⟩⟩
  refine wpAny_Call_method_late hbase hfew hline rfl (thn (ho.run pins s σ H _ I hq) fun v s1 ⟨v', H1, I1, r1, ι1, x, S1, g1, R1, rv, ty, q1⟩ => ?_)
  cases x with
  | cst n y =>
    simp only [Rv] at rv
    subst rv
    obtain rfl : v = Value.ref (coOf L.K y) := r1
    obtain ⟨kvs, hc⟩ := ty
    obtain ⟨es', n', hl, low, en⟩ := (hcs n y kvs hc).co
    have hl1 : X.K.lookup (coOf L.K y) = some ⟨.type "dict", none, .dict es'.toArray n', #[]⟩ := by rw [← hK]; exact hl
    rw [hK] at low en
    have hw0 : tMs X L C ms σ H1 (fun vs H2 => ∃ ι2 xs S2, Grow L.K ι1 H1 ι2 H2 ∧ Rel L ι2 S2 H2 ∧ Rvs L.K ι2 H2 xs vs ∧ mtS C.cst .get1 (.cst n y) xs S2 Q') :=
      ⟨ι1, ρ, S1, _, E, hρ.mono g1, R1, q1, WXe.grow g1 tk, fun ι2 H2 xs vs S2 g2 R2 r2 _ w2 => ⟨ι2, xs, S2, g2, R2, r2, w2⟩⟩
    have hg := I1.kIn _ _ hl1
    refine ⟨"dict", "dict.get", F.plainAttrs_dict, F.slot_dict_get, F.type_dict_get, ⟨_, hg, rfl⟩, fun b q => ⟨_, by cases q; exact hg, rfl⟩, ?_⟩
    have hA := he.run cpos pins s1 σ H1 _ I1 hw0
    rw [hs] at hA ⊢
    refine Calls.callWith_builtin rfl (Calls.evalArgs_plain ?_)
    refine thn hA fun us s2 ⟨vs, H2, I2, r2, ι2, xs, S2, g2, R2, rr, w2⟩ => ?_
    have hg2 := I2.kIn _ _ hl1
    rcases xs with _ | ⟨k, _ | ⟨k2, xs⟩⟩
    · simp [mtS] at w2
    · obtain ⟨u, rfl, ru⟩ := one_of rr
      obtain ⟨uv, rfl, rx⟩ := r2.one
      cases k with
      | str z =>
        simp only [mtS, hc, true_and] at w2
        simp only [Rv] at ru
        subst ru
        obtain ⟨t, rfl⟩ := rx
        refine call_meetsIn F.slot_dict_get ⟨_, hg2, rfl⟩ F.entry_dict_get (F.args_dict_get_2 _ _) (meets_dict_get (strKind X.prog X.w) _ (strKind_is X.prog X.w z t) low) ⟨_, PySem.W.mapOf_K I2.kIn hl1 (ents_lit en), ?_⟩
        have hf : ∀ (x : Str) (t : Tok), Value.isStrOf z (.str x t) = decide (x = z) := fun x t => by
          by_cases c : x = z
          · subst c; simp [Value.isStrOf]
          · simp [Value.isStrOf, c]
        rcases ents_find en (Value.isStrOf z) z hf with ⟨v, u', h', k', e1, e2, ⟨v', e3, e4⟩⟩ | ⟨e1, e2⟩
        · rw [e1] at w2
          have e5 : findBy Value.isStrOf es'.toArray z = some u' := by
            unfold findBy
            rw [List.find?_toArray, e2]
            rfl
          refine ⟨v', H2, I2.tok _, ?_, post ι2 H2 v v' S2 (g1.trans g2) R2 (e4 ι2 H2) w2⟩
          rw [e5]
          exact e3
        · rw [e1] at w2
          have e5 : findBy Value.isStrOf es'.toArray z = none := by
            unfold findBy
            rw [List.find?_toArray, e2]
            rfl
          refine ⟨.non, H2, I2.tok _, ?_, post ι2 H2 .non .non S2 (g1.trans g2) R2 (by simp only [Rv]) w2⟩
          rw [e5]
          rfl
      | non =>
        simp only [mtS, hc, true_and] at w2
        simp only [Rv] at ru
        subst ru
        obtain rfl : uv = Value.none := rx
        refine call_meetsIn F.slot_dict_get ⟨_, hg2, rfl⟩ F.entry_dict_get (F.args_dict_get_2 _ _) (meets_dict_get (noneKind X.prog X.w) _ (k := none) rfl low) ⟨_, none_map_K I2.kIn hl1 (ents_lit en), ?_⟩
        have e5 : findBy (noneKind X.prog X.w).is es'.toArray none = none := by
          unfold findBy
          rw [List.find?_toArray]
          have : es'.find? (fun e => (noneKind X.prog X.w).is none e.key) = none := by
            rw [List.find?_eq_none]
            intro e he q
            obtain ⟨x, t, e1, _⟩ := (ents_lit en).all e he
            rw [e1] at q
            exact nomatch q
          rw [this]
          rfl
        refine ⟨.non, H2, I2.tok _, ?_, post ι2 H2 .non .non S2 (g1.trans g2) R2 (by simp only [Rv]) w2⟩
        rw [e5]
        rfl
      | _ => simp [mtS] at w2
    · cases k <;> simp [mtS] at w2
  | _ => exact ty.elim
end
end PM

namespace PM
open PySem PySem.Spec PyProof.Rows L2

/-! ### targets -/
def setV : L2.St → List Nat → List V → L2.St
  | σ, i :: is, v :: vs => setV (σ.set i (some v)) is vs
  | σ, _, _ => σ
def Tg.slots : Tg → List Nat
  | .nm i => [i]
  | .tp is => is
/-- g binds as bindT says; the slots of the target alone change -/
def TgOk (K : PySem.W.Frag) (g : TG) (tg : Tg) : Prop := ∀ (ι : List Addr) (H : Hp) (x : Val) (v : V) (ρ : LE) (σ : L2.St) (W : LE → Prop) (Q : L2.St → Hp → Prop), RelE K ι H ρ σ → Rv K ι H x v → bindT tg x ρ W →
  (∀ ρ' us, RelE K ι H ρ' (setV σ tg.slots us) → W ρ' → Q (setV σ tg.slots us) H) → g v σ H Q
theorem tgok_nm {K : PySem.W.Frag} {i : Nat} : TgOk K (gName i) (.nm i) := fun ι H x v ρ σ W Q hρ r b k => by
  simp only [bindT] at b
  exact k (ρ.set i (some x)) [v] (hρ.set r i) b
def gAll : List Nat → TGs
  | [] => gNil
  | i :: is => gCons (gName i) (gAll is)
theorem gAll_ok {K : PySem.W.Frag} {ι : List Addr} {H : Hp} {W : LE → Prop} {Q : L2.St → Hp → Prop} : ∀ (is : List Nat) (xs : List Val) (vs : List V) (ρ : LE) (σ : L2.St), is.length = xs.length → Rvs K ι H xs vs → RelE K ι H ρ σ → W (setAll ρ is xs) →
    (∀ ρ' , RelE K ι H ρ' (setV σ is vs) → W ρ' → Q (setV σ is vs) H) → gAll is vs σ H Q
  | [], [], vs, ρ, σ, _, r, hρ, w, k => by
    simp only [Rvs] at r
    subst r
    exact ⟨rfl, k ρ hρ w⟩
  | i :: is, x :: xs, vs, ρ, σ, hl, r, hρ, w, k => by
    simp only [Rvs] at r
    obtain ⟨v, ws, rfl, h1, h2⟩ := r
    refine ⟨v, ws, rfl, ?_⟩
    exact gAll_ok is xs ws (ρ.set i (some x)) (σ.set i (some v)) (by simpa using hl) h2 (hρ.set h1 i) w k
  | [], _ :: _, _, _, _, hl, _, _, _, _ => by simp at hl
  | _ :: _, [], _, _, _, hl, _, _, _, _ => by simp at hl
theorem tgok_tp {K : PySem.W.Frag} {is : List Nat} : TgOk K (gTup K is.length (gAll is)) (.tp is) := fun ι H x v ρ σ W Q hρ r b k => by
  cases x with
  | tup xs =>
    simp only [bindT] at b
    simp only [Rv] at r
    obtain ⟨a, vs, rfl, h1, h2⟩ := r
    exact ⟨a, vs, rfl, h1, by rw [← h2.len, b.1], gAll_ok is xs vs ρ σ b.1 h2 hρ b.2 fun ρ' hr hw => k ρ' vs hr hw⟩
  | _ => simp [bindT] at b
theorem wipe_set {σ : L2.St} {i : Nat} {v : Option V} : ∀ {vs : List Nat}, i ∈ vs → wipe (σ.set i v) vs = wipe σ vs
  | [], h => by simp at h
  | w :: vs, h => by
    unfold wipe
    by_cases hw : i ∈ vs
    · rw [wipe_set hw]
    · have e : i = w := by simpa [hw] using h
      subst e
      have : ∀ us : List Nat, i ∉ us → wipe (σ.set i v) us = (wipe σ us).set i v := fun us => by
        induction us with
        | nil => intro _; rfl
        | cons u us ih =>
          intro hu
          simp at hu
          unfold wipe
          rw [ih hu.2, List.set_comm _ _ (fun e => hu.1 e)]
      rw [this vs hw, List.set_set]
theorem wipe_setV {σ : L2.St} {vs : List Nat} : ∀ (is : List Nat) (us : List V) (σ : L2.St), (∀ i ∈ is, i ∈ vs) → wipe (setV σ is us) vs = wipe σ vs
  | [], us, σ, _ => by cases us <;> rfl
  | i :: is, [], σ, _ => rfl
  | i :: is, u :: us, σ, h => by
    show wipe (setV (σ.set i (some u)) is us) vs = wipe σ vs
    rw [wipe_setV (σ := σ) is us _ (fun j hj => h j (List.mem_cons_of_mem _ hj)), wipe_set (h i List.mem_cons_self)]
theorem wipe_mem {σ : L2.St} {i : Nat} : ∀ {vs : List Nat}, i ∈ vs → (wipe σ vs).set i none = wipe σ vs
  | [], h => by simp at h
  | w :: vs, h => by
    unfold wipe
    by_cases e : i = w
    · subst e
      rw [List.set_set]
    · have hm : i ∈ vs := by simpa [e] using h
      rw [List.set_comm _ _ (fun z => e z.symm), wipe_mem hm]
theorem wipe_idem {σ : L2.St} {ws : List Nat} : ∀ {vs : List Nat}, (∀ i ∈ vs, i ∈ ws) → wipe (wipe σ ws) vs = wipe σ ws
  | [], _ => rfl
  | v :: vs, h => by
    show (wipe (wipe σ ws) vs).set v none = wipe σ ws
    rw [wipe_idem (fun i hi => h i (List.mem_cons_of_mem _ hi)), wipe_mem (h v List.mem_cons_self)]
theorem RelE.wipe {K : PySem.W.Frag} {ι : List Addr} {H : Hp} {ρ : LE} {σ : L2.St} (h : RelE K ι H ρ σ) : ∀ vs : List Nat, RelE K ι H (wipeL ρ vs) (L2.wipe σ vs)
  | [] => h
  | v :: vs => by
    have ih := RelE.wipe h vs
    refine ⟨by simp [wipeL, L2.wipe, ih.1], fun i x e => ?_⟩
    simp only [wipeL] at e
    simp only [L2.wipe]
    rw [List.getElem?_set] at e
    by_cases hv : v = i
    · rw [if_pos hv] at e
      split at e <;> cases e
    · rw [if_neg hv] at e
      rw [List.getElem?_set_ne hv]
      exact ih.2 i x e

/-! ### list comprehensions -/
section
variable {X : Cx} {L : Lk} {C : Cenv} {e a b c : Expr} {es rest : List Expr} {m ma mb mc : ME} {ms : List ME} {pos p p2 p3 : Pos}
theorem takesF {X : Cx} {L : Lk} {ι : List Addr} {H : Hp} {σ : L2.St} : Takes X (WXe L ι H σ (fun _ _ => False)) :=
  (takes0 (X := X)).imp fun _ _ _ _ ⟨_, _, _, _, _, _, _, z⟩ => z
/-- without exceptions -/
def tM0 (L : Lk) (C : Cenv) (m : ME) : TE := fun σ H Q => ∃ ι ρ S Q', RelE L.K ι H ρ σ ∧ Rel L ι S H ∧ wpE C m ρ S Q' (fun _ _ => False) ∧ Post L ι H Q' Q
def tMA0 (L : Lk) (C : Cenv) (es : List ME) : TT := fun σ H Q => ∃ ι ρ S Q', RelE L.K ι H ρ σ ∧ Rel L ι S H ∧ wpA C es ρ S Q' (fun _ _ => False) ∧ PostT L ι H Q' Q
theorem se0 (h : PE X e (tM X L C m)) : PE X e (tM0 L C m) := peImp h fun σ H Q ⟨ι, ρ, S, Q', hρ, R, w, post⟩ => ⟨ι, ρ, S, Q', _, hρ, R, w, takesF, post⟩
theorem sts_nil : PTs X [] (tMA0 L C []) := ⟨fun pins s σ H Q I ⟨ι, ρ, S, Q', hρ, R, w, post⟩ => pts_nil.run pins s σ H Q I (by
  simp only [wpA] at w
  exact post ι H true S Grow.refl R w)⟩
theorem sts_one (h : PT X c (tMT X L C mc)) : PTs X [c] (tMA0 L C [mc]) := ⟨fun pins s σ H Q I ⟨ι, ρ, S, Q', hρ, R, w, post⟩ => (pts_one h).run pins s σ H Q I (by
  simp only [wpA] at w
  exact ⟨ι, ρ, S, _, _, hρ, R, w, takesF, fun ι1 H1 x v S1 g1 R1 r1 w1 => tru_mono w1 fun b hb => post ι1 H1 b S1 g1 R1 hb⟩)⟩
theorem drop_cons {α : Type} {ys : List α} {i : Nat} {y : α} (h : ys[i]? = some y) : ys.drop i = y :: ys.drop (i + 1) := by
  obtain ⟨h1, h2⟩ := List.getElem?_eq_some_iff.mp h
  rw [List.drop_eq_getElem_cons h1, h2]
theorem lc_red {k : ItK} {its ifs : List ME} {own : List Nat} {tg : Tg} {elt : ME} {g : TG} {σ : L2.St} {H : Hp} {Q : VK} (hg : TgOk L.K g tg) (hown : ∀ i ∈ tg.slots, i ∈ own) (h : tM X L C (.lc k its own tg ifs elt) σ H Q) :
    tLc (tI X L C k its) g (tMA0 L C ifs) (tM0 L C elt) own σ H Q := by
  obtain ⟨ι, ρ, S, Q', E, hρ, R, w, tk, post⟩ := h
  simp only [wpE] at w
  refine ⟨ι, ρ, S, _, E, hρ, R, w, tk, fun ι1 H1 xs S1 g1 R1 w1 => ?_⟩
  cases e : itS k xs S1 with
  | none =>
    rw [e] at w1
    exact w1.elim
  | some p =>
    obtain ⟨ys, gd⟩ := p
    rw [e] at w1
    refine ⟨ys, gd, rfl, fun J wk D hD => ?_⟩
    have gA : Grow L.K ι1 H1 (ι1 ++ [D]) (upd H1 D (.lst [])) := grow_ext hD D
    have RA : Rel L (ι1 ++ [D]) (S1 ++ [.lst []]) (upd H1 D (.lst [])) := R1.alloc (ob := .lst []) hD ⟨[], upd_same, Rvs.nil⟩
    have atD : (ι1 ++ [D])[S1.length]? = some D := by
      rw [List.getElem?_append_right (by rw [R1.len]; exact Nat.le_refl _), R1.len]
      simp
    refine ⟨fun i m H' => m = ys.length - i ∧ i ≤ ys.length ∧ ∃ ι' S' acc, Grow L.K ι1 H1 ι' H' ∧ ι'[S1.length]? = some D ∧ Rel L ι' S' H' ∧ S'[S1.length]? = some (.lst acc) ∧
      lcS gd S1.length (fun x S2 K => bindT tg x (wipeL ρ own) fun ρ2 => wpA C ifs ρ2 S2 (fun b S3 => if b = true then wpE C elt ρ2 S3 (fun y S4 => K (some y) S4) (fun _ _ => False) else K none S3) (fun _ _ => False)) Q' (ys.drop i) acc S', ?_, ?_⟩
    · refine ⟨ys.length, by simp, Nat.zero_le _, ι1 ++ [D], S1 ++ [.lst []], [], gA, atD, RA, by simp, ?_⟩
      simpa using w1
    · rintro i m H' ⟨rfl, hi, ι', S', acc, gg, hD', R', hacc, wl⟩
      by_cases hlt : i < ys.length
      · right
        have hy : ys[i]? = some ys[i] := by simp [hlt]
        rw [drop_cons hy] at wl
        simp only [lcS] at wl
        obtain ⟨w2, w3⟩ := wl
        obtain ⟨go, yl⟩ := wk.go i _ ι' S' H' gg R' w2 hy
        refine ⟨go, _, fun H'' q => ⟨ys.length - (i + 1), by omega, q⟩, fun x H2 y2 => ?_⟩
        obtain ⟨g2, R2, r2⟩ := yl x H2 y2
        have gg2 := gg.trans g2
        refine hg ι' H2 _ x (wipeL ρ own) (wipe σ own) _ _ (RelE.mono (g1.trans gg2) hρ |>.wipe own) r2 w3 fun ρ2 us hρ2 w4 => ?_
        refine ⟨by rw [wipe_setV (σ := σ) _ us _ hown, wipe_idem fun _ z => z], ι', ρ2, S', _, hρ2, R2, w4, fun ι3 H3 b S3 g3 R3 w5 => ?_⟩
        cases b with
        | true =>
          refine ⟨ι3, ρ2, S3, _, hρ2.mono g3, R3, w5, fun ι4 H4 y v S4 g4 R4 r4 w6 => ?_⟩
          obtain ⟨h1, h2, h3⟩ := w6
          have hD4 : ι4[S1.length]? = some D := (g3.trans g4).get hD'
          obtain ⟨vs, e1, e2⟩ := R4.obj _ _ D h1 hD4
          refine ⟨vs, e1, by rw [← e2.len]; exact biglt h2, rfl, hlt, ι4, _, acc ++ [y], ?_, hD4, ?_, ?_, h3⟩
          · exact ((gg2.trans g3).trans g4).trans (grow_upd e1 ⟨fun _ => by simp, fun _ _ => by simp⟩)
          · exact R4.write h1 hD4 rfl rfl e1 ⟨fun _ => by simp, fun _ _ => by simp⟩ ⟨vs ++ [v], upd_same, (Rvs.mono (grow_upd e1 ⟨fun _ => by simp, fun _ _ => by simp⟩) _ e2).append (Rvs.one (Rv.mono (grow_upd e1 ⟨fun _ => by simp, fun _ _ => by simp⟩) _ r4))⟩
          · rw [List.getElem?_set_self (List.getElem?_eq_some_iff.mp h1).1]
        | false =>
          obtain ⟨h1, h3⟩ := w5
          exact ⟨rfl, hlt, ι3, S3, acc, gg2.trans g3, g3.get hD', R3, h1, h3⟩
      · left
        have ei : i = ys.length := by omega
        subst ei
        simp only [List.drop_length, lcS] at wl
        refine ⟨wk.stop ι' S' H' gg R' wl.1, post ι' H' (.loc S1.length) _ S' (g1.trans gg) R' ?_ wl.2⟩
        simp only [Rv]
        exact ⟨D, rfl, hD'⟩
theorem se_lc {k : ItK} {its ifs' : List ME} {ownl : List (Str × Nat)} {tg : Tg} {elt tgx iter : Expr} {ifs : List Expr} {melt : ME} {g : TG} {scope : Scope} (hc : X.calm = true) (hN : X.N.Nodup) (hg : TgOk L.K g tg) (hown : ∀ i ∈ tg.slots, i ∈ ownl.map (·.2))
    (hi : PI X tgx iter (tI X L C k its)) (ok : BlkOk X.N X.env.scope scope ownl)
    (hpg : ∀ (s : Shared) (H : Hp) (Cc : Addr) (cl : List (Str × Addr)) (fp : List Addr), PG (X.blk s H scope (compEnvC scope cl Cc X.env) fp) tgx g)
    (ht : ∀ (s : Shared) (H : Hp) (Cc : Addr) (cl : List (Str × Addr)) (fp : List Addr), PTs (X.blk s H scope (compEnvC scope cl Cc X.env) fp) ifs (tMA0 L C ifs'))
    (he : ∀ (s : Shared) (H : Hp) (Cc : Addr) (cl : List (Str × Addr)) (fp : List Addr), PE (X.blk s H scope (compEnvC scope cl Cc X.env) fp) elt (tM (X.blk s H scope (compEnvC scope cl Cc X.env) fp) L C melt))
    (hs : ∀ x, foldedSetIterable iter X.env x = pure x) : PE X (.ListComp elt [⟨tgx, iter, ifs, 0⟩] scope pos) (tM X L C (.lc k its (ownl.map (·.2)) tg ifs' melt)) :=
  peImp (pe_lc hc hN hi ok hpg ht (fun s H Cc cl fp => se0 (he s H Cc cl fp)) hs) fun σ H Q h => lc_red hg hown h
end
end PM

namespace PM
open PySem PySem.Spec PyProof.Rows L2

/-! ### statements -/
def WXs (L : Lk) (ι : List Addr) (H : Hp) (xn : Nat → LE → Sto → Prop) : WX := fun cls _ σ' H' =>
  ∃ ι' ρ' S' c, Grow L.K ι H ι' H' ∧ RelE L.K ι' H' ρ' σ' ∧ Rel L ι' S' H' ∧ cls = L.xc c ∧ xn c ρ' S'
structure EndsOk (L : Lk) (ι : List Addr) (H : Hp) (D' : ED) (D : Ends) : Prop where
  nx : ∀ ι' H' ρ' σ' S', Grow L.K ι H ι' H' → RelE L.K ι' H' ρ' σ' → Rel L ι' S' H' → D'.nx ρ' S' → D.nx σ' H'
  rt : Post L ι H D'.rt D.rt
  bk : ∀ ι' H' ρ' σ' S', Grow L.K ι H ι' H' → RelE L.K ι' H' ρ' σ' → Rel L ι' S' H' → D'.bk ρ' S' → D.bk σ' H'
  ct : ∀ ι' H' ρ' σ' S', Grow L.K ι H ι' H' → RelE L.K ι' H' ρ' σ' → Rel L ι' S' H' → D'.ct ρ' S' → D.ct σ' H'
section
variable {L : Lk} {ι ι' : List Addr} {H H' : Hp} {D' : ED} {D : Ends} {X : Cx} {σ : L2.St} {ρ : LE}
theorem EndsOk.grow (g : Grow L.K ι H ι' H') (d : EndsOk L ι H D' D) : EndsOk L ι' H' D' D :=
  ⟨fun _ _ _ _ _ g2 => d.nx _ _ _ _ _ (g.trans g2), fun _ _ _ _ _ g2 => d.rt _ _ _ _ _ (g.trans g2), fun _ _ _ _ _ g2 => d.bk _ _ _ _ _ (g.trans g2), fun _ _ _ _ _ g2 => d.ct _ _ _ _ _ (g.trans g2)⟩
theorem WXs.grow {xn : Nat → LE → Sto → Prop} (g : Grow L.K ι H ι' H') (tk : Takes X (WXs L ι H xn)) : Takes X (WXs L ι' H' xn) :=
  tk.imp fun _ _ _ _ ⟨ι2, ρ2, S2, c, g2, r⟩ => ⟨ι2, ρ2, S2, c, g.trans g2, r⟩
theorem WXs.ex {xn : Nat → LE → Sto → Prop} (hρ : RelE L.K ι H ρ σ) (tk : Takes X (WXs L ι H xn)) : Takes X (WXe L ι H σ (fun c => xn c ρ)) :=
  tk.imp fun _ _ _ _ ⟨e, ι2, S2, c, g2, r, ec, x⟩ => ⟨ι2, ρ, S2, c, g2, by rw [e]; exact hρ.mono g2, r, ec, x⟩
end
section
variable (X : Cx) (L : Lk) (C : Cenv)
def tMS (m : MS) : TS := fun D σ H => ∃ ι ρ S D', RelE L.K ι H ρ σ ∧ Rel L ι S H ∧ wpS C m D' ρ S ∧ Takes X (WXs L ι H D'.xn) ∧ EndsOk L ι H D' D
def tMSs (ms : List MS) : TS := fun D σ H => ∃ ι ρ S D', RelE L.K ι H ρ σ ∧ Rel L ι S H ∧ wpSs C ms D' ρ S ∧ Takes X (WXs L ι H D'.xn) ∧ EndsOk L ι H D' D
end
section
variable {X : Cx} {L : Lk} {C : Cenv} {e a b c o i : Expr} {st : Stmt} {es rest : List Expr} {body sa sb : List Stmt} {m ma mb mc mo mi : ME} {s1 : MS} {ms : List ME} {bs ss ts : List MS} {pos p p2 p3 : Pos}
theorem ss_nil : PSs X [] (tMSs X L C []) := pssImp pss_nil fun D σ H ⟨ι, ρ, S, D', hρ, R, w, tk, d⟩ => by
  simp only [wpSs] at w
  exact d.nx ι H ρ σ S Grow.refl hρ R w
theorem ss_cons (h1 : PS X st (tMS X L C s1)) (h2 : PSs X body (tMSs X L C ss)) : PSs X (st :: body) (tMSs X L C (s1 :: ss)) :=
  pssImp (pss_cons h1 h2) fun D σ H ⟨ι, ρ, S, D', hρ, R, w, tk, d⟩ => by
    rw [wpSs] at w
    exact ⟨ι, ρ, S, _, hρ, R, w, tk, ⟨fun ι1 H1 ρ1 σ1 S1 g1 r1 R1 w1 => ⟨ι1, ρ1, S1, D', r1, R1, w1, WXs.grow g1 tk, d.grow g1⟩, d.rt, d.bk, d.ct⟩⟩
theorem s_asg {tg : Expr} {t : Tg} {g : TG} (hg : TgOk L.K g t) (he : PE X e (tM X L C m)) (hpg : PG X tg g) (hs : swapsWithSole [tg] e pos.line X.env = pure false) (hw : swappedStores [tg] e X.env = pure none) (h1 : (assignEach [tg] X.env).map (·.2) = [assign tg X.env]) : PS X (.Assign [tg] e pos) (tMS X L C (.asg t m)) :=
  psImp (ps_asg he hpg hs hw h1) fun D σ H ⟨ι, ρ, S, D', hρ, R, w, tk, d⟩ => by
    simp only [wpS] at w
    exact ⟨ι, ρ, S, _, _, hρ, R, w, WXs.ex hρ tk, fun ι1 H1 x v S1 g1 R1 r1 w1 => hg ι1 H1 x v ρ σ _ _ (hρ.mono g1) r1 w1 fun ρ2 us h2 w2 => d.nx ι1 H1 ρ2 _ S1 g1 h2 R1 w2⟩
theorem s_asgLc {k : ItK} {its ifs' : List ME} {ownl : List (Str × Nat)} {tg : Tg} {elt tgx iter : Expr} {ifs : List Expr} {melt : ME} {g : TG} {scope : Scope} {j : Nat} {y : Str} {py spos : Pos} (hc : X.calm = true) (hN : X.N.Nodup) (hy : X.N[j]? = some y) (hyl : X.env.scope.names.lookup y = some .local)
    (hsw : swapsWith (.ListComp elt [⟨tgx, iter, ifs, 0⟩] scope pos) (some (.Name y py)) spos.line X.env = pure true) (hg : TgOk L.K g tg) (hown : ∀ i ∈ tg.slots, i ∈ ownl.map (·.2))
    (hi : PI X tgx iter (tI X L C k its)) (ok : BlkOk X.N X.env.scope scope ownl)
    (hpg : ∀ (s : Shared) (H : Hp) (Cc : Addr) (cl : List (Str × Addr)) (fp : List Addr), PG (X.blk s H scope (compEnvC scope cl Cc X.env) fp) tgx g)
    (ht : ∀ (s : Shared) (H : Hp) (Cc : Addr) (cl : List (Str × Addr)) (fp : List Addr), PTs (X.blk s H scope (compEnvC scope cl Cc X.env) fp) ifs (tMA0 L C ifs'))
    (he : ∀ (s : Shared) (H : Hp) (Cc : Addr) (cl : List (Str × Addr)) (fp : List Addr), PE (X.blk s H scope (compEnvC scope cl Cc X.env) fp) elt (tM (X.blk s H scope (compEnvC scope cl Cc X.env) fp) L C melt))
    (hs : ∀ x, foldedSetIterable iter X.env x = pure x) : PS X (.Assign [.Name y py] (.ListComp elt [⟨tgx, iter, ifs, 0⟩] scope pos) spos) (tMS X L C (.asg (.nm j) (.lc k its (ownl.map (·.2)) tg ifs' melt))) :=
  psImp (ps_setLc hc hN hy hyl hsw hi ok hpg ht (fun s H Cc cl fp => se0 (he s H Cc cl fp)) hs) fun D σ H ⟨ι, ρ, S, D', hρ, R, w, tk, d⟩ => by
    rw [wpS] at w
    exact lc_red hg hown ⟨ι, ρ, S, _, _, hρ, R, w, WXs.ex hρ tk, fun ι1 H1 x v S1 g1 R1 r1 w1 => d.nx ι1 H1 _ _ S1 g1 ((hρ.mono g1).set r1 j) R1 w1⟩
def rSetA (X : Cx) : TSet := fun o i v H Q => ∃ r, PSet X r ∧ r o i v H Q
theorem rSetA_ok : PSet X (rSetA X) := fun pins s σ H o i v ov iv u Q I ro ri rv ⟨_, k, q⟩ => k pins s σ H o i v ov iv u Q I ro ri rv q
theorem sub_ok {ι : List Addr} {S : Sto} {H : Hp} {x y z : Val} {o i v : V} {Q' : Sto → Prop} {Q : Hp → Prop} (R : Rel L ι S H) (ro : Rv L.K ι H x o) (ri : Rv L.K ι H y i) (rv : Rv L.K ι H z v) (w : subS x y z S Q')
    (post : ∀ H' S', Grow L.K ι H ι H' → Rel L ι S' H' → Q' S' → Q H') : rSetA X o i v H Q := by
  unfold subS at w
  split at w
  · rename_i n k
    simp only [Rv] at ro ri
    obtain ⟨a, rfl, ha⟩ := ro
    subst ri
    split at w
    · rename_i xs e
      obtain ⟨vs, h1, h2⟩ := R.obj n _ a e ha
      split at w
      · rename_i j e2
        have gg : Grow L.K ι H ι (upd H a (.lst (vs.set j v))) := grow_upd h1 ⟨fun _ => by simp, fun _ _ => by simp⟩
        refine ⟨_, set_list, a, vs, k, j, rfl, rfl, h1, by rw [← h2.len]; exact e2, post _ _ gg ?_ w⟩
        exact R.write e ha rfl rfl h1 ⟨fun _ => by simp, fun _ _ => by simp⟩ ⟨vs.set j v, upd_same, (Rvs.mono gg _ h2).set j (Rv.mono gg _ rv)⟩
      · exact w.elim
    · exact w.elim
  · exact w.elim
theorem s_sub (he : PE X e (tM X L C m)) (ho : PE X o (tM X L C mo)) (hi : PE X i (tM X L C mi)) (hs : swapsWithSole [.Subscript o i p] e pos.line X.env = pure false) (hw : swappedStores [.Subscript o i p] e X.env = pure none)
    (ha : ∀ v, assign (.Subscript o i p) X.env v = (do
      let ov ← holding [v] (eval o X.env)
      let iv ← holding [v, ov] (eval i X.env)
      standAt p
      holding [v, ov, iv] (setItem ov iv v)
      release [v, ov, iv] [])) : PS X (.Assign [.Subscript o i p] e pos) (tMS X L C (.sub mo mi m)) :=
  psImp (ps_asg he (pg_sub ho hi rSetA_ok ha) hs hw) fun D σ H ⟨ι, ρ, S, D', hρ, R, w, tk, d⟩ => by
    simp only [wpS] at w
    exact ⟨ι, ρ, S, _, _, hρ, R, w, WXs.ex hρ tk, fun ι1 H1 z v S1 g1 R1 r1 w1 => ⟨ι1, ρ, S1, _, _, hρ.mono g1, R1, w1, WXs.ex (hρ.mono g1) (WXs.grow g1 tk), fun ι2 H2 x ov S2 g2 R2 r2 w2 =>
      ⟨ι2, ρ, S2, _, _, hρ.mono (g1.trans g2), R2, w2, WXs.ex (hρ.mono (g1.trans g2)) (WXs.grow (g1.trans g2) tk), fun ι3 H3 y iv S3 g3 R3 r3 w3 =>
        sub_ok R3 (r2.mono g3) r3 (r1.mono (g2.trans g3)) w3 fun H4 S4 g4 R4 w4 => d.nx ι3 H4 ρ σ S4 (((g1.trans g2).trans g3).trans g4) (hρ.mono (((g1.trans g2).trans g3).trans g4)) R4 w4⟩⟩⟩
theorem s_ex (he : PE X e (tM X L C m)) (hs : swapsWith e none pos.line X.env = pure false) : PS X (.Expr e pos) (tMS X L C (.ex m)) :=
  psImp (ps_expr he hs) fun D σ H ⟨ι, ρ, S, D', hρ, R, w, tk, d⟩ => by
    simp only [wpS] at w
    exact ⟨ι, ρ, S, _, _, hρ, R, w, WXs.ex hρ tk, fun ι1 H1 x v S1 g1 R1 r1 w1 => d.nx ι1 H1 ρ σ S1 g1 (hρ.mono g1) R1 w1⟩
theorem s_ret (he : PE X e (tM X L C m)) : PS X (.Return (some e) pos) (tMS X L C (.ret m)) :=
  psImp (ps_ret he) fun D σ H ⟨ι, ρ, S, D', hρ, R, w, tk, d⟩ => by
    simp only [wpS] at w
    exact ⟨ι, ρ, S, _, _, hρ, R, w, WXs.ex hρ tk, d.rt⟩
theorem s_retN : PS X (.Return none pos) (tMS X L C .retN) :=
  psImp ps_retN fun D σ H ⟨ι, ρ, S, D', hρ, R, w, tk, d⟩ => by
    simp only [wpS] at w
    exact d.rt ι H .non .non S Grow.refl R (by simp only [Rv]) w
theorem s_pass : PS X (.Pass pos) (tMS X L C .pass) := psImp ps_pass fun D σ H ⟨ι, ρ, S, D', hρ, R, w, tk, d⟩ => by
  simp only [wpS] at w
  exact d.nx ι H ρ σ S Grow.refl hρ R w
theorem s_brk : PS X (.Break pos) (tMS X L C .brk) := psImp ps_break fun D σ H ⟨ι, ρ, S, D', hρ, R, w, tk, d⟩ => by
  simp only [wpS] at w
  exact d.bk ι H ρ σ S Grow.refl hρ R w
theorem s_cnt : PS X (.Continue pos) (tMS X L C .cnt) := psImp ps_continue fun D σ H ⟨ι, ρ, S, D', hρ, R, w, tk, d⟩ => by
  simp only [wpS] at w
  exact d.ct ι H ρ σ S Grow.refl hρ R w
theorem s_ite (hc : PT X c (tMT X L C mc)) (ha : PSs X sa (tMSs X L C ss)) (hb : PSs X sb (tMSs X L C ts)) : PS X (.If c sa sb pos) (tMS X L C (.ite mc ss ts)) :=
  psImp (ps_if hc ha hb) fun D σ H ⟨ι, ρ, S, D', hρ, R, w, tk, d⟩ => by
    simp only [wpS, wpT] at w
    refine ⟨ι, ρ, S, _, _, hρ, R, w, WXs.ex hρ tk, fun ι1 H1 x v S1 g1 R1 r1 w1 => tru_mono w1 fun k hk => ?_⟩
    cases k with
    | true => exact ⟨ι1, ρ, S1, D', hρ.mono g1, R1, hk, WXs.grow g1 tk, d.grow g1⟩
    | false => exact ⟨ι1, ρ, S1, D', hρ.mono g1, R1, hk, WXs.grow g1 tk, d.grow g1⟩
theorem s_for {tgx iter : Expr} {t : Tg} {g : TG} {k : ItK} {its : List ME} (hp : PassesOwn (model X.prog X.w) X.A X.env X.xe) (hc : X.calm = true) (hg : TgOk L.K g t) (hi : PI X tgx iter (tI X L C k its)) (hpg : PG X tgx g) (hb : PSs X body (tMSs X L C bs))
    (hs : ∀ x, foldedSetIterable iter X.env x = pure x) : PS X (.For tgx iter body [] pos) (tMS X L C (.fr t k its bs)) :=
  psImp (ps_for hp hc hi hpg hb hs) fun D σ H ⟨ι, ρ, S, D', hρ, R, w, tk, d⟩ => by
    simp only [wpS] at w
    refine ⟨ι, ρ, S, _, _, hρ, R, w, WXs.ex hρ tk, fun ι1 H1 xs S1 g1 R1 w1 => ?_⟩
    cases e : itS k xs S1 with
    | none =>
      rw [e] at w1
      exact w1.elim
    | some p =>
      obtain ⟨ys, gd⟩ := p
      rw [e] at w1
      refine ⟨ys, gd, rfl, fun J wk => ?_⟩
      refine ⟨fun i m σ' H' => m = ys.length - i ∧ i ≤ ys.length ∧ ∃ ι' ρ' S', Grow L.K ι1 H1 ι' H' ∧ RelE L.K ι' H' ρ' σ' ∧ Rel L ι' S' H' ∧ forS gd t (fun D => wpSs C bs D) D' (ys.drop i) ρ' S', ?_, ?_⟩
      · exact ⟨ys.length, by simp, Nat.zero_le _, ι1, ρ, S1, Grow.refl, hρ.mono g1, R1, by simpa using w1⟩
      · rintro i m σ' H' ⟨rfl, hle, ι', ρ', S', gg, hρ', R', wl⟩
        by_cases hlt : i < ys.length
        · right
          have hy : ys[i]? = some ys[i] := by simp [hlt]
          rw [drop_cons hy] at wl
          simp only [forS] at wl
          obtain ⟨w2, w3⟩ := wl
          obtain ⟨go, yl⟩ := wk.go i _ ι' S' H' gg R' w2 hy
          refine ⟨go, _, fun σ2 H2 q => ⟨ys.length - (i + 1), by omega, q⟩, fun x H2 y2 => ?_⟩
          obtain ⟨g2, R2, r2⟩ := yl x H2 y2
          refine hg ι' H2 _ x ρ' σ' _ _ (hρ'.mono g2) r2 w3 fun ρ2 us hρ2 w4 => ?_
          have gg2 := gg.trans g2
          refine ⟨ι', ρ2, S', _, hρ2, R2, w4, WXs.grow (g1.trans gg2) tk, ⟨fun ι3 H3 ρ3 σ3 S3 g3 r3 R3 w5 => ?_, fun ι3 H3 x v S3 g3 => d.rt ι3 H3 x v S3 ((g1.trans gg2).trans g3), fun ι3 H3 ρ3 σ3 S3 g3 => d.nx ι3 H3 ρ3 σ3 S3 ((g1.trans gg2).trans g3), fun ι3 H3 ρ3 σ3 S3 g3 r3 R3 w5 => ?_⟩⟩
          · exact ⟨rfl, hlt, ι3, ρ3, S3, gg2.trans g3, r3, R3, w5⟩
          · exact ⟨rfl, hlt, ι3, ρ3, S3, gg2.trans g3, r3, R3, w5⟩
        · left
          have ei : i = ys.length := by omega
          subst ei
          simp only [List.drop_length, forS] at wl
          exact ⟨wk.stop ι' S' H' gg R' wl.1, d.nx ι' H' ρ' σ' S' (g1.trans gg) hρ' R' wl.2⟩
theorem s_whl (hp : PassesOwn (model X.prog X.w) X.A X.env X.xe) (hc : PT X c (tMT X L C mc)) (hb : PSs X body (tMSs X L C bs)) : PS X (.While c body [] pos) (tMS X L C (.whl mc bs)) :=
  psImp (ps_while hp hc hb) fun D σ H ⟨ι, ρ, S, D', hρ, R, w, tk, d⟩ => by
    simp only [wpS] at w
    obtain ⟨n, w⟩ := w
    refine ⟨fun m σ' H' => ∃ ι' ρ' S', Grow L.K ι H ι' H' ∧ RelE L.K ι' H' ρ' σ' ∧ Rel L ι' S' H' ∧ whlS (fun ρ S Q => wpT C mc ρ S Q fun c => D'.xn c ρ) (fun D => wpSs C bs D) D' m ρ' S', ⟨n, ι, ρ, S, Grow.refl, hρ, R, w⟩, ?_⟩
    rintro m σ' H' ⟨ι', ρ', S', gg, hρ', R', wl⟩
    cases m with
    | zero => exact wl.elim
    | succ m =>
      simp only [whlS, wpT] at wl
      refine ⟨ι', ρ', S', _, _, hρ', R', wl, WXs.ex hρ' (WXs.grow gg tk), fun ι1 H1 x v S1 g1 R1 r1 w1 => tru_mono w1 fun k hk => ?_⟩
      cases k with
      | true =>
        refine ⟨_, fun σ2 H2 q => ⟨m, Nat.lt_succ_self m, q⟩, ι1, ρ', S1, _, hρ'.mono g1, R1, hk, WXs.grow (gg.trans g1) tk, ⟨fun ι3 H3 ρ3 σ3 S3 g3 r3 R3 w5 => ?_, fun ι3 H3 x v S3 g3 => d.rt ι3 H3 x v S3 ((gg.trans g1).trans g3), fun ι3 H3 ρ3 σ3 S3 g3 => d.nx ι3 H3 ρ3 σ3 S3 ((gg.trans g1).trans g3), fun ι3 H3 ρ3 σ3 S3 g3 r3 R3 w5 => ?_⟩⟩
        · exact ⟨ι3, ρ3, S3, (gg.trans g1).trans g3, r3, R3, w5⟩
        · exact ⟨ι3, ρ3, S3, (gg.trans g1).trans g3, r3, R3, w5⟩
      | false => exact d.nx ι1 H1 ρ' σ' S1 (gg.trans g1) (hρ'.mono g1) R1 hk
end
end PM

namespace PM
open PySem PySem.Spec PyProof.Rows L2

abbrev Nm := List (Str × NameKind)
/-- the names of a program: built-ins that stand, defs by number, constants by number -/
structure Tb where
  bi : List Str
  fn : List Str
  gl : List Str
structure Good (X : Cx) (L : Lk) (C : Cenv) (T : Tb) (N : List Str) (df : Bool) (nm : Nm) : Prop where
  hN : X.N = N
  nd : N.Nodup
  nm : X.env.scope.names = nm
  kd : X.env.scope.kind = .function
  calm : X.calm = true
  A : X.A.units + 64 < cLine
  pass : PassesOwn (model X.prog X.w) X.A X.env X.xe
  K : X.K = L.K
  bi : ∀ x, T.bi.contains x = true → X.mg x = none
  gl : ∀ i x, T.gl[i]? = some x → ∃ u w, X.mg x = some u ∧ RelV w u ∧ ∀ ι H, Rv L.K ι H (C.glo i) w
  fn : ∀ i x, T.fn[i]? = some x → Callee X L C i x
  cs : ∀ n x kvs, C.cst n = some (x, kvs) → CDk X.K X.w.params x kvs
  al : df = true → ∀ x, X.fn x = true
def innerNm (nm : Nm) (scope : Scope) : Nm := scope.names.map fun (n, k) => if (k == .free && ScopeKind.function == .function && nm.lookup n == some .cell) then (n, .cell) else (n, k)
theorem Good.blk {X : Cx} {L : Lk} {C : Cenv} {T : Tb} {N : List Str} {df : Bool} {nm : Nm} (G : Good X L C T N df nm) {scope : Scope} (hk : scope.kind = .function) (s : Shared) (H : Hp) (Cc : Addr) (cl : List (Str × Addr)) (fp : List Addr) :
    Good (X.blk s H scope (compEnvC scope cl Cc X.env) fp) L C T N false (innerNm nm scope) where
  hN := G.hN
  nd := G.nd
  nm := by
    show (relabel scope X.env).names = innerNm nm scope
    unfold relabel innerNm
    have e : ∀ n, X.env.kindOf n = nm.lookup n := fun n => by
      show X.env.scope.names.lookup n = _
      rw [G.nm]
    simp only [G.kd, e]
  kd := hk
  calm := G.calm
  A := G.A
  pass := PassesOwn.never
  K := G.K
  bi := G.bi
  gl := G.gl
  fn := fun i x h => ⟨(G.fn i x h).ex⟩
  cs := G.cs
  al := fun h => absurd h (by decide)

/-! ### the check of a tree against the text -/
def isNm (x : Str) : Bool := !(x == ("__debug__" : Str)) && !(x == ("__classdict__" : Str))
def visB (nm : Nm) (x : Str) : Bool := match nm.lookup x with
  | some .local => true | some .cell => true | some .free => true | _ => false
def glB (nm : Nm) (x : Str) : Bool := match nm.lookup x with
  | some .globalImplicit => true | _ => false
def locB (df : Bool) (nm : Nm) (x : Str) : Bool := match nm.lookup x with
  | some .local => true | some .cell => df | _ => false
def bltB (T : Tb) (nm : Nm) (x y : Str) : Bool := decide (x = y) && glB nm x && T.bi.contains x
def litB : Val → Const → Bool
  | .non, .none => true
  | .bl b, .bool c => b == c
  | .int i, .int j => decide (i = j)
  | .str x, .str y => decide (x = y)
  | _, _ => false
def nmsB (N : List Str) (df : Bool) (nm : Nm) : List Nat → List Expr → Bool
  | [], [] => true
  | i :: is, .Name x _ :: es => decide (N[i]? = some x) && locB df nm x && nmsB N df nm is es
  | _, _ => false
def tgB (N : List Str) (df : Bool) (nm : Nm) : Tg → Expr → Bool
  | .nm i, .Name x _ => decide (N[i]? = some x) && locB df nm x
  | .tp is, .Tuple es _ _ => nmsB N df nm is es
  | _, _ => false
def kindF : ScopeKind → Bool
  | .function => true | _ => false
def ownOf (N : List Str) (own : List Nat) : List (Str × Nat) := own.map fun i => (N.getD i Str.empty, i)
/-- what a loop walks: the expressions that it asks -/
def itX (T : Tb) (nm : Nm) : ItK → Expr → Expr → Option (List Expr)
  | .seq, _, it => some [it]
  | .range, _, .Call (.Name g _) [x] [] _ => if bltB T nm g "range" then some [x] else none
  | .range2, _, .Call (.Name g _) [x, y] [] _ => if bltB T nm g "range" then some [x, y] else none
  | .zip, .Tuple .., .Call (.Name g _) [x, y] [] _ => if bltB T nm g "zip" then some [x, y] else none
  | .enum, .Tuple .., .Call (.Name g _) [x] [] _ => if bltB T nm g "enumerate" then some [x] else none
  | _, _, _ => none
def baseB : Expr → Bool
  | .Call .. => false
  | _ => true
mutual
def chkE (T : Tb) (N : List Str) : ME → Nm → Expr → Bool
  | .var i, nm, .Name x _ => decide (N[i]? = some x) && visB nm x && isNm x
  | .lit v, _, .Constant c _ _ => litB v c
  | .glo i, nm, .Name x _ => decide (T.gl[i]? = some x) && glB nm x && isNm x
  | .neg a, nm, .UnaryOp .USub e _ => chkE T N a nm e
  | .not a, nm, .UnaryOp .Not e _ => chkE T N a nm e
  | .bool true es, nm, .BoolOp .And xs _ => chkEs T N es nm xs && !xs.isEmpty
  | .bool false es, nm, .BoolOp .Or xs _ => chkEs T N es nm xs && !xs.isEmpty
  | .bin op a b, nm, .BinOp x o y _ => decide (o = op.py) && chkE T N a nm x && chkE T N b nm y
  | .cmp op a b, nm, .Compare x [o] [y] _ => decide (o = op.py) && chkE T N a nm x && chkE T N b nm y
  | .chain o1 o2 a b c, nm, .Compare x [p, q] [y, z] _ => decide (p = o1.py) && decide (q = o2.py) && chkE T N a nm x && chkE T N b nm y && chkE T N c nm z
  | .ifx t a b, nm, .IfExp z x y _ => chkE T N t nm z && chkE T N a nm x && chkE T N b nm y
  | .tup es, nm, .Tuple xs _ _ => chkEs T N es nm xs && decide (es.length ≤ big)
  | .lst es, nm, .List xs _ => chkEs T N es nm xs && decide (es.length ≤ big)
  | .ix a i, nm, .Subscript x y _ => chkE T N a nm x && chkE T N i nm y
  | .sl a lo hi, nm, .Subscript x (.Slice l h none _) _ => chkE T N a nm x && chkO T N lo nm l && chkO T N hi nm h
  | .ist a t, nm, .Call (.Name f _) [x, .Name y _] [] _ => bltB T nm f "isinstance" && bltB T nm y (Str.ofString t.py) && chkE T N a nm x
  | .tyc k a t, nm, .Compare (.Call (.Name f _) [x] [] _) [o] [.Name y _] _ => bltB T nm f "type" && bltB T nm y (Str.ofString t.py) && decide (o = if k then .Eq else .NotEq) && chkE T N a nm x
  | .bi f es, nm, .Call (.Name g _) xs [] _ => bltB T nm g f.nm && chkEs T N es nm xs && !xs.isEmpty
  | .mt m o es, nm, .Call (.Attribute x a ap) xs [] p => decide (a = m.nm) && baseB x && (ap.endLine == p.line) && decide (xs.length < 20) && (m.isL || decide (xs.length = 1)) && chkE T N o nm x && chkEs T N es nm xs
  | .call i es, nm, .Call (.Name g _) xs [] _ => decide (T.fn[i]? = some g) && glB nm g && isNm g && chkEs T N es nm xs
  | .lc k its own tg ifs elt, nm, .ListComp e [⟨t, it, cs, z⟩] scope _ => decide (z = 0) && (match itX T nm k t it with
      | some xs => chkEs T N its nm xs
      | none => false) && kindF scope.kind && blkC N ⟨.function, nm, false, false, []⟩ scope (ownOf N own) && tg.slots.all own.contains && tgB N false (innerNm nm scope) tg t &&
      (match cs with
        | [] => decide (ifs.length = 0)
        | [c] => chkEs T N ifs (innerNm nm scope) [c]
        | _ => false) && chkE T N elt (innerNm nm scope) e
  | _, _, _ => false
def chkEs (T : Tb) (N : List Str) : List ME → Nm → List Expr → Bool
  | [], _, [] => true
  | m :: ms, nm, e :: es => chkE T N m nm e && chkEs T N ms nm es
  | _, _, _ => false
def chkO (T : Tb) (N : List Str) : List ME → Nm → Option Expr → Bool
  | [], _, none => true
  | [m], nm, some e => chkE T N m nm e
  | _, _, _ => false
end
end PM

namespace PM
open PySem PySem.Spec PyProof.Rows L2

/-! ### what the check says of an expression's form -/
def plainB : Expr → Bool
  | .Starred .. => false | .Slice .. => false | .Set .. => false | .SetComp .. => false | .DictComp .. => false | .GeneratorExp .. => false
  | _ => true
theorem chk_plain {T : Tb} {N : List Str} {m : ME} {nm : Nm} {e : Expr} (h : chkE T N m nm e = true) : plainB e = true := by
  cases e with
  | Starred a b => cases m with
    | bool k es => cases k <;> simp [chkE] at h
    | _ => simp [chkE] at h
  | Slice a b c d => cases m with
    | bool k es => cases k <;> simp [chkE] at h
    | _ => simp [chkE] at h
  | Set a b c => cases m with
    | bool k es => cases k <;> simp [chkE] at h
    | _ => simp [chkE] at h
  | SetComp a b c d => cases m with
    | bool k es => cases k <;> simp [chkE] at h
    | _ => simp [chkE] at h
  | DictComp a b c d => cases m with
    | bool k es => cases k <;> simp [chkE] at h
    | _ => simp [chkE] at h
  | GeneratorExp a b c d => cases m with
    | bool k es => cases k <;> simp [chkE] at h
    | _ => simp [chkE] at h
  | _ => rfl
theorem star_of {e : Expr} {es : List Expr} {env : Env} (h : plainB e = true) : starEach (e :: es) env = (false, eval e env) :: starEach es env := by
  cases e <;> first | rfl | (simp [plainB] at h)
theorem mark_of {op : CmpOp} {e : Expr} (h : plainB e = true) : behindInMarks op e = false := by
  cases e <;> first | rfl | (simp [plainB] at h)
theorem fold_of {e : Expr} {env : Env} (h : plainB e = true) (x : Value) : foldedSetIterable e env x = pure x := by
  cases e <;> first | rfl | (simp [plainB] at h)
theorem ix_of {e : Expr} (h : plainB e = true) : PlainIx e := by
  intro o i
  cases e <;> first | rfl | (simp [plainB] at h)
theorem chkEs_len {T : Tb} {N : List Str} : ∀ {ms : List ME} {nm : Nm} {es : List Expr}, chkEs T N ms nm es = true → ms.length = es.length
  | [], _, [], _ => rfl
  | [], _, _ :: _, h => by simp [chkEs] at h
  | _ :: _, _, [], h => by simp [chkEs] at h
  | m :: ms, nm, e :: es, h => by
    simp only [chkEs, Bool.and_eq_true] at h
    simp [chkEs_len h.2]
theorem chkEs_star {T : Tb} {N : List Str} {env : Env} {pos : Pos} : ∀ {ms : List ME} {nm : Nm} {es : List Expr}, chkEs T N ms nm es = true → (backTo pos (starEach es env)).any (·.1) = false
  | [], _, [], _ => rfl
  | [], _, _ :: _, h => by simp [chkEs] at h
  | _ :: _, _, [], h => by simp [chkEs] at h
  | m :: ms, nm, e :: es, h => by
    simp only [chkEs, Bool.and_eq_true] at h
    rw [star_of (chk_plain h.1)]
    have := chkEs_star (env := env) (pos := pos) h.2
    unfold backTo at this ⊢
    rw [List.map_cons, List.any_cons, this]
    rfl
section
variable {X : Cx} {L : Lk} {C : Cenv} {T : Tb} {N : List Str} {df : Bool} {nm : Nm}
theorem Good.vis (G : Good X L C T N df nm) {x : Str} (h : visB nm x = true) : Vis X.env.scope x := by
  unfold visB at h
  unfold Vis
  rw [G.nm]
  split at h
  · exact .inl (by assumption)
  · exact .inr (.inl (by assumption))
  · exact .inr (.inr (by assumption))
  · cases h
theorem Good.gl' (G : Good X L C T N df nm) {x : Str} (h : glB nm x = true) : Gl X x := by
  unfold glB at h
  show X.env.scope.names.lookup x = some .globalImplicit
  rw [G.nm]
  split at h
  · assumption
  · cases h
theorem Good.loc (G : Good X L C T N df nm) {x : Str} (h : locB df nm x = true) : L2.Loc X.env.scope x ∧ (X.fn x = true ∨ X.env.scope.names.lookup x = some .local) := by
  unfold locB at h
  unfold L2.Loc
  rw [G.nm]
  split at h
  · exact ⟨.inl (by assumption), .inr (by assumption)⟩
  · exact ⟨.inr (by assumption), .inl (G.al h x)⟩
  · cases h
theorem isNm_of {x : Str} (h : isNm x = true) : (x == ("__debug__" : Str)) = false ∧ (x == ("__classdict__" : Str)) = false := by
  unfold isNm at h
  rw [Bool.and_eq_true] at h
  simpa using h
theorem Good.blt (G : Good X L C T N df nm) {x y : Str} (h : bltB T nm x y = true) : x = y ∧ Gl X x ∧ X.mg x = none := by
  unfold bltB at h
  rw [Bool.and_eq_true, Bool.and_eq_true] at h
  exact ⟨of_decide_eq_true h.1.1, G.gl' h.1.2, G.bi _ h.2⟩
theorem lit_ok {v : Val} {c : Const} {j : Nat} {pos : Pos} (h : litB v c = true) : PE X (.Constant c j pos) (tM X L C (.lit v)) := by
  cases v with
  | non => cases c <;> first | exact se_c pe_non (fun ι H => by simp only [Rv]) | (simp [litB] at h)
  | bl b =>
    cases c with
    | bool c =>
      have : b = c := by simpa [litB] using h
      subst this
      exact se_c pe_bl (fun ι H => by simp only [Rv])
    | _ => simp [litB] at h
  | int b =>
    cases c with
    | int c =>
      have : b = c := by simpa [litB] using h
      subst this
      exact se_c pe_int (fun ι H => by simp only [Rv])
    | _ => simp [litB] at h
  | str b =>
    cases c with
    | str c =>
      have : b = c := by simpa [litB] using h
      subst this
      exact se_c pe_str (fun ι H => by simp only [Rv])
    | _ => simp [litB] at h
  | tup _ => simp [litB] at h
  | loc _ => simp [litB] at h
  | cst _ _ => simp [litB] at h
def gOf (K : PySem.W.Frag) : Tg → TG
  | .nm i => gName i
  | .tp is => gTup K is.length (gAll is)
theorem gOf_ok {K : PySem.W.Frag} (t : Tg) : TgOk K (gOf K t) t := by
  cases t with
  | nm i => exact tgok_nm
  | tp is => exact tgok_tp
theorem nms_ok (G : Good X L C T N df nm) : ∀ {is : List Nat} {es : List Expr}, nmsB N df nm is es = true → PGs X es (gAll is) ∧ (assignEach es X.env).length = is.length ∧ (assignEach es X.env).findIdx? (·.1) = none
  | [], [], _ => ⟨pgs_nil, rfl, rfl⟩
  | [], _ :: _, h => by simp [nmsB] at h
  | _ :: _, [], h => by simp [nmsB] at h
  | i :: is, e :: es, h => by
    cases e with
    | Name x p =>
      simp only [nmsB, Bool.and_eq_true, decide_eq_true_eq] at h
      obtain ⟨h1, h2, h3⟩ := nms_ok G h.2
      have hl := G.loc h.1.2
      refine ⟨pgs_cons (pg_name (by rw [G.hN]; exact G.nd) (by rw [G.hN]; exact h.1.1) hl.1 hl.2) h1 rfl, ?_, ?_⟩
      · show (assignEach es X.env).length + 1 = is.length + 1
        rw [h2]
      · show ((false, assign (.Name x p) X.env) :: assignEach es X.env).findIdx? (·.1) = none
        rw [List.findIdx?_cons, h3]
        rfl
    | _ => simp [nmsB] at h
theorem tg_ok (G : Good X L C T N df nm) {t : Tg} {e : Expr} (h : tgB N df nm t e = true) : PG X e (gOf L.K t) := by
  cases t with
  | nm i =>
    cases e with
    | Name x p =>
      simp only [tgB, Bool.and_eq_true, decide_eq_true_eq] at h
      have hl := G.loc h.2
      exact pg_name (by rw [G.hN]; exact G.nd) (by rw [G.hN]; exact h.1) hl.1 hl.2
    | _ => simp [tgB] at h
  | tp is =>
    cases e with
    | Tuple es k p =>
      simp only [tgB] at h
      obtain ⟨h1, h2, h3⟩ := nms_ok G h
      rw [← G.K]
      exact pg_tup G.calm h1 h2 h3
    | _ => simp [tgB] at h
end
theorem ownOf_map (N : List Str) (own : List Nat) : (ownOf N own).map (·.2) = own := by
  unfold ownOf
  rw [List.map_map]
  exact List.map_id'' (fun _ => rfl) own
theorem blk_ok {N : List Str} {nm : Nm} {scope sc : Scope} {own : List (Str × Nat)} (hs : sc.names = nm) (h : blkC N ⟨.function, nm, false, false, []⟩ scope own = true) : BlkOk N sc scope own := by
  have b := blkOk_by h
  exact ⟨b.kind, b.uniq, b.ix, fun y hy e => by rw [hs]; exact b.free y hy e, b.own⟩
theorem kind_of {k : ScopeKind} (h : kindF k = true) : k = .function := by
  cases k <;> first | rfl | (simp [kindF] at h)
end PM

namespace PM
open PySem PySem.Spec PyProof.Rows L2

/-! ### a checked tree is sound -/
section
variable {L : Lk} {C : Cenv} {T : Tb} {N : List Str}
abbrev ET (L : Lk) (C : Cenv) (X : Cx) (e : Expr) (m : ME) : Prop := PE X e (tM X L C m) ∧ PT X e (tMT X L C m)
theorem et_of {X : Cx} {e : Expr} {m : ME} (hK : X.K = L.K) (h : PE X e (tM X L C m)) (he : ∀ whole, isTrue e X.env whole = (do let v ← whole; standAt e.pos; holding [v] (truthy v))) : ET L C X e m := ⟨h, se_truth hK h he⟩
theorem pt_ifx {X : Cx} {c a b : Expr} {pos : Pos} {tc ta tb : TT} (hc : PT X c tc) (ha : PT X a ta) (hb : PT X b tb) : PT X (.IfExp c a b pos) (fun σ H Q => tc σ H fun k H1 => if k = true then ta σ H1 Q else tb σ H1 Q) := by
  refine ⟨fun pins s σ H Q I h => ?_⟩
  show wpAny _ X.A (do if ← isTrue c X.env (eval c X.env) then isTrue a X.env (eval a X.env) else isTrue b X.env (eval b X.env)) _ _ _
  refine wpAny_bind (thn (hc.run pins s σ H _ I h) fun d s1 ⟨H1, I1, q1⟩ => ?_)
  cases d with
  | true => exact ha.run pins s1 σ H1 Q I1 q1
  | false => exact hb.run pins s1 σ H1 Q I1 q1
theorem se_ifx_t {X : Cx} {c a b : Expr} {pos : Pos} {mc ma mb : ME} (ht : PT X c (tMT X L C mc)) (ha : PT X a (tMT X L C ma)) (hb : PT X b (tMT X L C mb)) : PT X (.IfExp c a b pos) (tMT X L C (.ifx mc ma mb)) :=
  ptImp (pt_ifx ht ha hb) fun σ H Q ⟨ι, ρ, S, Q', E, hρ, R, w, tk, post⟩ => by
    simp only [wpE] at w
    refine ⟨ι, ρ, S, _, E, hρ, R, w, tk, fun ι1 H1 x v S1 g1 R1 r1 w1 => tru_mono w1 fun k hk => ?_⟩
    cases k with
    | true => exact ⟨ι1, ρ, S1, _, E, hρ.mono g1, R1, hk, WXe.grow g1 tk, fun ι2 H2 y u S2 g2 R2 r2 w2 => post ι2 H2 y u S2 (g1.trans g2) R2 r2 w2⟩
    | false => exact ⟨ι1, ρ, S1, _, E, hρ.mono g1, R1, hk, WXe.grow g1 tk, fun ι2 H2 y u S2 g2 R2 r2 w2 => post ι2 H2 y u S2 (g1.trans g2) R2 r2 w2⟩
/-- what a loop walks: the forms of iter -/
def itB (T : Tb) (N : List Str) (k : ItK) (its : List ME) (nm : Nm) (t it : Expr) : Bool := match itX T nm k t it with
  | some xs => chkEs T N its nm xs
  | none => false
theorem itB_spec {k : ItK} {its : List ME} {nm : Nm} {t it : Expr} (h : itB T N k its nm t it = true) :
    (k = .seq ∧ chkEs T N its nm [it] = true) ∨ (∃ g pg x p, k = .range ∧ it = .Call (.Name g pg) [x] [] p ∧ bltB T nm g "range" = true ∧ chkEs T N its nm [x] = true) ∨
    (∃ g pg x y p, k = .range2 ∧ it = .Call (.Name g pg) [x, y] [] p ∧ bltB T nm g "range" = true ∧ chkEs T N its nm [x, y] = true) ∨
    (∃ g pg x y p el kk tp, k = .zip ∧ t = .Tuple el kk tp ∧ it = .Call (.Name g pg) [x, y] [] p ∧ bltB T nm g "zip" = true ∧ chkEs T N its nm [x, y] = true) ∨
    (∃ g pg x p el kk tp, k = .enum ∧ t = .Tuple el kk tp ∧ it = .Call (.Name g pg) [x] [] p ∧ bltB T nm g "enumerate" = true ∧ chkEs T N its nm [x] = true) := by
  unfold itB at h
  unfold itX at h
  split at h
  · rename_i xs e
    split at e
    · cases e
      exact .inl ⟨rfl, h⟩
    · split at e
      · cases e
        exact .inr (.inl ⟨_, _, _, _, rfl, rfl, by assumption, h⟩)
      · cases e
    · split at e
      · cases e
        exact .inr (.inr (.inl ⟨_, _, _, _, _, rfl, rfl, by assumption, h⟩))
      · cases e
    · split at e
      · cases e
        exact .inr (.inr (.inr (.inl ⟨_, _, _, _, _, _, _, _, rfl, rfl, rfl, by assumption, h⟩)))
      · cases e
    · split at e
      · cases e
        exact .inr (.inr (.inr (.inr ⟨_, _, _, _, _, _, _, rfl, rfl, rfl, by assumption, h⟩)))
      · cases e
    · cases e
  · cases h
theorem few_of {nm : Nm} {ms : List ME} {xs : List Expr} {env : Env} {pos : Pos} (h : chkEs T N ms nm xs = true) (hl : xs.length < 20) : ((backTo pos (starEach xs env)).all (fun x => !x.1) && (backToKw pos (keywordEach [] env)).all (fun x => x.1.isSome)
      && decide (xs.length + ([] : List Keyword).length + (if ([] : List Keyword).isEmpty then 0 else 1) < 30)) = true := by
  have h1 := chkEs_star (env := env) (pos := pos) h
  have h2 : (backTo pos (starEach xs env)).all (fun x => !x.1) = true := by
    rw [List.all_eq_true]
    intro x hx
    rw [List.any_eq_false] at h1
    simpa using h1 x hx
  rw [h2]
  have h3 : decide (xs.length + ([] : List Keyword).length + (if ([] : List Keyword).isEmpty then 0 else 1) < 30) = true := by
    rw [decide_eq_true_eq]
    show xs.length + 0 + 0 < 30
    omega
  rw [h3]
  rfl
theorem base_of {x : Expr} {nm : Str} {env : Env} (h : baseB x = true) : attributeBase x nm env (eval x env) = eval x env := by
  cases x <;> first | rfl | (simp [baseB] at h)
mutual
theorem soundE : ∀ (m : ME) {X : Cx} {df : Bool} {nm : Nm} {e : Expr}, Good X L C T N df nm → chkE T N m nm e = true → ET L C X e m
  | .var i, X, df, nm, e, G, h => by
    cases e with
    | Name x p =>
      simp only [chkE, Bool.and_eq_true, decide_eq_true_eq] at h
      have hn := isNm_of h.2
      exact et_of G.K (se_var (pe_var (by rw [G.hN]; exact h.1.1) (G.vis h.1.2) hn.1 hn.2)) fun _ => rfl
    | _ => simp [chkE] at h
  | .lit v, X, df, nm, e, G, h => by
    cases e with
    | Constant c j p =>
      simp only [chkE] at h
      exact et_of G.K (lit_ok h) fun _ => rfl
    | _ => simp [chkE] at h
  | .glo i, X, df, nm, e, G, h => by
    cases e with
    | Name x p =>
      simp only [chkE, Bool.and_eq_true, decide_eq_true_eq] at h
      have hn := isNm_of h.2
      obtain ⟨u, w, h1, h2, h3⟩ := G.gl i x h.1.1
      exact et_of G.K (se_glo (pe_glob (G.gl' h.1.2) h1 h2 hn.1) h3) fun _ => rfl
    | _ => simp [chkE] at h
  | .neg a, X, df, nm, e, G, h => by
    cases e with
    | UnaryOp o x p =>
      cases o with
      | USub =>
        simp only [chkE] at h
        exact et_of G.K (se_neg (soundE a G h).1) fun _ => rfl
      | _ => simp [chkE] at h
    | _ => simp [chkE] at h
  | .not a, X, df, nm, e, G, h => by
    cases e with
    | UnaryOp o x p =>
      cases o with
      | Not =>
        simp only [chkE] at h
        exact ⟨se_not G.K (soundE a G h).1, se_not_t (soundE a G h).2⟩
      | _ => simp [chkE] at h
    | _ => simp [chkE] at h
  | .bool true es, X, df, nm, e, G, h => by
    cases e with
    | BoolOp o xs p =>
      cases o with
      | And =>
        simp only [chkE, Bool.and_eq_true] at h
        cases xs with
        | nil => simp at h
        | cons x xs => exact ⟨se_bool (soundA es G h.1).1, se_bool_t (soundA es G h.1).2⟩
      | _ => simp [chkE] at h
    | _ => simp [chkE] at h
  | .bool false es, X, df, nm, e, G, h => by
    cases e with
    | BoolOp o xs p =>
      cases o with
      | Or =>
        simp only [chkE, Bool.and_eq_true] at h
        cases xs with
        | nil => simp at h
        | cons x xs => exact ⟨se_bool (soundO es G h.1).1, se_bool_t (soundO es G h.1).2⟩
      | _ => simp [chkE] at h
    | _ => simp [chkE] at h
  | .bin op a b, X, df, nm, e, G, h => by
    cases e with
    | BinOp x o y p =>
      simp only [chkE, Bool.and_eq_true, decide_eq_true_eq] at h
      obtain ⟨⟨rfl, h1⟩, h2⟩ := h
      exact et_of G.K (se_bin G.K (soundE a G h1).1 (soundE b G h2).1) fun _ => rfl
    | _ => simp [chkE] at h
  | .cmp op a b, X, df, nm, e, G, h => by
    cases e with
    | Compare x os ys p =>
      rcases os with _ | ⟨o, _ | ⟨o2, os⟩⟩ <;> rcases ys with _ | ⟨y, _ | ⟨y2, ys⟩⟩ <;> try (simp [chkE] at h; done)
      simp only [chkE, Bool.and_eq_true, decide_eq_true_eq] at h
      obtain ⟨⟨rfl, h1⟩, h2⟩ := h
      have hm := mark_of (op := op.py) (chk_plain h2)
      exact ⟨se_cmp G.K G.A (soundE a G h1).1 (soundE b G h2).1 hm, se_cmp_t G.K G.A (soundE a G h1).1 (soundE b G h2).1 hm⟩
    | _ => simp [chkE] at h
  | .chain o1 o2 a b c, X, df, nm, e, G, h => by
    cases e with
    | Compare x os ys p =>
      rcases os with _ | ⟨o, _ | ⟨o2, _ | ⟨o3, os⟩⟩⟩ <;> rcases ys with _ | ⟨y, _ | ⟨y2, _ | ⟨y3, ys⟩⟩⟩ <;> try (simp [chkE] at h; done)
      simp only [chkE, Bool.and_eq_true, decide_eq_true_eq] at h
      obtain ⟨⟨⟨⟨rfl, rfl⟩, h1⟩, h2⟩, h3⟩ := h
      have hm : lastMarks [o1.py, o2.py] [y, y2] = false := by
        show behindInMarks o2.py y2 = false
        exact mark_of (chk_plain h3)
      exact ⟨se_chain G.K G.A (soundE a G h1).1 (soundE b G h2).1 (soundE c G h3).1 hm, se_chain_t G.K G.A (soundE a G h1).1 (soundE b G h2).1 (soundE c G h3).1 hm⟩
    | _ => simp [chkE] at h
  | .ifx t a b, X, df, nm, e, G, h => by
    cases e with
    | IfExp z x y p =>
      simp only [chkE, Bool.and_eq_true] at h
      have h1 := soundE t G h.1.1
      have h2 := soundE a G h.1.2
      have h3 := soundE b G h.2
      exact ⟨se_ifx h1.2 h2.1 h3.1, se_ifx_t h1.2 h2.2 h3.2⟩
    | _ => simp [chkE] at h
  | .tup es, X, df, nm, e, G, h => by
    cases e with
    | Tuple xs k p =>
      simp only [chkE, Bool.and_eq_true, decide_eq_true_eq] at h
      exact et_of G.K (se_tup (soundEs es G h.1) h.2) fun _ => rfl
    | _ => simp [chkE] at h
  | .lst es, X, df, nm, e, G, h => by
    cases e with
    | List xs p =>
      simp only [chkE, Bool.and_eq_true, decide_eq_true_eq] at h
      exact et_of G.K (se_lst (soundEs es G h.1) h.2) fun _ => rfl
    | _ => simp [chkE] at h
  | .ix a i, X, df, nm, e, G, h => by
    cases e with
    | Subscript x y p =>
      have h' : chkE T N a nm x = true ∧ chkE T N i nm y = true := by
        cases y <;> first | (simpa [chkE] using h; done) | simpa only [chkE, Bool.and_eq_true] using h
      exact et_of G.K (se_ix G.K (soundE a G h'.1).1 (soundE i G h'.2).1 (ix_of (chk_plain h'.2))) fun _ => rfl
    | _ => simp [chkE] at h
  | .sl a lo hi, X, df, nm, e, G, h => by
    cases e with
    | Subscript x y p =>
      cases y with
      | Slice l u st p2 =>
        cases st with
        | none =>
          simp only [chkE, Bool.and_eq_true] at h
          exact et_of G.K (se_sl G.K (soundE a G h.1.1).1 (soundP lo G h.1.2) (soundP hi G h.2)) fun _ => rfl
        | some _ => simp [chkE] at h
      | _ => simp [chkE] at h
    | _ => simp [chkE] at h
  | .ist a t, X, df, nm, e, G, h => by
    cases e with
    | Call f xs kw p =>
      cases f with
      | Name f pf =>
        rcases kw with _ | ⟨_, _⟩
        · rcases xs with _ | ⟨x, _ | ⟨y, _ | ⟨z, xs⟩⟩⟩ <;> try (simp [chkE] at h; done)
          cases y with
          | Name y py =>
            simp only [chkE, Bool.and_eq_true] at h
            obtain ⟨⟨h1, h2⟩, h3⟩ := h
            have b1 := G.blt h1
            have b2 := G.blt h2
            exact et_of G.K (se_ist G.K b1.1 b1.2.1 b1.2.2 b2.1 b2.2.1 b2.2.2 (soundE a G h3).1 (star_of (chk_plain h3)) rfl) fun _ => rfl
          | _ => simp [chkE] at h
        · simp [chkE] at h
      | _ => simp [chkE] at h
    | _ => simp [chkE] at h
  | .tyc k a t, X, df, nm, e, G, h => by
    cases e with
    | Compare x os ys p =>
      cases x with
      | Call f xs kw p1 =>
        cases f with
        | Name f pf =>
          rcases kw with _ | ⟨_, _⟩
          · rcases xs with _ | ⟨x, _ | ⟨z, xs⟩⟩ <;> try (simp [chkE] at h; done)
            rcases os with _ | ⟨o, _ | ⟨o2, os⟩⟩ <;> rcases ys with _ | ⟨y, _ | ⟨y2, ys⟩⟩ <;> try (simp [chkE] at h; done)
            cases y with
            | Name y py =>
              simp only [chkE, Bool.and_eq_true, decide_eq_true_eq] at h
              obtain ⟨⟨⟨h1, h2⟩, rfl⟩, h3⟩ := h
              have b1 := G.blt h1
              have b2 := G.blt h2
              exact ⟨se_tyc G.K b1.1 b1.2.1 b1.2.2 b2.1 b2.2.1 b2.2.2 (soundE a G h3).1 (star_of (chk_plain h3)) rfl, se_tyc_t G.K b1.1 b1.2.1 b1.2.2 b2.1 b2.2.1 b2.2.2 (soundE a G h3).1 (star_of (chk_plain h3)) rfl⟩
            | _ => simp [chkE] at h
          · simp [chkE] at h
        | _ => simp [chkE] at h
      | _ => simp [chkE] at h
    | _ => simp [chkE] at h
  | .bi f es, X, df, nm, e, G, h => by
    cases e with
    | Call g xs kw p =>
      cases g with
      | Name g pg =>
        rcases kw with _ | ⟨_, _⟩
        · rcases xs with _ | ⟨x, xs⟩
          · simp [chkE] at h
          · have h' : (bltB T nm g f.nm = true ∧ chkEs T N es nm (x :: xs) = true) := by
              rcases xs with _ | ⟨y, _ | ⟨z, xs⟩⟩ <;> simp only [chkE, Bool.and_eq_true] at h <;> exact h.1
            have b1 := G.blt h'.1
            have hs := h'.2
            rcases es with _ | ⟨m, ms⟩
            · simp [chkEs] at hs
            · have hs' := hs
              simp only [chkEs, Bool.and_eq_true] at hs'
              exact et_of G.K (se_bi G.K G.calm b1.1 b1.2.1 b1.2.2 (soundEs (m :: ms) G hs) (star_of (chk_plain hs'.1)) (chkEs_star hs'.2)) fun _ => rfl
        · simp [chkE] at h
      | _ => simp [chkE] at h
    | _ => simp [chkE] at h
  | .mt m o es, X, df, nm, e, G, h => by
    cases e with
    | Call g xs kw p =>
      cases g with
      | Attribute x a ap =>
        rcases kw with _ | ⟨_, _⟩
        · have h' : ((((((a = m.nm ∧ baseB x = true) ∧ (ap.endLine == p.line) = true) ∧ xs.length < 20) ∧ (m.isL || decide (xs.length = 1)) = true) ∧ chkE T N o nm x = true) ∧ chkEs T N es nm xs = true) := by
            rcases xs with _ | ⟨x, _ | ⟨y, _ | ⟨z, xs⟩⟩⟩ <;> simpa only [chkE, Bool.and_eq_true, decide_eq_true_eq] using h
          obtain ⟨⟨⟨⟨⟨⟨rfl, hb⟩, hl⟩, hn⟩, hi⟩, ho⟩, hs⟩ := h'
          have hO := (soundE o G ho).1
          cases hm : m.isL with
          | true =>
            rcases es with _ | ⟨m1, ms⟩
            · rcases xs with _ | ⟨y, xs⟩
              · exact et_of G.K (se_mt0 G.K hm hO (base_of hb) hl) fun _ => rfl
              · simp [chkEs] at hs
            · rcases xs with _ | ⟨y, xs⟩
              · simp [chkEs] at hs
              · have hs' := hs
                rw [chkEs, Bool.and_eq_true] at hs'
                exact et_of G.K (se_mt G.K hm hO (soundEs (m1 :: ms) G hs) (base_of hb) (few_of hs hn) hl (star_of (chk_plain hs'.1)) (chkEs_star hs'.2)) fun _ => rfl
          | false =>
            cases m with
            | get1 =>
              rcases xs with _ | ⟨y, _ | ⟨z, xs⟩⟩
              · simp [Mt.isL] at hi
              · rcases es with _ | ⟨m1, ms⟩
                · simp [chkEs] at hs
                · have hs' := hs
                  rw [chkEs, Bool.and_eq_true] at hs'
                  exact et_of G.K (se_get1 G.K G.cs hO (soundEs (m1 :: ms) G hs) (base_of hb) (few_of hs hn) hl (star_of (chk_plain hs'.1))) fun _ => rfl
              · simp [Mt.isL] at hi
            | _ => cases hm
        · rcases xs with _ | ⟨x, _ | ⟨y, _ | ⟨z, xs⟩⟩⟩ <;> simp [chkE] at h
      | _ => rcases xs with _ | ⟨x, _ | ⟨y, _ | ⟨z, xs⟩⟩⟩ <;> rcases kw with _ | ⟨_, _⟩ <;> simp [chkE] at h
    | _ => simp [chkE] at h
  | .call i es, X, df, nm, e, G, h => by
    cases e with
    | Call g xs kw p =>
      cases g with
      | Name g pg =>
        rcases kw with _ | ⟨_, _⟩
        · have h' : ((T.fn[i]? = some g ∧ glB nm g = true) ∧ isNm g = true) ∧ chkEs T N es nm xs = true := by
            rcases xs with _ | ⟨x, _ | ⟨y, _ | ⟨z, xs⟩⟩⟩ <;> simpa only [chkE, Bool.and_eq_true, decide_eq_true_eq] using h
          have F := G.fn i g h'.1.1.1
          have hg := G.gl' h'.1.1.2
          have hn := isNm_of h'.1.2
          have hs := h'.2
          rcases es with _ | ⟨m, ms⟩
          · rcases xs with _ | ⟨x, xs⟩
            · exact et_of G.K (se_call0 F hg hn.1) fun _ => rfl
            · simp [chkEs] at hs
          · rcases xs with _ | ⟨x, xs⟩
            · simp [chkEs] at hs
            · have hs' := hs
              simp only [chkEs, Bool.and_eq_true] at hs'
              exact et_of G.K (se_call F hg hn.1 (soundEs (m :: ms) G hs) (star_of (chk_plain hs'.1)) (chkEs_star hs'.2)) fun _ => rfl
        · simp [chkE] at h
      | _ => simp [chkE] at h
    | _ => simp [chkE] at h
  | .lc k its own tg ifs elt, X, df, nm, e, G, h => by
    cases e with
    | ListComp x gs scope p =>
      rcases gs with _ | ⟨⟨t, it, cs, z⟩, _ | ⟨g2, gs⟩⟩ <;> try (simp [chkE] at h; done)
      simp only [chkE, Bool.and_eq_true, decide_eq_true_eq] at h
      obtain ⟨⟨⟨⟨⟨⟨⟨rfl, h1⟩, h2⟩, h3⟩, h4⟩, h5⟩, h6⟩, h7⟩ := h
      have hk := kind_of h2
      have ob := blk_ok (sc := X.env.scope) G.nm h3
      have own' : (ownOf N own).map (·.2) = own := ownOf_map N own
      have hin : PI X t it (tI X L C k its) ∧ plainB it = true := soundI its (t := t) G h1
      have hown : ∀ i ∈ tg.slots, i ∈ (ownOf N own).map (·.2) := fun i hi => by
        rw [own']
        have := List.all_eq_true.mp h4 i hi
        simpa using this
      have main := se_lc (X := X) (L := L) (C := C) (pos := p) (melt := elt) (ifs' := ifs) (elt := x) (ifs := cs) (scope := scope) G.calm (by rw [G.hN]; exact G.nd) (gOf_ok (K := L.K) tg) hown hin.1 (by rw [G.hN]; exact ob)
        (fun s H Cc cl fp => tg_ok (G.blk hk s H Cc cl fp) h5)
        (fun s H Cc cl fp => by
          rcases cs with _ | ⟨c, _ | ⟨c2, cs⟩⟩
          · have e0 : ifs = [] := by simpa using h6
            rw [e0]
            exact sts_nil
          · rcases ifs with _ | ⟨i, _ | ⟨i2, ifs⟩⟩
            · simp [chkEs] at h6
            · simp only [chkEs, Bool.and_eq_true] at h6
              exact sts_one (soundE i (G.blk hk s H Cc cl fp) h6.1).2
            · simp [chkEs] at h6
          · simp at h6)
        (fun s H Cc cl fp => (soundE elt (G.blk hk s H Cc cl fp) h7).1) (fold_of hin.2)
      rw [own'] at main
      exact et_of G.K main fun _ => rfl
    | _ => simp [chkE] at h
theorem soundI : ∀ (its : List ME) {X : Cx} {df : Bool} {nm : Nm} {k : ItK} {t it : Expr}, Good X L C T N df nm → itB T N k its nm t it = true → PI X t it (tI X L C k its) ∧ plainB it = true
  | [], X, df, nm, k, t, it, G, h => by
    exfalso
    replace h := itB_spec h
    rcases h with ⟨_, h⟩ | ⟨_, _, _, _, _, _, _, h⟩ | ⟨_, _, _, _, _, _, _, _, h⟩ | ⟨_, _, _, _, _, _, _, _, _, _, _, _, h⟩ | ⟨_, _, _, _, _, _, _, _, _, _, _, h⟩ <;> simp [chkEs] at h
  | [m], X, df, nm, k, t, it, G, h => by
    replace h := itB_spec h
    rcases h with ⟨rfl, h⟩ | ⟨_, _, _, _, rfl, rfl, hb, h⟩ | ⟨_, _, _, _, _, _, _, _, h⟩ | ⟨_, _, _, _, _, _, _, _, _, _, _, _, h⟩ | ⟨_, _, _, _, _, _, _, rfl, rfl, rfl, hb, h⟩
    · simp only [chkEs, Bool.and_eq_true] at h
      exact ⟨si_seq G.K (soundE m G h.1).1, chk_plain h.1⟩
    · simp only [chkEs, Bool.and_eq_true] at h
      have b := G.blt hb
      exact ⟨si_range b.1 b.2.1 b.2.2 (soundE m G h.1).1 (star_of (chk_plain h.1)), rfl⟩
    · simp [chkEs] at h
    · simp [chkEs] at h
    · simp only [chkEs, Bool.and_eq_true] at h
      have b := G.blt hb
      exact ⟨si_enum G.K b.1 b.2.1 b.2.2 (soundE m G h.1).1 (star_of (chk_plain h.1)), rfl⟩
  | [m, n], X, df, nm, k, t, it, G, h => by
    replace h := itB_spec h
    rcases h with ⟨_, h⟩ | ⟨_, _, _, _, _, _, _, h⟩ | ⟨_, _, _, _, _, rfl, rfl, hb, h⟩ | ⟨_, _, _, _, pp, _, _, _, rfl, rfl, rfl, hb, h⟩ | ⟨_, _, _, _, _, _, _, _, _, _, _, h⟩
    · simp [chkEs] at h
    · simp [chkEs] at h
    · simp only [chkEs, Bool.and_eq_true] at h
      have b := G.blt hb
      have s2 := star_of (env := X.env) (es := []) (chk_plain h.2.1)
      exact ⟨si_range2 b.1 b.2.1 b.2.2 (soundE m G h.1).1 (soundE n G h.2.1).1 (by rw [star_of (chk_plain h.1), s2]; rfl) s2, rfl⟩
    · have h' := h
      simp only [chkEs, Bool.and_eq_true] at h
      have b := G.blt hb
      have s2 := star_of (env := X.env) (es := []) (chk_plain h.2.1)
      rw [chkEs, Bool.and_eq_true] at h'
      exact ⟨si_zip G.K b.1 b.2.1 b.2.2 (soundE m G h.1).1 (soundE n G h.2.1).1 (star_of (chk_plain h.1)) s2 (chkEs_star h'.2), rfl⟩
    · simp [chkEs] at h
  | _ :: _ :: _ :: _, X, df, nm, k, t, it, G, h => by
    exfalso
    replace h := itB_spec h
    rcases h with ⟨_, h⟩ | ⟨_, _, _, _, _, _, _, h⟩ | ⟨_, _, _, _, _, _, _, _, h⟩ | ⟨_, _, _, _, _, _, _, _, _, _, _, _, h⟩ | ⟨_, _, _, _, _, _, _, _, _, _, _, h⟩ <;> simp [chkEs] at h
theorem soundEs : ∀ (ms : List ME) {X : Cx} {df : Bool} {nm : Nm} {es : List Expr}, Good X L C T N df nm → chkEs T N ms nm es = true → PA X es (tMs X L C ms)
  | [], X, df, nm, [], G, h => sa_nil
  | [], X, df, nm, _ :: _, G, h => by simp [chkEs] at h
  | m :: ms, X, df, nm, [], G, h => by simp [chkEs] at h
  | m :: ms, X, df, nm, e :: es, G, h => by
    simp only [chkEs, Bool.and_eq_true] at h
    exact sa_cons (soundE m G h.1).1 (soundEs ms G h.2) (star_of (chk_plain h.1))
theorem soundP : ∀ (ms : List ME) {X : Cx} {df : Bool} {nm : Nm} {o : Option Expr}, Good X L C T N df nm → chkO T N ms nm o = true → PO X o (tMO X L C ms)
  | [], X, df, nm, none, G, h => so_none
  | [], X, df, nm, some _, G, h => by simp [chkO] at h
  | [m], X, df, nm, some e, G, h => by
    simp only [chkO] at h
    exact so_some (soundE m G h).1
  | [m], X, df, nm, none, G, h => by simp [chkO] at h
  | _ :: _ :: _, X, df, nm, o, G, h => by cases o <;> simp [chkO] at h
theorem soundA : ∀ (ms : List ME) {X : Cx} {df : Bool} {nm : Nm} {x : Expr} {es : List Expr} {pos : Pos}, Good X L C T N df nm → chkEs T N ms nm (x :: es) = true → PE X (.BoolOp .And (x :: es) pos) (tMB X L C true ms) ∧ PW X (.BoolOp .And (x :: es) pos) (tMTB X L C true ms)
  | [], X, df, nm, x, es, pos, G, h => by simp [chkEs] at h
  | [m], X, df, nm, x, [], pos, G, h => by
    simp only [chkEs, Bool.and_eq_true] at h
    exact ⟨bool_one (soundE m G h.1).1, boolt_and1 (soundE m G h.1).2⟩
  | [m], X, df, nm, x, y :: es, pos, G, h => by simp [chkEs] at h
  | m :: m2 :: ms, X, df, nm, x, [], pos, G, h => by simp [chkEs] at h
  | m :: m2 :: ms, X, df, nm, x, y :: es, pos, G, h => by
    rw [chkEs, Bool.and_eq_true] at h
    have ih := soundA (m2 :: ms) (pos := pos) G h.2
    exact ⟨bool_and G.K (soundE m G h.1).1 ih.1, boolt_and (soundE m G h.1).2 ih.2⟩
theorem soundO : ∀ (ms : List ME) {X : Cx} {df : Bool} {nm : Nm} {x : Expr} {es : List Expr} {pos : Pos}, Good X L C T N df nm → chkEs T N ms nm (x :: es) = true → PE X (.BoolOp .Or (x :: es) pos) (tMB X L C false ms) ∧ PW X (.BoolOp .Or (x :: es) pos) (tMTB X L C false ms)
  | [], X, df, nm, x, es, pos, G, h => by simp [chkEs] at h
  | [m], X, df, nm, x, [], pos, G, h => by
    simp only [chkEs, Bool.and_eq_true] at h
    exact ⟨bool_one (soundE m G h.1).1, boolt_or1 (soundE m G h.1).2⟩
  | [m], X, df, nm, x, y :: es, pos, G, h => by simp [chkEs] at h
  | m :: m2 :: ms, X, df, nm, x, [], pos, G, h => by simp [chkEs] at h
  | m :: m2 :: ms, X, df, nm, x, y :: es, pos, G, h => by
    rw [chkEs, Bool.and_eq_true] at h
    have ih := soundO (m2 :: ms) (pos := pos) G h.2
    exact ⟨bool_or G.K (soundE m G h.1).1 ih.1, boolt_or (soundE m G h.1).2 ih.2⟩
end
end
end PM

namespace PM
open PySem PySem.Spec PyProof.Rows L2

def noLc : Expr → Bool
  | .ListComp .. => false
  | _ => true
def isTup : Expr → Bool
  | .Tuple .. => true
  | _ => false
/-- name = [..]: whether the name is let go ahead of the store -/
def lcSwap (nm : Nm) (y : Str) (py : Pos) (scope : Scope) (p : Pos) : Bool :=
  (match nm.lookup y with | some .local => true | _ => false) && decide (py.line = p.line) && !(scope.names.any fun (n, k) => n == y && (k == .local || k == .cell))
def lcStay (nm : Nm) (y : Str) : Bool := match nm.lookup y with
  | some .cell => true | _ => false
def asgB (nm : Nm) (t x : Expr) : Bool := match x, t with
  | .ListComp _ [⟨_, _, _, _⟩] scope p, .Name y py => lcSwap nm y py scope p || lcStay nm y
  | .ListComp .., _ => false
  | x, .Tuple .. => !isTup x
  | _, .Name .. => true
  | _, _ => false
mutual
def chkS (T : Tb) (N : List Str) (df : Bool) (nm : Nm) : MS → Stmt → Bool
  | .asg tg m, .Assign [t] x _ => tgB N df nm tg t && chkE T N m nm x && asgB nm t x
  | .sub o i m, .Assign [.Subscript x y _] z _ => chkE T N o nm x && chkE T N i nm y && chkE T N m nm z
  | .ex m, .Expr x _ => chkE T N m nm x && noLc x
  | .ret m, .Return (some x) _ => chkE T N m nm x
  | .retN, .Return none _ => true
  | .ite c a b, .If t x y _ => chkE T N c nm t && chkSs T N df nm a x && chkSs T N df nm b y
  | .whl c b, .While t x [] _ => chkE T N c nm t && chkSs T N df nm b x
  | .fr tg k its b, .For t it x [] _ => tgB N df nm tg t && itB T N k its nm t it && chkSs T N df nm b x
  | .brk, .Break _ => true
  | .cnt, .Continue _ => true
  | .pass, .Pass _ => true
  | _, _ => false
def chkSs (T : Tb) (N : List Str) (df : Bool) (nm : Nm) : List MS → List Stmt → Bool
  | [], [] => true
  | m :: ms, s :: ss => chkS T N df nm m s && chkSs T N df nm ms ss
  | _, _ => false
end
section
variable {L : Lk} {C : Cenv} {T : Tb} {N : List Str}
theorem swap_no {X : Cx} {x : Expr} {t : Option Expr} {n : Nat} (hp : plainB x = true) (h : noLc x = true) : swapsWith x t n X.env = pure false := by
  cases x <;> first | rfl | (simp [plainB] at hp; done) | (simp [noLc] at h; done)
theorem swap_yes {X : Cx} {df : Bool} {nm : Nm} (G : Good X L C T N df nm) {elt : Expr} {gs : List Comprehension} {scope : Scope} {p py : Pos} {y : Str} {n : Nat} (h : lcSwap nm y py scope p = true) : swapsWith (.ListComp elt gs scope p) (some (.Name y py)) n X.env = pure true := by
  unfold lcSwap at h
  simp only [Bool.and_eq_true, decide_eq_true_eq] at h
  obtain ⟨⟨h1, h2⟩, h3⟩ := h
  have hk : X.env.kindOf y = some .local := by
    show X.env.scope.names.lookup y = _
    rw [G.nm]
    split at h1
    · assumption
    · cases h1
  have hb : X.env.blockKind = .function := by
    unfold Env.blockKind
    rw [G.kd]
    rfl
  show (pure (X.env.blockKind == .function && X.env.kindOf y == some .local && py.line == (Expr.ListComp elt gs scope p).pos.line && !(scope.names.any fun (n, k) => n == y && (k == .local || k == .cell))) : Sem Bool) = pure true
  rw [hb, hk, h3, show (Expr.ListComp elt gs scope p).pos = p from rfl, h2]
  simp
theorem swap_stay {X : Cx} {df : Bool} {nm : Nm} (G : Good X L C T N df nm) {elt : Expr} {gs : List Comprehension} {scope : Scope} {p py : Pos} {y : Str} {n : Nat} (h : lcStay nm y = true) : swapsWith (.ListComp elt gs scope p) (some (.Name y py)) n X.env = pure false := by
  unfold lcStay at h
  have hk : X.env.kindOf y = some .cell := by
    show X.env.scope.names.lookup y = _
    rw [G.nm]
    split at h
    · assumption
    · cases h
  show (pure (X.env.blockKind == .function && X.env.kindOf y == some .local && py.line == (Expr.ListComp elt gs scope p).pos.line && !(scope.names.any fun (n, k) => n == y && (k == .local || k == .cell))) : Sem Bool) = pure false
  rw [hk, show ((some NameKind.cell == some NameKind.local) = false) from rfl]
  simp
theorem asg_sound {X : Cx} {df : Bool} {nm : Nm} {t x : Expr} {tg : Tg} {m : ME} {pos : Pos} (G : Good X L C T N df nm) (h1 : tgB N df nm tg t = true) (h2 : chkE T N m nm x = true) (h3 : asgB nm t x = true) : PS X (.Assign [t] x pos) (tMS X L C (.asg tg m)) := by
  have hpg := tg_ok (L := L) G h1
  have he := (soundE (L := L) (C := C) m G h2).1
  have hpl := chk_plain h2
  have h1' : (assignEach [t] X.env).map (·.2) = [assign t X.env] := by
    cases t <;> first | rfl | (cases tg <;> simp [tgB] at h1; done)
  by_cases hl : noLc x = true
  · refine s_asg (gOf_ok tg) he hpg (swap_no hpl hl) ?_ h1'
    cases t with
    | Tuple es k p =>
      have : isTup x = false := by
        cases x <;> first | (simpa [asgB] using h3) | (simp [noLc] at hl; done)
      cases x <;> first | rfl | (simp [isTup] at this; done)
    | Name y p => rfl
    | _ => cases tg <;> simp [tgB] at h1
  · cases x with
    | ListComp elt gs scope p =>
      rcases gs with _ | ⟨⟨t2, it, cs, z⟩, _ | ⟨g2, gs⟩⟩ <;> try (simp [asgB] at h3; done)
      cases t with
      | Name y py =>
        simp only [asgB, Bool.or_eq_true] at h3
        rcases h3 with h3 | h3
        · -- the name is let go ahead of the store
          cases tg with
          | tp is => simp [tgB] at h1
          | nm j =>
            simp only [tgB, Bool.and_eq_true, decide_eq_true_eq] at h1
            cases m with
            | lc k its own tg ifs elt' =>
              simp only [chkE, Bool.and_eq_true, decide_eq_true_eq] at h2
              obtain ⟨⟨⟨⟨⟨⟨⟨rfl, a1⟩, a2⟩, a3⟩, a4⟩, a5⟩, a6⟩, a7⟩ := h2
              have hk := kind_of a2
              have ob := blk_ok (sc := X.env.scope) G.nm a3
              have own' : (ownOf N own).map (·.2) = own := ownOf_map N own
              have hin : PI X t2 it (tI X L C k its) ∧ plainB it = true := soundI its (t := t2) G a1
              have hown : ∀ i ∈ tg.slots, i ∈ (ownOf N own).map (·.2) := fun i hi => by
                rw [own']
                have := List.all_eq_true.mp a4 i hi
                simpa using this
              have hyl : X.env.scope.names.lookup y = some .local := by
                rw [G.nm]
                unfold lcSwap at h3
                simp only [Bool.and_eq_true] at h3
                have h4 := h3.1.1
                split at h4
                · assumption
                · cases h4
              have main := s_asgLc (X := X) (L := L) (C := C) (pos := p) (spos := pos) (py := py) (melt := elt') (ifs' := ifs) (elt := elt) (ifs := cs) (scope := scope) (j := j) G.calm (by rw [G.hN]; exact G.nd) (by rw [G.hN]; exact h1.1) hyl (swap_yes G h3) (gOf_ok (K := L.K) tg) hown hin.1 (by rw [G.hN]; exact ob)
                (fun s H Cc cl fp => tg_ok (G.blk hk s H Cc cl fp) a5)
                (fun s H Cc cl fp => by
                  rcases cs with _ | ⟨c, _ | ⟨c2, cs⟩⟩
                  · have e0 : ifs = [] := by simpa using a6
                    rw [e0]
                    exact sts_nil
                  · rcases ifs with _ | ⟨i, _ | ⟨i2, ifs⟩⟩
                    · simp [chkEs] at a6
                    · simp only [chkEs, Bool.and_eq_true] at a6
                      exact sts_one (soundE i (G.blk hk s H Cc cl fp) a6.1).2
                    · simp [chkEs] at a6
                  · simp at a6)
                (fun s H Cc cl fp => (soundE elt' (G.blk hk s H Cc cl fp) a7).1) (fold_of hin.2)
              rw [own'] at main
              exact main
            | bool k es => cases k <;> simp [chkE] at h2
            | _ => simp [chkE] at h2
        · exact s_asg (gOf_ok tg) he hpg (swap_stay (n := pos.line) G h3) rfl h1'
      | _ => simp [asgB] at h3
    | _ => simp [noLc] at hl
mutual
theorem soundS : ∀ (m : MS) {X : Cx} {df : Bool} {nm : Nm} {st : Stmt}, Good X L C T N df nm → chkS T N df nm m st = true → PS X st (tMS X L C m)
  | .asg tg m, X, df, nm, st, G, h => by
    cases st with
    | Assign ts x p =>
      rcases ts with _ | ⟨t, _ | ⟨t2, ts⟩⟩ <;> try (simp [chkS] at h; done)
      simp only [chkS, Bool.and_eq_true] at h
      exact asg_sound G h.1.1 h.1.2 h.2
    | _ => simp [chkS] at h
  | .sub o i m, X, df, nm, st, G, h => by
    cases st with
    | Assign ts z p =>
      rcases ts with _ | ⟨t, _ | ⟨t2, ts⟩⟩
      · exact absurd (show false = true from h) (by decide)
      rotate_left
      · cases t <;> exact absurd (show false = true from h) (by decide)
      cases t with
      | Subscript x y ps =>
        simp only [chkS, Bool.and_eq_true] at h
        obtain ⟨⟨h1, h2⟩, h3⟩ := h
        have hy := chk_plain h2
        have hz := chk_plain h3
        refine s_sub (soundE m G h3).1 (soundE o G h1).1 (soundE i G h2).1 ?_ rfl (fun v => ?_)
        · cases z <;> first | rfl | (simp [plainB] at hz; done)
        · cases y <;> first | rfl | (simp [plainB] at hy; done)
      | _ => simp [chkS] at h
    | _ => simp [chkS] at h
  | .ex m, X, df, nm, st, G, h => by
    cases st with
    | Expr x p =>
      simp only [chkS, Bool.and_eq_true] at h
      exact s_ex (soundE m G h.1).1 (swap_no (chk_plain h.1) h.2)
    | _ => simp [chkS] at h
  | .ret m, X, df, nm, st, G, h => by
    cases st with
    | Return o p =>
      cases o with
      | some x =>
        simp only [chkS] at h
        exact s_ret (soundE m G h).1
      | none => simp [chkS] at h
    | _ => simp [chkS] at h
  | .retN, X, df, nm, st, G, h => by
    cases st with
    | Return o p =>
      cases o with
      | some x => simp [chkS] at h
      | none => exact s_retN
    | _ => simp [chkS] at h
  | .ite c a b, X, df, nm, st, G, h => by
    cases st with
    | If t x y p =>
      simp only [chkS, Bool.and_eq_true] at h
      exact s_ite (soundE c G h.1.1).2 (soundSs a G h.1.2) (soundSs b G h.2)
    | _ => simp [chkS] at h
  | .whl c b, X, df, nm, st, G, h => by
    cases st with
    | While t x y p =>
      rcases y with _ | ⟨_, _⟩
      · simp only [chkS, Bool.and_eq_true] at h
        exact s_whl G.pass (soundE c G h.1).2 (soundSs b G h.2)
      · simp [chkS] at h
    | _ => simp [chkS] at h
  | .fr tg k its b, X, df, nm, st, G, h => by
    cases st with
    | For t it x y p =>
      rcases y with _ | ⟨_, _⟩
      · simp only [chkS, Bool.and_eq_true] at h
        have hi := soundI (L := L) (C := C) its (t := t) G h.1.2
        exact s_for G.pass G.calm (gOf_ok tg) hi.1 (tg_ok G h.1.1) (soundSs b G h.2) (fold_of hi.2)
      · simp [chkS] at h
    | _ => simp [chkS] at h
  | .brk, X, df, nm, st, G, h => by
    cases st with
    | Break p => exact s_brk
    | _ => simp [chkS] at h
  | .cnt, X, df, nm, st, G, h => by
    cases st with
    | Continue p => exact s_cnt
    | _ => simp [chkS] at h
  | .pass, X, df, nm, st, G, h => by
    cases st with
    | Pass p => exact s_pass
    | _ => simp [chkS] at h
theorem soundSs : ∀ (ms : List MS) {X : Cx} {df : Bool} {nm : Nm} {ss : List Stmt}, Good X L C T N df nm → chkSs T N df nm ms ss = true → PSs X ss (tMSs X L C ms)
  | [], X, df, nm, [], G, h => ss_nil
  | [], X, df, nm, _ :: _, G, h => by simp [chkSs] at h
  | _ :: _, X, df, nm, [], G, h => by simp [chkSs] at h
  | m :: ms, X, df, nm, s :: ss, G, h => by
    simp only [chkSs, Bool.and_eq_true] at h
    exact ss_cons (soundS m G h.1) (soundSs ms G h.2)
end
end
end PM

namespace PM
open PySem PySem.Spec PyProof.Rows L2

/-! ### defs -/
structure MD where
  np : Nat
  ns : Nat
  body : List MS
def endsOf (Q : VQ) (E : XQ) : ED := ⟨fun _ S => Q .non S, Q, fun _ _ => False, fun _ _ => False, fun c _ S => E c S⟩
def startL (d : MD) (xs : List Val) : LE := xs.map some ++ List.replicate (d.ns - xs.length) none
/-- a call of the i-th def, at most n calls deep -/
def callN (ds : List MD) (gs : GE) : Nat → Nat → List Val → Sto → VQ → XQ → Prop
  | 0, _, _, _, _, _ => False
  | n + 1, i, xs, S, Q, E => match ds[i]? with
    | none => False
    | some d => xs.length = d.np ∧ wpSs ⟨callN ds gs n, gs.glo, gs.cst⟩ d.body (endsOf Q E) (startL d xs) S
abbrev cenv (ds : List MD) (gs : GE) (n : Nat) : Cenv := ⟨callN ds gs n, gs.glo, gs.cst⟩
/-- the i-th def stands in the written part, and its tree is checked -/
structure DefOk (K : PySem.W.Frag) (mg : Str → Option Value) (T : Tb) (i : Nat) (d : MD) : Prop where
  ex : ∃ (x : Str) (st : Stmt) (f : Addr) (fd : FuncData) (N ps : List Str), T.fn[i]? = some x ∧ mg x = some (.ref f) ∧ Fun K x x st f fd ∧ FnScope N ps (defScope st) ∧ N.length = d.ns ∧ ps.length = d.np ∧
    chkSs T N true (defScope st).names d.body (defBody st) = true ∧ Binds K fd ps []
theorem startRel {K : PySem.W.Frag} {ι : List Addr} {H : Hp} {d : MD} {N : List Str} {xs : List Val} {vs : List V} (r : Rvs K ι H xs vs) (hN : N.length = d.ns) : RelE K ι H (startL d xs) (L2.start N vs) := by
  have hl := r.len
  unfold startL L2.start
  rw [← hN, hl]
  refine ⟨by simp [hl], fun i x e => ?_⟩
  by_cases h : i < xs.length
  · rw [List.getElem?_append_left (by simpa using h), List.getElem?_map] at e
    rw [List.getElem?_append_left (by rw [List.length_map, ← hl]; exact h), List.getElem?_map]
    cases hx : xs[i]? with
    | none => rw [hx] at e; cases e
    | some y =>
      rw [hx] at e
      cases e
      obtain ⟨v, h1, h2⟩ := r.get hx
      exact ⟨v, by rw [h1]; rfl, h2⟩
  · rw [List.getElem?_append_right (by simpa using h), List.getElem?_replicate] at e
    split at e <;> cases e
section
variable {P : Program} {w : World} {K : PySem.W.Frag} {mg : Str → Option Value} {base : Heap} {L : Lk} {T : Tb} {ds : List MD} {gs : GE}
/-- what callers know of the i-th def -/
def Knows (P : Program) (w : World) (K : PySem.W.Frag) (mg : Str → Option Value) (base : Heap) (L : Lk) (T : Tb) (ds : List MD) (gs : GE) (n i : Nat) : Prop :=
  ∃ (x : Str) (f : Addr) (fd : FuncData) (ps : List Str), T.fn[i]? = some x ∧ mg x = some (.ref f) ∧ PySem.W.keepIn K (.ref f) = true ∧ FnOk P w K mg base (L2.CX P w) (2 * n) f fd ps (spC L (cenv ds gs n) i) ∧ Binds K fd ps []
theorem step (hcs : ∀ n x kvs, gs.cst n = some (x, kvs) → CDk K w.params x kvs) {n i : Nat} {d : MD} {x : Str} {st : Stmt} {f : Addr} {fd : FuncData} {N ps : List Str} (hK : K = L.K) (hl : T.fn.length = ds.length) (hb : ∀ x, T.bi.contains x = true → mg x = none)
    (hg : ∀ i x, T.gl[i]? = some x → ∃ u v, mg x = some u ∧ RelV v u ∧ ∀ ι H, Rv L.K ι H (gs.glo i) v) (ih : ∀ i d, ds[i]? = some d → Knows P w K mg base L T ds gs n i)
    (h : ds[i]? = some d) (F : Fun K x x st f fd) (S : FnScope N ps (defScope st)) (h3 : N.length = d.ns) (h4 : ps.length = d.np) (h5 : chkSs T N true (defScope st).names d.body (defBody st) = true) :
    FnOk P w K mg base (L2.CX P w) (2 * (n + 1)) f fd ps (spC L (cenv ds gs (n + 1)) i) := by
  have un : ∀ {xs : List Val} {St : Sto} {Q : VQ} {E : XQ}, callN ds gs (n + 1) i xs St Q E → xs.length = d.np ∧ wpSs (cenv ds gs n) d.body (endsOf Q E) (startL d xs) St := fun {xs St Q E} z => by
    rw [callN, h] at z
    exact z
  refine FnOk.mono (j := (2 * n + 1) + 1) (F.okX S (fun vs H Q E z => ?_) (fun cdv A outer s H vs Q E hr z => ?_)) (by omega)
  · obtain ⟨ι, xs, St, Q', E', R, r, w1, _⟩ := z
    rw [← r.len, (un w1).1, h4]
  · obtain ⟨ι, xs, St, Q', E', R, r, w1, post, hE⟩ := z
    refine ⟨tMSs (cxOf (L2.CX P w) P w K mg base N x (defScope st) f cdv A outer s H E) L (cenv ds gs n) d.body, soundSs (T := T) (N := N) (df := true) (nm := (defScope st).names) d.body ?_ h5, ?_⟩
    · refine ⟨rfl, S.nd, rfl, S.kind, rfl, hr.units, passes_of rfl, hK, hb, hg, fun j y hj => ?_, hcs, fun _ _ => rfl⟩
      have hj' : j < ds.length := by
        rw [← hl]
        exact (List.getElem?_eq_some_iff.mp hj).1
      obtain ⟨y2, f2, fd2, ps2, k1, k2, k3, k4, k5⟩ := ih j ds[j] (by simp [hj'])
      rw [hj] at k1
      cases k1
      exact ⟨⟨f2, fd2, ps2, 2 * n, k2, k3, k4, k5, hr.mono (by omega)⟩⟩
    · refine ⟨ι, _, St, _, ?_, R, (un w1).2, ?_, ?_⟩
      · rw [← hK] at r ⊢
        exact startRel r h3
      · refine (takes_of (E := E) rfl rfl rfl rfl).imp fun cls dd σ' H' ⟨ι', ρ', S', c, g, _, R', e, q⟩ => ?_
        rw [e]
        exact hE ι' H' S' c dd g R' q
      · exact ⟨fun ι' H' ρ' σ' S' g _ R' q => post ι' H' .non .non S' g R' (by simp only [Rv]) q, post, fun _ _ _ _ _ _ _ _ q => q.elim, fun _ _ _ _ _ _ _ _ q => q.elim⟩
theorem link (hcs : ∀ n x kvs, gs.cst n = some (x, kvs) → CDk K w.params x kvs) (hK : K = L.K) (hl : T.fn.length = ds.length) (hd : ∀ i d, ds[i]? = some d → DefOk K mg T i d) (hb : ∀ x, T.bi.contains x = true → mg x = none)
    (hg : ∀ i x, T.gl[i]? = some x → ∃ u v, mg x = some u ∧ RelV v u ∧ ∀ ι H, Rv L.K ι H (gs.glo i) v) : ∀ n i d, ds[i]? = some d → Knows P w K mg base L T ds gs n i
  | 0, i, d, h => by
    obtain ⟨x, st, f, fd, N, ps, h1, h2, F, S, h3, h4, h5, h6⟩ := (hd i d h).ex
    refine ⟨x, f, fd, ps, h1, h2, F.kp, ?_, h6⟩
    have no : ∀ vs H Q E, ¬ spC L (cenv ds gs 0) i vs H Q E := fun vs H Q E ⟨_, _, _, _, _, _, _, z, _⟩ => z
    exact ⟨fun vs H Q E z => absurd z (no vs H Q E), fun A outer s H args us vs Q E _ _ _ _ z => absurd z (no vs H Q E)⟩
  | n + 1, i, d, h => by
    obtain ⟨x, st, f, fd, N, ps, h1, h2, F, S, h3, h4, h5, h6⟩ := (hd i d h).ex
    exact ⟨x, f, fd, ps, h1, h2, F.kp, step hcs hK hl hb hg (link hcs hK hl hd hb hg n) h F S h3 h4 h5, h6⟩
end
theorem rvInts {K : PySem.W.Frag} {ι : List Addr} {H : Hp} : ∀ ns : List Int, Rvs K ι H (ns.map Val.int) (ns.map V.int)
  | [] => Rvs.nil
  | n :: ns => Rvs.cons (by simp only [Rv]) (rvInts ns)
/-- the law's own call -/
theorem law_sp {K : PySem.W.Frag} {L : Lk} (hK : K = L.K) {C : Cenv} {i : Nat} {H : Hp} {a : Addr} {ns : List Int} (hO : Only H) (hS : SqL K H a (ns.map V.int))
    (h : C.call i [.loc 0] [.rol (ns.map Val.int)] (fun x _ => x = .bl true) (fun _ _ => False)) : spC L C i [.ref a] H (fun v _ => v = .bl true) fun _ _ _ => False := by
  have rr : ∀ (ι : List Addr), Rvs L.K ι H (ns.map Val.int) (ns.map V.int) := fun ι => rvInts ns
  refine ⟨[a], [.loc 0], [.rol (ns.map Val.int)], _, _, ⟨rfl, fun n m b o o' h1 h2 h3 h4 m1 m2 => ?_, fun n o b h1 h2 => ?_⟩, ?_, h, fun ι' H' x v S' g R r q => ?_, fun _ _ _ _ _ _ _ z => z.elim⟩
  · rcases n with _ | n
    · simp at h3
      subst h3
      cases m1
    · simp at h3
  · rcases n with _ | n
    · simp at h1 h2
      subst h1 h2
      refine ⟨ns.map V.int, ?_, rr [a]⟩
      rw [← hK]
      rcases hS with (q | ⟨o, q⟩) | q
      · rcases hO a with z | ⟨o, xs, z⟩
        · rw [q] at z; cases z
        · rw [q] at z; cases z
      · exact .inl ⟨o, q⟩
      · exact .inr q
    · simp at h1
  · exact Rvs.one (by simp only [Rv]; exact ⟨a, rfl, rfl⟩)
  · subst q
    simpa only [Rv] using r
theorem no_exc {P : Program} {w : World} {H : Hp} {s : Shared} {e : Value} {s' : Shared} (h : L2.CX P w [] H s (fun _ _ _ => False) e s') : False := by
  obtain ⟨_, _, _, _, _, _, _, _, _, _, _, _, z⟩ := h
  exact z
/-- a program without classes -/
def lk (K : PySem.W.Frag) : Lk := ⟨K, fun _ => 0, fun n => ⟨(List.replicate n 0).toArray⟩, fun _ => .none, fun i j h => by
  have e : (List.replicate i (0 : Nat)) = List.replicate j 0 := by
    have := congrArg (fun s : Str => s.cps.toList) h
    simpa using this
  have := congrArg List.length e
  simpa using this⟩
/-- the end of a row, from the law's own call -/
theorem pm_walk {l : PySem.W.OpenLaw} {q : Program} {loose : List Str} {XP : (Str → Option Value) → Heap → Prop} {YP : World → Heap → Prop} {d : DefRec} {K : Params → PySem.W.Frag} {ds : List MD} {gs : GE} {depth lawi : Nat} {lkf : PySem.W.Frag → Lk} (hlk : ∀ K, K = (lkf K).K) (hn : l.most = some 63) (hdf : d.params.defaults = []) (hr : Room (2 * depth) callerA)
    (hY : ∀ (w : World) (h : Heap), YP w h → (K w.params).In h)
    (F : ∀ (w : World) (mg : Str → Option Value) (fa : Addr) (h : Heap), (K w.params).In h → h.Ns mainGlobals mg → mg d.name = some (.ref fa) →
      ∃ fd : FuncData, (∀ (s : Shared) (u : Value), BindsTo s fd ⟨[u], []⟩ [("script", u)]) ∧ ∀ base : Heap, (K w.params).In base → base.Ns mainGlobals mg → FnOk l.prog w (K w.params) mg base (L2.CX l.prog w) (2 * depth) fa fd ["script"] (spC (lkf (K w.params)) (cenv ds gs depth) lawi))
    (law : ∀ ns : List Int, ns.length ≤ 63 → callN ds gs depth lawi [.loc 0] [.rol (ns.map Val.int)] (fun x _ => x = .bl true) (fun _ _ => False)) :
    PySem.W.WalkO q loose XP YP l.row.toRowW d [] (fun f vs => PySem.call f vs) :=
  L2.walk_of (n := 63) (k := 2 * depth) (x := "script") (CX := fun w => L2.CX l.prog w) (sp := fun w => spC (lkf (K w.params)) (cenv ds gs depth) lawi) hn (by decide) hdf hr hY F
    (fun w H a ns hl hO hS => law_sp (hlk _) hO hS (law ns hl)) fun _ _ _ _ _ z => no_exc z
end PM

namespace PM
open PySem
/-! the list lemmas again, none of them by rfl: a simp step that is rfl alone is checked by the kernel the wrong way round (it opens callN first) -/
theorem nE1 : type_of% @PM.wpE.eq_1 := by intros; rw [PM.wpE.eq_1]
theorem nE2 : type_of% @PM.wpE.eq_2 := by intros; rw [PM.wpE.eq_2]
theorem nE3 : type_of% @PM.wpE.eq_3 := by intros; rw [PM.wpE.eq_3]
theorem nE4 : type_of% @PM.wpE.eq_4 := by intros; rw [PM.wpE.eq_4]
theorem nE5 : type_of% @PM.wpE.eq_5 := by intros; rw [PM.wpE.eq_5]
theorem nE6 : type_of% @PM.wpE.eq_6 := by intros; rw [PM.wpE.eq_6]
theorem nE7 : type_of% @PM.wpE.eq_7 := by intros; rw [PM.wpE.eq_7]
theorem nE8 : type_of% @PM.wpE.eq_8 := by intros; rw [PM.wpE.eq_8]
theorem nE9 : type_of% @PM.wpE.eq_9 := by intros; rw [PM.wpE.eq_9]
theorem nE10 : type_of% @PM.wpE.eq_10 := by intros; rw [PM.wpE.eq_10]
theorem nE11 : type_of% @PM.wpE.eq_11 := by intros; rw [PM.wpE.eq_11]
theorem nE12 : type_of% @PM.wpE.eq_12 := by intros; rw [PM.wpE.eq_12]
theorem nE13 : type_of% @PM.wpE.eq_13 := by intros; rw [PM.wpE.eq_13]
theorem nE14 : type_of% @PM.wpE.eq_14 := by intros; rw [PM.wpE.eq_14]
theorem nE15 : type_of% @PM.wpE.eq_15 := by intros; rw [PM.wpE.eq_15]
theorem nE16 : type_of% @PM.wpE.eq_16 := by intros; rw [PM.wpE.eq_16]
theorem nE17 : type_of% @PM.wpE.eq_17 := by intros; rw [PM.wpE.eq_17]
theorem nE18 : type_of% @PM.wpE.eq_18 := by intros; rw [PM.wpE.eq_18]
theorem nE19 : type_of% @PM.wpE.eq_19 := by intros; rw [PM.wpE.eq_19]
theorem nE20 : type_of% @PM.wpE.eq_20 := by intros; rw [PM.wpE.eq_20]
theorem nS1 : type_of% @PM.wpS.eq_1 := by intros; rw [PM.wpS.eq_1]
theorem nS2 : type_of% @PM.wpS.eq_2 := by intros; rw [PM.wpS.eq_2]
theorem nS3 : type_of% @PM.wpS.eq_3 := by intros; rw [PM.wpS.eq_3]
theorem nS4 : type_of% @PM.wpS.eq_4 := by intros; rw [PM.wpS.eq_4]
theorem nS5 : type_of% @PM.wpS.eq_5 := by intros; rw [PM.wpS.eq_5]
theorem nS6 : type_of% @PM.wpS.eq_6 := by intros; rw [PM.wpS.eq_6]
theorem nS7 : type_of% @PM.wpS.eq_7 := by intros; rw [PM.wpS.eq_7]
theorem nS8 : type_of% @PM.wpS.eq_8 := by intros; rw [PM.wpS.eq_8]
theorem nS9 : type_of% @PM.wpS.eq_9 := by intros; rw [PM.wpS.eq_9]
theorem nS10 : type_of% @PM.wpS.eq_10 := by intros; rw [PM.wpS.eq_10]
theorem nS11 : type_of% @PM.wpS.eq_11 := by intros; rw [PM.wpS.eq_11]
theorem nSs1 : type_of% @PM.wpSs.eq_1 := by intros; rw [PM.wpSs.eq_1]
theorem nSs2 : type_of% @PM.wpSs.eq_2 := by intros; rw [PM.wpSs.eq_2]
theorem nEs1 : type_of% @PM.wpEs.eq_1 := by intros; rw [PM.wpEs.eq_1]
theorem nEs2 : type_of% @PM.wpEs.eq_2 := by intros; rw [PM.wpEs.eq_2]
theorem nB1 : type_of% @PM.wpB.eq_1 := by intros; rw [PM.wpB.eq_1]
theorem nB2 : type_of% @PM.wpB.eq_2 := by intros; rw [PM.wpB.eq_2]
theorem nB3 : type_of% @PM.wpB.eq_3 := by intros; rw [PM.wpB.eq_3]
theorem nA1 : type_of% @PM.wpA.eq_1 := by intros; rw [PM.wpA.eq_1]
theorem nA2 : type_of% @PM.wpA.eq_2 := by intros; rw [PM.wpA.eq_2]
theorem nA3 : type_of% @PM.wpA.eq_3 := by intros; rw [PM.wpA.eq_3]
theorem nT1 : type_of% @PM.wpT.eq_1 := by intros; rw [PM.wpT.eq_1]
theorem iffeq {a b : Prop} (h : a = b) : a = b := propext (Iff.of_eq h)
theorem setz {α : Type} {a b : α} {l : List α} : (a :: l).set 0 b = b :: l := List.ext_getElem? fun _ => rfl
theorem sets {α : Type} {a b : α} {l : List α} {n : Nat} : (a :: l).set (n + 1) b = a :: l.set n b := List.ext_getElem? fun _ => rfl
theorem getz {α : Type} {a : α} {l : List α} : (a :: l)[0]? = some a := (List.getElem?_cons_zero).trans (by cases l <;> simp)
theorem gets {α : Type} {a : α} {l : List α} {n : Nat} : (a :: l)[n + 1]? = l[n]? := (List.getElem?_cons_succ).trans (by cases l <;> simp)
theorem tyeq (a b : Ty) : (a == b) = decide (a = b) := by
  cases a <;> cases b <;> rfl
theorem ieq (a b : Int) : (a == b) = decide (a = b) := by
  by_cases h : a = b <;> simp [h]
theorem atV_nat {xs : List Val} {i : Nat} {v : Val} (h : xs[i]? = some v) : atV xs (i : Int) = some v := by
  have hl : i < xs.length := (List.getElem?_eq_some_iff.mp h).1
  have e : L2.ixN xs.length (i : Int) = some i := by
    unfold L2.ixN
    rw [if_pos (by omega), if_pos (by omega)]
    simp
  simp [atV, e, h]
theorem atV_0 {a : Val} {xs : List Val} : atV (a :: xs) 0 = some a := atV_nat (i := 0) rfl
theorem atV_int {xs : List Val} {i : Int} (h0 : 0 ≤ i) (h : i < xs.length) : ∃ v, atV xs i = some v ∧ v ∈ xs := by
  have hl : i.toNat < xs.length := by omega
  refine ⟨xs[i.toNat], ?_, List.getElem_mem hl⟩
  have := atV_nat (xs := xs) (i := i.toNat) (v := xs[i.toNat]) (by simp [hl])
  rwa [Int.toNat_of_nonneg h0] at this
theorem atV_1 {a b : Val} {xs : List Val} : atV (a :: b :: xs) 1 = some b := atV_nat (i := 1) rfl
theorem atV_2 {a b c : Val} {xs : List Val} : atV (a :: b :: c :: xs) 2 = some c := atV_nat (i := 2) rfl
theorem atV_3 {a b c d : Val} {xs : List Val} : atV (a :: b :: c :: d :: xs) 3 = some d := atV_nat (i := 3) rfl
theorem ixN_0 {n : Nat} : L2.ixN (n + 1) 0 = some 0 := by
  unfold L2.ixN
  rw [if_pos (by decide), if_pos (by omega)]
  rfl
theorem ixN_1 {n : Nat} : L2.ixN (n + 2) 1 = some 1 := by
  unfold L2.ixN
  rw [if_pos (by decide), if_pos (by omega)]
  rfl
theorem ixN_2 {n : Nat} : L2.ixN (n + 3) 2 = some 2 := by
  unfold L2.ixN
  rw [if_pos (by decide), if_pos (by omega)]
  rfl
/-! ### the store -/
theorem lstAt_app {S : Sto} {o : SObj} {n : Nat} (h : n < S.length) : lstAt (S ++ [o]) n = lstAt S n := by
  unfold lstAt
  rw [List.getElem?_append_left h]
theorem lstAt_lt {S : Sto} {n : Nat} (h : (lstAt S n).isSome = true) : n < S.length := by
  unfold lstAt at h
  cases e : S[n]? with
  | none => rw [e] at h; cases h
  | some o => exact (List.getElem?_eq_some_iff.mp e).1
theorem lstAt_new {S : Sto} {xs : List Val} : lstAt (S ++ [.lst xs]) S.length = some xs := by
  unfold lstAt
  simp
theorem get_new {S : Sto} {o : SObj} : (S ++ [o])[S.length]? = some o := by simp
theorem set_new {S : Sto} {o u : SObj} : (S ++ [o]).set S.length u = S ++ [u] := by simp
theorem known_app {S : Sto} {o : SObj} {v : Val} (h : known S v = true) : known (S ++ [o]) v = true := by
  cases v with
  | loc n =>
    simp only [known] at h ⊢
    rw [lstAt_app (lstAt_lt h)]
    exact h
  | cst n x => exact h
  | _ => rfl
/-- a comprehension over a tuple, each turn a value by a function -/
theorem lc_pure {S : Sto} {step : Val → Sto → (Option Val → Sto → Prop) → Prop} {Q : VQ} {f : Val → Val} (P : Sto → Prop) (hP : ∀ xs, P (S ++ [.lst xs])) : ∀ (items acc : List Val), acc.length + items.length ≤ big →
    (∀ x ∈ items, ∀ S' K, P S' → step x S' K = K (some (f x)) S') → lcS [] S.length step Q items acc (S ++ [.lst acc]) = Q (.loc S.length) (S ++ [.lst (acc ++ items.map f)])
  | [], acc, _, _ => by simp [lcS, gdS]
  | x :: r, acc, hl, hs => by
    have ih := lc_pure (Q := Q) P hP r (acc ++ [f x]) (by simp at hl ⊢; omega) fun y hy => hs y (List.mem_cons_of_mem _ hy)
    simp only [lcS, gdS, true_and]
    rw [hs x List.mem_cons_self _ _ (hP acc)]
    have hb : acc.length < big := by simp at hl; omega
    simp only [get_new, set_new, ih, hb, true_and, List.map_cons, List.append_assoc, List.cons_append, List.nil_append]
theorem blS_map (f : Val → Bool) : ∀ xs : List Val, blS (xs.map fun x => .bl (f x)) = some (xs.map f)
  | [] => rfl
  | x :: xs => by simp [blS, blS_map f xs]
end PM

namespace My
open PySem PySem.Spec PyProof.Rows L2 PM
/-! is_integer(value, least, greatest); slots: 0:value 1:least 2:greatest -/
def b0_0 : MS := .ret (.bool true [(.tyc true (.var 0) .int), (.chain .le .le (.var 1) (.var 0) (.var 2))])
def b0 : List MS := [b0_0]
/-! is_group(count); slots: 0:count -/
def b1_0 : MS := .ret (.call 0 [(.var 0), (.lit (.int 1)), (.glo 0)])
def b1 : List MS := [b1_0]
/-! is_process(count, value); slots: 0:count 1:value -/
def b2_0 : MS := .ret (.bool true [(.call 1 [(.var 0)]), (.call 0 [(.var 1), (.lit (.int 0)), (.bin .sub (.var 0) (.lit (.int 1)))])])
def b2 : List MS := [b2_0]
/-! kind_of(value); slots: 0:value -/
def b3_0 : MS := .ite (.bool true [(.tyc true (.var 0) .tuple), (.cmp .gt (.bi .len [(.var 0)]) (.lit (.int 0))), (.tyc true (.ix (.var 0) (.lit (.int 0))) .str)]) [.ret (.ix (.var 0) (.lit (.int 0)))] []
def b3_1 : MS := .ret (.lit .non)
def t3_1 : List MS := [b3_1]
def b3 : List MS := b3_0 :: t3_1
/-! is_payload(count, value); slots: 0:count 1:value -/
def b4_0 : MS := .ret (.bool true [(.call 1 [(.var 0)]), (.call 5 [(.var 0), (.var 1), (.glo 1)])])
def b4 : List MS := [b4_0]
/-! _is_nested(count, value, most); slots: 0:count 1:value 2:most 3:forms 4:form 5:item -/
def b5_0 : MS := .ite (.cmp .eq (.var 2) (.lit (.int 0))) [.ret (.lit (.bl false))] []
def b5_1 : MS := .asg (.nm 3) (.mt .get1 (.glo 2) [(.call 3 [(.var 1)])])
def b5_2 : MS := .ite (.bool false [(.cmp .is_ (.var 3) (.lit .non)), (.cmp .ne (.bi .len [(.var 1)]) (.bin .add (.bi .len [(.var 3)]) (.lit (.int 1))))]) [.ret (.lit (.bl false))] []
def b5_3 : MS := .ret (.bi .all [(.lc .zip [(.var 3), (.sl (.var 1) [(.lit (.int 1))] [])] [4, 5] (.tp [4, 5]) [] (.call 6 [(.var 0), (.var 4), (.var 5), (.bin .sub (.var 2) (.lit (.int 1)))]))])
def t5_3 : List MS := [b5_3]
def t5_2 : List MS := b5_2 :: t5_3
def t5_1 : List MS := b5_1 :: t5_2
def b5 : List MS := b5_0 :: t5_1
/-! _is_item(count, form, value, most); slots: 0:count 1:form 2:value 3:most -/
def b6_0 : MS := .ite (.cmp .eq (.var 1) (.lit (.str "cell"))) [.ret (.call 0 [(.var 2), (.lit (.int 0)), (.bin .sub (.glo 3) (.lit (.int 1)))])] []
def b6_1 : MS := .ite (.cmp .eq (.var 1) (.lit (.str "value"))) [.ret (.call 0 [(.var 2), (.neg (.glo 4)), (.glo 4)])] []
def b6_2 : MS := .ite (.cmp .eq (.var 1) (.lit (.str "process"))) [.ret (.call 2 [(.var 0), (.var 2)])] []
def b6_3 : MS := .ret (.call 5 [(.var 0), (.var 2), (.var 3)])
def t6_3 : List MS := [b6_3]
def t6_2 : List MS := b6_2 :: t6_3
def t6_1 : List MS := b6_1 :: t6_2
def b6 : List MS := b6_0 :: t6_1
/-! _law_bag(script, k); slots: 0:script 1:k 2:cell -/
def b7_0 : MS := .asg (.nm 2) (.lit (.int 0))
def b7_1 : MS := .ite (.cmp .lt (.var 1) (.bi .len [(.var 0)])) [.asg (.nm 2) (.bi .int [(.ix (.var 0) (.var 1))])] []
def b7_2 : MS := .ite (.cmp .ge (.var 2) (.bin .pow (.lit (.int 10)) (.lit (.int 18)))) [.ret (.lst [(.var 2), (.var 2), (.var 1)])] []
def b7_3 : MS := .ret (.lst [(.lit (.int 0)), (.var 2), (.var 1)])
def t7_3 : List MS := [b7_3]
def t7_2 : List MS := b7_2 :: t7_3
def t7_1 : List MS := b7_1 :: t7_2
def b7 : List MS := b7_0 :: t7_1
/-! _law_draw(bag, many); slots: 0:bag 1:many 2:rest 3:seed -/
def b8_0 : MS := .ite (.cmp .eq (.ix (.var 0) (.lit (.int 0))) (.lit (.int 0))) [.asg (.nm 3) (.bin .mod (.bi .int [(.bin .add (.bin .add (.bin .mul (.ix (.var 0) (.lit (.int 1))) (.lit (.int 48271))) (.bin .mul (.ix (.var 0) (.lit (.int 2))) (.lit (.int 69621)))) (.lit (.int 11)))]) (.lit (.int 2147483647))), .sub (.var 0) (.lit (.int 0)) (.bin .add (.bin .mul (.var 3) (.lit (.int 2147483629))) (.bin .mod (.bi .int [(.bin .add (.bin .mul (.var 3) (.var 3)) (.bin .mul (.ix (.var 0) (.lit (.int 2))) (.lit (.int 16807))))]) (.lit (.int 2147483629)))), .sub (.var 0) (.lit (.int 1)) (.var 3)] []
def b8_1 : MS := .asg (.nm 2) (.ix (.var 0) (.lit (.int 0)))
def b8_2 : MS := .sub (.var 0) (.lit (.int 0)) (.bin .fdiv (.var 2) (.var 1))
def b8_3 : MS := .ret (.bin .mod (.bi .int [(.var 2)]) (.var 1))
def t8_3 : List MS := [b8_3]
def t8_2 : List MS := b8_2 :: t8_3
def t8_1 : List MS := b8_1 :: t8_2
def b8 : List MS := b8_0 :: t8_1
/-! _law_is_int(value, least, most); slots: 0:value 1:least 2:most -/
def b9_0 : MS := .ret (.bool true [(.ist (.var 0) .int), (.not (.ist (.var 0) .bool)), (.cmp .le (.var 1) (.var 0)), (.cmp .le (.var 0) (.var 2))])
def b9 : List MS := [b9_0]
/-! _law_value(bag); slots: 0:bag 1:pick -/
def b10_0 : MS := .asg (.nm 1) (.call 8 [(.var 0), (.lit (.int 7))])
def b10_1 : MS := .ite (.cmp .eq (.var 1) (.lit (.int 6))) [.ret (.bin .sub (.call 8 [(.var 0), (.lit (.int 2000001))]) (.lit (.int 1000000)))] []
def b10_2 : MS := .ret (.ix (.lst [(.lit (.int 0)), (.lit (.int 1)), (.neg (.lit (.int 1))), (.lit (.int 5)), (.bin .pow (.lit (.int 10)) (.lit (.int 6))), (.neg (.bin .pow (.lit (.int 10)) (.lit (.int 6))))]) (.var 1))
def t10_2 : List MS := [b10_2]
def t10_1 : List MS := b10_1 :: t10_2
def b10 : List MS := b10_0 :: t10_1
/-! _law_payload(bag, count, depth); slots: 0:bag 1:count 2:depth 3:kind 4:cell 5:first 6:second -/
def b11_0 : MS := .asg (.nm 3) (.ix (.lst [(.lit (.str "set")), (.lit (.str "add")), (.lit (.str "copy")), (.lit (.str "show")), (.lit (.str "send")), (.lit (.str "both")), (.lit (.str "if")), (.lit (.str "both"))]) (.call 8 [(.var 0), (.lit (.int 8))]))
def b11_1 : MS := .asg (.nm 4) (.call 8 [(.var 0), (.lit (.int 4))])
def b11_2 : MS := .ite (.bool true [(.cmp .eq (.var 2) (.lit (.int 1))), (.cmp .in_ (.var 3) (.lst [(.lit (.str "send")), (.lit (.str "both")), (.lit (.str "if"))]))]) [.asg (.nm 3) (.lit (.str "show"))] []
def b11_3 : MS := .ite (.cmp .eq (.var 3) (.lit (.str "show"))) [.ret (.tup [(.var 3), (.var 4)])] []
def b11_4 : MS := .ite (.bool false [(.cmp .eq (.var 3) (.lit (.str "set"))), (.cmp .eq (.var 3) (.lit (.str "add")))]) [.ret (.tup [(.var 3), (.var 4), (.call 10 [(.var 0)])])] []
def b11_5 : MS := .ite (.cmp .eq (.var 3) (.lit (.str "copy"))) [.ret (.tup [(.var 3), (.var 4), (.call 8 [(.var 0), (.lit (.int 4))])])] []
def b11_6 : MS := .asg (.nm 5) (.call 11 [(.var 0), (.var 1), (.bin .sub (.var 2) (.lit (.int 1)))])
def b11_7 : MS := .ite (.cmp .eq (.var 3) (.lit (.str "send"))) [.ret (.tup [(.var 3), (.call 8 [(.var 0), (.var 1)]), (.var 5)])] []
def b11_8 : MS := .asg (.nm 6) (.call 11 [(.var 0), (.var 1), (.bin .sub (.var 2) (.lit (.int 1)))])
def b11_9 : MS := .ite (.cmp .eq (.var 3) (.lit (.str "both"))) [.ret (.tup [(.var 3), (.var 5), (.var 6)])] []
def b11_10 : MS := .ret (.tup [(.var 3), (.var 4), (.var 5), (.var 6)])
def t11_10 : List MS := [b11_10]
def t11_9 : List MS := b11_9 :: t11_10
def t11_8 : List MS := b11_8 :: t11_9
def t11_7 : List MS := b11_7 :: t11_8
def t11_6 : List MS := b11_6 :: t11_7
def t11_5 : List MS := b11_5 :: t11_6
def t11_4 : List MS := b11_4 :: t11_5
def t11_3 : List MS := b11_3 :: t11_4
def t11_2 : List MS := b11_2 :: t11_3
def t11_1 : List MS := b11_1 :: t11_2
def b11 : List MS := b11_0 :: t11_1
/-! _law_shape(kind); slots: 0:kind 1:rows 2:one 3:shape -/
def l12_0_0 : MS := .ite (.cmp .eq (.var 2) (.var 0)) [.ret (.var 3)] []
def l12_0 : List MS := [l12_0_0]
def b12_0 : MS := .asg (.nm 1) (.lst [(.tup [(.lit (.str "set")), (.lit (.str "cv"))]), (.tup [(.lit (.str "add")), (.lit (.str "cv"))]), (.tup [(.lit (.str "copy")), (.lit (.str "cc"))]), (.tup [(.lit (.str "send")), (.lit (.str "sp"))]), (.tup [(.lit (.str "show")), (.lit (.str "c"))]), (.tup [(.lit (.str "both")), (.lit (.str "pp"))]), (.tup [(.lit (.str "if")), (.lit (.str "cpp"))])])
def b12_1 : MS := .fr (.tp [2, 3]) .seq [(.var 1)] l12_0
def b12_2 : MS := .ret (.lit (.str ""))
def t12_2 : List MS := [b12_2]
def t12_1 : List MS := b12_1 :: t12_2
def b12 : List MS := b12_0 :: t12_1
/-! _law_is_item(count, form, value, depth); slots: 0:count 1:form 2:value 3:depth -/
def b13_0 : MS := .ite (.cmp .eq (.var 1) (.lit (.str "c"))) [.ret (.call 9 [(.var 2), (.lit (.int 0)), (.lit (.int 3))])] []
def b13_1 : MS := .ite (.cmp .eq (.var 1) (.lit (.str "v"))) [.ret (.call 9 [(.var 2), (.neg (.bin .pow (.lit (.int 10)) (.lit (.int 6)))), (.bin .pow (.lit (.int 10)) (.lit (.int 6)))])] []
def b13_2 : MS := .ite (.cmp .eq (.var 1) (.lit (.str "s"))) [.ret (.call 9 [(.var 2), (.lit (.int 0)), (.bin .sub (.var 0) (.lit (.int 1)))])] []
def b13_3 : MS := .ret (.call 14 [(.var 0), (.var 2), (.bin .add (.var 3) (.lit (.int 1)))])
def t13_3 : List MS := [b13_3]
def t13_2 : List MS := b13_2 :: t13_3
def t13_1 : List MS := b13_1 :: t13_2
def b13 : List MS := b13_0 :: t13_1
/-! _law_is_payload(count, value, depth); slots: 0:count 1:value 2:depth 3:shape 4:k -/
def l14_0_0 : MS := .ite (.not (.call 13 [(.var 0), (.ix (.var 3) (.var 4)), (.ix (.var 1) (.bin .add (.var 4) (.lit (.int 1)))), (.var 2)])) [.ret (.lit (.bl false))] []
def l14_0 : List MS := [l14_0_0]
def b14_0 : MS := .ite (.bool false [(.not (.call 9 [(.var 0), (.lit (.int 1)), (.lit (.int 10))])), (.cmp .gt (.var 2) (.lit (.int 6))), (.not (.ist (.var 1) .tuple)), (.cmp .eq (.bi .len [(.var 1)]) (.lit (.int 0)))]) [.ret (.lit (.bl false))] []
def b14_1 : MS := .ite (.bool false [(.not (.ist (.ix (.var 1) (.lit (.int 0))) .str)), (.cmp .ne (.bi .len [(.var 1)]) (.bin .add (.bi .len [(.call 12 [(.ix (.var 1) (.lit (.int 0)))])]) (.lit (.int 1)))), (.cmp .eq (.call 12 [(.ix (.var 1) (.lit (.int 0)))]) (.lit (.str "")))]) [.ret (.lit (.bl false))] []
def b14_2 : MS := .asg (.nm 3) (.call 12 [(.ix (.var 1) (.lit (.int 0)))])
def b14_3 : MS := .fr (.nm 4) .range [(.bi .len [(.var 3)])] l14_0
def b14_4 : MS := .ret (.lit (.bl true))
def t14_4 : List MS := [b14_4]
def t14_3 : List MS := b14_3 :: t14_4
def t14_2 : List MS := b14_2 :: t14_3
def t14_1 : List MS := b14_1 :: t14_2
def b14 : List MS := b14_0 :: t14_1
/-! _law_spoilt(bag, value, odd); slots: 0:bag 1:value 2:odd 3:at 4:choice -/
def b15_0 : MS := .ite (.bool false [(.not (.ist (.var 1) .tuple)), (.cmp .eq (.bi .len [(.var 1)]) (.lit (.int 0))), (.cmp .eq (.call 8 [(.var 0), (.lit (.int 5))]) (.lit (.int 0)))]) [.ret (.var 2)] []
def b15_1 : MS := .asg (.nm 3) (.call 8 [(.var 0), (.bi .len [(.var 1)])])
def b15_2 : MS := .asg (.nm 4) (.call 8 [(.var 0), (.lit (.int 8))])
def b15_3 : MS := .ite (.cmp .eq (.var 4) (.lit (.int 0))) [.ret (.bin .add (.sl (.var 1) [] [(.var 3)]) (.sl (.var 1) [(.bin .add (.var 3) (.lit (.int 1)))] []))] []
def b15_4 : MS := .ite (.cmp .eq (.var 4) (.lit (.int 1))) [.ret (.bin .add (.bin .add (.sl (.var 1) [] [(.var 3)]) (.tup [(.var 2)])) (.sl (.var 1) [(.var 3)] []))] []
def b15_5 : MS := .ite (.cmp .eq (.var 4) (.lit (.int 2))) [.ret (.bin .add (.bin .add (.sl (.var 1) [] [(.var 3)]) (.sl (.var 1) [(.var 3)] [(.bin .add (.var 3) (.lit (.int 1)))])) (.sl (.var 1) [(.var 3)] []))] []
def b15_6 : MS := .ite (.cmp .eq (.var 4) (.lit (.int 3))) [.ret (.bin .add (.bin .add (.bin .add (.sl (.var 1) [] [(.var 3)]) (.sl (.var 1) [(.bin .add (.var 3) (.lit (.int 1)))] [(.bin .add (.var 3) (.lit (.int 2)))])) (.sl (.var 1) [(.var 3)] [(.bin .add (.var 3) (.lit (.int 1)))])) (.sl (.var 1) [(.bin .add (.var 3) (.lit (.int 2)))] []))] []
def b15_7 : MS := .ret (.bin .add (.bin .add (.sl (.var 1) [] [(.var 3)]) (.tup [(.call 15 [(.var 0), (.ix (.var 1) (.var 3)), (.var 2)])])) (.sl (.var 1) [(.bin .add (.var 3) (.lit (.int 1)))] []))
def t15_7 : List MS := [b15_7]
def t15_6 : List MS := b15_6 :: t15_7
def t15_5 : List MS := b15_5 :: t15_6
def t15_4 : List MS := b15_4 :: t15_5
def t15_3 : List MS := b15_3 :: t15_4
def t15_2 : List MS := b15_2 :: t15_3
def t15_1 : List MS := b15_1 :: t15_2
def b15 : List MS := b15_0 :: t15_1
/-! _law_odd(bag, count); slots: 0:bag 1:count 2:odd -/
def b16_0 : MS := .asg (.nm 2) (.lst [(.lit (.int 0)), (.lit (.int 3)), (.lit (.int 4)), (.neg (.lit (.int 1))), (.bin .pow (.lit (.int 10)) (.lit (.int 6))), (.bin .add (.bin .pow (.lit (.int 10)) (.lit (.int 6))) (.lit (.int 1))), (.bin .sub (.neg (.bin .pow (.lit (.int 10)) (.lit (.int 6)))) (.lit (.int 1))), (.var 1), (.bin .sub (.var 1) (.lit (.int 1))), (.lit (.bl true)), (.lit (.bl false)), (.lit .non), (.lit (.str "")), (.lit (.str "show")), (.lit (.str "set")), (.tup []), (.tup [(.lit (.str "show"))])])
def b16_1 : MS := .asg (.nm 2) (.bin .add (.var 2) (.lst [(.tup [(.lit (.str "show")), (.lit (.int 0))]), (.tup [(.lit (.str "show")), (.lit (.int 4))]), (.tup [(.lit (.str "show")), (.lit (.int 0)), (.lit (.int 0))]), (.lst [(.lit (.str "show")), (.lit (.int 0))]), (.tup [(.lit (.str "both")), (.tup [(.lit (.str "show")), (.lit (.int 0))])]), (.tup [(.lit (.str "send")), (.var 1), (.tup [(.lit (.str "show")), (.lit (.int 1))])])]))
def b16_2 : MS := .ret (.ix (.var 2) (.call 8 [(.var 0), (.lit (.int 23))]))
def t16_2 : List MS := [b16_2]
def t16_1 : List MS := b16_1 :: t16_2
def b16 : List MS := b16_0 :: t16_1
/-! _law_wrapped(bag, value); slots: 0:bag 1:value 2:k 3:choice -/
def l17_0_0 : MS := .asg (.nm 3) (.call 8 [(.var 0), (.lit (.int 3))])
def l17_0_1 : MS := .ite (.cmp .eq (.var 3) (.lit (.int 0))) [.asg (.nm 1) (.tup [(.lit (.str "both")), (.tup [(.lit (.str "show")), (.var 2)]), (.var 1)])] [.ite (.cmp .eq (.var 3) (.lit (.int 1))) [.asg (.nm 1) (.tup [(.lit (.str "if")), (.var 2), (.var 1), (.tup [(.lit (.str "copy")), (.lit (.int 0)), (.var 2)])])] [.asg (.nm 1) (.tup [(.lit (.str "send")), (.lit (.int 0)), (.var 1)])]]
def m17_0_1 : List MS := [l17_0_1]
def l17_0 : List MS := l17_0_0 :: m17_0_1
def b17_0 : MS := .fr (.nm 2) .range [(.call 8 [(.var 0), (.lit (.int 4))])] l17_0
def b17_1 : MS := .ret (.var 1)
def t17_1 : List MS := [b17_1]
def b17 : List MS := b17_0 :: t17_1
/-! _law_built(bag, count); slots: 0:bag 1:count 2:value 3:choice -/
def b18_0 : MS := .asg (.nm 2) (.call 11 [(.var 0), (.var 1), (.bin .add (.lit (.int 1)) (.call 8 [(.var 0), (.lit (.int 6))]))])
def b18_1 : MS := .ite (.cmp .eq (.call 8 [(.var 0), (.lit (.int 3))]) (.lit (.int 0))) [.asg (.nm 2) (.call 17 [(.var 0), (.var 2)])] []
def b18_2 : MS := .asg (.nm 3) (.call 8 [(.var 0), (.lit (.int 6))])
def b18_3 : MS := .ite (.cmp .lt (.var 3) (.lit (.int 3))) [.ret (.call 15 [(.var 0), (.var 2), (.call 16 [(.var 0), (.var 1)])])] []
def b18_4 : MS := .ite (.cmp .eq (.var 3) (.lit (.int 3))) [.ret (.bin .add (.tup [(.ix (.lst [(.lit (.str "set")), (.lit (.str "add")), (.lit (.str "copy")), (.lit (.str "send")), (.lit (.str "show")), (.lit (.str "both")), (.lit (.str "if")), (.lit (.str "stop")), (.lit (.str "")), (.lit (.int 5)), (.lit .non)]) (.call 8 [(.var 0), (.lit (.int 11))]))]) (.sl (.var 2) [(.lit (.int 1))] []))] []
def b18_5 : MS := .ret (.var 2)
def t18_5 : List MS := [b18_5]
def t18_4 : List MS := b18_4 :: t18_5
def t18_3 : List MS := b18_3 :: t18_4
def t18_2 : List MS := b18_2 :: t18_3
def t18_1 : List MS := b18_1 :: t18_2
def b18 : List MS := b18_0 :: t18_1
/-! law(script); slots: 0:script 1:k 2:bag 3:count 4:value 5:process 6:actual 7:due -/
def l19_0_0 : MS := .asg (.nm 2) (.call 7 [(.var 0), (.var 1)])
def l19_0_1 : MS := .asg (.nm 3) (.bin .add (.lit (.int 1)) (.call 8 [(.var 2), (.lit (.int 10))]))
def l19_0_2 : MS := .asg (.nm 4) (.call 18 [(.var 2), (.var 3)])
def l19_0_3 : MS := .asg (.nm 5) (.ix (.lst [(.call 8 [(.var 2), (.var 3)]), (.var 3), (.neg (.lit (.int 1))), (.lit (.bl true)), (.lit .non), (.lit (.str "0")), (.tup [(.lit (.int 0))])]) (.call 8 [(.var 2), (.lit (.int 7))]))
def l19_0_4 : MS := .ite (.cmp .eq (.call 8 [(.var 2), (.lit (.int 5))]) (.lit (.int 0))) [.asg (.nm 3) (.ix (.lst [(.lit (.int 1)), (.lit (.int 2)), (.lit (.int 3)), (.lit (.int 10)), (.lit (.int 0)), (.lit (.int 11)), (.neg (.lit (.int 1))), (.lit (.bl true)), (.lit .non), (.lit (.str "3"))]) (.call 8 [(.var 2), (.lit (.int 10))]))] []
def l19_0_5 : MS := .asg (.nm 6) (.lst [(.call 4 [(.var 3), (.var 4)]), (.call 2 [(.var 3), (.var 5)])])
def l19_0_6 : MS := .asg (.nm 7) (.lst [(.call 14 [(.var 3), (.var 4), (.lit (.int 1))]), (.bool true [(.call 9 [(.var 3), (.lit (.int 1)), (.lit (.int 10))]), (.call 9 [(.var 5), (.lit (.int 0)), (.bin .sub (.var 3) (.lit (.int 1)))])])])
def l19_0_7 : MS := .ite (.bool false [(.not (.ist (.ix (.var 6) (.lit (.int 0))) .bool)), (.not (.ist (.ix (.var 6) (.lit (.int 1))) .bool)), (.cmp .ne (.var 6) (.var 7))]) [.ret (.lit (.bl false))] []
def m19_0_7 : List MS := [l19_0_7]
def m19_0_6 : List MS := l19_0_6 :: m19_0_7
def m19_0_5 : List MS := l19_0_5 :: m19_0_6
def m19_0_4 : List MS := l19_0_4 :: m19_0_5
def m19_0_3 : List MS := l19_0_3 :: m19_0_4
def m19_0_2 : List MS := l19_0_2 :: m19_0_3
def m19_0_1 : List MS := l19_0_1 :: m19_0_2
def l19_0 : List MS := l19_0_0 :: m19_0_1
def b19_0 : MS := .fr (.nm 1) .range [(.bi .max2 [(.lit (.int 1)), (.bi .min2 [(.lit (.int 16)), (.bi .len [(.var 0)])])])] l19_0
def b19_1 : MS := .ret (.bool true [(.cmp .is_ (.call 4 [(.lit (.int 1)), (.lit .non)]) (.lit (.bl false))), (.cmp .is_ (.call 4 [(.lit (.int 1)), (.lit (.str "show"))]) (.lit (.bl false)))])
def t19_1 : List MS := [b19_1]
def b19 : List MS := b19_0 :: t19_1
def d0 : MD := ⟨3, 3, b0⟩
def d1 : MD := ⟨1, 1, b1⟩
def d2 : MD := ⟨2, 2, b2⟩
def d3 : MD := ⟨1, 1, b3⟩
def d4 : MD := ⟨2, 2, b4⟩
def d5 : MD := ⟨3, 6, b5⟩
def d6 : MD := ⟨4, 4, b6⟩
def d7 : MD := ⟨2, 3, b7⟩
def d8 : MD := ⟨2, 4, b8⟩
def d9 : MD := ⟨3, 3, b9⟩
def d10 : MD := ⟨1, 2, b10⟩
def d11 : MD := ⟨3, 7, b11⟩
def d12 : MD := ⟨1, 4, b12⟩
def d13 : MD := ⟨4, 4, b13⟩
def d14 : MD := ⟨3, 5, b14⟩
def d15 : MD := ⟨3, 5, b15⟩
def d16 : MD := ⟨2, 3, b16⟩
def d17 : MD := ⟨2, 4, b17⟩
def d18 : MD := ⟨2, 4, b18⟩
def d19 : MD := ⟨1, 8, b19⟩
def ds : List MD := [d0, d1, d2, d3, d4, d5, d6, d7, d8, d9, d10, d11, d12, d13, d14, d15, d16, d17, d18, d19]
def gsV : Nat → Val
  | 0 => (.int (10))
  | 1 => (.int (6))
  | 2 => .cst 0 "_FORMS"
  | 3 => (.int (4))
  | 4 => (.int (1000000))
  | _ => .non
def dk0 : List (Str × Val) := [("set", (.tup [(.str "cell"), (.str "value")])), ("add", (.tup [(.str "cell"), (.str "value")])), ("copy", (.tup [(.str "cell"), (.str "cell")])), ("send", (.tup [(.str "process"), (.str "payload")])), ("show", (.tup [(.str "cell")])), ("both", (.tup [(.str "payload"), (.str "payload")])), ("if", (.tup [(.str "cell"), (.str "payload"), (.str "payload")]))]
def gsC : Nat → Option (Str × List (Str × Val))
  | 0 => some ("_FORMS", dk0)
  | _ => none
def gs : GE := ⟨gsV, gsC⟩
theorem gsG : gs.glo = gsV := rfl
theorem gsK : gs.cst = gsC := rfl
theorem u0 {x0 x1 x2 : Val} {n : Nat} {S : Sto} {Q : VQ} {E : XQ} : callN ds gs (n + 1) 0 [x0, x1, x2] S Q E = wpSs (cenv ds gs n) b0 (endsOf Q E) [some x0, some x1, some x2] S := propext ⟨And.right, fun h => ⟨rfl, h⟩⟩
theorem u1 {x0 : Val} {n : Nat} {S : Sto} {Q : VQ} {E : XQ} : callN ds gs (n + 1) 1 [x0] S Q E = wpSs (cenv ds gs n) b1 (endsOf Q E) [some x0] S := propext ⟨And.right, fun h => ⟨rfl, h⟩⟩
theorem u2 {x0 x1 : Val} {n : Nat} {S : Sto} {Q : VQ} {E : XQ} : callN ds gs (n + 1) 2 [x0, x1] S Q E = wpSs (cenv ds gs n) b2 (endsOf Q E) [some x0, some x1] S := propext ⟨And.right, fun h => ⟨rfl, h⟩⟩
theorem u3 {x0 : Val} {n : Nat} {S : Sto} {Q : VQ} {E : XQ} : callN ds gs (n + 1) 3 [x0] S Q E = wpSs (cenv ds gs n) b3 (endsOf Q E) [some x0] S := propext ⟨And.right, fun h => ⟨rfl, h⟩⟩
theorem u4 {x0 x1 : Val} {n : Nat} {S : Sto} {Q : VQ} {E : XQ} : callN ds gs (n + 1) 4 [x0, x1] S Q E = wpSs (cenv ds gs n) b4 (endsOf Q E) [some x0, some x1] S := propext ⟨And.right, fun h => ⟨rfl, h⟩⟩
theorem u5 {x0 x1 x2 : Val} {n : Nat} {S : Sto} {Q : VQ} {E : XQ} : callN ds gs (n + 1) 5 [x0, x1, x2] S Q E = wpSs (cenv ds gs n) b5 (endsOf Q E) [some x0, some x1, some x2, none, none, none] S := propext ⟨And.right, fun h => ⟨rfl, h⟩⟩
theorem u6 {x0 x1 x2 x3 : Val} {n : Nat} {S : Sto} {Q : VQ} {E : XQ} : callN ds gs (n + 1) 6 [x0, x1, x2, x3] S Q E = wpSs (cenv ds gs n) b6 (endsOf Q E) [some x0, some x1, some x2, some x3] S := propext ⟨And.right, fun h => ⟨rfl, h⟩⟩
theorem u7 {x0 x1 : Val} {n : Nat} {S : Sto} {Q : VQ} {E : XQ} : callN ds gs (n + 1) 7 [x0, x1] S Q E = wpSs (cenv ds gs n) b7 (endsOf Q E) [some x0, some x1, none] S := propext ⟨And.right, fun h => ⟨rfl, h⟩⟩
theorem u8 {x0 x1 : Val} {n : Nat} {S : Sto} {Q : VQ} {E : XQ} : callN ds gs (n + 1) 8 [x0, x1] S Q E = wpSs (cenv ds gs n) b8 (endsOf Q E) [some x0, some x1, none, none] S := propext ⟨And.right, fun h => ⟨rfl, h⟩⟩
theorem u9 {x0 x1 x2 : Val} {n : Nat} {S : Sto} {Q : VQ} {E : XQ} : callN ds gs (n + 1) 9 [x0, x1, x2] S Q E = wpSs (cenv ds gs n) b9 (endsOf Q E) [some x0, some x1, some x2] S := propext ⟨And.right, fun h => ⟨rfl, h⟩⟩
theorem u10 {x0 : Val} {n : Nat} {S : Sto} {Q : VQ} {E : XQ} : callN ds gs (n + 1) 10 [x0] S Q E = wpSs (cenv ds gs n) b10 (endsOf Q E) [some x0, none] S := propext ⟨And.right, fun h => ⟨rfl, h⟩⟩
theorem u11 {x0 x1 x2 : Val} {n : Nat} {S : Sto} {Q : VQ} {E : XQ} : callN ds gs (n + 1) 11 [x0, x1, x2] S Q E = wpSs (cenv ds gs n) b11 (endsOf Q E) [some x0, some x1, some x2, none, none, none, none] S := propext ⟨And.right, fun h => ⟨rfl, h⟩⟩
theorem u12 {x0 : Val} {n : Nat} {S : Sto} {Q : VQ} {E : XQ} : callN ds gs (n + 1) 12 [x0] S Q E = wpSs (cenv ds gs n) b12 (endsOf Q E) [some x0, none, none, none] S := propext ⟨And.right, fun h => ⟨rfl, h⟩⟩
theorem u13 {x0 x1 x2 x3 : Val} {n : Nat} {S : Sto} {Q : VQ} {E : XQ} : callN ds gs (n + 1) 13 [x0, x1, x2, x3] S Q E = wpSs (cenv ds gs n) b13 (endsOf Q E) [some x0, some x1, some x2, some x3] S := propext ⟨And.right, fun h => ⟨rfl, h⟩⟩
theorem u14 {x0 x1 x2 : Val} {n : Nat} {S : Sto} {Q : VQ} {E : XQ} : callN ds gs (n + 1) 14 [x0, x1, x2] S Q E = wpSs (cenv ds gs n) b14 (endsOf Q E) [some x0, some x1, some x2, none, none] S := propext ⟨And.right, fun h => ⟨rfl, h⟩⟩
theorem u15 {x0 x1 x2 : Val} {n : Nat} {S : Sto} {Q : VQ} {E : XQ} : callN ds gs (n + 1) 15 [x0, x1, x2] S Q E = wpSs (cenv ds gs n) b15 (endsOf Q E) [some x0, some x1, some x2, none, none] S := propext ⟨And.right, fun h => ⟨rfl, h⟩⟩
theorem u16 {x0 x1 : Val} {n : Nat} {S : Sto} {Q : VQ} {E : XQ} : callN ds gs (n + 1) 16 [x0, x1] S Q E = wpSs (cenv ds gs n) b16 (endsOf Q E) [some x0, some x1, none] S := propext ⟨And.right, fun h => ⟨rfl, h⟩⟩
theorem u17 {x0 x1 : Val} {n : Nat} {S : Sto} {Q : VQ} {E : XQ} : callN ds gs (n + 1) 17 [x0, x1] S Q E = wpSs (cenv ds gs n) b17 (endsOf Q E) [some x0, some x1, none, none] S := propext ⟨And.right, fun h => ⟨rfl, h⟩⟩
theorem u18 {x0 x1 : Val} {n : Nat} {S : Sto} {Q : VQ} {E : XQ} : callN ds gs (n + 1) 18 [x0, x1] S Q E = wpSs (cenv ds gs n) b18 (endsOf Q E) [some x0, some x1, none, none] S := propext ⟨And.right, fun h => ⟨rfl, h⟩⟩
theorem u19 {x0 : Val} {n : Nat} {S : Sto} {Q : VQ} {E : XQ} : callN ds gs (n + 1) 19 [x0] S Q E = wpSs (cenv ds gs n) b19 (endsOf Q E) [some x0, none, none, none, none, none, none, none] S := propext ⟨And.right, fun h => ⟨rfl, h⟩⟩
def tb : Tb := ⟨["all", "bool", "int", "isinstance", "len", "max", "min", "range", "str", "tuple", "type", "zip"], ["is_integer", "is_group", "is_process", "kind_of", "is_payload", "_is_nested", "_is_item", "_law_bag", "_law_draw", "_law_is_int", "_law_value", "_law_payload", "_law_shape", "_law_is_item", "_law_is_payload", "_law_spoilt", "_law_odd", "_law_wrapped", "_law_built", "law"], ["MOST_PROCESSES", "MOST_NESTING", "_FORMS", "CELLS", "MOST_VALUE"]⟩
end My

namespace My
open PySem PM

/-- an integer from lo to hi -/
def isI (v : Val) (lo hi : Int) : Bool := match v with
  | .int i => decide (lo ≤ i) && decide (i ≤ hi)
  | _ => false
def kOf : Val → Int
  | .int k => k
  | _ => 0
theorem isI_int {v : Val} {lo hi : Int} (h : isI v lo hi = true) : ∃ i, v = .int i ∧ lo ≤ i ∧ i ≤ hi := by
  cases v with
  | int i => simpa [isI] using h
  | _ => simp [isI] at h
theorem c0 {v : Val} {lo hi : Int} {n : Nat} {S : Sto} {Q : VQ} {E : XQ} (k : known S v = true) : callN ds gs (n + 1) 0 [v, .int lo, .int hi] S Q E = Q (.bl (isI v lo hi)) S := by
  rw [u0]
  cases v with
  | int i =>
    by_cases h : lo ≤ i <;> simp [b0_0, b0, PM.wpSs, PM.wpS, PM.wpE, PM.wpEs, PM.wpB, PM.wpT, PM.wpA, bindT, setAll, wipeL, endsOf, List.getElem?_cons_zero, List.getElem?_cons_succ, List.set_cons_zero, List.set_cons_succ, List.length_cons, List.length_nil, binS, ixS, itemsOf, biS, gsG, gsK, gsV, gsC, mtT, mtS, cmpS, eqS, eqF, Val.flat, Val.isNon, tru, known, tyB, tyS, istS, tyeq, ieq, atV_0, atV_1, atV_2, atV_3, ixN_0, ixN_1, ixN_2, isI, h]
  | loc l =>
    simp only [known] at k
    cases h : lstAt S l with
    | none => rw [h] at k; cases k
    | some xs => simp [b0_0, b0, PM.wpSs, PM.wpS, PM.wpE, PM.wpEs, PM.wpB, PM.wpT, PM.wpA, bindT, setAll, wipeL, endsOf, List.getElem?_cons_zero, List.getElem?_cons_succ, List.set_cons_zero, List.set_cons_succ, List.length_cons, List.length_nil, binS, ixS, itemsOf, biS, gsG, gsK, gsV, gsC, mtT, mtS, cmpS, eqS, eqF, Val.flat, Val.isNon, tru, known, tyB, tyS, istS, tyeq, ieq, atV_0, atV_1, atV_2, atV_3, ixN_0, ixN_1, ixN_2, isI, h]
  | cst a b => simp [known] at k
  | _ => simp [b0_0, b0, PM.wpSs, PM.wpS, PM.wpE, PM.wpEs, PM.wpB, PM.wpT, PM.wpA, bindT, setAll, wipeL, endsOf, List.getElem?_cons_zero, List.getElem?_cons_succ, List.set_cons_zero, List.set_cons_succ, List.length_cons, List.length_nil, binS, ixS, itemsOf, biS, gsG, gsK, gsV, gsC, mtT, mtS, cmpS, eqS, eqF, Val.flat, Val.isNon, tru, known, tyB, tyS, istS, tyeq, ieq, atV_0, atV_1, atV_2, atV_3, ixN_0, ixN_1, ixN_2, isI]
theorem c1 {v : Val} {n : Nat} {S : Sto} {Q : VQ} {E : XQ} (k : known S v = true) : callN ds gs (n + 2) 1 [v] S Q E = Q (.bl (isI v 1 10)) S := by
  rw [u1]
  simp [b1_0, b1, PM.wpSs, PM.wpS, PM.wpE, PM.wpEs, PM.wpB, PM.wpT, PM.wpA, bindT, setAll, wipeL, endsOf, List.getElem?_cons_zero, List.getElem?_cons_succ, List.set_cons_zero, List.set_cons_succ, List.length_cons, List.length_nil, binS, ixS, itemsOf, biS, gsG, gsK, gsV, gsC, mtT, mtS, c0 k]
theorem c9 {v : Val} {lo hi : Int} {n : Nat} {S : Sto} {Q : VQ} {E : XQ} (k : known S v = true) : callN ds gs (n + 1) 9 [v, .int lo, .int hi] S Q E = Q (.bl (isI v lo hi)) S := by
  rw [u9]
  cases v with
  | int i =>
    by_cases h : lo ≤ i <;> simp [b9_0, b9, PM.wpSs, PM.wpS, PM.wpE, PM.wpEs, PM.wpB, PM.wpT, PM.wpA, bindT, setAll, wipeL, endsOf, List.getElem?_cons_zero, List.getElem?_cons_succ, List.set_cons_zero, List.set_cons_succ, List.length_cons, List.length_nil, binS, ixS, itemsOf, biS, gsG, gsK, gsV, gsC, mtT, mtS, cmpS, eqS, eqF, Val.flat, Val.isNon, tru, known, tyB, tyS, istS, tyeq, ieq, atV_0, atV_1, atV_2, atV_3, ixN_0, ixN_1, ixN_2, isI, h]
  | loc l =>
    simp only [known] at k
    cases h : lstAt S l with
    | none => rw [h] at k; cases k
    | some xs => simp [b9_0, b9, PM.wpSs, PM.wpS, PM.wpE, PM.wpEs, PM.wpB, PM.wpT, PM.wpA, bindT, setAll, wipeL, endsOf, List.getElem?_cons_zero, List.getElem?_cons_succ, List.set_cons_zero, List.set_cons_succ, List.length_cons, List.length_nil, binS, ixS, itemsOf, biS, gsG, gsK, gsV, gsC, mtT, mtS, cmpS, eqS, eqF, Val.flat, Val.isNon, tru, known, tyB, tyS, istS, tyeq, ieq, atV_0, atV_1, atV_2, atV_3, ixN_0, ixN_1, ixN_2, isI, h]
  | cst a b => simp [known] at k
  | _ => simp [b9_0, b9, PM.wpSs, PM.wpS, PM.wpE, PM.wpEs, PM.wpB, PM.wpT, PM.wpA, bindT, setAll, wipeL, endsOf, List.getElem?_cons_zero, List.getElem?_cons_succ, List.set_cons_zero, List.set_cons_succ, List.length_cons, List.length_nil, binS, ixS, itemsOf, biS, gsG, gsK, gsV, gsC, mtT, mtS, cmpS, eqS, eqF, Val.flat, Val.isNon, tru, known, tyB, tyS, istS, tyeq, ieq, atV_0, atV_1, atV_2, atV_3, ixN_0, ixN_1, ixN_2, isI]
/-- a process of a group -/
def isPr (c v : Val) : Bool := match c with
  | .int k => isI (.int k) 1 10 && isI v 0 (k - 1)
  | _ => false
theorem c2 {c v : Val} {n : Nat} {S : Sto} {Q : VQ} {E : XQ} (kc : known S c = true) (k : known S v = true) : callN ds gs (n + 3) 2 [c, v] S Q E = Q (.bl (isPr c v)) S := by
  rw [u2]
  cases hc : isI c 1 10 with
  | false =>
    have : isPr c v = false := by
      cases c with
      | int k => simp [isPr, hc]
      | _ => rfl
    simp [b2_0, b2, PM.wpSs, PM.wpS, PM.wpE, PM.wpEs, PM.wpB, PM.wpT, PM.wpA, bindT, setAll, wipeL, endsOf, List.getElem?_cons_zero, List.getElem?_cons_succ, List.set_cons_zero, List.set_cons_succ, List.length_cons, List.length_nil, binS, ixS, itemsOf, biS, gsG, gsK, gsV, gsC, mtT, mtS, cmpS, eqS, eqF, Val.flat, Val.isNon, tru, known, tyB, tyS, istS, tyeq, ieq, atV_0, atV_1, atV_2, atV_3, ixN_0, ixN_1, ixN_2, c1 kc, hc, this]
  | true =>
    obtain ⟨i, rfl, _, _⟩ := isI_int hc
    simp [b2_0, b2, PM.wpSs, PM.wpS, PM.wpE, PM.wpEs, PM.wpB, PM.wpT, PM.wpA, bindT, setAll, wipeL, endsOf, List.getElem?_cons_zero, List.getElem?_cons_succ, List.set_cons_zero, List.set_cons_succ, List.length_cons, List.length_nil, binS, ixS, itemsOf, biS, gsG, gsK, gsV, gsC, mtT, mtS, cmpS, eqS, eqF, Val.flat, Val.isNon, tru, known, tyB, tyS, istS, tyeq, ieq, atV_0, atV_1, atV_2, atV_3, ixN_0, ixN_1, ixN_2, c1 kc, hc, c0 k, isPr]
mutual
def DK (S : Sto) : Val → Prop
  | .tup xs => DKs S xs
  | .loc n => (lstAt S n).isSome = true
  | .cst _ _ => False
  | _ => True
def DKs (S : Sto) : List Val → Prop
  | [] => True
  | x :: xs => DK S x ∧ DKs S xs
end
theorem DKs.mem {S : Sto} : ∀ {xs : List Val}, DKs S xs → ∀ x ∈ xs, DK S x
  | [], _, x, hx => by simp at hx
  | y :: xs, h, x, hx => by
    simp only [DKs] at h
    rcases List.mem_cons.mp hx with rfl | hx
    · exact h.1
    · exact DKs.mem h.2 x hx
theorem DKs.of {S : Sto} : ∀ {xs : List Val}, (∀ x ∈ xs, DK S x) → DKs S xs
  | [], _ => by simp [DKs]
  | y :: xs, h => by
    simp only [DKs]
    exact ⟨h y List.mem_cons_self, DKs.of fun x hx => h x (List.mem_cons_of_mem _ hx)⟩
theorem DK.known {S : Sto} {v : Val} (h : DK S v) : known S v = true := by
  cases v with
  | loc n => simpa [DK, PM.known] using h
  | cst a b => exact h.elim
  | _ => rfl
/-- the lists of the one store are lists of the other -/
def Ls (S S' : Sto) : Prop := ∀ l, (lstAt S l).isSome = true → (lstAt S' l).isSome = true
mutual
theorem DK.ls {S S' : Sto} (f : Ls S S') : ∀ (v : Val), DK S v → DK S' v
  | .tup xs, h => by
    simp only [DK] at h ⊢
    exact DKs.ls f xs h
  | .loc n, h => by
    simp only [DK] at h ⊢
    exact f n h
  | .cst _ _, h => h.elim
  | .non, _ => trivial
  | .bl _, _ => trivial
  | .int _, _ => trivial
  | .str _, _ => trivial
theorem DKs.ls {S S' : Sto} (f : Ls S S') : ∀ (xs : List Val), DKs S xs → DKs S' xs
  | [], _ => trivial
  | x :: xs, h => by
    simp only [DKs] at h ⊢
    exact ⟨DK.ls f x h.1, DKs.ls f xs h.2⟩
end
/-- a store that has grown -/
def Ext (S S' : Sto) : Prop := S.length ≤ S'.length ∧ ∀ i, i < S.length → S'[i]? = S[i]?
theorem Ext.refl {S : Sto} : Ext S S := ⟨Nat.le_refl _, fun _ _ => rfl⟩
theorem Ext.trans {S S' S'' : Sto} (h : Ext S S') (k : Ext S' S'') : Ext S S'' := ⟨Nat.le_trans h.1 k.1, fun i hi => (k.2 i (Nat.lt_of_lt_of_le hi h.1)).trans (h.2 i hi)⟩
theorem Ext.app {S S' t : Sto} (h : Ext S S') : Ext S (S' ++ t) := ⟨by have := h.1; simp; omega, fun i hi => by rw [List.getElem?_append_left (Nat.lt_of_lt_of_le hi h.1)]; exact h.2 i hi⟩
theorem Ext.set {S S' : Sto} {l : Nat} {o : SObj} (h : Ext S S') (hl : S.length ≤ l) : Ext S (S'.set l o) := ⟨by simpa using h.1, fun i hi => by rw [List.getElem?_set_ne (by omega)]; exact h.2 i hi⟩
theorem Ext.lst {S S' : Sto} (h : Ext S S') {l : Nat} (hl : l < S.length) : lstAt S' l = lstAt S l := by
  unfold lstAt
  rw [h.2 l hl]
theorem Ext.ls {S S' : Sto} (h : Ext S S') : Ls S S' := fun l hl => by
  rw [h.lst (lstAt_lt hl)]
  exact hl

/-! ### payloads -/
inductive Fm where | c | v | s | p
def Fm.py : Fm → Val
  | .c => .str "cell" | .v => .str "value" | .s => .str "process" | .p => .str "payload"
def Fm.cp : Fm → Nat
  | .c => 99 | .v => 118 | .s => 115 | .p => 112
def T7 : List (Str × List Fm) := [("set", [.c, .v]), ("add", [.c, .v]), ("copy", [.c, .c]), ("send", [.s, .p]), ("show", [.c]), ("both", [.p, .p]), ("if", [.c, .p, .p])]
def forms (z : Str) : Option (List Fm) := T7.lookup z
theorem lookup_map {α β : Type} (f : α → β) (z : Str) : ∀ l : List (Str × α), (l.map fun p => (p.1, f p.2)).lookup z = (l.lookup z).map f
  | [] => rfl
  | p :: l => by
    simp only [List.map_cons, List.lookup]
    cases z == p.1 with
    | true => rfl
    | false => exact lookup_map f z l
theorem dk_eq (z : Str) : dk0.lookup z = (forms z).map fun fs => .tup (fs.map Fm.py) := by
  rw [show dk0 = T7.map fun p => (p.1, Val.tup (p.2.map Fm.py)) from rfl]
  exact lookup_map (fun fs : List Fm => Val.tup (fs.map Fm.py)) z T7
mutual
def isPay : Nat → Int → Val → Bool
  | 0, _, _ => false
  | m + 1, k, v => match v with
    | .tup (.str z :: xs) => match forms z with
      | some fs => decide (xs.length = fs.length) && (fs.zip xs).all fun p => isItem m k p.1 p.2
      | none => false
    | _ => false
termination_by m _ _ => (m, 0)
def isItem : Nat → Int → Fm → Val → Bool
  | _, _, .c, v => isI v 0 3
  | _, _, .v, v => isI v (-1000000) 1000000
  | _, k, .s, v => isI v 0 (k - 1)
  | m, k, .p, v => isPay m k v
termination_by m _ _ _ => (m, 1)
end
def kindOf : Val → Val
  | .tup (.str z :: _) => .str z
  | _ => .non
theorem c3 {v : Val} {n : Nat} {S : Sto} {Q : VQ} {E : XQ} (d : DK S v) : callN ds gs (n + 1) 3 [v] S Q E = Q (kindOf v) S := by
  rw [u3]
  cases v with
  | tup xs =>
    cases xs with
    | nil => simp [b3_0, b3_1, t3_1, b3, PM.wpSs, PM.wpS, PM.wpE, PM.wpEs, PM.wpB, PM.wpT, PM.wpA, bindT, setAll, wipeL, endsOf, List.getElem?_cons_zero, List.getElem?_cons_succ, List.set_cons_zero, List.set_cons_succ, List.length_cons, List.length_nil, binS, ixS, itemsOf, biS, gsG, gsK, gsV, gsC, mtT, mtS, cmpS, eqS, eqF, Val.flat, Val.isNon, tru, known, tyB, tyS, istS, tyeq, ieq, atV_0, atV_1, atV_2, atV_3, ixN_0, ixN_1, ixN_2, kindOf]
    | cons x xs =>
      have hp : (0 : Int) < (xs.length : Int) + 1 := by omega
      have kx := (DKs.mem (by simpa [DK] using d) x List.mem_cons_self).known
      cases x with
      | loc l =>
        simp only [known] at kx
        cases h : lstAt S l with
        | none => rw [h] at kx; cases kx
        | some ys => simp [b3_0, b3_1, t3_1, b3, PM.wpSs, PM.wpS, PM.wpE, PM.wpEs, PM.wpB, PM.wpT, PM.wpA, bindT, setAll, wipeL, endsOf, List.getElem?_cons_zero, List.getElem?_cons_succ, List.set_cons_zero, List.set_cons_succ, List.length_cons, List.length_nil, binS, ixS, itemsOf, biS, gsG, gsK, gsV, gsC, mtT, mtS, cmpS, eqS, eqF, Val.flat, Val.isNon, tru, known, tyB, tyS, istS, tyeq, ieq, atV_0, atV_1, atV_2, atV_3, ixN_0, ixN_1, ixN_2, kindOf, hp, h]
      | cst a b => simp [known] at kx
      | _ => simp [b3_0, b3_1, t3_1, b3, PM.wpSs, PM.wpS, PM.wpE, PM.wpEs, PM.wpB, PM.wpT, PM.wpA, bindT, setAll, wipeL, endsOf, List.getElem?_cons_zero, List.getElem?_cons_succ, List.set_cons_zero, List.set_cons_succ, List.length_cons, List.length_nil, binS, ixS, itemsOf, biS, gsG, gsK, gsV, gsC, mtT, mtS, cmpS, eqS, eqF, Val.flat, Val.isNon, tru, known, tyB, tyS, istS, tyeq, ieq, atV_0, atV_1, atV_2, atV_3, ixN_0, ixN_1, ixN_2, kindOf, hp]
  | loc l =>
    have k := d.known
    simp only [known] at k
    cases h : lstAt S l with
    | none => rw [h] at k; cases k
    | some xs => simp [b3_0, b3_1, t3_1, b3, PM.wpSs, PM.wpS, PM.wpE, PM.wpEs, PM.wpB, PM.wpT, PM.wpA, bindT, setAll, wipeL, endsOf, List.getElem?_cons_zero, List.getElem?_cons_succ, List.set_cons_zero, List.set_cons_succ, List.length_cons, List.length_nil, binS, ixS, itemsOf, biS, gsG, gsK, gsV, gsC, mtT, mtS, cmpS, eqS, eqF, Val.flat, Val.isNon, tru, known, tyB, tyS, istS, tyeq, ieq, atV_0, atV_1, atV_2, atV_3, ixN_0, ixN_1, ixN_2, kindOf, h]
  | cst a b => exact d.elim
  | _ => simp [b3_0, b3_1, t3_1, b3, PM.wpSs, PM.wpS, PM.wpE, PM.wpEs, PM.wpB, PM.wpT, PM.wpA, bindT, setAll, wipeL, endsOf, List.getElem?_cons_zero, List.getElem?_cons_succ, List.set_cons_zero, List.set_cons_succ, List.length_cons, List.length_nil, binS, ixS, itemsOf, biS, gsG, gsK, gsV, gsC, mtT, mtS, cmpS, eqS, eqF, Val.flat, Val.isNon, tru, known, tyB, tyS, istS, tyeq, ieq, atV_0, atV_1, atV_2, atV_3, ixN_0, ixN_1, ixN_2, kindOf]
end My

namespace My
open PySem PM

/-! ### the program's payloads -/
theorem pair_rows (fs : List Fm) (xs : List Val) : ((fs.map Fm.py).zip xs).map (fun p => Val.tup [p.1, p.2]) = (fs.zip xs).map fun p => .tup [p.1.py, p.2] := by
  induction fs generalizing xs with
  | nil => rfl
  | cons f fs ih => cases xs with
    | nil => rfl
    | cons x xs => simp [ih]
theorem forms_cons {z : Str} {fs : List Fm} (h : forms z = some fs) : fs ≠ [] ∧ fs.length ≤ 3 := by
  have key : ∀ (l : List (Str × List Fm)), (∀ p ∈ l, p.2 ≠ [] ∧ p.2.length ≤ 3) → l.lookup z = some fs → fs ≠ [] ∧ fs.length ≤ 3 := fun l => by
    induction l with
    | nil => intro _ h; cases h
    | cons p l ih =>
      intro hp h
      simp only [List.lookup] at h
      cases e : z == p.1 with
      | true =>
        rw [e] at h
        cases h
        exact hp p List.mem_cons_self
      | false =>
        rw [e] at h
        exact ih (fun q hq => hp q (List.mem_cons_of_mem _ hq)) h
  refine key T7 (fun p hp => ?_) h
  simp only [T7, List.mem_cons, List.not_mem_nil, or_false] at hp
  rcases hp with rfl | rfl | rfl | rfl | rfl | rfl | rfl <;> exact ⟨by simp, by decide⟩
/-- the items, one after the other -/
theorem loop5 {k : Int} {m N l : Nat} {ρ : LE} {Q : VQ} {S : Sto} (hsl : S.length ≤ l) (h2 : ρ[0]? = some (some (.int k))) (h3 : ρ[2]? = some (some (.int ((m : Int) + 1)))) (hρ : ρ.length = 6)
    (item : ∀ f v S' Q' E', Ext S S' → DK S' v → (∀ S'', Ext S' S'' → Q' (.bl (isItem m k f v)) S'') → callN ds gs N 6 [.int k, f.py, v, .int m] S' Q' E') :
    ∀ (ps : List (Fm × Val)) (bs : List Bool) (S' : Sto), bs.length + ps.length ≤ 1000 → Ext S S' → S'[l]? = some (.lst (bs.map Val.bl)) → DKs S' (ps.map (·.2)) →
    (∀ S'', Ext S S'' → S''[l]? = some (.lst ((bs ++ ps.map fun p => isItem m k p.1 p.2).map Val.bl)) → Q (.loc l) S'') →
    lcS [] l (fun x S2 K => bindT (.tp [4, 5]) x (wipeL ρ [4, 5]) fun ρ2 => PM.wpA (cenv ds gs N) [] ρ2 S2 (fun b S3 => if b = true then PM.wpE (cenv ds gs N) (.call 6 [(.var 0), (.var 4), (.var 5), (.bin .sub (.var 2) (.lit (.int 1)))]) ρ2 S3 (fun y S4 => K (some y) S4) (fun _ _ => False) else K none S3) (fun _ _ => False)) Q (ps.map fun p => .tup [p.1.py, p.2]) (bs.map Val.bl) S'
  | [], bs, S', _, f, e, _, h => by
    simp only [lcS, gdS, List.map_nil, true_and]
    exact h S' f (by simpa using e)
  | p :: ps, bs, S', hl, f, e, d, h => by
    simp only [List.map_cons, lcS, gdS, true_and]
    have r0 : ((((ρ.set 5 none).set 4 none).set 4 (some p.1.py)).set 5 (some p.2))[0]? = some (some (.int k)) := by simp [h2]
    have r2 : ((((ρ.set 5 none).set 4 none).set 4 (some p.1.py)).set 5 (some p.2))[2]? = some (some (.int ((m : Int) + 1))) := by simp [h3]
    have r4 : ((((ρ.set 5 none).set 4 none).set 4 (some p.1.py)).set 5 (some p.2))[4]? = some (some p.1.py) := by simp [hρ]
    have r5 : ((((ρ.set 5 none).set 4 none).set 4 (some p.1.py)).set 5 (some p.2))[5]? = some (some p.2) := by simp [hρ]
    simp only [PM.wpSs, PM.wpS, PM.wpE, PM.wpEs, PM.wpB, PM.wpT, PM.wpA, bindT, setAll, wipeL, endsOf, List.getElem?_cons_zero, List.getElem?_cons_succ, List.set_cons_zero, List.set_cons_succ, List.length_cons, List.length_nil, binS, ixS, itemsOf, biS, gsG, gsK, gsV, gsC, mtT, mtS, if_true, r0, r2, r4, r5, true_and]
    rw [show (m : Int) + 1 - 1 = (m : Int) by omega]
    simp only [List.map_cons, DKs] at d
    refine item p.1 p.2 S' _ _ f d.1 fun S2 f2 => ?_
    have hl' : l < S'.length := (List.getElem?_eq_some_iff.mp e).1
    have e2 : S2[l]? = some (.lst (bs.map Val.bl)) := (f2.2 l hl').trans e
    have hl2 : l < S2.length := (List.getElem?_eq_some_iff.mp e2).1
    have hb : (bs.map Val.bl).length < big := by simp at hl ⊢; unfold big; omega
    refine ⟨e2, hb, ?_⟩
    have e3 : bs.map Val.bl ++ [Val.bl (isItem m k p.1 p.2)] = (bs ++ [isItem m k p.1 p.2]).map Val.bl := by simp
    rw [e3]
    have ls : Ls S' (S2.set l (.lst ((bs ++ [isItem m k p.1 p.2]).map Val.bl))) := fun i hi => by
      by_cases c : i = l
      · subst c
        simp [lstAt, hl2]
      · have := f2.ls i hi
        unfold lstAt at this ⊢
        rw [List.getElem?_set_ne (fun q => c q.symm)]
        exact this
    exact loop5 hsl h2 h3 hρ item ps _ _ (by simp at hl ⊢; omega) ((f.trans f2).set hsl) (by simp [hl2]) (DKs.ls ls _ d.2) fun S'' f4 e4 => h S'' f4 (by simpa using e4)
theorem all_id (bs : List Bool) : blS (bs.map Val.bl) = some bs := by
  induction bs with
  | nil => rfl
  | cons b bs ih => simp [blS, ih]
theorem blS_mapG {α : Type} (f : α → Bool) : ∀ xs : List α, blS (xs.map fun x => .bl (f x)) = some (xs.map f)
  | [] => rfl
  | x :: xs => by simp [blS, blS_mapG f xs]
theorem lst_at {S : Sto} {l : Nat} {xs : List Val} (h : S[l]? = some (.lst xs)) : lstAt S l = some xs := by
  unfold lstAt
  rw [h]
theorem dk_cut {S : Sto} {xs : List Val} (d : DKs S xs) : ∀ l h, DKs S (cutL xs l h) := fun l h => DKs.of fun x m => d.mem x (List.mem_of_mem_drop (List.mem_of_mem_take m))
theorem cut1 {x : Val} {xs : List Val} : cutL (x :: xs) (some 1) none = xs := by
  unfold cutL
  have h1 : HT.sIx (x :: xs).length 0 (some 1) = 1 := by simp [HT.sIx]
  have h2 : HT.sIx (x :: xs).length (x :: xs).length none = (x :: xs).length := rfl
  rw [h1, h2]
  simp
theorem c5 {k : Int} (h1 : 1 ≤ k) (h10 : k ≤ 10) : ∀ (m : Nat) {n : Nat} {v : Val} {S : Sto} {Q : VQ} {E : XQ}, m ≤ 6 → DK S v → (∀ S', Ext S S' → Q (.bl (isPay m k v)) S') → callN ds gs (2 * m + n + 5) 5 [.int k, v, .int m] S Q E
  | 0, n, v, S, Q, E, _, d, h => by
    rw [u5]
    have := h S Ext.refl
    simpa [b5_0, b5_1, b5_2, b5_3, t5_3, t5_2, t5_1, b5, PM.wpSs, PM.wpS, PM.wpE, PM.wpEs, PM.wpB, PM.wpT, PM.wpA, bindT, setAll, wipeL, endsOf, List.getElem?_cons_zero, List.getElem?_cons_succ, List.set_cons_zero, List.set_cons_succ, List.length_cons, List.length_nil, binS, ixS, itemsOf, biS, gsG, gsK, gsV, gsC, mtT, mtS, cmpS, eqS, eqF, Val.flat, Val.isNon, tru, known, tyB, tyS, istS, tyeq, ieq, atV_0, atV_1, atV_2, atV_3, ixN_0, ixN_1, ixN_2, isPay] using this
  | m + 1, n, v, S, Q, E, hm, d, h => by
    have item : ∀ f v S' Q' E', Ext S S' → DK S' v → (∀ S'', Ext S' S'' → Q' (.bl (isItem m k f v)) S'') → callN ds gs (2 * m + n + 6) 6 [.int k, f.py, v, .int m] S' Q' E' := fun f v S' Q' E' _ dv h => by
      rw [u6]
      have h0 := h S' Ext.refl
      have s1 : ¬ (("value" : Str) = "cell") := by decide
      have s2 : ¬ (("process" : Str) = "cell") := by decide
      have s3 : ¬ (("process" : Str) = "value") := by decide
      have s4 : ¬ (("payload" : Str) = "cell") := by decide
      have s5 : ¬ (("payload" : Str) = "value") := by decide
      have s6 : ¬ (("payload" : Str) = "process") := by decide
      cases f with
      | c => simpa [b6_0, b6_1, b6_2, b6_3, t6_3, t6_2, t6_1, b6, PM.wpSs, PM.wpS, PM.wpE, PM.wpEs, PM.wpB, PM.wpT, PM.wpA, bindT, setAll, wipeL, endsOf, List.getElem?_cons_zero, List.getElem?_cons_succ, List.set_cons_zero, List.set_cons_succ, List.length_cons, List.length_nil, binS, ixS, itemsOf, biS, gsG, gsK, gsV, gsC, mtT, mtS, cmpS, eqS, eqF, Val.flat, Val.isNon, tru, known, tyB, tyS, istS, tyeq, ieq, atV_0, atV_1, atV_2, atV_3, ixN_0, ixN_1, ixN_2, Fm.py, s1, s2, s3, c0 dv.known, isItem] using h0
      | v => simpa [b6_0, b6_1, b6_2, b6_3, t6_3, t6_2, t6_1, b6, PM.wpSs, PM.wpS, PM.wpE, PM.wpEs, PM.wpB, PM.wpT, PM.wpA, bindT, setAll, wipeL, endsOf, List.getElem?_cons_zero, List.getElem?_cons_succ, List.set_cons_zero, List.set_cons_succ, List.length_cons, List.length_nil, binS, ixS, itemsOf, biS, gsG, gsK, gsV, gsC, mtT, mtS, cmpS, eqS, eqF, Val.flat, Val.isNon, tru, known, tyB, tyS, istS, tyeq, ieq, atV_0, atV_1, atV_2, atV_3, ixN_0, ixN_1, ixN_2, Fm.py, s1, s2, s3, c0 dv.known, isItem] using h0
      | s =>
        have e : isPr (.int k) v = isI v 0 (k - 1) := by simp [isPr, isI, h1, h10]
        simpa [b6_0, b6_1, b6_2, b6_3, t6_3, t6_2, t6_1, b6, PM.wpSs, PM.wpS, PM.wpE, PM.wpEs, PM.wpB, PM.wpT, PM.wpA, bindT, setAll, wipeL, endsOf, List.getElem?_cons_zero, List.getElem?_cons_succ, List.set_cons_zero, List.set_cons_succ, List.length_cons, List.length_nil, binS, ixS, itemsOf, biS, gsG, gsK, gsV, gsC, mtT, mtS, cmpS, eqS, eqF, Val.flat, Val.isNon, tru, known, tyB, tyS, istS, tyeq, ieq, atV_0, atV_1, atV_2, atV_3, ixN_0, ixN_1, ixN_2, Fm.py, s1, s2, s3, c2 (n := 2 * m + n + 2) (c := .int k) rfl dv.known, e, isItem] using h0
      | p =>
        simp [b6_0, b6_1, b6_2, b6_3, t6_3, t6_2, t6_1, b6, PM.wpSs, PM.wpS, PM.wpE, PM.wpEs, PM.wpB, PM.wpT, PM.wpA, bindT, setAll, wipeL, endsOf, List.getElem?_cons_zero, List.getElem?_cons_succ, List.set_cons_zero, List.set_cons_succ, List.length_cons, List.length_nil, binS, ixS, itemsOf, biS, gsG, gsK, gsV, gsC, mtT, mtS, cmpS, eqS, eqF, Val.flat, Val.isNon, tru, known, tyB, tyS, istS, tyeq, ieq, atV_0, atV_1, atV_2, atV_3, ixN_0, ixN_1, ixN_2, Fm.py, s4, s5, s6]
        exact c5 h1 h10 m (by omega) dv fun S'' f2 => by simpa [isItem] using h S'' f2
    have hn : ¬ ((m : Int) + 1 = 0) := by omega
    have h0 := h S Ext.refl
    have e7 : 2 * (m + 1) + n + 5 = (2 * m + n + 6) + 1 := by omega
    rw [e7, u5]
    have kk : ∀ {Q : VQ} {E : XQ}, callN ds gs (2 * m + n + 6) 3 [v] S Q E = Q (kindOf v) S := fun {Q E} => c3 (n := 2 * m + n + 5) d
    have em : ((m + 1 : Nat) : Int) = (m : Int) + 1 := by omega
    have no : kindOf v = .non → isPay (m + 1) k v = false := fun e => by
      cases v with
      | tup xs => cases xs with
        | nil => simp [isPay]
        | cons x xs => cases x <;> first | (simp [isPay]; done) | (simp [kindOf] at e)
      | _ => simp [isPay]
    by_cases hk : kindOf v = .non
    · rw [no hk] at h0
      simpa [b5_0, b5_1, b5_2, b5_3, t5_3, t5_2, t5_1, b5, PM.wpSs, PM.wpS, PM.wpE, PM.wpEs, PM.wpB, PM.wpT, PM.wpA, bindT, setAll, wipeL, endsOf, List.getElem?_cons_zero, List.getElem?_cons_succ, List.set_cons_zero, List.set_cons_succ, List.length_cons, List.length_nil, binS, ixS, itemsOf, biS, gsG, gsK, gsV, gsC, mtT, mtS, cmpS, eqS, eqF, Val.flat, Val.isNon, tru, known, tyB, tyS, istS, tyeq, ieq, atV_0, atV_1, atV_2, atV_3, ixN_0, ixN_1, ixN_2, em, hn, kk, hk] using h0
    · obtain ⟨z, xs, rfl⟩ : ∃ z xs, v = .tup (.str z :: xs) := by
        cases v with
        | tup xs => cases xs with
          | nil => simp [kindOf] at hk
          | cons x xs => cases x <;> first | exact ⟨_, _, rfl⟩ | (simp [kindOf] at hk)
        | _ => simp [kindOf] at hk
      have kz : kindOf (.tup (.str z :: xs)) = .str z := rfl
      cases hf : forms z with
      | none =>
        have : isPay (m + 1) k (.tup (.str z :: xs)) = false := by simp [isPay, hf]
        rw [this] at h0
        simpa [b5_0, b5_1, b5_2, b5_3, t5_3, t5_2, t5_1, b5, PM.wpSs, PM.wpS, PM.wpE, PM.wpEs, PM.wpB, PM.wpT, PM.wpA, bindT, setAll, wipeL, endsOf, List.getElem?_cons_zero, List.getElem?_cons_succ, List.set_cons_zero, List.set_cons_succ, List.length_cons, List.length_nil, binS, ixS, itemsOf, biS, gsG, gsK, gsV, gsC, mtT, mtS, cmpS, eqS, eqF, Val.flat, Val.isNon, tru, known, tyB, tyS, istS, tyeq, ieq, atV_0, atV_1, atV_2, atV_3, ixN_0, ixN_1, ixN_2, em, hn, kk, kz, dk_eq, hf] using h0
      | some fs =>
        by_cases hl : xs.length = fs.length
        · have hl' : ((xs.length : Int) + 1 = (fs.length : Int) + 1) := by omega
          have ev : isPay (m + 1) k (.tup (.str z :: xs)) = (fs.zip xs).all fun p => isItem m k p.1 p.2 := by simp [isPay, hf, hl]
          rw [ev] at h
          have dx : DKs S xs := by simp only [DK, DKs] at d; exact d.2
          have lp := fun (Q : VQ) (q) => loop5 (k := k) (m := m) (N := 2 * m + n + 6) (l := S.length) (ρ := [some (.int k), some (.tup (.str z :: xs)), some (.int ((m : Int) + 1)), some (.tup (fs.map Fm.py)), none, none]) (Q := Q) (S := S) (Nat.le_refl _) rfl rfl rfl item (fs.zip xs) [] (S ++ [.lst []])
            (by have := forms_cons hf; simp; omega) Ext.refl.app (by simp) (DKs.ls Ext.refl.app.ls _ (DKs.of fun x hx => by
              obtain ⟨p, hp, rfl⟩ := List.mem_map.mp hx
              exact dx.mem _ (List.of_mem_zip hp).2)) q
          have e1 := pair_rows fs xs
          have ek : ∃ kvs, (some (("_FORMS" : Str), dk0)) = some (("_FORMS" : Str), kvs) := ⟨_, rfl⟩
          simp only [b5_0, b5_1, b5_2, b5_3, t5_3, t5_2, t5_1, b5, PM.wpSs, PM.wpS, PM.wpE, PM.wpEs, PM.wpB, PM.wpT, PM.wpA, bindT, setAll, wipeL, endsOf, List.getElem?_cons_zero, List.getElem?_cons_succ, List.set_cons_zero, List.set_cons_succ, List.length_cons, List.length_nil, binS, ixS, itemsOf, biS, gsG, gsK, gsV, gsC, mtT, mtS, cmpS, eqS, eqF, Val.flat, Val.isNon, tru, known, tyB, tyS, istS, tyeq, ieq, atV_0, atV_1, atV_2, atV_3, ixN_0, ixN_1, ixN_2, em, hn, kk, kz, dk_eq, hf, hl', ek, true_and, Bool.and_self, part, partS, slS, cut1, itS, e1, Option.map_some, Option.getD_some, List.length_map, decide_true, decide_false, Bool.not_true, Bool.not_false, Bool.false_eq_true, if_false, if_true, Int.natCast_add, Int.natCast_one, Int.cast_ofNat_Int, List.map_nil] at lp ⊢
          refine lp _ fun S'' f e => ?_
          have e9 := lst_at e
          have := h S'' f
          simpa [biS, e9, blS_mapG, List.all_map, Function.comp_def] using this
        · have hl' : ¬ ((xs.length : Int) + 1 = (fs.length : Int) + 1) := by omega
          have : isPay (m + 1) k (.tup (.str z :: xs)) = false := by simp [isPay, hf, hl]
          rw [this] at h0
          have hl2 : ¬ ((xs.length : Int) = (fs.length : Int)) := by omega
          simpa [b5_0, b5_1, b5_2, b5_3, t5_3, t5_2, t5_1, b5, PM.wpSs, PM.wpS, PM.wpE, PM.wpEs, PM.wpB, PM.wpT, PM.wpA, bindT, setAll, wipeL, endsOf, List.getElem?_cons_zero, List.getElem?_cons_succ, List.set_cons_zero, List.set_cons_succ, List.length_cons, List.length_nil, binS, ixS, itemsOf, biS, gsG, gsK, gsV, gsC, mtT, mtS, cmpS, eqS, eqF, Val.flat, Val.isNon, tru, known, tyB, tyS, istS, tyeq, ieq, atV_0, atV_1, atV_2, atV_3, ixN_0, ixN_1, ixN_2, em, hn, kk, kz, dk_eq, hf, hl', hl2] using h0
end My

namespace My
open PySem PM

/-! ### the law's payloads -/
def lawS (fs : List Fm) : Str := ⟨(fs.map Fm.cp).toArray⟩
def rowV (p : Str × List Fm) : Val := .tup [.str p.1, .str (lawS p.2)]
theorem loop12 {z : Str} {N : Nat} {D : ED} {S : Sto} {l : Nat} {all : List Val} (hl : lstAt S l = some all) : ∀ (rows : List (Str × List Fm)) (o2 o3 : Option Val),
    (∀ fs, rows.lookup z = some fs → D.rt (.str (lawS fs)) S) → (rows.lookup z = none → ∀ o2 o3, D.nx [some (.str z), some (.loc l), o2, o3] S) →
    forS [(l, all)] (.tp [2, 3]) (fun D => PM.wpSs (cenv ds gs N) l12_0 D) D (rows.map rowV) [some (.str z), some (.loc l), o2, o3] S
  | [], o2, o3, _, hn => by
    simp only [forS, gdS, List.map_nil, and_true]
    exact ⟨hl, hn rfl o2 o3⟩
  | p :: r, o2, o3, hf, hn => by
    obtain ⟨y, fs⟩ := p
    by_cases c : y = z
    · subst c
      have := hf fs (by simp [List.lookup])
      simpa [forS, gdS, hl, rowV, l12_0, l12_0_0, PM.wpSs, PM.wpS, PM.wpE, PM.wpEs, PM.wpB, PM.wpT, PM.wpA, bindT, setAll, wipeL, endsOf, List.getElem?_cons_zero, List.getElem?_cons_succ, List.set_cons_zero, List.set_cons_succ, List.length_cons, List.length_nil, binS, ixS, itemsOf, biS, gsG, gsK, gsV, gsC, mtT, mtS, cmpS, eqS, eqF, Val.flat, Val.isNon, tru, known, tyB, tyS, istS, tyeq, ieq, atV_0, atV_1, atV_2, atV_3, ixN_0, ixN_1, ixN_2] using this
    · have e : (z == y) = false := by
        rw [beq_eq_false_iff_ne]
        exact fun q => c q.symm
      have ih := loop12 (D := D) (z := z) (N := N) hl r (some (.str y)) (some (.str (lawS fs))) (fun gs h => hf gs (by simpa [List.lookup, e] using h)) (fun h => hn (by simpa [List.lookup, e] using h))
      have c2 : ¬ (y = z) := c
      simpa [forS, gdS, hl, rowV, l12_0, l12_0_0, PM.wpSs, PM.wpS, PM.wpE, PM.wpEs, PM.wpB, PM.wpT, PM.wpA, bindT, setAll, wipeL, endsOf, List.getElem?_cons_zero, List.getElem?_cons_succ, List.set_cons_zero, List.set_cons_succ, List.length_cons, List.length_nil, binS, ixS, itemsOf, biS, gsG, gsK, gsV, gsC, mtT, mtS, cmpS, eqS, eqF, Val.flat, Val.isNon, tru, known, tyB, tyS, istS, tyeq, ieq, atV_0, atV_1, atV_2, atV_3, ixN_0, ixN_1, ixN_2, c2] using ih
theorem rows_eq : T7.map rowV = [.tup [.str "set", .str "cv"], .tup [.str "add", .str "cv"], .tup [.str "copy", .str "cc"], .tup [.str "send", .str "sp"], .tup [.str "show", .str "c"], .tup [.str "both", .str "pp"], .tup [.str "if", .str "cpp"]] := rfl
def shp (z : Str) : Str := match forms z with
  | some fs => lawS fs
  | none => ""
theorem c12 {z : Str} {n : Nat} {S : Sto} {Q : VQ} {E : XQ} (h : ∀ S', Ext S S' → Q (.str (shp z)) S') : callN ds gs (n + 1) 12 [.str z] S Q E := by
  rw [u12]
  have lp := fun (D : ED) => loop12 (z := z) (N := n) (D := D) (S := S ++ [.lst (T7.map rowV)]) (l := S.length) (all := T7.map rowV) lstAt_new T7 none none
  have h1 := h (S ++ [.lst (T7.map rowV)]) Ext.refl.app
  rw [rows_eq] at lp
  simp only [b12, b12_0, t12_1, b12_1, t12_2, b12_2, PM.wpSs, PM.wpS, PM.wpE, PM.wpEs, PM.wpB, PM.wpT, PM.wpA, bindT, setAll, wipeL, endsOf, List.getElem?_cons_zero, List.getElem?_cons_succ, List.set_cons_zero, List.set_cons_succ, List.length_cons, List.length_nil, binS, ixS, itemsOf, biS, gsG, gsK, gsV, gsC, mtT, mtS, itS, ← rows_eq, lstAt_new, Option.map_some] at lp ⊢
  refine lp _ (fun fs hf => ?_) fun hf o2 o3 => ?_
  · simpa [shp, forms, hf] using h1
  · simpa [shp, forms, hf] using h1
theorem lawS_len (fs : List Fm) : (lawS fs).length = fs.length := by simp [lawS, Str.length]
theorem atI_nat {xs : List Nat} {i : Nat} {c : Nat} (h : xs[i]? = some c) : L2.atI xs (i : Int) = some c := by
  have hl : i < xs.length := (List.getElem?_eq_some_iff.mp h).1
  have e : L2.ixN xs.length (i : Int) = some i := by
    unfold L2.ixN
    rw [if_pos (by omega), if_pos (by omega)]
    simp
  unfold L2.atI
  simp [e, h]
theorem lawS_at {fs : List Fm} {i : Nat} {f : Fm} (h : fs[i]? = some f) : L2.atI (lawS fs).cps.toList (i : Int) = some f.cp := by
  refine atI_nat ?_
  simp [lawS, h]
theorem shp_none {z : Str} (h : forms z = none) : shp z = "" := by simp [shp, h]
theorem shp_some {z : Str} {fs : List Fm} (h : forms z = some fs) : shp z = lawS fs ∧ ¬ (lawS fs = ("" : Str)) := by
  refine ⟨by simp [shp, h], fun e => ?_⟩
  have h1 := lawS_len fs
  rw [e] at h1
  have := (forms_cons h).1
  have h2 : fs.length = 0 := h1.symm
  exact this (List.length_eq_zero_iff.mp h2)
/-- the items by their places -/
theorem all_range {f : Fm → Val → Bool} : ∀ (fs : List Fm) (xs : List Val), fs.length = xs.length →
    ((List.range fs.length).all fun i => match fs[i]?, xs[i]? with | some a, some b => f a b | _, _ => false) = (fs.zip xs).all fun p => f p.1 p.2
  | [], [], _ => rfl
  | a :: fs, b :: xs, h => by
    have ih := all_range (f := f) fs xs (by simpa using h)
    rw [List.length_cons, List.range_succ_eq_map, List.all_cons, List.all_map]
    simp only [List.zip_cons_cons, List.all_cons, ← ih]
    rfl
theorem turn14 {k : Int} {z : Str} {m N i : Nat} {fs : List Fm} {xs : List Val} {f : Fm} {v : Val} {D : ED} {dep : Int} {S : Sto} (hs : ∀ {S' : Sto} {Q' : VQ} {E' : XQ} {f v}, DK S' v → (∀ S'', Ext S' S'' → Q' (.bl (isItem m k f v)) S'') → callN ds gs N 13 [.int k, .str ⟨#[f.cp]⟩, v, .int dep] S' Q' E')
    (e1 : fs[i]? = some f) (e2 : xs[i]? = some v) (hl2 : fs.length ≤ 3) (d : DKs S xs)
    (hn : isItem m k f v = true → ∀ S', Ext S S' → D.nx [some (.int k), some (.tup (.str z :: xs)), some (.int dep), some (.str (lawS fs)), some (.int (i : Int))] S') (hf : isItem m k f v = false → ∀ S', Ext S S' → D.rt (.bl false) S') :
    PM.wpSs (cenv ds gs N) l14_0 D [some (.int k), some (.tup (.str z :: xs)), some (.int dep), some (.str (lawS fs)), some (.int (i : Int))] S := by
  have e3 := lawS_at e1
  have e4 : atV (.str z :: xs) ((i : Int) + 1) = some v := by
    have := atV_nat (xs := .str z :: xs) (i := i + 1) (v := v) (by simpa using e2)
    rwa [show (((i + 1 : Nat)) : Int) = (i : Int) + 1 by omega] at this
  have hb : (lawS fs).length ≤ big := by rw [lawS_len]; unfold big; omega
  simp only [l14_0_0, l14_0, b14_0, b14_1, b14_2, b14_3, b14_4, t14_4, t14_3, t14_2, t14_1, b14, PM.wpSs, PM.wpS, PM.wpE, PM.wpEs, PM.wpB, PM.wpT, PM.wpA, bindT, setAll, wipeL, endsOf, List.getElem?_cons_zero, List.getElem?_cons_succ, List.set_cons_zero, List.set_cons_succ, List.length_cons, List.length_nil, binS, ixS, itemsOf, biS, gsG, gsK, gsV, gsC, mtT, mtS, e3, e4, hb, true_and]
  refine hs (d.mem _ (List.mem_of_getElem? e2)) fun S2 f2 => ?_
  cases hc : isItem m k f v with
  | false => simpa [tru] using hf hc S2 f2
  | true => simpa [tru] using hn hc S2 f2
theorem loop14 {k : Int} {z : Str} {m N : Nat} {fs : List Fm} {xs : List Val} {D : ED} {dep : Int} (hs : ∀ {S' : Sto} {Q' : VQ} {E' : XQ} {f v}, DK S' v → (∀ S'', Ext S' S'' → Q' (.bl (isItem m k f v)) S'') → callN ds gs N 13 [.int k, .str ⟨#[f.cp]⟩, v, .int dep] S' Q' E')
    (hl : fs.length = xs.length) (hl2 : fs.length ≤ 3) : ∀ (ks : List Nat) (o : Option Val) (S : Sto), (∀ i ∈ ks, i < fs.length) → DKs S xs →
    ((ks.all fun i => match fs[i]?, xs[i]? with | some a, some b => isItem m k a b | _, _ => false) = true → ∀ o S', Ext S S' → D.nx [some (.int k), some (.tup (.str z :: xs)), some (.int dep), some (.str (lawS fs)), o] S') →
    ((ks.all fun i => match fs[i]?, xs[i]? with | some a, some b => isItem m k a b | _, _ => false) = false → ∀ S', Ext S S' → D.rt (.bl false) S') →
    forS [] (.nm 4) (fun D => PM.wpSs (cenv ds gs N) l14_0 D) D (ks.map fun (i : Nat) => Val.int (i : Int)) [some (.int k), some (.tup (.str z :: xs)), some (.int dep), some (.str (lawS fs)), o] S
  | [], o, S, _, _, hn, _ => by
    simp only [forS, gdS, List.map_nil, true_and]
    exact hn rfl o S Ext.refl
  | i :: ks, o, S, hk, d, hn, hf => by
    have hi : i < fs.length := hk i List.mem_cons_self
    have e1 : fs[i]? = some fs[i] := by simp [hi]
    have hx : i < xs.length := by omega
    have e2 : xs[i]? = some xs[i] := by simp [hx]
    simp only [forS, gdS, List.map_cons, true_and, bindT, List.set_cons_zero, List.set_cons_succ]
    refine turn14 hs e1 e2 hl2 d (fun hc S2 f2 => ?_) fun hc S2 f2 => ?_
    · exact loop14 (D := D) (z := z) (dep := dep) hs hl hl2 ks (some (.int i)) S2 (fun j hj => hk j (List.mem_cons_of_mem _ hj)) (DKs.ls f2.ls _ d)
        (fun h o S3 f3 => hn (by simp only [List.all_cons, e1, e2, hc, Bool.true_and]; exact h) o S3 (f2.trans f3)) (fun h S3 f3 => hf (by simp only [List.all_cons, e1, e2, hc, Bool.true_and]; exact h) S3 (f2.trans f3))
    · exact hf (by simp only [List.all_cons, e1, e2, hc, Bool.false_and]) S2 f2
theorem rest14n {k : Int} {m n : Nat} {z : Str} {xs : List Val} {D : ED} {dep : Int} {S : Sto} (hf : forms z = none) (h : ∀ S', Ext S S' → D.rt (.bl (isPay (m + 1) k (.tup (.str z :: xs)))) S') :
    PM.wpSs (cenv ds gs (n + 1)) t14_1 D [some (.int k), some (.tup (.str z :: xs)), some (.int dep), none, none] S := by
  simp only [t14_1, b14_1, PM.wpSs, PM.wpS, PM.wpE, PM.wpEs, PM.wpB, PM.wpT, PM.wpA, bindT, setAll, wipeL, endsOf, List.getElem?_cons_zero, List.getElem?_cons_succ, List.set_cons_zero, List.set_cons_succ, List.length_cons, List.length_nil, binS, ixS, itemsOf, biS, gsG, gsK, gsV, gsC, mtT, mtS, cmpS, eqS, eqF, Val.flat, Val.isNon, tru, known, tyB, tyS, istS, tyeq, ieq, atV_0, atV_1, atV_2, atV_3, ixN_0, ixN_1, ixN_2, Bool.not_true, Bool.not_false, Bool.false_eq_true, if_false, if_true, true_and, and_self, Bool.and_self, decide_true, decide_false]
  refine c12 fun S1 f1 => ?_
  have e := shp_none hf
  have ep : isPay (m + 1) k (.tup (.str z :: xs)) = false := by simp [isPay, hf]
  rw [ep] at h
  have el : ("" : Str).length = 0 := rfl
  have eb : (0 : Nat) ≤ big := Nat.zero_le _
  rw [e]
  cases xs with
  | nil =>
    simp only [PM.wpSs, PM.wpS, PM.wpE, PM.wpEs, PM.wpB, PM.wpT, PM.wpA, bindT, setAll, wipeL, endsOf, List.getElem?_cons_zero, List.getElem?_cons_succ, List.set_cons_zero, List.set_cons_succ, List.length_cons, List.length_nil, binS, ixS, itemsOf, biS, gsG, gsK, gsV, gsC, mtT, mtS, cmpS, eqS, eqF, Val.flat, Val.isNon, tru, known, tyB, tyS, istS, tyeq, ieq, atV_0, atV_1, atV_2, atV_3, ixN_0, ixN_1, ixN_2, el, eb, Int.natCast_zero, Int.cast_ofNat_Int, decide_true, Bool.not_true, Bool.not_false, Bool.false_eq_true, if_false, if_true, true_and, and_self, Bool.and_self, Nat.zero_add, Int.natCast_one, Int.zero_add, Int.natCast_add]
    refine c12 fun S2 f2 => ?_
    rw [e]
    simpa [cmpS, eqS, eqF, Val.flat, Val.isNon, tru, known, tyB, tyS, istS, tyeq, ieq, atV_0, atV_1, atV_2, atV_3, ixN_0, ixN_1, ixN_2] using h S2 (f1.trans f2)
  | cons y ys =>
    have q : ¬ ((ys.length : Int) + 1 + 1 = 0 + 1) := by omega
    have := h S1 f1
    have q2 : ¬ ((ys.length : Int) + 1 = 0) := by omega
    have q3 : ¬ ((ys.length : Int) + 1 + 1 = 1) := by omega
    simpa [PM.wpSs, PM.wpS, PM.wpE, PM.wpEs, PM.wpB, PM.wpT, PM.wpA, bindT, setAll, wipeL, endsOf, List.getElem?_cons_zero, List.getElem?_cons_succ, List.set_cons_zero, List.set_cons_succ, List.length_cons, List.length_nil, binS, ixS, itemsOf, biS, gsG, gsK, gsV, gsC, mtT, mtS, cmpS, eqS, eqF, Val.flat, Val.isNon, tru, known, tyB, tyS, istS, tyeq, ieq, atV_0, atV_1, atV_2, atV_3, ixN_0, ixN_1, ixN_2, el, eb, q, q2, q3] using this
end My

namespace My
open PySem PM
theorem ix_tup0 {x : Val} {xs : List Val} {S : Sto} {Q : VQ} : ixS (.tup (x :: xs)) (.int 0) S Q = Q x S := by simp [ixS, itemsOf, atV_0]
theorem len_str {y : Str} {S : Sto} {Q : VQ} : biS .len [.str y] S Q = (y.length ≤ big ∧ Q (.int y.length) S) := rfl
theorem it_range {j : Int} {S : Sto} (h : -(2 ^ 62) ≤ j ∧ j < 2 ^ 62) : itS .range [.int j] S = some ((List.range j.toNat).map fun (i : Nat) => Val.int (i : Int), []) := by simp only [itS, h, and_self, if_true]
theorem cmp_ne_int {a b : Int} {S : Sto} {Q : Bool → Prop} : cmpS .ne (.int a) (.int b) S Q = Q (!(decide (a = b))) := by simp [cmpS, eqS, eqF, Val.flat, ieq]
theorem cmp_eq_int {a b : Int} {S : Sto} {Q : Bool → Prop} : cmpS .eq (.int a) (.int b) S Q = Q (decide (a = b)) := by simp [cmpS, eqS, eqF, Val.flat, ieq]
theorem cmp_eq_str {a b : Str} {S : Sto} {Q : Bool → Prop} : cmpS .eq (.str a) (.str b) S Q = Q (a == b) := by simp [cmpS, eqS, eqF, Val.flat]
theorem tail14 {k : Int} {m n : Nat} {z : Str} {xs : List Val} {fs : List Fm} {D : ED} {dep : Int} {S : Sto} (hs : ∀ {S' : Sto} {Q' : VQ} {E' : XQ} {f v}, DK S' v → (∀ S'', Ext S' S'' → Q' (.bl (isItem m k f v)) S'') → callN ds gs (n + 1) 13 [.int k, .str ⟨#[f.cp]⟩, v, .int dep] S' Q' E')
    (e : shp z = lawS fs) (hl : xs.length = fs.length) (fl : fs.length ≤ 3) (d : DKs S xs) (h : ∀ S', Ext S S' → D.rt (.bl ((fs.zip xs).all fun p => isItem m k p.1 p.2)) S') :
    PM.wpSs (cenv ds gs (n + 1)) t14_2 D [some (.int k), some (.tup (.str z :: xs)), some (.int dep), none, none] S := by
  have eb' : fs.length ≤ big := by unfold big; omega
  have lp := fun (D : ED) => loop14 (N := n + 1) (D := D) (z := z) (dep := dep) hs hl.symm fl (List.range fs.length) none
  have eq9 := all_range (f := isItem m k) fs xs hl.symm
  have hr : -(2 ^ 62) ≤ (fs.length : Int) ∧ (fs.length : Int) < 2 ^ 62 := by omega
  simp only [t14_2, b14_2, nE1, nE2, nE3, nE4, nE5, nE6, nE7, nE8, nE9, nE10, nE11, nE12, nE13, nE14, nE15, nE16, nE17, nE18, nE19, nE20, nS1, nS2, nS3, nS4, nS5, nS6, nS7, nS8, nS9, nS10, nS11, nSs1, nSs2, nEs1, nEs2, nB1, nB2, nB3, nA1, nA2, nA3, nT1, bindT, getz, gets, ix_tup0]
  simp only [setz, sets]
  refine c12 fun S3 f13 => ?_
  rw [e]
  simp only [t14_3, b14_3, nE1, nE2, nE3, nE4, nE5, nE6, nE7, nE8, nE9, nE10, nE11, nE12, nE13, nE14, nE15, nE16, nE17, nE18, nE19, nE20, nS1, nS2, nS3, nS4, nS5, nS6, nS7, nS8, nS9, nS10, nS11, nSs1, nSs2, nEs1, nEs2, nB1, nB2, nB3, nA1, nA2, nA3, nT1, getz, gets, len_str, lawS_len, eb', true_and, it_range hr, Int.toNat_natCast]
  refine lp _ S3 (fun i hi => List.mem_range.mp hi) (DKs.ls f13.ls _ d) (fun hh o S4 f4 => ?_) fun hh S4 f4 => ?_
  · have := h S4 (f13.trans f4)
    rw [← eq9, hh] at this
    simpa only [t14_4, b14_4, nE1, nE2, nE3, nE4, nE5, nE6, nE7, nE8, nE9, nE10, nE11, nE12, nE13, nE14, nE15, nE16, nE17, nE18, nE19, nE20, nS1, nS2, nS3, nS4, nS5, nS6, nS7, nS8, nS9, nS10, nS11, nSs1, nSs2, nEs1, nEs2, nB1, nB2, nB3, nA1, nA2, nA3, nT1] using this
  · have := h S4 (f13.trans f4)
    rw [← eq9, hh] at this
    exact this
theorem rest14s {k : Int} {m n : Nat} {z : Str} {xs : List Val} {fs : List Fm} {D : ED} {dep : Int} {S : Sto} (hs : ∀ {S' : Sto} {Q' : VQ} {E' : XQ} {f v}, DK S' v → (∀ S'', Ext S' S'' → Q' (.bl (isItem m k f v)) S'') → callN ds gs (n + 1) 13 [.int k, .str ⟨#[f.cp]⟩, v, .int dep] S' Q' E')
    (hf : forms z = some fs) (d : DKs S xs) (h : ∀ S', Ext S S' → D.rt (.bl (isPay (m + 1) k (.tup (.str z :: xs)))) S') :
    PM.wpSs (cenv ds gs (n + 1)) t14_1 D [some (.int k), some (.tup (.str z :: xs)), some (.int dep), none, none] S := by
  simp only [t14_1, b14_1, nE1, nE2, nE3, nE4, nE5, nE6, nE7, nE8, nE9, nE10, nE11, nE12, nE13, nE14, nE15, nE16, nE17, nE18, nE19, nE20, nS1, nS2, nS3, nS4, nS5, nS6, nS7, nS8, nS9, nS10, nS11, nSs1, nSs2, nEs1, nEs2, nB1, nB2, nB3, nA1, nA2, nA3, nT1, bindT, setAll, wipeL, endsOf, getz, gets, setz, sets, List.length_cons, List.length_nil, binS, ixS, itemsOf, biS, gsG, gsK, gsV, gsC, mtT, mtS, tru, known, istS, tyS, tyeq, atV_0, Bool.not_true, Bool.not_false, Bool.false_eq_true, if_false, if_true, true_and, and_self, Bool.and_self, decide_true, decide_false]
  refine c12 fun S1 f1 => ?_
  obtain ⟨e, ene⟩ := shp_some hf
  have fl := forms_cons hf
  have eb : (lawS fs).length ≤ big := by rw [lawS_len]; unfold big; omega
  rw [e]
  by_cases hl : xs.length = fs.length
  · have q : ((xs.length : Int) + 1 = (fs.length : Int) + 1) := by omega
    have ep : isPay (m + 1) k (.tup (.str z :: xs)) = (fs.zip xs).all fun p => isItem m k p.1 p.2 := by simp [isPay, hf, hl]
    rw [ep] at h
    have eq0 : (lawS fs == ("" : Str)) = false := by
      rw [beq_eq_false_iff_ne]
      exact ene
    have eb' : fs.length ≤ big := by unfold big; omega
    simp only [nE1, nE2, nE3, nE4, nE5, nE6, nE7, nE8, nE9, nE10, nE11, nE12, nE13, nE14, nE15, nE16, nE17, nE18, nE19, nE20, nS1, nS2, nS3, nS4, nS5, nS6, nS7, nS8, nS9, nS10, nS11, nSs1, nSs2, nEs1, nEs2, nB1, nB2, nB3, nA1, nA2, nA3, nT1, bindT, setAll, wipeL, endsOf, getz, gets, setz, sets, List.length_cons, List.length_nil, binS, ixS, itemsOf, biS, gsG, gsK, gsV, gsC, mtT, mtS, cmp_ne_int, tru, atV_0, lawS_len, eb', q, hl, decide_true, Bool.not_true, Bool.not_false, Bool.false_eq_true, if_false, if_true, true_and, and_self, Bool.and_self, Int.natCast_one, Int.natCast_add]
    refine c12 fun S2 f2 => ?_
    rw [e]
    simp only [cmp_eq_str, eq0, Bool.false_eq_true, if_false]
    exact tail14 hs e hl fl.2 (DKs.ls (f1.trans f2).ls _ d) fun S4 f4 => h S4 ((f1.trans f2).trans f4)
  · have q : ¬ ((xs.length : Int) + 1 = (fs.length : Int) + 1) := by omega
    have q2 : ¬ ((xs.length : Int) = (fs.length : Int)) := by omega
    have ep : isPay (m + 1) k (.tup (.str z :: xs)) = false := by simp [isPay, hf, hl]
    rw [ep] at h
    have := h S1 f1
    have eb' : fs.length ≤ big := by unfold big; omega
    simpa [nE1, nE2, nE3, nE4, nE5, nE6, nE7, nE8, nE9, nE10, nE11, nE12, nE13, nE14, nE15, nE16, nE17, nE18, nE19, nE20, nS1, nS2, nS3, nS4, nS5, nS6, nS7, nS8, nS9, nS10, nS11, nSs1, nSs2, nEs1, nEs2, nB1, nB2, nB3, nA1, nA2, nA3, nT1, bindT, setAll, wipeL, endsOf, getz, gets, setz, sets, List.length_cons, List.length_nil, binS, ixS, itemsOf, biS, gsG, gsK, gsV, gsC, mtT, mtS, cmp_ne_int, tru, lawS_len, eb, eb', q, q2] using this
theorem rest14 {k : Int} {m n : Nat} {x : Val} {xs : List Val} {D : ED} {dep : Int} {S : Sto} (hs : ∀ {S' : Sto} {Q' : VQ} {E' : XQ} {f v}, DK S' v → (∀ S'', Ext S' S'' → Q' (.bl (isItem m k f v)) S'') → callN ds gs (n + 1) 13 [.int k, .str ⟨#[f.cp]⟩, v, .int dep] S' Q' E')
    (dx : DK S x) (d : DKs S xs) (h : ∀ S', Ext S S' → D.rt (.bl (isPay (m + 1) k (.tup (x :: xs)))) S') : PM.wpSs (cenv ds gs (n + 1)) t14_1 D [some (.int k), some (.tup (x :: xs)), some (.int dep), none, none] S := by
  have h0 := h S Ext.refl
  by_cases hx : ∃ z, x = .str z
  · obtain ⟨z, rfl⟩ := hx
    cases hf : forms z with
    | none => exact rest14n hf h
    | some fs => exact rest14s hs hf d h
  · have ep : isPay (m + 1) k (.tup (x :: xs)) = false := by
      cases x with
      | str z => exact absurd ⟨z, rfl⟩ hx
      | _ => simp [isPay]
    rw [ep] at h0
    have e : istS S x .str = false := by
      cases x with
      | str z => exact absurd ⟨z, rfl⟩ hx
      | loc l =>
        have kx := dx.known
        simp only [known] at kx
        cases hh : lstAt S l with
        | none => rw [hh] at kx; cases kx
        | some ys => simp [istS, tyS, hh, tyeq]
      | cst a b => exact dx.elim
      | _ => simp [istS, tyS, tyeq]
    simpa [t14_1, b14_1, PM.wpSs, PM.wpS, PM.wpE, PM.wpEs, PM.wpB, PM.wpT, ixS, itemsOf, atV_0, tru, dx.known, e] using h0
theorem c14 {c : Val} : ∀ (m : Nat) {n : Nat} {v : Val} {S : Sto} {Q : VQ} {E : XQ}, m ≤ 6 → DK S c → DK S v → (∀ S', Ext S S' → Q (.bl (isI c 1 10 && isPay m (kOf c) v)) S') → callN ds gs (2 * m + n + 3) 14 [c, v, .int (7 - m)] S Q E
  | m, n, v, S, Q, E, hm, dc, d, h => by
    have h0 := h S Ext.refl
    have e10 : ((10 : Int) ^ (6 : Int).toNat) = 1000000 := by decide
    have s1 : ¬ ((⟨#[118]⟩ : Str) = "c") := by decide
    have s2 : ¬ ((⟨#[115]⟩ : Str) = "c") := by decide
    have s3 : ¬ ((⟨#[115]⟩ : Str) = "v") := by decide
    have s4 : ¬ ((⟨#[112]⟩ : Str) = "c") := by decide
    have s5 : ¬ ((⟨#[112]⟩ : Str) = "v") := by decide
    have s6 : ¬ ((⟨#[112]⟩ : Str) = "s") := by decide
    have s7 : ((⟨#[99]⟩ : Str) = "c") := by decide
    have s8 : ((⟨#[118]⟩ : Str) = "v") := by decide
    have s9 : ((⟨#[115]⟩ : Str) = "s") := by decide
    have t1 : ¬ (("v" : Str) = "c") := by decide
    have t2 : ¬ (("s" : Str) = "c") := by decide
    have t3 : ¬ (("s" : Str) = "v") := by decide
    rw [u14]
    cases hc : isI c 1 10 with
    | false =>
      simp only [hc, Bool.false_and] at h0
      simpa [b14, b14_0, PM.wpSs, PM.wpS, PM.wpE, PM.wpEs, PM.wpB, PM.wpT, tru, c9 (n := 2 * m + n + 1) dc.known, hc, endsOf] using h0
    | true =>
      obtain ⟨k, rfl, k1, k10⟩ := isI_int hc
      simp only [hc, Bool.true_and, kOf] at h h0
      have hcc : isI (.int k) 1 10 = true := hc
      have kk : known S (.int k) = true := rfl
      cases m with
      | zero =>
        simp only [isPay] at h0
        simpa [b14, b14_0, PM.wpSs, PM.wpS, PM.wpE, PM.wpEs, PM.wpB, PM.wpT, tru, cmpS, endsOf, c9 (n := n + 1) kk, hcc] using h0
      | succ m =>
        have hd : ¬ ((6 : Int) < 7 - ((m + 1 : Nat) : Int)) := by omega
        have hd2 : ¬ ((6 : Int) < 7 - ((m : Int) + 1)) := by omega
        have hd3 : (7 : Int) - ((m : Int) + 1) ≤ 6 := by omega
        have ee : 2 * (m + 1) + n + 2 = (2 * m + n + 3) + 1 := by omega
        rw [ee]
        have item : ∀ {S' : Sto} {Q' : VQ} {E' : XQ} {f v}, DK S' v → (∀ S'', Ext S' S'' → Q' (.bl (isItem m k f v)) S'') → callN ds gs (2 * m + n + 3 + 1) 13 [.int k, .str ⟨#[f.cp]⟩, v, .int (7 - ((m + 1 : Nat) : Int))] S' Q' E' := fun {S' Q' E' f v} dv h => by
          rw [u13]
          have h0 := h S' Ext.refl
          have ks : ∀ {lo hi Q E}, callN ds gs (2 * m + n + 3) 9 [v, .int lo, .int hi] S' Q E = Q (.bl (isI v lo hi)) S' := fun {lo hi Q E} => c9 (n := 2 * m + n + 2) dv.known
          cases f with
          | c => simpa [b13_0, b13_1, b13_2, b13_3, t13_3, t13_2, t13_1, b13, PM.wpSs, PM.wpS, PM.wpE, PM.wpEs, PM.wpB, PM.wpT, PM.wpA, bindT, setAll, wipeL, endsOf, List.getElem?_cons_zero, List.getElem?_cons_succ, List.set_cons_zero, List.set_cons_succ, List.length_cons, List.length_nil, binS, ixS, itemsOf, biS, gsG, gsK, gsV, gsC, mtT, mtS, cmpS, eqS, eqF, Val.flat, Val.isNon, tru, known, tyB, tyS, istS, tyeq, ieq, atV_0, atV_1, atV_2, atV_3, ixN_0, ixN_1, ixN_2, Fm.cp, s7, ks, isItem] using h0
          | v => simpa [b13_0, b13_1, b13_2, b13_3, t13_3, t13_2, t13_1, b13, PM.wpSs, PM.wpS, PM.wpE, PM.wpEs, PM.wpB, PM.wpT, PM.wpA, bindT, setAll, wipeL, endsOf, List.getElem?_cons_zero, List.getElem?_cons_succ, List.set_cons_zero, List.set_cons_succ, List.length_cons, List.length_nil, binS, ixS, itemsOf, biS, gsG, gsK, gsV, gsC, mtT, mtS, cmpS, eqS, eqF, Val.flat, Val.isNon, tru, known, tyB, tyS, istS, tyeq, ieq, atV_0, atV_1, atV_2, atV_3, ixN_0, ixN_1, ixN_2, Fm.cp, s1, s8, t1, e10, ks, isItem] using h0
          | s => simpa [b13_0, b13_1, b13_2, b13_3, t13_3, t13_2, t13_1, b13, PM.wpSs, PM.wpS, PM.wpE, PM.wpEs, PM.wpB, PM.wpT, PM.wpA, bindT, setAll, wipeL, endsOf, List.getElem?_cons_zero, List.getElem?_cons_succ, List.set_cons_zero, List.set_cons_succ, List.length_cons, List.length_nil, binS, ixS, itemsOf, biS, gsG, gsK, gsV, gsC, mtT, mtS, cmpS, eqS, eqF, Val.flat, Val.isNon, tru, known, tyB, tyS, istS, tyeq, ieq, atV_0, atV_1, atV_2, atV_3, ixN_0, ixN_1, ixN_2, Fm.cp, s2, s3, s9, t2, t3, ks, isItem] using h0
          | p =>
            have e6 : (7 : Int) - ((m + 1 : Nat) : Int) + 1 = 7 - (m : Int) := by omega
            have b1 : (((⟨#[112]⟩ : Str) == "c") = false) := by decide
            have b2 : (((⟨#[112]⟩ : Str) == "v") = false) := by decide
            have b3 : (((⟨#[112]⟩ : Str) == "s") = false) := by decide
            simp only [b13_0, b13_1, b13_2, b13_3, t13_3, t13_2, t13_1, b13, PM.wpSs, PM.wpS, PM.wpE, PM.wpEs, PM.wpB, PM.wpT, PM.wpA, bindT, setAll, wipeL, endsOf, List.getElem?_cons_zero, List.getElem?_cons_succ, List.set_cons_zero, List.set_cons_succ, List.length_cons, List.length_nil, binS, ixS, itemsOf, biS, gsG, gsK, gsV, gsC, mtT, mtS, cmpS, eqS, eqF, Val.flat, Val.isNon, tru, known, tyB, tyS, istS, tyeq, ieq, atV_0, atV_1, atV_2, atV_3, ixN_0, ixN_1, ixN_2, Fm.cp, b1, b2, b3, e6, Bool.false_eq_true, if_false, and_self, Bool.and_self, if_true, decide_false]
            refine c14 (c := .int k) m (by omega) trivial dv fun S'' f2 => ?_
            have := h S'' f2
            simpa [isItem, hcc, kOf] using this
        have isT : ∀ b, istS S v .tuple = b → known S v = true := fun _ _ => d.known
        cases v with
        | tup xs =>
          cases xs with
          | nil =>
            have : isPay (m + 1) k (.tup []) = false := by simp [isPay]
            rw [this] at h0
            simpa [b14, b14_0, PM.wpSs, PM.wpS, PM.wpE, PM.wpEs, PM.wpB, PM.wpT, biS, itemsOf, eqS, eqF, Val.flat, known, tru, cmpS, endsOf, istS, tyS, tyeq, c9 (n := 2 * m + n + 3) kk, hcc, hd, hd2, hd3] using h0
          | cons x xs =>
            simp only [DK, DKs] at d
            have q : ¬ ((xs.length : Int) + 1 = 0) := by omega
            have := rest14 (n := 2 * m + n + 3) (D := endsOf Q E) (x := x) (xs := xs) (S := S) item d.1 d.2 h
            simpa [b14, b14_0, PM.wpSs, PM.wpS, PM.wpE, PM.wpEs, PM.wpB, PM.wpT, biS, itemsOf, eqS, eqF, Val.flat, known, tru, cmpS, istS, tyS, tyeq, c9 (n := 2 * m + n + 3) kk, hcc, hd, hd2, hd3, q] using this
        | loc l =>
          have kx := d.known
          simp only [known] at kx
          have : isPay (m + 1) k (.loc l) = false := by simp [isPay]
          rw [this] at h0
          cases hh : lstAt S l with
          | none => rw [hh] at kx; cases kx
          | some ys => simpa [b14, b14_0, PM.wpSs, PM.wpS, PM.wpE, PM.wpEs, PM.wpB, PM.wpT, known, tru, cmpS, endsOf, istS, tyS, hh, tyeq, c9 (n := 2 * m + n + 3) kk, hcc, hd, hd2, hd3] using h0
        | cst a b => exact d.elim
        | _ =>
          simp only [isPay] at h0
          simpa [b14, b14_0, PM.wpSs, PM.wpS, PM.wpE, PM.wpEs, PM.wpB, PM.wpT, known, tru, cmpS, endsOf, istS, tyS, tyeq, c9 (n := 2 * m + n + 3) kk, hcc, hd, hd2, hd3] using h0
end My

namespace My
open PySem PM
/-! ### the law's own draws -/
def Bg (S : Sto) (b : Nat) : Prop := ∃ x y k : Int, S[b]? = some (.lst [.int x, .int y, .int k])
def Fr (b : Nat) (S S' : Sto) : Prop := S.length ≤ S'.length ∧ (∀ l, l ≠ b → l < S.length → S'[l]? = S[l]?) ∧ Bg S' b
theorem Bg.lt {S : Sto} {b : Nat} (h : Bg S b) : b < S.length := by
  obtain ⟨x, y, k, h⟩ := h
  exact (List.getElem?_eq_some_iff.mp h).1
theorem Fr.refl {S : Sto} {b : Nat} (h : Bg S b) : Fr b S S := ⟨Nat.le_refl _, fun _ _ _ => rfl, h⟩
theorem Fr.trans {S S' S'' : Sto} {b : Nat} (h : Fr b S S') (k : Fr b S' S'') : Fr b S S'' :=
  ⟨Nat.le_trans h.1 k.1, fun l hl hs => (k.2.1 l hl (Nat.lt_of_lt_of_le hs h.1)).trans (h.2.1 l hl hs), k.2.2⟩
theorem Fr.set {S : Sto} {b : Nat} {x y k : Int} (h : b < S.length) : Fr b S (S.set b (.lst [.int x, .int y, .int k])) :=
  ⟨by simp, fun l hl hs => by rw [List.getElem?_set_ne (fun e => hl e.symm)], ⟨x, y, k, by simp [h]⟩⟩
theorem Fr.app {S S' t : Sto} {b : Nat} (h : Fr b S S') : Fr b S (S' ++ t) := by
  refine ⟨by have := h.1; simp; omega, fun l hl hs => ?_, ?_⟩
  · rw [List.getElem?_append_left (Nat.lt_of_lt_of_le hs h.1)]
    exact h.2.1 l hl hs
  · obtain ⟨x, y, k, e⟩ := h.2.2
    refine ⟨x, y, k, ?_⟩
    rw [List.getElem?_append_left (List.getElem?_eq_some_iff.mp e).1]
    exact e
theorem getset {S : Sto} {b : Nat} {o : SObj} (h : b < S.length) : (S.set b o)[b]? = some o := by simp [h]
theorem small_mul {i : Int} (h0 : 0 ≤ i) (h : i < 2 ^ 62) (j : Int) : L2.CMul i j := .inl (by omega)
theorem small_mulr {j : Int} (h0 : 0 ≤ j) (h : j < 2 ^ 62) (i : Int) : L2.CMul i j := .inr (by omega)
theorem c8 {b n : Nat} {m : Int} {S : Sto} {Q : VQ} {E : XQ} (hm : 0 < m) (hm2 : m < 2 ^ 60) (hb : Bg S b) (h : ∀ r S', Fr b S S' → 0 ≤ r → r < m → Q (.int r) S') : callN ds gs (n + 1) 8 [.loc b, .int m] S Q E := by
  have hlt := hb.lt
  obtain ⟨x, y, k, hS⟩ := hb
  have l0 : lstAt S b = some [.int x, .int y, .int k] := by simp [lstAt, hS]
  have l1 : ∀ a c : Val, lstAt (S.set b (.lst [a, c, .int k])) b = some [a, c, .int k] := fun a c => by simp [lstAt, hlt]
  have hm3 : m < 2 ^ 80 := by omega
  rw [u8]
  by_cases hx : x = 0
  · subst hx
    have s0 := Int.emod_nonneg (y * 48271 + k * 69621 + 11) (b := 2147483647) (by decide)
    have s1 := Int.emod_lt_of_pos (y * 48271 + k * 69621 + 11) (b := 2147483647) (by decide)
    generalize hs : (y * 48271 + k * 69621 + 11) % 2147483647 = s at s0 s1
    have m1 : L2.CMul y 48271 := small_mulr (by decide) (by decide) _
    have m2 : L2.CMul k 69621 := small_mulr (by decide) (by decide) _
    have m3 : L2.CMul s 2147483629 := small_mulr (by decide) (by decide) _
    have m4 : L2.CMul s s := small_mul s0 (by omega) _
    have m5 : L2.CMul k 16807 := small_mulr (by decide) (by decide) _
    simp only [b8_0, b8_1, b8_2, b8_3, t8_3, t8_2, t8_1, b8, PM.wpSs, PM.wpS, PM.wpE, PM.wpEs, PM.wpB, PM.wpT, PM.wpA, bindT, setAll, wipeL, endsOf, List.getElem?_cons_zero, List.getElem?_cons_succ, List.set_cons_zero, List.set_cons_succ, List.length_cons, List.length_nil, binS, ixS, itemsOf, biS, gsG, gsK, gsV, gsC, mtT, mtS, cmpS, eqS, eqF, Val.flat, Val.isNon, tru, known, tyB, tyS, istS, tyeq, ieq, atV_0, atV_1, atV_2, atV_3, ixN_0, ixN_1, ixN_2, l0, hS, hs, m1, m2, m3, m4, m5, getset hlt, subS, l1, List.set_set, hm, hm3, true_and, if_true, beq_self_eq_true, and_self, Bool.and_self, Nat.reduceAdd, Int.reduceLT, decide_true]
    refine h _ _ (Fr.set hlt) (Int.emod_nonneg _ (by omega)) (Int.emod_lt_of_pos _ hm)
  · have e : (x == 0) = false := by simpa using hx
    simp only [b8_0, b8_1, b8_2, b8_3, t8_3, t8_2, t8_1, b8, PM.wpSs, PM.wpS, PM.wpE, PM.wpEs, PM.wpB, PM.wpT, PM.wpA, bindT, setAll, wipeL, endsOf, List.getElem?_cons_zero, List.getElem?_cons_succ, List.set_cons_zero, List.set_cons_succ, List.length_cons, List.length_nil, binS, ixS, itemsOf, biS, gsG, gsK, gsV, gsC, mtT, mtS, cmpS, eqS, eqF, Val.flat, Val.isNon, tru, known, tyB, tyS, istS, tyeq, ieq, atV_0, atV_1, atV_2, atV_3, ixN_0, ixN_1, ixN_2, l0, hS, hx, decide_false, getset hlt, subS, l1, hm, hm3, true_and, Bool.false_eq_true, if_false, if_true, Bool.and_self, and_self, Nat.reduceAdd]
    refine h _ _ (Fr.set hlt) (Int.emod_nonneg _ (by omega)) (Int.emod_lt_of_pos _ hm)
theorem c7 {k n : Nat} {ns : List Int} {S : Sto} {Q : VQ} {E : XQ} (hS : S[0]? = some (.rol (ns.map Val.int))) (h : ∀ x y : Int, Q (.loc S.length) (S ++ [.lst [.int x, .int y, .int k]])) : callN ds gs (n + 1) 7 [.loc 0, .int k] S Q E := by
  have l0 : lstAt S 0 = some (ns.map Val.int) := by simp [lstAt, hS]
  rw [u7]
  have e18 : ((10 : Int) ^ (18 : Int).toNat) = 1000000000000000000 := by decide
  by_cases hk : (k : Int) < ns.length
  · have hk' : k < ns.length := by omega
    have a : atV (ns.map Val.int) (k : Int) = some (.int ns[k]) := atV_nat (by simp [hk'])
    by_cases hc : 1000000000000000000 ≤ ns[k]
    · simpa [b7_0, b7_1, b7_2, b7_3, t7_3, t7_2, t7_1, b7, PM.wpSs, PM.wpS, PM.wpE, PM.wpEs, PM.wpB, PM.wpT, PM.wpA, bindT, setAll, wipeL, endsOf, List.getElem?_cons_zero, List.getElem?_cons_succ, List.set_cons_zero, List.set_cons_succ, List.length_cons, List.length_nil, binS, ixS, itemsOf, biS, gsG, gsK, gsV, gsC, mtT, mtS, cmpS, eqS, eqF, Val.flat, Val.isNon, tru, known, tyB, tyS, istS, tyeq, ieq, atV_0, atV_1, atV_2, atV_3, ixN_0, ixN_1, ixN_2, l0, hk, a, e18, hc] using h _ _
    · simpa [b7_0, b7_1, b7_2, b7_3, t7_3, t7_2, t7_1, b7, PM.wpSs, PM.wpS, PM.wpE, PM.wpEs, PM.wpB, PM.wpT, PM.wpA, bindT, setAll, wipeL, endsOf, List.getElem?_cons_zero, List.getElem?_cons_succ, List.set_cons_zero, List.set_cons_succ, List.length_cons, List.length_nil, binS, ixS, itemsOf, biS, gsG, gsK, gsV, gsC, mtT, mtS, cmpS, eqS, eqF, Val.flat, Val.isNon, tru, known, tyB, tyS, istS, tyeq, ieq, atV_0, atV_1, atV_2, atV_3, ixN_0, ixN_1, ixN_2, l0, hk, a, e18, hc] using h _ _
  · simpa [b7_0, b7_1, b7_2, b7_3, t7_3, t7_2, t7_1, b7, PM.wpSs, PM.wpS, PM.wpE, PM.wpEs, PM.wpB, PM.wpT, PM.wpA, bindT, setAll, wipeL, endsOf, List.getElem?_cons_zero, List.getElem?_cons_succ, List.set_cons_zero, List.set_cons_succ, List.length_cons, List.length_nil, binS, ixS, itemsOf, biS, gsG, gsK, gsV, gsC, mtT, mtS, cmpS, eqS, eqF, Val.flat, Val.isNon, tru, known, tyB, tyS, istS, tyeq, ieq, atV_0, atV_1, atV_2, atV_3, ixN_0, ixN_1, ixN_2, l0, hk, e18] using h _ _
theorem lst_fr {S S' : Sto} {b : Nat} (f : Fr b S S') : Ls S S' := fun l h => by
  by_cases e : l = b
  · subst e
    obtain ⟨x, y, k, e⟩ := f.2.2
    simp [lstAt, e]
  · have := f.2.1 l e (lstAt_lt h)
    unfold lstAt at h ⊢
    rw [this]
    exact h
theorem DK.fr {S S' : Sto} {b : Nat} (f : Fr b S S') (v : Val) (d : DK S v) : DK S' v := DK.ls (lst_fr f) v d
theorem DKs.fr {S S' : Sto} {b : Nat} (f : Fr b S S') (v : List Val) (d : DKs S v) : DKs S' v := DKs.ls (lst_fr f) v d
/-- a value for set, add -/
theorem c10 {b n : Nat} {S : Sto} {Q : VQ} {E : XQ} (hb : Bg S b) (h : ∀ r S', Fr b S S' → Q (.int r) S') : callN ds gs (n + 2) 10 [.loc b] S Q E := by
  rw [u10]
  have e6 : ((10 : Int) ^ (6 : Int).toNat) = 1000000 := by decide
  simp only [b10, b10_0, PM.wpSs, PM.wpS, PM.wpE, PM.wpEs, PM.wpB, PM.wpT, PM.wpA, bindT, setAll, wipeL, endsOf, List.getElem?_cons_zero, List.getElem?_cons_succ, List.set_cons_zero, List.set_cons_succ, List.length_cons, List.length_nil, binS, ixS, itemsOf, biS, gsG, gsK, gsV, gsC, mtT, mtS]
  refine c8 (by decide) (by decide) hb fun r S' f g1 g2 => ?_
  by_cases hr : r = 6
  · simp [t10_1, b10_1, cmpS, eqS, eqF, Val.flat, Val.isNon, tru, known, tyB, tyS, istS, tyeq, ieq, atV_0, atV_1, atV_2, atV_3, ixN_0, ixN_1, ixN_2, hr, PM.wpSs, PM.wpS, PM.wpE, PM.wpEs, PM.wpB, PM.wpT, PM.wpA, bindT, setAll, wipeL, endsOf, List.getElem?_cons_zero, List.getElem?_cons_succ, List.set_cons_zero, List.set_cons_succ, List.length_cons, List.length_nil, binS, ixS, itemsOf, biS, gsG, gsK, gsV, gsC, mtT, mtS]
    exact c8 (by decide) (by decide) f.2.2 fun r2 S2 f2 _ _ => h _ _ (f.trans f2)
  · have l := lstAt_new (S := S') (xs := [.int 0, .int 1, .int (-1), .int 5, .int 1000000, .int (-1000000)])
    obtain ⟨y, hy, my⟩ := atV_int (xs := [.int 0, .int 1, .int (-1), .int 5, .int 1000000, .int (-1000000)]) g1 (by simp; omega)
    have hi : ∃ i, y = .int i := by
      simp only [List.mem_cons, List.not_mem_nil, or_false] at my
      rcases my with rfl | rfl | rfl | rfl | rfl | rfl <;> exact ⟨_, rfl⟩
    obtain ⟨i, rfl⟩ := hi
    have := h i (S' ++ [.lst [.int 0, .int 1, .int (-1), .int 5, .int 1000000, .int (-1000000)]]) f.app
    simpa [t10_1, b10_1, t10_2, b10_2, cmpS, eqS, eqF, Val.flat, Val.isNon, tru, known, tyB, tyS, istS, tyeq, ieq, atV_0, atV_1, atV_2, atV_3, ixN_0, ixN_1, ixN_2, hr, PM.wpSs, PM.wpS, PM.wpE, PM.wpEs, PM.wpB, PM.wpT, PM.wpA, bindT, setAll, wipeL, endsOf, List.getElem?_cons_zero, List.getElem?_cons_succ, List.set_cons_zero, List.set_cons_succ, List.length_cons, List.length_nil, binS, ixS, itemsOf, biS, gsG, gsK, gsV, gsC, mtT, mtS, e6, l, hy] using this
end My

namespace My
open PySem PM

/-! ### a spoilt value -/
/-- nested at most so deep, at most 100 items wide -/
def Lv : Nat → Val → Prop
  | 0, v => ∀ xs, v ≠ .tup xs
  | k + 1, v => ∀ xs, v = .tup xs → xs.length ≤ 100 ∧ ∀ x ∈ xs, Lv k x
theorem cut_len (xs : List Val) (l h : Option Int) : (cutL xs l h).length ≤ xs.length := by
  unfold cutL
  rw [List.length_take, List.length_drop]
  omega
theorem cut_mem {xs : List Val} {l h : Option Int} {x : Val} (m : x ∈ cutL xs l h) : x ∈ xs := by
  unfold cutL at m
  exact List.mem_of_mem_drop (List.mem_of_mem_take m)
theorem cut_dk {S : Sto} {xs : List Val} (l h : Option Int) (d : DKs S xs) : DKs S (cutL xs l h) := DKs.of fun x m => d.mem x (cut_mem m)
theorem dk_app {S : Sto} {xs ys : List Val} (d : DKs S xs) (e : DKs S ys) : DKs S (xs ++ ys) := DKs.of fun x m => by
  rcases List.mem_append.mp m with m | m
  · exact d.mem x m
  · exact e.mem x m
theorem dk_one {S : Sto} {x : Val} (d : DK S x) : DKs S [x] := ⟨d, trivial⟩
theorem ist_tup {S : Sto} {v : Val} (k : known S v = true) : istS S v .tuple = (match v with | .tup _ => true | _ => false) := by
  cases v with
  | loc l =>
    simp only [known] at k
    cases hh : lstAt S l with
    | none => rw [hh] at k; cases k
    | some xs => simp [istS, tyS, hh, tyeq]
  | _ => simp [istS, tyS, tyeq]
theorem c15 {b : Nat} {odd : Val} : ∀ (k : Nat) {n : Nat} {v : Val} {S : Sto} {Q : VQ} {E : XQ}, Bg S b → Lv k v → DK S v → DK S odd → (∀ r S', Fr b S S' → DK S' r → Q r S') → callN ds gs (k + n + 2) 15 [.loc b, v, odd] S Q E
  | k, n, v, S, Q, E, hb, hv, dv, dodd, h => by
    have back : (∀ xs, v ≠ .tup xs) → callN ds gs (k + n + 2) 15 [.loc b, v, odd] S Q E := fun ht => by
      rw [u15]
      have e : istS S v .tuple = false := by
        rw [ist_tup dv.known]
        cases v <;> first | rfl | exact absurd rfl (ht _)
      have := h odd S (Fr.refl hb) dodd
      simpa [b15, b15_0, PM.wpSs, PM.wpS, PM.wpE, PM.wpEs, PM.wpB, PM.wpT, PM.wpA, bindT, setAll, wipeL, endsOf, List.getElem?_cons_zero, List.getElem?_cons_succ, List.set_cons_zero, List.set_cons_succ, List.length_cons, List.length_nil, binS, ixS, itemsOf, biS, gsG, gsK, gsV, gsC, mtT, mtS, tru, e, dv.known] using this
    cases v with
    | tup xs =>
      cases k with
      | zero => exact back hv
      | succ k =>
        obtain ⟨hl, hx⟩ := hv xs rfl
        rw [u15]
        cases xs with
        | nil =>
          have := h odd S (Fr.refl hb) dodd
          simpa [b15, b15_0, PM.wpSs, PM.wpS, PM.wpE, PM.wpEs, PM.wpB, PM.wpT, PM.wpA, bindT, setAll, wipeL, endsOf, List.getElem?_cons_zero, List.getElem?_cons_succ, List.set_cons_zero, List.set_cons_succ, List.length_cons, List.length_nil, binS, ixS, itemsOf, biS, gsG, gsK, gsV, gsC, mtT, mtS, cmpS, eqS, eqF, Val.flat, Val.isNon, tru, known, tyB, tyS, istS, tyeq, ieq, atV_0, atV_1, atV_2, atV_3, ixN_0, ixN_1, ixN_2] using this
        | cons x0 r =>
          have e0 : ¬ ((r.length : Int) + 1 = 0) := by omega
          generalize hxs : x0 :: r = xs at *
          have hlen : (xs.length : Int) = (r.length : Int) + 1 := by rw [← hxs]; simp
          have ez : ¬ ((xs.length : Int) = 0) := by omega
          simp only [DK] at dv
          simp only [b15, b15_0, PM.wpSs, PM.wpS, PM.wpE, PM.wpEs, PM.wpB, PM.wpT, PM.wpA, bindT, setAll, wipeL, endsOf, List.getElem?_cons_zero, List.getElem?_cons_succ, List.set_cons_zero, List.set_cons_succ, List.length_cons, List.length_nil, binS, ixS, itemsOf, biS, gsG, gsK, gsV, gsC, mtT, mtS, cmpS, eqS, eqF, Val.flat, Val.isNon, tru, known, tyB, tyS, istS, tyeq, ieq, atV_0, atV_1, atV_2, atV_3, ixN_0, ixN_1, ixN_2, ez, decide_true, decide_false, Bool.not_true, Bool.false_eq_true, if_false, Bool.and_self, if_true, true_and]
          refine c8 (by decide) (by decide) hb fun r5 S1 f1 _ _ => ?_
          by_cases h5 : r5 = 0
          · have := h odd S1 f1 (DK.fr f1 _ dodd)
            simpa [cmpS, eqS, eqF, Val.flat, Val.isNon, tru, known, tyB, tyS, istS, tyeq, ieq, atV_0, atV_1, atV_2, atV_3, ixN_0, ixN_1, ixN_2, PM.wpSs, PM.wpS, PM.wpE, PM.wpEs, PM.wpB, PM.wpT, PM.wpA, bindT, setAll, wipeL, endsOf, List.getElem?_cons_zero, List.getElem?_cons_succ, List.set_cons_zero, List.set_cons_succ, List.length_cons, List.length_nil, binS, ixS, itemsOf, biS, gsG, gsK, gsV, gsC, mtT, mtS, h5] using this
          · simp only [t15_1, b15_1, cmpS, eqS, eqF, Val.flat, Val.isNon, tru, known, tyB, tyS, istS, tyeq, ieq, atV_0, atV_1, atV_2, atV_3, ixN_0, ixN_1, ixN_2, PM.wpSs, PM.wpS, PM.wpE, PM.wpEs, PM.wpB, PM.wpT, PM.wpA, bindT, setAll, wipeL, endsOf, List.getElem?_cons_zero, List.getElem?_cons_succ, List.set_cons_zero, List.set_cons_succ, List.length_cons, List.length_nil, binS, ixS, itemsOf, biS, gsG, gsK, gsV, gsC, mtT, mtS, h5, decide_true, decide_false, Bool.not_true, Bool.false_eq_true, if_false, Bool.and_self, if_true, true_and]
            refine c8 (by omega) (by omega) f1.2.2 fun at' S2 f2 g1 g2 => ?_
            simp only [t15_2, b15_2, cmpS, eqS, eqF, Val.flat, Val.isNon, tru, known, tyB, tyS, istS, tyeq, ieq, atV_0, atV_1, atV_2, atV_3, ixN_0, ixN_1, ixN_2, PM.wpSs, PM.wpS, PM.wpE, PM.wpEs, PM.wpB, PM.wpT, PM.wpA, bindT, setAll, wipeL, endsOf, List.getElem?_cons_zero, List.getElem?_cons_succ, List.set_cons_zero, List.set_cons_succ, List.length_cons, List.length_nil, binS, ixS, itemsOf, biS, gsG, gsK, gsV, gsC, mtT, mtS]
            refine c8 (by decide) (by decide) f2.2.2 fun ch S3 f3 _ _ => ?_
            have ff := (f1.trans f2).trans f3
            have d3 := DKs.fr ff _ dv
            have o3 := DK.fr ff _ dodd
            have cl := fun l h => cut_len xs l h
            by_cases q0 : ch = 0
            · have b0 : (cutL xs none (some at')).length + (cutL xs (some (at' + 1)) none).length ≤ big := by
                have := cl none (some at'); have := cl (some (at' + 1)) none; unfold big; omega
              have := h (.tup (cutL xs none (some at') ++ cutL xs (some (at' + 1)) none)) S3 ff (by simp only [DK]; exact dk_app (cut_dk _ _ d3) (cut_dk _ _ d3))
              simpa [t15_3, b15_3, cmpS, eqS, eqF, Val.flat, Val.isNon, tru, known, tyB, tyS, istS, tyeq, ieq, atV_0, atV_1, atV_2, atV_3, ixN_0, ixN_1, ixN_2, PM.wpSs, PM.wpS, PM.wpE, PM.wpEs, PM.wpB, PM.wpT, PM.wpA, bindT, setAll, wipeL, endsOf, List.getElem?_cons_zero, List.getElem?_cons_succ, List.set_cons_zero, List.set_cons_succ, List.length_cons, List.length_nil, binS, ixS, itemsOf, biS, gsG, gsK, gsV, gsC, mtT, mtS, q0, part, partS, slS, b0] using this
            · by_cases q1 : ch = 1
              · have b0 : (cutL xs none (some at')).length + 1 ≤ big := by
                  have := cl none (some at'); unfold big; omega
                have b1 : (cutL xs none (some at')).length + ((cutL xs (some at') none).length + 1) ≤ big := by
                  have := cl none (some at'); have := cl (some at') none; unfold big; omega
                have b1' : (cutL xs none (some at')).length + 1 + (cutL xs (some at') none).length ≤ big := by omega
                have := h (.tup ((cutL xs none (some at') ++ [odd]) ++ cutL xs (some at') none)) S3 ff (by simp only [DK]; exact dk_app (dk_app (cut_dk _ _ d3) (dk_one o3)) (cut_dk _ _ d3))
                simpa [t15_3, b15_3, t15_4, b15_4, cmpS, eqS, eqF, Val.flat, Val.isNon, tru, known, tyB, tyS, istS, tyeq, ieq, atV_0, atV_1, atV_2, atV_3, ixN_0, ixN_1, ixN_2, PM.wpSs, PM.wpS, PM.wpE, PM.wpEs, PM.wpB, PM.wpT, PM.wpA, bindT, setAll, wipeL, endsOf, List.getElem?_cons_zero, List.getElem?_cons_succ, List.set_cons_zero, List.set_cons_succ, List.length_cons, List.length_nil, binS, ixS, itemsOf, biS, gsG, gsK, gsV, gsC, mtT, mtS, q0, q1, part, partS, slS, b0, b1, b1'] using this
              · by_cases q2 : ch = 2
                · have b0 : (cutL xs none (some at')).length + (cutL xs (some at') (some (at' + 1))).length ≤ big := by
                    have := cl none (some at'); have := cl (some at') (some (at' + 1)); unfold big; omega
                  have b1 : (cutL xs none (some at')).length + (cutL xs (some at') (some (at' + 1))).length + (cutL xs (some at') none).length ≤ big := by
                    have := cl none (some at'); have := cl (some at') (some (at' + 1)); have := cl (some at') none; unfold big; omega
                  have := h (.tup ((cutL xs none (some at') ++ cutL xs (some at') (some (at' + 1))) ++ cutL xs (some at') none)) S3 ff (by simp only [DK]; exact dk_app (dk_app (cut_dk _ _ d3) (cut_dk _ _ d3)) (cut_dk _ _ d3))
                  have b1' : (cutL xs none (some at')).length + ((cutL xs (some at') (some (at' + 1))).length + (cutL xs (some at') none).length) ≤ big := by omega
                  simpa [t15_3, b15_3, t15_4, b15_4, t15_5, b15_5, cmpS, eqS, eqF, Val.flat, Val.isNon, tru, known, tyB, tyS, istS, tyeq, ieq, atV_0, atV_1, atV_2, atV_3, ixN_0, ixN_1, ixN_2, PM.wpSs, PM.wpS, PM.wpE, PM.wpEs, PM.wpB, PM.wpT, PM.wpA, bindT, setAll, wipeL, endsOf, List.getElem?_cons_zero, List.getElem?_cons_succ, List.set_cons_zero, List.set_cons_succ, List.length_cons, List.length_nil, binS, ixS, itemsOf, biS, gsG, gsK, gsV, gsC, mtT, mtS, q0, q1, q2, part, partS, slS, b0, b1, b1'] using this
                · by_cases q3 : ch = 3
                  · have i1 := cl none (some at')
                    have i2 := cl (some (at' + 1)) (some (at' + 2))
                    have i3 := cl (some at') (some (at' + 1))
                    have i4 := cl (some (at' + 2)) none
                    have b0 : (cutL xs none (some at')).length + (cutL xs (some (at' + 1)) (some (at' + 2))).length ≤ big := by unfold big; omega
                    have b1 : (cutL xs none (some at')).length + (cutL xs (some (at' + 1)) (some (at' + 2))).length + (cutL xs (some at') (some (at' + 1))).length ≤ big := by unfold big; omega
                    have b2 : (cutL xs none (some at')).length + (cutL xs (some (at' + 1)) (some (at' + 2))).length + (cutL xs (some at') (some (at' + 1))).length + (cutL xs (some (at' + 2)) none).length ≤ big := by unfold big; omega
                    have := h (.tup (((cutL xs none (some at') ++ cutL xs (some (at' + 1)) (some (at' + 2))) ++ cutL xs (some at') (some (at' + 1))) ++ cutL xs (some (at' + 2)) none)) S3 ff (by simp only [DK]; exact dk_app (dk_app (dk_app (cut_dk _ _ d3) (cut_dk _ _ d3)) (cut_dk _ _ d3)) (cut_dk _ _ d3))
                    simp only [t15_3, b15_3, t15_4, b15_4, t15_5, b15_5, t15_6, b15_6, cmpS, eqS, eqF, Val.flat, Val.isNon, tru, known, tyB, tyS, istS, tyeq, ieq, atV_0, atV_1, atV_2, atV_3, ixN_0, ixN_1, ixN_2, PM.wpSs, PM.wpS, PM.wpE, PM.wpEs, PM.wpB, PM.wpT, PM.wpA, bindT, setAll, wipeL, endsOf, List.getElem?_cons_zero, List.getElem?_cons_succ, List.set_cons_zero, List.set_cons_succ, List.length_cons, List.length_nil, binS, ixS, itemsOf, biS, gsG, gsK, gsV, gsC, mtT, mtS, q0, q1, q2, q3, part, partS, slS, b0, b1, b2, List.length_append, decide_true, decide_false, Bool.not_true, Bool.false_eq_true, if_false, Bool.and_self, if_true, true_and]
                    exact this
                  · obtain ⟨y, hy, my⟩ := atV_int g1 g2
                    have b0 : (cutL xs none (some at')).length + 1 ≤ big := by
                      have := cl none (some at'); unfold big; omega
                    have b1 : (cutL xs none (some at')).length + 1 + (cutL xs (some (at' + 1)) none).length ≤ big := by
                      have := cl none (some at'); have := cl (some (at' + 1)) none; unfold big; omega
                    simp only [t15_3, b15_3, t15_4, b15_4, t15_5, b15_5, t15_6, b15_6, t15_7, b15_7, cmpS, eqS, eqF, Val.flat, Val.isNon, tru, known, tyB, tyS, istS, tyeq, ieq, atV_0, atV_1, atV_2, atV_3, ixN_0, ixN_1, ixN_2, PM.wpSs, PM.wpS, PM.wpE, PM.wpEs, PM.wpB, PM.wpT, PM.wpA, bindT, setAll, wipeL, endsOf, List.getElem?_cons_zero, List.getElem?_cons_succ, List.set_cons_zero, List.set_cons_succ, List.length_cons, List.length_nil, binS, ixS, itemsOf, biS, gsG, gsK, gsV, gsC, mtT, mtS, q0, q1, q2, q3, part, partS, slS, hy, decide_true, decide_false, Bool.not_true, Bool.false_eq_true, if_false, Bool.and_self, if_true, true_and]
                    have e : k + 1 + n + 1 = k + n + 2 := by omega
                    rw [e]
                    refine c15 k f3.2.2 (hx y my) (d3.mem y my) o3 fun z S4 f4 dz => ?_
                    have d4 := DKs.fr f4 _ d3
                    have := h (.tup ((cutL xs none (some at') ++ [z]) ++ cutL xs (some (at' + 1)) none)) S4 (ff.trans f4) (by simp only [DK]; exact dk_app (dk_app (cut_dk _ _ d4) (dk_one dz)) (cut_dk _ _ d4))
                    simpa only [b0, b1, List.length_append, List.length_cons, List.length_nil, Nat.zero_add, true_and] using this
    | _ => exact back (fun _ => by simp)
end My

namespace My
open PySem PM
theorem s_set_set : ((("set" : Str) == "set") = true) := by decide
theorem s_set_add : ((("set" : Str) == "add") = false) := by decide
theorem s_set_copy : ((("set" : Str) == "copy") = false) := by decide
theorem s_set_show : ((("set" : Str) == "show") = false) := by decide
theorem s_set_send : ((("set" : Str) == "send") = false) := by decide
theorem s_set_both : ((("set" : Str) == "both") = false) := by decide
theorem s_set_if : ((("set" : Str) == "if") = false) := by decide
theorem s_add_set : ((("add" : Str) == "set") = false) := by decide
theorem s_add_add : ((("add" : Str) == "add") = true) := by decide
theorem s_add_copy : ((("add" : Str) == "copy") = false) := by decide
theorem s_add_show : ((("add" : Str) == "show") = false) := by decide
theorem s_add_send : ((("add" : Str) == "send") = false) := by decide
theorem s_add_both : ((("add" : Str) == "both") = false) := by decide
theorem s_add_if : ((("add" : Str) == "if") = false) := by decide
theorem s_copy_set : ((("copy" : Str) == "set") = false) := by decide
theorem s_copy_add : ((("copy" : Str) == "add") = false) := by decide
theorem s_copy_copy : ((("copy" : Str) == "copy") = true) := by decide
theorem s_copy_show : ((("copy" : Str) == "show") = false) := by decide
theorem s_copy_send : ((("copy" : Str) == "send") = false) := by decide
theorem s_copy_both : ((("copy" : Str) == "both") = false) := by decide
theorem s_copy_if : ((("copy" : Str) == "if") = false) := by decide
theorem s_show_set : ((("show" : Str) == "set") = false) := by decide
theorem s_show_add : ((("show" : Str) == "add") = false) := by decide
theorem s_show_copy : ((("show" : Str) == "copy") = false) := by decide
theorem s_show_show : ((("show" : Str) == "show") = true) := by decide
theorem s_show_send : ((("show" : Str) == "send") = false) := by decide
theorem s_show_both : ((("show" : Str) == "both") = false) := by decide
theorem s_show_if : ((("show" : Str) == "if") = false) := by decide
theorem s_send_set : ((("send" : Str) == "set") = false) := by decide
theorem s_send_add : ((("send" : Str) == "add") = false) := by decide
theorem s_send_copy : ((("send" : Str) == "copy") = false) := by decide
theorem s_send_show : ((("send" : Str) == "show") = false) := by decide
theorem s_send_send : ((("send" : Str) == "send") = true) := by decide
theorem s_send_both : ((("send" : Str) == "both") = false) := by decide
theorem s_send_if : ((("send" : Str) == "if") = false) := by decide
theorem s_both_set : ((("both" : Str) == "set") = false) := by decide
theorem s_both_add : ((("both" : Str) == "add") = false) := by decide
theorem s_both_copy : ((("both" : Str) == "copy") = false) := by decide
theorem s_both_show : ((("both" : Str) == "show") = false) := by decide
theorem s_both_send : ((("both" : Str) == "send") = false) := by decide
theorem s_both_both : ((("both" : Str) == "both") = true) := by decide
theorem s_both_if : ((("both" : Str) == "if") = false) := by decide
theorem s_if_set : ((("if" : Str) == "set") = false) := by decide
theorem s_if_add : ((("if" : Str) == "add") = false) := by decide
theorem s_if_copy : ((("if" : Str) == "copy") = false) := by decide
theorem s_if_show : ((("if" : Str) == "show") = false) := by decide
theorem s_if_send : ((("if" : Str) == "send") = false) := by decide
theorem s_if_both : ((("if" : Str) == "both") = false) := by decide
theorem s_if_if : ((("if" : Str) == "if") = true) := by decide
/-! ### the law's payloads are drawn -/
theorem lv_flat {v : Val} (h : ∀ xs, v ≠ .tup xs) : ∀ k, Lv k v
  | 0 => h
  | k + 1 => fun xs e => absurd e (h xs)
theorem lv_up : ∀ {k : Nat} {v : Val}, Lv k v → Lv (k + 1) v
  | 0, v, h => fun xs e => absurd e (h xs)
  | k + 1, v, h => fun xs e => ⟨(h xs e).1, fun x hx => lv_up ((h xs e).2 x hx)⟩
theorem lv_le {k j : Nat} {v : Val} (h : Lv k v) (l : k ≤ j) : Lv j v := by
  induction l with
  | refl => exact h
  | step _ ih => exact lv_up ih
def Pv (k : Nat) (v : Val) : Prop := (∃ xs, v = .tup xs) ∧ Lv k v ∧ ∀ S, DK S v
theorem pv_mk {k : Nat} {xs : List Val} (hl : xs.length ≤ 100) (h : ∀ x ∈ xs, Lv k x ∧ ∀ S, DK S x) : Pv (k + 1) (.tup xs) :=
  ⟨⟨xs, rfl⟩, fun ys e => by cases e; exact ⟨hl, fun x hx => (h x hx).1⟩, fun S => by simp only [DK]; exact DKs.of fun x hx => (h x hx).2 S⟩
theorem p_str {k : Nat} {z : Str} : Lv k (.str z) ∧ ∀ S, DK S (.str z) := ⟨lv_flat (fun _ => by simp) k, fun _ => trivial⟩
theorem p_int {k : Nat} {z : Int} : Lv k (.int z) ∧ ∀ S, DK S (.int z) := ⟨lv_flat (fun _ => by simp) k, fun _ => trivial⟩
theorem p_pv {k : Nat} {v : Val} (h : Pv k v) : Lv k v ∧ ∀ S, DK S v := h.2
theorem pv2 {k : Nat} {a b : Val} (ha : Lv k a ∧ ∀ S, DK S a) (hb : Lv k b ∧ ∀ S, DK S b) : Pv (k + 1) (.tup [a, b]) := pv_mk (by simp) fun x hx => by
  simp only [List.mem_cons, List.not_mem_nil, or_false] at hx
  rcases hx with rfl | rfl <;> assumption
theorem pv3 {k : Nat} {a b c : Val} (ha : Lv k a ∧ ∀ S, DK S a) (hb : Lv k b ∧ ∀ S, DK S b) (hc : Lv k c ∧ ∀ S, DK S c) : Pv (k + 1) (.tup [a, b, c]) := pv_mk (by simp) fun x hx => by
  simp only [List.mem_cons, List.not_mem_nil, or_false] at hx
  rcases hx with rfl | rfl | rfl <;> assumption
theorem pv4 {k : Nat} {a b c d : Val} (ha : Lv k a ∧ ∀ S, DK S a) (hb : Lv k b ∧ ∀ S, DK S b) (hc : Lv k c ∧ ∀ S, DK S c) (hd : Lv k d ∧ ∀ S, DK S d) : Pv (k + 1) (.tup [a, b, c, d]) := pv_mk (by simp) fun x hx => by
  simp only [List.mem_cons, List.not_mem_nil, or_false] at hx
  rcases hx with rfl | rfl | rfl | rfl <;> assumption
theorem c_eqs {a b : Str} {S : Sto} {Q : Bool → Prop} : cmpS .eq (.str a) (.str b) S Q = Q (a == b) := cmp_eq_str
/-- behind the kind -/
theorem rest11 {b n : Nat} {c cell : Int} {d : Nat} {kind : Str} {S : Sto} {Q : VQ} {E : XQ} (hb : Bg S b) (h0 : 1 ≤ c) (h1 : c ≤ 10)
    (rc : 1 ≤ d → ∀ {S : Sto} {Q : VQ} {E : XQ}, Bg S b → (∀ v S', Fr b S S' → Pv d v → Q v S') → callN ds gs (n + 2) 11 [.loc b, .int c, .int (d : Int)] S Q E)
    (hk : kind = "show" ∨ kind = "set" ∨ kind = "add" ∨ kind = "copy" ∨ (1 ≤ d ∧ (kind = "send" ∨ kind = "both" ∨ kind = "if")))
    (h : ∀ v S', Fr b S S' → Pv (d + 1) v → Q v S') :
    PM.wpSs (cenv ds gs (n + 2)) t11_3 (endsOf Q E) [some (.loc b), some (.int c), some (.int ((d : Int) + 1)), some (.str kind), some (.int cell), none, none] S := by
  have ed : (d : Int) + 1 - 1 = (d : Int) := by omega
  rcases hk with rfl | rfl | rfl | rfl | ⟨hd, rfl | rfl | rfl⟩
  · simp only [t11_3, b11_3, PM.wpSs, PM.wpS, PM.wpE, PM.wpEs, PM.wpB, PM.wpT, PM.wpA, bindT, setAll, wipeL, endsOf, List.getElem?_cons_zero, List.getElem?_cons_succ, List.set_cons_zero, List.set_cons_succ, List.length_cons, List.length_nil, binS, ixS, itemsOf, biS, gsG, gsK, gsV, gsC, mtT, mtS, c_eqs, s_set_set, s_set_add, s_set_copy, s_set_show, s_set_send, s_set_both, s_set_if, s_add_set, s_add_add, s_add_copy, s_add_show, s_add_send, s_add_both, s_add_if, s_copy_set, s_copy_add, s_copy_copy, s_copy_show, s_copy_send, s_copy_both, s_copy_if, s_show_set, s_show_add, s_show_copy, s_show_show, s_show_send, s_show_both, s_show_if, s_send_set, s_send_add, s_send_copy, s_send_show, s_send_send, s_send_both, s_send_if, s_both_set, s_both_add, s_both_copy, s_both_show, s_both_send, s_both_both, s_both_if, s_if_set, s_if_add, s_if_copy, s_if_show, s_if_send, s_if_both, s_if_if, tru, if_true]
    exact h _ S (Fr.refl hb) (pv2 p_str p_int)
  · simp only [t11_3, b11_3, t11_4, b11_4, PM.wpSs, PM.wpS, PM.wpE, PM.wpEs, PM.wpB, PM.wpT, PM.wpA, bindT, setAll, wipeL, endsOf, List.getElem?_cons_zero, List.getElem?_cons_succ, List.set_cons_zero, List.set_cons_succ, List.length_cons, List.length_nil, binS, ixS, itemsOf, biS, gsG, gsK, gsV, gsC, mtT, mtS, c_eqs, s_set_set, s_set_add, s_set_copy, s_set_show, s_set_send, s_set_both, s_set_if, s_add_set, s_add_add, s_add_copy, s_add_show, s_add_send, s_add_both, s_add_if, s_copy_set, s_copy_add, s_copy_copy, s_copy_show, s_copy_send, s_copy_both, s_copy_if, s_show_set, s_show_add, s_show_copy, s_show_show, s_show_send, s_show_both, s_show_if, s_send_set, s_send_add, s_send_copy, s_send_show, s_send_send, s_send_both, s_send_if, s_both_set, s_both_add, s_both_copy, s_both_show, s_both_send, s_both_both, s_both_if, s_if_set, s_if_add, s_if_copy, s_if_show, s_if_send, s_if_both, s_if_if, tru, if_true, Bool.false_eq_true, if_false]
    exact c10 hb fun r S' f => h _ S' f (pv3 p_str p_int p_int)
  · simp only [t11_3, b11_3, t11_4, b11_4, PM.wpSs, PM.wpS, PM.wpE, PM.wpEs, PM.wpB, PM.wpT, PM.wpA, bindT, setAll, wipeL, endsOf, List.getElem?_cons_zero, List.getElem?_cons_succ, List.set_cons_zero, List.set_cons_succ, List.length_cons, List.length_nil, binS, ixS, itemsOf, biS, gsG, gsK, gsV, gsC, mtT, mtS, c_eqs, s_set_set, s_set_add, s_set_copy, s_set_show, s_set_send, s_set_both, s_set_if, s_add_set, s_add_add, s_add_copy, s_add_show, s_add_send, s_add_both, s_add_if, s_copy_set, s_copy_add, s_copy_copy, s_copy_show, s_copy_send, s_copy_both, s_copy_if, s_show_set, s_show_add, s_show_copy, s_show_show, s_show_send, s_show_both, s_show_if, s_send_set, s_send_add, s_send_copy, s_send_show, s_send_send, s_send_both, s_send_if, s_both_set, s_both_add, s_both_copy, s_both_show, s_both_send, s_both_both, s_both_if, s_if_set, s_if_add, s_if_copy, s_if_show, s_if_send, s_if_both, s_if_if, tru, if_true, Bool.false_eq_true, if_false]
    exact c10 hb fun r S' f => h _ S' f (pv3 p_str p_int p_int)
  · simp only [t11_3, b11_3, t11_4, b11_4, t11_5, b11_5, PM.wpSs, PM.wpS, PM.wpE, PM.wpEs, PM.wpB, PM.wpT, PM.wpA, bindT, setAll, wipeL, endsOf, List.getElem?_cons_zero, List.getElem?_cons_succ, List.set_cons_zero, List.set_cons_succ, List.length_cons, List.length_nil, binS, ixS, itemsOf, biS, gsG, gsK, gsV, gsC, mtT, mtS, c_eqs, s_set_set, s_set_add, s_set_copy, s_set_show, s_set_send, s_set_both, s_set_if, s_add_set, s_add_add, s_add_copy, s_add_show, s_add_send, s_add_both, s_add_if, s_copy_set, s_copy_add, s_copy_copy, s_copy_show, s_copy_send, s_copy_both, s_copy_if, s_show_set, s_show_add, s_show_copy, s_show_show, s_show_send, s_show_both, s_show_if, s_send_set, s_send_add, s_send_copy, s_send_show, s_send_send, s_send_both, s_send_if, s_both_set, s_both_add, s_both_copy, s_both_show, s_both_send, s_both_both, s_both_if, s_if_set, s_if_add, s_if_copy, s_if_show, s_if_send, s_if_both, s_if_if, tru, if_true, Bool.false_eq_true, if_false]
    exact c8 (by decide) (by decide) hb fun r S' f _ _ => h _ S' f (pv3 p_str p_int p_int)
  · simp only [t11_3, b11_3, t11_4, b11_4, t11_5, b11_5, t11_6, b11_6, PM.wpSs, PM.wpS, PM.wpE, PM.wpEs, PM.wpB, PM.wpT, PM.wpA, bindT, setAll, wipeL, endsOf, List.getElem?_cons_zero, List.getElem?_cons_succ, List.set_cons_zero, List.set_cons_succ, List.length_cons, List.length_nil, binS, ixS, itemsOf, biS, gsG, gsK, gsV, gsC, mtT, mtS, c_eqs, s_set_set, s_set_add, s_set_copy, s_set_show, s_set_send, s_set_both, s_set_if, s_add_set, s_add_add, s_add_copy, s_add_show, s_add_send, s_add_both, s_add_if, s_copy_set, s_copy_add, s_copy_copy, s_copy_show, s_copy_send, s_copy_both, s_copy_if, s_show_set, s_show_add, s_show_copy, s_show_show, s_show_send, s_show_both, s_show_if, s_send_set, s_send_add, s_send_copy, s_send_show, s_send_send, s_send_both, s_send_if, s_both_set, s_both_add, s_both_copy, s_both_show, s_both_send, s_both_both, s_both_if, s_if_set, s_if_add, s_if_copy, s_if_show, s_if_send, s_if_both, s_if_if, tru, if_true, Bool.false_eq_true, if_false, ed]
    refine rc hd hb fun v1 S1 f1 p1 => ?_
    simp only [t11_7, b11_7, PM.wpSs, PM.wpS, PM.wpE, PM.wpEs, PM.wpB, PM.wpT, PM.wpA, bindT, setAll, wipeL, endsOf, List.getElem?_cons_zero, List.getElem?_cons_succ, List.set_cons_zero, List.set_cons_succ, List.length_cons, List.length_nil, binS, ixS, itemsOf, biS, gsG, gsK, gsV, gsC, mtT, mtS, c_eqs, s_set_set, s_set_add, s_set_copy, s_set_show, s_set_send, s_set_both, s_set_if, s_add_set, s_add_add, s_add_copy, s_add_show, s_add_send, s_add_both, s_add_if, s_copy_set, s_copy_add, s_copy_copy, s_copy_show, s_copy_send, s_copy_both, s_copy_if, s_show_set, s_show_add, s_show_copy, s_show_show, s_show_send, s_show_both, s_show_if, s_send_set, s_send_add, s_send_copy, s_send_show, s_send_send, s_send_both, s_send_if, s_both_set, s_both_add, s_both_copy, s_both_show, s_both_send, s_both_both, s_both_if, s_if_set, s_if_add, s_if_copy, s_if_show, s_if_send, s_if_both, s_if_if, tru, if_true, Bool.false_eq_true, if_false]
    exact c8 (by omega) (by omega) f1.2.2 fun r S' f _ _ => h _ S' (f1.trans f) (pv3 p_str p_int (p_pv p1))
  · simp only [t11_3, b11_3, t11_4, b11_4, t11_5, b11_5, t11_6, b11_6, PM.wpSs, PM.wpS, PM.wpE, PM.wpEs, PM.wpB, PM.wpT, PM.wpA, bindT, setAll, wipeL, endsOf, List.getElem?_cons_zero, List.getElem?_cons_succ, List.set_cons_zero, List.set_cons_succ, List.length_cons, List.length_nil, binS, ixS, itemsOf, biS, gsG, gsK, gsV, gsC, mtT, mtS, c_eqs, s_set_set, s_set_add, s_set_copy, s_set_show, s_set_send, s_set_both, s_set_if, s_add_set, s_add_add, s_add_copy, s_add_show, s_add_send, s_add_both, s_add_if, s_copy_set, s_copy_add, s_copy_copy, s_copy_show, s_copy_send, s_copy_both, s_copy_if, s_show_set, s_show_add, s_show_copy, s_show_show, s_show_send, s_show_both, s_show_if, s_send_set, s_send_add, s_send_copy, s_send_show, s_send_send, s_send_both, s_send_if, s_both_set, s_both_add, s_both_copy, s_both_show, s_both_send, s_both_both, s_both_if, s_if_set, s_if_add, s_if_copy, s_if_show, s_if_send, s_if_both, s_if_if, tru, if_true, Bool.false_eq_true, if_false, ed]
    refine rc hd hb fun v1 S1 f1 p1 => ?_
    simp only [t11_7, b11_7, t11_8, b11_8, PM.wpSs, PM.wpS, PM.wpE, PM.wpEs, PM.wpB, PM.wpT, PM.wpA, bindT, setAll, wipeL, endsOf, List.getElem?_cons_zero, List.getElem?_cons_succ, List.set_cons_zero, List.set_cons_succ, List.length_cons, List.length_nil, binS, ixS, itemsOf, biS, gsG, gsK, gsV, gsC, mtT, mtS, c_eqs, s_set_set, s_set_add, s_set_copy, s_set_show, s_set_send, s_set_both, s_set_if, s_add_set, s_add_add, s_add_copy, s_add_show, s_add_send, s_add_both, s_add_if, s_copy_set, s_copy_add, s_copy_copy, s_copy_show, s_copy_send, s_copy_both, s_copy_if, s_show_set, s_show_add, s_show_copy, s_show_show, s_show_send, s_show_both, s_show_if, s_send_set, s_send_add, s_send_copy, s_send_show, s_send_send, s_send_both, s_send_if, s_both_set, s_both_add, s_both_copy, s_both_show, s_both_send, s_both_both, s_both_if, s_if_set, s_if_add, s_if_copy, s_if_show, s_if_send, s_if_both, s_if_if, tru, if_true, Bool.false_eq_true, if_false, ed]
    refine rc hd f1.2.2 fun v2 S2 f2 p2 => ?_
    simp only [t11_9, b11_9, PM.wpSs, PM.wpS, PM.wpE, PM.wpEs, PM.wpB, PM.wpT, PM.wpA, bindT, setAll, wipeL, endsOf, List.getElem?_cons_zero, List.getElem?_cons_succ, List.set_cons_zero, List.set_cons_succ, List.length_cons, List.length_nil, binS, ixS, itemsOf, biS, gsG, gsK, gsV, gsC, mtT, mtS, c_eqs, s_set_set, s_set_add, s_set_copy, s_set_show, s_set_send, s_set_both, s_set_if, s_add_set, s_add_add, s_add_copy, s_add_show, s_add_send, s_add_both, s_add_if, s_copy_set, s_copy_add, s_copy_copy, s_copy_show, s_copy_send, s_copy_both, s_copy_if, s_show_set, s_show_add, s_show_copy, s_show_show, s_show_send, s_show_both, s_show_if, s_send_set, s_send_add, s_send_copy, s_send_show, s_send_send, s_send_both, s_send_if, s_both_set, s_both_add, s_both_copy, s_both_show, s_both_send, s_both_both, s_both_if, s_if_set, s_if_add, s_if_copy, s_if_show, s_if_send, s_if_both, s_if_if, tru, if_true, Bool.false_eq_true, if_false]
    exact h _ S2 (f1.trans f2) (pv3 p_str (p_pv p1) (p_pv p2))
  · simp only [t11_3, b11_3, t11_4, b11_4, t11_5, b11_5, t11_6, b11_6, PM.wpSs, PM.wpS, PM.wpE, PM.wpEs, PM.wpB, PM.wpT, PM.wpA, bindT, setAll, wipeL, endsOf, List.getElem?_cons_zero, List.getElem?_cons_succ, List.set_cons_zero, List.set_cons_succ, List.length_cons, List.length_nil, binS, ixS, itemsOf, biS, gsG, gsK, gsV, gsC, mtT, mtS, c_eqs, s_set_set, s_set_add, s_set_copy, s_set_show, s_set_send, s_set_both, s_set_if, s_add_set, s_add_add, s_add_copy, s_add_show, s_add_send, s_add_both, s_add_if, s_copy_set, s_copy_add, s_copy_copy, s_copy_show, s_copy_send, s_copy_both, s_copy_if, s_show_set, s_show_add, s_show_copy, s_show_show, s_show_send, s_show_both, s_show_if, s_send_set, s_send_add, s_send_copy, s_send_show, s_send_send, s_send_both, s_send_if, s_both_set, s_both_add, s_both_copy, s_both_show, s_both_send, s_both_both, s_both_if, s_if_set, s_if_add, s_if_copy, s_if_show, s_if_send, s_if_both, s_if_if, tru, if_true, Bool.false_eq_true, if_false, ed]
    refine rc hd hb fun v1 S1 f1 p1 => ?_
    simp only [t11_7, b11_7, t11_8, b11_8, PM.wpSs, PM.wpS, PM.wpE, PM.wpEs, PM.wpB, PM.wpT, PM.wpA, bindT, setAll, wipeL, endsOf, List.getElem?_cons_zero, List.getElem?_cons_succ, List.set_cons_zero, List.set_cons_succ, List.length_cons, List.length_nil, binS, ixS, itemsOf, biS, gsG, gsK, gsV, gsC, mtT, mtS, c_eqs, s_set_set, s_set_add, s_set_copy, s_set_show, s_set_send, s_set_both, s_set_if, s_add_set, s_add_add, s_add_copy, s_add_show, s_add_send, s_add_both, s_add_if, s_copy_set, s_copy_add, s_copy_copy, s_copy_show, s_copy_send, s_copy_both, s_copy_if, s_show_set, s_show_add, s_show_copy, s_show_show, s_show_send, s_show_both, s_show_if, s_send_set, s_send_add, s_send_copy, s_send_show, s_send_send, s_send_both, s_send_if, s_both_set, s_both_add, s_both_copy, s_both_show, s_both_send, s_both_both, s_both_if, s_if_set, s_if_add, s_if_copy, s_if_show, s_if_send, s_if_both, s_if_if, tru, if_true, Bool.false_eq_true, if_false, ed]
    refine rc hd f1.2.2 fun v2 S2 f2 p2 => ?_
    simp only [t11_9, b11_9, t11_10, b11_10, PM.wpSs, PM.wpS, PM.wpE, PM.wpEs, PM.wpB, PM.wpT, PM.wpA, bindT, setAll, wipeL, endsOf, List.getElem?_cons_zero, List.getElem?_cons_succ, List.set_cons_zero, List.set_cons_succ, List.length_cons, List.length_nil, binS, ixS, itemsOf, biS, gsG, gsK, gsV, gsC, mtT, mtS, c_eqs, s_set_set, s_set_add, s_set_copy, s_set_show, s_set_send, s_set_both, s_set_if, s_add_set, s_add_add, s_add_copy, s_add_show, s_add_send, s_add_both, s_add_if, s_copy_set, s_copy_add, s_copy_copy, s_copy_show, s_copy_send, s_copy_both, s_copy_if, s_show_set, s_show_add, s_show_copy, s_show_show, s_show_send, s_show_both, s_show_if, s_send_set, s_send_add, s_send_copy, s_send_show, s_send_send, s_send_both, s_send_if, s_both_set, s_both_add, s_both_copy, s_both_show, s_both_send, s_both_both, s_both_if, s_if_set, s_if_add, s_if_copy, s_if_show, s_if_send, s_if_both, s_if_if, tru, if_true, Bool.false_eq_true, if_false]
    exact h _ S2 (f1.trans f2) (pv4 p_str p_int (p_pv p1) (p_pv p2))
end My

namespace My
open PySem PM

def kinds : List Val := [.str "set", .str "add", .str "copy", .str "show", .str "send", .str "both", .str "if", .str "both"]
def K7 (kind : Str) : Prop := kind = "show" ∨ kind = "set" ∨ kind = "add" ∨ kind = "copy" ∨ kind = "send" ∨ kind = "both" ∨ kind = "if"
theorem kinds_at {r : Int} (h0 : 0 ≤ r) (h1 : r < 8) : ∃ kind, atV kinds r = some (.str kind) ∧ K7 kind := by
  obtain ⟨y, hy, my⟩ := atV_int (xs := kinds) h0 (by simp [kinds]; omega)
  simp only [kinds, List.mem_cons, List.not_mem_nil, or_false] at my
  unfold K7
  rcases my with rfl | rfl | rfl | rfl | rfl | rfl | rfl | rfl <;> exact ⟨_, hy, by simp⟩
theorem c11 {b : Nat} {c : Int} (h0 : 1 ≤ c) (h1 : c ≤ 10) : ∀ (d : Nat) {n : Nat} {S : Sto} {Q : VQ} {E : XQ}, d ≤ 5 → Bg S b → (∀ v S', Fr b S S' → Pv (d + 1) v → Q v S') → callN ds gs (d + n + 3) 11 [.loc b, .int c, .int ((d : Int) + 1)] S Q E
  | d, n, S, Q, E, hd, hb, h => by
    have rc : 1 ≤ d → ∀ {S : Sto} {Q : VQ} {E : XQ}, Bg S b → (∀ v S', Fr b S S' → Pv d v → Q v S') → callN ds gs (d + n + 2) 11 [.loc b, .int c, .int (d : Int)] S Q E := fun hd1 {S Q E} hb h => by
      cases d with
      | zero => omega
      | succ d =>
        have := c11 (n := n) h0 h1 d (S := S) (Q := Q) (E := E) (by omega) hb h
        rw [show d + 1 + n + 2 = d + n + 3 by omega, show (((d + 1 : Nat)) : Int) = (d : Int) + 1 by omega]
        exact this
    have rest := fun {kind : Str} {cell : Int} {S' : Sto} (hb : Bg S' b) (hk) (h) => rest11 (n := d + n) (c := c) (cell := cell) (d := d) (kind := kind) (S := S') (Q := Q) (E := E) hb h0 h1 rc hk h
    have ef : Fr b S (S ++ [.lst kinds]) := Fr.app (Fr.refl hb)
    have e0 : callN ds gs (d + n + 3) 11 [.loc b, .int c, .int ((d : Int) + 1)] S Q E = PM.wpSs (cenv ds gs (d + n + 2)) b11 (endsOf Q E) [some (.loc b), some (.int c), some (.int ((d : Int) + 1)), none, none, none, none] S := u11
    rw [e0]
    simp only [b11, b11_0, PM.wpSs, PM.wpS, PM.wpE, PM.wpEs, PM.wpB, PM.wpT, PM.wpA, bindT, setAll, wipeL, endsOf, List.getElem?_cons_zero, List.getElem?_cons_succ, List.set_cons_zero, List.set_cons_succ, List.length_cons, List.length_nil, binS, ixS, itemsOf, biS, gsG, gsK, gsV, gsC, mtT, mtS]
    refine c8 (n := d + n + 1) (by decide) (by decide) ef.2.2 fun r S1 f1 g0 g1 => ?_
    obtain ⟨kind, hkd, k7⟩ := kinds_at g0 g1
    have l1 : lstAt S1 S.length = some kinds := by
      have e1 := f1.2.1 S.length (by have := hb.lt; omega) (by simp)
      unfold lstAt
      rw [e1]
      simp [kinds]
    simp only [l1, hkd, t11_1, b11_1, PM.wpSs, PM.wpS, PM.wpE, PM.wpEs, PM.wpB, PM.wpT, PM.wpA, bindT, setAll, wipeL, endsOf, List.getElem?_cons_zero, List.getElem?_cons_succ, List.set_cons_zero, List.set_cons_succ, List.length_cons, List.length_nil, binS, ixS, itemsOf, biS, gsG, gsK, gsV, gsC, mtT, mtS]
    refine c8 (n := d + n + 1) (by decide) (by decide) f1.2.2 fun cell S2 f2 _ _ => ?_
    have ff := (ef.trans f1).trans f2
    simp only [t11_2, b11_2, PM.wpSs, PM.wpS, PM.wpE, PM.wpEs, PM.wpB, PM.wpT, PM.wpA, bindT, setAll, wipeL, endsOf, List.getElem?_cons_zero, List.getElem?_cons_succ, List.set_cons_zero, List.set_cons_succ, List.length_cons, List.length_nil, binS, ixS, itemsOf, biS, gsG, gsK, gsV, gsC, mtT, mtS]
    cases d with
    | zero =>
      have fl : Fr b S2 (S2 ++ [.lst [.str "send", .str "both", .str "if"]]) := Fr.app (Fr.refl ff.2.2)
      have hin : ∀ {Q : Bool → Prop}, cmpS .in_ (.str kind) (.loc S2.length) (S2 ++ [.lst [.str "send", .str "both", .str "if"]]) Q = Q (("send" == kind) || (("both" == kind) || (("if" == kind) || false))) := fun {Q} => by
        simp [cmpS, itemsOf, lstAt_new, Val.flat, eqF]
      simp only [cmp_eq_int, tru, hin, Int.natCast_zero, Int.cast_ofNat_Int, Int.zero_add, decide_true, if_true]
      have go : ∀ kind, (kind = "show" ∨ kind = "set" ∨ kind = "add" ∨ kind = "copy") → PM.wpSs (cenv ds gs (0 + n + 2)) t11_3 (endsOf Q E) [some (.loc b), some (.int c), some (.int (((0 : Nat) : Int) + 1)), some (.str kind), some (.int cell), none, none] (S2 ++ [.lst [.str "send", .str "both", .str "if"]]) := fun kind hk =>
        rest fl.2.2 (by rcases hk with e | e | e | e <;> simp [e]) fun v S' f p => h v S' ((ff.trans fl).trans f) p
      simp only [Int.natCast_zero, Int.cast_ofNat_Int, Int.zero_add] at go
      rcases k7 with rfl | rfl | rfl | rfl | rfl | rfl | rfl
      all_goals (simp only [s_set_set, s_set_add, s_set_copy, s_set_show, s_set_send, s_set_both, s_set_if, s_add_set, s_add_add, s_add_copy, s_add_show, s_add_send, s_add_both, s_add_if, s_copy_set, s_copy_add, s_copy_copy, s_copy_show, s_copy_send, s_copy_both, s_copy_if, s_show_set, s_show_add, s_show_copy, s_show_show, s_show_send, s_show_both, s_show_if, s_send_set, s_send_add, s_send_copy, s_send_show, s_send_send, s_send_both, s_send_if, s_both_set, s_both_add, s_both_copy, s_both_show, s_both_send, s_both_both, s_both_if, s_if_set, s_if_add, s_if_copy, s_if_show, s_if_send, s_if_both, s_if_if, Bool.or_false, Bool.or_true, Bool.false_or, Bool.true_or, if_true, Bool.false_eq_true, if_false, PM.wpSs, PM.wpS, PM.wpE, PM.wpEs, PM.wpB, PM.wpT, PM.wpA, bindT, setAll, wipeL, endsOf, List.getElem?_cons_zero, List.getElem?_cons_succ, List.set_cons_zero, List.set_cons_succ, List.length_cons, List.length_nil, binS, ixS, itemsOf, biS, gsG, gsK, gsV, gsC, mtT, mtS]; exact go _ (by simp))
    | succ d =>
      have hz : ¬ ((((d + 1 : Nat)) : Int) + 1 = 1) := by omega
      simp only [cmp_eq_int, tru, hz, decide_false, Bool.false_eq_true, if_false, PM.wpSs, PM.wpS, PM.wpE, PM.wpEs, PM.wpB, PM.wpT, PM.wpA, bindT, setAll, wipeL, endsOf, List.getElem?_cons_zero, List.getElem?_cons_succ, List.set_cons_zero, List.set_cons_succ, List.length_cons, List.length_nil, binS, ixS, itemsOf, biS, gsG, gsK, gsV, gsC, mtT, mtS]
      refine rest ff.2.2 ?_ fun v S' f p => h v S' (ff.trans f) p
      rcases k7 with rfl | rfl | rfl | rfl | rfl | rfl | rfl <;> simp
/-! ### odd values, wrapped values -/
def od1 (c : Int) : List Val := [.int 0, .int 3, .int 4, .int (-1), .int 1000000, .int 1000001, .int (-1000001), .int c, .int (c - 1), .bl true, .bl false, .non, .str "", .str "show", .str "set", .tup [], .tup [.str "show"]]
def od2 (c : Int) (l : Nat) : List Val := [.tup [.str "show", .int 0], .tup [.str "show", .int 4], .tup [.str "show", .int 0, .int 0], .loc l, .tup [.str "both", .tup [.str "show", .int 0]], .tup [.str "send", .int c, .tup [.str "show", .int 1]]]
theorem od_dk {c : Int} {l : Nat} {S : Sto} (h : (lstAt S l).isSome = true) : DKs S (od1 c ++ od2 c l) := by
  simp [od1, od2, DKs, DK, h]
theorem mlAt_new {S : Sto} {xs : List Val} : mlAt (S ++ [.lst xs]) S.length = some xs := by simp [mlAt]
theorem mlAt_app {S : Sto} {xs : List Val} {n : Nat} (h : mlAt S n = some xs) (o : SObj) : mlAt (S ++ [o]) n = some xs := by
  have : S[n]? = some (.lst xs) := ml_get h
  simp only [mlAt]
  rw [List.getElem?_append_left (List.getElem?_eq_some_iff.mp this).1, this]
theorem rest16 {b n l : Nat} {c : Int} {ys : List Val} {S : Sto} {D : ED} (hb : Bg S b) (hl : l ≠ b) (e : lstAt S l = some ys) (hy : ys.length = 23) (d : DKs S ys) (h : ∀ v S', Fr b S S' → DK S' v → D.rt v S') :
    PM.wpSs (cenv ds gs (n + 1)) t16_2 D [some (.loc b), some (.int c), some (.loc l)] S := by
  have hl4 : l < S.length := lstAt_lt (by rw [e]; rfl)
  simp only [t16_2, b16_2, PM.wpSs, PM.wpS, PM.wpE, PM.wpEs, PM.wpB, PM.wpT, PM.wpA, bindT, setAll, wipeL, endsOf, List.getElem?_cons_zero, List.getElem?_cons_succ, List.set_cons_zero, List.set_cons_succ, List.length_cons, List.length_nil, binS, ixS, itemsOf, biS, gsG, gsK, gsV, gsC, mtT, mtS]
  refine c8 (by decide) (by decide) hb fun r S5 f5 g0 g1 => ?_
  have l5 : lstAt S5 l = some ys := by
    have := f5.2.1 l hl hl4
    unfold lstAt at e ⊢
    rw [this]
    exact e
  obtain ⟨y, hy, my⟩ := atV_int (xs := ys) g0 (by omega)
  simp only [l5, hy]
  exact h y S5 f5 (DKs.mem (DKs.fr f5 _ d) y my)
theorem rest16a {b n l : Nat} {c : Int} {S : Sto} {D : ED} (hb : Bg S b) (hl : l ≠ b) (e : mlAt S l = some (od1 c)) (h : ∀ v S', Fr b S S' → DK S' v → D.rt v S') :
    PM.wpSs (cenv ds gs (n + 1)) t16_1 D [some (.loc b), some (.int c), some (.loc l)] S := by
  have q3 : ∀ o o', mlAt (S ++ [o] ++ [o']) l = some (od1 c) := fun o o' => mlAt_app (mlAt_app e o) o'
  simp only [t16_1, b16_1, PM.wpSs, PM.wpS, PM.wpE, PM.wpEs, PM.wpB, PM.wpT, PM.wpA, bindT, setAll, wipeL, endsOf, List.getElem?_cons_zero, List.getElem?_cons_succ, List.set_cons_zero, List.set_cons_succ, List.length_cons, List.length_nil, binS, ixS, itemsOf, biS, gsG, gsK, gsV, gsC, mtT, mtS, q3, mlAt_new]
  refine ⟨by simp [od1, big], ?_⟩
  have f4 : ∀ o1 o2 o3 : SObj, Fr b S (S ++ [o1] ++ [o2] ++ [o3]) := fun _ _ _ => (Fr.refl hb).app.app.app
  refine rest16 (f4 _ _ _).2.2 (by have := hb.lt; simp; omega) lstAt_new rfl ?_ fun v S' f d => h v S' ((f4 _ _ _).trans f) d
  refine od_dk (l := S.length) ?_
  rw [lstAt_app (by simp), lstAt_app (by simp), lstAt_new]
  rfl
theorem c16 {b n : Nat} {c : Int} {S : Sto} {Q : VQ} {E : XQ} (hb : Bg S b) (h : ∀ v S', Fr b S S' → DK S' v → Q v S') : callN ds gs (n + 2) 16 [.loc b, .int c] S Q E := by
  have e6 : ((10 : Int) ^ (6 : Int).toNat) = 1000000 := by decide
  have pw : (0 : Int) ≤ 6 ∧ (6 : Int) ≤ 1000000 ∧ (10 : Int).natAbs < 2 ^ 64 := by decide
  have f1 : Fr b S (S ++ [.lst (od1 c)]) := Fr.app (Fr.refl hb)
  have := rest16a (n := n) (c := c) (D := endsOf Q E) f1.2.2 (by have := hb.lt; omega) mlAt_new fun v S' f d => h v S' (f1.trans f) d
  rw [u16]
  simp only [b16, b16_0, PM.wpSs, PM.wpS, PM.wpE, PM.wpEs, PM.wpB, PM.wpT, PM.wpA, bindT, setAll, wipeL, endsOf, List.getElem?_cons_zero, List.getElem?_cons_succ, List.set_cons_zero, List.set_cons_succ, List.length_cons, List.length_nil, binS, ixS, itemsOf, biS, gsG, gsK, gsV, gsC, mtT, mtS, e6, pw, and_self, true_and]
  exact this
end My

namespace My
open PySem PM

theorem turn17 {b n : Nat} {i : Int} {j : Nat} {v : Val} {r3 : Option Val} {S : Sto} {D : ED} (hb : Bg S b) (hv : Pv j v) (h : ∀ v r3 S', Fr b S S' → Pv (j + 1) v → D.nx [some (.loc b), some v, some (.int i), r3] S') :
    PM.wpSs (cenv ds gs (n + 1)) l17_0 D [some (.loc b), some v, some (.int i), r3] S := by
  simp only [l17_0, l17_0_0, PM.wpSs, PM.wpS, PM.wpE, PM.wpEs, PM.wpB, PM.wpT, PM.wpA, bindT, setAll, wipeL, endsOf, List.getElem?_cons_zero, List.getElem?_cons_succ, List.set_cons_zero, List.set_cons_succ, List.length_cons, List.length_nil, binS, ixS, itemsOf, biS, gsG, gsK, gsV, gsC, mtT, mtS]
  refine c8 (by decide) (by decide) hb fun r S1 f1 _ _ => ?_
  obtain ⟨p1, p2, p3⟩ := hv
  by_cases h0 : r = 0
  · simp only [m17_0_1, l17_0_1, PM.wpSs, PM.wpS, PM.wpE, PM.wpEs, PM.wpB, PM.wpT, PM.wpA, bindT, setAll, wipeL, endsOf, List.getElem?_cons_zero, List.getElem?_cons_succ, List.set_cons_zero, List.set_cons_succ, List.length_cons, List.length_nil, binS, ixS, itemsOf, biS, gsG, gsK, gsV, gsC, mtT, mtS, cmp_eq_int, h0, decide_true, tru, if_true]
    cases j with
    | zero => exact absurd p2 (by obtain ⟨xs, rfl⟩ := p1; intro h; exact h xs rfl)
    | succ j => exact h _ _ S1 f1 (pv3 p_str (p_pv (pv2 p_str p_int)) ⟨p2, p3⟩)
  · by_cases h1 : r = 1
    · simp only [m17_0_1, l17_0_1, PM.wpSs, PM.wpS, PM.wpE, PM.wpEs, PM.wpB, PM.wpT, PM.wpA, bindT, setAll, wipeL, endsOf, List.getElem?_cons_zero, List.getElem?_cons_succ, List.set_cons_zero, List.set_cons_succ, List.length_cons, List.length_nil, binS, ixS, itemsOf, biS, gsG, gsK, gsV, gsC, mtT, mtS, cmp_eq_int, h0, h1, decide_true, decide_false, Bool.false_eq_true, if_false, tru, if_true]
      cases j with
      | zero => exact absurd p2 (by obtain ⟨xs, rfl⟩ := p1; intro h; exact h xs rfl)
      | succ j =>
        have h10 : ¬ ((1 : Int) = 0) := by decide
        simp only [h10, decide_false, Bool.false_eq_true, if_false]
        exact h _ _ S1 f1 (pv4 p_str p_int ⟨p2, p3⟩ (p_pv (pv3 p_str p_int p_int)))
    · simp only [m17_0_1, l17_0_1, PM.wpSs, PM.wpS, PM.wpE, PM.wpEs, PM.wpB, PM.wpT, PM.wpA, bindT, setAll, wipeL, endsOf, List.getElem?_cons_zero, List.getElem?_cons_succ, List.set_cons_zero, List.set_cons_succ, List.length_cons, List.length_nil, binS, ixS, itemsOf, biS, gsG, gsK, gsV, gsC, mtT, mtS, cmp_eq_int, h0, h1, decide_true, decide_false, Bool.false_eq_true, if_false, tru, if_true]
      exact h _ _ S1 f1 (pv3 p_str p_int ⟨p2, p3⟩)
theorem loop17 {b n : Nat} {S0 : Sto} {D : ED} {k : Nat} (h : ∀ v r2 r3 S', Fr b S0 S' → Pv k v → D.nx [some (.loc b), some v, r2, r3] S') : ∀ (ks : List Nat) {j : Nat} {v : Val} {r2 r3 : Option Val} {S : Sto}, j + ks.length ≤ k → Fr b S0 S → Pv j v →
    forS [] (.nm 2) (fun D => PM.wpSs (cenv ds gs (n + 1)) l17_0 D) D (ks.map fun (i : Nat) => Val.int (i : Int)) [some (.loc b), some v, r2, r3] S
  | [], j, v, r2, r3, S, hl, f, hv => by
    simp only [forS, gdS, List.map_nil, true_and]
    exact h v r2 r3 S f ⟨hv.1, lv_le hv.2.1 (by simpa using hl), hv.2.2⟩
  | i :: ks, j, v, r2, r3, S, hl, f, hv => by
    simp only [forS, gdS, List.map_cons, true_and, bindT, List.set_cons_zero, List.set_cons_succ]
    exact turn17 f.2.2 hv fun v r3 S' f' hv' => loop17 h ks (j := j + 1) (by simp at hl ⊢; omega) (f.trans f') hv'
theorem c17 {b n j : Nat} {v : Val} {S : Sto} {Q : VQ} {E : XQ} (hb : Bg S b) (hv : Pv j v) (h : ∀ v S', Fr b S S' → Pv (j + 3) v → Q v S') : callN ds gs (n + 2) 17 [.loc b, v] S Q E := by
  rw [u17]
  simp only [b17, b17_0, PM.wpSs, PM.wpS, PM.wpE, PM.wpEs, PM.wpB, PM.wpT, PM.wpA, bindT, setAll, wipeL, endsOf, List.getElem?_cons_zero, List.getElem?_cons_succ, List.set_cons_zero, List.set_cons_succ, List.length_cons, List.length_nil, binS, ixS, itemsOf, biS, gsG, gsK, gsV, gsC, mtT, mtS]
  refine c8 (by decide) (by decide) hb fun r S1 f1 g0 g1 => ?_
  have hr : -(2 ^ 62) ≤ r ∧ r < 2 ^ 62 := by omega
  simp only [it_range hr]
  refine loop17 (n := n) (S0 := S) (k := j + 3) (fun v r2 r3 S' f p => ?_) (List.range r.toNat) (by simp; omega) f1 hv
  simp only [t17_1, b17_1, PM.wpSs, PM.wpS, PM.wpE, PM.wpEs, PM.wpB, PM.wpT, PM.wpA, bindT, setAll, wipeL, endsOf, List.getElem?_cons_zero, List.getElem?_cons_succ, List.set_cons_zero, List.set_cons_succ, List.length_cons, List.length_nil, binS, ixS, itemsOf, biS, gsG, gsK, gsV, gsC, mtT, mtS]
  exact h v S' f p

/-! ### a value is built -/
theorem cmp_lt_int {a b : Int} {S : Sto} {Q : Bool → Prop} : cmpS .lt (.int a) (.int b) S Q = Q (decide (a < b)) := rfl
def k11 : List Val := [.str "set", .str "add", .str "copy", .str "send", .str "show", .str "both", .str "if", .str "stop", .str "", .int 5, .non]
theorem rest18 {b n : Nat} {c : Int} {v : Val} {S : Sto} {r3 : Option Val} {D : ED} (hb : Bg S b) (hv : Pv 9 v) (h : ∀ v S', Fr b S S' → DK S' v → D.rt v S') :
    PM.wpSs (cenv ds gs (n + 15)) t18_2 D [some (.loc b), some (.int c), some v, r3] S := by
  simp only [t18_2, b18_2, PM.wpSs, PM.wpS, PM.wpE, PM.wpEs, PM.wpB, PM.wpT, PM.wpA, bindT, setAll, wipeL, endsOf, List.getElem?_cons_zero, List.getElem?_cons_succ, List.set_cons_zero, List.set_cons_succ, List.length_cons, List.length_nil, binS, ixS, itemsOf, biS, gsG, gsK, gsV, gsC, mtT, mtS]
  refine c8 (n := n + 14) (by decide) (by decide) hb fun r S1 f1 _ _ => ?_
  by_cases h3 : r < 3
  · simp only [t18_3, b18_3, PM.wpSs, PM.wpS, PM.wpE, PM.wpEs, PM.wpB, PM.wpT, PM.wpA, bindT, setAll, wipeL, endsOf, List.getElem?_cons_zero, List.getElem?_cons_succ, List.set_cons_zero, List.set_cons_succ, List.length_cons, List.length_nil, binS, ixS, itemsOf, biS, gsG, gsK, gsV, gsC, mtT, mtS, cmp_lt_int, h3, decide_true, tru, if_true]
    refine c16 (n := n + 13) f1.2.2 fun o S2 f2 d2 => ?_
    have := c15 (b := b) (odd := o) 9 (n := n + 4) (v := v) (S := S2) (Q := D.rt) (E := fun x => D.xn x [some (.loc b), some (.int c), some v, some (.int r)]) f2.2.2 hv.2.1 (hv.2.2 S2) d2 fun z S3 f3 d3 => h z S3 ((f1.trans f2).trans f3) d3
    rw [show 9 + (n + 4) + 2 = n + 15 by omega] at this
    exact this
  · by_cases h4 : r = 3
    · obtain ⟨⟨xs, rfl⟩, lv, dk⟩ := hv
      have hlen := (lv xs rfl).1
      have ef : Fr b S1 (S1 ++ [.lst k11]) := Fr.app (Fr.refl f1.2.2)
      simp only [t18_3, b18_3, t18_4, b18_4, PM.wpSs, PM.wpS, PM.wpE, PM.wpEs, PM.wpB, PM.wpT, PM.wpA, bindT, setAll, wipeL, endsOf, List.getElem?_cons_zero, List.getElem?_cons_succ, List.set_cons_zero, List.set_cons_succ, List.length_cons, List.length_nil, binS, ixS, itemsOf, biS, gsG, gsK, gsV, gsC, mtT, mtS, cmp_lt_int, h3, h4, cmp_eq_int, decide_false, decide_true, tru, if_true, Bool.false_eq_true, if_false]
      have h33 : ¬ ((3 : Int) < 3) := by decide
      simp only [h33, decide_false, decide_true, Bool.false_eq_true, if_false, if_true]
      refine c8 (n := n + 14) (by decide) (by decide) ef.2.2 fun q S2 f2 g0 g1 => ?_
      have l2 : lstAt S2 S1.length = some k11 := by
        have e1 := f2.2.1 S1.length (by have := f1.2.2.lt; omega) (by simp)
        unfold lstAt
        rw [e1]
        simp [k11]
      obtain ⟨y, hy, my⟩ := atV_int (xs := k11) g0 (by simp [k11]; omega)
      have dy : ∀ S, DK S y := fun S => by
        simp only [k11, List.mem_cons, List.not_mem_nil, or_false] at my
        rcases my with rfl | rfl | rfl | rfl | rfl | rfl | rfl | rfl | rfl | rfl | rfl <;> trivial
      have hc := cut_len xs (some 1) none
      have hbig : [y].length + (cutL xs (some 1) none).length ≤ big := by simp [big]; omega
      simp only [l2, hy, part, partS, slS]
      refine ⟨by simpa using hbig, ?_⟩
      refine h _ S2 ((f1.trans ef).trans f2) ?_
      have dx : DKs S2 xs := by have := dk S2; simpa only [DK] using this
      simp only [DK]
      exact dk_app (dk_one (dy S2)) (cut_dk _ _ dx)
    · simp only [t18_3, b18_3, t18_4, b18_4, t18_5, b18_5, PM.wpSs, PM.wpS, PM.wpE, PM.wpEs, PM.wpB, PM.wpT, PM.wpA, bindT, setAll, wipeL, endsOf, List.getElem?_cons_zero, List.getElem?_cons_succ, List.set_cons_zero, List.set_cons_succ, List.length_cons, List.length_nil, binS, ixS, itemsOf, biS, gsG, gsK, gsV, gsC, mtT, mtS, cmp_lt_int, h3, h4, cmp_eq_int, decide_false, decide_true, tru, if_true, Bool.false_eq_true, if_false]
      exact h v S1 f1 (hv.2.2 S1)
theorem c18 {b n : Nat} {c : Int} {S : Sto} {Q : VQ} {E : XQ} (hb : Bg S b) (h0 : 1 ≤ c) (h1 : c ≤ 10) (h : ∀ v S', Fr b S S' → DK S' v → Q v S') : callN ds gs (n + 16) 18 [.loc b, .int c] S Q E := by
  rw [u18]
  simp only [b18, b18_0, PM.wpSs, PM.wpS, PM.wpE, PM.wpEs, PM.wpB, PM.wpT, PM.wpA, bindT, setAll, wipeL, endsOf, List.getElem?_cons_zero, List.getElem?_cons_succ, List.set_cons_zero, List.set_cons_succ, List.length_cons, List.length_nil, binS, ixS, itemsOf, biS, gsG, gsK, gsV, gsC, mtT, mtS]
  refine c8 (n := n + 14) (by decide) (by decide) hb fun r S1 f1 g0 g1 => ?_
  have e1 : (1 : Int) + r = ((r.toNat : Nat) : Int) + 1 := by omega
  simp only [binS]
  rw [e1]
  have hd : r.toNat ≤ 5 := by omega
  generalize r.toNat = d at hd
  have := fun Q E h => c11 (b := b) (c := c) h0 h1 d (n := n + 12 - d) (S := S1) (Q := Q) (E := E) hd f1.2.2 h
  rw [show d + (n + 12 - d) + 3 = n + 15 by omega] at this
  refine this _ _ fun v S2 f2 p2 => ?_
  have p9 : Pv 6 v := ⟨p2.1, lv_le p2.2.1 (by omega), p2.2.2⟩
  simp only [t18_1, b18_1, PM.wpSs, PM.wpS, PM.wpE, PM.wpEs, PM.wpB, PM.wpT, PM.wpA, bindT, setAll, wipeL, endsOf, List.getElem?_cons_zero, List.getElem?_cons_succ, List.set_cons_zero, List.set_cons_succ, List.length_cons, List.length_nil, binS, ixS, itemsOf, biS, gsG, gsK, gsV, gsC, mtT, mtS]
  refine c8 (n := n + 14) (by decide) (by decide) f2.2.2 fun r S3 f3 _ _ => ?_
  have ff := (f1.trans f2).trans f3
  by_cases hr : r = 0
  · simp only [PM.wpSs, PM.wpS, PM.wpE, PM.wpEs, PM.wpB, PM.wpT, PM.wpA, bindT, setAll, wipeL, endsOf, List.getElem?_cons_zero, List.getElem?_cons_succ, List.set_cons_zero, List.set_cons_succ, List.length_cons, List.length_nil, binS, ixS, itemsOf, biS, gsG, gsK, gsV, gsC, mtT, mtS, cmp_eq_int, hr, decide_true, tru, if_true]
    refine c17 (n := n + 13) f3.2.2 p9 fun w S4 f4 p4 => ?_
    exact rest18 (D := endsOf Q E) f4.2.2 p4 fun z S' f d => h z S' ((ff.trans f4).trans f) d
  · simp only [PM.wpSs, PM.wpS, PM.wpE, PM.wpEs, PM.wpB, PM.wpT, PM.wpA, bindT, setAll, wipeL, endsOf, List.getElem?_cons_zero, List.getElem?_cons_succ, List.set_cons_zero, List.set_cons_succ, List.length_cons, List.length_nil, binS, ixS, itemsOf, biS, gsG, gsK, gsV, gsC, mtT, mtS, cmp_eq_int, hr, decide_false, tru, Bool.false_eq_true, if_false]
    exact rest18 (D := endsOf Q E) f3.2.2 ⟨p9.1, lv_le p9.2.1 (by omega), p9.2.2⟩ fun z S' f d => h z S' (ff.trans f) d
end My

namespace My
open PySem PM

/-! ### the law -/
abbrev C39 : Cenv := cenv ds gs 39
theorem c4 {n : Nat} {c v : Val} {S : Sto} {Q : VQ} {E : XQ} (dc : DK S c) (d : DK S v) (h : ∀ S', Ext S S' → Q (.bl (isI c 1 10 && isPay 6 (kOf c) v)) S') : callN ds gs (n + 18) 4 [c, v] S Q E := by
  have h0 := h S Ext.refl
  rw [u4]
  cases hc : isI c 1 10 with
  | false =>
    simp only [hc, Bool.false_and] at h0
    simpa [b4, b4_0, PM.wpSs, PM.wpS, PM.wpE, PM.wpEs, PM.wpB, tru, c1 (n := n + 15) dc.known, hc, endsOf] using h0
  | true =>
    obtain ⟨k, rfl, k1, k10⟩ := isI_int hc
    simp only [hc, Bool.true_and, kOf] at h
    have kk : known S (.int k) = true := rfl
    have := c5 (k := k) k1 k10 6 (n := n) (v := v) (S := S) (Q := Q) (E := E) (Nat.le_refl _) d h
    rw [show 2 * 6 + n + 5 = n + 17 by omega, show ((6 : Nat) : Int) = 6 from rfl] at this
    simp only [b4, b4_0, PM.wpSs, PM.wpS, PM.wpE, PM.wpEs, PM.wpB, PM.wpT, PM.wpA, bindT, setAll, wipeL, endsOf, List.getElem?_cons_zero, List.getElem?_cons_succ, List.set_cons_zero, List.set_cons_succ, List.length_cons, List.length_nil, binS, ixS, itemsOf, biS, gsG, gsK, gsV, gsC, mtT, mtS, c1 (n := n + 15) kk, hc, tru, if_true]
    exact this
/-- what stands at each turn -/
def In (ns : List Int) (S : Sto) : Prop := 0 < S.length ∧ S[0]? = some (.rol (ns.map Val.int))
theorem In.fr {ns : List Int} {S S' : Sto} {b : Nat} (h : In ns S) (f : Fr b S S') (hb : 1 ≤ b) : In ns S' := ⟨Nat.lt_of_lt_of_le h.1 f.1, by rw [f.2.1 0 (by omega) h.1]; exact h.2⟩
theorem In.ext {ns : List Int} {S S' : Sto} (h : In ns S) (f : Ext S S') : In ns S' := ⟨Nat.lt_of_lt_of_le h.1 f.1, by rw [f.2 0 h.1]; exact h.2⟩
theorem In.app {ns : List Int} {S t : Sto} (h : In ns S) : In ns (S ++ t) := h.ext Ext.refl.app
theorem dat_lst {S : Sto} {l : Nat} {a b : Bool} (h : lstAt S l = some [.bl a, .bl b]) : dat S 60 (.loc l) = some (.list [.bool a, .bool b]) := by
  simp only [dat, h]
  rfl
theorem eqv_bb (a b c d : Bool) : PyData.eqv (.list [.bool a, .bool b]) (.list [.bool c, .bool d]) = (a == c && b == d) ∧ SeqAt.shaped (.list [.bool a, .bool b]) = true := by
  cases a <;> cases b <;> cases c <;> cases d <;> decide
/-- the answers and what is due -/
theorem rest7 {ns : List Int} {x k bg c v p : Option Val} {l1 l2 : Nat} {a b : Bool} {S : Sto} {D : ED} (hi : In ns S) (e1 : lstAt S l1 = some [.bl a, .bl b]) (e2 : lstAt S l2 = some [.bl a, .bl b])
    (h : D.nx [x, k, bg, c, v, p, some (.loc l1), some (.loc l2)] S) : PM.wpSs C39 m19_0_7 D [x, k, bg, c, v, p, some (.loc l1), some (.loc l2)] S := by
  have ne : ∀ {Q : Bool → Prop}, Q false → cmpS .ne (.loc l1) (.loc l2) S Q := fun {Q} q => by
    simp only [cmpS, eqS, Val.flat, Bool.and_self, Bool.false_eq_true, if_false, dat_lst e1, dat_lst e2]
    refine ⟨(eqv_bb a b a b).2, (eqv_bb a b a b).2, ?_⟩
    rw [(eqv_bb a b a b).1]
    simpa using q
  have eb : (!(some Ty.bool == some Ty.bool)) = false := rfl
  simp only [m19_0_7, l19_0_7, PM.wpSs, PM.wpS, PM.wpE, PM.wpEs, PM.wpB, PM.wpT, PM.wpA, bindT, setAll, wipeL, endsOf, List.getElem?_cons_zero, List.getElem?_cons_succ, List.set_cons_zero, List.set_cons_succ, List.length_cons, List.length_nil, binS, ixS, itemsOf, biS, gsG, gsK, gsV, gsC, mtT, mtS, e1, atV_0, atV_1, known, istS, tyS, eb, tru, true_and, decide_true, Bool.not_true, Bool.false_eq_true, if_false, if_true]
  refine ne ?_
  simp only [Bool.false_eq_true, if_false]
  exact h
theorem rest5 {ns : List Int} {x k bg r6 r7 : Option Val} {c v p : Val} {S : Sto} {D : ED} (hi : In ns S) (dc : DK S c) (d : DK S v) (dp : DK S p) (h : ∀ r6 r7 S', In ns S' → D.nx [x, k, bg, some c, some v, some p, r6, r7] S') :
    PM.wpSs C39 m19_0_5 D [x, k, bg, some c, some v, some p, r6, r7] S := by
  simp only [m19_0_5, l19_0_5, PM.wpSs, PM.wpS, PM.wpE, PM.wpEs, PM.wpB, PM.wpT, PM.wpA, bindT, setAll, wipeL, endsOf, List.getElem?_cons_zero, List.getElem?_cons_succ, List.set_cons_zero, List.set_cons_succ, List.length_cons, List.length_nil, binS, ixS, itemsOf, biS, gsG, gsK, gsV, gsC, mtT, mtS]
  refine c4 (n := 21) dc d fun S1 f1 => ?_
  have dp1 := DK.ls f1.ls _ dp
  have dc1 := DK.ls f1.ls _ dc
  have d1 := DK.ls f1.ls _ d
  simp only [c2 (n := 36) dc1.known dp1.known]
  generalize hA : (isI c 1 10 && isPay 6 (kOf c) v) = A
  generalize hB : isPr c p = B
  have f2 : Ext S (S1 ++ [.lst [.bl A, .bl B]]) := f1.app
  have dc2 := DK.ls f2.ls _ dc
  have d2 := DK.ls f2.ls _ d
  have dp2 := DK.ls f2.ls _ dp
  have l1 : lstAt (S1 ++ [.lst [.bl A, .bl B]]) S1.length = some [.bl A, .bl B] := lstAt_new
  have b1 : S1.length < (S1 ++ [.lst [.bl A, .bl B]] : Sto).length := by simp
  generalize S1 ++ [.lst [.bl A, .bl B]] = S2 at f2 dc2 d2 dp2 l1 b1
  simp only [m19_0_6, l19_0_6, PM.wpSs, PM.wpS, PM.wpE, PM.wpEs, PM.wpB, PM.wpT, PM.wpA, bindT, setAll, wipeL, endsOf, List.getElem?_cons_zero, List.getElem?_cons_succ, List.set_cons_zero, List.set_cons_succ, List.length_cons, List.length_nil, binS, ixS, itemsOf, biS, gsG, gsK, gsV, gsC, mtT, mtS]
  have q := fun Q E h => c14 (c := c) 6 (n := 24) (v := v) (S := S2) (Q := Q) (E := E) (Nat.le_refl _) dc2 d2 h
  rw [show 2 * 6 + 24 + 3 = 39 by rfl, show (7 : Int) - ((6 : Nat) : Int) = 1 from rfl] at q
  refine q _ _ fun S3 f3 => ?_
  rw [hA]
  have f23 := f2.trans f3
  have dc3 := DK.ls f23.ls _ dc
  have dp3 := DK.ls f23.ls _ dp
  simp only [c9 (n := 38) dc3.known]
  have fin : PM.wpSs C39 m19_0_7 D [x, k, bg, some c, some v, some p, some (.loc S1.length), some (.loc S3.length)] (S3 ++ [.lst [.bl A, .bl B]]) := by
    refine rest7 (ns := ns) ((hi.ext f23).app) ?_ lstAt_new (h _ _ _ (hi.ext f23).app)
    rw [lstAt_app (Nat.lt_of_lt_of_le b1 f3.1), f3.lst b1]
    exact l1
  cases hc : isI c 1 10 with
  | false =>
    have : B = false := by
      rw [← hB]
      cases c with
      | int i => simp [isPr, hc]
      | _ => rfl
    rw [this] at fin
    simp only [tru, Bool.false_eq_true, if_false]
    exact fin
  | true =>
    obtain ⟨i, rfl, i1, i10⟩ := isI_int hc
    have : isI p 0 (i - 1) = B := by
      rw [← hB]
      simp [isPr, hc]
    simp only [tru, if_true, binS, c9 (n := 38) dp3.known, this]
    exact fin
end My

namespace My
open PySem PM

def cl : List Val := [.int 1, .int 2, .int 3, .int 10, .int 0, .int 11, .int (-1), .bl true, .non, .str "3"]
theorem cl_dk {y : Val} (h : y ∈ cl) : ∀ S, DK S y := fun S => by
  simp only [cl, List.mem_cons, List.not_mem_nil, or_false] at h
  rcases h with rfl | rfl | rfl | rfl | rfl | rfl | rfl | rfl | rfl | rfl <;> trivial
theorem lst_keep {S S' : Sto} {b l : Nat} {xs : List Val} (f : Fr b S S') (hl : l ≠ b) (h : lstAt S l = some xs) : lstAt S' l = some xs := by
  have := f.2.1 l hl (lstAt_lt (by rw [h]; rfl))
  unfold lstAt at h ⊢
  rw [this]
  exact h
theorem rest4 {ns : List Int} {x k r6 r7 : Option Val} {c : Int} {b : Nat} {v p : Val} {S : Sto} {D : ED} (hb : Bg S b) (hb1 : 1 ≤ b) (hi : In ns S) (d : DK S v) (dp : DK S p) (h : ∀ c v p r6 r7 S', In ns S' → D.nx [x, k, some (.loc b), c, v, p, r6, r7] S') :
    PM.wpSs C39 m19_0_4 D [x, k, some (.loc b), some (.int c), some v, some p, r6, r7] S := by
  simp only [m19_0_4, l19_0_4, PM.wpSs, PM.wpS, PM.wpE, PM.wpEs, PM.wpB, PM.wpT, PM.wpA, bindT, setAll, wipeL, endsOf, List.getElem?_cons_zero, List.getElem?_cons_succ, List.set_cons_zero, List.set_cons_succ, List.length_cons, List.length_nil, binS, ixS, itemsOf, biS, gsG, gsK, gsV, gsC, mtT, mtS]
  refine c8 (n := 38) (by decide) (by decide) hb fun r S1 f1 _ _ => ?_
  have i1 := hi.fr f1 hb1
  by_cases hr : r = 0
  · have ef : Fr b S1 (S1 ++ [.lst cl]) := Fr.app (Fr.refl f1.2.2)
    simp only [cmp_eq_int, hr, decide_true, tru, if_true]
    refine c8 (n := 38) (by decide) (by decide) ef.2.2 fun q S2 f2 g0 g1 => ?_
    have l2 : lstAt S2 S1.length = some cl := lst_keep f2 (by have := f1.2.2.lt; omega) lstAt_new
    obtain ⟨y, hy, my⟩ := atV_int (xs := cl) g0 (by simp [cl]; omega)
    simp only [l2, hy]
    have ff := (f1.trans ef).trans f2
    exact rest5 (hi.fr ff hb1) (cl_dk my S2) (DK.fr ff _ d) (DK.fr ff _ dp) fun r6 r7 S' i => h _ _ _ _ _ S' i
  · simp only [cmp_eq_int, hr, decide_false, tru, Bool.false_eq_true, if_false]
    exact rest5 i1 trivial (DK.fr f1 _ d) (DK.fr f1 _ dp) fun r6 r7 S' i => h _ _ _ _ _ S' i
theorem rest3 {ns : List Int} {x k r5 r6 r7 : Option Val} {c : Int} {b : Nat} {v : Val} {S : Sto} {D : ED} (h0 : 1 ≤ c) (h1 : c ≤ 10) (hb : Bg S b) (hb1 : 1 ≤ b) (hi : In ns S) (d : DK S v) (h : ∀ c v p r6 r7 S', In ns S' → D.nx [x, k, some (.loc b), c, v, p, r6, r7] S') :
    PM.wpSs C39 m19_0_3 D [x, k, some (.loc b), some (.int c), some v, r5, r6, r7] S := by
  simp only [m19_0_3, l19_0_3, PM.wpSs, PM.wpS, PM.wpE, PM.wpEs, PM.wpB, PM.wpT, PM.wpA, bindT, setAll, wipeL, endsOf, List.getElem?_cons_zero, List.getElem?_cons_succ, List.set_cons_zero, List.set_cons_succ, List.length_cons, List.length_nil, binS, ixS, itemsOf, biS, gsG, gsK, gsV, gsC, mtT, mtS]
  refine c8 (n := 38) (by omega) (by omega) hb fun r S1 f1 _ _ => ?_
  have ef : Fr b S1 (S1 ++ [.lst [.int r, .int c, .int (-1), .bl true, .non, .str "0", .tup [.int 0]]]) := Fr.app (Fr.refl f1.2.2)
  refine c8 (n := 38) (by decide) (by decide) ef.2.2 fun q S2 f2 g0 g1 => ?_
  have l2 : lstAt S2 S1.length = some [.int r, .int c, .int (-1), .bl true, .non, .str "0", .tup [.int 0]] := lst_keep f2 (by have := f1.2.2.lt; omega) lstAt_new
  obtain ⟨y, hy, my⟩ := atV_int (xs := [.int r, .int c, .int (-1), .bl true, .non, .str "0", .tup [.int 0]]) g0 (by simp; omega)
  simp only [l2, hy]
  have ff := (f1.trans ef).trans f2
  have dy : DK S2 y := by
    simp only [List.mem_cons, List.not_mem_nil, or_false] at my
    rcases my with rfl | rfl | rfl | rfl | rfl | rfl | rfl <;> simp [DK, DKs]
  exact rest4 f2.2.2 hb1 (hi.fr ff hb1) (DK.fr ff _ d) dy h
theorem turn {ns : List Int} {k : Nat} {r2 r3 r4 r5 r6 r7 : Option Val} {S : Sto} {D : ED} (hi : In ns S) (h : ∀ r2 r3 r4 r5 r6 r7 S', In ns S' → D.nx [some (.loc 0), some (.int (k : Int)), r2, r3, r4, r5, r6, r7] S') :
    PM.wpSs C39 l19_0 D [some (.loc 0), some (.int (k : Int)), r2, r3, r4, r5, r6, r7] S := by
  simp only [l19_0, l19_0_0, PM.wpSs, PM.wpS, PM.wpE, PM.wpEs, PM.wpB, PM.wpT, PM.wpA, bindT, setAll, wipeL, endsOf, List.getElem?_cons_zero, List.getElem?_cons_succ, List.set_cons_zero, List.set_cons_succ, List.length_cons, List.length_nil, binS, ixS, itemsOf, biS, gsG, gsK, gsV, gsC, mtT, mtS]
  refine c7 (n := 38) hi.2 fun x y => ?_
  have hb : Bg (S ++ [.lst [.int x, .int y, .int k]]) S.length := ⟨x, y, k, by simp⟩
  have i1 : In ns (S ++ [.lst [.int x, .int y, .int k]]) := hi.app
  have h1 := hi.1
  generalize S ++ [.lst [.int x, .int y, .int k]] = S1 at hb i1
  generalize S.length = b at hb h1
  simp only [m19_0_1, l19_0_1, PM.wpSs, PM.wpS, PM.wpE, PM.wpEs, PM.wpB, PM.wpT, PM.wpA, bindT, setAll, wipeL, endsOf, List.getElem?_cons_zero, List.getElem?_cons_succ, List.set_cons_zero, List.set_cons_succ, List.length_cons, List.length_nil, binS, ixS, itemsOf, biS, gsG, gsK, gsV, gsC, mtT, mtS]
  refine c8 (n := 38) (by decide) (by decide) hb fun r S2 f2 g0 g1 => ?_
  simp only [m19_0_2, l19_0_2, PM.wpSs, PM.wpS, PM.wpE, PM.wpEs, PM.wpB, PM.wpT, PM.wpA, bindT, setAll, wipeL, endsOf, List.getElem?_cons_zero, List.getElem?_cons_succ, List.set_cons_zero, List.set_cons_succ, List.length_cons, List.length_nil, binS, ixS, itemsOf, biS, gsG, gsK, gsV, gsC, mtT, mtS]
  refine c18 (n := 23) f2.2.2 (by omega) (by omega) fun v S3 f3 dv => ?_
  exact rest3 (by omega) (by omega) f3.2.2 h1 (i1.fr (f2.trans f3) h1) dv fun c v p r6 r7 S' i => h _ _ _ _ _ _ S' i
theorem loop {ns : List Int} {D : ED} (h : ∀ ρ S', In ns S' → D.nx ρ S') : ∀ (ks : List Nat) {S : Sto} {r1 r2 r3 r4 r5 r6 r7 : Option Val}, In ns S →
    forS [] (.nm 1) (fun D => PM.wpSs C39 l19_0 D) D (ks.map fun (i : Nat) => Val.int (i : Int)) [some (.loc 0), r1, r2, r3, r4, r5, r6, r7] S
  | [], S, r1, r2, r3, r4, r5, r6, r7, hi => by
    simp only [forS, gdS, List.map_nil, true_and]
    exact h _ S hi
  | k :: ks, S, r1, r2, r3, r4, r5, r6, r7, hi => by
    simp only [forS, gdS, List.map_cons, true_and, bindT, List.set_cons_zero, List.set_cons_succ]
    exact turn hi fun a2 a3 a4 a5 a6 a7 S' i => loop h ks i
theorem fin1 {D : ED} {ρ : LE} {S : Sto} (h : ∀ S', D.rt (.bl true) S') : PM.wpSs C39 t19_1 D ρ S := by
  have e1 : (isI (.int 1) 1 10 && isPay 6 (kOf (.int 1)) .non) = false := by simp [isPay]
  have e2 : (isI (.int 1) 1 10 && isPay 6 (kOf (.int 1)) (.str "show")) = false := by simp [isPay]
  have is0 : ∀ {S : Sto} {Q : Bool → Prop}, Q true → cmpS .is_ (.bl false) (.bl false) S Q := fun {S Q} q => q
  simp only [t19_1, b19_1, PM.wpSs, PM.wpS, PM.wpE, PM.wpEs, PM.wpB, PM.wpT, PM.wpA, bindT, setAll, wipeL, endsOf, List.getElem?_cons_zero, List.getElem?_cons_succ, List.set_cons_zero, List.set_cons_succ, List.length_cons, List.length_nil, binS, ixS, itemsOf, biS, gsG, gsK, gsV, gsC, mtT, mtS]
  refine c4 (n := 21) (c := .int 1) (v := .non) trivial trivial fun S1 f1 => ?_
  rw [e1]
  refine is0 ?_
  simp only [tru, if_true]
  refine c4 (n := 21) (c := .int 1) (v := .str "show") trivial trivial fun S2 f2 => ?_
  rw [e2]
  exact is0 (h S2)
theorem law_true : ∀ ns : List Int, ns.length ≤ 63 → callN ds gs 40 19 [.loc 0] [.rol (ns.map Val.int)] (fun x _ => x = .bl true) (fun _ _ => False) := by
  intro ns hl
  rw [u19]
  have hi : In ns [.rol (ns.map Val.int)] := ⟨by simp, rfl⟩
  have l0 : lstAt [.rol (ns.map Val.int)] 0 = some (ns.map Val.int) := rfl
  simp only [b19, b19_0, PM.wpSs, PM.wpS, PM.wpE, PM.wpEs, PM.wpB, PM.wpT, PM.wpA, bindT, setAll, wipeL, endsOf, List.getElem?_cons_zero, List.getElem?_cons_succ, List.set_cons_zero, List.set_cons_succ, List.length_cons, List.length_nil, binS, ixS, itemsOf, biS, gsG, gsK, gsV, gsC, mtT, mtS, l0, List.length_map]
  generalize hm : (if (if (ns.length : Int) < 16 then (ns.length : Int) else 16) > 1 then (if (ns.length : Int) < 16 then (ns.length : Int) else 16) else 1) = m
  have hr : -(2 ^ 62) ≤ m ∧ m < 2 ^ 62 := by
    rw [← hm]
    split <;> (try split) <;> omega
  simp only [it_range hr]
  exact loop (fun ρ S' i => fin1 fun _ => rfl) (List.range m.toNat) hi
end My


namespace My
open PySem PySem.Spec PyProof.Rows L2 PM
def top (i : Nat) : Stmt := PySem.Challenge.pw_firmground_k02_payloads.main.body.getD i (.Pass ⟨0, 0, 0, 0⟩)
abbrev s0 : Stmt := top 5
theorem sc0 : FnScope ["value", "least", "greatest"] ["value", "least", "greatest"] (defScope s0) := ⟨rfl, rfl, rfl, by decide +kernel, rfl, by decide +kernel, by decide +kernel⟩
theorem ck0 : chkSs tb ["value", "least", "greatest"] true (defScope s0).names d0.body (defBody s0) = true := by decide +kernel
abbrev s1 : Stmt := top 8
theorem sc1 : FnScope ["count"] ["count"] (defScope s1) := ⟨rfl, rfl, rfl, by decide +kernel, rfl, by decide +kernel, by decide +kernel⟩
theorem ck1 : chkSs tb ["count"] true (defScope s1).names d1.body (defBody s1) = true := by decide +kernel
abbrev s2 : Stmt := top 9
theorem sc2 : FnScope ["count", "value"] ["count", "value"] (defScope s2) := ⟨rfl, rfl, rfl, by decide +kernel, rfl, by decide +kernel, by decide +kernel⟩
theorem ck2 : chkSs tb ["count", "value"] true (defScope s2).names d2.body (defBody s2) = true := by decide +kernel
abbrev s3 : Stmt := top 10
theorem sc3 : FnScope ["value"] ["value"] (defScope s3) := ⟨rfl, rfl, rfl, by decide +kernel, rfl, by decide +kernel, by decide +kernel⟩
theorem ck3 : chkSs tb ["value"] true (defScope s3).names d3.body (defBody s3) = true := by decide +kernel
abbrev s4 : Stmt := top 11
theorem sc4 : FnScope ["count", "value"] ["count", "value"] (defScope s4) := ⟨rfl, rfl, rfl, by decide +kernel, rfl, by decide +kernel, by decide +kernel⟩
theorem ck4 : chkSs tb ["count", "value"] true (defScope s4).names d4.body (defBody s4) = true := by decide +kernel
abbrev s5 : Stmt := top 12
theorem sc5 : FnScope ["count", "value", "most", "forms", "form", "item"] ["count", "value", "most"] (defScope s5) := ⟨rfl, rfl, rfl, by decide +kernel, rfl, by decide +kernel, by decide +kernel⟩
theorem ck5 : chkSs tb ["count", "value", "most", "forms", "form", "item"] true (defScope s5).names d5.body (defBody s5) = true := by decide +kernel
abbrev s6 : Stmt := top 13
theorem sc6 : FnScope ["count", "form", "value", "most"] ["count", "form", "value", "most"] (defScope s6) := ⟨rfl, rfl, rfl, by decide +kernel, rfl, by decide +kernel, by decide +kernel⟩
theorem ck6 : chkSs tb ["count", "form", "value", "most"] true (defScope s6).names d6.body (defBody s6) = true := by decide +kernel
abbrev s7 : Stmt := top 15
theorem sc7 : FnScope ["script", "k", "cell"] ["script", "k"] (defScope s7) := ⟨rfl, rfl, rfl, by decide +kernel, rfl, by decide +kernel, by decide +kernel⟩
theorem ck7 : chkSs tb ["script", "k", "cell"] true (defScope s7).names d7.body (defBody s7) = true := by decide +kernel
abbrev s8 : Stmt := top 16
theorem sc8 : FnScope ["bag", "many", "rest", "seed"] ["bag", "many"] (defScope s8) := ⟨rfl, rfl, rfl, by decide +kernel, rfl, by decide +kernel, by decide +kernel⟩
theorem ck8 : chkSs tb ["bag", "many", "rest", "seed"] true (defScope s8).names d8.body (defBody s8) = true := by decide +kernel
abbrev s9 : Stmt := top 17
theorem sc9 : FnScope ["value", "least", "most"] ["value", "least", "most"] (defScope s9) := ⟨rfl, rfl, rfl, by decide +kernel, rfl, by decide +kernel, by decide +kernel⟩
theorem ck9 : chkSs tb ["value", "least", "most"] true (defScope s9).names d9.body (defBody s9) = true := by decide +kernel
abbrev s10 : Stmt := top 18
theorem sc10 : FnScope ["bag", "pick"] ["bag"] (defScope s10) := ⟨rfl, rfl, rfl, by decide +kernel, rfl, by decide +kernel, by decide +kernel⟩
theorem ck10 : chkSs tb ["bag", "pick"] true (defScope s10).names d10.body (defBody s10) = true := by decide +kernel
abbrev s11 : Stmt := top 19
theorem sc11 : FnScope ["bag", "count", "depth", "kind", "cell", "first", "second"] ["bag", "count", "depth"] (defScope s11) := ⟨rfl, rfl, rfl, by decide +kernel, rfl, by decide +kernel, by decide +kernel⟩
theorem ck11 : chkSs tb ["bag", "count", "depth", "kind", "cell", "first", "second"] true (defScope s11).names d11.body (defBody s11) = true := by decide +kernel
abbrev s12 : Stmt := top 20
theorem sc12 : FnScope ["kind", "rows", "one", "shape"] ["kind"] (defScope s12) := ⟨rfl, rfl, rfl, by decide +kernel, rfl, by decide +kernel, by decide +kernel⟩
theorem ck12 : chkSs tb ["kind", "rows", "one", "shape"] true (defScope s12).names d12.body (defBody s12) = true := by decide +kernel
abbrev s13 : Stmt := top 21
theorem sc13 : FnScope ["count", "form", "value", "depth"] ["count", "form", "value", "depth"] (defScope s13) := ⟨rfl, rfl, rfl, by decide +kernel, rfl, by decide +kernel, by decide +kernel⟩
theorem ck13 : chkSs tb ["count", "form", "value", "depth"] true (defScope s13).names d13.body (defBody s13) = true := by decide +kernel
abbrev s14 : Stmt := top 22
theorem sc14 : FnScope ["count", "value", "depth", "shape", "k"] ["count", "value", "depth"] (defScope s14) := ⟨rfl, rfl, rfl, by decide +kernel, rfl, by decide +kernel, by decide +kernel⟩
theorem ck14 : chkSs tb ["count", "value", "depth", "shape", "k"] true (defScope s14).names d14.body (defBody s14) = true := by decide +kernel
abbrev s15 : Stmt := top 23
theorem sc15 : FnScope ["bag", "value", "odd", "at", "choice"] ["bag", "value", "odd"] (defScope s15) := ⟨rfl, rfl, rfl, by decide +kernel, rfl, by decide +kernel, by decide +kernel⟩
theorem ck15 : chkSs tb ["bag", "value", "odd", "at", "choice"] true (defScope s15).names d15.body (defBody s15) = true := by decide +kernel
abbrev s16 : Stmt := top 24
theorem sc16 : FnScope ["bag", "count", "odd"] ["bag", "count"] (defScope s16) := ⟨rfl, rfl, rfl, by decide +kernel, rfl, by decide +kernel, by decide +kernel⟩
theorem ck16 : chkSs tb ["bag", "count", "odd"] true (defScope s16).names d16.body (defBody s16) = true := by decide +kernel
abbrev s17 : Stmt := top 25
theorem sc17 : FnScope ["bag", "value", "k", "choice"] ["bag", "value"] (defScope s17) := ⟨rfl, rfl, rfl, by decide +kernel, rfl, by decide +kernel, by decide +kernel⟩
theorem ck17 : chkSs tb ["bag", "value", "k", "choice"] true (defScope s17).names d17.body (defBody s17) = true := by decide +kernel
abbrev s18 : Stmt := top 26
theorem sc18 : FnScope ["bag", "count", "value", "choice"] ["bag", "count"] (defScope s18) := ⟨rfl, rfl, rfl, by decide +kernel, rfl, by decide +kernel, by decide +kernel⟩
theorem ck18 : chkSs tb ["bag", "count", "value", "choice"] true (defScope s18).names d18.body (defBody s18) = true := by decide +kernel
abbrev s19 : Stmt := top 27
theorem sc19 : FnScope ["script", "k", "bag", "count", "value", "process", "actual", "due"] ["script"] (defScope s19) := ⟨rfl, rfl, rfl, by decide +kernel, rfl, by decide +kernel, by decide +kernel⟩
theorem ck19 : chkSs tb ["script", "k", "bag", "count", "value", "process", "actual", "due"] true (defScope s19).names d19.body (defBody s19) = true := by decide +kernel
/-! ### the end -/
theorem all_mk {l : PySem.W.OpenLaw} {w : World} {K : PySem.W.Frag} {h : Heap} {mg : Str → Option Value} {fa f0 f1 f2 f3 f4 f5 f6 f7 f8 f9 f10 f11 f12 f13 f14 f15 f16 f17 f18 f19 : Addr} (X : K.In h) (G : h.Ns mainGlobals mg) (hfa : mg "law" = some (.ref fa))
    {od0 an0 od1 an1 od2 an2 od3 an3 od4 an4 od5 an5 od6 an6 od7 an7 od8 an8 od9 an9 od10 an10 od11 an11 od12 an12 od13 an13 od14 an14 od15 an15 od16 an16 od17 an17 od18 an18 od19 an19 : Option Addr} {sl0 sl1 sl2 sl3 sl4 sl5 sl6 sl7 sl8 sl9 sl10 sl11 sl12 sl13 sl14 sl15 sl16 sl17 sl18 sl19 : Array (Option Value)} {oc0 kV0 dc0 pm0 cd0 ct0 oc1 kV1 dc1 pm1 cd1 ct1 oc2 kV2 dc2 pm2 cd2 ct2 oc3 kV3 dc3 pm3 cd3 ct3 oc4 kV4 dc4 pm4 cd4 ct4 oc5 kV5 dc5 pm5 cd5 ct5 oc6 kV6 dc6 pm6 cd6 ct6 oc7 kV7 dc7 pm7 cd7 ct7 oc8 kV8 dc8 pm8 cd8 ct8 oc9 kV9 dc9 pm9 cd9 ct9 oc10 kV10 dc10 pm10 cd10 ct10 oc11 kV11 dc11 pm11 cd11 ct11 oc12 kV12 dc12 pm12 cd12 ct12 oc13 kV13 dc13 pm13 cd13 ct13 oc14 kV14 dc14 pm14 cd14 ct14 oc15 kV15 dc15 pm15 cd15 ct15 oc16 kV16 dc16 pm16 cd16 ct16 oc17 kV17 dc17 pm17 cd17 ct17 oc18 kV18 dc18 pm18 cd18 ct18 oc19 kV19 dc19 pm19 cd19 ct19 : Value}
    (a0 : PySem.W.nsIn K mainGlobals "is_integer" = some (some (.ref f0))) (l0 : K.lookup f0 = some ⟨oc0, od0, .func (PySem.W.fnOf "is_integer" "is_integer" (defArgs s0) (defBody s0) (defScope s0) .none kV0 dc0 pm0 an0 cd0 ct0), sl0⟩) (c0 : PySem.W.codeIn K cd0 "is_integer" = true) (k0 : PySem.W.keepIn K (.ref f0) = true)
    (a1 : PySem.W.nsIn K mainGlobals "is_group" = some (some (.ref f1))) (l1 : K.lookup f1 = some ⟨oc1, od1, .func (PySem.W.fnOf "is_group" "is_group" (defArgs s1) (defBody s1) (defScope s1) .none kV1 dc1 pm1 an1 cd1 ct1), sl1⟩) (c1 : PySem.W.codeIn K cd1 "is_group" = true) (k1 : PySem.W.keepIn K (.ref f1) = true)
    (a2 : PySem.W.nsIn K mainGlobals "is_process" = some (some (.ref f2))) (l2 : K.lookup f2 = some ⟨oc2, od2, .func (PySem.W.fnOf "is_process" "is_process" (defArgs s2) (defBody s2) (defScope s2) .none kV2 dc2 pm2 an2 cd2 ct2), sl2⟩) (c2 : PySem.W.codeIn K cd2 "is_process" = true) (k2 : PySem.W.keepIn K (.ref f2) = true)
    (a3 : PySem.W.nsIn K mainGlobals "kind_of" = some (some (.ref f3))) (l3 : K.lookup f3 = some ⟨oc3, od3, .func (PySem.W.fnOf "kind_of" "kind_of" (defArgs s3) (defBody s3) (defScope s3) .none kV3 dc3 pm3 an3 cd3 ct3), sl3⟩) (c3 : PySem.W.codeIn K cd3 "kind_of" = true) (k3 : PySem.W.keepIn K (.ref f3) = true)
    (a4 : PySem.W.nsIn K mainGlobals "is_payload" = some (some (.ref f4))) (l4 : K.lookup f4 = some ⟨oc4, od4, .func (PySem.W.fnOf "is_payload" "is_payload" (defArgs s4) (defBody s4) (defScope s4) .none kV4 dc4 pm4 an4 cd4 ct4), sl4⟩) (c4 : PySem.W.codeIn K cd4 "is_payload" = true) (k4 : PySem.W.keepIn K (.ref f4) = true)
    (a5 : PySem.W.nsIn K mainGlobals "_is_nested" = some (some (.ref f5))) (l5 : K.lookup f5 = some ⟨oc5, od5, .func (PySem.W.fnOf "_is_nested" "_is_nested" (defArgs s5) (defBody s5) (defScope s5) .none kV5 dc5 pm5 an5 cd5 ct5), sl5⟩) (c5 : PySem.W.codeIn K cd5 "_is_nested" = true) (k5 : PySem.W.keepIn K (.ref f5) = true)
    (a6 : PySem.W.nsIn K mainGlobals "_is_item" = some (some (.ref f6))) (l6 : K.lookup f6 = some ⟨oc6, od6, .func (PySem.W.fnOf "_is_item" "_is_item" (defArgs s6) (defBody s6) (defScope s6) .none kV6 dc6 pm6 an6 cd6 ct6), sl6⟩) (c6 : PySem.W.codeIn K cd6 "_is_item" = true) (k6 : PySem.W.keepIn K (.ref f6) = true)
    (a7 : PySem.W.nsIn K mainGlobals "_law_bag" = some (some (.ref f7))) (l7 : K.lookup f7 = some ⟨oc7, od7, .func (PySem.W.fnOf "_law_bag" "_law_bag" (defArgs s7) (defBody s7) (defScope s7) .none kV7 dc7 pm7 an7 cd7 ct7), sl7⟩) (c7 : PySem.W.codeIn K cd7 "_law_bag" = true) (k7 : PySem.W.keepIn K (.ref f7) = true)
    (a8 : PySem.W.nsIn K mainGlobals "_law_draw" = some (some (.ref f8))) (l8 : K.lookup f8 = some ⟨oc8, od8, .func (PySem.W.fnOf "_law_draw" "_law_draw" (defArgs s8) (defBody s8) (defScope s8) .none kV8 dc8 pm8 an8 cd8 ct8), sl8⟩) (c8 : PySem.W.codeIn K cd8 "_law_draw" = true) (k8 : PySem.W.keepIn K (.ref f8) = true)
    (a9 : PySem.W.nsIn K mainGlobals "_law_is_int" = some (some (.ref f9))) (l9 : K.lookup f9 = some ⟨oc9, od9, .func (PySem.W.fnOf "_law_is_int" "_law_is_int" (defArgs s9) (defBody s9) (defScope s9) .none kV9 dc9 pm9 an9 cd9 ct9), sl9⟩) (c9 : PySem.W.codeIn K cd9 "_law_is_int" = true) (k9 : PySem.W.keepIn K (.ref f9) = true)
    (a10 : PySem.W.nsIn K mainGlobals "_law_value" = some (some (.ref f10))) (l10 : K.lookup f10 = some ⟨oc10, od10, .func (PySem.W.fnOf "_law_value" "_law_value" (defArgs s10) (defBody s10) (defScope s10) .none kV10 dc10 pm10 an10 cd10 ct10), sl10⟩) (c10 : PySem.W.codeIn K cd10 "_law_value" = true) (k10 : PySem.W.keepIn K (.ref f10) = true)
    (a11 : PySem.W.nsIn K mainGlobals "_law_payload" = some (some (.ref f11))) (l11 : K.lookup f11 = some ⟨oc11, od11, .func (PySem.W.fnOf "_law_payload" "_law_payload" (defArgs s11) (defBody s11) (defScope s11) .none kV11 dc11 pm11 an11 cd11 ct11), sl11⟩) (c11 : PySem.W.codeIn K cd11 "_law_payload" = true) (k11 : PySem.W.keepIn K (.ref f11) = true)
    (a12 : PySem.W.nsIn K mainGlobals "_law_shape" = some (some (.ref f12))) (l12 : K.lookup f12 = some ⟨oc12, od12, .func (PySem.W.fnOf "_law_shape" "_law_shape" (defArgs s12) (defBody s12) (defScope s12) .none kV12 dc12 pm12 an12 cd12 ct12), sl12⟩) (c12 : PySem.W.codeIn K cd12 "_law_shape" = true) (k12 : PySem.W.keepIn K (.ref f12) = true)
    (a13 : PySem.W.nsIn K mainGlobals "_law_is_item" = some (some (.ref f13))) (l13 : K.lookup f13 = some ⟨oc13, od13, .func (PySem.W.fnOf "_law_is_item" "_law_is_item" (defArgs s13) (defBody s13) (defScope s13) .none kV13 dc13 pm13 an13 cd13 ct13), sl13⟩) (c13 : PySem.W.codeIn K cd13 "_law_is_item" = true) (k13 : PySem.W.keepIn K (.ref f13) = true)
    (a14 : PySem.W.nsIn K mainGlobals "_law_is_payload" = some (some (.ref f14))) (l14 : K.lookup f14 = some ⟨oc14, od14, .func (PySem.W.fnOf "_law_is_payload" "_law_is_payload" (defArgs s14) (defBody s14) (defScope s14) .none kV14 dc14 pm14 an14 cd14 ct14), sl14⟩) (c14 : PySem.W.codeIn K cd14 "_law_is_payload" = true) (k14 : PySem.W.keepIn K (.ref f14) = true)
    (a15 : PySem.W.nsIn K mainGlobals "_law_spoilt" = some (some (.ref f15))) (l15 : K.lookup f15 = some ⟨oc15, od15, .func (PySem.W.fnOf "_law_spoilt" "_law_spoilt" (defArgs s15) (defBody s15) (defScope s15) .none kV15 dc15 pm15 an15 cd15 ct15), sl15⟩) (c15 : PySem.W.codeIn K cd15 "_law_spoilt" = true) (k15 : PySem.W.keepIn K (.ref f15) = true)
    (a16 : PySem.W.nsIn K mainGlobals "_law_odd" = some (some (.ref f16))) (l16 : K.lookup f16 = some ⟨oc16, od16, .func (PySem.W.fnOf "_law_odd" "_law_odd" (defArgs s16) (defBody s16) (defScope s16) .none kV16 dc16 pm16 an16 cd16 ct16), sl16⟩) (c16 : PySem.W.codeIn K cd16 "_law_odd" = true) (k16 : PySem.W.keepIn K (.ref f16) = true)
    (a17 : PySem.W.nsIn K mainGlobals "_law_wrapped" = some (some (.ref f17))) (l17 : K.lookup f17 = some ⟨oc17, od17, .func (PySem.W.fnOf "_law_wrapped" "_law_wrapped" (defArgs s17) (defBody s17) (defScope s17) .none kV17 dc17 pm17 an17 cd17 ct17), sl17⟩) (c17 : PySem.W.codeIn K cd17 "_law_wrapped" = true) (k17 : PySem.W.keepIn K (.ref f17) = true)
    (a18 : PySem.W.nsIn K mainGlobals "_law_built" = some (some (.ref f18))) (l18 : K.lookup f18 = some ⟨oc18, od18, .func (PySem.W.fnOf "_law_built" "_law_built" (defArgs s18) (defBody s18) (defScope s18) .none kV18 dc18 pm18 an18 cd18 ct18), sl18⟩) (c18 : PySem.W.codeIn K cd18 "_law_built" = true) (k18 : PySem.W.keepIn K (.ref f18) = true)
    (a19 : PySem.W.nsIn K mainGlobals "law" = some (some (.ref f19))) (l19 : K.lookup f19 = some ⟨oc19, od19, .func (PySem.W.fnOf "law" "law" (defArgs s19) (defBody s19) (defScope s19) .none kV19 dc19 pm19 an19 cd19 ct19), sl19⟩) (c19 : PySem.W.codeIn K cd19 "law" = true) (k19 : PySem.W.keepIn K (.ref f19) = true)
    (gl0 : CstAt K "MOST_PROCESSES" (.int (10)))
    (gl1 : CstAt K "MOST_NESTING" (.int (6)))
    (gl2 : CDk K w.params "_FORMS" dk0)
    (gl3 : CstAt K "CELLS" (.int (4)))
    (gl4 : CstAt K "MOST_VALUE" (.int (1000000)))
    (z0 : PySem.W.nsIn K mainGlobals "all" = some none)
    (z1 : PySem.W.nsIn K mainGlobals "bool" = some none)
    (z2 : PySem.W.nsIn K mainGlobals "int" = some none)
    (z3 : PySem.W.nsIn K mainGlobals "isinstance" = some none)
    (z4 : PySem.W.nsIn K mainGlobals "len" = some none)
    (z5 : PySem.W.nsIn K mainGlobals "max" = some none)
    (z6 : PySem.W.nsIn K mainGlobals "min" = some none)
    (z7 : PySem.W.nsIn K mainGlobals "range" = some none)
    (z8 : PySem.W.nsIn K mainGlobals "str" = some none)
    (z9 : PySem.W.nsIn K mainGlobals "tuple" = some none)
    (z10 : PySem.W.nsIn K mainGlobals "type" = some none)
    (z11 : PySem.W.nsIn K mainGlobals "zip" = some none)
    : ∃ fd : FuncData, (∀ (s : Shared) (v : Value), BindsTo s fd ⟨[v], []⟩ [("script", v)]) ∧ ∀ base : Heap, K.In base → base.Ns mainGlobals mg → FnOk l.prog w K mg base (L2.CX l.prog w) (2 * 40) fa fd ["script"] (spC (lk K) (cenv ds gs 40) 19) := by
  have e := hfa.symm.trans (PySem.W.mg_of X G a19)
  cases e
  have F0 := fun_mk (st := s0) l0 c0 k0
  have b0_ := F0.binds (ps := ["value", "least", "greatest"]) fun _ _ _ _ _ _ us hl => match us, hl with | [_, _, _], _ => rfl
  have D0 : DefOk K mg tb 0 d0 := ⟨_, _, _, _, _, _, rfl, PySem.W.mg_of X G a0, F0, sc0, rfl, rfl, ck0, b0_⟩
  have F1 := fun_mk (st := s1) l1 c1 k1
  have b1_ := F1.binds (ps := ["count"]) fun _ _ _ _ _ _ us hl => match us, hl with | [_], _ => rfl
  have D1 : DefOk K mg tb 1 d1 := ⟨_, _, _, _, _, _, rfl, PySem.W.mg_of X G a1, F1, sc1, rfl, rfl, ck1, b1_⟩
  have F2 := fun_mk (st := s2) l2 c2 k2
  have b2_ := F2.binds (ps := ["count", "value"]) fun _ _ _ _ _ _ us hl => match us, hl with | [_, _], _ => rfl
  have D2 : DefOk K mg tb 2 d2 := ⟨_, _, _, _, _, _, rfl, PySem.W.mg_of X G a2, F2, sc2, rfl, rfl, ck2, b2_⟩
  have F3 := fun_mk (st := s3) l3 c3 k3
  have b3_ := F3.binds (ps := ["value"]) fun _ _ _ _ _ _ us hl => match us, hl with | [_], _ => rfl
  have D3 : DefOk K mg tb 3 d3 := ⟨_, _, _, _, _, _, rfl, PySem.W.mg_of X G a3, F3, sc3, rfl, rfl, ck3, b3_⟩
  have F4 := fun_mk (st := s4) l4 c4 k4
  have b4_ := F4.binds (ps := ["count", "value"]) fun _ _ _ _ _ _ us hl => match us, hl with | [_, _], _ => rfl
  have D4 : DefOk K mg tb 4 d4 := ⟨_, _, _, _, _, _, rfl, PySem.W.mg_of X G a4, F4, sc4, rfl, rfl, ck4, b4_⟩
  have F5 := fun_mk (st := s5) l5 c5 k5
  have b5_ := F5.binds (ps := ["count", "value", "most"]) fun _ _ _ _ _ _ us hl => match us, hl with | [_, _, _], _ => rfl
  have D5 : DefOk K mg tb 5 d5 := ⟨_, _, _, _, _, _, rfl, PySem.W.mg_of X G a5, F5, sc5, rfl, rfl, ck5, b5_⟩
  have F6 := fun_mk (st := s6) l6 c6 k6
  have b6_ := F6.binds (ps := ["count", "form", "value", "most"]) fun _ _ _ _ _ _ us hl => match us, hl with | [_, _, _, _], _ => rfl
  have D6 : DefOk K mg tb 6 d6 := ⟨_, _, _, _, _, _, rfl, PySem.W.mg_of X G a6, F6, sc6, rfl, rfl, ck6, b6_⟩
  have F7 := fun_mk (st := s7) l7 c7 k7
  have b7_ := F7.binds (ps := ["script", "k"]) fun _ _ _ _ _ _ us hl => match us, hl with | [_, _], _ => rfl
  have D7 : DefOk K mg tb 7 d7 := ⟨_, _, _, _, _, _, rfl, PySem.W.mg_of X G a7, F7, sc7, rfl, rfl, ck7, b7_⟩
  have F8 := fun_mk (st := s8) l8 c8 k8
  have b8_ := F8.binds (ps := ["bag", "many"]) fun _ _ _ _ _ _ us hl => match us, hl with | [_, _], _ => rfl
  have D8 : DefOk K mg tb 8 d8 := ⟨_, _, _, _, _, _, rfl, PySem.W.mg_of X G a8, F8, sc8, rfl, rfl, ck8, b8_⟩
  have F9 := fun_mk (st := s9) l9 c9 k9
  have b9_ := F9.binds (ps := ["value", "least", "most"]) fun _ _ _ _ _ _ us hl => match us, hl with | [_, _, _], _ => rfl
  have D9 : DefOk K mg tb 9 d9 := ⟨_, _, _, _, _, _, rfl, PySem.W.mg_of X G a9, F9, sc9, rfl, rfl, ck9, b9_⟩
  have F10 := fun_mk (st := s10) l10 c10 k10
  have b10_ := F10.binds (ps := ["bag"]) fun _ _ _ _ _ _ us hl => match us, hl with | [_], _ => rfl
  have D10 : DefOk K mg tb 10 d10 := ⟨_, _, _, _, _, _, rfl, PySem.W.mg_of X G a10, F10, sc10, rfl, rfl, ck10, b10_⟩
  have F11 := fun_mk (st := s11) l11 c11 k11
  have b11_ := F11.binds (ps := ["bag", "count", "depth"]) fun _ _ _ _ _ _ us hl => match us, hl with | [_, _, _], _ => rfl
  have D11 : DefOk K mg tb 11 d11 := ⟨_, _, _, _, _, _, rfl, PySem.W.mg_of X G a11, F11, sc11, rfl, rfl, ck11, b11_⟩
  have F12 := fun_mk (st := s12) l12 c12 k12
  have b12_ := F12.binds (ps := ["kind"]) fun _ _ _ _ _ _ us hl => match us, hl with | [_], _ => rfl
  have D12 : DefOk K mg tb 12 d12 := ⟨_, _, _, _, _, _, rfl, PySem.W.mg_of X G a12, F12, sc12, rfl, rfl, ck12, b12_⟩
  have F13 := fun_mk (st := s13) l13 c13 k13
  have b13_ := F13.binds (ps := ["count", "form", "value", "depth"]) fun _ _ _ _ _ _ us hl => match us, hl with | [_, _, _, _], _ => rfl
  have D13 : DefOk K mg tb 13 d13 := ⟨_, _, _, _, _, _, rfl, PySem.W.mg_of X G a13, F13, sc13, rfl, rfl, ck13, b13_⟩
  have F14 := fun_mk (st := s14) l14 c14 k14
  have b14_ := F14.binds (ps := ["count", "value", "depth"]) fun _ _ _ _ _ _ us hl => match us, hl with | [_, _, _], _ => rfl
  have D14 : DefOk K mg tb 14 d14 := ⟨_, _, _, _, _, _, rfl, PySem.W.mg_of X G a14, F14, sc14, rfl, rfl, ck14, b14_⟩
  have F15 := fun_mk (st := s15) l15 c15 k15
  have b15_ := F15.binds (ps := ["bag", "value", "odd"]) fun _ _ _ _ _ _ us hl => match us, hl with | [_, _, _], _ => rfl
  have D15 : DefOk K mg tb 15 d15 := ⟨_, _, _, _, _, _, rfl, PySem.W.mg_of X G a15, F15, sc15, rfl, rfl, ck15, b15_⟩
  have F16 := fun_mk (st := s16) l16 c16 k16
  have b16_ := F16.binds (ps := ["bag", "count"]) fun _ _ _ _ _ _ us hl => match us, hl with | [_, _], _ => rfl
  have D16 : DefOk K mg tb 16 d16 := ⟨_, _, _, _, _, _, rfl, PySem.W.mg_of X G a16, F16, sc16, rfl, rfl, ck16, b16_⟩
  have F17 := fun_mk (st := s17) l17 c17 k17
  have b17_ := F17.binds (ps := ["bag", "value"]) fun _ _ _ _ _ _ us hl => match us, hl with | [_, _], _ => rfl
  have D17 : DefOk K mg tb 17 d17 := ⟨_, _, _, _, _, _, rfl, PySem.W.mg_of X G a17, F17, sc17, rfl, rfl, ck17, b17_⟩
  have F18 := fun_mk (st := s18) l18 c18 k18
  have b18_ := F18.binds (ps := ["bag", "count"]) fun _ _ _ _ _ _ us hl => match us, hl with | [_, _], _ => rfl
  have D18 : DefOk K mg tb 18 d18 := ⟨_, _, _, _, _, _, rfl, PySem.W.mg_of X G a18, F18, sc18, rfl, rfl, ck18, b18_⟩
  have F19 := fun_mk (st := s19) l19 c19 k19
  have b19_ := F19.binds (ps := ["script"]) fun _ _ _ _ _ _ us hl => match us, hl with | [_], _ => rfl
  have D19 : DefOk K mg tb 19 d19 := ⟨_, _, _, _, _, _, rfl, PySem.W.mg_of X G a19, F19, sc19, rfl, rfl, ck19, b19_⟩
  have hd : ∀ i d, ds[i]? = some d → DefOk K mg tb i d := fun i d h => match i, h with
    | 0, h => by cases h; exact D0
    | 1, h => by cases h; exact D1
    | 2, h => by cases h; exact D2
    | 3, h => by cases h; exact D3
    | 4, h => by cases h; exact D4
    | 5, h => by cases h; exact D5
    | 6, h => by cases h; exact D6
    | 7, h => by cases h; exact D7
    | 8, h => by cases h; exact D8
    | 9, h => by cases h; exact D9
    | 10, h => by cases h; exact D10
    | 11, h => by cases h; exact D11
    | 12, h => by cases h; exact D12
    | 13, h => by cases h; exact D13
    | 14, h => by cases h; exact D14
    | 15, h => by cases h; exact D15
    | 16, h => by cases h; exact D16
    | 17, h => by cases h; exact D17
    | 18, h => by cases h; exact D18
    | 19, h => by cases h; exact D19
    | i + 20, h => by
      have : ds.length ≤ i + 20 := Nat.le_add_left _ _
      rw [List.getElem?_eq_none_iff.mpr this] at h
      cases h
  have hb : ∀ x, tb.bi.contains x = true → mg x = none := fun x h => by
    have h2 : x ∈ tb.bi := by simpa using h
    simp only [tb, List.mem_cons, List.not_mem_nil, or_false] at h2
    rcases h2 with rfl | rfl | rfl | rfl | rfl | rfl | rfl | rfl | rfl | rfl | rfl | rfl
    · exact PySem.W.mg_none_of X G z0
    · exact PySem.W.mg_none_of X G z1
    · exact PySem.W.mg_none_of X G z2
    · exact PySem.W.mg_none_of X G z3
    · exact PySem.W.mg_none_of X G z4
    · exact PySem.W.mg_none_of X G z5
    · exact PySem.W.mg_none_of X G z6
    · exact PySem.W.mg_none_of X G z7
    · exact PySem.W.mg_none_of X G z8
    · exact PySem.W.mg_none_of X G z9
    · exact PySem.W.mg_none_of X G z10
    · exact PySem.W.mg_none_of X G z11
  have hg : ∀ i x, tb.gl[i]? = some x → ∃ u v, mg x = some u ∧ RelV v u ∧ ∀ ι H, Rv (lk K).K ι H (gs.glo i) v := fun i x h => match i, h with
    | 0, h => by cases h; obtain ⟨u, h1, v, h2, h3⟩ := gl0; exact ⟨_, v, PySem.W.mg_of X G h1, h2, h3⟩
    | 1, h => by cases h; obtain ⟨u, h1, v, h2, h3⟩ := gl1; exact ⟨_, v, PySem.W.mg_of X G h1, h2, h3⟩
    | 2, h => by cases h; obtain ⟨a, es, n, h1, _⟩ := gl2; exact ⟨_, V.ref a, PySem.W.mg_of X G h1, rfl, fun ι H => by show Rv K ι H (.cst _ _) _; simp only [Rv, coOf, h1]⟩
    | 3, h => by cases h; obtain ⟨u, h1, v, h2, h3⟩ := gl3; exact ⟨_, v, PySem.W.mg_of X G h1, h2, h3⟩
    | 4, h => by cases h; obtain ⟨u, h1, v, h2, h3⟩ := gl4; exact ⟨_, v, PySem.W.mg_of X G h1, h2, h3⟩
    | i + 5, h => by
      have : tb.gl.length ≤ i + 5 := Nat.le_add_left _ _
      rw [List.getElem?_eq_none_iff.mpr this] at h
      cases h
  have hcs : ∀ n x kvs, gs.cst n = some (x, kvs) → CDk K w.params x kvs := fun n x kvs h => match n, h with
    | 0, h => by cases h; exact gl2
    | n + 1, h => nomatch h
  refine ⟨PySem.W.fnOf "law" "law" (defArgs s19) (defBody s19) (defScope s19) .none kV19 dc19 pm19 an19 cd19 ct19, fun s v => .of_eq rfl, fun base _ _ => ?_⟩
  exact step (P := l.prog) (w := w) (base := base) (L := lk K) (T := tb) (ds := ds) (gs := gs) hcs (n := 39) rfl rfl hb hg (link hcs rfl rfl hd hb hg 39) (i := 19) rfl F19 sc19 rfl rfl ck19
theorem small_room : Room (2 * 40) callerA := ⟨rfl, by decide, by decide⟩
end My
open PySem PySem.W PyProof.Rows
set_option maxRecDepth 100000 in
set_option maxHeartbeats 0 in
theorem PySem.Challenge.cw_firmground_k02_payloads_holds : PySem.Challenge.rw_firmground_k02_payloads.Holds := by
  w_on; o_law; k_head; (case hw => w_witness2)
  k_fill
  refine PM.pm_walk (l := PySem.Challenge.rw_firmground_k02_payloads) (ds := My.ds) (gs := My.gs) (depth := 40) (lawi := 19) (lkf := PM.lk) (fun _ => rfl) rfl rfl My.small_room (fun w h Y => PySem.W.kIn_of Y) ?F My.law_true
  case F =>
    intro w mg fa h KX G hmg
    refine' My.all_mk KX G hmg ?a0 ?l0 ?c0 ?k0 ?a1 ?l1 ?c1 ?k1 ?a2 ?l2 ?c2 ?k2 ?a3 ?l3 ?c3 ?k3 ?a4 ?l4 ?c4 ?k4 ?a5 ?l5 ?c5 ?k5 ?a6 ?l6 ?c6 ?k6 ?a7 ?l7 ?c7 ?k7 ?a8 ?l8 ?c8 ?k8 ?a9 ?l9 ?c9 ?k9 ?a10 ?l10 ?c10 ?k10 ?a11 ?l11 ?c11 ?k11 ?a12 ?l12 ?c12 ?k12 ?a13 ?l13 ?c13 ?k13 ?a14 ?l14 ?c14 ?k14 ?a15 ?l15 ?c15 ?k15 ?a16 ?l16 ?c16 ?k16 ?a17 ?l17 ?c17 ?k17 ?a18 ?l18 ?c18 ?k18 ?a19 ?l19 ?c19 ?k19 ?gl0 ?gl1 ?gl2 ?gl3 ?gl4 ?z0 ?z1 ?z2 ?z3 ?z4 ?z5 ?z6 ?z7 ?z8 ?z9 ?z10 ?z11
    (case a0 => k_is); (case l0 => k_is); (case c0 => k_is); (case k0 => k_is); (case a1 => k_is); (case l1 => k_is); (case c1 => k_is); (case k1 => k_is); (case a2 => k_is); (case l2 => k_is); (case c2 => k_is); (case k2 => k_is); (case a3 => k_is); (case l3 => k_is); (case c3 => k_is); (case k3 => k_is); (case a4 => k_is); (case l4 => k_is); (case c4 => k_is); (case k4 => k_is); (case a5 => k_is); (case l5 => k_is); (case c5 => k_is); (case k5 => k_is); (case a6 => k_is); (case l6 => k_is); (case c6 => k_is); (case k6 => k_is); (case a7 => k_is); (case l7 => k_is); (case c7 => k_is); (case k7 => k_is); (case a8 => k_is); (case l8 => k_is); (case c8 => k_is); (case k8 => k_is); (case a9 => k_is); (case l9 => k_is); (case c9 => k_is); (case k9 => k_is); (case a10 => k_is); (case l10 => k_is); (case c10 => k_is); (case k10 => k_is); (case a11 => k_is); (case l11 => k_is); (case c11 => k_is); (case k11 => k_is); (case a12 => k_is); (case l12 => k_is); (case c12 => k_is); (case k12 => k_is); (case a13 => k_is); (case l13 => k_is); (case c13 => k_is); (case k13 => k_is); (case a14 => k_is); (case l14 => k_is); (case c14 => k_is); (case k14 => k_is); (case a15 => k_is); (case l15 => k_is); (case c15 => k_is); (case k15 => k_is); (case a16 => k_is); (case l16 => k_is); (case c16 => k_is); (case k16 => k_is); (case a17 => k_is); (case l17 => k_is); (case c17 => k_is); (case k17 => k_is); (case a18 => k_is); (case l18 => k_is); (case c18 => k_is); (case k18 => k_is); (case a19 => k_is); (case l19 => k_is); (case c19 => k_is); (case k19 => k_is); (case gl0 => refine' PM.cstAt_mk ?q1 ?q2; (case q1 => k_is); (case q2 => exact PM.cst_int)); (case gl1 => refine' PM.cstAt_mk ?q6 ?q7; (case q6 => k_is); (case q7 => exact PM.cst_int)); (case gl2 => refine' PM.cdk_mk ?q11 ?q12 ?q13 ?q14 ?q15; (case q11 => k_is); (case q12 => k_is); (case q13 => exact rfl); (case q14 => exact (by decide)); (case q15 => refine' PM.ents_cons ?q76 ?q77; (case q76 => refine' PM.cst_tupG ?q78 ?q79 ?q80 ?q81; (case q78 => k_is); (case q79 => exact rfl); (case q80 => exact (by decide)); (case q81 => refine' PM.csts_cons ?q82 ?q83; (case q82 => exact PM.cst_str); (case q83 => refine' PM.csts_cons ?q84 ?q85; (case q84 => exact PM.cst_str); (case q85 => exact PM.csts_nil)))); (case q77 => refine' PM.ents_cons ?q66 ?q67; (case q66 => refine' PM.cst_tupG ?q68 ?q69 ?q70 ?q71; (case q68 => k_is); (case q69 => exact rfl); (case q70 => exact (by decide)); (case q71 => refine' PM.csts_cons ?q72 ?q73; (case q72 => exact PM.cst_str); (case q73 => refine' PM.csts_cons ?q74 ?q75; (case q74 => exact PM.cst_str); (case q75 => exact PM.csts_nil)))); (case q67 => refine' PM.ents_cons ?q56 ?q57; (case q56 => refine' PM.cst_tupG ?q58 ?q59 ?q60 ?q61; (case q58 => k_is); (case q59 => exact rfl); (case q60 => exact (by decide)); (case q61 => refine' PM.csts_cons ?q62 ?q63; (case q62 => exact PM.cst_str); (case q63 => refine' PM.csts_cons ?q64 ?q65; (case q64 => exact PM.cst_str); (case q65 => exact PM.csts_nil)))); (case q57 => refine' PM.ents_cons ?q46 ?q47; (case q46 => refine' PM.cst_tupG ?q48 ?q49 ?q50 ?q51; (case q48 => k_is); (case q49 => exact rfl); (case q50 => exact (by decide)); (case q51 => refine' PM.csts_cons ?q52 ?q53; (case q52 => exact PM.cst_str); (case q53 => refine' PM.csts_cons ?q54 ?q55; (case q54 => exact PM.cst_str); (case q55 => exact PM.csts_nil)))); (case q47 => refine' PM.ents_cons ?q38 ?q39; (case q38 => refine' PM.cst_tupG ?q40 ?q41 ?q42 ?q43; (case q40 => k_is); (case q41 => exact rfl); (case q42 => exact (by decide)); (case q43 => refine' PM.csts_cons ?q44 ?q45; (case q44 => exact PM.cst_str); (case q45 => exact PM.csts_nil))); (case q39 => refine' PM.ents_cons ?q28 ?q29; (case q28 => refine' PM.cst_tupG ?q30 ?q31 ?q32 ?q33; (case q30 => k_is); (case q31 => exact rfl); (case q32 => exact (by decide)); (case q33 => refine' PM.csts_cons ?q34 ?q35; (case q34 => exact PM.cst_str); (case q35 => refine' PM.csts_cons ?q36 ?q37; (case q36 => exact PM.cst_str); (case q37 => exact PM.csts_nil)))); (case q29 => refine' PM.ents_cons ?q16 ?q17; (case q16 => refine' PM.cst_tupG ?q18 ?q19 ?q20 ?q21; (case q18 => k_is); (case q19 => exact rfl); (case q20 => exact (by decide)); (case q21 => refine' PM.csts_cons ?q22 ?q23; (case q22 => exact PM.cst_str); (case q23 => refine' PM.csts_cons ?q24 ?q25; (case q24 => exact PM.cst_str); (case q25 => refine' PM.csts_cons ?q26 ?q27; (case q26 => exact PM.cst_str); (case q27 => exact PM.csts_nil))))); (case q17 => exact PM.ents_nil))))))))); (case gl3 => refine' PM.cstAt_mk ?q86 ?q87; (case q86 => k_is); (case q87 => exact PM.cst_int)); (case gl4 => refine' PM.cstAt_mk ?q91 ?q92; (case q91 => k_is); (case q92 => exact PM.cst_int)); (case z0 => k_is); (case z1 => k_is); (case z2 => k_is); (case z3 => k_is); (case z4 => k_is); (case z5 => k_is); (case z6 => k_is); (case z7 => k_is); (case z8 => k_is); (case z9 => k_is); (case z10 => k_is); (case z11 => k_is)

