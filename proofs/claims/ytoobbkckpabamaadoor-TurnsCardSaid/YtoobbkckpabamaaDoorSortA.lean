/- The library's stable sort, plain: insertion sort, rotation and merging in place under a coarse order, by which the finer one is sorted, where equals of the coarse order stand in the finer order already. -/
import Derived.Sort.LotA
namespace Go.Proofs.YtoobbkckpabamaaDoor
open Go Go.Sort
section
variable {α : Type}
/-! ### rotation -/
theorem app_congr (f : Nat → α) {x y : Nat} (h : x = y) : f x = f y := by rw [h]
def swr (f : Nat → α) (a b n : Nat) : Nat → α := fun i => if a ≤ i ∧ i < a + n then f (i + (b - a)) else if b ≤ i ∧ i < b + n then f (i - (b - a)) else f i
def rot (f : Nat → α) (a m b : Nat) : Nat → α := fun i => if a ≤ i ∧ i < a + (b - m) then f (i + (m - a)) else if a + (b - m) ≤ i ∧ i < b then f (i - (b - m)) else f i
theorem swr_zero (f : Nat → α) (a b : Nat) : swr f a b 0 = f := by
  funext i
  unfold swr
  rw [if_neg (by omega), if_neg (by omega)]
theorem rot_gt (f : Nat → α) {i j m : Nat} (hij : j < i) (him : i ≤ m) : rot (swr f (m - i) m j) (m - (i - j)) m (m + j) = rot f (m - i) m (m + j) := by
  funext p
  simp only [rot, swr]
  repeat' split
  all_goals first | (exfalso; omega) | exact app_congr f (by omega)
theorem rot_lt (f : Nat → α) {i j m : Nat} (hij : i < j) (him : i ≤ m) : rot (swr f (m - i) (m + j - i) i) (m - i) m (m + (j - i)) = rot f (m - i) m (m + j) := by
  funext p
  simp only [rot, swr]
  repeat' split
  all_goals first | (exfalso; omega) | exact app_congr f (by omega)
theorem rot_eq (f : Nat → α) {i m : Nat} (him : i ≤ m) : swr f (m - i) m i = rot f (m - i) m (m + i) := by
  funext p
  simp only [rot, swr]
  repeat' split
  all_goals first | (exfalso; omega) | exact app_congr f (by omega)
end
section
variable {α : Type} [Inhabited α]
/-- lt' is a strict weak order, and parts more than lt -/
structure Finer (lt lt' : α → α → Bool) : Prop where
  swo : SWO lt'
  sub : ∀ x y, lt x y = true → lt' x y = true
/-- a later one that is less than an earlier one is so by the coarse order -/
def OkIn (lt lt' : α → α → Bool) (a b : Nat) (d : Array α) : Prop := ∀ i j, a ≤ i → i < j → j < b → lt' d[j]! d[i]! = true → lt d[j]! d[i]! = true
variable {lt lt' : α → α → Bool}
theorem OkIn.eq (F : Finer lt lt') {a b : Nat} {d : Array α} (h : OkIn lt lt' a b d) {i j : Nat} (hi : a ≤ i) (hij : i < j) (hj : j < b) : lt d[j]! d[i]! = lt' d[j]! d[i]! := by
  rw [Bool.eq_iff_iff]
  exact ⟨F.sub _ _, h i j hi hij hj⟩
theorem OkIn.swap (F : Finer lt lt') {a b : Nat} {d : Array α} (h : OkIn lt lt' a b d) (hb : b ≤ d.size) {j : Nat} (ha : a ≤ j) (hj : j + 1 < b) (hl : lt d[j + 1]! d[j]! = true) : OkIn lt lt' a b (swp d (j + 1) j) := by
  intro p q hp hpq hq
  have g := swp_get d (show j + 1 < d.size by omega) (show j < d.size by omega)
  rw [g, g]
  by_cases p1 : p = j
  · subst p1
    by_cases q1 : q = p + 1
    · subst q1
      simp only [if_true, if_neg (show ¬ p + 1 = p by omega)]
      intro hx
      have := F.swo.trans _ _ _ hx (F.sub _ _ hl)
      rw [F.swo.irrefl] at this
      cases this
    · simp only [if_true, if_neg (show ¬ q = p by omega), if_neg q1]
      exact h (p + 1) q (by omega) (by omega) hq
  · by_cases p2 : p = j + 1
    · subst p2
      simp only [if_true, if_neg (show ¬ q = j by omega), if_neg (show ¬ q = j + 1 by omega), if_neg p1]
      exact h j q ha (by omega) hq
    · by_cases q1 : q = j
      · subst q1
        simp only [if_true, if_neg p1, if_neg p2]
        exact h p (q + 1) hp (by omega) hj
      · by_cases q2 : q = j + 1
        · subst q2
          simp only [if_true, if_neg p1, if_neg p2, if_neg q1]
          exact h p j hp (by omega) (by omega)
        · simp only [if_neg p1, if_neg p2, if_neg q1, if_neg q2]
          exact h p q hp hpq hq
theorem insInner_eq (F : Finer lt lt') {a b : Nat} : ∀ (j : Nat) (d : Array α), j < b → b ≤ d.size → OkIn lt lt' a b d → insInner lt a j d = insInner lt' a j d ∧ OkIn lt lt' a b (insInner lt a j d) ∧ (insInner lt a j d).size = d.size
  | 0, d, _, _, h => by unfold insInner; exact ⟨rfl, h, rfl⟩
  | j + 1, d, hj, hb, h => by
    unfold insInner
    by_cases ha : j + 1 > a
    · have e := h.eq F (i := j) (j := j + 1) (by omega) (by omega) hj
      rw [← e]
      cases hl : lt d[j + 1]! d[j]! with
      | false => simp only [Bool.and_false, Bool.false_eq_true, if_false]; exact ⟨trivial, h, trivial⟩
      | true =>
        have ih := insInner_eq F j (swp d (j + 1) j) (by omega) (by rw [swp_size]; exact hb) (h.swap F hb (by omega) hj hl)
        simp only [decide_eq_true ha, Bool.and_self, if_true]
        exact ⟨ih.1, ih.2.1, by rw [ih.2.2, swp_size]⟩
    · simp only [decide_eq_false ha, Bool.false_and, Bool.false_eq_true, if_false]
      exact ⟨trivial, h, trivial⟩
theorem insOuter_eq (F : Finer lt lt') {a b : Nat} : ∀ (n i : Nat) (d : Array α), b - i = n → b ≤ d.size → OkIn lt lt' a b d → insOuter lt a b i d = insOuter lt' a b i d
  | 0, i, d, hn, _, _ => by
    rw [insOuter, if_neg (by omega), insOuter, if_neg (by omega)]
  | n + 1, i, d, hn, hb, h => by
    have h1 := insInner_eq F i d (by omega) hb h
    have e1 : insOuter lt a b i d = insOuter lt a b (i + 1) (insInner lt a i d) := by rw [insOuter, if_pos (by omega)]
    have e2 : insOuter lt' a b i d = insOuter lt' a b (i + 1) (insInner lt' a i d) := by rw [insOuter, if_pos (by omega)]
    rw [e1, e2, ← h1.1]
    exact insOuter_eq F n (i + 1) _ (by omega) (by rw [h1.2.2]; exact hb) h1.2.1
/-- insertion sort under the coarse order sorts by the finer one -/
theorem ins_ok (F : Finer lt lt') {a b : Nat} {d : Array α} (hab : a ≤ b) (hb : b ≤ d.size) (h : OkIn lt lt' a b d) : PermIn a b d (insertionSort lt d a b) ∧ SortedIn lt' a b (insertionSort lt d a b) := by
  have e : insertionSort lt d a b = insertionSort lt' d a b := by
    unfold insertionSort
    exact insOuter_eq F _ _ _ rfl hb h
  rw [e]
  exact insertionSort_holds F.swo d a b hab hb
theorem OkIn.perm {a b n : Nat} {d d' : Array α} (h : OkIn lt lt' 0 n d) (hp : PermIn a b d d') (hs : SortedIn lt' a b d') (hb : b ≤ n) (hn : n ≤ d.size) : OkIn lt lt' 0 n d' := by
  intro i j _ hij hj hl
  have hbs : b ≤ d.size := Nat.le_trans hb hn
  by_cases hi : a ≤ i ∧ i < b
  · by_cases hj2 : j < b
    · rw [hs i j hi.1 hij hj2] at hl; cases hl
    · have e : d'[j]! = d[j]! := hp.2.1 j (Or.inr (by omega))
      rw [e] at hl ⊢
      have key : ∀ q, a ≤ q → q < b → (fun x => lt' d[j]! x = true → lt d[j]! x = true) d[q]! := fun q h1 h2 => h q j (Nat.zero_le _) (by omega) hj
      exact permIn_all d d' a b (fun x => lt' d[j]! x = true → lt d[j]! x = true) hbs hp key i hi.1 hi.2 hl
  · have e : d'[i]! = d[i]! := hp.2.1 i (by omega)
    rw [e] at hl ⊢
    by_cases hj2 : a ≤ j ∧ j < b
    · have key : ∀ q, a ≤ q → q < b → (fun x => lt' x d[i]! = true → lt x d[i]! = true) d[q]! := fun q h1 h2 => h i q (Nat.zero_le _) (by omega) (by omega)
      exact permIn_all d d' a b (fun x => lt' x d[i]! = true → lt x d[i]! = true) hbs hp key j hj2.1 hj2.2 hl
    · have e2 : d'[j]! = d[j]! := hp.2.1 j (by omega)
      rw [e2] at hl ⊢
      exact h i j (Nat.zero_le _) hij hj hl
theorem OkIn.narrow {a b n : Nat} {d : Array α} (h : OkIn lt lt' 0 n d) (hb : b ≤ n) : OkIn lt lt' a b d := fun i j _ hij hj => h i j (Nat.zero_le _) hij (by omega)

/-! ### rotation -/
def Is (d : Array α) (f : Nat → α) : Prop := ∀ i, i < d.size → d[i]! = f i
theorem swr_step {d : Array α} {f : Nat → α} {a b k n : Nat} (h : Is d (swr f a b k)) (hk : k < n) (hab : a + n ≤ b) (hb : b + n ≤ d.size) : Is (swp d (a + k) (b + k)) (swr f a b (k + 1)) := by
  intro i hi
  rw [swp_size] at hi
  rw [swp_get d (show a + k < d.size by omega) (show b + k < d.size by omega)]
  by_cases h1 : i = b + k
  · subst h1
    rw [if_pos rfl, h _ (by omega)]
    unfold swr
    rw [if_neg (by omega), if_neg (by omega), if_neg (by omega), if_pos (by omega)]
    exact app_congr f (by omega)
  · rw [if_neg h1]
    by_cases h2 : i = a + k
    · subst h2
      rw [if_pos rfl, h _ (by omega)]
      unfold swr
      rw [if_neg (by omega), if_neg (by omega), if_pos (by omega)]
      exact app_congr f (by omega)
    · rw [if_neg h2, h _ hi]
      unfold swr
      by_cases h3 : a ≤ i ∧ i < a + k
      · rw [if_pos h3, if_pos (by omega)]
      · rw [if_neg h3, if_neg (show ¬ (a ≤ i ∧ i < a + (k + 1)) by omega)]
        by_cases h4 : b ≤ i ∧ i < b + k
        · rw [if_pos h4, if_pos (by omega)]
        · rw [if_neg h4, if_neg (by omega)]
end
end Go.Proofs.YtoobbkckpabamaaDoor
