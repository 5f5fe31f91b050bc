/- The library's stable sort, plain: what merging in place does, where both halves are sorted. -/
import Derived.Test.YtoobbkckpabamaaDoorSortA
namespace Go.Proofs.YtoobbkckpabamaaDoor
open Go Go.Sort
section
variable {α : Type} {lt lt' : α → α → Bool}
theorem not_false_trans (F : Finer lt lt') {x y z : α} (h : lt' x z = true) (hy : lt' x y = false) : lt' y z = true := by
  cases hz : lt' y z with
  | true => rfl
  | false => rw [F.swo.ntrans _ _ _ hy hz] at h; cases h
theorem not_false_trans' (F : Finer lt lt') {x y z : α} (h : lt' x z = true) (hy : lt' y z = false) : lt' x y = true := by
  cases hz : lt' x y with
  | true => rfl
  | false => rw [F.swo.ntrans _ _ _ hz hy] at h; cases h
end
section
variable {α : Type} [Inhabited α] {lt lt' : α → α → Bool}
/-- one of the right half that is less than one of the left is so by the coarse order -/
def Cross (lt lt' : α → α → Bool) (a m b : Nat) (d : Array α) : Prop := ∀ i j, a ≤ i → i < m → m ≤ j → j < b → lt' d[j]! d[i]! = true → lt d[j]! d[i]! = true
theorem rot_at {d d1 : Array α} {s m e : Nat} (hI : Is d1 (rot (fun i => d[i]!) s m e)) (p : Nat) (hp : p < d1.size) :
    (p < s ∧ d1[p]! = d[p]!) ∨ (s ≤ p ∧ p < s + (e - m) ∧ d1[p]! = d[p + (m - s)]!) ∨ (s + (e - m) ≤ p ∧ p < e ∧ d1[p]! = d[p - (e - m)]!) ∨ (e ≤ p ∧ d1[p]! = d[p]!) := by
  rw [hI p hp]
  unfold rot
  by_cases h1 : p < s
  · rw [if_neg (by omega), if_neg (by omega)]
    exact Or.inl ⟨h1, rfl⟩
  · by_cases h2 : p < s + (e - m)
    · rw [if_pos (by omega)]
      exact Or.inr (Or.inl ⟨by omega, h2, rfl⟩)
    · by_cases h3 : p < e
      · rw [if_neg (by omega), if_pos (by omega)]
        exact Or.inr (Or.inr (Or.inl ⟨by omega, h3, rfl⟩))
      · rw [if_neg (by omega), if_neg (by omega)]
        exact Or.inr (Or.inr (Or.inr ⟨by omega, rfl⟩))
theorem sin_le {a b : Nat} {d : Array α} (F : Finer lt lt') (h : SortedIn lt' a b d) {i j : Nat} (hi : a ≤ i) (hij : i ≤ j) (hj : j < b) : lt' d[j]! d[i]! = false := by
  by_cases e : i = j
  · subst e; exact F.swo.irrefl _
  · exact h i j hi (by omega) hj
/-- the less of the right half, all that stands between -/
theorem strict_VX (F : Finer lt lt') {a m b s e : Nat} {d : Array α} (ha : a ≤ s) (heb : e ≤ b) (h1 : SortedIn lt' a m d) (h2 : SortedIn lt' m b d) (hV : s < m → m < e → lt d[e - 1]! d[s]! = true)
    {p q : Nat} (hp : s ≤ p) (hpm : p < m) (hq : m ≤ q) (hqe : q < e) : lt' d[q]! d[p]! = true := by
  have h := F.sub _ _ (hV (by omega) (by omega))
  have hy : lt' d[e - 1]! d[q]! = false := sin_le F h2 hq (by omega) (by omega)
  have hx : lt' d[p]! d[s]! = false := sin_le F h1 ha hp hpm
  exact not_false_trans' F (not_false_trans F h hy) hx
theorem weak_UY (F : Finer lt lt') {a m b s e : Nat} {d : Array α} (hsm : s ≤ m) (hme : m ≤ e) (h1 : SortedIn lt' a m d) (h2 : SortedIn lt' m b d) (hC : Cross lt lt' a m b d) (hU : a < s → e < b → lt d[e]! d[s - 1]! = false)
    {p q : Nat} (hp : a ≤ p) (hps : p < s) (hq : e ≤ q) (hqb : q < b) : lt' d[q]! d[p]! = false := by
  have h0 := hU (by omega) (by omega)
  have h : lt' d[e]! d[s - 1]! = false := by
    cases hz : lt' d[e]! d[s - 1]! with
    | false => rfl
    | true => rw [hC (s - 1) e (by omega) (by omega) hme (by omega) hz] at h0; cases h0
  have hx : lt' d[q]! d[e]! = false := sin_le F h2 hme hq hqb
  have hy : lt' d[s - 1]! d[p]! = false := sin_le F h1 hp (by omega) (by omega)
  exact F.swo.ntrans _ _ _ (F.swo.ntrans _ _ _ hx h) hy
theorem sym_split (F : Finer lt lt') {a m b s e mid : Nat} {d d1 : Array α} (ha : a ≤ s) (hsm : s ≤ m) (hme : m ≤ e) (heb : e ≤ b) (hmid : s + (e - m) = mid) (h1 : SortedIn lt' a m d) (h2 : SortedIn lt' m b d) (hC : Cross lt lt' a m b d)
    (hV : s < m → m < e → lt d[e - 1]! d[s]! = true) (hU : a < s → e < b → lt d[e]! d[s - 1]! = false) (hI : Is d1 (rot (fun i => d[i]!) s m e)) (hz : d1.size = d.size) (hb : b ≤ d.size) :
    SortedIn lt' a s d1 ∧ SortedIn lt' s mid d1 ∧ Cross lt lt' a s mid d1 ∧ SortedIn lt' mid e d1 ∧ SortedIn lt' e b d1 ∧ Cross lt lt' mid e b d1 ∧ ∀ p q, a ≤ p → p < mid → mid ≤ q → q < b → lt' d1[q]! d1[p]! = false := by
  subst hmid
  have at1 : ∀ p, p < s → d1[p]! = d[p]! := fun p hp => by
    rcases rot_at hI p (by omega) with h | h | h | h
    · exact h.2
    all_goals omega
  have at2 : ∀ p, s ≤ p → p < s + (e - m) → d1[p]! = d[p + (m - s)]! := fun p hp hp2 => by
    rcases rot_at hI p (by omega) with h | h | h | h
    · omega
    · exact h.2.2
    all_goals omega
  have at3 : ∀ p, s + (e - m) ≤ p → p < e → d1[p]! = d[p - (e - m)]! := fun p hp hp2 => by
    rcases rot_at hI p (by omega) with h | h | h | h
    · omega
    · omega
    · exact h.2.2
    · omega
  have at4 : ∀ p, e ≤ p → p < b → d1[p]! = d[p]! := fun p hp hp2 => by
    rcases rot_at hI p (by omega) with h | h | h | h
    · omega
    · omega
    · omega
    · exact h.2
  refine ⟨?_, ?_, ?_, ?_, ?_, ?_, ?_⟩
  · intro i j hi hij hj
    rw [at1 i (by omega), at1 j hj]
    exact h1 i j hi hij (by omega)
  · intro i j hi hij hj
    rw [at2 i hi (by omega), at2 j (by omega) hj]
    exact h2 _ _ (by omega) (by omega) (by omega)
  · intro i j hi his hsj hj
    rw [at1 i his, at2 j hsj hj]
    exact hC _ _ hi (by omega) (by omega) (by omega)
  · intro i j hi hij hj
    rw [at3 i hi (by omega), at3 j (by omega) hj]
    exact h1 _ _ (by omega) (by omega) (by omega)
  · intro i j hi hij hj
    rw [at4 i hi (by omega), at4 j (by omega) hj]
    exact h2 _ _ (by omega) hij hj
  · intro i j hi hie hej hj
    rw [at3 i hi hie, at4 j hej hj]
    exact hC _ _ (by omega) (by omega) (by omega) hj
  · intro p q hp hpm hmq hq
    by_cases hps : p < s
    · rw [at1 p hps]
      by_cases hqe : q < e
      · rw [at3 q hmq hqe]
        exact h1 _ _ hp (by omega) (by omega)
      · rw [at4 q (by omega) hq]
        exact weak_UY F hsm hme h1 h2 hC hU hp hps (by omega) hq
    · rw [at2 p (by omega) hpm]
      by_cases hqe : q < e
      · rw [at3 q hmq hqe]
        exact F.swo.asymmA (strict_VX F ha heb h1 h2 hV (by omega) (by omega) (by omega) (by omega))
      · rw [at4 q (by omega) hq]
        exact h2 _ _ (by omega) (by omega) hq
/-- both halves merged, the whole is -/
theorem sym_join {a mid b : Nat} {d1 d2 d3 : Array α} (ha : a ≤ mid) (hmb : mid ≤ b) (hb : b ≤ d1.size) (hc : ∀ p q, a ≤ p → p < mid → mid ≤ q → q < b → lt' d1[q]! d1[p]! = false)
    (p1 : PermIn a mid d1 d2) (s1 : SortedIn lt' a mid d2) (p2 : PermIn mid b d2 d3) (s2 : SortedIn lt' mid b d3) : PermIn a b d1 d3 ∧ SortedIn lt' a b d3 := by
  have z1 : d2.size = d1.size := p1.1
  refine ⟨permIn_trans _ _ _ a b (permIn_mono _ _ a mid a b (Nat.le_refl _) hmb hb p1) (permIn_mono _ _ mid b a b ha (Nat.le_refl _) (by omega) p2), fun i j hi hij hj => ?_⟩
  by_cases hjm : j < mid
  · have e1 : d3[i]! = d2[i]! := p2.2.1 i (by omega)
    have e2 : d3[j]! = d2[j]! := p2.2.1 j (by omega)
    rw [e1, e2]
    exact s1 i j hi hij hjm
  · by_cases him : mid ≤ i
    · exact s2 i j him hij hj
    · have e1 : d3[i]! = d2[i]! := p2.2.1 i (by omega)
      rw [e1]
      have k1 : ∀ q, mid ≤ q → q < b → lt' d2[q]! d2[i]! = false := fun q hq hqb => by
        have eq : d2[q]! = d1[q]! := p1.2.1 q (by omega)
        rw [eq]
        exact permIn_all d1 d2 a mid (fun x => lt' d1[q]! x = false) (by omega) p1 (fun r h1 h2 => hc r q h1 h2 hq hqb) i hi (by omega)
      exact permIn_all d2 d3 mid b (fun y => lt' y d2[i]! = false) (by omega) p2 k1 j (by omega) hj
/-- one element set in from the left -/
theorem one_left (F : Finer lt lt') {a b i : Nat} {d d1 : Array α} (hai : a + 1 ≤ i) (hib : i ≤ b) (h2 : SortedIn lt' (a + 1) b d) (hC : Cross lt lt' a (a + 1) b d)
    (hL : i = a + 1 ∨ lt d[i - 1]! d[a]! = true) (hR : i = b ∨ lt d[i]! d[a]! = false) (hI : Is d1 (rot (fun i => d[i]!) a (a + 1) i)) (hz : d1.size = d.size) (hb : b ≤ d.size) : SortedIn lt' a b d1 := by
  have h1 : SortedIn lt' a (a + 1) d := fun p q hp hpq hq => by omega
  have hxy : ∀ q, i ≤ q → q < b → lt' d[q]! d[a]! = false := fun q hq hqb => by
    rcases hR with hR | hR
    · omega
    · have hx : lt' d[i]! d[a]! = false := by
        cases hv : lt' d[i]! d[a]! with
        | false => rfl
        | true => rw [hC a i (Nat.le_refl _) (by omega) hai (by omega) hv] at hR; cases hR
      exact F.swo.ntrans _ _ _ (sin_le F h2 hai hq hqb) hx
  have S := sym_split F (s := a) (e := i) (m := a + 1) (d1 := d1) (Nat.le_refl _) (by omega) hai hib rfl h1 h2 hC (fun _ hx => by
    rcases hL with hL | hL
    · omega
    · exact hL) (fun hx => by omega) hI hz hb
  obtain ⟨_, s2, _, _, s5, _, sc⟩ := S
  intro p q hp hpq hq
  by_cases hpm : p < a + (i - (a + 1))
  · by_cases hqm : q < a + (i - (a + 1))
    · exact s2 p q hp hpq hqm
    · exact sc p q hp hpm (by omega) hq
  · by_cases hpi : i ≤ p
    · exact s5 p q hpi hpq hq
    · have e1 : d1[p]! = d[a]! := by
        rcases rot_at hI p (by omega) with h | h | h | h
        · omega
        · omega
        · rw [h.2.2]; congr 1; omega
        · omega
      have e2 : d1[q]! = d[q]! := by
        rcases rot_at hI q (by omega) with h | h | h | h
        · omega
        · omega
        · omega
        · exact h.2
      rw [e1, e2]
      exact hxy q (by omega) hq
/-- one element set in from the right -/
theorem one_right (F : Finer lt lt') {a m i : Nat} {d d1 : Array α} (hai : a ≤ i) (him : i ≤ m) (h1 : SortedIn lt' a m d) (hC : Cross lt lt' a m (m + 1) d)
    (hL : i = a ∨ lt d[m]! d[i - 1]! = false) (hR : i = m ∨ lt d[m]! d[i]! = true) (hI : Is d1 (rot (fun i => d[i]!) i m (m + 1))) (hz : d1.size = d.size) (hb : m + 1 ≤ d.size) : SortedIn lt' a (m + 1) d1 := by
  have h2 : SortedIn lt' m (m + 1) d := fun p q hp hpq hq => by omega
  have huv : ∀ p, a ≤ p → p < i → lt' d[m]! d[p]! = false := fun p hp hpi => by
    rcases hL with hL | hL
    · omega
    · have hx : lt' d[m]! d[i - 1]! = false := by
        cases hv : lt' d[m]! d[i - 1]! with
        | false => rfl
        | true => rw [hC (i - 1) m (by omega) (by omega) (Nat.le_refl _) (by omega) hv] at hL; cases hL
      exact F.swo.ntrans _ _ _ hx (sin_le F h1 hp (by omega) (by omega))
  have S := sym_split F (s := i) (e := m + 1) (m := m) (d1 := d1) hai him (by omega) (Nat.le_refl _) rfl h1 h2 hC (fun hx _ => by
    rcases hR with hR | hR
    · omega
    · exact hR) (fun _ hx => by omega) hI hz hb
  obtain ⟨s1, _, _, s4, _, _, sc⟩ := S
  intro p q hp hpq hq
  by_cases hpm : p < i + (m + 1 - m)
  · by_cases hqm : q < i + (m + 1 - m)
    · by_cases hqi : q < i
      · exact s1 p q hp hpq hqi
      · have e2 : d1[q]! = d[m]! := by
          rcases rot_at hI q (by omega) with h | h | h | h
          · omega
          · rw [h.2.2]; congr 1; omega
          · omega
          · omega
        have e1 : d1[p]! = d[p]! := by
          rcases rot_at hI p (by omega) with h | h | h | h
          · exact h.2
          all_goals omega
        rw [e1, e2]
        exact huv p hp (by omega)
    · exact sc p q hp hpm (by omega) hq
  · exact s4 p q (by omega) hpq hq
/-- nothing rotated: still so told -/
theorem is_rot_self (d : Array α) (s m e : Nat) (h : s = m ∨ m = e) : Is d (rot (fun i => d[i]!) s m e) := by
  intro i _
  unfold rot
  rcases h with rfl | rfl
  · by_cases h1 : s ≤ i ∧ i < s + (e - s)
    · rw [if_pos h1]; congr 1; omega
    · rw [if_neg h1]
      by_cases h2 : s + (e - s) ≤ i ∧ i < e
      · omega
      · rw [if_neg h2]
  · rw [if_neg (by omega)]
    by_cases h2 : s + (m - m) ≤ i ∧ i < m
    · rw [if_pos h2]; congr 1; omega
    · rw [if_neg h2]
theorem is_self (d : Array α) : Is d (fun i => d[i]!) := fun _ _ => rfl
end
end Go.Proofs.YtoobbkckpabamaaDoor
