/- The library's stable sort, plain: blocks that are sorted, and sorted two by two. -/
import Derived.Test.YtoobbkckpabamaaDoorSortG
namespace Go.Proofs.YtoobbkckpabamaaDoor
open Go Go.RowKit Go.Lib Go.Sort Go.Shelf
section
variable {α : Type} [Inhabited α] {lt lt' : α → α → Bool}
/-- each block of bs is sorted -/
def SB (lt' : α → α → Bool) (bs n : Nat) (d : Array α) : Prop := ∀ p i j, p * bs ≤ i → i < j → j < p * bs + bs → j < n → lt' d[j]! d[i]! = false
/-- the first q blocks of twice bs are sorted, and behind them each block of bs -/
def SA (lt' : α → α → Bool) (bs q n : Nat) (d : Array α) : Prop :=
  (∀ p i j, p < q → p * (2 * bs) ≤ i → i < j → j < p * (2 * bs) + 2 * bs → lt' d[j]! d[i]! = false) ∧ ∀ p i j, 2 * q ≤ p → p * bs ≤ i → i < j → j < p * bs + bs → j < n → lt' d[j]! d[i]! = false
theorem SA.start {bs n : Nat} {d : Array α} (h : SB lt' bs n d) : SA lt' bs 0 n d := ⟨fun p i j hp => by omega, fun p i j _ => h p i j⟩
theorem two_q (q bs : Nat) : 2 * q * bs = q * (2 * bs) := by rw [Nat.mul_comm 2 q, Nat.mul_assoc]
theorem two_q1 (q bs : Nat) : (2 * q + 1) * bs = q * (2 * bs) + bs := by rw [Nat.add_mul, Nat.one_mul, two_q]
theorem SA.fst {bs q n A : Nat} {d : Array α} (h : SA lt' bs q n d) (hA : A = q * (2 * bs)) (hn : A + bs ≤ n) : SortedIn lt' A (A + bs) d := fun i j hi hij hj =>
  h.2 (2 * q) i j (Nat.le_refl _) (by rw [two_q]; omega) hij (by rw [two_q]; omega) (by omega)
theorem SA.snd {bs q n A B : Nat} {d : Array α} (h : SA lt' bs q n d) (hA : A = q * (2 * bs)) (hB : B ≤ A + 2 * bs) (hn : B ≤ n) : SortedIn lt' (A + bs) B d := fun i j hi hij hj =>
  h.2 (2 * q + 1) i j (by omega) (by rw [two_q1]; omega) hij (by rw [two_q1]; omega) (by omega)
theorem low_mul {p q bs : Nat} (h : p < q) : p * (2 * bs) + 2 * bs ≤ q * (2 * bs) := by
  have := Nat.mul_le_mul_right (2 * bs) (show p + 1 ≤ q from h)
  rwa [Nat.add_mul, Nat.one_mul] at this
theorem high_mul {p q bs : Nat} (h : 2 * (q + 1) ≤ p) : q * (2 * bs) + 2 * bs ≤ p * bs := by
  have := Nat.mul_le_mul_right bs h
  rw [Nat.mul_add, Nat.add_mul, two_q] at this
  omega
theorem SA.next {bs q n A : Nat} {d d' : Array α} (h : SA lt' bs q n d) (hA : A = q * (2 * bs)) (hp : PermIn A (A + 2 * bs) d d') (hs : SortedIn lt' A (A + 2 * bs) d') : SA lt' bs (q + 1) n d' := by
  constructor
  · intro p i j hpq hi hij hj
    by_cases e : p = q
    · subst e
      exact hs i j (by omega) hij (by omega)
    · have := low_mul (bs := bs) (show p < q by omega)
      rw [hp.2.1 i (by omega), hp.2.1 j (by omega)]
      exact h.1 p i j (by omega) hi hij hj
  · intro p i j hpq hi hij hj hn
    have := high_mul (bs := bs) hpq
    rw [hp.2.1 i (by omega), hp.2.1 j (by omega)]
    exact h.2 p i j (by omega) hi hij hj hn
theorem SA.last {bs q n A : Nat} {d d' : Array α} (h : SA lt' bs q n d) (hA : A = q * (2 * bs)) (hn : n < A + 2 * bs) (hp : PermIn A n d d') (hs : SortedIn lt' A n d') : SB lt' (2 * bs) n d' := by
  intro p i j hi hij hj hjn
  by_cases e : p = q
  · subst e
    exact hs i j (by omega) hij hjn
  · by_cases hlt : p < q
    · have := low_mul (bs := bs) hlt
      rw [hp.2.1 i (by omega), hp.2.1 j (by omega)]
      exact h.1 p i j hlt hi hij hj
    · have := low_mul (bs := bs) (show q < p by omega)
      omega
theorem SA.last' {bs q n A : Nat} {d : Array α} (h : SA lt' bs q n d) (hA : A = q * (2 * bs)) (hb : 0 < bs) (hn : n ≤ A + bs) : SB lt' (2 * bs) n d := by
  refine h.last hA (n := n) (d' := d) (by omega) (permIn_refl _ _ _) fun i j hi hij hj => ?_
  exact h.2 (2 * q) i j (Nat.le_refl _) (by rw [two_q]; omega) hij (by rw [two_q]; omega) hj
theorem OkIn.cross {a m b n : Nat} {d : Array α} (h : OkIn lt lt' 0 n d) (hb : b ≤ n) : Cross lt lt' a m b d := fun i j _ him hmj hj => h i j (Nat.zero_le _) (by omega) (by omega)
theorem SB.all {bs n : Nat} {d : Array α} (h : SB lt' bs n d) (hb : n ≤ bs) : SortedIn lt' 0 n d := fun i j _ hij hj => h 0 i j (by simp) hij (by simp; omega) hj
/-- on the way: the row permuted, in order as far as the coarse order can't tell -/
def Way (lt lt' : α → α → Bool) (enc : α → List Value) (k : Nat) (w0 : World) (blk off n : Nat) (d dk : Array α) (w' : World) : Prop :=
  SWK enc k w0 blk off dk w' ∧ PermIn 0 n d dk ∧ OkIn lt lt' 0 n dk
theorem Way.step {enc : α → List Value} {k : Nat} {w0 w1 w2 : World} {blk off n a b : Nat} {d dk dj : Array α} (h : Way lt lt' enc k w0 blk off n d dk w1) (hn : n ≤ d.size) (hb : b ≤ n) (S : SWK enc k w0 blk off dj w2) (hp : PermIn a b dk dj) (hs : SortedIn lt' a b dj) : Way lt lt' enc k w0 blk off n d dj w2 := by
  have hz : dk.size = d.size := h.2.1.1
  exact ⟨S, permIn_trans _ _ _ _ _ h.2.1 (permIn_mono _ _ a b 0 n (Nat.zero_le _) hb (by omega) hp), h.2.2.perm hp hs hb (by omega)⟩
/-- the first p blocks of twenty are sorted -/
def S20 (lt' : α → α → Bool) (p : Nat) (d : Array α) : Prop := ∀ q i j, q < p → q * 20 ≤ i → i < j → j < q * 20 + 20 → lt' d[j]! d[i]! = false
theorem S20.next {p : Nat} {d d' : Array α} (h : S20 lt' p d) (hp : PermIn (p * 20) (p * 20 + 20) d d') (hs : SortedIn lt' (p * 20) (p * 20 + 20) d') : S20 lt' (p + 1) d' := by
  intro q i j hq hi hij hj
  by_cases e : q = p
  · subst e; exact hs i j hi hij hj
  · rw [hp.2.1 i (by omega), hp.2.1 j (by omega)]
    exact h q i j (by omega) hi hij hj
theorem S20.last {p n : Nat} {d d' : Array α} (h : S20 lt' p d) (hn : n < p * 20 + 20) (hp : PermIn (p * 20) n d d') (hs : SortedIn lt' (p * 20) n d') : SB lt' 20 n d' := by
  intro q i j hi hij hj hjn
  by_cases e : q = p
  · subst e; exact hs i j hi hij hjn
  · rw [hp.2.1 i (by omega), hp.2.1 j (by omega)]
    exact h q i j (by omega) hi hij hj
end
end Go.Proofs.YtoobbkckpabamaaDoor
