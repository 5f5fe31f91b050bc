/- The document's own Session (package creedref): put lays an operator into the list, and the list stays the Session's own. -/
import Derived.Test.YtoobbkckpabamaaDoorWalkB
import Derived.Deep.QuietTactic
import Derived.BigQuiet
import Derived.Laws.AppendOwnNone
import Derived.Deep.AppendLies
import Derived.Deep.Onto
namespace Go.Proofs.YtoobbkckpabamaaDoor
open Go Go.RowKit

theorem info86 : (Tryd.prog.info? 94).map (fun i => (i.zero, i.size, i.bytes)) = some (some (.agg #[.int .i64 0, .string .empty, .string .empty]), 3, 40) := by kernel_rfl
theorem quiet_front (k : ByteArray) (W : World) (m n : Nat) : Calls Tryd.prog 53 #[.string k] (W.drewN (m + n)) fun e w'' => e = .returned (.bool (frontB k)) ∧ ∃ q, w'' = W.drewN (m + q) :=
  (front_any k _).mono fun _ _ ⟨he, hw⟩ => ⟨he, n, hw⟩
def lessB (t o : Opr) : Bool := Op.bytesLess t.2.2.toList o.2.2.toList || (t.2.2.toList == o.2.2.toList && frontB t.2.1 && !frontB o.2.1)
theorem one_flat (ts : List Opr) : ∀ u ∈ flat ts, u.oneCell' = true := by
  intro u hu
  simp only [flat, List.mem_flatMap] at hu
  obtain ⟨t, _, h⟩ := hu
  simp [cellsOp] at h
  rcases h with rfl | rfl | rfl <;> rfl
theorem one_take (ts : List Opr) (k : Nat) : ∀ u ∈ (flat ts).take k, u.oneCell' = true := fun u h => one_flat ts u (List.mem_of_mem_take h)
theorem one_drop (ts : List Opr) (k : Nat) : ∀ u ∈ (flat ts).drop k, u.oneCell' = true := fun u h => one_flat ts u (List.mem_of_mem_drop h)
theorem one_op (t : Opr) : ∀ u ∈ cellsOp t, u.oneCell' = true := fun u h => by
  simp [cellsOp] at h
  rcases h with rfl | rfl | rfl <;> rfl
theorem new3 (w : World) (o : Opr) : ∀ j u, (cellsOp o)[j]? = some u → (w.alloc (.cells #[.int .i64 o.1, .string o.2.1, .string o.2.2] 94)).cell? ((⟨w.heap.size, 0, none⟩ : Addr).add j) = some u := fun j u h => by
  match j, h with
  | 0, h => simp [cellsOp] at h; subst h; simp [Addr.add]
  | 1, h => simp [cellsOp] at h; subst h; simp [Addr.add]
  | 2, h => simp [cellsOp] at h; subst h; simp [Addr.add]
  | j + 3, h => simp [cellsOp] at h
theorem new3' (w : World) (b : Nat) (hb : w.heap.size = b) (o : Opr) : ∀ j u, (cellsOp o)[j]? = some u → (w.alloc (.cells #[.int .i64 o.1, .string o.2.1, .string o.2.2] 94)).cell? ((⟨b, 0, none⟩ : Addr).add j) = some u := by
  subst hb; exact new3 w o
theorem ne_own {w : World} {B e s n : Nat} {v : Value} {xs : List Value} {a : Nat} (h : w.ownsRow B e s v n xs) (ha : a < B) : some a ≠ v.ownBlock := fun q => by
  have := h.lt a q.symm; omega
theorem add_block (a : Addr) (j : Nat) : (a.add j).block = a.block := by unfold Addr.add; split <;> rfl
theorem grown1 {w w1 : World} {X : Obj} {q : Nat} (h : ((w.alloc X).drewN q).grownBy w1 (Value.slice none 0 0).ownBlock) : Below w.heap.size w w1 := by
  have h1 : Below w.heap.size w (w.alloc X) := (Below.refl _ _).alloc (Nat.le_refl _) _
  have h2 : Below w.heap.size w ((w.alloc X).drewN q) := ⟨h1.os, h1.tape, h1.output, h1.size, h1.block⟩
  exact h2.grown h h2.size (fun k hk => by cases hk)
theorem grown2 {w w1 : World} {X Y : Obj} {q : Nat} (h : (((w.alloc X).drewN q).alloc Y).grownBy w1 (Value.slice none 0 0).ownBlock) : Below w.heap.size w w1 := by
  have h1 : Below w.heap.size w (w.alloc X) := (Below.refl _ _).alloc (Nat.le_refl _) _
  have h2 : Below w.heap.size w ((w.alloc X).drewN q) := ⟨h1.os, h1.tape, h1.output, h1.size, h1.block⟩
  have h3 := h2.alloc h2.size Y
  exact h3.grown h h3.size (fun k hk => by cases hk)
theorem flat_take (ts : List Opr) (k : Nat) : (flat ts).take (k * 3) = flat (ts.take k) := by
  induction ts generalizing k with
  | nil => simp [flat]
  | cons t ts ih =>
    cases k with
    | zero => simp [flat]
    | succ k =>
      have := ih k
      simp only [flat, List.flatMap_cons, List.take_succ_cons] at *
      rw [← this, show (k + 1) * 3 = (cellsOp t).length + k * 3 by simp [cellsOp]; omega, List.take_length_add_append]
theorem flat_drop (ts : List Opr) (k : Nat) : (flat ts).drop (k * 3) = flat (ts.drop k) := by
  induction ts generalizing k with
  | nil => simp [flat]
  | cons t ts ih =>
    cases k with
    | zero => simp [flat]
    | succ k =>
      have := ih k
      simp only [flat, List.flatMap_cons, List.drop_succ_cons] at *
      rw [← this, show (k + 1) * 3 = (cellsOp t).length + k * 3 by simp [cellsOp]; omega, List.drop_length_add_append]
/-- where an operator comes to stand: behind all that are less, ahead of the first that is not -/
def Fits (ts : List Opr) (o : Opr) (k : Nat) : Prop := k ≤ ts.length ∧ (∀ j, (h : j < ts.length) → j < k → lessB ts[j] o = true) ∧ (k = ts.length ∨ ∀ h : k < ts.length, lessB ts[k] o = false)
/-- what put leaves: the operator stands in its place, the list is the Session's own, nothing below the Session has turned -/
def PutPost (sb : Nat) (ts : List Opr) (o : Opr) (w w' : World) : Prop :=
  ∃ k, Fits ts o k ∧ ∃ v', w'.cell? ⟨sb, 0, none⟩ = some v' ∧ w'.frozen? ⟨sb, 0, none⟩ = false ∧ w'.ownsRow (sb + 1) 94 3 v' (ts.length + 1) (flat (ts.take k ++ o :: ts.drop k)) ∧ w.grownBy w' (some sb)
theorem grown_set {w w3 : World} (h : Below w.heap.size w w3) (a : Addr) (v : Value) : w.grownBy (w3.setCell a v) (some a.block) :=
  ⟨h.os, h.tape, h.output, by simpa using h.size, fun k hk hne => (Below.heap_setCell w3 a v k (fun e => hne (by rw [e]))).trans (h.block k hk)⟩
theorem grown_trans {w w1 w2 : World} {row : Option Nat} (h : w.grownBy w1 row) (g : w1.grownBy w2 row) : w.grownBy w2 row :=
  ⟨g.os.trans h.os, g.tape.trans h.tape, g.output.trans h.output, Nat.le_trans h.size g.size, fun q hq hne => (g.block q (Nat.lt_of_lt_of_le hq h.size) hne).trans (h.block q hq hne)⟩
theorem put_end {ts : List Opr} {o : Opr} {k n : Nat} {w w3 : World} {sb : Nat} {v l3 : Value} {xs : List Value} (hk : k ≤ ts.length) (hend : k = ts.length ∨ ∀ h : k < ts.length, lessB ts[k] o = false) (hbef : ∀ j, (h : j < ts.length) → j < k → lessB ts[j] o = true)
    (hsb : sb < w.heap.size) (hc : w.cell? ⟨sb, 0, none⟩ = some v) (hf : w.frozen? ⟨sb, 0, none⟩ = false) (hown3 : w3.ownsRow (w.heap.size + 1) 94 3 l3 n xs) (hW3 : Below w.heap.size w w3) (hn : n = ts.length + 1)
    (hx : xs = (flat ts).take (k * 3) ++ cellsOp o ++ (flat ts).drop (k * 3)) :
    PutPost sb ts o w (w3.setCell ⟨sb, 0, none⟩ l3) := by
  have c3 := (hW3.cell (p := ⟨sb, 0, none⟩) hsb).trans hc
  have f3 := (hW3.frozen (p := ⟨sb, 0, none⟩) hsb).trans hf
  refine ⟨k, ⟨hk, hbef, hend⟩, l3, World.cell?_setCell_same w3 _ _ c3, by simp [f3], ?_, grown_set hW3 _ _⟩
  have hlt : (⟨sb, 0, none⟩ : Addr).block < w.heap.size + 1 := by show sb < _; omega
  have h1 := (ownsRow_setCell_below hown3 hlt l3).mono (base' := sb + 1) (by omega)
  rw [hn, hx, flat_take, flat_drop] at h1
  rw [show flat (ts.take k ++ o :: ts.drop k) = flat (ts.take k) ++ cellsOp o ++ flat (ts.drop k) by simp [flat, List.flatMap_append]]
  exact h1
end Go.Proofs.YtoobbkckpabamaaDoor
