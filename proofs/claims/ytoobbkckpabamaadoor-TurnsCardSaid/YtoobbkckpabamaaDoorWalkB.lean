/- The document's own Session (package creedref): the walks of its small functions. -/
import Derived.Test.YtoobbkckpabamaaDoorWalkA
import Derived.OwnWalk
import Derived.LoopTactic
namespace Go.Proofs.YtoobbkckpabamaaDoor
open Go Go.RowKit

abbrev bs (l : List UInt8) : ByteArray := ⟨l.toArray⟩
def frontB (k : ByteArray) : Bool := k.toList == [102, 121] || k.toList == [102, 120]
theorem ret_bool {a b : Bool} (h : a = b) : Ending.returned (.bool a) = .returned (.bool b) := by rw [h]
theorem front_any (k : ByteArray) (w : World) : Calls Tryd.prog 53 #[.string k] w fun e w' => e = .returned (.bool (frontB k)) ∧ w' = w := by
  go_enter Tryd.func53, Tryd.ntmps53
  go_wp2
  · rename_i h
    go_ret
    exact ⟨ret_bool (by simp [frontB, h]), rfl⟩
  · go_ret
    exact ⟨ret_bool rfl, rfl⟩
theorem has_any (c : Int) (w : World) (h : 32 ≤ c ∧ c ≤ 126) : Calls Tryd.prog 68 #[.int .u8 c] w fun e w' => e = .returned (.bool true) ∧ w' = w := by
  have h1 := h.1
  have h2 := h.2
  go_enter Tryd.func68, Tryd.ntmps68
  go_wp2
  go_ret
  exact ⟨rfl, rfl⟩
theorem isKind_xfx (w : World) : Calls Tryd.prog 50 #[.string { data := #[120, 102, 120] }] w fun e w' => e = .returned (.bool true) ∧ w' = w := by
  go_enter Tryd.func50, Tryd.ntmps50
  go_wp2
  go_ret
  exact ⟨rfl, rfl⟩
theorem isKind_xfy (w : World) : Calls Tryd.prog 50 #[.string { data := #[120, 102, 121] }] w fun e w' => e = .returned (.bool true) ∧ w' = w := by
  go_enter Tryd.func50, Tryd.ntmps50
  go_wp2
  go_ret
  exact ⟨rfl, rfl⟩
theorem isKind_yfx (w : World) : Calls Tryd.prog 50 #[.string { data := #[121, 102, 120] }] w fun e w' => e = .returned (.bool true) ∧ w' = w := by
  go_enter Tryd.func50, Tryd.ntmps50
  go_wp2
  go_ret
  exact ⟨rfl, rfl⟩
theorem isKind_fy (w : World) : Calls Tryd.prog 50 #[.string { data := #[102, 121] }] w fun e w' => e = .returned (.bool true) ∧ w' = w := by
  go_enter Tryd.func50, Tryd.ntmps50
  go_wp2
  go_ret
  exact ⟨rfl, rfl⟩
theorem isName_any (s : ByteArray) (w : World) (hl : s.size ≤ 40) (hs : ∀ j, (h : j < s.size) → 32 ≤ s[j].toNat ∧ s[j].toNat ≤ 126) : Calls Tryd.prog 51 #[.string s] w fun e w' => e = .returned (.bool true) ∧ w' = w := by
  go_enter Tryd.func51, Tryd.ntmps51
  go_wp2
  go_loop [3] (fun i => ∃ k : Nat, k ≤ s.size ∧ i = .int .i64 k) (fun i => s.size - (intOf i).toNat)
  case atStart => exact ⟨0, Nat.zero_le _, rfl⟩
  case round =>
    obtain ⟨k, hk, rfl⟩ := hrel
    by_cases hlt : k < s.size
    · have hh := hs k hlt
      go_wp2_with (go_at_call 68; refine (has_any _ _ (by omega)).mono ?_; rintro e w' ⟨rfl, rfl⟩)
      go_round
      case rel => exact ⟨k + 1, by omega, by go_num⟩
      case measure => simp [intOf]; omega
    · have : k = s.size := by omega
      subst this
      go_wp2
      go_ret
      exact ⟨ret_bool (by simp; omega), rfl⟩
abbrev Opr := Int × ByteArray × ByteArray
def cellsOp (t : Opr) : List Value := [.int .i64 t.1, .string t.2.1, .string t.2.2]
def flat (ts : List Opr) : List Value := ts.flatMap cellsOp
theorem flat_length (ts : List Opr) : (flat ts).length = ts.length * 3 := by
  induction ts with
  | nil => rfl
  | cons t ts ih => simp only [flat, List.flatMap_cons, List.length_append] at *; rw [ih]; simp [cellsOp]; omega
theorem flat_get (ts : List Opr) (k : Nat) (h : k < ts.length) : (flat ts)[k * 3]? = some (.int .i64 ts[k].1) ∧ (flat ts)[k * 3 + 1]? = some (.string ts[k].2.1) ∧ (flat ts)[k * 3 + 2]? = some (.string ts[k].2.2) := by
  rw [Nat.mul_comm k 3]
  induction ts generalizing k with
  | nil => simp at h
  | cons t ts ih =>
    match k, h with
    | 0, _ => simp [flat, cellsOp]
    | k + 1, h =>
      have := ih k (by simpa using h)
      have e : ∀ j, (flat (t :: ts))[3 * (k + 1) + j]? = (flat ts)[3 * k + j]? := by
        intro j
        have hc : (cellsOp t).length = 3 := rfl
        rw [show 3 * (k + 1) + j = (cellsOp t).length + (3 * k + j) by rw [hc]; omega]
        rw [show flat (t :: ts) = cellsOp t ++ flat ts by simp [flat]]
        rw [List.getElem?_append_right (by omega)]
        congr 1
        omega
      refine ⟨?_, ?_, ?_⟩
      · rw [show 3 * (k + 1) = 3 * (k + 1) + 0 by omega, e]; simpa using this.1
      · rw [e]; simpa using this.2.1
      · rw [e]; simpa using this.2.2
theorem find_no (sb : Nat) (v : Value) (ts : List Opr) (nm : ByteArray) (fr : Bool) (w : World) (hc : w.cell? ⟨sb, 0, none⟩ = some v) (hown : w.ownsRow (sb + 1) 94 3 v ts.length (flat ts))
    (hl : ts.length ≤ 1000) (hno : ∀ t ∈ ts, ¬ (t.2.2.toList = nm.toList ∧ frontB t.2.1 = fr)) :
    Calls Tryd.prog 52 #[.pointer (some ⟨sb, 0, none⟩), .string nm, .bool fr] w fun e w' => e = .returned (.int .i64 (-1)) ∧ w' = w := by
  rcases hown.2 with ⟨rfl, hn⟩ | ⟨g, cap, cur, rfl, hbg, hg, hnc, hcm, hcs, htake⟩
  · go_enter Tryd.func52, Tryd.ntmps52
    go_wp2
    refine wp_loop_once ?_
    go_wp2
    go_ret
    exact ⟨rfl, rfl⟩
  · have hcell : ∀ j u, (flat ts)[j]? = some u → w.cell? ⟨g, j, none⟩ = some u := by
      intro j u hj
      have := hown.cells (g := g) rfl j u hj
      by_cases h0 : j = 0
      · subst h0; simpa [Addr.add] using this
      · simpa [Addr.add, h0] using this
    go_enter Tryd.func52, Tryd.ntmps52
    go_wp2
    go_loop [7] (fun i => ∃ k : Nat, k ≤ ts.length ∧ i = .int .i64 k) (fun i => ts.length - (intOf i).toNat)
    case atStart => exact ⟨0, Nat.zero_le _, rfl⟩
    case round =>
      obtain ⟨k, hk, rfl⟩ := hrel
      by_cases hlt : k < ts.length
      · obtain ⟨f0, f1, f2⟩ := flat_get ts k hlt
        have g1 := hcell _ _ f1
        have g2 := hcell _ _ f2
        have hn := hno ts[k] (List.getElem_mem hlt)
        clear f0 f1 f2 hno hcell htake hown hg
        by_cases hA : ts[k].2.2.toList = nm.toList
        · have hB : (frontB ts[k].2.1 == fr) = false := by simpa [hA] using hn
          go_wp2_with (go_at_call 53; refine (front_any _ _).mono ?_; rintro e w' ⟨rfl, rfl⟩)
          go_round
          case rel => exact ⟨k + 1, by omega, by go_num⟩
          case measure => simp [intOf]; omega
        · go_wp2
          go_round
          case rel => exact ⟨k + 1, by omega, by go_num⟩
          case measure => simp [intOf]; omega
      · have : k = ts.length := by omega
        subst this
        go_wp2
        go_ret
        exact ⟨rfl, rfl⟩
end Go.Proofs.YtoobbkckpabamaaDoor
