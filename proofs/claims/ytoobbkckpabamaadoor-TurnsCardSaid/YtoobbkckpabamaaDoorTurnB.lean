/- The document's own Session (package creedref): Turn, at every argument: what is refused. -/
import Derived.Test.YtoobbkckpabamaaDoorTurnA
import Derived.Test.YtoobbkckpabamaaDoorWalkC2
namespace Go.Proofs.YtoobbkckpabamaaDoor
open Go Go.RowKit
/-- names that are no operators -/
def barredB (n : ByteArray) : Bool := n.toList == [] || n.toList == [44] || n.toList == [124] || n.toList == [91, 93] || n.toList == [123, 125]
def okTurn (p : Int) (k n : ByteArray) : Bool := decide (0 ≤ p) && decide (p ≤ 1200) && kindB k && nameB n && !barredB n
set_option maxHeartbeats 4000000 in
theorem turn_bad (sb : Nat) (p : Int) (k n : ByteArray) (w : World) (hs : n.size < 2 ^ 60) (hbad : okTurn p k n = false) :
    Calls Tryd.prog 38 #[.pointer (some ⟨sb, 0, none⟩), .int .i64 p, .string k, .string n] w fun e w' => e = .returned (.int .i64 8) ∧ w' = w := by
  go_enter Tryd.func38, Tryd.ntmps38
  go_wp2_with (first
      | (go_at_call 50; refine (kind_any _ _).mono ?_; rintro e w' ⟨rfl, rfl⟩)
      | (go_at_call 51; refine (name_any _ _ hs).mono ?_; rintro e w' ⟨rfl, rfl⟩))
  all_goals try (go_ret; exact ⟨rfl, rfl⟩)
  have h8 : 0 ≤ p := by assumption
  have h7 : p ≤ 1200 := by assumption
  have h6 : kindB k = true := by assumption
  have h5 : nameB n = true := by assumption
  have h4 : ¬ n.toList = [] := by assumption
  have h3 : ¬ n.toList = [44] := by assumption
  have h2 : ¬ n.toList = [124] := by assumption
  have h1 : ¬ n.toList = [91, 93] := by assumption
  have h0 : (((((0 ≤ p ∧ p ≤ 1200) ∧ n.toList.isEmpty = false) ∧ (n.toList == [44]) = false) ∧ (n.toList == [124]) = false) ∧ (n.toList == [91, 93]) = false) ∧ (n.toList == [123, 125]) = false := by assumption
  have h9 := h0.2
  have : okTurn p k n = true := by simp [okTurn, barredB, h8, h7, h6, h5, h4, h3, h2, h1, h9]
  rw [hbad] at this
  cases this
def SRef (sb : Nat) (w : World) (ts : List Opr) : Prop := ∃ v, w.cell? ⟨sb, 0, none⟩ = some v ∧ w.frozen? ⟨sb, 0, none⟩ = false ∧ w.ownsRow (sb + 1) 94 3 v ts.length (flat ts)
theorem okTurn_parts {p : Int} {k n : ByteArray} (h : okTurn p k n = true) : 0 ≤ p ∧ p ≤ 1200 ∧ kindB k = true ∧ nameB n = true ∧ n.toList.isEmpty = false ∧ (n.toList == [44]) = false ∧ (n.toList == [124]) = false ∧ (n.toList == [91, 93]) = false ∧ (n.toList == [123, 125]) = false := by
  simp [okTurn, barredB] at h
  simp [h]
set_option maxRecDepth 100000 in
set_option maxHeartbeats 4000000 in
/-- nothing there, and nothing asked, or no room -/
theorem turn_still (sb : Nat) (ts : List Opr) (p : Int) (k n : ByteArray) (w : World) (h : SRef sb w ts) (hs : n.size < 2 ^ 60) (hl : ts.length ≤ 1000) (hok : okTurn p k n = true)
    (hno : findAt ts n (frontB k) = none) (hp : p = 0 ∨ 100 ≤ ts.length) :
    Calls Tryd.prog 38 #[.pointer (some ⟨sb, 0, none⟩), .int .i64 p, .string k, .string n] w fun e w' => e = .returned (.int .i64 (if 0 < p then 10 else 0)) ∧ w' = w := by
  obtain ⟨d1, d2, d3, d4, e1, e2, e3, e4, e5⟩ := okTurn_parts hok
  obtain ⟨v, hc, hf, hown⟩ := h
  have hv0 : (v = .slice none 0 0 ∧ ts.length = 0) ∨ ∃ g cap, v = .slice (some ⟨g, 0, none⟩) ts.length cap := by
    rcases hown.2 with ⟨hv, hn⟩ | ⟨g, cap, cur, hv, _⟩
    · exact Or.inl ⟨hv, hn⟩
    · exact Or.inr ⟨g, cap, hv⟩
  rcases hv0 with ⟨hv, hn⟩ | ⟨g, cap, hv⟩
  all_goals
    subst hv
    rcases Decidable.em (0 < p) with hpp | hpp
    all_goals
      first
      | (exfalso; omega)
      | (have h100 : 0 < p → ¬ ((ts.length : Int) < 100) := by omega
         go_enter Tryd.func38, Tryd.ntmps38
         go_wp2_with (first
         | (go_at_call 50; refine (kind_any _ _).mono ?_; rintro e w' ⟨rfl, rfl⟩)
         | (go_at_call 51; refine (name_any _ _ hs).mono ?_; rintro e w' ⟨rfl, rfl⟩)
         | (go_at_call 53; refine (front_any _ _).mono ?_; rintro e w' ⟨rfl, rfl⟩)
         | (go_at_call 52; refine (find_any sb _ ts _ _ _ hc hown hl).mono ?_; rw [hno]; rintro e w' ⟨rfl, rfl⟩))
         all_goals first
           | (exfalso; omega)
           | (go_ret; exact ⟨by simp, rfl⟩)
           | (go_ret; exact ⟨rfl, rfl⟩))
end Go.Proofs.YtoobbkckpabamaaDoor
