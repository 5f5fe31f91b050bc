/- The document's own Session (package creedref): Turn, at every argument: its answer, and the list that it leaves. -/
import Derived.Test.YtoobbkckpabamaaDoorTurnC
namespace Go.Proofs.YtoobbkckpabamaaDoor
open Go Go.RowKit
set_option maxRecDepth 100000 in
set_option maxHeartbeats 4000000 in
theorem turn_lay (sb : Nat) (ts : List Opr) (p : Int) (k n : ByteArray) (w : World) (h : SRef sb w ts) (hs : n.size < 2 ^ 60) (hl : ts.length < 100) (hok : okTurn p k n = true) (hp : 0 < p)
    (hno : findAt ts n (frontB k) = none) :
    Calls Tryd.prog 38 #[.pointer (some ⟨sb, 0, none⟩), .int .i64 p, .string k, .string n] w fun e w' => e = .returned (.int .i64 0) ∧ PutPost sb ts (p, k, n) w w' := by
  obtain ⟨d1, d2, d3, d4, e1, e2, e3, e4, e5⟩ := okTurn_parts hok
  have d5 : ¬ p < 0 := by omega
  have d6 : ¬ 1200 < p := by omega
  have h100 : ((ts.length : Int) < 100) := by omega
  obtain ⟨v, hc, hf, hown⟩ := h
  have hv0 : (v = .slice none 0 0 ∧ ts.length = 0) ∨ ∃ g cap, v = .slice (some ⟨g, 0, none⟩) ts.length cap := by
    rcases hown.2 with ⟨hv, hn⟩ | ⟨g, cap, cur, hv, _⟩
    · exact Or.inl ⟨hv, hn⟩
    · exact Or.inr ⟨g, cap, hv⟩
  rcases hv0 with ⟨hv, hn⟩ | ⟨g, cap, hv⟩
  all_goals
    subst hv
    go_enter Tryd.func38, Tryd.ntmps38
    go_wp2_with (first
      | (go_at_call 50; refine (kind_any _ _).mono ?_; rintro e w' ⟨rfl, rfl⟩)
      | (go_at_call 51; refine (name_any _ _ hs).mono ?_; rintro e w' ⟨rfl, rfl⟩)
      | (go_at_call 53; refine (front_any _ _).mono ?_; rintro e w' ⟨rfl, rfl⟩)
      | (go_at_call 52; refine (find_any sb _ ts _ _ _ hc hown (by omega)).mono ?_; rw [hno, show atI none = -1 from rfl]; rintro e w' ⟨rfl, rfl⟩)
      | (go_at_call 39; refine (put_any sb _ ts (p, k, n) _ hc hf hown (by omega)).mono ?_; rintro e w2 ⟨rfl, hP⟩))
    go_ret
    exact ⟨rfl, hP⟩

/-- what Turn answers -/
def turnE (ts : List Opr) (p : Int) (k n : ByteArray) : Int :=
  if okTurn p k n = false then 8 else if findAt ts n (frontB k) = none ∧ 0 < p ∧ 100 ≤ ts.length then 10 else 0
/-- the list without the name's operator of that sort -/
def cutAt (ts : List Opr) (n : ByteArray) (fr : Bool) : List Opr := match findAt ts n fr with
  | none => ts
  | some j => ts.eraseIdx j
/-- what Turn leaves -/
def TurnTo (ts : List Opr) (p : Int) (k n : ByteArray) (ts' : List Opr) : Prop :=
  if turnE ts p k n = 0 then
    if 0 < p then ∃ i, Fits (cutAt ts n (frontB k)) (p, k, n) i ∧ ts' = (cutAt ts n (frontB k)).take i ++ (p, k, n) :: (cutAt ts n (frontB k)).drop i
    else ts' = cutAt ts n (frontB k)
  else ts' = ts
theorem PutPost.ref {sb : Nat} {ts : List Opr} {o : Opr} {w w' : World} (h : PutPost sb ts o w w') : ∃ i, Fits ts o i ∧ SRef sb w' (ts.take i ++ o :: ts.drop i) ∧ w.grownBy w' (some sb) := by
  obtain ⟨i, hi, v', hc, hf, ho, hb⟩ := h
  refine ⟨i, hi, ⟨v', hc, hf, ?_⟩, hb⟩
  rw [show (ts.take i ++ o :: ts.drop i).length = ts.length + 1 by
    have := hi.1
    simp only [List.length_append, List.length_take, List.length_cons, List.length_drop]; omega]
  exact ho
theorem turn_any (sb : Nat) (ts : List Opr) (p : Int) (k n : ByteArray) (w : World) (h : SRef sb w ts) (hs : n.size < 2 ^ 60) (hl : ts.length ≤ 1000) :
    Calls Tryd.prog 38 #[.pointer (some ⟨sb, 0, none⟩), .int .i64 p, .string k, .string n] w fun e w' => e = .returned (.int .i64 (turnE ts p k n)) ∧ ∃ ts', TurnTo ts p k n ts' ∧ SRef sb w' ts' ∧ w.grownBy w' (some sb) := by
  by_cases hok : okTurn p k n = true
  · obtain ⟨d1, -⟩ := okTurn_parts hok
    cases hf : findAt ts n (frontB k) with
    | none =>
      by_cases hp : p = 0 ∨ 100 ≤ ts.length
      · refine (turn_still sb ts p k n w h hs hl hok hf hp).mono ?_
        rintro e w' ⟨rfl, rfl⟩
        have hE : turnE ts p k n = if 0 < p then 10 else 0 := by
          unfold turnE
          rw [if_neg (by simp [hok])]
          by_cases hpp : 0 < p
          · rw [if_pos ⟨hf, hpp, by omega⟩, if_pos hpp]
          · rw [if_neg (fun h => hpp h.2.1), if_neg hpp]
        rw [hE]
        refine ⟨rfl, ts, ?_, h, ⟨rfl, rfl, rfl, Nat.le_refl _, fun _ _ _ => rfl⟩⟩
        unfold TurnTo
        rw [hE]
        by_cases hpp : 0 < p
        · simp [hpp]
        · simp [hpp, cutAt, hf]
      · have hE : turnE ts p k n = 0 := by
          unfold turnE
          rw [if_neg (by simp [hok]), if_neg (by omega)]
        refine (turn_lay sb ts p k n w h hs (by omega) hok (by omega) hf).mono ?_
        rintro e w' ⟨rfl, hP⟩
        rw [hE]
        obtain ⟨i, hi, hr, hb⟩ := hP.ref
        refine ⟨rfl, _, ?_, hr, hb⟩
        unfold TurnTo
        rw [if_pos hE, if_pos (by omega)]
        have hc : cutAt ts n (frontB k) = ts := by unfold cutAt; rw [hf]
        rw [hc]
        exact ⟨i, hi, rfl⟩
    | some j =>
      have hE : turnE ts p k n = 0 := by
        unfold turnE
        rw [if_neg (by simp [hok]), if_neg (by simp [hf])]
      have hc : cutAt ts n (frontB k) = ts.eraseIdx j := by unfold cutAt; rw [hf]
      by_cases hp : 0 < p
      · refine (turn_swap sb ts p k n j w h hs hl hok hp hf).mono ?_
        rintro e w' ⟨rfl, w3, hb3, hP⟩
        rw [hE]
        obtain ⟨i, hi, hr, hb⟩ := hP.ref
        refine ⟨rfl, _, ?_, hr, grown_trans hb3 hb⟩
        unfold TurnTo
        rw [if_pos hE, if_pos hp, hc]
        exact ⟨i, hi, rfl⟩
      · have hp0 : p = 0 := by omega
        subst hp0
        refine (turn_gone0 sb ts k n j w h hs hl hok hf).mono ?_
        rintro e w' ⟨rfl, hr, hb⟩
        rw [hE]
        refine ⟨rfl, _, ?_, hr, hb⟩
        unfold TurnTo
        rw [if_pos hE, if_neg hp, hc]
  · have hE : turnE ts p k n = 8 := by unfold turnE; rw [if_pos (by simpa using hok)]
    refine (turn_bad sb p k n w hs (by simpa using hok)).mono ?_
    rintro e w' ⟨rfl, rfl⟩
    rw [hE]
    refine ⟨rfl, ts, ?_, h, ⟨rfl, rfl, rfl, Nat.le_refl _, fun _ _ _ => rfl⟩⟩
    unfold TurnTo
    rw [hE, if_neg (by decide)]
end Go.Proofs.YtoobbkckpabamaaDoor
