/- The operators' Table (package operators): kindOf, at every word. Under: the table of types' names holds what the program lays. -/
import Derived.Test.YtoobbkckpabamaaDoorTurnE
import Derived.Test.YtoobbkckpabamaaDoorWalkH
namespace Go.Proofs.YtoobbkckpabamaaDoor
open Go Go.RowKit
/-- a type's place among the types' names -/
def numI (s : ByteArray) : Int :=
  if s.toList = [102, 121] then 0 else
  if s.toList = [102, 120] then 1 else
  if s.toList = [120, 102, 120] then 2 else
  if s.toList = [120, 102, 121] then 3 else
  if s.toList = [121, 102, 120] then 4 else
  if s.toList = [121, 102] then 5 else
  if s.toList = [120, 102] then 6 else
  0
def NotYet (s : ByteArray) (k : Nat) : Prop := (1 ≤ k → ¬ s.toList = [102, 121]) ∧ (2 ≤ k → ¬ s.toList = [102, 120]) ∧ (3 ≤ k → ¬ s.toList = [120, 102, 120]) ∧ (4 ≤ k → ¬ s.toList = [120, 102, 121]) ∧ (5 ≤ k → ¬ s.toList = [121, 102, 120]) ∧ (6 ≤ k → ¬ s.toList = [121, 102]) ∧ (7 ≤ k → ¬ s.toList = [120, 102])
theorem kindB_iff (s : ByteArray) : kindB s = true ↔ (s.toList = [102, 121] ∨ s.toList = [102, 120] ∨ s.toList = [120, 102, 120] ∨ s.toList = [120, 102, 121] ∨ s.toList = [121, 102, 120] ∨ s.toList = [121, 102] ∨ s.toList = [120, 102]) := by
  simp only [kindB, frontB, betweenB, Bool.or_eq_true, beq_iff_eq]
  constructor
  · rintro (((h | h) | (h | h)) | ((h | h) | h)) <;> simp [h]
  · rintro (h | h | h | h | h | h | h) <;> simp [h]
set_option maxRecDepth 100000 in
set_option maxHeartbeats 8000000 in
theorem kindOf_any (s : ByteArray) (w : World) (h : Kinds w) : Calls Tryd.prog 42 #[.string s] w fun e w' => e = .returned (.tuple #[.int .u8 (numI s), .bool (kindB s)]) ∧ w' = w := by
  obtain ⟨k0, k1, k2, k3, k4, k5, k6⟩ := h
  have x0 := kx0 w
  have x1 := kx1 w
  have x2 := kx2 w
  have x3 := kx3 w
  have x4 := kx4 w
  have x5 := kx5 w
  have x6 := kx6 w
  go_enter Tryd.func42, Tryd.ntmps42
  go_wp2
  clear k0 k1 k2 k3 k4 k5 k6
  go_loop [7] (fun i => ∃ k : Nat, k ≤ 7 ∧ i = .int .i64 k ∧ NotYet s k) (fun i => 7 - (intOf i).toNat)
  case atStart => exact ⟨0, by omega, rfl, by simp [NotYet]⟩
  case round =>
    obtain ⟨k, hk, rfl, hN⟩ := hrel
    match k, hk with
    | 0, _ =>
      go_wp2
      · have hb : ([102, 121] == s.toList) = true := by assumption
        have hs : s.toList = [102, 121] := (eq_of_beq hb).symm
        have hE : (Ending.returned (.tuple #[.int .u8 0, .bool true])) = .returned (.tuple #[.int .u8 (numI s), .bool (kindB s)]) := by
          rw [(kindB_iff s).2 (by simp [hs])]
          simp [numI, hs]
        go_ret2
        exact ⟨hE, rfl⟩
      · have hb : ([102, 121] == s.toList) = false := by assumption
        have hs : ¬ s.toList = [102, 121] := fun e => by rw [e] at hb; simp at hb
        have hN' : NotYet s 1 := by
          refine ⟨?_, ?_, ?_, ?_, ?_, ?_, ?_⟩ <;> intro hle <;> first | exact hs | exact absurd hle (by decide) | exact hN.1 (by decide) | exact hN.2.1 (by decide) | exact hN.2.2.1 (by decide) | exact hN.2.2.2.1 (by decide) | exact hN.2.2.2.2.1 (by decide) | exact hN.2.2.2.2.2.1 (by decide)
        go_round
        case rel => exact ⟨1, by omega, rfl, hN'⟩
        case measure => simp [intOf]
    | 1, _ =>
      go_wp2
      · have hb : ([102, 120] == s.toList) = true := by assumption
        have hs : s.toList = [102, 120] := (eq_of_beq hb).symm
        have hE : (Ending.returned (.tuple #[.int .u8 1, .bool true])) = .returned (.tuple #[.int .u8 (numI s), .bool (kindB s)]) := by
          rw [(kindB_iff s).2 (by simp [hs])]
          simp [numI, hs]
        go_ret2
        exact ⟨hE, rfl⟩
      · have hb : ([102, 120] == s.toList) = false := by assumption
        have hs : ¬ s.toList = [102, 120] := fun e => by rw [e] at hb; simp at hb
        have hN' : NotYet s 2 := by
          refine ⟨?_, ?_, ?_, ?_, ?_, ?_, ?_⟩ <;> intro hle <;> first | exact hs | exact absurd hle (by decide) | exact hN.1 (by decide) | exact hN.2.1 (by decide) | exact hN.2.2.1 (by decide) | exact hN.2.2.2.1 (by decide) | exact hN.2.2.2.2.1 (by decide) | exact hN.2.2.2.2.2.1 (by decide)
        go_round
        case rel => exact ⟨2, by omega, rfl, hN'⟩
        case measure => simp [intOf]
    | 2, _ =>
      go_wp2
      · have hb : ([120, 102, 120] == s.toList) = true := by assumption
        have hs : s.toList = [120, 102, 120] := (eq_of_beq hb).symm
        have hE : (Ending.returned (.tuple #[.int .u8 2, .bool true])) = .returned (.tuple #[.int .u8 (numI s), .bool (kindB s)]) := by
          rw [(kindB_iff s).2 (by simp [hs])]
          simp [numI, hs]
        go_ret2
        exact ⟨hE, rfl⟩
      · have hb : ([120, 102, 120] == s.toList) = false := by assumption
        have hs : ¬ s.toList = [120, 102, 120] := fun e => by rw [e] at hb; simp at hb
        have hN' : NotYet s 3 := by
          refine ⟨?_, ?_, ?_, ?_, ?_, ?_, ?_⟩ <;> intro hle <;> first | exact hs | exact absurd hle (by decide) | exact hN.1 (by decide) | exact hN.2.1 (by decide) | exact hN.2.2.1 (by decide) | exact hN.2.2.2.1 (by decide) | exact hN.2.2.2.2.1 (by decide) | exact hN.2.2.2.2.2.1 (by decide)
        go_round
        case rel => exact ⟨3, by omega, rfl, hN'⟩
        case measure => simp [intOf]
    | 3, _ =>
      go_wp2
      · have hb : ([120, 102, 121] == s.toList) = true := by assumption
        have hs : s.toList = [120, 102, 121] := (eq_of_beq hb).symm
        have hE : (Ending.returned (.tuple #[.int .u8 3, .bool true])) = .returned (.tuple #[.int .u8 (numI s), .bool (kindB s)]) := by
          rw [(kindB_iff s).2 (by simp [hs])]
          simp [numI, hs]
        go_ret2
        exact ⟨hE, rfl⟩
      · have hb : ([120, 102, 121] == s.toList) = false := by assumption
        have hs : ¬ s.toList = [120, 102, 121] := fun e => by rw [e] at hb; simp at hb
        have hN' : NotYet s 4 := by
          refine ⟨?_, ?_, ?_, ?_, ?_, ?_, ?_⟩ <;> intro hle <;> first | exact hs | exact absurd hle (by decide) | exact hN.1 (by decide) | exact hN.2.1 (by decide) | exact hN.2.2.1 (by decide) | exact hN.2.2.2.1 (by decide) | exact hN.2.2.2.2.1 (by decide) | exact hN.2.2.2.2.2.1 (by decide)
        go_round
        case rel => exact ⟨4, by omega, rfl, hN'⟩
        case measure => simp [intOf]
    | 4, _ =>
      go_wp2
      · have hb : ([121, 102, 120] == s.toList) = true := by assumption
        have hs : s.toList = [121, 102, 120] := (eq_of_beq hb).symm
        have hE : (Ending.returned (.tuple #[.int .u8 4, .bool true])) = .returned (.tuple #[.int .u8 (numI s), .bool (kindB s)]) := by
          rw [(kindB_iff s).2 (by simp [hs])]
          simp [numI, hs]
        go_ret2
        exact ⟨hE, rfl⟩
      · have hb : ([121, 102, 120] == s.toList) = false := by assumption
        have hs : ¬ s.toList = [121, 102, 120] := fun e => by rw [e] at hb; simp at hb
        have hN' : NotYet s 5 := by
          refine ⟨?_, ?_, ?_, ?_, ?_, ?_, ?_⟩ <;> intro hle <;> first | exact hs | exact absurd hle (by decide) | exact hN.1 (by decide) | exact hN.2.1 (by decide) | exact hN.2.2.1 (by decide) | exact hN.2.2.2.1 (by decide) | exact hN.2.2.2.2.1 (by decide) | exact hN.2.2.2.2.2.1 (by decide)
        go_round
        case rel => exact ⟨5, by omega, rfl, hN'⟩
        case measure => simp [intOf]
    | 5, _ =>
      go_wp2
      · have hb : ([121, 102] == s.toList) = true := by assumption
        have hs : s.toList = [121, 102] := (eq_of_beq hb).symm
        have hE : (Ending.returned (.tuple #[.int .u8 5, .bool true])) = .returned (.tuple #[.int .u8 (numI s), .bool (kindB s)]) := by
          rw [(kindB_iff s).2 (by simp [hs])]
          simp [numI, hs]
        go_ret2
        exact ⟨hE, rfl⟩
      · have hb : ([121, 102] == s.toList) = false := by assumption
        have hs : ¬ s.toList = [121, 102] := fun e => by rw [e] at hb; simp at hb
        have hN' : NotYet s 6 := by
          refine ⟨?_, ?_, ?_, ?_, ?_, ?_, ?_⟩ <;> intro hle <;> first | exact hs | exact absurd hle (by decide) | exact hN.1 (by decide) | exact hN.2.1 (by decide) | exact hN.2.2.1 (by decide) | exact hN.2.2.2.1 (by decide) | exact hN.2.2.2.2.1 (by decide) | exact hN.2.2.2.2.2.1 (by decide)
        go_round
        case rel => exact ⟨6, by omega, rfl, hN'⟩
        case measure => simp [intOf]
    | 6, _ =>
      go_wp2
      · have hb : ([120, 102] == s.toList) = true := by assumption
        have hs : s.toList = [120, 102] := (eq_of_beq hb).symm
        have hE : (Ending.returned (.tuple #[.int .u8 6, .bool true])) = .returned (.tuple #[.int .u8 (numI s), .bool (kindB s)]) := by
          rw [(kindB_iff s).2 (by simp [hs])]
          simp [numI, hs]
        go_ret2
        exact ⟨hE, rfl⟩
      · have hb : ([120, 102] == s.toList) = false := by assumption
        have hs : ¬ s.toList = [120, 102] := fun e => by rw [e] at hb; simp at hb
        have hN' : NotYet s 7 := by
          refine ⟨?_, ?_, ?_, ?_, ?_, ?_, ?_⟩ <;> intro hle <;> first | exact hs | exact absurd hle (by decide) | exact hN.1 (by decide) | exact hN.2.1 (by decide) | exact hN.2.2.1 (by decide) | exact hN.2.2.2.1 (by decide) | exact hN.2.2.2.2.1 (by decide) | exact hN.2.2.2.2.2.1 (by decide)
        go_round
        case rel => exact ⟨7, by omega, rfl, hN'⟩
        case measure => simp [intOf]
    | 7, _ =>
      have hE : (Ending.returned (.tuple #[.int .u8 (numI s), .bool (kindB s)])) = .returned (.tuple #[.int .u8 0, .bool false]) := by
        have hb : kindB s = false := by
          rw [Bool.eq_false_iff, Ne, kindB_iff]
          simp only [NotYet] at hN
          simp_all
        rw [hb]
        simp only [NotYet] at hN
        simp_all [numI]
      clear hN
      go_wp2
      go_ret2
      exact ⟨rfl, rfl⟩
end Go.Proofs.YtoobbkckpabamaaDoor
