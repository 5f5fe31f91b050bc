/- The operators' Table (package operators): which names may be turned, at every name. Under: the table of sorts holds what the program lays. -/
import Derived.Test.YtoobbkckpabamaaDoorTurnB
namespace Go.Proofs.YtoobbkckpabamaaDoor
open Go Go.RowKit
/-- the table of sorts -/
def sortL : List Int := [0, 0, 0, 0, 0, 0, 0, 0, 0, 2, 3, 0, 0, 0, 0, 0, 0, 0, 0, 0, 0, 0, 0, 0, 0, 0, 0, 0, 0, 0, 0, 0, 2, 10, 1, 9, 9, 4, 9, 5, 11, 11, 9, 9, 11, 9, 9, 9, 8, 8, 8, 8, 8, 8, 8, 8, 8, 8, 9, 10, 9, 9, 9, 9, 9, 7, 7, 7, 7, 7, 7, 7, 7, 7, 7, 7, 7, 7, 7, 7, 7, 7, 7, 7, 7, 7, 7, 7, 7, 7, 7, 11, 9, 11, 9, 7, 1, 6, 6, 6, 6, 6, 6, 6, 6, 6, 6, 6, 6, 6, 6, 6, 6, 6, 6, 6, 6, 6, 6, 6, 6, 6, 6, 11, 11, 11, 9, 0]
structure SortsA (w : World) : Prop where
  all : ∀ i, i < 128 → w.cell? ⟨2, i, none⟩ = some (.int .u8 (sortL.getD i 0))
theorem SortsA.below {w w' : World} (h : SortsA w) (hb : Below w.heap.size w w') : SortsA w' := ⟨fun i hi => keep hb (h.all i hi)⟩
def sortOf (c : Int) : Int := if c < 128 then sortL.getD c.toNat 0 else 0
set_option maxRecDepth 100000 in
theorem of_any (c : Nat) (w : World) (h : SortsA w) (h256 : c < 256) : Calls Tryd.prog 80 #[.int .u8 c] w fun e w' => e = .returned (.int .u8 (sortOf c)) ∧ w' = w := by
  have hw : wrap64 (c : Int) = c := by unfold wrap64; omega
  by_cases hc : c < 128
  · have h' := h.all c hc
    clear h
    rw [show sortOf c = sortL.getD c 0 by unfold sortOf; rw [if_pos (by omega), Int.toNat_natCast]]
    generalize sortL.getD c 0 = z at h'
    go_enter Tryd.func80, Tryd.ntmps80
    go_wp2
    go_ret
    exact ⟨rfl, rfl⟩
  · clear h
    rw [show sortOf c = 0 by unfold sortOf; rw [if_neg (by omega)]]
    go_enter Tryd.func80, Tryd.ntmps80
    go_wp2
    go_ret
    exact ⟨rfl, rfl⟩
theorem sort_has (c : UInt8) : (sortOf c.toNat == 0) = !hasB c.toNat := by
  have : ∀ n : Fin 256, (sortOf (n.val : Int) == 0) = !hasB (n.val : Int) := by decide +kernel
  exact this ⟨c.toNat, c.toNat_lt⟩
def strangerAt (s : ByteArray) : Option Nat := s.data.toList.findIdx? fun c => !hasB c.toNat
theorem strangerAt_of {s : ByteArray} {k : Nat} (h : k < s.size) (hk : hasB s[k].toNat = false) (hb : ∀ j, (h : j < s.size) → j < k → hasB s[j].toNat = true) : strangerAt s = some k := by
  unfold strangerAt
  rw [List.findIdx?_eq_some_iff_getElem]
  refine ⟨by simpa using h, ?_, fun j hj => ?_⟩
  · show (!hasB s[k].toNat) = true
    rw [hk]; rfl
  · show ¬ (!hasB (s[j]'(by omega)).toNat) = true
    rw [hb j (by omega) hj]; decide
theorem strangerAt_none {s : ByteArray} (hb : ∀ j, (h : j < s.size) → hasB s[j].toNat = true) : strangerAt s = none := by
  unfold strangerAt
  rw [List.findIdx?_eq_none_iff]
  intro c hc
  obtain ⟨j, hj, rfl⟩ := List.mem_iff_getElem.1 hc
  have hj' : j < s.size := by simpa using hj
  show (!hasB s[j].toNat) = false
  rw [hb j hj']; rfl
set_option maxRecDepth 100000 in
theorem stranger_any (s : ByteArray) (w : World) (h : SortsA w) (hs : s.size < 2 ^ 60) : Calls Tryd.prog 76 #[.string s] w fun e w' => e = .returned (.int .i64 (atI (strangerAt s))) ∧ w' = w := by
  go_enter Tryd.func76, Tryd.ntmps76
  go_wp2
  go_loop [6] (fun i => ∃ k : Nat, k ≤ s.size ∧ i = .int .i64 k ∧ ∀ j, (h : j < s.size) → j < k → hasB s[j].toNat = true) (fun i => s.size - (intOf i).toNat)
  case atStart => exact ⟨0, by omega, rfl, fun j _ h => absurd h (by omega)⟩
  case round =>
    obtain ⟨k, hk, rfl, hall⟩ := hrel
    by_cases hlt : k < s.size
    · have hS := sort_has s[k]
      by_cases hh : hasB s[k].toNat = true
      · have hz : ¬ sortOf s[k].toNat = 0 := by simpa [hh] using hS
        have hN : ∀ j, (h : j < s.size) → j < k + 1 → hasB s[j].toNat = true := fun j h hj => by
          by_cases e : j = k
          · subst e; exact hh
          · exact hall j h (by omega)
        clear hS hall
        go_wp2_with (go_at_call 80; refine (of_any s[k].toNat _ h s[k].toNat_lt).mono ?_; rintro e w' ⟨rfl, rfl⟩)
        go_round
        case rel => exact ⟨k + 1, by omega, by go_num, hN⟩
        case measure => simp [intOf]; omega
      · have hz : sortOf s[k].toNat = 0 := by simpa [hh] using hS
        have hF := strangerAt_of hlt (by simpa using hh) hall
        clear hS hall
        go_wp2_with (go_at_call 80; refine (of_any s[k].toNat _ h s[k].toNat_lt).mono ?_; rintro e w' ⟨rfl, rfl⟩)
        go_ret
        rw [hF]
        exact ⟨rfl, rfl⟩
    · have : k = s.size := by omega
      subst this
      have hF := strangerAt_none (fun j h => hall j h h)
      clear hall
      go_wp2
      go_ret
      exact ⟨rfl, rfl⟩
set_option maxRecDepth 100000 in
theorem tname_any (s : ByteArray) (w : World) (h : SortsA w) (hs : s.size < 2 ^ 60) : Calls Tryd.prog 62 #[.string s] w fun e w' => e = .returned (.bool (nameB s)) ∧ w' = w := by
  have hN : nameB s = (decide (s.size ≤ 40) && decide (atI (strangerAt s) < 0)) := by
    unfold nameB
    congr 1
    rw [Bool.eq_iff_iff, decide_eq_true_eq, List.all_eq_true]
    cases hf : strangerAt s with
    | none =>
      unfold strangerAt at hf
      rw [List.findIdx?_eq_none_iff] at hf
      simp only [atI]
      exact ⟨fun _ => by decide, fun _ c hc => by simpa using hf c hc⟩
    | some i =>
      unfold strangerAt at hf
      rw [List.findIdx?_eq_some_iff_getElem] at hf
      obtain ⟨hi, hp, _⟩ := hf
      simp only [atI]
      constructor
      · intro ha
        rw [ha _ (List.getElem_mem hi)] at hp
        cases hp
      · intro hlt
        omega
  rw [hN]
  by_cases h40 : s.size ≤ 40
  · go_enter Tryd.func62, Tryd.ntmps62
    go_wp2_with (go_at_call 76; refine (stranger_any _ _ h hs).mono ?_; rintro e w' ⟨rfl, rfl⟩)
    all_goals
      go_ret
      exact ⟨ret_bool (by simp_all), rfl⟩
  · go_enter Tryd.func62, Tryd.ntmps62
    go_wp2_with (go_at_call 76; refine (stranger_any _ _ h hs).mono ?_; rintro e w' ⟨rfl, rfl⟩)
    all_goals
      go_ret
      exact ⟨ret_bool (by simp_all), rfl⟩
set_option maxRecDepth 100000 in
theorem may_any (s : ByteArray) (w : World) (h : SortsA w) (hs : s.size < 2 ^ 60) : Calls Tryd.prog 43 #[.string s] w fun e w' => e = .returned (.bool (!barredB s && nameB s)) ∧ w' = w := by
  go_enter Tryd.func43, Tryd.ntmps43
  go_wp2_with (go_at_call 62; refine (tname_any _ _ h hs).mono ?_; rintro e w' ⟨rfl, rfl⟩)
  all_goals
    go_ret
    exact ⟨ret_bool (by simp_all [barredB]), rfl⟩
end Go.Proofs.YtoobbkckpabamaaDoor
