/- The document's own Session (package creedref): what its small functions answer, at every argument. -/
import Derived.Test.YtoobbkckpabamaaDoorWalkB
namespace Go.Proofs.YtoobbkckpabamaaDoor
open Go Go.RowKit

def betweenB (k : ByteArray) : Bool := k.toList == [120, 102, 120] || k.toList == [120, 102, 121] || k.toList == [121, 102, 120]
def kindB (k : ByteArray) : Bool := k.toList == [121, 102] || k.toList == [120, 102] || frontB k || betweenB k
theorem between_any (k : ByteArray) (w : World) : Calls Tryd.prog 67 #[.string k] w fun e w' => e = .returned (.bool (betweenB k)) ∧ w' = w := by
  go_enter Tryd.func67, Tryd.ntmps67
  go_wp2
  all_goals
    go_ret
    exact ⟨ret_bool (by simp_all [betweenB]), rfl⟩
theorem kind_any (k : ByteArray) (w : World) : Calls Tryd.prog 50 #[.string k] w fun e w' => e = .returned (.bool (kindB k)) ∧ w' = w := by
  go_enter Tryd.func50, Tryd.ntmps50
  go_wp2_with (first
    | (go_at_call 53; refine (front_any _ _).mono ?_; rintro e w' ⟨rfl, rfl⟩)
    | (go_at_call 67; refine (between_any _ _).mono ?_; rintro e w' ⟨rfl, rfl⟩))
  all_goals
    go_ret
    exact ⟨ret_bool (by simp_all [kindB]), rfl⟩
def hasB (c : Int) : Bool := (decide (32 ≤ c) && decide (c ≤ 126)) || c == 9 || c == 10
theorem has_all (c : Int) (w : World) : Calls Tryd.prog 68 #[.int .u8 c] w fun e w' => e = .returned (.bool (hasB c)) ∧ w' = w := by
  go_enter Tryd.func68, Tryd.ntmps68
  go_wp2
  all_goals
    go_ret
    refine ⟨ret_bool ?_, rfl⟩
    unfold hasB
    rw [Bool.eq_iff_iff]
    simp only [Bool.or_eq_true, Bool.and_eq_true, decide_eq_true_eq, beq_iff_eq, true_iff]
    first | omega | simp
def nameB (s : ByteArray) : Bool := decide (s.size ≤ 40) && s.data.toList.all fun c => hasB c.toNat
/-- what Find answers -/
def findAt (ts : List Opr) (nm : ByteArray) (fr : Bool) : Option Nat := ts.findIdx? fun t => t.2.2.toList == nm.toList && frontB t.2.1 == fr
def atI : Option Nat → Int
  | none => -1
  | some k => k
theorem name_any (s : ByteArray) (w : World) (hs : s.size < 2 ^ 60) : Calls Tryd.prog 51 #[.string s] w fun e w' => e = .returned (.bool (nameB s)) ∧ w' = w := by
  go_enter Tryd.func51, Tryd.ntmps51
  go_wp2
  go_loop [3] (fun i => ∃ k : Nat, k ≤ s.size ∧ i = .int .i64 k ∧ ∀ j, (h : j < s.size) → j < k → hasB s[j].toNat = true) (fun i => s.size - (intOf i).toNat)
  case atStart => exact ⟨0, Nat.zero_le _, rfl, fun j _ h => absurd h (by omega)⟩
  case round =>
    obtain ⟨k, hk, rfl, hall⟩ := hrel
    by_cases hlt : k < s.size
    · by_cases hh : hasB s[k].toNat = true
      · go_wp2_with (go_at_call 68; refine (has_all _ _).mono ?_; rintro e w' ⟨rfl, rfl⟩)
        go_round
        case rel => exact ⟨k + 1, by omega, by go_num, fun j h hj => by
          by_cases e : j = k
          · subst e; exact hh
          · exact hall j h (by omega)⟩
        case measure => simp [intOf]; omega
      · go_wp2_with (go_at_call 68; refine (has_all _ _).mono ?_; rintro e w' ⟨rfl, rfl⟩)
        go_ret
        refine ⟨ret_bool ?_, rfl⟩
        have : nameB s = false := by
          unfold nameB
          rw [Bool.and_eq_false_iff]
          refine Or.inr (List.all_eq_false.2 ⟨s[k], ?_, by simpa using hh⟩)
          exact Array.mem_toList_iff.2 (Array.getElem_mem (by simpa using hlt))
        exact this.symm
    · have : k = s.size := by omega
      subst this
      go_wp2
      go_ret
      refine ⟨ret_bool ?_, rfl⟩
      have : (s.data.toList.all fun c => hasB c.toNat) = true := by
        rw [List.all_eq_true]
        intro c hc
        obtain ⟨j, hj, rfl⟩ := List.mem_iff_getElem.1 hc
        have hj' : j < s.size := by simpa using hj
        exact hall j hj' hj'
      simp [nameB, this]
      omega
theorem findAt_of {ts : List Opr} {nm : ByteArray} {fr : Bool} {k : Nat} (h : k < ts.length) (hk : (ts[k].2.2.toList == nm.toList && frontB ts[k].2.1 == fr) = true) (hb : ∀ j, (h : j < ts.length) → j < k → (ts[j].2.2.toList == nm.toList && frontB ts[j].2.1 == fr) = false) :
    findAt ts nm fr = some k := by
  unfold findAt
  rw [List.findIdx?_eq_some_iff_getElem]
  exact ⟨h, hk, fun j hj => by simpa using hb j (by omega) hj⟩
theorem findAt_none {ts : List Opr} {nm : ByteArray} {fr : Bool} (hb : ∀ j, (h : j < ts.length) → (ts[j].2.2.toList == nm.toList && frontB ts[j].2.1 == fr) = false) :
    findAt ts nm fr = none := by
  unfold findAt
  rw [List.findIdx?_eq_none_iff]
  intro t ht
  obtain ⟨j, hj, rfl⟩ := List.mem_iff_getElem.1 ht
  exact hb j hj
theorem find_any (sb : Nat) (v : Value) (ts : List Opr) (nm : ByteArray) (fr : Bool) (w : World) (hc : w.cell? ⟨sb, 0, none⟩ = some v) (hown : w.ownsRow (sb + 1) 94 3 v ts.length (flat ts))
    (hl : ts.length ≤ 1000) :
    Calls Tryd.prog 52 #[.pointer (some ⟨sb, 0, none⟩), .string nm, .bool fr] w fun e w' => e = .returned (.int .i64 (atI (findAt ts nm fr))) ∧ w' = w := by
  rcases hown.2 with ⟨rfl, hn⟩ | ⟨g, cap, cur, rfl, hbg, hg, hnc, hcm, hcs, htake⟩
  · have : ts = [] := List.eq_nil_of_length_eq_zero hn
    subst this
    go_enter Tryd.func52, Tryd.ntmps52
    go_wp2
    refine wp_loop_once ?_
    go_wp2
    go_ret
    exact ⟨rfl, rfl⟩
  · have hcell : ∀ j u, (flat ts)[j]? = some u → w.cell? ⟨g, j, none⟩ = some u := by
      intro j u hj
      have := hown.cells (g := g) rfl j u hj
      by_cases h0 : j = 0
      · subst h0; simpa [Addr.add] using this
      · simpa [Addr.add, h0] using this
    go_enter Tryd.func52, Tryd.ntmps52
    go_wp2
    go_loop [7] (fun i => ∃ k : Nat, k ≤ ts.length ∧ i = .int .i64 k ∧ ∀ j, (h : j < ts.length) → j < k → (ts[j].2.2.toList == nm.toList && frontB ts[j].2.1 == fr) = false) (fun i => ts.length - (intOf i).toNat)
    case atStart => exact ⟨0, Nat.zero_le _, rfl, fun j _ h => absurd h (by omega)⟩
    case round =>
      obtain ⟨k, hk, rfl, hall⟩ := hrel
      by_cases hlt : k < ts.length
      · obtain ⟨f0, f1, f2⟩ := flat_get ts k hlt
        have g1 := hcell _ _ f1
        have g2 := hcell _ _ f2
        have hnext : (ts[k].2.2.toList == nm.toList && frontB ts[k].2.1 == fr) = false → ∀ j, (h : j < ts.length) → j < k + 1 → (ts[j].2.2.toList == nm.toList && frontB ts[j].2.1 == fr) = false := fun hn j h hj => by
          by_cases e : j = k
          · subst e; exact hn
          · exact hall j h (by omega)
        have hhit := fun hk => findAt_of (nm := nm) (fr := fr) hlt hk hall
        clear f0 f1 f2 hall hcell htake hown hg
        by_cases hA : ts[k].2.2.toList = nm.toList
        · by_cases hB : (frontB ts[k].2.1 == fr) = true
          · have hF := hhit (by simp [hA, hB])
            clear hnext hhit
            go_wp2_with (go_at_call 53; refine (front_any _ _).mono ?_; rintro e w' ⟨rfl, rfl⟩)
            go_ret
            rw [hF]
            exact ⟨rfl, rfl⟩
          · have hB : (frontB ts[k].2.1 == fr) = false := by simpa using hB
            have hN := hnext (by simp [hB])
            clear hnext hhit
            go_wp2_with (go_at_call 53; refine (front_any _ _).mono ?_; rintro e w' ⟨rfl, rfl⟩)
            go_round
            case rel => exact ⟨k + 1, by omega, by go_num, hN⟩
            case measure => simp [intOf]; omega
        · have hN := hnext (by simp [hA])
          clear hnext hhit
          go_wp2
          go_round
          case rel => exact ⟨k + 1, by omega, by go_num, hN⟩
          case measure => simp [intOf]; omega
      · have : k = ts.length := by omega
        subst this
        have hF := findAt_none (nm := nm) (fr := fr) (fun j h => hall j h h)
        clear hall
        go_wp2
        go_ret
        exact ⟨rfl, rfl⟩
end Go.Proofs.YtoobbkckpabamaaDoor
