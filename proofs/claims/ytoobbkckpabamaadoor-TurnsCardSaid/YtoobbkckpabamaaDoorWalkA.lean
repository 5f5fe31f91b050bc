/- A Session that New did not make answers every call with its error and nothing else: the walks of the eight calls. Under: the Session is nil, or its cell 'self' holds nil. -/
import Derived.Test.YtoobbkckpabamaaDoorProg
import Derived.WalkKit
import Derived.Below
import Derived.Defers
import Derived.LaidEqlPtr
import Derived.KernelRfl
namespace Go.Proofs.YtoobbkckpabamaaDoor
open Go Go.RowKit

theorem eql_none_some (a : Addr) (w : World) : (binOp .eql 26 (.pointer none) (.pointer (some a))).run Tryd.prog w = .ok (.bool false) w := by
  kernel_rfl
theorem eql_same (a : Addr) (w : World) : (binOp .eql 26 (.pointer (some a)) (.pointer (some a))).run Tryd.prog w = .ok (.bool true) w :=
  run_eql_ptr_same w a Tryd.underlying26 (te := 37) (j := (Tryd.prog.info? 37).get (by kernel_rfl)) (by kernel_rfl)
theorem lt_cell {w : World} {a : Addr} {v : Value} (h : w.cell? a = some v) : a.block < w.heap.size := by
  unfold World.cell? at h
  by_cases hb : a.block < w.heap.size
  · exact hb
  · rw [Array.getElem?_eq_none (by omega)] at h; simp at h
theorem made_nil (w : World) : Calls Tryd.prog 20 #[.pointer none] w fun e w' => e = .returned (.bool false) ∧ w' = w := by
  go_enter Tryd.func20, Tryd.ntmps20
  go_wp2
  go_ret
  exact ⟨rfl, rfl⟩
set_option maxRecDepth 100000 in
theorem made_own (b : Nat) (w : World) (h : w.cell? ⟨b, 2, none⟩ = some (.pointer none)) : Calls Tryd.prog 20 #[.pointer (some ⟨b, 0, none⟩)] w fun e w' => e = .returned (.bool false) ∧ w' = w := by
  have hE := eql_none_some ⟨b, 0, none⟩ w
  go_enter Tryd.func20, Tryd.ntmps20
  go_wp2
  go_ret
  exact ⟨rfl, rfl⟩
set_option maxRecDepth 100000 in
theorem made_made (b : Nat) (w : World) (h : w.cell? ⟨b, 2, none⟩ = some (.pointer (some ⟨b, 0, none⟩))) : Calls Tryd.prog 20 #[.pointer (some ⟨b, 0, none⟩)] w fun e w' => e = .returned (.bool true) ∧ w' = w := by
  have hE := eql_same ⟨b, 0, none⟩ w
  go_enter Tryd.func20, Tryd.ntmps20
  go_wp2
  go_ret
  exact ⟨rfl, rfl⟩

/-- a Session that is none, or one whose 'self' is nil -/
def Unmd (w : World) (s : Value) : Prop := s = .pointer none ∨ ∃ b, s = .pointer (some ⟨b, 0, none⟩) ∧ w.cell? ⟨b, 2, none⟩ = some (.pointer none)
theorem made_un (s : Value) (w : World) (h : Unmd w s) : Calls Tryd.prog 20 #[s] w fun e w' => e = .returned (.bool false) ∧ w' = w := by
  rcases h with rfl | ⟨b, rfl, h⟩
  · exact made_nil w
  · exact made_own b w h
theorem Unmd.below {w w' : World} {s : Value} (h : Unmd w s) (hb : Below w.heap.size w w') : Unmd w' s := by
  rcases h with rfl | ⟨b, rfl, h⟩
  · exact Or.inl rfl
  · refine Or.inr ⟨b, rfl, ?_⟩
    rw [hb.cell (p := ⟨b, 2, none⟩) (lt_cell h)]; exact h

abbrev zTerm : Value := .agg #[.int .i64 0, .string .empty, .int .i64 0, .slice none 0 0]
abbrev zTale : Value := .agg #[.slice none 0 0, .string .empty, .int .i64 0]
theorem op_un (w : World) (s p : Value) (k n : Value) (h : Unmd w s) : Calls Tryd.prog 8 #[s, p, k, n] w fun e w' => e = .returned (.int .i64 14) ∧ w' = w := by
  go_enter_defers Tryd.func8, Tryd.ntmps8
  go_wp2_with (go_at_call 20; refine (made_un _ _ h).mono ?_; rintro e w' ⟨rfl, rfl⟩)
  exact ⟨_, results_tmp rfl _ _ _, rfl, rfl⟩
theorem ops_un (w : World) (s : Value) (h : Unmd w s) : Calls Tryd.prog 11 #[s] w fun e w' => e = .returned (.slice none 0 0) ∧ w' = w := by
  go_enter_defers Tryd.func11, Tryd.ntmps11
  go_wp2_with (go_at_call 20; refine (made_un _ _ h).mono ?_; rintro e w' ⟨rfl, rfl⟩)
  exact ⟨_, results_tmp rfl _ _ _, rfl, rfl⟩
theorem read_un (w : World) (s t : Value) (h : Unmd w s) : Calls Tryd.prog 12 #[s, t] w fun e w' => e = .returned (.tuple #[zTerm, .int .i64 0, .int .i64 14, .int .i64 0]) ∧ Below w.heap.size w w' := by
  have h1 : ∀ o, Unmd (w.alloc o) s := fun o => h.below ((Below.refl _ _).alloc (Nat.le_refl _) _)
  go_enter_defers Tryd.func12, Tryd.ntmps12
  go_wp2_with (go_at_call 20; refine (made_un _ _ (h1 _)).mono ?_; rintro e w' ⟨rfl, rfl⟩)
  exact ⟨_, (by simp [results, Tryd.results12, go_sem]; rfl), rfl, (Below.refl _ _).alloc (Nat.le_refl _) _⟩
theorem write_un (w : World) (s : Value) (a b c d : Value) (h : Unmd w s) : Calls Tryd.prog 13 #[s, .agg #[a, b, c, d]] w fun e w' => e = .returned (.tuple #[.string .empty, .int .i64 14]) ∧ Below w.heap.size w w' := by
  have h1 : ∀ o, Unmd (w.alloc o) s := fun o => h.below ((Below.refl _ _).alloc (Nat.le_refl _) _)
  go_enter_defers Tryd.func13, Tryd.ntmps13
  go_wp2_with (go_at_call 20; refine (made_un _ _ (h1 _)).mono ?_; rintro e w' ⟨rfl, rfl⟩)
  exact ⟨_, results_tmp2 rfl _ _ _, rfl, (Below.refl _ _).alloc (Nat.le_refl _) _⟩
theorem canon_un (w : World) (s : Value) (a b c d : Value) (h : Unmd w s) : Calls Tryd.prog 14 #[s, .agg #[a, b, c, d]] w fun e w' => e = .returned (.tuple #[.string .empty, .int .i64 14]) ∧ Below w.heap.size w w' := by
  have h1 : ∀ o, Unmd (w.alloc o) s := fun o => h.below ((Below.refl _ _).alloc (Nat.le_refl _) _)
  go_enter_defers Tryd.func14, Tryd.ntmps14
  go_wp2_with (go_at_call 20; refine (made_un _ _ (h1 _)).mono ?_; rintro e w' ⟨rfl, rfl⟩)
  exact ⟨_, results_tmp2 rfl _ _ _, rfl, (Below.refl _ _).alloc (Nat.le_refl _) _⟩
theorem load_un (w : World) (s t : Value) (h : Unmd w s) : Calls Tryd.prog 15 #[s, t] w fun e w' => e = .returned (.tuple #[.int .i64 0, .int .i64 14, .int .i64 0]) ∧ w' = w := by
  go_enter_defers Tryd.func15, Tryd.ntmps15
  go_wp2_with (go_at_call 20; refine (made_un _ _ h).mono ?_; rintro e w' ⟨rfl, rfl⟩)
  exact ⟨_, (by simp [results, Tryd.results15, go_sem]), rfl, rfl⟩
theorem solve_un (w : World) (s t f m : Value) (h : Unmd w s) : Calls Tryd.prog 16 #[s, t, f, m] w fun e w' => e = .returned (.tuple #[zTale, .int .i64 14]) ∧ Below w.heap.size w w' := by
  have h1 : ∀ o, Unmd (w.alloc o) s := fun o => h.below ((Below.refl _ _).alloc (Nat.le_refl _) _)
  go_enter_defers Tryd.func16, Tryd.ntmps16
  go_wp2_with (go_at_call 20; refine (made_un _ _ (h1 _)).mono ?_; rintro e w' ⟨rfl, rfl⟩)
  exact ⟨_, (by simp [results, Tryd.results16, go_sem]; rfl), rfl, (Below.refl _ _).alloc (Nat.le_refl _) _⟩
theorem same_zero (w : World) : Calls Tryd.prog 17 #[zTerm, zTerm] w fun e w' => e = .returned (.bool true) ∧ Below w.heap.size w w' := by
  go_enter Tryd.func17, Tryd.ntmps17
  go_wp2
  refine wp_loop_once ?_
  go_wp2
  go_ret
  exact ⟨rfl, ((Below.refl _ _).alloc (Nat.le_refl _) _).alloc (by simp) _⟩
theorem num_any (n : Int) (w : World) : Calls Tryd.prog 9 #[.int .i64 n] w fun e w' => e = .returned (.int .i64 n) ∧ w' = w := by
  go_enter Tryd.func9, Tryd.ntmps9
  go_wp2
  go_ret
  exact ⟨rfl, rfl⟩
theorem keep {W w' : World} {a : Addr} {v : Value} (hb : Below W.heap.size W w') (hc : W.cell? a = some v) : w'.cell? a = some v := by
  rw [hb.cell (lt_cell hc)]; exact hc
set_option maxRecDepth 100000 in
set_option maxHeartbeats 4000000 in
theorem unmade_un (w : World) (s : Value) (h : Unmd w s) : Calls Tryd.prog 6 #[s] w fun e w' => e = .returned (.bool true) ∧ Below w.heap.size w w' := by
  go_enter Tryd.func6, Tryd.ntmps6
  go_wp2_with (first
    | (go_at_call 8; refine (op_un _ _ _ _ _ h).mono ?_; rintro e w' ⟨rfl, rfl⟩)
    | (go_at_call 11; refine (ops_un _ _ h).mono ?_; rintro e w' ⟨rfl, rfl⟩)
    | (go_at_call 12; refine (read_un _ _ _ h).mono ?_; rintro e w1 ⟨rfl, hb1⟩))
  have B1 : Below w'.heap.size w' (w1.alloc (Obj.cells #[Value.int IntKind.i64 0, Value.string ByteArray.empty, Value.int IntKind.i64 0, Value.slice none 0 0] 51)) := hb1.alloc hb1.size _
  go_wp2_with (go_at_call 13; refine (write_un _ _ _ _ _ _ (h.below B1)).mono ?_; rintro e w2 ⟨rfl, hb2⟩)
  have c0 : w2.cell? ⟨w1.heap.size, 0, none⟩ = some (.int .i64 0) := keep hb2 (by simp)
  have c1 : w2.cell? ⟨w1.heap.size, 1, none⟩ = some (.string .empty) := keep hb2 (by simp)
  have c2 : w2.cell? ⟨w1.heap.size, 2, none⟩ = some (.int .i64 0) := keep hb2 (by simp)
  have c3 : w2.cell? ⟨w1.heap.size, 3, none⟩ = some (.slice none 0 0) := keep hb2 (by simp)
  have B2 : Below w'.heap.size w' w2 := B1.trans (hb2.mono B1.size)
  clear hb2 B1 hb1
  refine (canon_un _ _ _ _ _ _ (h.below B2)).mono ?_
  rintro e w3 ⟨rfl, hb3⟩
  have c0 := keep hb3 c0
  have c1 := keep hb3 c1
  have c2 := keep hb3 c2
  have c3 := keep hb3 c3
  have B3 : Below w'.heap.size w' w3 := B2.trans (hb3.mono B2.size)
  clear hb3 B2
  go_wp2_with (first
    | (go_at_call 15; refine (load_un _ _ _ (h.below B3)).mono ?_; rintro e w4 ⟨rfl, rfl⟩)
    | (go_at_call 16; refine (solve_un _ _ _ _ _ (h.below B3)).mono ?_; rintro e w5 ⟨rfl, hb5⟩
       have d0 : ∀ o, (w5.alloc o).cell? ⟨w1.heap.size, 0, none⟩ = some (.int .i64 0) := fun o => keep (Below.refl w5.heap.size w5 |>.alloc (Nat.le_refl _) o) (keep hb5 c0)
       have d1 : ∀ o, (w5.alloc o).cell? ⟨w1.heap.size, 1, none⟩ = some (.string .empty) := fun o => keep (Below.refl w5.heap.size w5 |>.alloc (Nat.le_refl _) o) (keep hb5 c1)
       have d2 : ∀ o, (w5.alloc o).cell? ⟨w1.heap.size, 2, none⟩ = some (.int .i64 0) := fun o => keep (Below.refl w5.heap.size w5 |>.alloc (Nat.le_refl _) o) (keep hb5 c2)
       have d3 : ∀ o, (w5.alloc o).cell? ⟨w1.heap.size, 3, none⟩ = some (.slice none 0 0) := fun o => keep (Below.refl w5.heap.size w5 |>.alloc (Nat.le_refl _) o) (keep hb5 c3))
    | (go_at_call 17; refine (same_zero _).mono ?_; rintro e w6 ⟨rfl, hb6⟩
       have e0 : w6.cell? ⟨w5.heap.size, 0, none⟩ = some (.slice none 0 0) := keep hb6 (by simp)
       have e1 : w6.cell? ⟨w5.heap.size, 1, none⟩ = some (.string .empty) := keep hb6 (by simp)
       have e2 : w6.cell? ⟨w5.heap.size, 2, none⟩ = some (.int .i64 0) := keep hb6 (by simp))
    | (go_at_call 9; refine (num_any _ _).mono ?_; rintro e w7 ⟨rfl, rfl⟩))
  have B5 := B3.trans (hb5.mono B3.size)
  have B6 := B5.alloc B5.size (Obj.cells #[Value.slice none 0 0, Value.string ByteArray.empty, Value.int IntKind.i64 0] 65)
  exact bodyPost_ret (results_tmp rfl _ _ _) rfl ⟨rfl, B6.trans (hb6.mono B6.size)⟩
end Go.Proofs.YtoobbkckpabamaaDoor
