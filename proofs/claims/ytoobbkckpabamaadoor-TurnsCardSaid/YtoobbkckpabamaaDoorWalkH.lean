/- The operators' Table (package operators): kindOf finds a type's place; New makes the Table of fourteen operators. Under: the three tables at package level hold what the program lays. -/
import Derived.Test.YtoobbkckpabamaaDoorWalkG
namespace Go.Proofs.YtoobbkckpabamaaDoor
open Go Go.RowKit Go.Maps
/-- the names of the types, by their places -/
def kn (i : Nat) : ByteArray := [bs [102, 121], bs [102, 120], bs [120, 102, 120], bs [120, 102, 121], bs [121, 102, 120], bs [121, 102], bs [120, 102]].getD i .empty
structure Kinds (w : World) : Prop where
  k0 : w.cell? ⟨1, 0, none⟩ = some (.string { data := #[102, 121] })
  k1 : w.cell? ⟨1, 1, none⟩ = some (.string { data := #[102, 120] })
  k2 : w.cell? ⟨1, 2, none⟩ = some (.string { data := #[120, 102, 120] })
  k3 : w.cell? ⟨1, 3, none⟩ = some (.string { data := #[120, 102, 121] })
  k4 : w.cell? ⟨1, 4, none⟩ = some (.string { data := #[121, 102, 120] })
  k5 : w.cell? ⟨1, 5, none⟩ = some (.string { data := #[121, 102] })
  k6 : w.cell? ⟨1, 6, none⟩ = some (.string { data := #[120, 102] })
theorem Kinds.below {w w' : World} (h : Kinds w) (hb : Below w.heap.size w w') : Kinds w' :=
  ⟨keep hb h.k0, keep hb h.k1, keep hb h.k2, keep hb h.k3, keep hb h.k4, keep hb h.k5, keep hb h.k6⟩
theorem kx0 (w : World) : (Instr.index 120 (.agg #[.string { data := #[102, 121] }, .string { data := #[102, 120] }, .string { data := #[120, 102, 120] }, .string { data := #[120, 102, 121] }, .string { data := #[121, 102, 120] }, .string { data := #[121, 102] }, .string { data := #[120, 102] }]) (.int .i64 0)).run Tryd.prog w = .ok (.string { data := #[102, 121] }) w := by kernel_rfl
theorem kx1 (w : World) : (Instr.index 120 (.agg #[.string { data := #[102, 121] }, .string { data := #[102, 120] }, .string { data := #[120, 102, 120] }, .string { data := #[120, 102, 121] }, .string { data := #[121, 102, 120] }, .string { data := #[121, 102] }, .string { data := #[120, 102] }]) (.int .i64 1)).run Tryd.prog w = .ok (.string { data := #[102, 120] }) w := by kernel_rfl
theorem kx2 (w : World) : (Instr.index 120 (.agg #[.string { data := #[102, 121] }, .string { data := #[102, 120] }, .string { data := #[120, 102, 120] }, .string { data := #[120, 102, 121] }, .string { data := #[121, 102, 120] }, .string { data := #[121, 102] }, .string { data := #[120, 102] }]) (.int .i64 2)).run Tryd.prog w = .ok (.string { data := #[120, 102, 120] }) w := by kernel_rfl
theorem kx3 (w : World) : (Instr.index 120 (.agg #[.string { data := #[102, 121] }, .string { data := #[102, 120] }, .string { data := #[120, 102, 120] }, .string { data := #[120, 102, 121] }, .string { data := #[121, 102, 120] }, .string { data := #[121, 102] }, .string { data := #[120, 102] }]) (.int .i64 3)).run Tryd.prog w = .ok (.string { data := #[120, 102, 121] }) w := by kernel_rfl
theorem kx4 (w : World) : (Instr.index 120 (.agg #[.string { data := #[102, 121] }, .string { data := #[102, 120] }, .string { data := #[120, 102, 120] }, .string { data := #[120, 102, 121] }, .string { data := #[121, 102, 120] }, .string { data := #[121, 102] }, .string { data := #[120, 102] }]) (.int .i64 4)).run Tryd.prog w = .ok (.string { data := #[121, 102, 120] }) w := by kernel_rfl
theorem kx5 (w : World) : (Instr.index 120 (.agg #[.string { data := #[102, 121] }, .string { data := #[102, 120] }, .string { data := #[120, 102, 120] }, .string { data := #[120, 102, 121] }, .string { data := #[121, 102, 120] }, .string { data := #[121, 102] }, .string { data := #[120, 102] }]) (.int .i64 5)).run Tryd.prog w = .ok (.string { data := #[121, 102] }) w := by kernel_rfl
theorem kx6 (w : World) : (Instr.index 120 (.agg #[.string { data := #[102, 121] }, .string { data := #[102, 120] }, .string { data := #[120, 102, 120] }, .string { data := #[120, 102, 121] }, .string { data := #[121, 102, 120] }, .string { data := #[121, 102] }, .string { data := #[120, 102] }]) (.int .i64 6)).run Tryd.prog w = .ok (.string { data := #[120, 102] }) w := by kernel_rfl
set_option maxRecDepth 100000 in
set_option maxHeartbeats 4000000 in
theorem kindOf_fy (w : World) (h : Kinds w) : Calls Tryd.prog 42 #[.string { data := #[102, 121] }] w fun e w' => e = .returned (.tuple #[.int .u8 0, .bool true]) ∧ w' = w := by
  obtain ⟨k0, k1, k2, k3, k4, k5, k6⟩ := h
  have x0 := kx0 w
  go_enter Tryd.func42, Tryd.ntmps42
  go_wp2
  clear k0 k1 k2 k3 k4 k5 k6
  go_loop [7] (fun i => ∃ k : Nat, k ≤ 0 ∧ i = .int .i64 k) (fun i => 1 - (intOf i).toNat)
  case atStart => exact ⟨0, by omega, rfl⟩
  case round =>
    obtain ⟨k, hk, rfl⟩ := hrel
    match k, hk with
    | 0, _ =>
      go_wp2
      go_ret2
      exact ⟨rfl, rfl⟩
set_option maxRecDepth 100000 in
set_option maxHeartbeats 4000000 in
theorem kindOf_xfx (w : World) (h : Kinds w) : Calls Tryd.prog 42 #[.string { data := #[120, 102, 120] }] w fun e w' => e = .returned (.tuple #[.int .u8 2, .bool true]) ∧ w' = w := by
  obtain ⟨k0, k1, k2, k3, k4, k5, k6⟩ := h
  have x0 := kx0 w
  have x1 := kx1 w
  have x2 := kx2 w
  go_enter Tryd.func42, Tryd.ntmps42
  go_wp2
  clear k0 k1 k2 k3 k4 k5 k6
  go_loop [7] (fun i => ∃ k : Nat, k ≤ 2 ∧ i = .int .i64 k) (fun i => 3 - (intOf i).toNat)
  case atStart => exact ⟨0, by omega, rfl⟩
  case round =>
    obtain ⟨k, hk, rfl⟩ := hrel
    match k, hk with
    | 0, _ =>
      go_wp2
      go_round
      case rel => exact ⟨1, by omega, rfl⟩
      case measure => simp [intOf]
    | 1, _ =>
      go_wp2
      go_round
      case rel => exact ⟨2, by omega, rfl⟩
      case measure => simp [intOf]
    | 2, _ =>
      go_wp2
      go_ret2
      exact ⟨rfl, rfl⟩
set_option maxRecDepth 100000 in
set_option maxHeartbeats 4000000 in
theorem kindOf_xfy (w : World) (h : Kinds w) : Calls Tryd.prog 42 #[.string { data := #[120, 102, 121] }] w fun e w' => e = .returned (.tuple #[.int .u8 3, .bool true]) ∧ w' = w := by
  obtain ⟨k0, k1, k2, k3, k4, k5, k6⟩ := h
  have x0 := kx0 w
  have x1 := kx1 w
  have x2 := kx2 w
  have x3 := kx3 w
  go_enter Tryd.func42, Tryd.ntmps42
  go_wp2
  clear k0 k1 k2 k3 k4 k5 k6
  go_loop [7] (fun i => ∃ k : Nat, k ≤ 3 ∧ i = .int .i64 k) (fun i => 4 - (intOf i).toNat)
  case atStart => exact ⟨0, by omega, rfl⟩
  case round =>
    obtain ⟨k, hk, rfl⟩ := hrel
    match k, hk with
    | 0, _ =>
      go_wp2
      go_round
      case rel => exact ⟨1, by omega, rfl⟩
      case measure => simp [intOf]
    | 1, _ =>
      go_wp2
      go_round
      case rel => exact ⟨2, by omega, rfl⟩
      case measure => simp [intOf]
    | 2, _ =>
      go_wp2
      go_round
      case rel => exact ⟨3, by omega, rfl⟩
      case measure => simp [intOf]
    | 3, _ =>
      go_wp2
      go_ret2
      exact ⟨rfl, rfl⟩
set_option maxRecDepth 100000 in
set_option maxHeartbeats 4000000 in
theorem kindOf_yfx (w : World) (h : Kinds w) : Calls Tryd.prog 42 #[.string { data := #[121, 102, 120] }] w fun e w' => e = .returned (.tuple #[.int .u8 4, .bool true]) ∧ w' = w := by
  obtain ⟨k0, k1, k2, k3, k4, k5, k6⟩ := h
  have x0 := kx0 w
  have x1 := kx1 w
  have x2 := kx2 w
  have x3 := kx3 w
  have x4 := kx4 w
  go_enter Tryd.func42, Tryd.ntmps42
  go_wp2
  clear k0 k1 k2 k3 k4 k5 k6
  go_loop [7] (fun i => ∃ k : Nat, k ≤ 4 ∧ i = .int .i64 k) (fun i => 5 - (intOf i).toNat)
  case atStart => exact ⟨0, by omega, rfl⟩
  case round =>
    obtain ⟨k, hk, rfl⟩ := hrel
    match k, hk with
    | 0, _ =>
      go_wp2
      go_round
      case rel => exact ⟨1, by omega, rfl⟩
      case measure => simp [intOf]
    | 1, _ =>
      go_wp2
      go_round
      case rel => exact ⟨2, by omega, rfl⟩
      case measure => simp [intOf]
    | 2, _ =>
      go_wp2
      go_round
      case rel => exact ⟨3, by omega, rfl⟩
      case measure => simp [intOf]
    | 3, _ =>
      go_wp2
      go_round
      case rel => exact ⟨4, by omega, rfl⟩
      case measure => simp [intOf]
    | 4, _ =>
      go_wp2
      go_ret2
      exact ⟨rfl, rfl⟩
end Go.Proofs.YtoobbkckpabamaaDoor
