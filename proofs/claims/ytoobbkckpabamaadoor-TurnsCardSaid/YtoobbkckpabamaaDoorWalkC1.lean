/- The document's own Session (package creedref): put into an empty list. -/
import Derived.Test.YtoobbkckpabamaaDoorWalkC
namespace Go.Proofs.YtoobbkckpabamaaDoor
open Go Go.RowKit
set_option maxRecDepth 100000 in
set_option maxHeartbeats 4000000 in
theorem put_nil (sb : Nat) (o : Opr) (w : World) (hc : w.cell? ⟨sb, 0, none⟩ = some (.slice none 0 0)) (hf : w.frozen? ⟨sb, 0, none⟩ = false) :
    Calls Tryd.prog 39 #[.pointer (some ⟨sb, 0, none⟩), .agg #[.int .i64 o.1, .string o.2.1, .string o.2.2]] w fun e w' => e = .returned (.tuple #[]) ∧
      PutPost sb [] o w w' := by
  have hsb := lt_cell hc
  simp only at hsb
  have hcA : ∀ oo, (w.alloc oo).cell? ⟨sb, 0, none⟩ = some (.slice none 0 0) := fun oo => keep ((Below.refl w.heap.size w).alloc (Nat.le_refl _) oo) hc
  have hcB := hcA (Obj.cells #[Value.int IntKind.i64 o.1, Value.string o.2.1, Value.string o.2.2] 94)
  obtain ⟨i0, hi, hz0, hz1, hz2⟩ := info_parts info86
  go_enter Tryd.func39, Tryd.ntmps39
  go_wp2
  refine wp_loop_once ?_
  go_wp2
  go_quiet (fail)
  go_wp2_with (first
  | (at_builtin; refine wpList_append_own_none rfl (.tmp 58) (.tmp 64) 55 rfl (w.heap.size + 1) 94 i0 3 Tryd.underlying55 hi (.slice none 0 0) 0 [] rfl (hz1 ▸ World.ownsRow_nil _ _ _ _) rfl ?_)
  | (at_builtin; refine wpList_append_own _ rfl (.tmp 66) (.tmp 68) 55 rfl (w.heap.size + 1) 94 i0 _ 3 40 Tryd.underlying55 hi hz0 hz1 hz2 rfl (by decide) (.slice none 0 0) 0 [] rfl (World.ownsRow_nil _ _ _ _) ⟨w.heap.size + 1, 0, none⟩ 1 1 (cellsOp o) rfl rfl (new3' _ _ (by simp) o) (one_op o) (by unfold maxLen; omega) (by omega) (by simp) ?_; intro l2 w2 hown2 hgrow2 _; simp only [Nat.zero_add, List.nil_append] at hown2; obtain ⟨g3, cap3, rfl, hg3a, hg3b⟩ := hown2.form (by omega); have hW2 := grown2 hgrow2; have c2 := (hW2.cell (p := ⟨sb, 0, none⟩) hsb).trans hc; have f2 := (hW2.frozen (p := ⟨sb, 0, none⟩) hsb).trans hf)
  | (at_builtin; refine wpList_append_own_none rfl (.tmp 70) (.tmp 76) 55 rfl (w.heap.size + 1) 94 i0 3 Tryd.underlying55 hi _ 1 (cellsOp o) rfl hown2 rfl ?_))
  go_end0
  exact ⟨rfl, put_end (ts := []) (k := 0) (Nat.le_refl _) (Or.inl rfl) (fun j h hj => absurd hj (by omega)) hsb hc hf hown2 hW2 rfl (by simp [flat])⟩
end Go.Proofs.YtoobbkckpabamaaDoor
