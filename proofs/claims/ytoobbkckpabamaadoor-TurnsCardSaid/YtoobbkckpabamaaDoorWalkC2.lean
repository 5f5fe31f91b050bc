/- The document's own Session (package creedref): put lays an operator into the list, and the list stays the Session's own. -/
import Derived.Test.YtoobbkckpabamaaDoorWalkC1
namespace Go.Proofs.YtoobbkckpabamaaDoor
open Go Go.RowKit
set_option maxRecDepth 100000 in
set_option maxHeartbeats 4000000 in
theorem put_any (sb : Nat) (v : Value) (ts : List Opr) (o : Opr) (w : World) (hc : w.cell? ⟨sb, 0, none⟩ = some v) (hf : w.frozen? ⟨sb, 0, none⟩ = false) (hown : w.ownsRow (sb + 1) 94 3 v ts.length (flat ts))
    (hl : ts.length ≤ 1000) :
    Calls Tryd.prog 39 #[.pointer (some ⟨sb, 0, none⟩), .agg #[.int .i64 o.1, .string o.2.1, .string o.2.2]] w fun e w' => e = .returned (.tuple #[]) ∧
      PutPost sb ts o w w' := by
  rcases hown.2 with ⟨rfl, hn⟩ | ⟨g, cap, cur, rfl, hbg, hg, hnc, hcm, hcs, htake⟩
  · have hts : ts = [] := List.eq_nil_of_length_eq_zero hn
    subst hts
    exact put_nil sb o w hc hf
  · have hcell : ∀ j u, (flat ts)[j]? = some u → w.cell? ⟨g, j, none⟩ = some u := by
      intro j u hj
      have := hown.cells (g := g) rfl j u hj
      by_cases h0 : j = 0
      · subst h0; simpa [Addr.add] using this
      · simpa [Addr.add, h0] using this
    have hsb := lt_cell hc
    simp only at hsb
    have hgl : g < w.heap.size := by have := hown.lt g rfl; exact this.2
    have hcA : ∀ oo, (w.alloc oo).cell? ⟨sb, 0, none⟩ = some (.slice (some ⟨g, 0, none⟩) ts.length cap) := fun oo => keep ((Below.refl w.heap.size w).alloc (Nat.le_refl _) oo) hc
    have hoA : (w.alloc (Obj.cells #[Value.int IntKind.i64 o.1, Value.string o.2.1, Value.string o.2.2] 94)).cell? ⟨w.heap.size, 1, none⟩ = some (.string o.2.1) := by simp
    have hoB : (w.alloc (Obj.cells #[Value.int IntKind.i64 o.1, Value.string o.2.1, Value.string o.2.2] 94)).cell? ⟨w.heap.size, 2, none⟩ = some (.string o.2.2) := by simp
    have hcellA : ∀ j u, (flat ts)[j]? = some u → (w.alloc (Obj.cells #[Value.int IntKind.i64 o.1, Value.string o.2.1, Value.string o.2.2] 94)).cell? ⟨g, j, none⟩ = some u := fun j u h => keep ((Below.refl w.heap.size w).alloc (Nat.le_refl _) _) (hcell j u h)
    have ho0 : (w.alloc (Obj.cells #[Value.int IntKind.i64 o.1, Value.string o.2.1, Value.string o.2.2] 94)).cell? ⟨w.heap.size, 0, none⟩ = some (.int .i64 o.1) := by simp
    obtain ⟨i0, hi, hz0, hz1, hz2⟩ := info_parts info86
    have htl : ∀ k, k ≤ ts.length → ((flat ts).take (k * 3)).length = k * 3 := fun k h => by rw [List.length_take, flat_length]; omega
    have hdl : ∀ k, k ≤ ts.length → ((flat ts).drop (k * 3)).length = (ts.length - k) * 3 := fun k h => by rw [List.length_drop, flat_length]; omega
    have hnA : ∀ (k q : Nat) (j : Nat) (u : Value), ((flat ts).take (k * 3))[j]? = some u → ((w.alloc (Obj.cells #[Value.int IntKind.i64 o.1, Value.string o.2.1, Value.string o.2.2] 94)).drewN q).cell? ((⟨g, 0, none⟩ : Addr).add j) = some u := fun k q j u h => by
      have h' : (flat ts)[j]? = some u := by
        rw [List.getElem?_take] at h
        split at h
        · exact h
        · cases h
      have := hcellA j u h'
      by_cases h0 : j = 0
      · subst h0; simpa [Addr.add] using this
      · simpa [Addr.add, h0] using this
    have hdr : ∀ (k : Nat) (j : Nat) (u : Value), ((flat ts).drop (k * 3))[j]? = some u → w.cell? ((⟨g, k * 3, none⟩ : Addr).add j) = some u := fun k j u h => by
      have h' : (flat ts)[k * 3 + j]? = some u := by rw [List.getElem?_drop] at h; exact h
      have := hcell _ u h'
      by_cases h0 : j = 0
      · subst h0; simpa [Addr.add] using this
      · simpa [Addr.add, h0] using this
    have hcB := hcA (Obj.cells #[Value.int IntKind.i64 o.1, Value.string o.2.1, Value.string o.2.2] 94)
    go_enter Tryd.func39, Tryd.ntmps39
    go_wp2
    go_loopw [4] (fun i wr => ∃ k m : Nat, k ≤ ts.length ∧ i = .int .i64 k ∧ wr = (w.alloc (Obj.cells #[Value.int IntKind.i64 o.1, Value.string o.2.1, Value.string o.2.2] 94)).drewN m ∧ ∀ j, (h : j < ts.length) → j < k → lessB ts[j] o = true) (fun i _ => ts.length - (intOf i).toNat)
    case atStart => exact ⟨0, 0, Nat.zero_le _, rfl, rfl, fun j _ h => by omega⟩
    case round =>
      obtain ⟨k, m, hk, rfl, rfl, hbef⟩ := hrel
      have six : (k < ts.length ∧ Op.bytesLess (ts.getD k (0, .empty, .empty)).2.2.toList o.2.2.toList = true) ∨
          (k < ts.length ∧ Op.bytesLess (ts.getD k (0, .empty, .empty)).2.2.toList o.2.2.toList = false ∧ (ts.getD k (0, .empty, .empty)).2.2.toList = o.2.2.toList ∧ frontB (ts.getD k (0, .empty, .empty)).2.1 = true ∧ frontB o.2.1 = false) ∨
          (¬ k < ts.length) ∨
          (k < ts.length ∧ Op.bytesLess (ts.getD k (0, .empty, .empty)).2.2.toList o.2.2.toList = false ∧ ¬ (ts.getD k (0, .empty, .empty)).2.2.toList = o.2.2.toList) ∨
          (k < ts.length ∧ Op.bytesLess (ts.getD k (0, .empty, .empty)).2.2.toList o.2.2.toList = false ∧ (ts.getD k (0, .empty, .empty)).2.2.toList = o.2.2.toList ∧ frontB (ts.getD k (0, .empty, .empty)).2.1 = false) ∨
          (k < ts.length ∧ Op.bytesLess (ts.getD k (0, .empty, .empty)).2.2.toList o.2.2.toList = false ∧ (ts.getD k (0, .empty, .empty)).2.2.toList = o.2.2.toList ∧ frontB (ts.getD k (0, .empty, .empty)).2.1 = true ∧ frontB o.2.1 = true) := by
        by_cases h0 : k < ts.length <;> by_cases h1 : Op.bytesLess (ts.getD k (0, .empty, .empty)).2.2.toList o.2.2.toList = true <;> by_cases h2 : (ts.getD k (0, .empty, .empty)).2.2.toList = o.2.2.toList <;> by_cases h3 : frontB (ts.getD k (0, .empty, .empty)).2.1 = true <;> by_cases h4 : frontB o.2.1 = true <;> simp_all
      have g1 : k < ts.length → (w.alloc (Obj.cells #[Value.int IntKind.i64 o.1, Value.string o.2.1, Value.string o.2.2] 94)).cell? ⟨g, k * 3 + 1, none⟩ = some (.string (ts.getD k (0, .empty, .empty)).2.1) := fun h => by
        have := hcellA _ _ (flat_get ts k h).2.1
        simpa [List.getD, h] using this
      have g2 : k < ts.length → (w.alloc (Obj.cells #[Value.int IntKind.i64 o.1, Value.string o.2.1, Value.string o.2.2] 94)).cell? ⟨g, k * 3 + 2, none⟩ = some (.string (ts.getD k (0, .empty, .empty)).2.2) := fun h => by
        have := hcellA _ _ (flat_get ts k h).2.2
        simpa [List.getD, h] using this
      have hless : k < ts.length → ∀ b, lessB (ts.getD k (0, .empty, .empty)) o = b → ∀ h : k < ts.length, lessB ts[k] o = b := fun h b hb h' => by simpa [List.getD, h] using hb
      generalize ts.getD k (0, .empty, .empty) = tk at six g1 g2 hless
      clear hcellA hcell hcA htake
      rcases six with ⟨hlt, hA⟩ | ⟨hlt, hA, hB, hC, hD⟩ | hlt | ⟨hlt, hA, hB⟩ | ⟨hlt, hA, hB, hC⟩ | ⟨hlt, hA, hB, hC, hD⟩
      · have g1 := g1 hlt
        have g2 := g2 hlt
        have hL := hless hlt true (by simp [lessB, hA])
        clear hless
        go_wp2
        go_quiet (fail)
        go_wp2
        go_roundw
        case rel => exact ⟨k + 1, _, by omega, by go_num, rfl, fun j h hj => by
          by_cases e : j = k
          · subst e; exact hL h
          · exact hbef j h (by omega)⟩
        case measure => simp [intOf]; omega
      · have g1 := g1 hlt
        have g2 := g2 hlt
        have hL := hless hlt true (by simp [lessB, hB, hC, hD])
        clear hless
        rw [hB] at hA
        go_wp2
        go_quiet ((go_at_call 53; exact quiet_front _ _ _ _))
        go_wp2
        go_roundw
        case rel => exact ⟨k + 1, _, by omega, by go_num, rfl, fun j h hj => by
          by_cases e : j = k
          · subst e; exact hL h
          · exact hbef j h (by omega)⟩
        case measure => simp [intOf]; omega
      · have hend : k = ts.length ∨ ∀ h : k < ts.length, lessB ts[k] o = false := Or.inl (by omega)
        clear hless g1 g2
        go_wp2
        go_quiet (fail)
        by_cases hck : cap = k
        all_goals
          go_wp2_with (first
            | (at_builtin; refine wpList_append_own _ rfl (.tmp 58) (.tmp 64) 55 rfl (w.heap.size + 1) 94 i0 _ 3 40 Tryd.underlying55 hi hz0 hz1 hz2 rfl (by decide) (.slice none 0 0) 0 [] rfl (World.ownsRow_nil _ _ _ _) ⟨g, 0, none⟩ k _ ((flat ts).take (k * 3)) rfl (htl k hk) (hnA k _) (one_take ts _) (by unfold maxLen; omega) (by omega) (by simp) ?_; intro l1 w1 hown1 hgrow1 _; simp only [Nat.zero_add, List.nil_append] at hown1; have hW1 := grown1 hgrow1; have c1 := (hW1.cell (p := ⟨sb, 0, none⟩) hsb).trans hc; have oo0 := hgrow1.cell ho0 (by simp [Value.ownBlock]); have oo1 := hgrow1.cell hoA (by simp [Value.ownBlock]); have oo2 := hgrow1.cell hoB (by simp [Value.ownBlock]); have z1 := hgrow1.size)
            | (at_builtin; refine wpList_append_own _ rfl (.tmp 66) (.tmp 68) 55 rfl (w.heap.size + 1) 94 i0 _ 3 40 Tryd.underlying55 hi hz0 hz1 hz2 rfl (by decide) l1 k _ rfl (hown1.alloc _) ⟨w1.heap.size, 0, none⟩ 1 1 (cellsOp o) rfl rfl (new3 w1 o) (one_op o) (by unfold maxLen; omega) (by omega) (by simp at z1 ⊢; omega) ?_; intro l2 w2 hown2 hgrow2 _; have hA1 := hW1.alloc hW1.size (Obj.cells #[Value.int IntKind.i64 o.1, Value.string o.2.1, Value.string o.2.2] 94); have hW2 := hA1.grown hgrow2 hA1.size (fun q hq => by have := (hown1.lt q hq).1; omega); have c2 := (hW2.cell (p := ⟨sb, 0, none⟩) hsb).trans hc; have z2 := hgrow2.size)
            | (at_builtin; refine wpList_append_own _ rfl (.tmp 70) (.tmp 76) 55 rfl (w.heap.size + 1) 94 i0 _ 3 40 Tryd.underlying55 hi hz0 hz1 hz2 rfl (by decide) l2 (k + 1) _ rfl hown2 ⟨g, k * 3, none⟩ (ts.length - k) (cap - k) ((flat ts).drop (k * 3)) rfl (hdl k hk) (fun j u hj => (hW2.cell (p := (⟨g, k * 3, none⟩ : Addr).add j) (by rw [add_block]; exact hgl)).trans (hdr k j u hj)) (one_drop ts _) (by unfold maxLen; omega) (by omega) (by simp at z1 z2 ⊢; omega) ?_; intro l3 w3 hown3 hgrow3 _; obtain ⟨g3, cap3, rfl, hg3a, hg3b⟩ := hown3.form (by omega); have hW3 := hW2.grown hgrow3 hW2.size (fun q hq => by have := (hown2.lt q hq).1; omega); have c3 := (hW3.cell (p := ⟨sb, 0, none⟩) hsb).trans hc; have f3 := (hW3.frozen (p := ⟨sb, 0, none⟩) hsb).trans hf)
            | (at_builtin; refine wpList_append_own _ rfl (.tmp 70) (.tmp 76) 55 rfl (w.heap.size + 1) 94 i0 _ 3 40 Tryd.underlying55 hi hz0 hz1 hz2 rfl (by decide) l2 (k + 1) _ rfl hown2 ⟨g, 0, none⟩ (ts.length - k) _ [] rfl (by simp; omega) (fun j u hj => by simp at hj) (fun u hu => by cases hu) (by unfold maxLen; omega) (by omega) (by simp at z1 z2 ⊢; omega) ?_; intro l3 w3 hown3 hgrow3 _; obtain ⟨g3, cap3, rfl, hg3a, hg3b⟩ := hown3.form (by omega); have hW3 := hW2.grown hgrow3 hW2.size (fun q hq => by have := (hown2.lt q hq).1; omega); have c3 := (hW3.cell (p := ⟨sb, 0, none⟩) hsb).trans hc; have f3 := (hW3.frozen (p := ⟨sb, 0, none⟩) hsb).trans hf))
          go_end0
          exact ⟨rfl, put_end hk hend (fun j h hj => hbef j h hj) hsb hc hf hown3 hW3 (by omega) (by first | rfl | (rw [List.drop_eq_nil_of_le (by rw [flat_length]; omega)]))⟩
      · have g1 := g1 hlt
        have g2 := g2 hlt
        have hend : k = ts.length ∨ ∀ h : k < ts.length, lessB ts[k] o = false := Or.inr (hless hlt false (by simp [lessB, hA, hB]))
        clear hless
        go_wp2
        go_quiet ((go_at_call 53; exact quiet_front _ _ _ _))
        have hck : ¬ cap = k := by omega
        all_goals
          go_wp2_with (first
            | (at_builtin; refine wpList_append_own _ rfl (.tmp 58) (.tmp 64) 55 rfl (w.heap.size + 1) 94 i0 _ 3 40 Tryd.underlying55 hi hz0 hz1 hz2 rfl (by decide) (.slice none 0 0) 0 [] rfl (World.ownsRow_nil _ _ _ _) ⟨g, 0, none⟩ k _ ((flat ts).take (k * 3)) rfl (htl k hk) (hnA k _) (one_take ts _) (by unfold maxLen; omega) (by omega) (by simp) ?_; intro l1 w1 hown1 hgrow1 _; simp only [Nat.zero_add, List.nil_append] at hown1; have hW1 := grown1 hgrow1; have c1 := (hW1.cell (p := ⟨sb, 0, none⟩) hsb).trans hc; have oo0 := hgrow1.cell ho0 (by simp [Value.ownBlock]); have oo1 := hgrow1.cell hoA (by simp [Value.ownBlock]); have oo2 := hgrow1.cell hoB (by simp [Value.ownBlock]); have z1 := hgrow1.size)
            | (at_builtin; refine wpList_append_own _ rfl (.tmp 66) (.tmp 68) 55 rfl (w.heap.size + 1) 94 i0 _ 3 40 Tryd.underlying55 hi hz0 hz1 hz2 rfl (by decide) l1 k _ rfl (hown1.alloc _) ⟨w1.heap.size, 0, none⟩ 1 1 (cellsOp o) rfl rfl (new3 w1 o) (one_op o) (by unfold maxLen; omega) (by omega) (by simp at z1 ⊢; omega) ?_; intro l2 w2 hown2 hgrow2 _; have hA1 := hW1.alloc hW1.size (Obj.cells #[Value.int IntKind.i64 o.1, Value.string o.2.1, Value.string o.2.2] 94); have hW2 := hA1.grown hgrow2 hA1.size (fun q hq => by have := (hown1.lt q hq).1; omega); have c2 := (hW2.cell (p := ⟨sb, 0, none⟩) hsb).trans hc; have z2 := hgrow2.size)
            | (at_builtin; refine wpList_append_own _ rfl (.tmp 70) (.tmp 76) 55 rfl (w.heap.size + 1) 94 i0 _ 3 40 Tryd.underlying55 hi hz0 hz1 hz2 rfl (by decide) l2 (k + 1) _ rfl hown2 ⟨g, k * 3, none⟩ (ts.length - k) (cap - k) ((flat ts).drop (k * 3)) rfl (hdl k hk) (fun j u hj => (hW2.cell (p := (⟨g, k * 3, none⟩ : Addr).add j) (by rw [add_block]; exact hgl)).trans (hdr k j u hj)) (one_drop ts _) (by unfold maxLen; omega) (by omega) (by simp at z1 z2 ⊢; omega) ?_; intro l3 w3 hown3 hgrow3 _; obtain ⟨g3, cap3, rfl, hg3a, hg3b⟩ := hown3.form (by omega); have hW3 := hW2.grown hgrow3 hW2.size (fun q hq => by have := (hown2.lt q hq).1; omega); have c3 := (hW3.cell (p := ⟨sb, 0, none⟩) hsb).trans hc; have f3 := (hW3.frozen (p := ⟨sb, 0, none⟩) hsb).trans hf)
            | (at_builtin; refine wpList_append_own _ rfl (.tmp 70) (.tmp 76) 55 rfl (w.heap.size + 1) 94 i0 _ 3 40 Tryd.underlying55 hi hz0 hz1 hz2 rfl (by decide) l2 (k + 1) _ rfl hown2 ⟨g, 0, none⟩ (ts.length - k) _ [] rfl (by simp; omega) (fun j u hj => by simp at hj) (fun u hu => by cases hu) (by unfold maxLen; omega) (by omega) (by simp at z1 z2 ⊢; omega) ?_; intro l3 w3 hown3 hgrow3 _; obtain ⟨g3, cap3, rfl, hg3a, hg3b⟩ := hown3.form (by omega); have hW3 := hW2.grown hgrow3 hW2.size (fun q hq => by have := (hown2.lt q hq).1; omega); have c3 := (hW3.cell (p := ⟨sb, 0, none⟩) hsb).trans hc; have f3 := (hW3.frozen (p := ⟨sb, 0, none⟩) hsb).trans hf))
          go_end0
          exact ⟨rfl, put_end hk hend (fun j h hj => hbef j h hj) hsb hc hf hown3 hW3 (by omega) (by first | rfl | (rw [List.drop_eq_nil_of_le (by rw [flat_length]; omega)]))⟩
      · have g1 := g1 hlt
        have g2 := g2 hlt
        have hend : k = ts.length ∨ ∀ h : k < ts.length, lessB ts[k] o = false := Or.inr (hless hlt false (by simp [lessB, hA, hC]))
        clear hless
        rw [hB] at hA
        go_wp2
        go_quiet ((go_at_call 53; exact quiet_front _ _ _ _))
        have hck : ¬ cap = k := by omega
        all_goals
          go_wp2_with (first
            | (at_builtin; refine wpList_append_own _ rfl (.tmp 58) (.tmp 64) 55 rfl (w.heap.size + 1) 94 i0 _ 3 40 Tryd.underlying55 hi hz0 hz1 hz2 rfl (by decide) (.slice none 0 0) 0 [] rfl (World.ownsRow_nil _ _ _ _) ⟨g, 0, none⟩ k _ ((flat ts).take (k * 3)) rfl (htl k hk) (hnA k _) (one_take ts _) (by unfold maxLen; omega) (by omega) (by simp) ?_; intro l1 w1 hown1 hgrow1 _; simp only [Nat.zero_add, List.nil_append] at hown1; have hW1 := grown1 hgrow1; have c1 := (hW1.cell (p := ⟨sb, 0, none⟩) hsb).trans hc; have oo0 := hgrow1.cell ho0 (by simp [Value.ownBlock]); have oo1 := hgrow1.cell hoA (by simp [Value.ownBlock]); have oo2 := hgrow1.cell hoB (by simp [Value.ownBlock]); have z1 := hgrow1.size)
            | (at_builtin; refine wpList_append_own _ rfl (.tmp 66) (.tmp 68) 55 rfl (w.heap.size + 1) 94 i0 _ 3 40 Tryd.underlying55 hi hz0 hz1 hz2 rfl (by decide) l1 k _ rfl (hown1.alloc _) ⟨w1.heap.size, 0, none⟩ 1 1 (cellsOp o) rfl rfl (new3 w1 o) (one_op o) (by unfold maxLen; omega) (by omega) (by simp at z1 ⊢; omega) ?_; intro l2 w2 hown2 hgrow2 _; have hA1 := hW1.alloc hW1.size (Obj.cells #[Value.int IntKind.i64 o.1, Value.string o.2.1, Value.string o.2.2] 94); have hW2 := hA1.grown hgrow2 hA1.size (fun q hq => by have := (hown1.lt q hq).1; omega); have c2 := (hW2.cell (p := ⟨sb, 0, none⟩) hsb).trans hc; have z2 := hgrow2.size)
            | (at_builtin; refine wpList_append_own _ rfl (.tmp 70) (.tmp 76) 55 rfl (w.heap.size + 1) 94 i0 _ 3 40 Tryd.underlying55 hi hz0 hz1 hz2 rfl (by decide) l2 (k + 1) _ rfl hown2 ⟨g, k * 3, none⟩ (ts.length - k) (cap - k) ((flat ts).drop (k * 3)) rfl (hdl k hk) (fun j u hj => (hW2.cell (p := (⟨g, k * 3, none⟩ : Addr).add j) (by rw [add_block]; exact hgl)).trans (hdr k j u hj)) (one_drop ts _) (by unfold maxLen; omega) (by omega) (by simp at z1 z2 ⊢; omega) ?_; intro l3 w3 hown3 hgrow3 _; obtain ⟨g3, cap3, rfl, hg3a, hg3b⟩ := hown3.form (by omega); have hW3 := hW2.grown hgrow3 hW2.size (fun q hq => by have := (hown2.lt q hq).1; omega); have c3 := (hW3.cell (p := ⟨sb, 0, none⟩) hsb).trans hc; have f3 := (hW3.frozen (p := ⟨sb, 0, none⟩) hsb).trans hf)
            | (at_builtin; refine wpList_append_own _ rfl (.tmp 70) (.tmp 76) 55 rfl (w.heap.size + 1) 94 i0 _ 3 40 Tryd.underlying55 hi hz0 hz1 hz2 rfl (by decide) l2 (k + 1) _ rfl hown2 ⟨g, 0, none⟩ (ts.length - k) _ [] rfl (by simp; omega) (fun j u hj => by simp at hj) (fun u hu => by cases hu) (by unfold maxLen; omega) (by omega) (by simp at z1 z2 ⊢; omega) ?_; intro l3 w3 hown3 hgrow3 _; obtain ⟨g3, cap3, rfl, hg3a, hg3b⟩ := hown3.form (by omega); have hW3 := hW2.grown hgrow3 hW2.size (fun q hq => by have := (hown2.lt q hq).1; omega); have c3 := (hW3.cell (p := ⟨sb, 0, none⟩) hsb).trans hc; have f3 := (hW3.frozen (p := ⟨sb, 0, none⟩) hsb).trans hf))
          go_end0
          exact ⟨rfl, put_end hk hend (fun j h hj => hbef j h hj) hsb hc hf hown3 hW3 (by omega) (by first | rfl | (rw [List.drop_eq_nil_of_le (by rw [flat_length]; omega)]))⟩
      · have g1 := g1 hlt
        have g2 := g2 hlt
        have hend : k = ts.length ∨ ∀ h : k < ts.length, lessB ts[k] o = false := Or.inr (hless hlt false (by simp [lessB, hA, hD]))
        clear hless
        rw [hB] at hA
        go_wp2
        go_quiet ((go_at_call 53; exact quiet_front _ _ _ _))
        have hck : ¬ cap = k := by omega
        all_goals
          go_wp2_with (first
            | (at_builtin; refine wpList_append_own _ rfl (.tmp 58) (.tmp 64) 55 rfl (w.heap.size + 1) 94 i0 _ 3 40 Tryd.underlying55 hi hz0 hz1 hz2 rfl (by decide) (.slice none 0 0) 0 [] rfl (World.ownsRow_nil _ _ _ _) ⟨g, 0, none⟩ k _ ((flat ts).take (k * 3)) rfl (htl k hk) (hnA k _) (one_take ts _) (by unfold maxLen; omega) (by omega) (by simp) ?_; intro l1 w1 hown1 hgrow1 _; simp only [Nat.zero_add, List.nil_append] at hown1; have hW1 := grown1 hgrow1; have c1 := (hW1.cell (p := ⟨sb, 0, none⟩) hsb).trans hc; have oo0 := hgrow1.cell ho0 (by simp [Value.ownBlock]); have oo1 := hgrow1.cell hoA (by simp [Value.ownBlock]); have oo2 := hgrow1.cell hoB (by simp [Value.ownBlock]); have z1 := hgrow1.size)
            | (at_builtin; refine wpList_append_own _ rfl (.tmp 66) (.tmp 68) 55 rfl (w.heap.size + 1) 94 i0 _ 3 40 Tryd.underlying55 hi hz0 hz1 hz2 rfl (by decide) l1 k _ rfl (hown1.alloc _) ⟨w1.heap.size, 0, none⟩ 1 1 (cellsOp o) rfl rfl (new3 w1 o) (one_op o) (by unfold maxLen; omega) (by omega) (by simp at z1 ⊢; omega) ?_; intro l2 w2 hown2 hgrow2 _; have hA1 := hW1.alloc hW1.size (Obj.cells #[Value.int IntKind.i64 o.1, Value.string o.2.1, Value.string o.2.2] 94); have hW2 := hA1.grown hgrow2 hA1.size (fun q hq => by have := (hown1.lt q hq).1; omega); have c2 := (hW2.cell (p := ⟨sb, 0, none⟩) hsb).trans hc; have z2 := hgrow2.size)
            | (at_builtin; refine wpList_append_own _ rfl (.tmp 70) (.tmp 76) 55 rfl (w.heap.size + 1) 94 i0 _ 3 40 Tryd.underlying55 hi hz0 hz1 hz2 rfl (by decide) l2 (k + 1) _ rfl hown2 ⟨g, k * 3, none⟩ (ts.length - k) (cap - k) ((flat ts).drop (k * 3)) rfl (hdl k hk) (fun j u hj => (hW2.cell (p := (⟨g, k * 3, none⟩ : Addr).add j) (by rw [add_block]; exact hgl)).trans (hdr k j u hj)) (one_drop ts _) (by unfold maxLen; omega) (by omega) (by simp at z1 z2 ⊢; omega) ?_; intro l3 w3 hown3 hgrow3 _; obtain ⟨g3, cap3, rfl, hg3a, hg3b⟩ := hown3.form (by omega); have hW3 := hW2.grown hgrow3 hW2.size (fun q hq => by have := (hown2.lt q hq).1; omega); have c3 := (hW3.cell (p := ⟨sb, 0, none⟩) hsb).trans hc; have f3 := (hW3.frozen (p := ⟨sb, 0, none⟩) hsb).trans hf)
            | (at_builtin; refine wpList_append_own _ rfl (.tmp 70) (.tmp 76) 55 rfl (w.heap.size + 1) 94 i0 _ 3 40 Tryd.underlying55 hi hz0 hz1 hz2 rfl (by decide) l2 (k + 1) _ rfl hown2 ⟨g, 0, none⟩ (ts.length - k) _ [] rfl (by simp; omega) (fun j u hj => by simp at hj) (fun u hu => by cases hu) (by unfold maxLen; omega) (by omega) (by simp at z1 z2 ⊢; omega) ?_; intro l3 w3 hown3 hgrow3 _; obtain ⟨g3, cap3, rfl, hg3a, hg3b⟩ := hown3.form (by omega); have hW3 := hW2.grown hgrow3 hW2.size (fun q hq => by have := (hown2.lt q hq).1; omega); have c3 := (hW3.cell (p := ⟨sb, 0, none⟩) hsb).trans hc; have f3 := (hW3.frozen (p := ⟨sb, 0, none⟩) hsb).trans hf))
          go_end0
          exact ⟨rfl, put_end hk hend (fun j h hj => hbef j h hj) hsb hc hf hown3 hW3 (by omega) (by first | rfl | (rw [List.drop_eq_nil_of_le (by rw [flat_length]; omega)]))⟩
end Go.Proofs.YtoobbkckpabamaaDoor
