/- What the row's condition on the package's three tables gives the walks: their cells; what a script reads as; the law Turns. -/
import Derived.Test.YtoobbkckpabamaaDoorPlayE
import Derived.Test.YtoobbkckpabamaaDoorRows
import Derived.ProofKit
import Derived.LaidMore
import Derived.OpenShut
import Derived.Deep.Strs
import Derived.Deep.Slices
namespace Go.Proofs.YtoobbkckpabamaaDoor
open Go Go.RowKit Go.Maps
def laid3 : List (String × DataW Unit) := [("creed/signs.sorts", Rows.laid_creed_signs_sorts), ("creed/operators.kindNames", Rows.laid_creed_operators_kindNames), ("creed/operators.first", Rows.laid_creed_operators_first)]
theorem gFirst : Tryd.prog.globalNamed "creed/operators.first" = some 0 := by kernel_rfl
theorem gKinds : Tryd.prog.globalNamed "creed/operators.kindNames" = some 1 := by kernel_rfl
theorem gSorts : Tryd.prog.globalNamed "creed/signs.sorts" = some 2 := by kernel_rfl
theorem tFirst : (Tryd.prog.globals[0]?).map (·.type) = some 111 := by kernel_rfl
theorem tKinds : (Tryd.prog.globals[1]?).map (·.type) = some 120 := by kernel_rfl
theorem tSorts : (Tryd.prog.globals[2]?).map (·.type) = some 137 := by kernel_rfl
theorem cells9 : Tryd.prog.cellsOf 9 = 1 := by kernel_rfl
theorem cells3 : Tryd.prog.cellsOf 3 = 1 := by kernel_rfl
theorem cells86 : Tryd.prog.cellsOf 94 = 3 := by kernel_rfl
theorem cells133 : Tryd.prog.cellsOf 133 = 1 := by kernel_rfl
section
variable {enc : TypeId × Value → Unit} {w : World} {base : Nat} {sp : Nat → Bool} {held : Bool}
theorem elem_at {fuel n : Nat} {t e : TypeId} {cs : List Value} {ds : List (DataW Unit)} {p : List MemPlace} (ht : Tryd.prog.underlying t = some (.array n e)) (h : DataW.trod enc Tryd.prog w base sp held fuel t cs = some (.agg ds, p)) (i : Nat) (hi : i < n) {d : DataW Unit} (hd : ds[i]? = some d) :
    ∃ m q, DataW.trod enc Tryd.prog w base sp held m e ((cs.drop (i * Tryd.prog.cellsOf e)).take (Tryd.prog.cellsOf e)) = some (d, q) := by
  obtain ⟨xs, m, _, hx, _, hxl, hel⟩ := DataW.trod_array ht h
  have h1 := hel i hi
  simp only [Prod.mk.injEq, DataW.agg.injEq] at hx
  obtain ⟨y, hy⟩ : ∃ y, xs[i]? = some y := ⟨xs[i]'(by omega), List.getElem?_eq_getElem (by omega)⟩
  rw [hy] at h1
  have h2 : (xs.map (·.1))[i]? = some y.1 := by simp [hy]
  rw [← hx.1, hd] at h2
  cases h2
  exact ⟨m, y.2, h1⟩
theorem one_of_take {cs : List Value} {i : Nat} {v : Value} (h : (cs.drop i).take 1 = [v]) : cs[i]? = some v := by
  have := congrArg (·[0]?) h
  simpa [List.getElem?_take, List.getElem?_drop] using this
theorem str_of {s : ByteArray} {l : List UInt8} (h : s.data.toList = l) : s = ⟨l.toArray⟩ := by
  apply ByteArray.ext
  rw [← h]
theorem row_cells {fuel : Nat} {cs : List Value} {a : Int} {b c : List UInt8} {q : List MemPlace} (h : DataW.trod enc Tryd.prog w base sp held fuel 94 cs = some (.agg [.lit (.int .i64 a), .lit (.string b), .lit (.string c)], q)) :
    cs[0]? = some (.int .i64 a) ∧ cs[1]? = some (.string ⟨b.toArray⟩) ∧ cs[2]? = some (.string ⟨c.toArray⟩) := by
  obtain ⟨y0, y1, y2, n, hx, _, h0, h1, h2⟩ := Deep.trod_struct3 Tryd.underlying94 h
  simp only [Prod.mk.injEq, DataW.agg.injEq, List.cons.injEq, and_true] at hx
  obtain ⟨⟨e0, e1, e2⟩, _⟩ := hx
  simp only [cells3, cells9] at h0 h1 h2
  obtain ⟨z, c0, r0, _⟩ := DataW.trod_int Tryd.underlying3 h0
  obtain ⟨s, c1, r1, _⟩ := DataW.trod_string Tryd.underlying9 h1
  obtain ⟨u, c2, r2, _⟩ := DataW.trod_string Tryd.underlying9 h2
  rw [r0] at e0; rw [r1] at e1; rw [r2] at e2
  simp only [DataW.lit.injEq, Lit.int.injEq, true_and, Lit.string.injEq] at e0 e1 e2
  subst e0
  rw [str_of e1.symm] at c1
  rw [str_of e2.symm] at c2
  exact ⟨one_of_take c0, one_of_take c1, one_of_take c2⟩
end
set_option maxRecDepth 100000 in
theorem of_laid {W : World} (h : laidMetH Tryd.prog laid3 W) : Firsts W ∧ Kinds W ∧ SortsA W := by
  rw [MakeChecks.laidMetH_plain _ _ _ (by kernel_rfl)] at h
  obtain ⟨ps, ⟨g0, t0, cs0, f0, p0, q0, hg0, ht0, hv0, hd0, ⟨g1, t1, cs1, f1, p1, q1, hg1, ht1, hv1, hd1, ⟨g2, t2, cs2, f2, p2, q2, hg2, ht2, hv2, hd2, _, _⟩, _⟩, _⟩, _, _⟩ := h
  obtain rfl := Option.some.inj (gSorts.symm.trans hg0)
  obtain rfl := Option.some.inj (gKinds.symm.trans hg1)
  obtain rfl := Option.some.inj (gFirst.symm.trans hg2)
  obtain rfl := Option.some.inj (tSorts.symm.trans ht0)
  obtain rfl := Option.some.inj (tKinds.symm.trans ht1)
  obtain rfl := Option.some.inj (tFirst.symm.trans ht2)
  refine ⟨?_, ?_, ?_⟩
  · have hrow : ∀ k, k < 14 → ∀ a b c, (match (Rows.laid_creed_operators_first : DataW Unit) with | .agg l => l | _ => [])[k]? = some (.agg [.lit (.int .i64 a), .lit (.string b), .lit (.string c)]) →
        W.cell? ⟨0, k * 3, none⟩ = some (.int .i64 a) ∧ W.cell? ⟨0, k * 3 + 1, none⟩ = some (.string ⟨b.toArray⟩) ∧ W.cell? ⟨0, k * 3 + 2, none⟩ = some (.string ⟨c.toArray⟩) := by
      intro k hk a b c hd
      obtain ⟨m, q, hm⟩ := elem_at Tryd.underlying111 hd2 k hk hd
      rw [cells86] at hm
      obtain ⟨r0, r1, r2⟩ := row_cells hm
      simp only [List.getElem?_take, List.getElem?_drop] at r0 r1 r2
      refine ⟨?_, ?_, ?_⟩
      · rw [World.var?_cell hg2 hv2, ← Array.getElem?_toList]; simpa using r0
      · rw [World.var?_cell hg2 hv2, ← Array.getElem?_toList]; simpa using r1
      · rw [World.var?_cell hg2 hv2, ← Array.getElem?_toList]; simpa using r2
    intro i hi
    match i, hi with
    | 0, _ => exact (hrow 0 (by decide) 1200 [120, 102, 120] [58, 45] rfl).1
    | 1, _ => exact (hrow 0 (by decide) 1200 [120, 102, 120] [58, 45] rfl).2.1
    | 2, _ => exact (hrow 0 (by decide) 1200 [120, 102, 120] [58, 45] rfl).2.2
    | 3, _ => exact (hrow 1 (by decide) 1100 [120, 102, 121] [59] rfl).1
    | 4, _ => exact (hrow 1 (by decide) 1100 [120, 102, 121] [59] rfl).2.1
    | 5, _ => exact (hrow 1 (by decide) 1100 [120, 102, 121] [59] rfl).2.2
    | 6, _ => exact (hrow 2 (by decide) 1000 [120, 102, 121] [44] rfl).1
    | 7, _ => exact (hrow 2 (by decide) 1000 [120, 102, 121] [44] rfl).2.1
    | 8, _ => exact (hrow 2 (by decide) 1000 [120, 102, 121] [44] rfl).2.2
    | 9, _ => exact (hrow 3 (by decide) 900 [102, 121] [92] rfl).1
    | 10, _ => exact (hrow 3 (by decide) 900 [102, 121] [92] rfl).2.1
    | 11, _ => exact (hrow 3 (by decide) 900 [102, 121] [92] rfl).2.2
    | 12, _ => exact (hrow 4 (by decide) 700 [120, 102, 120] [61] rfl).1
    | 13, _ => exact (hrow 4 (by decide) 700 [120, 102, 120] [61] rfl).2.1
    | 14, _ => exact (hrow 4 (by decide) 700 [120, 102, 120] [61] rfl).2.2
    | 15, _ => exact (hrow 5 (by decide) 700 [120, 102, 120] [60] rfl).1
    | 16, _ => exact (hrow 5 (by decide) 700 [120, 102, 120] [60] rfl).2.1
    | 17, _ => exact (hrow 5 (by decide) 700 [120, 102, 120] [60] rfl).2.2
    | 18, _ => exact (hrow 6 (by decide) 700 [120, 102, 120] [62] rfl).1
    | 19, _ => exact (hrow 6 (by decide) 700 [120, 102, 120] [62] rfl).2.1
    | 20, _ => exact (hrow 6 (by decide) 700 [120, 102, 120] [62] rfl).2.2
    | 21, _ => exact (hrow 7 (by decide) 700 [120, 102, 120] [105, 115] rfl).1
    | 22, _ => exact (hrow 7 (by decide) 700 [120, 102, 120] [105, 115] rfl).2.1
    | 23, _ => exact (hrow 7 (by decide) 700 [120, 102, 120] [105, 115] rfl).2.2
    | 24, _ => exact (hrow 8 (by decide) 500 [121, 102, 120] [43] rfl).1
    | 25, _ => exact (hrow 8 (by decide) 500 [121, 102, 120] [43] rfl).2.1
    | 26, _ => exact (hrow 8 (by decide) 500 [121, 102, 120] [43] rfl).2.2
    | 27, _ => exact (hrow 9 (by decide) 500 [121, 102, 120] [45] rfl).1
    | 28, _ => exact (hrow 9 (by decide) 500 [121, 102, 120] [45] rfl).2.1
    | 29, _ => exact (hrow 9 (by decide) 500 [121, 102, 120] [45] rfl).2.2
    | 30, _ => exact (hrow 10 (by decide) 400 [121, 102, 120] [42] rfl).1
    | 31, _ => exact (hrow 10 (by decide) 400 [121, 102, 120] [42] rfl).2.1
    | 32, _ => exact (hrow 10 (by decide) 400 [121, 102, 120] [42] rfl).2.2
    | 33, _ => exact (hrow 11 (by decide) 400 [121, 102, 120] [47] rfl).1
    | 34, _ => exact (hrow 11 (by decide) 400 [121, 102, 120] [47] rfl).2.1
    | 35, _ => exact (hrow 11 (by decide) 400 [121, 102, 120] [47] rfl).2.2
    | 36, _ => exact (hrow 12 (by decide) 200 [120, 102, 121] [94] rfl).1
    | 37, _ => exact (hrow 12 (by decide) 200 [120, 102, 121] [94] rfl).2.1
    | 38, _ => exact (hrow 12 (by decide) 200 [120, 102, 121] [94] rfl).2.2
    | 39, _ => exact (hrow 13 (by decide) 200 [102, 121] [45] rfl).1
    | 40, _ => exact (hrow 13 (by decide) 200 [102, 121] [45] rfl).2.1
    | n + 42, hi => exact absurd hi (by omega)
    | 41, _ => exact (hrow 13 (by decide) 200 [102, 121] [45] rfl).2.2
  · have hk : ∀ k, k < 7 → ∀ b, (match (Rows.laid_creed_operators_kindNames : DataW Unit) with | .agg l => l | _ => [])[k]? = some (.lit (.string b)) → W.cell? ⟨1, k, none⟩ = some (.string ⟨b.toArray⟩) := by
      intro k hk b hd
      obtain ⟨m, q, hm⟩ := elem_at Tryd.underlying120 hd1 k hk hd
      rw [cells9, Nat.mul_one] at hm
      obtain ⟨s, hc, hr, _⟩ := DataW.trod_string Tryd.underlying9 hm
      simp only [Prod.mk.injEq, DataW.lit.injEq, Lit.string.injEq] at hr
      rw [str_of hr.1.symm] at hc
      rw [World.var?_cell hg1 hv1, ← Array.getElem?_toList]
      exact one_of_take hc
    exact ⟨hk 0 (by decide) [102, 121] rfl, hk 1 (by decide) [102, 120] rfl, hk 2 (by decide) [120, 102, 120] rfl, hk 3 (by decide) [120, 102, 121] rfl, hk 4 (by decide) [121, 102, 120] rfl, hk 5 (by decide) [121, 102] rfl, hk 6 (by decide) [120, 102] rfl⟩
  · refine ⟨fun i hi => ?_⟩
    have hd : (match (Rows.laid_creed_signs_sorts : DataW Unit) with | .agg l => l | _ => [])[i]? = some (.lit (.int .u8 (sortL.getD i 0))) := by
      have e : (match (Rows.laid_creed_signs_sorts : DataW Unit) with | .agg l => l | _ => []) = sortL.map fun z => .lit (.int .u8 z) := by rfl
      have hl : sortL.length = 128 := by decide +kernel
      rw [e, List.getElem?_map, List.getElem?_eq_getElem (by omega), List.getD_eq_getElem?_getD, List.getElem?_eq_getElem (by omega)]
      rfl
    obtain ⟨m, q, hm⟩ := elem_at Tryd.underlying137 hd0 i hi hd
    rw [cells133, Nat.mul_one] at hm
    obtain ⟨z, hc, hr, _⟩ := DataW.trod_int Tryd.underlying133 hm
    simp only [Prod.mk.injEq, DataW.lit.injEq, Lit.int.injEq, true_and] at hr
    rw [← hr.1] at hc
    rw [World.var?_cell hg0 hv0, ← Array.getElem?_toList]
    exact one_of_take hc
theorem mem_weights {H : Type} {P : Program} {e : TypeId} : ∀ {l : List (DataW H)} {d : DataW H} {x : Nat}, d ∈ l → x ∈ d.weights P e → x ∈ DataW.weightsAll P e l
  | a :: l, d, x, hd, hx => by
    unfold DataW.weightsAll
    rcases List.mem_cons.1 hd with h | h
    · subst h; exact List.mem_append_left _ hx
    · exact List.mem_append_right _ (mem_weights h hx)
theorem cells69 : Tryd.prog.cellsOf 53 = 10 := by kernel_rfl
theorem cells53 : Tryd.prog.cellsOf 51 = 4 := by kernel_rfl
set_option maxRecDepth 100000 in
set_option maxHeartbeats 4000000 in
theorem open_scr {H : Type} {enc : TypeId × Value → H} {W : World} {a0 : Option Addr} {len cap fuel : Nat} {d : DataW H} {ps : List MemPlace} (h : DataW.trod enc Tryd.prog W 0 (fun _ => true) true fuel 22 [.slice a0 len cap] = some (d, ps))
    (hsz : ∀ x ∈ d.weights Tryd.prog 22, x ≤ reachBytes) : Scr W (.slice a0 len cap) len := by
  rcases Deep.open_slice Tryd.underlying22 h with ⟨hc, _⟩ | ⟨a, len', cap', m, n, D, Pl, hc, _, hl, hm, hmm, hx, hall⟩
  · simp only [List.cons.injEq, Value.slice.injEq, and_true] at hc
    obtain ⟨rfl, rfl, rfl⟩ := hc
    exact ⟨by unfold maxLen; omega, Or.inl ⟨rfl, none, 0, rfl⟩⟩
  · simp only [List.cons.injEq, Value.slice.injEq, and_true] at hc
    obtain ⟨rfl, rfl, rfl⟩ := hc
    simp only [if_true] at hmm
    subst hmm
    simp only [Prod.mk.injEq] at hx
    refine ⟨by omega, ?_⟩
    by_cases h0 : len = 0
    · subst h0; exact Or.inl ⟨rfl, _, _, rfl⟩
    · right
      obtain ⟨b, off, spot⟩ := a
      have hspot : spot = none := by
        obtain ⟨cs', h1, _⟩ := hall 0 (by omega)
        rw [cells69] at h1
        obtain ⟨_, hlen, hcell⟩ := World.cells?_some h1
        have h2 := hcell 0 (by omega)
        rw [List.getElem?_eq_getElem (by omega)] at h2
        simpa [Addr.add] using World.cell?_spot h2
      subst hspot
      refine ⟨b, off, m, rfl, fun i hi => ?_⟩
      obtain ⟨cs', h1, h2⟩ := hall i (by omega)
      rw [cells69] at h1
      obtain ⟨_, hlen, hcell⟩ := World.cells?_some h1
      obtain ⟨xs, k, hk, hxy, _, hxl, hf⟩ := DataW.trod_struct Tryd.underlying53 h2
      have hw5 : ∀ x ∈ (D i).weights Tryd.prog 53, x ≤ reachBytes := fun x hxm => hsz x (by
        rw [hx.1]
        unfold DataW.weights
        rw [Tryd.underlying22]
        exact List.mem_cons_of_mem _ (List.mem_append_left _ (mem_weights (List.mem_map_of_mem (List.mem_range.2 hi)) hxm)))
      simp only [Prod.mk.injEq] at hxy
      rw [hxy.1] at hw5
      match xs, hxl, cs', hlen with
      | [y0, y1, y2, y3, y4, y5, y6], _, [v0, v1, v2, v3, v4, v5, v6, v7, v8, v9], _ =>
        have g0 := hf 0 { name := "Kind", type := 3, offset := 0, embedded := false, tag := "", pkgPath := "", byteOffset := 0 } rfl
        have g1 := hf 1 { name := "K", type := 3, offset := 1, embedded := false, tag := "", pkgPath := "", byteOffset := 8 } rfl
        have g2 := hf 2 { name := "Priority", type := 3, offset := 2, embedded := false, tag := "", pkgPath := "", byteOffset := 16 } rfl
        have g3 := hf 3 { name := "Most", type := 3, offset := 3, embedded := false, tag := "", pkgPath := "", byteOffset := 24 } rfl
        have g4 := hf 4 { name := "Type", type := 9, offset := 4, embedded := false, tag := "", pkgPath := "", byteOffset := 32 } rfl
        have g5 := hf 5 { name := "Text", type := 9, offset := 5, embedded := false, tag := "", pkgPath := "", byteOffset := 48 } rfl
        simp only [cells3, cells9, List.drop_zero, List.drop_succ_cons, List.take_succ_cons, List.take_zero, List.getElem?_cons_zero, List.getElem?_cons_succ] at g0 g1 g2 g3 g4 g5
        obtain ⟨z0, e0, _, _⟩ := DataW.trod_int Tryd.underlying3 g0
        obtain ⟨z1, e1, _, _⟩ := DataW.trod_int Tryd.underlying3 g1
        obtain ⟨z2, e2, _, _⟩ := DataW.trod_int Tryd.underlying3 g2
        obtain ⟨z3, e3, _, _⟩ := DataW.trod_int Tryd.underlying3 g3
        obtain ⟨s4, e4, _, _⟩ := DataW.trod_string Tryd.underlying9 g4
        obtain ⟨s5, e5, q5, _⟩ := DataW.trod_string Tryd.underlying9 g5
        simp only [List.cons.injEq, and_true] at e0 e1 e2 e3 e4 e5
        subst e0 e1 e2 e3 e4 e5
        have hs5 : s5.data.toList.length ≤ reachBytes := by
          have hw6 : (DataW.weightsEach Tryd.prog [3, 3, 3, 3, 9, 9, 51] ([y0, y1, y2, y3, y4, y5, y6].map (·.1))).all (· ≤ reachBytes) = true := by
            rw [List.all_eq_true]
            intro x hxm
            have := hw5 x (by
              unfold DataW.weights
              rw [Tryd.underlying53]
              exact hxm)
            simpa using this
          exact sized_string hw6 (j := 5) (t := 9) rfl (by rw [q5]; rfl)
        have cell : ∀ j v, j < 10 → [Value.int .i64 z0, .int .i64 z1, .int .i64 z2, .int .i64 z3, .string s4, .string s5, v6, v7, v8, v9][j]? = some v → W.cell? ⟨b, off + i * 10 + j, none⟩ = some v := fun j v hj hv => by
          have := hcell j hj
          rw [hv] at this
          have ea : ((⟨b, off, none⟩ : Addr).add (i * 10)).add j = ⟨b, off + i * 10 + j, none⟩ := by
            unfold Addr.add
            by_cases hi0 : i * 10 = 0
            · by_cases hj0 : j = 0 <;> simp [hi0, hj0]
            · by_cases hj0 : j = 0 <;> simp [hi0, hj0]
          rwa [ea] at this
        refine ⟨z0, z1, z2, z3, s4, s5, v6, v7, v8, v9, ⟨by simpa using cell 0 _ (by omega) rfl, cell 1 _ (by omega) rfl, cell 2 _ (by omega) rfl, cell 3 _ (by omega) rfl, cell 4 _ (by omega) rfl, cell 5 _ (by omega) rfl, cell 6 _ (by omega) rfl, cell 7 _ (by omega) rfl, cell 8 _ (by omega) rfl, cell 9 _ (by omega) rfl, ?_⟩⟩
        have : s5.size = s5.data.toList.length := by simp
        have hre : reachBytes = 140737488351232 := rfl
        omega
set_option maxRecDepth 100000 in
theorem turns_any (W : World) (S : Value) (len : Nat) (hS : Scr W S len) (hF : Firsts W) (hKi : Kinds W) (hSo : SortsA W) : Calls Tryd.prog 3 #[S] W fun e w' => e = .returned (.bool true) ∧ Below W.heap.size W w' := by
  have hw : 2 < W.heap.size := lt_cell (hSo.all 0 (by decide))
  have B1 : Below W.heap.size W (W.alloc (.cells #[.int .i64 1, .int .i64 2] 3)) := (Below.refl _ _).alloc (Nat.le_refl _) _
  have hcall := play_any (W.alloc (.cells #[.int .i64 1, .int .i64 2] 3)) S len W.heap.size (hS.below B1) (by simp) (by simp) (hF.below B1) (hKi.below B1) (hSo.below B1) (by have := B1.size; omega)
  clear hS hF hKi hSo
  go_enter Tryd.func3, Tryd.ntmps3
  go_wp2_with (go_at_call 5; refine hcall.mono ?_; rintro e w2 ⟨rfl, hb⟩)
  go_ret
  exact ⟨rfl, B1.trans (hb.mono B1.size)⟩
end Go.Proofs.YtoobbkckpabamaaDoor
