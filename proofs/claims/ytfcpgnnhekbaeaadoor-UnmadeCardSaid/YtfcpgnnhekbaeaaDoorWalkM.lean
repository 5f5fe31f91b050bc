/- What the row's condition on the package's three tables gives the walks: their cells. -/
import Derived.Test.YtfcpgnnhekbaeaaDoorWalkL
import Derived.Test.YtfcpgnnhekbaeaaDoorRows
import Derived.ProofKit
import Derived.LaidMore
import Derived.OpenShut
import Derived.Deep.Strs
namespace Go.Proofs.YtfcpgnnhekbaeaaDoor
open Go Go.RowKit Go.Maps
def laid3 : List (String × DataW Unit) := [("creed/signs.sorts", Rows.laid_creed_signs_sorts), ("creed/operators.kindNames", Rows.laid_creed_operators_kindNames), ("creed/operators.first", Rows.laid_creed_operators_first)]
theorem gFirst : Tryd.prog.globalNamed "creed/operators.first" = some 0 := by kernel_rfl
theorem gKinds : Tryd.prog.globalNamed "creed/operators.kindNames" = some 1 := by kernel_rfl
theorem gSorts : Tryd.prog.globalNamed "creed/signs.sorts" = some 2 := by kernel_rfl
theorem tFirst : (Tryd.prog.globals[0]?).map (·.type) = some 93 := by kernel_rfl
theorem tKinds : (Tryd.prog.globals[1]?).map (·.type) = some 102 := by kernel_rfl
theorem tSorts : (Tryd.prog.globals[2]?).map (·.type) = some 116 := by kernel_rfl
theorem cells9 : Tryd.prog.cellsOf 9 = 1 := by kernel_rfl
theorem cells3 : Tryd.prog.cellsOf 3 = 1 := by kernel_rfl
theorem cells79 : Tryd.prog.cellsOf 79 = 3 := by kernel_rfl
theorem cells112 : Tryd.prog.cellsOf 112 = 1 := by kernel_rfl
section
variable {enc : TypeId × Value → Unit} {w : World} {base : Nat} {sp : Nat → Bool} {held : Bool}
theorem elem_at {fuel n : Nat} {t e : TypeId} {cs : List Value} {ds : List (DataW Unit)} {p : List MemPlace} (ht : Tryd.prog.underlying t = some (.array n e)) (h : DataW.trod enc Tryd.prog w base sp held fuel t cs = some (.agg ds, p)) (i : Nat) (hi : i < n) {d : DataW Unit} (hd : ds[i]? = some d) :
    ∃ m q, DataW.trod enc Tryd.prog w base sp held m e ((cs.drop (i * Tryd.prog.cellsOf e)).take (Tryd.prog.cellsOf e)) = some (d, q) := by
  obtain ⟨xs, m, _, hx, _, hxl, hel⟩ := DataW.trod_array ht h
  have h1 := hel i hi
  simp only [Prod.mk.injEq, DataW.agg.injEq] at hx
  obtain ⟨y, hy⟩ : ∃ y, xs[i]? = some y := ⟨xs[i]'(by omega), List.getElem?_eq_getElem (by omega)⟩
  rw [hy] at h1
  have h2 : (xs.map (·.1))[i]? = some y.1 := by simp [hy]
  rw [← hx.1, hd] at h2
  cases h2
  exact ⟨m, y.2, h1⟩
theorem one_of_take {cs : List Value} {i : Nat} {v : Value} (h : (cs.drop i).take 1 = [v]) : cs[i]? = some v := by
  have := congrArg (·[0]?) h
  simpa [List.getElem?_take, List.getElem?_drop] using this
theorem str_of {s : ByteArray} {l : List UInt8} (h : s.data.toList = l) : s = ⟨l.toArray⟩ := by
  apply ByteArray.ext
  rw [← h]
theorem row_cells {fuel : Nat} {cs : List Value} {a : Int} {b c : List UInt8} {q : List MemPlace} (h : DataW.trod enc Tryd.prog w base sp held fuel 79 cs = some (.agg [.lit (.int .i64 a), .lit (.string b), .lit (.string c)], q)) :
    cs[0]? = some (.int .i64 a) ∧ cs[1]? = some (.string ⟨b.toArray⟩) ∧ cs[2]? = some (.string ⟨c.toArray⟩) := by
  obtain ⟨y0, y1, y2, n, hx, _, h0, h1, h2⟩ := Deep.trod_struct3 Tryd.underlying79 h
  simp only [Prod.mk.injEq, DataW.agg.injEq, List.cons.injEq, and_true] at hx
  obtain ⟨⟨e0, e1, e2⟩, _⟩ := hx
  simp only [cells3, cells9] at h0 h1 h2
  obtain ⟨z, c0, r0, _⟩ := DataW.trod_int Tryd.underlying3 h0
  obtain ⟨s, c1, r1, _⟩ := DataW.trod_string Tryd.underlying9 h1
  obtain ⟨u, c2, r2, _⟩ := DataW.trod_string Tryd.underlying9 h2
  rw [r0] at e0; rw [r1] at e1; rw [r2] at e2
  simp only [DataW.lit.injEq, Lit.int.injEq, true_and, Lit.string.injEq] at e0 e1 e2
  subst e0
  rw [str_of e1.symm] at c1
  rw [str_of e2.symm] at c2
  exact ⟨one_of_take c0, one_of_take c1, one_of_take c2⟩
end
set_option maxRecDepth 100000 in
theorem of_laid {W : World} (h : laidMetH Tryd.prog laid3 W) : LaidW W := by
  rw [MakeChecks.laidMetH_plain _ _ _ (by kernel_rfl)] at h
  obtain ⟨ps, ⟨g0, t0, cs0, f0, p0, q0, hg0, ht0, hv0, hd0, ⟨g1, t1, cs1, f1, p1, q1, hg1, ht1, hv1, hd1, ⟨g2, t2, cs2, f2, p2, q2, hg2, ht2, hv2, hd2, _, _⟩, _⟩, _⟩, _, _⟩ := h
  obtain rfl := Option.some.inj (gSorts.symm.trans hg0)
  obtain rfl := Option.some.inj (gKinds.symm.trans hg1)
  obtain rfl := Option.some.inj (gFirst.symm.trans hg2)
  obtain rfl := Option.some.inj (tSorts.symm.trans ht0)
  obtain rfl := Option.some.inj (tKinds.symm.trans ht1)
  obtain rfl := Option.some.inj (tFirst.symm.trans ht2)
  refine ⟨?_, ?_, ?_⟩
  · have hrow : ∀ k, k < 14 → ∀ a b c, (match (Rows.laid_creed_operators_first : DataW Unit) with | .agg l => l | _ => [])[k]? = some (.agg [.lit (.int .i64 a), .lit (.string b), .lit (.string c)]) →
        W.cell? ⟨0, k * 3, none⟩ = some (.int .i64 a) ∧ W.cell? ⟨0, k * 3 + 1, none⟩ = some (.string ⟨b.toArray⟩) ∧ W.cell? ⟨0, k * 3 + 2, none⟩ = some (.string ⟨c.toArray⟩) := by
      intro k hk a b c hd
      obtain ⟨m, q, hm⟩ := elem_at Tryd.underlying93 hd2 k hk hd
      rw [cells79] at hm
      obtain ⟨r0, r1, r2⟩ := row_cells hm
      simp only [List.getElem?_take, List.getElem?_drop] at r0 r1 r2
      refine ⟨?_, ?_, ?_⟩
      · rw [World.var?_cell hg2 hv2, ← Array.getElem?_toList]; simpa using r0
      · rw [World.var?_cell hg2 hv2, ← Array.getElem?_toList]; simpa using r1
      · rw [World.var?_cell hg2 hv2, ← Array.getElem?_toList]; simpa using r2
    intro i hi
    match i, hi with
    | 0, _ => exact (hrow 0 (by decide) 1200 [120, 102, 120] [58, 45] rfl).1
    | 1, _ => exact (hrow 0 (by decide) 1200 [120, 102, 120] [58, 45] rfl).2.1
    | 2, _ => exact (hrow 0 (by decide) 1200 [120, 102, 120] [58, 45] rfl).2.2
    | 3, _ => exact (hrow 1 (by decide) 1100 [120, 102, 121] [59] rfl).1
    | 4, _ => exact (hrow 1 (by decide) 1100 [120, 102, 121] [59] rfl).2.1
    | 5, _ => exact (hrow 1 (by decide) 1100 [120, 102, 121] [59] rfl).2.2
    | 6, _ => exact (hrow 2 (by decide) 1000 [120, 102, 121] [44] rfl).1
    | 7, _ => exact (hrow 2 (by decide) 1000 [120, 102, 121] [44] rfl).2.1
    | 8, _ => exact (hrow 2 (by decide) 1000 [120, 102, 121] [44] rfl).2.2
    | 9, _ => exact (hrow 3 (by decide) 900 [102, 121] [92] rfl).1
    | 10, _ => exact (hrow 3 (by decide) 900 [102, 121] [92] rfl).2.1
    | 11, _ => exact (hrow 3 (by decide) 900 [102, 121] [92] rfl).2.2
    | 12, _ => exact (hrow 4 (by decide) 700 [120, 102, 120] [61] rfl).1
    | 13, _ => exact (hrow 4 (by decide) 700 [120, 102, 120] [61] rfl).2.1
    | 14, _ => exact (hrow 4 (by decide) 700 [120, 102, 120] [61] rfl).2.2
    | 15, _ => exact (hrow 5 (by decide) 700 [120, 102, 120] [60] rfl).1
    | 16, _ => exact (hrow 5 (by decide) 700 [120, 102, 120] [60] rfl).2.1
    | 17, _ => exact (hrow 5 (by decide) 700 [120, 102, 120] [60] rfl).2.2
    | 18, _ => exact (hrow 6 (by decide) 700 [120, 102, 120] [62] rfl).1
    | 19, _ => exact (hrow 6 (by decide) 700 [120, 102, 120] [62] rfl).2.1
    | 20, _ => exact (hrow 6 (by decide) 700 [120, 102, 120] [62] rfl).2.2
    | 21, _ => exact (hrow 7 (by decide) 700 [120, 102, 120] [105, 115] rfl).1
    | 22, _ => exact (hrow 7 (by decide) 700 [120, 102, 120] [105, 115] rfl).2.1
    | 23, _ => exact (hrow 7 (by decide) 700 [120, 102, 120] [105, 115] rfl).2.2
    | 24, _ => exact (hrow 8 (by decide) 500 [121, 102, 120] [43] rfl).1
    | 25, _ => exact (hrow 8 (by decide) 500 [121, 102, 120] [43] rfl).2.1
    | 26, _ => exact (hrow 8 (by decide) 500 [121, 102, 120] [43] rfl).2.2
    | 27, _ => exact (hrow 9 (by decide) 500 [121, 102, 120] [45] rfl).1
    | 28, _ => exact (hrow 9 (by decide) 500 [121, 102, 120] [45] rfl).2.1
    | 29, _ => exact (hrow 9 (by decide) 500 [121, 102, 120] [45] rfl).2.2
    | 30, _ => exact (hrow 10 (by decide) 400 [121, 102, 120] [42] rfl).1
    | 31, _ => exact (hrow 10 (by decide) 400 [121, 102, 120] [42] rfl).2.1
    | 32, _ => exact (hrow 10 (by decide) 400 [121, 102, 120] [42] rfl).2.2
    | 33, _ => exact (hrow 11 (by decide) 400 [121, 102, 120] [47] rfl).1
    | 34, _ => exact (hrow 11 (by decide) 400 [121, 102, 120] [47] rfl).2.1
    | 35, _ => exact (hrow 11 (by decide) 400 [121, 102, 120] [47] rfl).2.2
    | 36, _ => exact (hrow 12 (by decide) 200 [120, 102, 121] [94] rfl).1
    | 37, _ => exact (hrow 12 (by decide) 200 [120, 102, 121] [94] rfl).2.1
    | 38, _ => exact (hrow 12 (by decide) 200 [120, 102, 121] [94] rfl).2.2
    | 39, _ => exact (hrow 13 (by decide) 200 [102, 121] [45] rfl).1
    | 40, _ => exact (hrow 13 (by decide) 200 [102, 121] [45] rfl).2.1
    | n + 42, hi => exact absurd hi (by omega)
    | 41, _ => exact (hrow 13 (by decide) 200 [102, 121] [45] rfl).2.2
  · have hk : ∀ k, k < 7 → ∀ b, (match (Rows.laid_creed_operators_kindNames : DataW Unit) with | .agg l => l | _ => [])[k]? = some (.lit (.string b)) → W.cell? ⟨1, k, none⟩ = some (.string ⟨b.toArray⟩) := by
      intro k hk b hd
      obtain ⟨m, q, hm⟩ := elem_at Tryd.underlying102 hd1 k hk hd
      rw [cells9, Nat.mul_one] at hm
      obtain ⟨s, hc, hr, _⟩ := DataW.trod_string Tryd.underlying9 hm
      simp only [Prod.mk.injEq, DataW.lit.injEq, Lit.string.injEq] at hr
      rw [str_of hr.1.symm] at hc
      rw [World.var?_cell hg1 hv1, ← Array.getElem?_toList]
      exact one_of_take hc
    exact ⟨hk 0 (by decide) [102, 121] rfl, hk 1 (by decide) [102, 120] rfl, hk 2 (by decide) [120, 102, 120] rfl, hk 3 (by decide) [120, 102, 121] rfl, hk 4 (by decide) [121, 102, 120] rfl, hk 5 (by decide) [121, 102] rfl, hk 6 (by decide) [120, 102] rfl⟩
  · obtain ⟨m, q, hm⟩ := elem_at Tryd.underlying116 hd0 97 (by decide) (d := .lit (.int .u8 6)) rfl
    rw [cells112, Nat.mul_one] at hm
    obtain ⟨z, hc, hr, _⟩ := DataW.trod_int Tryd.underlying112 hm
    simp only [Prod.mk.injEq, DataW.lit.injEq, Lit.int.injEq, true_and] at hr
    rw [← hr.1] at hc
    show W.cell? ⟨2, 97, none⟩ = _
    rw [World.var?_cell hg0 hv0, ← Array.getElem?_toList]
    exact one_of_take hc
end Go.Proofs.YtfcpgnnhekbaeaaDoor
