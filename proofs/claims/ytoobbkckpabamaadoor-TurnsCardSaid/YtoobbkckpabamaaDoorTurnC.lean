/- The document's own Session (package creedref): Turn takes an operator away. -/
import Derived.Test.YtoobbkckpabamaaDoorTurnB
namespace Go.Proofs.YtoobbkckpabamaaDoor
open Go Go.RowKit
theorem own_slice {w : World} {B e s n : Nat} {v : Value} {xs : List Value} (h : w.ownsRow B e s v n xs) : ∃ a m c, v = .slice a m c := by
  rcases h.2 with ⟨rfl, _⟩ | ⟨g, cap, cur, rfl, _⟩
  · exact ⟨_, _, _, rfl⟩
  · exact ⟨_, _, _, rfl⟩
theorem gone_end {ts : List Opr} {j n : Nat} {w w3 : World} {sb : Nat} {v l3 : Value} {xs : List Value} (hj : j < ts.length)
    (hsb : sb < w.heap.size) (hc : w.cell? ⟨sb, 0, none⟩ = some v) (hf : w.frozen? ⟨sb, 0, none⟩ = false) (hown3 : w3.ownsRow w.heap.size 94 3 l3 n xs) (hW3 : Below w.heap.size w w3) (hn : n + 1 = ts.length)
    (hx : xs = (flat ts).take (j * 3) ++ (flat ts).drop ((j + 1) * 3)) :
    SRef sb (w3.setCell ⟨sb, 0, none⟩ l3) (ts.eraseIdx j) ∧ w.grownBy (w3.setCell ⟨sb, 0, none⟩ l3) (some sb) := by
  have c3 := (hW3.cell (p := ⟨sb, 0, none⟩) hsb).trans hc
  have f3 := (hW3.frozen (p := ⟨sb, 0, none⟩) hsb).trans hf
  refine ⟨⟨l3, World.cell?_setCell_same w3 _ _ c3, by simp [f3], ?_⟩, grown_set hW3 _ _⟩
  have hlt : (⟨sb, 0, none⟩ : Addr).block < w.heap.size := hsb
  have h1 := (ownsRow_setCell_below hown3 hlt l3).mono (base' := sb + 1) (by omega)
  rw [hx, flat_take, flat_drop, show n = (ts.eraseIdx j).length by rw [List.length_eraseIdx_of_lt hj]; omega] at h1
  rw [show flat (ts.eraseIdx j) = flat (ts.take j) ++ flat (ts.drop (j + 1)) by rw [List.eraseIdx_eq_take_drop_succ]; simp [flat, List.flatMap_append]]
  exact h1
theorem findAt_lt {ts : List Opr} {nm : ByteArray} {fr : Bool} {k : Nat} (h : findAt ts nm fr = some k) : k < ts.length := by
  unfold findAt at h
  rw [List.findIdx?_eq_some_iff_getElem] at h
  exact h.1
set_option maxRecDepth 100000 in
set_option maxHeartbeats 4000000 in
theorem turn_gone0 (sb : Nat) (ts : List Opr) (k n : ByteArray) (j : Nat) (w : World) (h : SRef sb w ts) (hs : n.size < 2 ^ 60) (hl : ts.length ≤ 1000) (hok : okTurn 0 k n = true)
    (hno : findAt ts n (frontB k) = some j) :
    Calls Tryd.prog 38 #[.pointer (some ⟨sb, 0, none⟩), .int .i64 0, .string k, .string n] w fun e w' => e = .returned (.int .i64 0) ∧ SRef sb w' (ts.eraseIdx j) ∧ w.grownBy w' (some sb) := by
  obtain ⟨d1, d2, d3, d4, e1, e2, e3, e4, e5⟩ := okTurn_parts hok
  have hj := findAt_lt hno
  obtain ⟨v, hc, hf, hown⟩ := h
  have hsb := lt_cell hc
  simp only at hsb
  rcases hown.2 with ⟨rfl, hn⟩ | ⟨g, cap, cur, rfl, hbg, hg, hnc, hcm, hcs, htake⟩
  · omega
  · have hcell : ∀ j u, (flat ts)[j]? = some u → w.cell? ⟨g, j, none⟩ = some u := by
      intro j u hj
      have := hown.cells (g := g) rfl j u hj
      by_cases h0 : j = 0
      · subst h0; simpa [Addr.add] using this
      · simpa [Addr.add, h0] using this
    have hgl : g < w.heap.size := by have := hown.lt g rfl; exact this.2
    obtain ⟨i0, hi, hz0, hz1, hz2⟩ := info_parts info86
    have htl : ((flat ts).take (j * 3)).length = j * 3 := by rw [List.length_take, flat_length]; omega
    have hdl : ((flat ts).drop ((j + 1) * 3)).length = (ts.length - (j + 1)) * 3 := by rw [List.length_drop, flat_length]; omega
    have hnA : ∀ (i : Nat) (u : Value), ((flat ts).take (j * 3))[i]? = some u → w.cell? ((⟨g, 0, none⟩ : Addr).add i) = some u := fun i u h => by
      have h' : (flat ts)[i]? = some u := by
        rw [List.getElem?_take] at h
        split at h
        · exact h
        · cases h
      have := hcell i u h'
      by_cases h0 : i = 0
      · subst h0; simpa [Addr.add] using this
      · simpa [Addr.add, h0] using this
    have hdr : ∀ (i : Nat) (u : Value), ((flat ts).drop ((j + 1) * 3))[i]? = some u → w.cell? ((⟨g, (j + 1) * 3, none⟩ : Addr).add i) = some u := fun i u h => by
      have h' : (flat ts)[(j + 1) * 3 + i]? = some u := by rw [List.getElem?_drop] at h; exact h
      have := hcell _ u h'
      by_cases h0 : i = 0
      · subst h0; simpa [Addr.add] using this
      · simpa [Addr.add, h0] using this
    clear hcell htake
    go_enter Tryd.func38, Tryd.ntmps38
    by_cases hck : cap = j + 1
    all_goals
     go_wp2_with (first
         | (go_at_call 50; refine (kind_any _ _).mono ?_; rintro e w' ⟨rfl, hw⟩; have hw := hw.symm; subst hw)
         | (go_at_call 51; refine (name_any _ _ hs).mono ?_; rintro e w' ⟨rfl, hw⟩; have hw := hw.symm; subst hw)
         | (go_at_call 53; refine (front_any _ _).mono ?_; rintro e w' ⟨rfl, hw⟩; have hw := hw.symm; subst hw)
         | (go_at_call 52; refine (find_any sb _ ts _ _ _ hc hown hl).mono ?_; rw [hno, show atI (some j) = (j : Int) from rfl]; rintro e w' ⟨rfl, hw⟩; have hw := hw.symm; subst hw)
         | (at_builtin; refine wpList_append_own _ rfl (.tmp 72) (.tmp 78) 55 rfl w.heap.size 94 i0 _ 3 40 Tryd.underlying55 hi hz0 hz1 hz2 rfl (by decide) (.slice none 0 0) 0 [] rfl (World.ownsRow_nil _ _ _ _) ⟨g, 0, none⟩ j _ ((flat ts).take (j * 3)) rfl htl hnA (one_take ts _) (by unfold maxLen; omega) (by omega) (by simp) ?_; intro l1 w1 hown1 hgrow1 _; simp only [Nat.zero_add, List.nil_append] at hown1; have hW1 : Below w.heap.size w w1 := (Below.refl _ _).grown hgrow1 (Nat.le_refl _) (fun k hk => by cases hk); obtain ⟨a1, m1, k1, rfl⟩ := own_slice hown1; have c1 := (hW1.cell (p := ⟨sb, 0, none⟩) hsb).trans hc; have z1 := hgrow1.size)
         | (at_builtin; refine wpList_append_own _ rfl (.tmp 80) (.tmp 87) 55 rfl w.heap.size 94 i0 _ 3 40 Tryd.underlying55 hi hz0 hz1 hz2 rfl (by decide) _ j _ rfl hown1 ⟨g, (j + 1) * 3, none⟩ (ts.length - (j + 1)) (cap - (j + 1)) ((flat ts).drop ((j + 1) * 3)) rfl hdl (fun i u hi => (hW1.cell (p := (⟨g, (j + 1) * 3, none⟩ : Addr).add i) (by rw [add_block]; exact hgl)).trans (hdr i u hi)) (one_drop ts _) (by unfold maxLen; omega) (by omega) (by omega) ?_; intro l3 w3 hown3 hgrow3 _; obtain ⟨a3, m3, k3, rfl⟩ := own_slice hown3; have hW3 := hW1.grown hgrow3 hW1.size (fun q hq => (hown1.lt q hq).1); have c3 := (hW3.cell (p := ⟨sb, 0, none⟩) hsb).trans hc; have f3 := (hW3.frozen (p := ⟨sb, 0, none⟩) hsb).trans hf)
         | (at_builtin; refine wpList_append_own _ rfl (.tmp 80) (.tmp 87) 55 rfl w.heap.size 94 i0 _ 3 40 Tryd.underlying55 hi hz0 hz1 hz2 rfl (by decide) _ j _ rfl hown1 ⟨g, 0, none⟩ (ts.length - (j + 1)) _ [] rfl (by simp; omega) (fun i u hi => by simp at hi) (fun u hu => by cases hu) (by unfold maxLen; omega) (by omega) (by omega) ?_; intro l3 w3 hown3 hgrow3 _; obtain ⟨a3, m3, k3, rfl⟩ := own_slice hown3; have hW3 := hW1.grown hgrow3 hW1.size (fun q hq => (hown1.lt q hq).1); have c3 := (hW3.cell (p := ⟨sb, 0, none⟩) hsb).trans hc; have f3 := (hW3.frozen (p := ⟨sb, 0, none⟩) hsb).trans hf))
    all_goals go_ret
    all_goals exact ⟨rfl, gone_end hj hsb hc hf hown3 hW3 (by omega) (by first | rfl | (rw [List.drop_eq_nil_of_le (by rw [flat_length]; omega)]))⟩
set_option maxRecDepth 100000 in
set_option maxHeartbeats 4000000 in
theorem turn_swap (sb : Nat) (ts : List Opr) (p : Int) (k n : ByteArray) (j : Nat) (w : World) (h : SRef sb w ts) (hs : n.size < 2 ^ 60) (hl : ts.length ≤ 1000) (hok : okTurn p k n = true) (hp : 0 < p)
    (hno : findAt ts n (frontB k) = some j) :
    Calls Tryd.prog 38 #[.pointer (some ⟨sb, 0, none⟩), .int .i64 p, .string k, .string n] w fun e w' => e = .returned (.int .i64 0) ∧ ∃ w3, w.grownBy w3 (some sb) ∧ PutPost sb (ts.eraseIdx j) (p, k, n) w3 w' := by
  obtain ⟨d1, d2, d3, d4, e1, e2, e3, e4, e5⟩ := okTurn_parts hok
  have hj := findAt_lt hno
  have d5 : ¬ p < 0 := by omega
  have d6 : ¬ 1200 < p := by omega
  obtain ⟨v, hc, hf, hown⟩ := h
  have hsb := lt_cell hc
  simp only at hsb
  rcases hown.2 with ⟨rfl, hn⟩ | ⟨g, cap, cur, rfl, hbg, hg, hnc, hcm, hcs, htake⟩
  · omega
  · have hcell : ∀ j u, (flat ts)[j]? = some u → w.cell? ⟨g, j, none⟩ = some u := by
      intro j u hj
      have := hown.cells (g := g) rfl j u hj
      by_cases h0 : j = 0
      · subst h0; simpa [Addr.add] using this
      · simpa [Addr.add, h0] using this
    have hgl : g < w.heap.size := by have := hown.lt g rfl; exact this.2
    obtain ⟨i0, hi, hz0, hz1, hz2⟩ := info_parts info86
    have htl : ((flat ts).take (j * 3)).length = j * 3 := by rw [List.length_take, flat_length]; omega
    have hdl : ((flat ts).drop ((j + 1) * 3)).length = (ts.length - (j + 1)) * 3 := by rw [List.length_drop, flat_length]; omega
    have hnA : ∀ (i : Nat) (u : Value), ((flat ts).take (j * 3))[i]? = some u → w.cell? ((⟨g, 0, none⟩ : Addr).add i) = some u := fun i u h => by
      have h' : (flat ts)[i]? = some u := by
        rw [List.getElem?_take] at h
        split at h
        · exact h
        · cases h
      have := hcell i u h'
      by_cases h0 : i = 0
      · subst h0; simpa [Addr.add] using this
      · simpa [Addr.add, h0] using this
    have hdr : ∀ (i : Nat) (u : Value), ((flat ts).drop ((j + 1) * 3))[i]? = some u → w.cell? ((⟨g, (j + 1) * 3, none⟩ : Addr).add i) = some u := fun i u h => by
      have h' : (flat ts)[(j + 1) * 3 + i]? = some u := by rw [List.getElem?_drop] at h; exact h
      have := hcell _ u h'
      by_cases h0 : i = 0
      · subst h0; simpa [Addr.add] using this
      · simpa [Addr.add, h0] using this
    clear hcell htake
    go_enter Tryd.func38, Tryd.ntmps38
    by_cases hck : cap = j + 1
    all_goals
     go_wp2_with (first
         | (go_at_call 50; refine (kind_any _ _).mono ?_; rintro e w' ⟨rfl, hw⟩; have hw := hw.symm; subst hw)
         | (go_at_call 51; refine (name_any _ _ hs).mono ?_; rintro e w' ⟨rfl, hw⟩; have hw := hw.symm; subst hw)
         | (go_at_call 53; refine (front_any _ _).mono ?_; rintro e w' ⟨rfl, hw⟩; have hw := hw.symm; subst hw)
         | (go_at_call 52; refine (find_any sb _ ts _ _ _ hc hown hl).mono ?_; rw [hno, show atI (some j) = (j : Int) from rfl]; rintro e w' ⟨rfl, hw⟩; have hw := hw.symm; subst hw)
         | (at_builtin; refine wpList_append_own _ rfl (.tmp 72) (.tmp 78) 55 rfl w.heap.size 94 i0 _ 3 40 Tryd.underlying55 hi hz0 hz1 hz2 rfl (by decide) (.slice none 0 0) 0 [] rfl (World.ownsRow_nil _ _ _ _) ⟨g, 0, none⟩ j _ ((flat ts).take (j * 3)) rfl htl hnA (one_take ts _) (by unfold maxLen; omega) (by omega) (by simp) ?_; intro l1 w1 hown1 hgrow1 _; simp only [Nat.zero_add, List.nil_append] at hown1; have hW1 : Below w.heap.size w w1 := (Below.refl _ _).grown hgrow1 (Nat.le_refl _) (fun k hk => by cases hk); obtain ⟨a1, m1, k1, rfl⟩ := own_slice hown1; have c1 := (hW1.cell (p := ⟨sb, 0, none⟩) hsb).trans hc; have z1 := hgrow1.size)
         | (at_builtin; refine wpList_append_own _ rfl (.tmp 80) (.tmp 87) 55 rfl w.heap.size 94 i0 _ 3 40 Tryd.underlying55 hi hz0 hz1 hz2 rfl (by decide) _ j _ rfl hown1 ⟨g, (j + 1) * 3, none⟩ (ts.length - (j + 1)) (cap - (j + 1)) ((flat ts).drop ((j + 1) * 3)) rfl hdl (fun i u hi => (hW1.cell (p := (⟨g, (j + 1) * 3, none⟩ : Addr).add i) (by rw [add_block]; exact hgl)).trans (hdr i u hi)) (one_drop ts _) (by unfold maxLen; omega) (by omega) (by omega) ?_; intro l3 w3 hown3 hgrow3 _; obtain ⟨a3, m3, k3, rfl⟩ := own_slice hown3; have hW3 := hW1.grown hgrow3 hW1.size (fun q hq => (hown1.lt q hq).1); have c3 := (hW3.cell (p := ⟨sb, 0, none⟩) hsb).trans hc; have f3 := (hW3.frozen (p := ⟨sb, 0, none⟩) hsb).trans hf)
         | (at_builtin; refine wpList_append_own _ rfl (.tmp 80) (.tmp 87) 55 rfl w.heap.size 94 i0 _ 3 40 Tryd.underlying55 hi hz0 hz1 hz2 rfl (by decide) _ j _ rfl hown1 ⟨g, 0, none⟩ (ts.length - (j + 1)) _ [] rfl (by simp; omega) (fun i u hi => by simp at hi) (fun u hu => by cases hu) (by unfold maxLen; omega) (by omega) (by omega) ?_; intro l3 w3 hown3 hgrow3 _; obtain ⟨a3, m3, k3, rfl⟩ := own_slice hown3; have hW3 := hW1.grown hgrow3 hW1.size (fun q hq => (hown1.lt q hq).1); have c3 := (hW3.cell (p := ⟨sb, 0, none⟩) hsb).trans hc; have f3 := (hW3.frozen (p := ⟨sb, 0, none⟩) hsb).trans hf)
         | (go_at_call 39; obtain ⟨⟨v4, hc4, hf4, ho4⟩, hB4⟩ := gone_end hj hsb hc hf hown3 hW3 (by omega) (by first | rfl | (rw [List.drop_eq_nil_of_le (by rw [flat_length]; omega)])); refine (put_any sb _ (ts.eraseIdx j) (p, k, n) _ hc4 hf4 ho4 (by rw [List.length_eraseIdx_of_lt hj]; omega)).mono ?_; rintro e w5 ⟨rfl, hP⟩))
    all_goals go_ret
    all_goals exact ⟨rfl, _, hB4, hP⟩
end Go.Proofs.YtoobbkckpabamaaDoor
