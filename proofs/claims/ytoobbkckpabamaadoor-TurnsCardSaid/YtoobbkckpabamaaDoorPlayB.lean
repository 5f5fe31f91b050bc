/- One step of Ops on the two Sessions: the lists are the same, and the two stand as before. Under: the tables at package level hold what the program lays. -/
import Derived.Test.YtoobbkckpabamaaDoorPlayA
namespace Go.Proofs.YtoobbkckpabamaaDoor
open Go Go.RowKit Go.Maps
theorem Inv.sess_turned {w w' : World} {B bb sb tb m1 m2 rb : Nat} {ts : List Opr} {D1 D2 : DataW Unit} (h : Inv w B bb sb tb m1 m2 rb ts D1 D2) (hS : Sess w' B sb tb m1 m2 D1 D2) (ht : Turned w w' [sb]) :
    Inv w' B bb sb tb m1 m2 rb ts D1 D2 ∧ Below B w w' := by
  have hls := h.ls
  have hlr := h.lr
  have hbt := h.sess.tab.bt
  have hl1 := h.sess.l1
  have hbl := ht.below (B := B) (Nat.le_of_lt h.sess.tab.lt) (by simp; omega)
  exact ⟨⟨ht.cell (a := ⟨bb, 0, none⟩) (by simp; omega) h.b0, ht.cell (a := ⟨bb, 1, none⟩) (by simp; omega) h.b1, hS, h.ref.kept ht (by simp; omega), h.corr, h.len, h.ls, h.lr, h.low, kinds_low h.kinds hbl h.low, sorts_low h.sorts hbl h.low⟩, hbl⟩
theorem own_cell {w : World} {B n g cap : Nat} {xs : List Value} (h : w.ownsRow B 94 3 (.slice (some ⟨g, 0, none⟩) n cap) n xs) (j : Nat) (u : Value) (hj : xs[j]? = some u) : w.cell? ⟨g, j, none⟩ = some u := by
  have := h.cells (g := g) rfl j u hj
  by_cases h0 : j = 0
  · subst h0; simpa [Addr.add] using this
  · simpa [Addr.add, h0] using this
set_option maxRecDepth 100000 in
set_option maxHeartbeats 4000000 in
theorem listed_any (B bb sb tb m1 m2 rb : Nat) (ts : List Opr) (D1 D2 : DataW Unit) (w : World) (h : Inv w B bb sb tb m1 m2 rb ts D1 D2) :
    Calls Tryd.prog 25 #[.pointer (some ⟨bb, 0, none⟩)] w fun e w' => (∃ v, e = .returned (.tuple #[v, .bool true])) ∧ Inv w' B bb sb tb m1 m2 rb ts D1 D2 ∧ Below B w w' := by
  have hops := ops_any B sb tb m1 m2 ts D1 D2 w h.sess h.corr h.len h.kinds h.low
  have b0 := h.b0
  have HI : Aside (Inv w B bb sb tb m1 m2 rb ts D1 D2) := h
  have hle := h.len
  clear h
  go_enter Tryd.func25, Tryd.ntmps25
  go_wp2_with (go_at_call 11; refine hops.mono ?_; rintro e w1 ⟨g, cap, rfl, ho, hS, ht⟩; have HJ : Aside (Inv w1 B bb sb tb m1 m2 rb ts D1 D2 ∧ Below B w w1) := HI.out.sess_turned hS ht; have b1 := HJ.out.1.b1; obtain ⟨v, hcv, -, hown⟩ := HJ.out.1.ref; clear hS ht hops b0; rcases hown.2 with ⟨rfl, hn⟩ | ⟨g2, cap2, cur, rfl, -, -, -, -, -, -⟩)
  · have : ts = [] := List.eq_nil_of_length_eq_zero hn
    subst this
    go_wp2
    refine wp_loop_once ?_
    go_wp2
    go_ret2
    exact ⟨⟨_, rfl⟩, HJ.out⟩
  · have hc1 : ∀ j u, (flat ts)[j]? = some u → w1.cell? ⟨g, j, none⟩ = some u := fun j u hj => own_cell ho j u hj
    have hc2 : ∀ j u, (flat ts)[j]? = some u → w1.cell? ⟨g2, j, none⟩ = some u := fun j u hj => own_cell hown j u hj
    clear ho hown
    go_loopw [5] (fun i wr => ∃ k n : Nat, k ≤ ts.length ∧ i = .int .i64 k ∧ wr = w1.drewN n) (fun i _ => ts.length - (intOf i).toNat)
    case atStart => exact ⟨0, 0, Nat.zero_le _, rfl, rfl⟩
    case round =>
      obtain ⟨k, n, hk, rfl, rfl⟩ := hrel
      by_cases hlt : k < ts.length
      · obtain ⟨f0, f1, f2⟩ := flat_get ts k hlt
        have g0 := hc1 _ _ f0
        have g1 := hc1 _ _ f1
        have g3 := hc1 _ _ f2
        have r0 := hc2 _ _ f0
        have r1 := hc2 _ _ f1
        have r3 := hc2 _ _ f2
        clear f0 f1 f2 hc1 hc2
        generalize ts[k].1 = p at g0 r0
        generalize ts[k].2.1 = kk at g1 r1
        generalize ts[k].2.2 = nn at g3 r3
        have hltz : (k : Int) < (ts.length : Int) := by omega
        have pk : (0 : Int) ≤ (k : Int) := by omega
        have ek : ((k : Int)).toNat = k := by omega
        go_wp2
        go_quiet (fail)
        go_wp2
        go_roundw
        case rel => exact ⟨k + 1, n + nq, by omega, by go_num, rfl⟩
        case measure => simp [intOf]; omega
      · have : k = ts.length := by omega
        subst this
        go_wp2
        go_ret2
        have hd : Below w1.heap.size w1 (w1.drewN n) := ⟨rfl, rfl, rfl, Nat.le_refl _, fun _ _ => rfl⟩
        exact ⟨⟨_, rfl⟩, HJ.out.1.fresh hd, HJ.out.2.trans (hd.mono (Nat.le_of_lt HJ.out.1.sess.tab.lt))⟩
theorem ret_true (b : Bool) (h : b = true) : Ending.returned (.bool b) = .returned (.bool true) := by rw [h]
set_option maxRecDepth 100000 in
set_option maxHeartbeats 4000000 in
theorem step_op (B bb sb tb m1 m2 rb : Nat) (ts : List Opr) (D1 D2 : DataW Unit) (kk p mo : Int) (k n : ByteArray) (a6 a7 a8 a9 : Value) (w : World) (h : Inv w B bb sb tb m1 m2 rb ts D1 D2) (hs : n.size < 2 ^ 60) :
    Calls Tryd.prog 10 #[.pointer (some ⟨bb, 0, none⟩), .agg #[.int .i64 1, .int .i64 kk, .int .i64 p, .int .i64 mo, .string k, .string n, a6, a7, a8, a9]] w fun e w' => e = .returned (.bool true) ∧ Fin w w' B bb sb tb m1 m2 rb := by
  have B0 : Below w.heap.size w (w.alloc (.cells #[.int .i64 1, .int .i64 kk, .int .i64 p, .int .i64 mo, .string k, .string n, a6, a7, a8, a9] 53)) := (Below.refl _ _).alloc (Nat.le_refl _) _
  have hBl : B ≤ w.heap.size := Nat.le_of_lt h.sess.tab.lt
  have hcall := turned_any B bb sb tb m1 m2 rb ts D1 D2 1 kk p mo k n a6 a7 a8 a9 _ (h.fresh B0) hs
  clear h
  go_enter Tryd.func10, Tryd.ntmps10
  go_wp2_with (go_at_call 24; refine hcall.mono ?_; rintro e w1 ⟨rfl, hF⟩)
  go_ret
  obtain ⟨ts', E1, E2, hI, hb⟩ := hF
  exact ⟨rfl, ts', E1, E2, hI, (B0.mono hBl).trans hb⟩
set_option maxRecDepth 100000 in
set_option maxHeartbeats 4000000 in
theorem step_ops (B bb sb tb m1 m2 rb : Nat) (ts : List Opr) (D1 D2 : DataW Unit) (kk p mo : Int) (k n : ByteArray) (a6 a7 a8 a9 : Value) (w : World) (h : Inv w B bb sb tb m1 m2 rb ts D1 D2) :
    Calls Tryd.prog 10 #[.pointer (some ⟨bb, 0, none⟩), .agg #[.int .i64 2, .int .i64 kk, .int .i64 p, .int .i64 mo, .string k, .string n, a6, a7, a8, a9]] w fun e w' => e = .returned (.bool true) ∧ Fin w w' B bb sb tb m1 m2 rb := by
  have B0 : Below w.heap.size w (w.alloc (.cells #[.int .i64 2, .int .i64 kk, .int .i64 p, .int .i64 mo, .string k, .string n, a6, a7, a8, a9] 53)) := (Below.refl _ _).alloc (Nat.le_refl _) _
  have hBl : B ≤ w.heap.size := Nat.le_of_lt h.sess.tab.lt
  have hcall := listed_any B bb sb tb m1 m2 rb ts D1 D2 _ (h.fresh B0)
  clear h
  go_enter Tryd.func10, Tryd.ntmps10
  go_wp2_with (go_at_call 25; refine hcall.mono ?_; rintro e w1 ⟨⟨v, rfl⟩, hI, hb⟩)
  go_ret
  exact ⟨rfl, ts, D1, D2, hI, (B0.mono hBl).trans hb⟩
end Go.Proofs.YtoobbkckpabamaaDoor
