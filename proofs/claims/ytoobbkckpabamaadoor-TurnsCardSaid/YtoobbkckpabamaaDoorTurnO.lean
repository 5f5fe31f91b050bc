/- One step of Op on the two Sessions: the answers are the same, and the two stand as before. Under: the tables at package level hold what the program lays. -/
import Derived.Test.YtoobbkckpabamaaDoorTurnN
import Derived.Deep.Cut
namespace Go.Proofs.YtoobbkckpabamaaDoor
open Go Go.RowKit Go.Maps
/-- what Op leaves behind it, the document's Session not asked yet -/
def Mid (W w1 : World) (B bb sb tb m1 m2 rb : Nat) (ts : List Opr) (p : Int) (k n : ByteArray) (o : Nat) : Prop :=
  ∃ D1' D2', Sess w1 B sb tb m1 m2 D1' D2' ∧ (∀ ts', TurnTo ts p k n ts' → Corr ts' D1' D2') ∧ SRef rb w1 ts ∧ Below B W w1 ∧ Kinds w1 ∧ SortsA w1 ∧
    w1.cell? ⟨bb, 0, none⟩ = some (.pointer (some ⟨sb, 0, none⟩)) ∧ w1.cell? ⟨bb, 1, none⟩ = some (.pointer (some ⟨rb, 0, none⟩)) ∧
    w1.cell? ⟨o, 2, none⟩ = some (.int .i64 p) ∧ w1.cell? ⟨o, 4, none⟩ = some (.string k) ∧ w1.cell? ⟨o, 5, none⟩ = some (.string n)
/-- what the step leaves -/
def Fin (W w2 : World) (B bb sb tb m1 m2 rb : Nat) : Prop := ∃ ts' D1' D2', Inv w2 B bb sb tb m1 m2 rb ts' D1' D2' ∧ Below B W w2
set_option maxRecDepth 100000 in
set_option maxHeartbeats 4000000 in
theorem turned_any (B bb sb tb m1 m2 rb : Nat) (ts : List Opr) (D1 D2 : DataW Unit) (kd kk p mo : Int) (k n : ByteArray) (a6 a7 a8 a9 : Value) (w : World) (h : Inv w B bb sb tb m1 m2 rb ts D1 D2) (hs : n.size < 2 ^ 60) :
    Calls Tryd.prog 24 #[.pointer (some ⟨bb, 0, none⟩), .agg #[.int .i64 kd, .int .i64 kk, .int .i64 p, .int .i64 mo, .string k, .string n, a6, a7, a8, a9]] w fun e w' => e = .returned (.bool true) ∧
      Fin w w' B bb sb tb m1 m2 rb := by
  have hBl : B < w.heap.size := h.sess.tab.lt
  have B0 : Below w.heap.size w (w.alloc (.cells #[.int .i64 kd, .int .i64 kk, .int .i64 p, .int .i64 mo, .string k, .string n, a6, a7, a8, a9] 53)).drew := ((Below.refl _ _).alloc (Nat.le_refl _) _).drew
  have I0 := h.fresh B0
  obtain ⟨b0, b1, hse, hre, hco, hle, ls, lr, low, hki, hso⟩ := I0
  have x2 : (w.alloc (.cells #[.int .i64 kd, .int .i64 kk, .int .i64 p, .int .i64 mo, .string k, .string n, a6, a7, a8, a9] 53)).drew.cell? ⟨w.heap.size, 2, none⟩ = some (.int .i64 p) := by simp
  have x4 : (w.alloc (.cells #[.int .i64 kd, .int .i64 kk, .int .i64 p, .int .i64 mo, .string k, .string n, a6, a7, a8, a9] 53)).drew.cell? ⟨w.heap.size, 4, none⟩ = some (.string k) := by simp
  have x5 : (w.alloc (.cells #[.int .i64 kd, .int .i64 kk, .int .i64 p, .int .i64 mo, .string k, .string n, a6, a7, a8, a9] 53)).drew.cell? ⟨w.heap.size, 5, none⟩ = some (.string n) := by simp
  have hbb : bb < w.heap.size := lt_cell h.b0
  have hsb := hse.l2
  have hsb' := hse.l3
  have hop : Calls Tryd.prog 8 #[.pointer (some ⟨sb, 0, none⟩), .int .i64 p, .string k, .string n] (w.alloc (.cells #[.int .i64 kd, .int .i64 kk, .int .i64 p, .int .i64 mo, .string k, .string n, a6, a7, a8, a9] 53)).drew fun e w1 => e = .returned (.int .i64 (turnE ts p k n)) ∧ Mid w w1 B bb sb tb m1 m2 rb ts p k n w.heap.size := by
    refine (op_any B sb tb m1 m2 ts D1 D2 p k n _ hse hco hle hs hki hso low).mono ?_
    rintro e w1 ⟨rfl, D1', D2', hse1, hcor, ht1⟩
    have hBm := hse.tab.b1
    have hBm2 := hse.tab.b2
    have bl1 := ht1.below (B := B) (Nat.le_of_lt hse.tab.lt) (by simp; omega)
    exact ⟨rfl, D1', D2', hse1, hcor, hre.kept ht1 (by simp; omega), (B0.mono (Nat.le_of_lt hBl)).trans bl1, kinds_low hki bl1 low, sorts_low hso bl1 low,
      ht1.cell (a := ⟨bb, 0, none⟩) (by simp; omega) b0, ht1.cell (a := ⟨bb, 1, none⟩) (by simp; omega) b1, ht1.cell (a := ⟨w.heap.size, 2, none⟩) (by simp; omega) x2, ht1.cell (a := ⟨w.heap.size, 4, none⟩) (by simp; omega) x4, ht1.cell (a := ⟨w.heap.size, 5, none⟩) (by simp; omega) x5⟩
  clear hse hre hki hso
  go_enter Tryd.func24, Tryd.ntmps24
  go_wp2
  go_cut [5] from 7 (fun e wx => e = .int .i64 (turnE ts p k n) ∧ Mid w wx B bb sb tb m1 m2 rb ts p k n w.heap.size)
  case first =>
    go_region_with (go_at_call 8; refine hop.mono ?_; rintro e w1 ⟨rfl, hM⟩)
    all_goals
      go_wp2_with fail
      go_meet
      exact ⟨rfl, hM⟩
  case rest =>
    obtain ⟨rfl, hM⟩ := hcut
    obtain ⟨E1, E2, hse1, hcor, hre1, hbel, hki1, hso1, y0, y1, y2, y4, y5⟩ := hM
    have hD : Below wc.heap.size wc wc.drew := (Below.refl _ _).drew
    have q0 := keep hD y0
    have q1 := keep hD y1
    have q2 := keep hD y2
    have q4 := keep hD y4
    have q5 := keep hD y5
    have hturn : Calls Tryd.prog 38 #[.pointer (some ⟨rb, 0, none⟩), .int .i64 p, .string k, .string n] wc.drew fun e w2 => e = .returned (.int .i64 (turnE ts p k n)) ∧ Fin w w2 B bb sb tb m1 m2 rb := by
      have hseD := hse1.kept (turned_nil hD) (fun _ hs => by cases hs)
      have hreD := hre1.kept (turned_nil hD) (fun _ hs => by cases hs)
      refine (turn_any rb ts p k n _ hreD hs (by omega)).mono ?_
      rintro e w2 ⟨rfl, ts', hto, hre2, hg2⟩
      have t2 := turned_grown hg2
      have hBm := hse1.tab.b1
      have bl2 := t2.below (B := B) (Nat.le_of_lt hseD.tab.lt) (by simp; omega)
      have bl3 : Below B w w2 := (hbel.trans (hD.mono (Nat.le_of_lt hse1.tab.lt))).trans bl2
      exact ⟨rfl, ts', E1, E2, ⟨t2.cell (a := ⟨bb, 0, none⟩) (by simp; omega) q0, t2.cell (a := ⟨bb, 1, none⟩) (by simp; omega) q1, hseD.kept t2 (by simpa using ls), hre2, hcor ts' hto, hto.len hle, ls, lr, low,
        kinds_low h.kinds bl3 low, sorts_low h.sorts bl3 low⟩, bl3⟩
    clear hse1 hcor hre1 hki1 hso1 hop x2 x4 x5 b0 b1
    go_wp2
    go_cut [6] from 18 (fun e wx => e = .int .i64 (turnE ts p k n) ∧ Fin w wx B bb sb tb m1 m2 rb)
    case first =>
      go_region_with (go_at_call 38; refine hturn.mono ?_; rintro e w2 ⟨rfl, hF⟩)
      all_goals
        go_wp2_with fail
        go_meet
        exact ⟨rfl, hF⟩
    case rest =>
      obtain ⟨rfl, hF⟩ := hcut
      go_wp2_with (go_at_call 9; refine (num_any _ _).mono ?_; rintro e w3 ⟨rfl, hw⟩; have hw := hw.symm; subst hw)
      go_ret
      exact ⟨ret_bool (by simp), hF⟩
end Go.Proofs.YtoobbkckpabamaaDoor
