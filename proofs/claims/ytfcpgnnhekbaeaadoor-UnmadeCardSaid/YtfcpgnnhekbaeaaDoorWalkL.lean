/- Op on a Session of New's, its lock free; and the law itself: true. Under: the tables at package level hold what the program lays. -/
import Derived.Test.YtfcpgnnhekbaeaaDoorWalkK
import Derived.Test.YtfcpgnnhekbaeaaDoorLocks
import Derived.Conc.MuLone
namespace Go.Proofs.YtfcpgnnhekbaeaaDoor
open Go Go.RowKit Go.Maps
open Go.MuLone
theorem Kinds.low {w w' : World} {B : Nat} (h : Kinds w) (hb : Below B w w') (hB : 1 < B) : Kinds w' :=
  ⟨(hb.cell (p := ⟨1, 0, none⟩) hB).trans h.k0, (hb.cell (p := ⟨1, 1, none⟩) hB).trans h.k1, (hb.cell (p := ⟨1, 2, none⟩) hB).trans h.k2, (hb.cell (p := ⟨1, 3, none⟩) hB).trans h.k3, (hb.cell (p := ⟨1, 4, none⟩) hB).trans h.k4, (hb.cell (p := ⟨1, 5, none⟩) hB).trans h.k5, (hb.cell (p := ⟨1, 6, none⟩) hB).trans h.k6⟩
theorem Sorts.low {w w' : World} {B : Nat} (h : Sorts w) (hb : Below B w w') (hB : 2 < B) : Sorts w' := (hb.cell (p := ⟨2, 97, none⟩) hB).trans h
set_option maxRecDepth 100000 in
set_option maxHeartbeats 4000000 in
theorem op_a (B sb : Nat) (w : World) (h : SPost B w sb) (hK : Kinds w) (hS : Sorts w) (hB : 2 < B) :
    Calls Tryd.prog 6 #[.pointer (some ⟨sb, 0, none⟩), .int .i64 1, .string { data := #[102, 121] }, .string { data := #[97] }] w fun e w' => e = .returned (.int .i64 0) ∧ Below B w w' := by
  obtain ⟨tb, m1, m2, c0, f0, c2, c3, hT, h1, h2, h3⟩ := h
  have hBs : B ≤ sb := by have := hT.bt; omega
  have B1 : Below B w (w.setCell ⟨sb, 0, none⟩ (.int .i32 1)) := (Below.refl _ _).setCell hBs _
  have T1 := hT.setOther ⟨sb, 0, none⟩ (.int .i32 1) (by show tb ≠ sb; omega) (by show m1 ≠ sb; omega) (by show m2 ≠ sb; omega)
  have c3' : (w.setCell ⟨sb, 0, none⟩ (.int .i32 1)).cell? ⟨sb, 3, none⟩ = some (.pointer (some ⟨tb, 0, none⟩)) := (World.cell?_setCell_other _ _ _ _ (by simp)).trans c3
  have c0' := World.cell?_setCell_same w ⟨sb, 0, none⟩ (.int .i32 1) c0
  go_enter_defers Tryd.func6, Tryd.ntmps6
  go_wp2_with (first
    | (go_at_call 17; refine (made_made sb _ c2).mono ?_; rintro e w' ⟨rfl, hw⟩; subst hw)
    | (go_at_call 18; refine (lock_free Tryd.muLib ⟨sb, 0, none⟩ _ c0 f0).mono ?_; rintro e w' ⟨rfl, hw⟩; subst hw)
    | (go_at_call 20; refine (set_a B tb m1 m2 _ _ _ T1 (hK.low B1 (by omega)) (hS.low B1 hB)).mono ?_; rintro e w2 ⟨rfl, hg⟩))
  have hz : (w'.setCell ⟨sb, 0, none⟩ (.int .i32 1)).frozen? ⟨sb, 0, none⟩ = false := by simp [f0]
  have hlt := lt_cell c0'
  have e0 := hg.cell c0' (by show some sb ≠ some m1; simp; omega)
  have ez := (World.frozen?_of_block (a := ⟨sb, 0, none⟩) (hg.block sb hlt (by simp; omega))).trans hz
  refine leaves_cons (f := 19) (args := #[.pointer (some ⟨sb, 0, none⟩)]) (by simp) (by simp [go_sem]) ?_
  refine (unlock_deferred Tryd.muLib ⟨sb, 0, none⟩ .returning _ e0 ez).mono ?_
  rintro e u' w'' ⟨rfl, rfl, rfl⟩
  have B2 : Below B w' w2 := B1.grown hg (by have := hT.lt; simp; omega) (fun q hq => by cases hq; exact hT.b1)
  exact ⟨_, results_tmp rfl _ _ _, rfl, B2.setCell hBs _⟩
/-- the package's three tables, as the program lays them -/
structure LaidW (w : World) : Prop where
  first : Firsts w
  kinds : Kinds w
  sorts : Sorts w
theorem LaidW.below {w w' : World} (h : LaidW w) (hb : Below w.heap.size w w') : LaidW w' := ⟨h.first.below hb, h.kinds.below hb, keep hb h.sorts⟩
set_option maxRecDepth 100000 in
set_option maxHeartbeats 4000000 in
theorem unmade_any (w : World) (h : LaidW w) : Calls Tryd.prog 3 #[] w fun e w' => e = .returned (.bool true) ∧ Below w.heap.size w w' := by
  have B0 : Below w.heap.size w (w.alloc (.cells #[.int .i32 0, .int .u32 0, .pointer none, .pointer none, .slice none 0 0] 33)) := (Below.refl _ _).alloc (Nat.le_refl _) _
  have U0 : Unmd (w.alloc (.cells #[.int .i32 0, .int .u32 0, .pointer none, .pointer none, .slice none 0 0] 33)) (.pointer (some ⟨w.heap.size, 0, none⟩)) := Or.inr ⟨_, rfl, by simp⟩
  have L0 := h.below B0
  have hlow : 2 < w.heap.size := lt_cell h.sorts
  go_enter Tryd.func3, Tryd.ntmps3
  go_wp2_with (fail)
  refine (unmade_un _ (.pointer none) (Or.inl rfl)).mono ?_
  rintro e w1 ⟨rfl, hb1⟩
  have L1 := L0.below hb1
  have U1 := U0.below hb1
  have B1 := B0.trans (hb1.mono B0.size)
  clear L0 U0 hb1 B0
  go_wp2_with (fail)
  refine (unmade_un _ _ U1).mono ?_
  rintro e w2 ⟨rfl, hb2⟩
  have L2 := L1.below hb2
  have B2 := B1.trans (hb2.mono B1.size)
  clear L1 U1 hb2 B1
  go_wp2_with (fail)
  refine (begun_any _ L2.first L2.kinds).mono ?_
  rintro e w3 ⟨bb, rfl, ⟨sb, cb, hS⟩, hb3⟩
  have L3 := L2.below hb3
  have B3 := B2.trans (hb3.mono B2.size)
  have hlow2 : 2 < w2.heap.size := by have := B2.size; omega
  have hop := op_a w2.heap.size sb w3 hS L3.kinds L3.sorts hlow2
  clear L2 hb3 hS
  go_wp2_with (fail)
  refine hop.mono ?_
  rintro e w4 ⟨rfl, hb4⟩
  have B4 := B3.trans (hb4.mono B2.size)
  clear hop hb4
  go_wp2_with (go_at_call 7; refine (num_any _ _).mono ?_; rintro e w7 ⟨rfl, rfl⟩)
  go_ret
  exact ⟨rfl, B4⟩
end Go.Proofs.YtfcpgnnhekbaeaaDoor
