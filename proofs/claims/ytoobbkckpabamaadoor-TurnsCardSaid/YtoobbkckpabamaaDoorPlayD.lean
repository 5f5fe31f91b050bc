/- The document's own New, with what it lays; begun: the two Sessions side by side. Under: the tables at package level hold what the program lays. -/
import Derived.Test.YtoobbkckpabamaaDoorPlayC
namespace Go.Proofs.YtoobbkckpabamaaDoor
open Go Go.RowKit Go.Maps
theorem rt0 (sb : Nat) (w : World) (h : RS sb w 0) : Calls Tryd.prog 38 #[.pointer (some ⟨sb, 0, none⟩), .int .i64 1200, .string { data := #[120, 102, 120] }, .string { data := #[58, 45] }] w fun e w' => (∃ z, e = .returned (.int .i64 z)) ∧ RS sb w' 1 ∧ Below sb w w' := rs_turn sb 0 (by decide) (by decide) w h
theorem rt1 (sb : Nat) (w : World) (h : RS sb w 1) : Calls Tryd.prog 38 #[.pointer (some ⟨sb, 0, none⟩), .int .i64 1100, .string { data := #[120, 102, 121] }, .string { data := #[59] }] w fun e w' => (∃ z, e = .returned (.int .i64 z)) ∧ RS sb w' 2 ∧ Below sb w w' := rs_turn sb 1 (by decide) (by decide) w h
theorem rt2 (sb : Nat) (w : World) (h : RS sb w 2) : Calls Tryd.prog 39 #[.pointer (some ⟨sb, 0, none⟩), .agg #[.int .i64 1000, .string { data := #[120, 102, 121] }, .string { data := #[44] }]] w fun e w' => e = .returned (.tuple #[]) ∧ RS sb w' 3 ∧ Below sb w w' := rs_put sb w h
theorem rt3 (sb : Nat) (w : World) (h : RS sb w 3) : Calls Tryd.prog 38 #[.pointer (some ⟨sb, 0, none⟩), .int .i64 900, .string { data := #[102, 121] }, .string { data := #[92] }] w fun e w' => (∃ z, e = .returned (.int .i64 z)) ∧ RS sb w' 4 ∧ Below sb w w' := rs_turn sb 3 (by decide) (by decide) w h
theorem rt4 (sb : Nat) (w : World) (h : RS sb w 4) : Calls Tryd.prog 38 #[.pointer (some ⟨sb, 0, none⟩), .int .i64 700, .string { data := #[120, 102, 120] }, .string { data := #[61] }] w fun e w' => (∃ z, e = .returned (.int .i64 z)) ∧ RS sb w' 5 ∧ Below sb w w' := rs_turn sb 4 (by decide) (by decide) w h
theorem rt5 (sb : Nat) (w : World) (h : RS sb w 5) : Calls Tryd.prog 38 #[.pointer (some ⟨sb, 0, none⟩), .int .i64 700, .string { data := #[120, 102, 120] }, .string { data := #[60] }] w fun e w' => (∃ z, e = .returned (.int .i64 z)) ∧ RS sb w' 6 ∧ Below sb w w' := rs_turn sb 5 (by decide) (by decide) w h
theorem rt6 (sb : Nat) (w : World) (h : RS sb w 6) : Calls Tryd.prog 38 #[.pointer (some ⟨sb, 0, none⟩), .int .i64 700, .string { data := #[120, 102, 120] }, .string { data := #[62] }] w fun e w' => (∃ z, e = .returned (.int .i64 z)) ∧ RS sb w' 7 ∧ Below sb w w' := rs_turn sb 6 (by decide) (by decide) w h
theorem rt7 (sb : Nat) (w : World) (h : RS sb w 7) : Calls Tryd.prog 38 #[.pointer (some ⟨sb, 0, none⟩), .int .i64 700, .string { data := #[120, 102, 120] }, .string { data := #[105, 115] }] w fun e w' => (∃ z, e = .returned (.int .i64 z)) ∧ RS sb w' 8 ∧ Below sb w w' := rs_turn sb 7 (by decide) (by decide) w h
theorem rt8 (sb : Nat) (w : World) (h : RS sb w 8) : Calls Tryd.prog 38 #[.pointer (some ⟨sb, 0, none⟩), .int .i64 500, .string { data := #[121, 102, 120] }, .string { data := #[43] }] w fun e w' => (∃ z, e = .returned (.int .i64 z)) ∧ RS sb w' 9 ∧ Below sb w w' := rs_turn sb 8 (by decide) (by decide) w h
theorem rt9 (sb : Nat) (w : World) (h : RS sb w 9) : Calls Tryd.prog 38 #[.pointer (some ⟨sb, 0, none⟩), .int .i64 500, .string { data := #[121, 102, 120] }, .string { data := #[45] }] w fun e w' => (∃ z, e = .returned (.int .i64 z)) ∧ RS sb w' 10 ∧ Below sb w w' := rs_turn sb 9 (by decide) (by decide) w h
theorem rt10 (sb : Nat) (w : World) (h : RS sb w 10) : Calls Tryd.prog 38 #[.pointer (some ⟨sb, 0, none⟩), .int .i64 400, .string { data := #[121, 102, 120] }, .string { data := #[42] }] w fun e w' => (∃ z, e = .returned (.int .i64 z)) ∧ RS sb w' 11 ∧ Below sb w w' := rs_turn sb 10 (by decide) (by decide) w h
theorem rt11 (sb : Nat) (w : World) (h : RS sb w 11) : Calls Tryd.prog 38 #[.pointer (some ⟨sb, 0, none⟩), .int .i64 400, .string { data := #[121, 102, 120] }, .string { data := #[47] }] w fun e w' => (∃ z, e = .returned (.int .i64 z)) ∧ RS sb w' 12 ∧ Below sb w w' := rs_turn sb 11 (by decide) (by decide) w h
theorem rt12 (sb : Nat) (w : World) (h : RS sb w 12) : Calls Tryd.prog 38 #[.pointer (some ⟨sb, 0, none⟩), .int .i64 200, .string { data := #[120, 102, 121] }, .string { data := #[94] }] w fun e w' => (∃ z, e = .returned (.int .i64 z)) ∧ RS sb w' 13 ∧ Below sb w w' := rs_turn sb 12 (by decide) (by decide) w h
theorem rt13 (sb : Nat) (w : World) (h : RS sb w 13) : Calls Tryd.prog 38 #[.pointer (some ⟨sb, 0, none⟩), .int .i64 200, .string { data := #[102, 121] }, .string { data := #[45] }] w fun e w' => (∃ z, e = .returned (.int .i64 z)) ∧ RS sb w' 14 ∧ Below sb w w' := rs_turn sb 13 (by decide) (by decide) w h
theorem RS.start (w : World) : RS w.heap.size (w.alloc (.cells #[.slice none 0 0, .slice none 0 0] 90)) 0 :=
  ⟨[], ⟨.slice none 0 0, by simp, by simp, World.ownsRow_nil _ _ _ _⟩, ⟨List.Pairwise.nil, fun t h => by (cases h), ⟨[], rfl, List.Perm.refl _⟩, ⟨[], rfl, List.Perm.refl _⟩⟩⟩
set_option maxRecDepth 100000 in
set_option maxHeartbeats 4000000 in
theorem refNew_any (w : World) : Calls Tryd.prog 19 #[] w fun e w' => e = .returned (.pointer (some ⟨w.heap.size, 0, none⟩)) ∧ RS w.heap.size w' 14 ∧ Below w.heap.size w w' := by
  have H0 := RS.start w
  have B0 : Below w.heap.size w (w.alloc (.cells #[.slice none 0 0, .slice none 0 0] 90)) := (Below.refl _ _).alloc (Nat.le_refl _) _
  go_enter Tryd.func19, Tryd.ntmps19
  go_wp2_with (fail)
  refine (rt0 _ _ H0).mono ?_
  rintro e w1 ⟨⟨z1, rfl⟩, H1, C1⟩
  have B1 := B0.trans C1
  clear B0 H0 C1
  go_wp2_with (fail)
  refine (rt1 _ _ H1).mono ?_
  rintro e w2 ⟨⟨z2, rfl⟩, H2, C2⟩
  have B2 := B1.trans C2
  clear B1 H1 C2
  go_wp2_with (fail)
  refine (rt2 _ _ H2).mono ?_
  rintro e w3 ⟨rfl, H3, C3⟩
  have B3 := B2.trans C3
  clear B2 H2 C3
  go_wp2_with (fail)
  refine (rt3 _ _ H3).mono ?_
  rintro e w4 ⟨⟨z4, rfl⟩, H4, C4⟩
  have B4 := B3.trans C4
  clear B3 H3 C4
  go_wp2_with (fail)
  refine (rt4 _ _ H4).mono ?_
  rintro e w5 ⟨⟨z5, rfl⟩, H5, C5⟩
  have B5 := B4.trans C5
  clear B4 H4 C5
  go_wp2_with (fail)
  refine (rt5 _ _ H5).mono ?_
  rintro e w6 ⟨⟨z6, rfl⟩, H6, C6⟩
  have B6 := B5.trans C6
  clear B5 H5 C6
  go_wp2_with (fail)
  refine (rt6 _ _ H6).mono ?_
  rintro e w7 ⟨⟨z7, rfl⟩, H7, C7⟩
  have B7 := B6.trans C7
  clear B6 H6 C7
  go_wp2_with (fail)
  refine (rt7 _ _ H7).mono ?_
  rintro e w8 ⟨⟨z8, rfl⟩, H8, C8⟩
  have B8 := B7.trans C8
  clear B7 H7 C8
  go_wp2_with (fail)
  refine (rt8 _ _ H8).mono ?_
  rintro e w9 ⟨⟨z9, rfl⟩, H9, C9⟩
  have B9 := B8.trans C9
  clear B8 H8 C9
  go_wp2_with (fail)
  refine (rt9 _ _ H9).mono ?_
  rintro e w10 ⟨⟨z10, rfl⟩, H10, C10⟩
  have B10 := B9.trans C10
  clear B9 H9 C10
  go_wp2_with (fail)
  refine (rt10 _ _ H10).mono ?_
  rintro e w11 ⟨⟨z11, rfl⟩, H11, C11⟩
  have B11 := B10.trans C11
  clear B10 H10 C11
  go_wp2_with (fail)
  refine (rt11 _ _ H11).mono ?_
  rintro e w12 ⟨⟨z12, rfl⟩, H12, C12⟩
  have B12 := B11.trans C12
  clear B11 H11 C12
  go_wp2_with (fail)
  refine (rt12 _ _ H12).mono ?_
  rintro e w13 ⟨⟨z13, rfl⟩, H13, C13⟩
  have B13 := B12.trans C13
  clear B12 H12 C13
  go_wp2_with (fail)
  refine (rt13 _ _ H13).mono ?_
  rintro e w14 ⟨⟨z14, rfl⟩, H14, C14⟩
  have B14 := B13.trans C14
  clear B13 H13 C14
  go_wp2
  go_ret
  exact ⟨rfl, H14, B14⟩
/-- what New leaves: a Session that knows itself, its lock free, with a Table of its own -/
def SPost (B : Nat) (w' : World) (sb : Nat) : Prop :=
  ∃ tb m1 m2, w'.cell? ⟨sb, 0, none⟩ = some (.int .i32 0) ∧ w'.frozen? ⟨sb, 0, none⟩ = false ∧ w'.cell? ⟨sb, 2, none⟩ = some (.pointer (some ⟨sb, 0, none⟩)) ∧ w'.cell? ⟨sb, 3, none⟩ = some (.pointer (some ⟨tb, 0, none⟩)) ∧
    Tab w' B tb m1 m2 14 14 (mapF 14) (mapB 14) ∧ tb < sb ∧ m1 < sb ∧ m2 < sb
theorem SPost.below {B sb : Nat} {w w' : World} (h : SPost B w sb) (hb : Below w.heap.size w w') : SPost B w' sb := by
  obtain ⟨tb, m1, m2, c0, f0, c2, c3, hT, h1, h2, h3⟩ := h
  exact ⟨tb, m1, m2, keep hb c0, (hb.frozen (p := ⟨sb, 0, none⟩) (lt_cell c0)).trans f0, keep hb c2, keep hb c3, hT.below hb, h1, h2, h3⟩
theorem Tab.lts {w : World} {B tb m1 m2 n1 n2 : Nat} {D1 D2 : DataW Unit} (h : Tab w B tb m1 m2 n1 n2 D1 D2) : tb < w.heap.size ∧ m1 < w.heap.size ∧ m2 < w.heap.size :=
  ⟨lt_cell h.c1, h.o1.lt, h.o2.lt⟩
theorem Tab.setOther {w : World} {B tb m1 m2 n1 n2 : Nat} {D1 D2 : DataW Unit} (h : Tab w B tb m1 m2 n1 n2 D1 D2) (a : Addr) (v : Value) (h1 : tb ≠ a.block) (h2 : m1 ≠ a.block) (h3 : m2 ≠ a.block) : Tab (w.setCell a v) B tb m1 m2 n1 n2 D1 D2 := by
  have hg : w.grownBy (w.setCell a v) (some a.block) := ⟨rfl, rfl, rfl, by simp, fun k _ hk => Below.heap_setCell w a v k (fun e => hk (by rw [e]))⟩
  exact ⟨hg.cell h.c1 (by simpa using h1), hg.cell h.c2 (by simpa using h1), h.o1.kept hg (by simpa using h2), h.o2.kept hg (by simpa using h3), h.ne, h.bt, h.b1, h.b2, h.t1, h.t2⟩
set_option maxRecDepth 100000 in
set_option maxHeartbeats 4000000 in
theorem new_any (w : World) (hF : Firsts w) (hKi : Kinds w) : Calls Tryd.prog 18 #[] w fun e w' => ∃ sb, e = .returned (.pointer (some ⟨sb, 0, none⟩)) ∧ SPost w.heap.size w' sb ∧ Below w.heap.size w w' := by
  go_enter Tryd.func18, Tryd.ntmps18
  go_wp2_with (go_at_call 37; refine (tnew_any w hF hKi).mono ?_; rintro e w1 ⟨tb, rfl, m1, m2, hT, hb⟩)
  have hl := hT.lts
  go_ret
  exact ⟨_, rfl, ⟨tb, m1, m2, by simp, by simp, by simp, by simp, hT.below ((Below.refl _ _).alloc (Nat.le_refl _) _), hl.1, hl.2.1, hl.2.2⟩, hb.alloc hb.size _⟩
set_option maxRecDepth 100000 in
set_option maxHeartbeats 4000000 in
theorem begun_any (w : World) (hF : Firsts w) (hKi : Kinds w) (hSo : SortsA w) (hw : 2 < w.heap.size) :
    Calls Tryd.prog 7 #[] w fun e w' => ∃ bb sb rb, e = .returned (.tuple #[.pointer (some ⟨bb, 0, none⟩), .bool true]) ∧ (∃ tb m1 m2 ts D1 D2, Inv w' w.heap.size bb sb tb m1 m2 rb ts D1 D2) ∧ Below w.heap.size w w' := by
  go_enter Tryd.func7, Tryd.ntmps7
  go_wp2_with (first
    | (go_at_call 18; refine (new_any w hF hKi).mono ?_; rintro e w1 ⟨sb, rfl, hS, hb⟩)
    | (go_at_call 19; refine (refNew_any _).mono ?_; rintro e w2 ⟨rfl, hR, hb2⟩))
  have hS2 := hS.below hb2
  have hB2 := hb.trans (hb2.mono hb.size)
  obtain ⟨ts, hRef, hCor⟩ := hR
  have hlen := hCor.size
  have hlt : w1.heap.size < w2.heap.size := by obtain ⟨v, hc, _⟩ := hRef; exact lt_cell hc
  have B3 : ∀ o, Below w2.heap.size w2 (w2.alloc o) := fun o => (Below.refl _ _).alloc (Nat.le_refl _) o
  go_ret2
  obtain ⟨tb, m1, m2, c0, f0, c2, c3, hT, h1, h2, h3⟩ := hS2.below (B3 _)
  have hsb : sb < w1.heap.size := by
    obtain ⟨_, _, _, c, _⟩ := hS
    exact lt_cell c
  have hB4 := hB2.alloc hB2.size (.cells #[.pointer (some ⟨sb, 0, none⟩), .pointer (some ⟨w1.heap.size, 0, none⟩)] 45)
  refine ⟨w2.heap.size, sb, w1.heap.size, rfl, ⟨tb, m1, m2, ts, mapF 14, mapB 14, ?_⟩, hB4⟩
  exact ⟨by simp, by simp, ⟨c0, f0, c2, c3, hT.tight, h1, h2, h3⟩, hRef.kept (turned_nil (B3 _)) (fun _ hs => by cases hs), hCor, by rw [← hlen]; decide +kernel, hsb, hlt, hw, hKi.below hB4, hSo.below hB4⟩
end Go.Proofs.YtoobbkckpabamaaDoor
