/- The document's own Session (package creedref): New makes it: it returns, and nothing that was there has turned. -/
import Derived.Test.YtfcpgnnhekbaeaaDoorWalkD
namespace Go.Proofs.YtfcpgnnhekbaeaaDoor
open Go Go.RowKit
def o0 : Opr := (1200, { data := #[120, 102, 120] }, { data := #[58, 45] })
def o1 : Opr := (1100, { data := #[120, 102, 121] }, { data := #[59] })
def o2 : Opr := (1000, { data := #[120, 102, 121] }, { data := #[44] })
def o3 : Opr := (900, { data := #[102, 121] }, { data := #[92] })
def o4 : Opr := (700, { data := #[120, 102, 120] }, { data := #[61] })
def o5 : Opr := (700, { data := #[120, 102, 120] }, { data := #[60] })
def o6 : Opr := (700, { data := #[120, 102, 120] }, { data := #[62] })
def o7 : Opr := (700, { data := #[120, 102, 120] }, { data := #[105, 115] })
def o8 : Opr := (500, { data := #[121, 102, 120] }, { data := #[43] })
def o9 : Opr := (500, { data := #[121, 102, 120] }, { data := #[45] })
def o10 : Opr := (400, { data := #[121, 102, 120] }, { data := #[42] })
def o11 : Opr := (400, { data := #[121, 102, 120] }, { data := #[47] })
def o12 : Opr := (200, { data := #[120, 102, 121] }, { data := #[94] })
def o13 : Opr := (200, { data := #[102, 121] }, { data := #[45] })
theorem t0 (sb : Nat) (w : World) (h : Has sb w 0 []) : Calls Tryd.prog 29 #[.pointer (some ⟨sb, 0, none⟩), .int .i64 1200, .string { data := #[120, 102, 120] }, .string { data := #[58, 45] }] w fun e w' => e = .returned (.int .i64 0) ∧ Has sb w' 1 (o0 :: []) ∧ Below sb w w' :=
  turn_has sb 0 _ o0 w h (by decide) (by decide) (by decide) (isKind_xfx) (fun w => isName_any _ w (by decide) (by decide)) (by simp [o0]) (by simp [o0]) (by simp [o0]) (by simp [o0]) (by simp [o0]) (by simp [frontB, o0])
theorem t1 (sb : Nat) (w : World) (h : Has sb w 1 [o0]) : Calls Tryd.prog 29 #[.pointer (some ⟨sb, 0, none⟩), .int .i64 1100, .string { data := #[120, 102, 121] }, .string { data := #[59] }] w fun e w' => e = .returned (.int .i64 0) ∧ Has sb w' 2 (o1 :: [o0]) ∧ Below sb w w' :=
  turn_has sb 1 _ o1 w h (by decide) (by decide) (by decide) (isKind_xfy) (fun w => isName_any _ w (by decide) (by decide)) (by simp [o1]) (by simp [o1]) (by simp [o1]) (by simp [o1]) (by simp [o1]) (by simp [frontB, o0, o1])
theorem t3 (sb : Nat) (w : World) (h : Has sb w 3 [o2, o1, o0]) : Calls Tryd.prog 29 #[.pointer (some ⟨sb, 0, none⟩), .int .i64 900, .string { data := #[102, 121] }, .string { data := #[92] }] w fun e w' => e = .returned (.int .i64 0) ∧ Has sb w' 4 (o3 :: [o2, o1, o0]) ∧ Below sb w w' :=
  turn_has sb 3 _ o3 w h (by decide) (by decide) (by decide) (isKind_fy) (fun w => isName_any _ w (by decide) (by decide)) (by simp [o3]) (by simp [o3]) (by simp [o3]) (by simp [o3]) (by simp [o3]) (by simp [frontB, o0, o1, o2, o3])
theorem t4 (sb : Nat) (w : World) (h : Has sb w 4 [o3, o2, o1, o0]) : Calls Tryd.prog 29 #[.pointer (some ⟨sb, 0, none⟩), .int .i64 700, .string { data := #[120, 102, 120] }, .string { data := #[61] }] w fun e w' => e = .returned (.int .i64 0) ∧ Has sb w' 5 (o4 :: [o3, o2, o1, o0]) ∧ Below sb w w' :=
  turn_has sb 4 _ o4 w h (by decide) (by decide) (by decide) (isKind_xfx) (fun w => isName_any _ w (by decide) (by decide)) (by simp [o4]) (by simp [o4]) (by simp [o4]) (by simp [o4]) (by simp [o4]) (by simp [frontB, o0, o1, o2, o3, o4])
theorem t5 (sb : Nat) (w : World) (h : Has sb w 5 [o4, o3, o2, o1, o0]) : Calls Tryd.prog 29 #[.pointer (some ⟨sb, 0, none⟩), .int .i64 700, .string { data := #[120, 102, 120] }, .string { data := #[60] }] w fun e w' => e = .returned (.int .i64 0) ∧ Has sb w' 6 (o5 :: [o4, o3, o2, o1, o0]) ∧ Below sb w w' :=
  turn_has sb 5 _ o5 w h (by decide) (by decide) (by decide) (isKind_xfx) (fun w => isName_any _ w (by decide) (by decide)) (by simp [o5]) (by simp [o5]) (by simp [o5]) (by simp [o5]) (by simp [o5]) (by simp [frontB, o0, o1, o2, o3, o4, o5])
theorem t6 (sb : Nat) (w : World) (h : Has sb w 6 [o5, o4, o3, o2, o1, o0]) : Calls Tryd.prog 29 #[.pointer (some ⟨sb, 0, none⟩), .int .i64 700, .string { data := #[120, 102, 120] }, .string { data := #[62] }] w fun e w' => e = .returned (.int .i64 0) ∧ Has sb w' 7 (o6 :: [o5, o4, o3, o2, o1, o0]) ∧ Below sb w w' :=
  turn_has sb 6 _ o6 w h (by decide) (by decide) (by decide) (isKind_xfx) (fun w => isName_any _ w (by decide) (by decide)) (by simp [o6]) (by simp [o6]) (by simp [o6]) (by simp [o6]) (by simp [o6]) (by simp [frontB, o0, o1, o2, o3, o4, o5, o6])
theorem t7 (sb : Nat) (w : World) (h : Has sb w 7 [o6, o5, o4, o3, o2, o1, o0]) : Calls Tryd.prog 29 #[.pointer (some ⟨sb, 0, none⟩), .int .i64 700, .string { data := #[120, 102, 120] }, .string { data := #[105, 115] }] w fun e w' => e = .returned (.int .i64 0) ∧ Has sb w' 8 (o7 :: [o6, o5, o4, o3, o2, o1, o0]) ∧ Below sb w w' :=
  turn_has sb 7 _ o7 w h (by decide) (by decide) (by decide) (isKind_xfx) (fun w => isName_any _ w (by decide) (by decide)) (by simp [o7]) (by simp [o7]) (by simp [o7]) (by simp [o7]) (by simp [o7]) (by simp [frontB, o0, o1, o2, o3, o4, o5, o6, o7])
theorem t8 (sb : Nat) (w : World) (h : Has sb w 8 [o7, o6, o5, o4, o3, o2, o1, o0]) : Calls Tryd.prog 29 #[.pointer (some ⟨sb, 0, none⟩), .int .i64 500, .string { data := #[121, 102, 120] }, .string { data := #[43] }] w fun e w' => e = .returned (.int .i64 0) ∧ Has sb w' 9 (o8 :: [o7, o6, o5, o4, o3, o2, o1, o0]) ∧ Below sb w w' :=
  turn_has sb 8 _ o8 w h (by decide) (by decide) (by decide) (isKind_yfx) (fun w => isName_any _ w (by decide) (by decide)) (by simp [o8]) (by simp [o8]) (by simp [o8]) (by simp [o8]) (by simp [o8]) (by simp [frontB, o0, o1, o2, o3, o4, o5, o6, o7, o8])
theorem t9 (sb : Nat) (w : World) (h : Has sb w 9 [o8, o7, o6, o5, o4, o3, o2, o1, o0]) : Calls Tryd.prog 29 #[.pointer (some ⟨sb, 0, none⟩), .int .i64 500, .string { data := #[121, 102, 120] }, .string { data := #[45] }] w fun e w' => e = .returned (.int .i64 0) ∧ Has sb w' 10 (o9 :: [o8, o7, o6, o5, o4, o3, o2, o1, o0]) ∧ Below sb w w' :=
  turn_has sb 9 _ o9 w h (by decide) (by decide) (by decide) (isKind_yfx) (fun w => isName_any _ w (by decide) (by decide)) (by simp [o9]) (by simp [o9]) (by simp [o9]) (by simp [o9]) (by simp [o9]) (by simp [frontB, o0, o1, o2, o3, o4, o5, o6, o7, o8, o9])
theorem t10 (sb : Nat) (w : World) (h : Has sb w 10 [o9, o8, o7, o6, o5, o4, o3, o2, o1, o0]) : Calls Tryd.prog 29 #[.pointer (some ⟨sb, 0, none⟩), .int .i64 400, .string { data := #[121, 102, 120] }, .string { data := #[42] }] w fun e w' => e = .returned (.int .i64 0) ∧ Has sb w' 11 (o10 :: [o9, o8, o7, o6, o5, o4, o3, o2, o1, o0]) ∧ Below sb w w' :=
  turn_has sb 10 _ o10 w h (by decide) (by decide) (by decide) (isKind_yfx) (fun w => isName_any _ w (by decide) (by decide)) (by simp [o10]) (by simp [o10]) (by simp [o10]) (by simp [o10]) (by simp [o10]) (by simp [frontB, o0, o1, o2, o3, o4, o5, o6, o7, o8, o9, o10])
theorem t11 (sb : Nat) (w : World) (h : Has sb w 11 [o10, o9, o8, o7, o6, o5, o4, o3, o2, o1, o0]) : Calls Tryd.prog 29 #[.pointer (some ⟨sb, 0, none⟩), .int .i64 400, .string { data := #[121, 102, 120] }, .string { data := #[47] }] w fun e w' => e = .returned (.int .i64 0) ∧ Has sb w' 12 (o11 :: [o10, o9, o8, o7, o6, o5, o4, o3, o2, o1, o0]) ∧ Below sb w w' :=
  turn_has sb 11 _ o11 w h (by decide) (by decide) (by decide) (isKind_yfx) (fun w => isName_any _ w (by decide) (by decide)) (by simp [o11]) (by simp [o11]) (by simp [o11]) (by simp [o11]) (by simp [o11]) (by simp [frontB, o0, o1, o2, o3, o4, o5, o6, o7, o8, o9, o10, o11])
theorem t12 (sb : Nat) (w : World) (h : Has sb w 12 [o11, o10, o9, o8, o7, o6, o5, o4, o3, o2, o1, o0]) : Calls Tryd.prog 29 #[.pointer (some ⟨sb, 0, none⟩), .int .i64 200, .string { data := #[120, 102, 121] }, .string { data := #[94] }] w fun e w' => e = .returned (.int .i64 0) ∧ Has sb w' 13 (o12 :: [o11, o10, o9, o8, o7, o6, o5, o4, o3, o2, o1, o0]) ∧ Below sb w w' :=
  turn_has sb 12 _ o12 w h (by decide) (by decide) (by decide) (isKind_xfy) (fun w => isName_any _ w (by decide) (by decide)) (by simp [o12]) (by simp [o12]) (by simp [o12]) (by simp [o12]) (by simp [o12]) (by simp [frontB, o0, o1, o2, o3, o4, o5, o6, o7, o8, o9, o10, o11, o12])
theorem t13 (sb : Nat) (w : World) (h : Has sb w 13 [o12, o11, o10, o9, o8, o7, o6, o5, o4, o3, o2, o1, o0]) : Calls Tryd.prog 29 #[.pointer (some ⟨sb, 0, none⟩), .int .i64 200, .string { data := #[102, 121] }, .string { data := #[45] }] w fun e w' => e = .returned (.int .i64 0) ∧ Has sb w' 14 (o13 :: [o12, o11, o10, o9, o8, o7, o6, o5, o4, o3, o2, o1, o0]) ∧ Below sb w w' :=
  turn_has sb 13 _ o13 w h (by decide) (by decide) (by decide) (isKind_fy) (fun w => isName_any _ w (by decide) (by decide)) (by simp [o13]) (by simp [o13]) (by simp [o13]) (by simp [o13]) (by simp [o13]) (by simp [frontB, o0, o1, o2, o3, o4, o5, o6, o7, o8, o9, o10, o11, o12, o13])
theorem t2 (sb : Nat) (w : World) (h : Has sb w 2 [o1, o0]) : Calls Tryd.prog 30 #[.pointer (some ⟨sb, 0, none⟩), .agg #[.int .i64 1000, .string { data := #[120, 102, 121] }, .string { data := #[44] }]] w fun e w' => e = .returned (.tuple #[]) ∧ Has sb w' 3 [o2, o1, o0] ∧ Below sb w w' := by
  obtain ⟨v, ts, hc, hf, hown, hn, hm⟩ := h
  exact (put_any sb v ts o2 w hc hf hown (by omega)).mono fun e w' ⟨he, hP⟩ => ⟨he, Has.next hP hn hm⟩
theorem Has.start (w : World) : Has w.heap.size (w.alloc (.cells #[.slice none 0 0, .slice none 0 0] 75)) 0 [] :=
  ⟨.slice none 0 0, [], by simp, by simp, World.ownsRow_nil _ _ _ _, rfl, fun t h => by cases h⟩
set_option maxRecDepth 100000 in
set_option maxHeartbeats 4000000 in
theorem refNew_any (w : World) : Calls Tryd.prog 16 #[] w fun e w' => (∃ b, e = .returned (.pointer (some ⟨b, 0, none⟩))) ∧ Below w.heap.size w w' := by
  have H0 := Has.start w
  have B0 : Below w.heap.size w (w.alloc (.cells #[.slice none 0 0, .slice none 0 0] 75)) := (Below.refl _ _).alloc (Nat.le_refl _) _
  go_enter Tryd.func16, Tryd.ntmps16
  go_wp2_with (fail)
  refine (t0 _ _ H0).mono ?_
  rintro e w1 ⟨rfl, H1, C1⟩
  have B1 := B0.trans C1
  clear B0
  clear H0 C1
  go_wp2_with (fail)
  refine (t1 _ _ H1).mono ?_
  rintro e w2 ⟨rfl, H2, C2⟩
  have B2 := B1.trans C2
  clear B1
  clear H1 C2
  go_wp2_with (fail)
  refine (t2 _ _ H2).mono ?_
  rintro e w3 ⟨rfl, H3, C3⟩
  have B3 := B2.trans C3
  clear B2
  clear H2 C3
  go_wp2_with (fail)
  refine (t3 _ _ H3).mono ?_
  rintro e w4 ⟨rfl, H4, C4⟩
  have B4 := B3.trans C4
  clear B3
  clear H3 C4
  go_wp2_with (fail)
  refine (t4 _ _ H4).mono ?_
  rintro e w5 ⟨rfl, H5, C5⟩
  have B5 := B4.trans C5
  clear B4
  clear H4 C5
  go_wp2_with (fail)
  refine (t5 _ _ H5).mono ?_
  rintro e w6 ⟨rfl, H6, C6⟩
  have B6 := B5.trans C6
  clear B5
  clear H5 C6
  go_wp2_with (fail)
  refine (t6 _ _ H6).mono ?_
  rintro e w7 ⟨rfl, H7, C7⟩
  have B7 := B6.trans C7
  clear B6
  clear H6 C7
  go_wp2_with (fail)
  refine (t7 _ _ H7).mono ?_
  rintro e w8 ⟨rfl, H8, C8⟩
  have B8 := B7.trans C8
  clear B7
  clear H7 C8
  go_wp2_with (fail)
  refine (t8 _ _ H8).mono ?_
  rintro e w9 ⟨rfl, H9, C9⟩
  have B9 := B8.trans C9
  clear B8
  clear H8 C9
  go_wp2_with (fail)
  refine (t9 _ _ H9).mono ?_
  rintro e w10 ⟨rfl, H10, C10⟩
  have B10 := B9.trans C10
  clear B9
  clear H9 C10
  go_wp2_with (fail)
  refine (t10 _ _ H10).mono ?_
  rintro e w11 ⟨rfl, H11, C11⟩
  have B11 := B10.trans C11
  clear B10
  clear H10 C11
  go_wp2_with (fail)
  refine (t11 _ _ H11).mono ?_
  rintro e w12 ⟨rfl, H12, C12⟩
  have B12 := B11.trans C12
  clear B11
  clear H11 C12
  go_wp2_with (fail)
  refine (t12 _ _ H12).mono ?_
  rintro e w13 ⟨rfl, H13, C13⟩
  have B13 := B12.trans C13
  clear B12
  clear H12 C13
  go_wp2_with (fail)
  refine (t13 _ _ H13).mono ?_
  rintro e w14 ⟨rfl, H14, C14⟩
  have B14 := B13.trans C14
  clear B13
  clear H13 C14
  go_wp2
  go_ret
  exact ⟨⟨_, rfl⟩, B14⟩
end Go.Proofs.YtfcpgnnhekbaeaaDoor
