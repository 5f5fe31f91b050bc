/- The operators' Table (package operators): Set, at every argument: what is refused. -/
import Derived.Test.YtoobbkckpabamaaDoorTurnG
import Derived.Test.YtoobbkckpabamaaDoorWalkI
namespace Go.Proofs.YtoobbkckpabamaaDoor
open Go Go.RowKit Go.Maps
set_option maxRecDepth 100000 in
set_option maxHeartbeats 4000000 in
theorem set_bad (tb : Nat) (p : Int) (k n : ByteArray) (w : World) (hs : n.size < 2 ^ 60) (hK : Kinds w) (hS : SortsA w) (hbad : okTurn p k n = false) :
    Calls Tryd.prog 23 #[.pointer (some ⟨tb, 0, none⟩), .int .i64 p, .string k, .string n] w fun e w' => e = .returned (.int .i64 8) ∧ w' = w := by
  have hb : kindB k = true → 0 ≤ p → p ≤ 1200 → (!barredB n && nameB n) = false := fun h1 h2 h3 => by
    rw [Bool.eq_false_iff]
    intro h4
    rw [Bool.and_eq_true] at h4
    have : okTurn p k n = true := by simp [okTurn, h1, h2, h3, h4.1, h4.2]
    rw [hbad] at this; cases this
  generalize hq : (!barredB n && nameB n) = q at hb
  go_enter Tryd.func23, Tryd.ntmps23
  go_wp2_with (first
    | (go_at_call 42; refine (kindOf_any _ _ hK).mono ?_; rintro e w' ⟨rfl, rfl⟩)
    | (go_at_call 43; refine (may_any _ _ hS hs).mono ?_; rw [hq]; rintro e w' ⟨rfl, rfl⟩))
  all_goals try (go_ret; exact ⟨rfl, rfl⟩)
theorem grow_below {w w1 w2 : World} {row : Option Nat} (hb : Below w.heap.size w w1) (hg : w1.grownBy w2 row) : w.grownBy w2 row :=
  ⟨hg.os.trans hb.os, hg.tape.trans hb.tape, hg.output.trans hb.output, Nat.le_trans hb.size hg.size, fun q hq hne => (hg.block q (Nat.lt_of_lt_of_le hq hb.size) hne).trans (hb.block q hq)⟩
theorem below_grown {w w1 : World} (row : Option Nat) (h : Below w.heap.size w w1) : w.grownBy w1 row := ⟨h.os, h.tape, h.output, h.size, fun k hk _ => h.block k hk⟩
def pickD (k : Int) (D1 D2 : DataW Unit) : DataW Unit := if inF k then D1 else D2
theorem opElem_inv' {v : Value} {z : DataW Unit × List MemPlace} (h : opElem v = some z) : ∃ p k, v = .agg #[.int .i64 p, .int .u8 k] ∧ z = (opD p k, []) := by
  unfold opElem at h
  split at h
  · rename_i cs
    split at h
    · rename_i p k hl
      cases h
      refine ⟨p, k, ?_, rfl⟩
      congr 1
      apply Array.ext'
      rw [hl]
    · cases h
  · cases h
theorem zeroOp (w : World) : (zeroValue 100).run Tryd.prog w = .ok (.agg #[.int .i64 0, .int .u8 0]) w := by kernel_rfl
theorem Tab.look {w : World} {B tb m1 m2 n1 n2 : Nat} {D1 D2 : DataW Unit} (h : Tab w B tb m1 m2 n1 n2 D1 D2) (k : Int) (nm : ByteArray) (hs : nm.size ≤ 1000) :
    ∃ p q, (Instr.lookup 102 (.map (some (pickB k m1 m2))) (.string nm) true).run Tryd.prog w = .ok (.tuple #[.agg #[.int .i64 p, .int .u8 q], .bool (Maps.has (pickD k D1 D2) (.string nm.data.toList))]) w := by
  unfold pickB pickD
  cases hF : inF k
  · obtain ⟨v, ps, hr, hv⟩ := h.o2.look_ok law9 Tryd.underlying102 (zeroOp w) (zd := opD 0 0) (zp := []) rfl (key9 nm hs)
    obtain ⟨p, q, rfl, _⟩ := opElem_inv' hv
    exact ⟨p, q, hr⟩
  · obtain ⟨v, ps, hr, hv⟩ := h.o1.look_ok law9 Tryd.underlying102 (zeroOp w) (zd := opD 0 0) (zp := []) rfl (key9 nm hs)
    obtain ⟨p, q, rfl, _⟩ := opElem_inv' hv
    exact ⟨p, q, hr⟩
theorem nameB_size {n : ByteArray} (h : nameB n = true) : n.size ≤ 40 := by
  simp only [nameB, Bool.and_eq_true, decide_eq_true_eq] at h
  exact h.1
theorem okTurn_more {p : Int} {k n : ByteArray} (h : okTurn p k n = true) : 0 ≤ p ∧ p ≤ 1200 ∧ kindB k = true ∧ (!barredB n && nameB n) = true ∧ n.size ≤ 40 := by
  simp only [okTurn, Bool.and_eq_true, decide_eq_true_eq] at h
  obtain ⟨⟨⟨⟨h1, h2⟩, h3⟩, h4⟩, h5⟩ := h
  exact ⟨h1, h2, h3, by rw [h4, h5]; rfl, nameB_size h4⟩
set_option maxRecDepth 100000 in
set_option maxHeartbeats 4000000 in
theorem set_many (B tb m1 m2 n1 n2 : Nat) (D1 D2 : DataW Unit) (p : Int) (k n : ByteArray) (w : World) (h : Tab w B tb m1 m2 n1 n2 D1 D2) (hs : n.size < 2 ^ 60) (hK : Kinds w) (hS : SortsA w) (hok : okTurn p k n = true)
    (hh : Maps.has (pickD (numI k) D1 D2) (.string n.data.toList) = false) (hp : ¬ p = 0) (hz1 : n1 < 2 ^ 40) (hz2 : n2 < 2 ^ 40) (hz : 100 ≤ Maps.size D1 + Maps.size D2) :
    Calls Tryd.prog 23 #[.pointer (some ⟨tb, 0, none⟩), .int .i64 p, .string k, .string n] w fun e w' => e = .returned (.int .i64 10) ∧ Below w.heap.size w w' := by
  obtain ⟨d1, d2, d3, d4, d5⟩ := okTurn_more hok
  have d6 : ¬ p < 0 := by omega
  have d7 : ¬ 1200 < p := by omega
  have B1 : Below w.heap.size w (w.alloc (.cells #[.int .i64 p, .int .u8 (numI k)] 100)) := (Below.refl _ _).alloc (Nat.le_refl _) _
  have T1 := h.below B1
  generalize hF : numI k = f at *
  go_enter Tryd.func23, Tryd.ntmps23
  go_wp2_with (first
    | (go_at_call 42; refine (kindOf_any _ _ hK).mono ?_; rw [hF, d3]; rintro e w' ⟨rfl, hw⟩; have hw := hw.symm; subst hw)
    | (go_at_call 43; refine (may_any _ _ hS hs).mono ?_; rw [d4]; rintro e w' ⟨rfl, hw⟩; have hw := hw.symm; subst hw)
    | (go_at_call 44; refine (sort_any tb m1 m2 _ _ _ T1.c1 T1.c2).mono ?_; rintro e w2 ⟨rfl, hb2⟩; have T2 := T1.below hb2; obtain ⟨pp, kk, hlk⟩ : ∃ pp kk, (Instr.lookup 102 (.map (some (pickB f m1 m2))) (.string n) true).run Tryd.prog w2 = .ok (.tuple #[.agg #[.int .i64 pp, .int .u8 kk], .bool false]) w2 := by rw [← hh]; exact T2.look f n (by omega)))
  have A3 : Below w2.heap.size w2 (w2.alloc (.cells #[.int .i64 pp, .int .u8 kk] 100)) := (Below.refl _ _).alloc (Nat.le_refl _) _
  have T3 := T2.below A3
  have c1 := T3.c1
  have c2 := T3.c2
  have z1 := T3.o1.size_le
  have z2 := T3.o2.size_le
  have l1 : ∀ n ty, (Builtin.len_ #[102] ty #[.map (some m1)]).run Tryd.prog ((w2.alloc (.cells #[.int .i64 pp, .int .u8 kk] 100)).drewN n) = .ok (.int .i64 (Maps.size D1)) ((w2.alloc (.cells #[.int .i64 pp, .int .u8 kk] 100)).drewN n) := fun n ty => World.ownsMap.len (w := (w2.alloc (.cells #[.int .i64 pp, .int .u8 kk] 100)).drewN n) T3.o1 Tryd.underlying102 ty
  have l2 : ∀ n ty, (Builtin.len_ #[102] ty #[.map (some m2)]).run Tryd.prog ((w2.alloc (.cells #[.int .i64 pp, .int .u8 kk] 100)).drewN n) = .ok (.int .i64 (Maps.size D2)) ((w2.alloc (.cells #[.int .i64 pp, .int .u8 kk] 100)).drewN n) := fun n ty => World.ownsMap.len (w := (w2.alloc (.cells #[.int .i64 pp, .int .u8 kk] 100)).drewN n) T3.o2 Tryd.underlying102 ty
  have x0 : (w2.alloc (.cells #[.int .i64 pp, .int .u8 kk] 100)).cell? ⟨w.heap.size, 0, none⟩ = some (.int .i64 p) := keep A3 (keep hb2 (by simp))
  have x1 : (w2.alloc (.cells #[.int .i64 pp, .int .u8 kk] 100)).cell? ⟨w.heap.size, 1, none⟩ = some (.int .u8 f) := keep A3 (keep hb2 (by simp))
  have B4 : Below w.heap.size w (w2.alloc (.cells #[.int .i64 pp, .int .u8 kk] 100)) := B1.trans ((hb2.trans (A3.mono hb2.size)).mono B1.size)
  have hwr : IntKind.i64.wrap (((Maps.size D1 : Nat) : Int) + ((Maps.size D2 : Nat) : Int)) = ((Maps.size D1 : Nat) : Int) + ((Maps.size D2 : Nat) : Int) := by
    rw [IntKind.wrap_i64]; omega
  go_quiet (fail)
  go_wp2
  all_goals first
    | (go_ret; exact ⟨rfl, ⟨B4.os, B4.tape, B4.output, B4.size, B4.block⟩⟩)
    | (exfalso
       have hx : (p != 0) = false ∨ ((Maps.size D1 : Nat) : Int) + ((Maps.size D2 : Nat) : Int) < 100 := by assumption
       rcases hx with hx | hx
       · simp [hp] at hx
       · omega)
set_option maxRecDepth 100000 in
set_option maxHeartbeats 4000000 in
theorem set_put (B tb m1 m2 n1 n2 : Nat) (D1 D2 : DataW Unit) (p : Int) (k n : ByteArray) (w : World) (h : Tab w B tb m1 m2 n1 n2 D1 D2) (hs : n.size < 2 ^ 60) (hK : Kinds w) (hS : SortsA w) (hok : okTurn p k n = true)
    (b : Bool) (hh : Maps.has (pickD (numI k) D1 D2) (.string n.data.toList) = b) (hp : ¬ p = 0) (hz1 : n1 < 1000) (hz2 : n2 < 1000) (hz : b = true ∨ Maps.size D1 + Maps.size D2 < 100) :
    Calls Tryd.prog 23 #[.pointer (some ⟨tb, 0, none⟩), .int .i64 p, .string k, .string n] w fun e w' => e = .returned (.int .i64 0) ∧ Tab w' B tb m1 m2 (n1 + 1) (n2 + 1) (putD (inF (numI k)) D1 n p (numI k)) (putD (!inF (numI k)) D2 n p (numI k)) ∧ w.grownBy w' (some (pickB (numI k) m1 m2)) := by
  obtain ⟨d1, d2, d3, d4, d5⟩ := okTurn_more hok
  have d6 : ¬ p < 0 := by omega
  have d7 : ¬ 1200 < p := by omega
  have B1 : Below w.heap.size w (w.alloc (.cells #[.int .i64 p, .int .u8 (numI k)] 100)) := (Below.refl _ _).alloc (Nat.le_refl _) _
  have T1 := h.below B1
  generalize hF : numI k = f at *
  go_enter Tryd.func23, Tryd.ntmps23
  go_wp2_with (first
    | (go_at_call 42; refine (kindOf_any _ _ hK).mono ?_; rw [hF, d3]; rintro e w' ⟨rfl, hw⟩; have hw := hw.symm; subst hw)
    | (go_at_call 43; refine (may_any _ _ hS hs).mono ?_; rw [d4]; rintro e w' ⟨rfl, hw⟩; have hw := hw.symm; subst hw)
    | (go_at_call 44; refine (sort_any tb m1 m2 _ _ _ T1.c1 T1.c2).mono ?_; rintro e w2 ⟨rfl, hb2⟩; have T2 := T1.below hb2; obtain ⟨pp, kk, hlk⟩ : ∃ pp kk, (Instr.lookup 102 (.map (some (pickB f m1 m2))) (.string n) true).run Tryd.prog w2 = .ok (.tuple #[.agg #[.int .i64 pp, .int .u8 kk], .bool b]) w2 := by rw [← hh]; exact T2.look f n (by omega)))
  have A3 : Below w2.heap.size w2 (w2.alloc (.cells #[.int .i64 pp, .int .u8 kk] 100)) := (Below.refl _ _).alloc (Nat.le_refl _) _
  have T3 := T2.below A3
  have c1 := T3.c1
  have c2 := T3.c2
  have z1 := T3.o1.size_le
  have z2 := T3.o2.size_le
  have l1 : ∀ n ty, (Builtin.len_ #[102] ty #[.map (some m1)]).run Tryd.prog ((w2.alloc (.cells #[.int .i64 pp, .int .u8 kk] 100)).drewN n) = .ok (.int .i64 (Maps.size D1)) ((w2.alloc (.cells #[.int .i64 pp, .int .u8 kk] 100)).drewN n) := fun n ty => World.ownsMap.len (w := (w2.alloc (.cells #[.int .i64 pp, .int .u8 kk] 100)).drewN n) T3.o1 Tryd.underlying102 ty
  have l2 : ∀ n ty, (Builtin.len_ #[102] ty #[.map (some m2)]).run Tryd.prog ((w2.alloc (.cells #[.int .i64 pp, .int .u8 kk] 100)).drewN n) = .ok (.int .i64 (Maps.size D2)) ((w2.alloc (.cells #[.int .i64 pp, .int .u8 kk] 100)).drewN n) := fun n ty => World.ownsMap.len (w := (w2.alloc (.cells #[.int .i64 pp, .int .u8 kk] 100)).drewN n) T3.o2 Tryd.underlying102 ty
  have x0 : (w2.alloc (.cells #[.int .i64 pp, .int .u8 kk] 100)).cell? ⟨w.heap.size, 0, none⟩ = some (.int .i64 p) := keep A3 (keep hb2 (by simp))
  have x1 : (w2.alloc (.cells #[.int .i64 pp, .int .u8 kk] 100)).cell? ⟨w.heap.size, 1, none⟩ = some (.int .u8 f) := keep A3 (keep hb2 (by simp))
  have B4 : Below w.heap.size w (w2.alloc (.cells #[.int .i64 pp, .int .u8 kk] 100)) := B1.trans ((hb2.trans (A3.mono hb2.size)).mono B1.size)
  cases b
  · have hwr : IntKind.i64.wrap (((Maps.size D1 : Nat) : Int) + ((Maps.size D2 : Nat) : Int)) = ((Maps.size D1 : Nat) : Int) + ((Maps.size D2 : Nat) : Int) := by
      rw [IntKind.wrap_i64]; omega
    have s1 : ((Maps.size D1 : Nat) : Int) + ((Maps.size D2 : Nat) : Int) < 100 := by
      rcases hz with h | h
      · cases h
      · omega
    go_quiet (fail)
    have T4 : Tab ((w2.alloc (.cells #[.int .i64 pp, .int .u8 kk] 100)).drewN nq) B tb m1 m2 n1 n2 D1 D2 := ⟨T3.c1, T3.c2, T3.o1, T3.o2, T3.ne, T3.bt, T3.b1, T3.b2, T3.t1, T3.t2⟩
    have B5 : Below w.heap.size w ((w2.alloc (.cells #[.int .i64 pp, .int .u8 kk] 100)).drewN nq) := ⟨B4.os, B4.tape, B4.output, B4.size, B4.block⟩
    clear l1 l2 hh z1 z2
    go_wp2_with (go_at_call 45; refine (tput_any _ _ _ _ _ _ _ _ _ _ _ _ T4 hz1 hz2 hp (by omega)).mono ?_; rintro e w5 ⟨rfl, hP⟩)
    all_goals first
      | (go_ret; exact ⟨rfl, hP.1, grow_below B5 hP.2.2⟩)
      | (exfalso
         have hx : (p != 0) = true ∧ 100 ≤ ((Maps.size D1 : Nat) : Int) + ((Maps.size D2 : Nat) : Int) := by assumption
         omega)
  · go_quiet (fail)
    have T4 : Tab ((w2.alloc (.cells #[.int .i64 pp, .int .u8 kk] 100)).drewN nq) B tb m1 m2 n1 n2 D1 D2 := ⟨T3.c1, T3.c2, T3.o1, T3.o2, T3.ne, T3.bt, T3.b1, T3.b2, T3.t1, T3.t2⟩
    have B5 : Below w.heap.size w ((w2.alloc (.cells #[.int .i64 pp, .int .u8 kk] 100)).drewN nq) := ⟨B4.os, B4.tape, B4.output, B4.size, B4.block⟩
    clear l1 l2 hh z1 z2
    go_wp2_with (go_at_call 45; refine (tput_any _ _ _ _ _ _ _ _ _ _ _ _ T4 hz1 hz2 hp (by omega)).mono ?_; rintro e w5 ⟨rfl, hP⟩)
    go_ret
    exact ⟨rfl, hP.1, grow_below B5 hP.2.2⟩
set_option maxRecDepth 100000 in
set_option maxHeartbeats 4000000 in
theorem set_del (B tb m1 m2 n1 n2 : Nat) (D1 D2 : DataW Unit) (k n : ByteArray) (w : World) (h : Tab w B tb m1 m2 n1 n2 D1 D2) (hs : n.size < 2 ^ 60) (hK : Kinds w) (hS : SortsA w) (hok : okTurn 0 k n = true)
    (b : Bool) (hh : Maps.has (pickD (numI k) D1 D2) (.string n.data.toList) = b) :
    Calls Tryd.prog 23 #[.pointer (some ⟨tb, 0, none⟩), .int .i64 0, .string k, .string n] w fun e w' => e = .returned (.int .i64 0) ∧ Tab w' B tb m1 m2 n1 n2 (delD (inF (numI k)) D1 n) (delD (!inF (numI k)) D2 n) ∧ w.grownBy w' (some (pickB (numI k) m1 m2)) := by
  obtain ⟨d1, d2, d3, d4, d5⟩ := okTurn_more hok
  have d6 : ¬ (0 : Int) < 0 := by omega
  have d7 : ¬ (1200 : Int) < 0 := by omega
  have B1 : Below w.heap.size w (w.alloc (.cells #[.int .i64 0, .int .u8 (numI k)] 100)) := (Below.refl _ _).alloc (Nat.le_refl _) _
  have T1 := h.below B1
  generalize hF : numI k = f at *
  go_enter Tryd.func23, Tryd.ntmps23
  go_wp2_with (first
    | (go_at_call 42; refine (kindOf_any _ _ hK).mono ?_; rw [hF, d3]; rintro e w' ⟨rfl, hw⟩; have hw := hw.symm; subst hw)
    | (go_at_call 43; refine (may_any _ _ hS hs).mono ?_; rw [d4]; rintro e w' ⟨rfl, hw⟩; have hw := hw.symm; subst hw)
    | (go_at_call 44; refine (sort_any tb m1 m2 _ _ _ T1.c1 T1.c2).mono ?_; rintro e w2 ⟨rfl, hb2⟩; have T2 := T1.below hb2; obtain ⟨pp, kk, hlk⟩ : ∃ pp kk, (Instr.lookup 102 (.map (some (pickB f m1 m2))) (.string n) true).run Tryd.prog w2 = .ok (.tuple #[.agg #[.int .i64 pp, .int .u8 kk], .bool b]) w2 := by rw [← hh]; exact T2.look f n (by omega)))
  have A3 : Below w2.heap.size w2 (w2.alloc (.cells #[.int .i64 pp, .int .u8 kk] 100)) := (Below.refl _ _).alloc (Nat.le_refl _) _
  have T3 := T2.below A3
  have c1 := T3.c1
  have c2 := T3.c2
  have z1 := T3.o1.size_le
  have z2 := T3.o2.size_le
  have l1 : ∀ n ty, (Builtin.len_ #[102] ty #[.map (some m1)]).run Tryd.prog ((w2.alloc (.cells #[.int .i64 pp, .int .u8 kk] 100)).drewN n) = .ok (.int .i64 (Maps.size D1)) ((w2.alloc (.cells #[.int .i64 pp, .int .u8 kk] 100)).drewN n) := fun n ty => World.ownsMap.len (w := (w2.alloc (.cells #[.int .i64 pp, .int .u8 kk] 100)).drewN n) T3.o1 Tryd.underlying102 ty
  have l2 : ∀ n ty, (Builtin.len_ #[102] ty #[.map (some m2)]).run Tryd.prog ((w2.alloc (.cells #[.int .i64 pp, .int .u8 kk] 100)).drewN n) = .ok (.int .i64 (Maps.size D2)) ((w2.alloc (.cells #[.int .i64 pp, .int .u8 kk] 100)).drewN n) := fun n ty => World.ownsMap.len (w := (w2.alloc (.cells #[.int .i64 pp, .int .u8 kk] 100)).drewN n) T3.o2 Tryd.underlying102 ty
  have x0 : (w2.alloc (.cells #[.int .i64 pp, .int .u8 kk] 100)).cell? ⟨w.heap.size, 0, none⟩ = some (.int .i64 0) := keep A3 (keep hb2 (by simp))
  have x1 : (w2.alloc (.cells #[.int .i64 pp, .int .u8 kk] 100)).cell? ⟨w.heap.size, 1, none⟩ = some (.int .u8 f) := keep A3 (keep hb2 (by simp))
  have B4 : Below w.heap.size w (w2.alloc (.cells #[.int .i64 pp, .int .u8 kk] 100)) := B1.trans ((hb2.trans (A3.mono hb2.size)).mono B1.size)
  cases b
  all_goals
    go_quiet (fail)
    have T4 : Tab ((w2.alloc (.cells #[.int .i64 pp, .int .u8 kk] 100)).drewN nq) B tb m1 m2 n1 n2 D1 D2 := ⟨T3.c1, T3.c2, T3.o1, T3.o2, T3.ne, T3.bt, T3.b1, T3.b2, T3.t1, T3.t2⟩
    have B5 : Below w.heap.size w ((w2.alloc (.cells #[.int .i64 pp, .int .u8 kk] 100)).drewN nq) := ⟨B4.os, B4.tape, B4.output, B4.size, B4.block⟩
    clear l1 l2 hh z1 z2
    go_wp2_with (go_at_call 45; refine (tdel_any _ _ _ _ _ _ _ _ _ _ _ T4 (by omega)).mono ?_; rintro e w5 ⟨rfl, hP⟩)
    go_ret
    exact ⟨rfl, hP.1, grow_below B5 hP.2.2⟩
end Go.Proofs.YtoobbkckpabamaaDoor
