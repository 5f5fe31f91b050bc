/- The operators' Table (package operators): the walks of its small functions. -/
import Derived.Test.YtoobbkckpabamaaDoorWalkF
import Derived.Test.YtoobbkckpabamaaDoorWalkB
import Derived.Maps.Own
import Derived.StringKeys
import Derived.Deep.RegionWith
namespace Go.Proofs.YtoobbkckpabamaaDoor
open Go Go.RowKit Go.Maps
def inF (k : Int) : Bool := k == 0 || k == 1
theorem inFront_any (p k : Int) (w : World) : Calls Tryd.prog 63 #[.agg #[.int .i64 p, .int .u8 k]] w fun e w' => e = .returned (.bool (inF k)) ∧ Below w.heap.size w w' := by
  go_enter Tryd.func63, Tryd.ntmps63
  go_wp2
  · rename_i h
    go_ret
    exact ⟨ret_bool (by simp [inF, h]), (Below.refl _ _).alloc (Nat.le_refl _) _⟩
  · go_ret
    exact ⟨ret_bool rfl, (Below.refl _ _).alloc (Nat.le_refl _) _⟩
def pickB (k : Int) (m1 m2 : Nat) : Nat := if inF k then m1 else m2
theorem sort_any (tb m1 m2 : Nat) (p k : Int) (w : World) (h1 : w.cell? ⟨tb, 0, none⟩ = some (.map (some m1))) (h2 : w.cell? ⟨tb, 1, none⟩ = some (.map (some m2))) :
    Calls Tryd.prog 44 #[.pointer (some ⟨tb, 0, none⟩), .agg #[.int .i64 p, .int .u8 k]] w fun e w' => e = .returned (.map (some (pickB k m1 m2))) ∧ Below w.heap.size w w' := by
  have B1 : Below w.heap.size w (w.alloc (Obj.cells #[Value.int IntKind.i64 p, Value.int IntKind.u8 k] 100)) := (Below.refl _ _).alloc (Nat.le_refl _) _
  go_enter Tryd.func44, Tryd.ntmps44
  go_wp2_with (go_at_call 63; refine (inFront_any _ _ _).mono ?_; rintro e w1 ⟨rfl, hb⟩; have c1 := keep hb (keep B1 h1); have c2 := keep hb (keep B1 h2))
  all_goals
    rename_i hF
    have B2 := B1.trans (hb.mono B1.size)
    go_ret
    exact ⟨by simp [pickB, hF], B2⟩

/-- how an operator in a map reads -/
def opElem (v : Value) : Option (DataW Unit × List MemPlace) :=
  match v with
  | .agg cs => match cs.toList with
    | [.int .i64 p, .int .u8 k] => some (.agg [.lit (.int .i64 p), .lit (.int .u8 k)], [])
    | _ => none
  | _ => none
/-- a Table: two maps, blocks of its own from B on -/
structure Tab (w : World) (B tb m1 m2 n1 n2 : Nat) (D1 D2 : DataW Unit) : Prop where
  c1 : w.cell? ⟨tb, 0, none⟩ = some (.map (some m1))
  c2 : w.cell? ⟨tb, 1, none⟩ = some (.map (some m2))
  o1 : w.ownsMap Tryd.prog 9 opElem m1 n1 D1
  o2 : w.ownsMap Tryd.prog 9 opElem m2 n2 D2
  ne : m1 ≠ m2
  bt : B ≤ tb
  b1 : B ≤ m1
  b2 : B ≤ m2
  t1 : tb ≠ m1
  t2 : tb ≠ m2
theorem Tab.below {w w' : World} {B tb m1 m2 n1 n2 : Nat} {D1 D2 : DataW Unit} (h : Tab w B tb m1 m2 n1 n2 D1 D2) (hb : Below w.heap.size w w') : Tab w' B tb m1 m2 n1 n2 D1 D2 := by
  have hg : w.grownBy w' none := ⟨hb.os, hb.tape, hb.output, hb.size, fun k hk _ => hb.block k hk⟩
  exact ⟨keep hb h.c1, keep hb h.c2, h.o1.kept hg (by simp), h.o2.kept hg (by simp), h.ne, h.bt, h.b1, h.b2, h.t1, h.t2⟩
theorem law9 : Keyed Tryd.prog 9 := string_keyed Tryd.underlying9
theorem Below.of_block {B B' : Nat} {w w' : World} (h : Below B w w') (hB : B' ≤ B) : Below B' w w' := h.mono hB
theorem Tab.lt {w : World} {B tb m1 m2 n1 n2 : Nat} {D1 D2 : DataW Unit} (h : Tab w B tb m1 m2 n1 n2 D1 D2) : B < w.heap.size := by
  have := lt_cell h.c1; have h2 := h.bt; simp only at this; omega
/-- how an operator is told -/
def opD (p k : Int) : DataW Unit := .agg [.lit (.int .i64 p), .lit (.int .u8 k)]
/-- the datum behind a store -/
def putD (b : Bool) (D : DataW Unit) (nm : ByteArray) (p k : Int) : DataW Unit := if b then D.put (.string nm.data.toList) (opD p k) else D
theorem Tab.upd {w : World} {B tb m1 m2 n1 n2 : Nat} {D1 D2 : DataW Unit} (h : Tab w B tb m1 m2 n1 n2 D1 D2) (hn1 : n1 < 1000) (hn2 : n2 < 1000) (p k : Int) (nm : ByteArray) (hs : nm.size ≤ 1000) :
    ∃ w', (Instr.mapUpdate 102 (.map (some (pickB k m1 m2))) (.string nm) (.agg #[.int .i64 p, .int .u8 k])).run Tryd.prog w = .ok () w' ∧
      Tab w' B tb m1 m2 (n1 + 1) (n2 + 1) (putD (inF k) D1 nm p k) (putD (!inF k) D2 nm p k) ∧ Below B w w' ∧ w.grownBy w' (some (pickB k m1 m2)) := by
  have hkey : keyOf Tryd.prog 9 (.string nm) = some (.string nm.data.toList) := WideMaps.keyOf_string_mk Tryd.underlying9 (by unfold maxLen; omega)
  have hv : opElem (.agg #[.int .i64 p, .int .u8 k]) = some (opD p k, []) := rfl
  cases hF : inF k
  · obtain ⟨w', hrun, ho, hg⟩ := h.o2.update law9 Tryd.underlying102 (by unfold maxLen; omega) hkey hv
    refine ⟨w', by simpa [pickB, hF] using hrun, ⟨hg.cell h.c1 (by simpa using h.t2), hg.cell h.c2 (by simpa using h.t2), ?_, ?_, h.ne, h.bt, h.b1, h.b2, h.t1, h.t2⟩, ?_⟩
    · simpa [putD] using (h.o1.kept hg (by simpa using h.ne)).mono (Nat.le_succ n1)
    · simpa [putD] using ho
    · exact ⟨(Below.refl B w).grown hg (Nat.le_of_lt h.lt) (fun q hq => by cases hq; exact h.b2), by simpa [pickB, hF] using hg⟩
  · obtain ⟨w', hrun, ho, hg⟩ := h.o1.update law9 Tryd.underlying102 (by unfold maxLen; omega) hkey hv
    refine ⟨w', by simpa [pickB, hF] using hrun, ⟨hg.cell h.c1 (by simpa using h.t1), hg.cell h.c2 (by simpa using h.t1), ?_, ?_, h.ne, h.bt, h.b1, h.b2, h.t1, h.t2⟩, ?_⟩
    · simpa [putD] using ho
    · simpa [putD] using (h.o2.kept hg (by simpa using Ne.symm h.ne)).mono (Nat.le_succ n2)
    · exact ⟨(Below.refl B w).grown hg (Nat.le_of_lt h.lt) (fun q hq => by cases hq; exact h.b1), by simpa [pickB, hF] using hg⟩
/-- on the way through a store: the Table stands, the operator lies in its own block, nothing below has turned -/
structure RSt (w W : World) (B tb m1 m2 n1 n2 : Nat) (D1 D2 : DataW Unit) (p k : Int) : Prop where
  tab : Tab W B tb m1 m2 n1 n2 D1 D2
  bel : Below w.heap.size w W
  b0 : W.cell? ⟨w.heap.size, 0, none⟩ = some (.int .i64 p)
  b1 : W.cell? ⟨w.heap.size, 1, none⟩ = some (.int .u8 k)
theorem RSt.next {w W W' : World} {B tb m1 m2 n1 n2 : Nat} {D1 D2 : DataW Unit} {p k : Int} (h : RSt w W B tb m1 m2 n1 n2 D1 D2 p k) (hb : Below W.heap.size W W') : RSt w W' B tb m1 m2 n1 n2 D1 D2 p k :=
  ⟨h.tab.below hb, h.bel.trans (hb.mono h.bel.size), keep hb h.b0, keep hb h.b1⟩
/-- what a store leaves -/
def TPost (w w' : World) (B tb m1 m2 n1 n2 : Nat) (D1 D2 : DataW Unit) (p k : Int) (nm : ByteArray) : Prop :=
  Tab w' B tb m1 m2 (n1 + 1) (n2 + 1) (putD (inF k) D1 nm p k) (putD (!inF k) D2 nm p k) ∧ Below B w w' ∧ w.grownBy w' (some (pickB k m1 m2))
theorem RSt.upd {w W : World} {B tb m1 m2 n1 n2 : Nat} {D1 D2 : DataW Unit} {p k : Int} (h : RSt w W B tb m1 m2 n1 n2 D1 D2 p k) (hB : B ≤ w.heap.size) (hn1 : n1 < 1000) (hn2 : n2 < 1000) (nm : ByteArray) (hs : nm.size ≤ 1000) :
    ∃ w', (Instr.mapUpdate 102 (.map (some (pickB k m1 m2))) (.string nm) (.agg #[.int .i64 p, .int .u8 k])).run Tryd.prog W = .ok () w' ∧ TPost w w' B tb m1 m2 n1 n2 D1 D2 p k nm := by
  obtain ⟨w', hr, ht, hb, hg⟩ := h.tab.upd hn1 hn2 p k nm hs
  refine ⟨w', hr, ht, (h.bel.mono hB).trans hb, ⟨hg.os.trans h.bel.os, hg.tape.trans h.bel.tape, hg.output.trans h.bel.output, Nat.le_trans h.bel.size hg.size, fun q hq hne => (hg.block q (Nat.lt_of_lt_of_le hq h.bel.size) hne).trans (h.bel.block q hq)⟩⟩
theorem RSt.first {w : World} {B tb m1 m2 n1 n2 : Nat} {D1 D2 : DataW Unit} (h : Tab w B tb m1 m2 n1 n2 D1 D2) (p k : Int) : RSt w (w.alloc (Obj.cells #[Value.int IntKind.i64 p, Value.int IntKind.u8 k] 100)).drew B tb m1 m2 n1 n2 D1 D2 p k := by
  have B0 : Below w.heap.size w (w.alloc (Obj.cells #[Value.int IntKind.i64 p, Value.int IntKind.u8 k] 100)).drew := ((Below.refl _ _).alloc (Nat.le_refl _) _).drew
  exact ⟨h.below B0, B0, by simp, by simp⟩
set_option maxRecDepth 100000 in
set_option maxHeartbeats 4000000 in
theorem tput_any (B tb m1 m2 n1 n2 : Nat) (D1 D2 : DataW Unit) (p k : Int) (nm : ByteArray) (w : World) (h : Tab w B tb m1 m2 n1 n2 D1 D2) (hn1 : n1 < 1000) (hn2 : n2 < 1000) (hp : ¬ p = 0) (hs : nm.size ≤ 1000) :
    Calls Tryd.prog 45 #[.pointer (some ⟨tb, 0, none⟩), .agg #[.int .i64 p, .int .u8 k], .string nm] w fun e w' => e = .returned (.tuple #[]) ∧ TPost w w' B tb m1 m2 n1 n2 D1 D2 p k nm := by
  have hR := RSt.first h p k
  have hB := Nat.le_of_lt h.lt
  have b0 := hR.b0
  have b1 := hR.b1
  go_enter Tryd.func45, Tryd.ntmps45
  go_wp2
  go_region_with (first
    | (go_at_call 44; refine (sort_any tb m1 m2 _ _ _ (RSt.tab (w := w) (by assumption)).c1 (RSt.tab (w := w) (by assumption)).c2).mono ?_; rintro e ws ⟨rfl, hbs⟩; have hRs := RSt.next (w := w) (by assumption) hbs; have bs0 := hRs.b0; have bs1 := hRs.b1; obtain ⟨wu, hru, hTu⟩ := hRs.upd hB hn1 hn2 nm hs)
    | (go_at_call 64; refine (clone_any _ _ (by omega)).mono ?_; rintro e wc ⟨rfl, hbc⟩; have hRc := RSt.next (w := w) (by assumption) hbc; have bc0 := hRc.b0; have bc1 := hRc.b1; obtain ⟨wv, hrv, hTv⟩ := hRc.upd hB hn1 hn2 nm hs))
  all_goals
    go_end0
    exact ⟨rfl, by assumption⟩
end Go.Proofs.YtoobbkckpabamaaDoor
