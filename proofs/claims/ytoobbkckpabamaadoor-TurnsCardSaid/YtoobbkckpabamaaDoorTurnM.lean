/- Op on a Session of New's, its lock free: it answers as the document's Turn, and the Session stands as before, its maps as the document's list. Under: the tables at package level hold what the program lays. -/
import Derived.Test.YtoobbkckpabamaaDoorTurnL
import Derived.Test.YtoobbkckpabamaaDoorLocks
import Derived.Conc.MuLone
namespace Go.Proofs.YtoobbkckpabamaaDoor
open Go Go.RowKit Go.Maps
open Go.MuLone
theorem kinds_low {w w' : World} {B : Nat} (h : Kinds w) (hb : Below B w w') (hB : 2 < B) : Kinds w' :=
  ⟨(hb.cell (p := ⟨1, 0, none⟩) (Nat.lt_trans (by decide) hB)).trans h.k0, (hb.cell (p := ⟨1, 1, none⟩) (Nat.lt_trans (by decide) hB)).trans h.k1, (hb.cell (p := ⟨1, 2, none⟩) (Nat.lt_trans (by decide) hB)).trans h.k2, (hb.cell (p := ⟨1, 3, none⟩) (Nat.lt_trans (by decide) hB)).trans h.k3, (hb.cell (p := ⟨1, 4, none⟩) (Nat.lt_trans (by decide) hB)).trans h.k4, (hb.cell (p := ⟨1, 5, none⟩) (Nat.lt_trans (by decide) hB)).trans h.k5, (hb.cell (p := ⟨1, 6, none⟩) (Nat.lt_trans (by decide) hB)).trans h.k6⟩
theorem sorts_low {w w' : World} {B : Nat} (h : SortsA w) (hb : Below B w w') (hB : 2 < B) : SortsA w' := ⟨fun i hi => (hb.cell (p := ⟨2, i, none⟩) hB).trans (h.all i hi)⟩
theorem Tab.ends {w : World} {B tb m1 m2 n1 n2 : Nat} {D1 D2 : DataW Unit} (h : Tab w B tb m1 m2 n1 n2 D1 D2) : tb < w.heap.size ∧ m1 < w.heap.size ∧ m2 < w.heap.size :=
  ⟨lt_cell h.c1, h.o1.lt, h.o2.lt⟩
/-- nothing that was there has turned but these blocks -/
structure Turned (w w' : World) (S : List Nat) : Prop where
  os : w'.os = w.os
  tape : w'.tape = w.tape
  output : w'.output = w.output
  size : w.heap.size ≤ w'.heap.size
  block : ∀ q, q < w.heap.size → q ∉ S → w'.heap[q]? = w.heap[q]?
theorem Turned.cell {w w' : World} {S : List Nat} (h : Turned w w' S) {a : Addr} {v : Value} (ha : a.block ∉ S) (hc : w.cell? a = some v) : w'.cell? a = some v :=
  (World.cell?_of_block (w := w) (h.block a.block (lt_cell hc) ha)).trans hc
theorem Turned.froz {w w' : World} {S : List Nat} (h : Turned w w' S) {a : Addr} (hl : a.block < w.heap.size) (ha : a.block ∉ S) : w'.frozen? a = w.frozen? a :=
  World.frozen?_of_block (w := w) (h.block a.block hl ha)
theorem Turned.below {w w' : World} {S : List Nat} {B : Nat} (h : Turned w w' S) (hB : B ≤ w.heap.size) (hS : ∀ s ∈ S, B ≤ s) : Below B w w' :=
  ⟨h.os, h.tape, h.output, h.size, fun q hq => h.block q (Nat.lt_of_lt_of_le hq hB) (fun hs => by have := hS q hs; omega)⟩
theorem Turned.trans {w w1 w2 : World} {S : List Nat} (h : Turned w w1 S) (g : Turned w1 w2 S) : Turned w w2 S :=
  ⟨g.os.trans h.os, g.tape.trans h.tape, g.output.trans h.output, Nat.le_trans h.size g.size, fun q hq hs => (g.block q (Nat.lt_of_lt_of_le hq h.size) hs).trans (h.block q hq hs)⟩
theorem Turned.wide {w w' : World} {S S' : List Nat} (h : Turned w w' S) (hS : ∀ s ∈ S, s ∈ S') : Turned w w' S' :=
  ⟨h.os, h.tape, h.output, h.size, fun q hq hs => h.block q hq (fun x => hs (hS q x))⟩
theorem turned_grown {w w' : World} {m : Nat} (h : w.grownBy w' (some m)) : Turned w w' [m] :=
  ⟨h.os, h.tape, h.output, h.size, fun q hq hs => h.block q hq (fun e => hs (by cases e; simp))⟩
theorem turned_set (w : World) (a : Addr) (v : Value) : Turned w (w.setCell a v) [a.block] :=
  ⟨rfl, rfl, rfl, by simp, fun q _ hs => Below.heap_setCell w a v q (fun e => hs (by simp [e]))⟩
theorem Turned.grown {w w' : World} {S : List Nat} {b : Nat} (h : Turned w w' S) (hb : b ∉ S) : ∀ {n : Nat} {D : DataW Unit}, w.ownsMap Tryd.prog 9 opElem b n D → w'.ownsMap Tryd.prog 9 opElem b n D := by
  rintro n D ⟨es, clock, hx, F, hs, rfl⟩
  have hlt : b < w.heap.size := by
    by_cases hl : b < w.heap.size
    · exact hl
    · rw [Array.getElem?_eq_none (by omega)] at hx; cases hx
  exact ⟨es, clock, (h.block b hlt hb).trans hx, F, hs, rfl⟩
theorem Turned.tab {w w' : World} {S : List Nat} {B tb m1 m2 n1 n2 : Nat} {D1 D2 : DataW Unit} (h : Turned w w' S) (ht : Tab w B tb m1 m2 n1 n2 D1 D2) (h0 : tb ∉ S) (h1 : m1 ∉ S) (h2 : m2 ∉ S) : Tab w' B tb m1 m2 n1 n2 D1 D2 :=
  ⟨h.cell h0 ht.c1, h.cell h0 ht.c2, h.grown h1 ht.o1, h.grown h2 ht.o2, ht.ne, ht.bt, ht.b1, ht.b2, ht.t1, ht.t2⟩
/-- a Session of New's: it knows itself, its lock is free, it has a Table of its own -/
structure Sess (w : World) (B sb tb m1 m2 : Nat) (D1 D2 : DataW Unit) : Prop where
  c0 : w.cell? ⟨sb, 0, none⟩ = some (.int .i32 0)
  f0 : w.frozen? ⟨sb, 0, none⟩ = false
  c2 : w.cell? ⟨sb, 2, none⟩ = some (.pointer (some ⟨sb, 0, none⟩))
  c3 : w.cell? ⟨sb, 3, none⟩ = some (.pointer (some ⟨tb, 0, none⟩))
  tab : Tab w B tb m1 m2 (Maps.size D1) (Maps.size D2) D1 D2
  l1 : tb < sb
  l2 : m1 < sb
  l3 : m2 < sb
theorem Sess.kept {w w' : World} {S : List Nat} {B sb tb m1 m2 : Nat} {D1 D2 : DataW Unit} (h : Sess w B sb tb m1 m2 D1 D2) (ht : Turned w w' S) (hs : ∀ s ∈ S, sb < s) : Sess w' B sb tb m1 m2 D1 D2 := by
  have no : ∀ q, q ≤ sb → q ∉ S := fun q hq hm => by have := hs q hm; omega
  exact ⟨ht.cell (no sb (Nat.le_refl _)) h.c0, (ht.froz (lt_cell h.c0) (no sb (Nat.le_refl _))).trans h.f0, ht.cell (no sb (Nat.le_refl _)) h.c2, ht.cell (no sb (Nat.le_refl _)) h.c3,
    ht.tab h.tab (no _ (Nat.le_of_lt h.l1)) (no _ (Nat.le_of_lt h.l2)) (no _ (Nat.le_of_lt h.l3)), h.l1, h.l2, h.l3⟩
set_option maxRecDepth 100000 in
set_option maxHeartbeats 4000000 in
theorem op_any (B sb tb m1 m2 : Nat) (ts : List Opr) (D1 D2 : DataW Unit) (p : Int) (k n : ByteArray) (w : World) (h : Sess w B sb tb m1 m2 D1 D2) (hC : Corr ts D1 D2) (hl : ts.length ≤ 100) (hs : n.size < 2 ^ 60) (hK : Kinds w) (hS : SortsA w) (hB : 2 < B) :
    Calls Tryd.prog 8 #[.pointer (some ⟨sb, 0, none⟩), .int .i64 p, .string k, .string n] w fun e w' => e = .returned (.int .i64 (turnE ts p k n)) ∧
      ∃ D1' D2', Sess w' B sb tb m1 m2 D1' D2' ∧ (∀ ts', TurnTo ts p k n ts' → Corr ts' D1' D2') ∧ Turned w w' [sb, m1, m2] := by
  obtain ⟨c0, f0, c2, c3, hT, h1, h2, h3⟩ := h
  have hBs : B ≤ sb := by have := hT.bt; omega
  have t1 := turned_set w ⟨sb, 0, none⟩ (.int .i32 1)
  have B1 : Below B w (w.setCell ⟨sb, 0, none⟩ (.int .i32 1)) := (Below.refl _ _).setCell hBs _
  have T1 := t1.tab hT (by simp; omega) (by simp; omega) (by simp; omega)
  have c3' : (w.setCell ⟨sb, 0, none⟩ (.int .i32 1)).cell? ⟨sb, 3, none⟩ = some (.pointer (some ⟨tb, 0, none⟩)) := (World.cell?_setCell_other _ _ _ _ (by simp)).trans c3
  have c2' : (w.setCell ⟨sb, 0, none⟩ (.int .i32 1)).cell? ⟨sb, 2, none⟩ = some (.pointer (some ⟨sb, 0, none⟩)) := (World.cell?_setCell_other _ _ _ _ (by simp)).trans c2
  have c0' := World.cell?_setCell_same w ⟨sb, 0, none⟩ (.int .i32 1) c0
  go_enter_defers Tryd.func8, Tryd.ntmps8
  go_wp2_with (first
    | (go_at_call 20; refine (made_made sb _ c2).mono ?_; rintro e w' ⟨rfl, hw⟩; have hw := hw.symm; subst hw)
    | (go_at_call 21; refine (lock_free Tryd.muLib ⟨sb, 0, none⟩ _ c0 f0).mono ?_; rintro e w' ⟨rfl, hw⟩; subst hw)
    | (go_at_call 23; refine (set_any B tb m1 m2 ts D1 D2 p k n _ T1 hC hl hs (kinds_low hK B1 hB) (sorts_low hS B1 hB)).mono ?_; rintro e w2 ⟨rfl, D1', D2', m, hm, hT2, hg, hcor⟩))
  have hm' : m < sb := by rcases hm with rfl | rfl <;> assumption
  have hmem : ∀ x ∈ [m], x ∈ [sb, m1, m2] := by
    rcases hm with rfl | rfl <;> simp
  have t2 := turned_grown hg
  have hz : (w.setCell ⟨sb, 0, none⟩ (.int .i32 1)).frozen? ⟨sb, 0, none⟩ = false := by simp [f0]
  have hsm : sb ∉ [m] := by simp; omega
  have e0 := t2.cell (a := ⟨sb, 0, none⟩) hsm c0'
  have ez := (t2.froz (a := ⟨sb, 0, none⟩) (lt_cell c0') hsm).trans hz
  have t3 := turned_set w2 ⟨sb, 0, none⟩ (.int .i32 0)
  have tall : Turned w (w2.setCell ⟨sb, 0, none⟩ (.int .i32 0)) [sb, m1, m2] := ((t1.wide (by simp)).trans (t2.wide hmem)).trans (t3.wide (by simp))
  have hS' : Sess (w2.setCell ⟨sb, 0, none⟩ (.int .i32 0)) B sb tb m1 m2 D1' D2' :=
    ⟨World.cell?_setCell_same w2 _ _ e0, by simp [ez], (World.cell?_setCell_other _ _ _ _ (by simp)).trans (t2.cell (a := ⟨sb, 2, none⟩) hsm c2'), (World.cell?_setCell_other _ _ _ _ (by simp)).trans (t2.cell (a := ⟨sb, 3, none⟩) hsm c3'),
      t3.tab hT2 (by simp; omega) (by simp; omega) (by simp; omega), h1, h2, h3⟩
  refine leaves_cons (f := 22) (args := #[.pointer (some ⟨sb, 0, none⟩)]) (by simp) (by simp [go_sem]) ?_
  refine (unlock_deferred Tryd.muLib ⟨sb, 0, none⟩ .returning _ e0 ez).mono ?_
  rintro e u' w'' ⟨rfl, rfl, rfl⟩
  exact ⟨_, results_tmp rfl _ _ _, rfl, D1', D2', hS', hcor, tall⟩
end Go.Proofs.YtoobbkckpabamaaDoor
