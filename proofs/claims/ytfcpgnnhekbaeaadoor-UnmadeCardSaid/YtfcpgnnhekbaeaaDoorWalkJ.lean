/- New makes a Session, begun a Session beside the document's. Under: the tables at package level hold what the program lays. -/
import Derived.Test.YtfcpgnnhekbaeaaDoorWalkI
import Derived.Test.YtfcpgnnhekbaeaaDoorWalkE
namespace Go.Proofs.YtfcpgnnhekbaeaaDoor
open Go Go.RowKit Go.Maps
/-- what New leaves: a Session that knows itself, its lock free, with a Table of its own -/
def SPost (B : Nat) (w' : World) (sb : Nat) : Prop :=
  ∃ tb m1 m2, w'.cell? ⟨sb, 0, none⟩ = some (.int .i32 0) ∧ w'.frozen? ⟨sb, 0, none⟩ = false ∧ w'.cell? ⟨sb, 2, none⟩ = some (.pointer (some ⟨sb, 0, none⟩)) ∧ w'.cell? ⟨sb, 3, none⟩ = some (.pointer (some ⟨tb, 0, none⟩)) ∧
    Tab w' B tb m1 m2 14 14 (mapF 14) (mapB 14) ∧ tb < sb ∧ m1 < sb ∧ m2 < sb
theorem SPost.below {B sb : Nat} {w w' : World} (h : SPost B w sb) (hb : Below w.heap.size w w') : SPost B w' sb := by
  obtain ⟨tb, m1, m2, c0, f0, c2, c3, hT, h1, h2, h3⟩ := h
  exact ⟨tb, m1, m2, keep hb c0, (hb.frozen (p := ⟨sb, 0, none⟩) (lt_cell c0)).trans f0, keep hb c2, keep hb c3, hT.below hb, h1, h2, h3⟩
theorem Tab.lts {w : World} {B tb m1 m2 n1 n2 : Nat} {D1 D2 : DataW Unit} (h : Tab w B tb m1 m2 n1 n2 D1 D2) : tb < w.heap.size ∧ m1 < w.heap.size ∧ m2 < w.heap.size :=
  ⟨lt_cell h.c1, h.o1.lt, h.o2.lt⟩
theorem Tab.setOther {w : World} {B tb m1 m2 n1 n2 : Nat} {D1 D2 : DataW Unit} (h : Tab w B tb m1 m2 n1 n2 D1 D2) (a : Addr) (v : Value) (h1 : tb ≠ a.block) (h2 : m1 ≠ a.block) (h3 : m2 ≠ a.block) : Tab (w.setCell a v) B tb m1 m2 n1 n2 D1 D2 := by
  have hg : w.grownBy (w.setCell a v) (some a.block) := ⟨rfl, rfl, rfl, by simp, fun k _ hk => Below.heap_setCell w a v k (fun e => hk (by rw [e]))⟩
  exact ⟨hg.cell h.c1 (by simpa using h1), hg.cell h.c2 (by simpa using h1), h.o1.kept hg (by simpa using h2), h.o2.kept hg (by simpa using h3), h.ne, h.bt, h.b1, h.b2, h.t1, h.t2⟩
set_option maxRecDepth 100000 in
set_option maxHeartbeats 4000000 in
theorem new_any (w : World) (hF : Firsts w) (hKi : Kinds w) : Calls Tryd.prog 15 #[] w fun e w' => ∃ sb, e = .returned (.pointer (some ⟨sb, 0, none⟩)) ∧ SPost w.heap.size w' sb ∧ Below w.heap.size w w' := by
  go_enter Tryd.func15, Tryd.ntmps15
  go_wp2_with (go_at_call 28; refine (tnew_any w hF hKi).mono ?_; rintro e w1 ⟨tb, rfl, m1, m2, hT, hb⟩)
  have hl := hT.lts
  go_ret
  exact ⟨_, rfl, ⟨tb, m1, m2, by simp, by simp, by simp, by simp, hT.below ((Below.refl _ _).alloc (Nat.le_refl _) _), hl.1, hl.2.1, hl.2.2⟩, hb.alloc hb.size _⟩
/-- what begun leaves: the two Sessions, side by side -/
def BPost (B : Nat) (w' : World) (bb : Nat) : Prop := ∃ sb, w'.cell? ⟨bb, 0, none⟩ = some (.pointer (some ⟨sb, 0, none⟩)) ∧ SPost B w' sb
set_option maxRecDepth 100000 in
set_option maxHeartbeats 4000000 in
theorem begun_any (w : World) (hF : Firsts w) (hKi : Kinds w) : Calls Tryd.prog 5 #[] w fun e w' => ∃ bb, e = .returned (.tuple #[.pointer (some ⟨bb, 0, none⟩), .bool true]) ∧ BPost w.heap.size w' bb ∧ Below w.heap.size w w' := by
  go_enter Tryd.func5, Tryd.ntmps5
  go_wp2_with (first
    | (go_at_call 15; refine (new_any w hF hKi).mono ?_; rintro e w1 ⟨sb, rfl, hS, hb⟩)
    | (go_at_call 16; refine (refNew_any _).mono ?_; rintro e w2 ⟨⟨rb, rfl⟩, hb2⟩))
  have hS2 := hS.below hb2
  have hB2 := hb.trans (hb2.mono hb.size)
  go_ret2
  exact ⟨_, rfl, ⟨sb, by simp, hS2.below ((Below.refl _ _).alloc (Nat.le_refl _) _)⟩, hB2.alloc hB2.size _⟩
/-- the sort of the letter a -/
def Sorts (w : World) : Prop := w.cell? ⟨2, 97, none⟩ = some (.int .u8 6)
theorem of_a (w : World) (h : Sorts w) : Calls Tryd.prog 63 #[.int .u8 97] w fun e w' => e = .returned (.int .u8 6) ∧ w' = w := by
  have h' : w.cell? ⟨2, 97, none⟩ = some (.int .u8 6) := h
  go_enter Tryd.func63, Tryd.ntmps63
  go_wp2
  go_ret
  exact ⟨rfl, rfl⟩
theorem stranger_a (w : World) (h : Sorts w) : Calls Tryd.prog 61 #[.string { data := #[97] }] w fun e w' => e = .returned (.int .i64 (-1)) ∧ w' = w := by
  go_enter Tryd.func61, Tryd.ntmps61
  go_wp2
  go_loop [6] (fun i => ∃ k : Nat, k ≤ 1 ∧ i = .int .i64 k) (fun i => 1 - (intOf i).toNat)
  case atStart => exact ⟨0, by omega, rfl⟩
  case round =>
    obtain ⟨k, hk, rfl⟩ := hrel
    match k, hk with
    | 0, _ =>
      go_wp2_with (go_at_call 63; refine (of_a _ h).mono ?_; rintro e w' ⟨rfl, rfl⟩)
      go_round
      case rel => exact ⟨1, by omega, rfl⟩
      case measure => simp [intOf]
    | 1, _ =>
      go_wp2
      go_ret
      exact ⟨rfl, rfl⟩
theorem isName_a (w : World) (h : Sorts w) : Calls Tryd.prog 49 #[.string { data := #[97] }] w fun e w' => e = .returned (.bool true) ∧ w' = w := by
  go_enter Tryd.func49, Tryd.ntmps49
  go_wp2_with (go_at_call 61; refine (stranger_a _ h).mono ?_; rintro e w' ⟨rfl, rfl⟩)
  go_ret
  exact ⟨rfl, rfl⟩
theorem turned_a (w : World) (h : Sorts w) : Calls Tryd.prog 34 #[.string { data := #[97] }] w fun e w' => e = .returned (.bool true) ∧ w' = w := by
  go_enter Tryd.func34, Tryd.ntmps34
  go_wp2_with (go_at_call 49; refine (isName_a _ h).mono ?_; rintro e w' ⟨rfl, rfl⟩)
  go_ret
  exact ⟨rfl, rfl⟩
end Go.Proofs.YtfcpgnnhekbaeaaDoor
