/- Ops on a Session of New's, its lock free: it tells the document's list; one step of it holds. Under: the tables at package level hold what the program lays. -/
import Derived.Test.YtoobbkckpabamaaDoorSortM
namespace Go.Proofs.YtoobbkckpabamaaDoor
open Go Go.RowKit Go.Maps Go.MuLone
set_option maxRecDepth 100000 in
set_option maxHeartbeats 4000000 in
theorem ops_any (B sb tb m1 m2 : Nat) (ts : List Opr) (D1 D2 : DataW Unit) (w : World) (h : Sess w B sb tb m1 m2 D1 D2) (hC : Corr ts D1 D2) (hl : ts.length ≤ 100) (hK : Kinds w) (hB : 2 < B) :
    Calls Tryd.prog 11 #[.pointer (some ⟨sb, 0, none⟩)] w fun e w' => ∃ g cap, e = .returned (.slice (some ⟨g, 0, none⟩) ts.length cap) ∧ w'.ownsRow w.heap.size 94 3 (.slice (some ⟨g, 0, none⟩) ts.length cap) ts.length (flat ts) ∧
      Sess w' B sb tb m1 m2 D1 D2 ∧ Turned w w' [sb] := by
  obtain ⟨c0, f0, c2, c3, hT, h1, h2, h3⟩ := h
  have hBs : B ≤ sb := by have := hT.bt; omega
  have hsl := lt_cell c0
  simp only at hsl
  have t1 := turned_set w ⟨sb, 0, none⟩ (.int .i32 1)
  have B1 : Below B w (w.setCell ⟨sb, 0, none⟩ (.int .i32 1)) := (Below.refl _ _).setCell hBs _
  have T1 := t1.tab hT (by simp; omega) (by simp; omega) (by simp; omega)
  have c3' : (w.setCell ⟨sb, 0, none⟩ (.int .i32 1)).cell? ⟨sb, 3, none⟩ = some (.pointer (some ⟨tb, 0, none⟩)) := (World.cell?_setCell_other _ _ _ _ (by simp)).trans c3
  have c2' : (w.setCell ⟨sb, 0, none⟩ (.int .i32 1)).cell? ⟨sb, 2, none⟩ = some (.pointer (some ⟨sb, 0, none⟩)) := (World.cell?_setCell_other _ _ _ _ (by simp)).trans c2
  have c0' := World.cell?_setCell_same w ⟨sb, 0, none⟩ (.int .i32 1) c0
  have hz0 : (w.setCell ⟨sb, 0, none⟩ (.int .i32 1)).heap.size = w.heap.size := by simp
  have hall := all_any B tb m1 m2 ts D1 D2 _ T1 hC hl (kinds_low hK B1 hB)
  rw [hz0] at hall
  go_enter_defers Tryd.func11, Tryd.ntmps11
  go_wp2_with (first
    | (go_at_call 20; refine (made_made sb _ c2).mono ?_; rintro e w' ⟨rfl, hw⟩; have hw := hw.symm; subst hw)
    | (go_at_call 21; refine (lock_free Tryd.muLib ⟨sb, 0, none⟩ _ c0 f0).mono ?_; rintro e w' ⟨rfl, hw⟩; subst hw)
    | (go_at_call 30; refine hall.mono ?_; rintro e w2 ⟨g, cap, rfl, ho, hb⟩))
  have t2 : Turned (w.setCell ⟨sb, 0, none⟩ (.int .i32 1)) w2 [] := turned_nil (by rw [hz0]; exact hb)
  have hz : (w.setCell ⟨sb, 0, none⟩ (.int .i32 1)).frozen? ⟨sb, 0, none⟩ = false := by simp [f0]
  have e0 := t2.cell (a := ⟨sb, 0, none⟩) (by simp) c0'
  have ez := (t2.froz (a := ⟨sb, 0, none⟩) (lt_cell c0') (by simp)).trans hz
  have t3 := turned_set w2 ⟨sb, 0, none⟩ (.int .i32 0)
  have tall : Turned w (w2.setCell ⟨sb, 0, none⟩ (.int .i32 0)) [sb] := ((t1.wide (by simp)).trans (t2.wide (by simp))).trans (t3.wide (by simp))
  have hT2 := t2.tab T1 (by simp) (by simp) (by simp)
  have hS' : Sess (w2.setCell ⟨sb, 0, none⟩ (.int .i32 0)) B sb tb m1 m2 D1 D2 :=
    ⟨World.cell?_setCell_same w2 _ _ e0, by simp [ez], (World.cell?_setCell_other _ _ _ _ (by simp)).trans (t2.cell (a := ⟨sb, 2, none⟩) (by simp) c2'), (World.cell?_setCell_other _ _ _ _ (by simp)).trans (t2.cell (a := ⟨sb, 3, none⟩) (by simp) c3'),
      t3.tab hT2 (by simp; omega) (by simp; omega) (by simp; omega), h1, h2, h3⟩
  have ho' := ownsRow_setCell_below ho (a := ⟨sb, 0, none⟩) hsl (.int .i32 0)
  refine leaves_cons (f := 22) (args := #[.pointer (some ⟨sb, 0, none⟩)]) (by simp) (by simp [go_sem]) ?_
  refine (unlock_deferred Tryd.muLib ⟨sb, 0, none⟩ .returning _ e0 ez).mono ?_
  rintro e u' w'' ⟨rfl, rfl, rfl⟩
  exact ⟨_, results_tmp rfl _ _ _, g, cap, rfl, ho', hS', tall⟩
end Go.Proofs.YtoobbkckpabamaaDoor
