/- The law Turns: every step of the script holds. Under: the tables at package level hold what the program lays. -/
import Derived.Test.YtoobbkckpabamaaDoorPlayD
namespace Go.Proofs.YtoobbkckpabamaaDoor
open Go Go.RowKit Go.Maps
/-- a step of the script, cell by cell -/
structure El (w : World) (b o : Nat) (kd kk p mo : Int) (k n : ByteArray) (a6 a7 a8 a9 : Value) : Prop where
  c0 : w.cell? ⟨b, o, none⟩ = some (.int .i64 kd)
  c1 : w.cell? ⟨b, o + 1, none⟩ = some (.int .i64 kk)
  c2 : w.cell? ⟨b, o + 2, none⟩ = some (.int .i64 p)
  c3 : w.cell? ⟨b, o + 3, none⟩ = some (.int .i64 mo)
  c4 : w.cell? ⟨b, o + 4, none⟩ = some (.string k)
  c5 : w.cell? ⟨b, o + 5, none⟩ = some (.string n)
  c6 : w.cell? ⟨b, o + 6, none⟩ = some a6
  c7 : w.cell? ⟨b, o + 7, none⟩ = some a7
  c8 : w.cell? ⟨b, o + 8, none⟩ = some a8
  c9 : w.cell? ⟨b, o + 9, none⟩ = some a9
  sz : n.size < 2 ^ 60
theorem El.below {w w' : World} {b o : Nat} {kd kk p mo : Int} {k n : ByteArray} {a6 a7 a8 a9 : Value} (h : El w b o kd kk p mo k n a6 a7 a8 a9) (hb : Below w.heap.size w w') : El w' b o kd kk p mo k n a6 a7 a8 a9 :=
  ⟨keep hb h.c0, keep hb h.c1, keep hb h.c2, keep hb h.c3, keep hb h.c4, keep hb h.c5, keep hb h.c6, keep hb h.c7, keep hb h.c8, keep hb h.c9, h.sz⟩
/-- the script -/
def Scr (w : World) (S : Value) (len : Nat) : Prop :=
  len ≤ maxLen ∧ ((len = 0 ∧ ∃ sa cap, S = .slice sa 0 cap) ∨ ∃ b off cap, S = .slice (some ⟨b, off, none⟩) len cap ∧ ∀ i, i < len → ∃ kd kk p mo k n a6 a7 a8 a9, El w b (off + i * 10) kd kk p mo k n a6 a7 a8 a9)
theorem Scr.below {w w' : World} {S : Value} {len : Nat} (h : Scr w S len) (hb : Below w.heap.size w w') : Scr w' S len := by
  refine ⟨h.1, ?_⟩
  rcases h.2 with h1 | ⟨b, off, cap, rfl, h1⟩
  · exact Or.inl h1
  · refine Or.inr ⟨b, off, cap, rfl, fun i hi => ?_⟩
    obtain ⟨kd, kk, p, mo, k, n, a6, a7, a8, a9, hE⟩ := h1 i hi
    exact ⟨kd, kk, p, mo, k, n, a6, a7, a8, a9, hE.below hb⟩
theorem Fin.again {W w w' : World} {B bb sb tb m1 m2 rb : Nat} (hb : Below B W w) (h : Fin w w' B bb sb tb m1 m2 rb) : Fin W w' B bb sb tb m1 m2 rb := by
  obtain ⟨ts, E1, E2, hI, hB⟩ := h
  exact ⟨ts, E1, E2, hI, hb.trans hB⟩
set_option maxRecDepth 100000 in
set_option maxHeartbeats 8000000 in
theorem play_any (W : World) (S : Value) (len kb : Nat) (hS : Scr W S len) (k0 : W.cell? ⟨kb, 0, none⟩ = some (.int .i64 1)) (k1 : W.cell? ⟨kb, 1, none⟩ = some (.int .i64 2)) (hF : Firsts W) (hKi : Kinds W) (hSo : SortsA W) (hw : 2 < W.heap.size) :
    Calls Tryd.prog 5 #[S, .slice (some ⟨kb, 0, none⟩) 2 2] W fun e w' => e = .returned (.bool true) ∧ Below W.heap.size W w' := by
  have hbeg := begun_any W hF hKi hSo hw
  clear hF hKi hSo
  rcases hS with ⟨hmax, ⟨rfl, sa, cap, rfl⟩ | ⟨b, off, cap, rfl, hel⟩⟩
  · go_enter Tryd.func5, Tryd.ntmps5
    go_wp2_with (go_at_call 7; refine hbeg.mono ?_; rintro e w1 ⟨bb, sb, rb, rfl, ⟨tb, m1, m2, ts, D1, D2, hI⟩, hb⟩)
    refine wp_loop_once ?_
    go_wp2
    go_ret
    exact ⟨rfl, hb⟩
  · have HE : Aside (∀ i, i < len → ∃ kd kk p mo k n a6 a7 a8 a9, El W b (off + i * 10) kd kk p mo k n a6 a7 a8 a9) := hel
    clear hel
    go_enter Tryd.func5, Tryd.ntmps5
    go_wp2_with (go_at_call 7; refine hbeg.mono ?_; rintro e w1 ⟨bb, sb, rb, rfl, ⟨tb, m1, m2, ts, D1, D2, hI⟩, hb⟩)
    have HI : Aside (Fin W w1 W.heap.size bb sb tb m1 m2 rb) := ⟨ts, D1, D2, hI, hb⟩
    clear hI hb hbeg
    unfold maxLen at hmax
    go_loopw [7] (fun i wr => ∃ k : Nat, k ≤ len ∧ i = .int .i64 k ∧ Aside (Fin W wr W.heap.size bb sb tb m1 m2 rb)) (fun i _ => len - (intOf i).toNat)
    case atStart => exact ⟨0, Nat.zero_le _, rfl, HI⟩
    case round =>
      clear HI
      obtain ⟨k, hk, rfl, HI⟩ := hrel
      by_cases hlt : k < len
      · have hltz : (k : Int) < (len : Int) := by omega
        obtain ⟨kd, kk, p, mo, kb', n, a6, a7, a8, a9, hE⟩ := HE.out k hlt
        have HEl : Aside (El W b (off + k * 10) kd kk p mo kb' n a6 a7 a8 a9) := hE
        clear hE
        go_wp2
        go_loopw [8] (fun j wr2 => ∃ q : Nat, q ≤ 2 ∧ j = .int .i64 q ∧ Aside (Fin W wr2 W.heap.size bb sb tb m1 m2 rb)) (fun j _ => 2 - (intOf j).toNat)
        case atStart => exact ⟨0, Nat.zero_le _, rfl, HI⟩
        case round =>
          clear HI
          obtain ⟨q, hq, rfl, HI⟩ := hrel
          have hbW : Aside (Below W.heap.size W wr) := by
            obtain ⟨_, _, _, _, hb⟩ := HI.out
            exact hb
          obtain ⟨c0, c1, c2, c3, c4, c5, c6, c7, c8, c9, sz⟩ := HEl.out.below hbW.out
          have kc0 := keep hbW.out k0
          have kc1 := keep hbW.out k1
          have pk : (0 : Int) ≤ (k : Int) := by omega
          have ek : ((k : Int)).toNat = k := by omega
          match q, hq with
          | 0, _ =>
            go_wp2
            go_quiet (fail)
            obtain ⟨ts', E1, E2, hI, hB⟩ := HI.out
            have hd : Below wr.heap.size wr (wr.drewN nq) := ⟨rfl, rfl, rfl, Nat.le_refl _, fun _ _ => rfl⟩
            have hB2 : Aside (Below W.heap.size W (wr.drewN nq)) := hB.trans (hd.mono hB.size)
            by_cases hkd : kd = 1
            · subst hkd
              have hcall := step_op W.heap.size bb sb tb m1 m2 rb ts' E1 E2 kk p mo kb' n a6 a7 a8 a9 _ (hI.fresh hd) sz
              clear hI hd hB
              go_wp2_with (go_at_call 10; refine hcall.mono ?_; rintro e w3 ⟨rfl, hF3⟩)
              have HF : Aside (Fin W w3 W.heap.size bb sb tb m1 m2 rb) := Fin.again hB2.out hF3
              clear hF3
              go_roundw
              case rel => exact ⟨0 + 1, by omega, by go_num, HF⟩
              case measure => simp [intOf]
            · have HF : Aside (Fin W (wr.drewN nq) W.heap.size bb sb tb m1 m2 rb) := ⟨ts', E1, E2, hI.fresh hd, hB2.out⟩
              have hkd1 : ((1 : Int) != kd) = true := by simpa using fun e => hkd e.symm
              clear hI hd hB
              go_wp2
              go_roundw
              case rel => exact ⟨0 + 1, by omega, by go_num, HF⟩
              case measure => simp [intOf]
          | 1, _ =>
            go_wp2
            go_quiet (fail)
            obtain ⟨ts', E1, E2, hI, hB⟩ := HI.out
            have hd : Below wr.heap.size wr (wr.drewN nq) := ⟨rfl, rfl, rfl, Nat.le_refl _, fun _ _ => rfl⟩
            have hB2 : Aside (Below W.heap.size W (wr.drewN nq)) := hB.trans (hd.mono hB.size)
            by_cases hkd : kd = 2
            · subst hkd
              have hcall := step_ops W.heap.size bb sb tb m1 m2 rb ts' E1 E2 kk p mo kb' n a6 a7 a8 a9 _ (hI.fresh hd)
              clear hI hd hB
              go_wp2_with (go_at_call 10; refine hcall.mono ?_; rintro e w3 ⟨rfl, hF3⟩)
              have HF : Aside (Fin W w3 W.heap.size bb sb tb m1 m2 rb) := Fin.again hB2.out hF3
              clear hF3
              go_roundw
              case rel => exact ⟨1 + 1, by omega, by go_num, HF⟩
              case measure => simp [intOf]
            · have HF : Aside (Fin W (wr.drewN nq) W.heap.size bb sb tb m1 m2 rb) := ⟨ts', E1, E2, hI.fresh hd, hB2.out⟩
              have hkd1 : ((2 : Int) != kd) = true := by simpa using fun e => hkd e.symm
              clear hI hd hB
              go_wp2
              go_roundw
              case rel => exact ⟨1 + 1, by omega, by go_num, HF⟩
              case measure => simp [intOf]
          | 2, _ =>
            clear c0 c1 c2 c3 c4 c5 c6 c7 c8 c9 kc0 kc1
            go_wp2
            go_roundw
            case rel => exact ⟨k + 1, by omega, by go_num, HI⟩
            case measure => simp [intOf]; omega
      · have : k = len := by omega
        subst this
        go_wp2
        go_ret
        obtain ⟨_, _, _, _, hb⟩ := HI.out
        exact ⟨rfl, hb⟩
end Go.Proofs.YtoobbkckpabamaaDoor
