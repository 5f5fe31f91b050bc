/- The library's stable sort at elements of k cells: rotate. -/
import Derived.Test.YtoobbkckpabamaaDoorSortC
namespace Go.Proofs.YtoobbkckpabamaaDoor
open Go Go.RowKit Go.Lib Go.Sort Go.Shelf
section
variable {α : Type}
theorem rot_congr {f g : Nat → α} {n s m e : Nat} (h : ∀ i, i < n → f i = g i) (hsm : s ≤ m) (hme : m ≤ e) (he : e ≤ n) (p : Nat) (hp : p < n) : rot f s m e p = rot g s m e p := by
  unfold rot
  repeat' split
  all_goals exact h _ (by omega)
end
section
variable {P : Program} {k : Nat} {α : Type} [Inhabited α]
/-- on the way through a rotation: what is left to do makes what was to be done -/
def RotSt (enc : α → List Value) (k : Nat) (w0 : World) (blk off lo hi a m b i j : Nat) (d dk : Array α) (w' : World) : Prop :=
  SWK enc k w0 blk off dk w' ∧ dk.size = d.size ∧ PermIn lo hi d dk ∧ ∀ p, p < d.size → rot (fun i => dk[i]!) (m - i) m (m + j) p = rot (fun i => d[i]!) a m b p
theorem RotSt.gt {enc : α → List Value} {w0 w2 : World} {blk off lo hi a m b i j : Nat} {d dk d2 : Array α} {w1 : World} (h : RotSt enc k w0 blk off lo hi a m b i j d dk w1) (hL : Left enc k w0 blk off lo hi dk d2 (swr (fun i => dk[i]!) (m - i) m j) w2)
    (hij : j < i) (him : i ≤ m) (hjb : m + j ≤ d.size) : RotSt enc k w0 blk off lo hi a m b (i - j) j d d2 w2 := by
  obtain ⟨_, hz, hp, hr⟩ := h
  obtain ⟨h1, h2, h3, h4⟩ := hL
  refine ⟨h1, h2.trans hz, permIn_trans _ _ _ _ _ hp h3, fun p hpp => ?_⟩
  rw [← hr p hpp, ← rot_gt _ hij him]
  exact rot_congr (n := d.size) (fun q hq => h4 q (by omega)) (by omega) (by omega) hjb p hpp
theorem RotSt.lt {enc : α → List Value} {w0 w2 : World} {blk off lo hi a m b i j : Nat} {d dk d2 : Array α} {w1 : World} (h : RotSt enc k w0 blk off lo hi a m b i j d dk w1) (hL : Left enc k w0 blk off lo hi dk d2 (swr (fun i => dk[i]!) (m - i) (m + j - i) i) w2)
    (hij : i < j) (him : i ≤ m) (hjb : m + j ≤ d.size) : RotSt enc k w0 blk off lo hi a m b i (j - i) d d2 w2 := by
  obtain ⟨_, hz, hp, hr⟩ := h
  obtain ⟨h1, h2, h3, h4⟩ := hL
  refine ⟨h1, h2.trans hz, permIn_trans _ _ _ _ _ hp h3, fun p hpp => ?_⟩
  rw [← hr p hpp, ← rot_lt _ hij him]
  exact rot_congr (n := d.size) (fun q hq => h4 q (by omega)) (by omega) (by omega) (by omega) p hpp
theorem RotSt.eq {enc : α → List Value} {w0 w2 : World} {blk off lo hi a m b i : Nat} {d dk d2 : Array α} {w1 : World} (h : RotSt enc k w0 blk off lo hi a m b i i d dk w1) (hL : Left enc k w0 blk off lo hi dk d2 (swr (fun i => dk[i]!) (m - i) m i) w2)
    (him : i ≤ m) : Left enc k w0 blk off lo hi d d2 (rot (fun i => d[i]!) a m b) w2 := by
  obtain ⟨_, hz, hp, hr⟩ := h
  obtain ⟨h1, h2, h3, h4⟩ := hL
  refine ⟨h1, h2.trans hz, permIn_trans _ _ _ _ _ hp h3, fun p hpp => ?_⟩
  rw [h4 p hpp, rot_eq _ him]
  exact hr p (by omega)
set_option maxHeartbeats 4000000 in
set_option maxRecDepth 1000000 in
theorem rotate_any (L : StP P k) (enc : α → List Value) (g : Nat) (cb : Array Value) (blk off cap a m b lo hi : Nat) (d0 d : Array α) (w0 w : World)
    (R : RowK enc k w0 blk off d0) (hs : d0.size = d.size) (S : SWK enc k w0 blk off d w) (hlo : lo ≤ a) (ham : a < m) (hmb : m < b) (hb : b ≤ hi) (hhi : hi ≤ d.size) (hsz : d.size < 4611686018427387904) :
    Calls P 81 #[.slice (some ⟨blk, off, none⟩) d.size cap, .int .i64 a, .int .i64 m, .int .i64 b, .func (.func g) #[] cb] w fun e w' => e = .returned (.tuple #[]) ∧ ∃ d', Left enc k w0 blk off lo hi d d' (rot (fun i => d[i]!) a m b) w' := by
  have mixed := L.mixed; have t0 := L.t0; have a0 := L.a0; have z0 := L.z0; have v0 := L.v0; have t3 := L.t3; have a3 := L.a3; have z3 := L.z3; have v3 := L.v3; have t4 := L.t4; have a4 := L.a4; have z4 := L.z4; have v4 := L.v4; have t49 := L.t49; have a49 := L.a49; have z49 := L.z49; have v49 := L.v49; have t110 := L.t110; have a110 := L.a110; have z110 := L.z110; have v110 := L.v110; have aE := L.aE; have zE := L.zE
  have e82 : ∀ args w, (callFunc 82 args).run P w = .ok (.enter 82 args) w := enters_of L.f82 (by kernel_rfl) rfl
  have S0 : Aside (RotSt enc k w0 blk off lo hi a m b (m - a) (b - m) d d w) := ⟨S, rfl, permIn_refl _ _ _, fun p _ => by rw [show m - (m - a) = a by omega, show m + (b - m) = b by omega]⟩
  have F81 := L.f81
  have i1 : (m : Int) - (a : Int) = ((m - a : Nat) : Int) := by omega
  have i2 : (b : Int) - (m : Int) = ((b - m : Nat) : Int) := by omega
  clear S
  go_enter F81, Tryd.ntmps81
  go_wp2
  go_loopg [10, 11] ((m - a) + (b - m)) (fun gk s10 s11 wr => ∃ (i j : Nat) (dk : Array α), s10 = .int .i64 i ∧ s11 = .int .i64 j ∧ 0 < i ∧ 0 < j ∧ i ≤ m - a ∧ j ≤ b - m ∧ i + j ≤ gk ∧ dk.size = d.size ∧ Aside (RotSt enc k w0 blk off lo hi a m b i j d dk wr))
  case atStart => exact ⟨m - a, b - m, d, rfl, rfl, by omega, by omega, Nat.le_refl _, Nat.le_refl _, Nat.le_refl _, rfl, S0⟩
  case round =>
    clear S0 i1 i2
    obtain ⟨i, j, dk, rfl, rfl, hi0, hj0, hi1, hj1, hgk, hds, S1⟩ := hrel
    have c1 : ((m - i : Nat) : Int) = (m : Int) - (i : Int) := by omega
    by_cases hij : i = j
    · subst hij
      have hcall := swapRange_any L enc g cb blk off cap (m - i) m i lo hi d0 dk w0 wr R (by omega) S1.out.1 (by omega) (by omega) (by omega) (by omega) (by omega)
      rw [c1, hds] at hcall
      go_wp2_with (go_at_fn 82; refine hcall.mono ?_; rintro e w1 ⟨rfl, d2, S2⟩)
      go_end0
      exact ⟨rfl, d2, S1.out.eq S2 (by omega)⟩
    · have hne : ¬ (i : Int) = (j : Int) := by omega
      by_cases hgt : j < i
      · have hgtz : (j : Int) < (i : Int) := by omega
        have hcall := swapRange_any L enc g cb blk off cap (m - i) m j lo hi d0 dk w0 wr R (by omega) S1.out.1 (by omega) (by omega) (by omega) (by omega) (by omega)
        rw [c1, hds] at hcall
        go_wp2_with (go_at_fn 82; refine hcall.mono ?_; rintro e w1 ⟨rfl, d2, S2⟩)
        have S3 : Aside (RotSt enc k w0 blk off lo hi a m b (i - j) j d d2 w1) := S1.out.gt S2 hgt (by omega) (by omega)
        go_roundg (i - j + j)
        case measure => omega
        case rel => exact ⟨i - j, j, d2, by rw [show ((i - j : Nat) : Int) = (i : Int) - (j : Int) by omega], rfl, by omega, hj0, by omega, hj1, Nat.le_refl _, S3.out.2.1, S3⟩
      · have hgtz : ¬ (j : Int) < (i : Int) := by omega
        have hcall := swapRange_any L enc g cb blk off cap (m - i) (m + j - i) i lo hi d0 dk w0 wr R (by omega) S1.out.1 (by omega) (by omega) (by omega) (by omega) (by omega)
        rw [c1, show ((m + j - i : Nat) : Int) = (m : Int) + (j : Int) - (i : Int) by omega, hds] at hcall
        go_wp2_with (go_at_fn 82; refine hcall.mono ?_; rintro e w1 ⟨rfl, d2, S2⟩)
        have S3 : Aside (RotSt enc k w0 blk off lo hi a m b i (j - i) d d2 w1) := S1.out.lt S2 (by omega) (by omega) (by omega)
        go_roundg (i + (j - i))
        case measure => omega
        case rel => exact ⟨i, j - i, d2, rfl, by rw [show ((j - i : Nat) : Int) = (j : Int) - (i : Int) by omega], hi0, by omega, hi1, by omega, Nat.le_refl _, S3.out.2.1, S3⟩
end
end Go.Proofs.YtoobbkckpabamaaDoor
