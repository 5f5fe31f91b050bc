/- The library's stable sort at elements of k cells: merging in place where one half is of one element. -/
import Derived.Test.YtoobbkckpabamaaDoorSortD
import Derived.Deep.Cut
namespace Go.Proofs.YtoobbkckpabamaaDoor
open Go Go.RowKit Go.Lib Go.Sort Go.Shelf
section
variable {P : Program} {k : Nat} {α : Type} [Inhabited α]
theorem rotl_step {d : Array α} {f : Nat → α} {a q : Nat} (h : Is d (rot f a (a + 1) (q + 1))) (ha : a ≤ q) (hq : q + 1 < d.size) : Is (swp d q (q + 1)) (rot f a (a + 1) (q + 2)) := by
  intro p hp
  rw [swp_size] at hp
  rw [swp_get d (show q < d.size by omega) hq]
  by_cases h1 : p = q + 1
  · subst h1
    rw [if_pos rfl, h q (by omega)]
    unfold rot
    rw [if_neg (by omega), if_pos (by omega), if_neg (by omega), if_pos (by omega)]
    exact app_congr f (by omega)
  · rw [if_neg h1]
    by_cases h2 : p = q
    · subst h2
      rw [if_pos rfl, h (p + 1) hq]
      unfold rot
      rw [if_neg (by omega), if_neg (by omega), if_pos (by omega)]
      exact app_congr f (by omega)
    · rw [if_neg h2, h p hp]
      unfold rot
      repeat' split
      all_goals first | (exfalso; omega) | exact app_congr f (by omega)
theorem rotr_step {d : Array α} {f : Nat → α} {q m : Nat} (h : Is d (rot f (q + 1) m (m + 1))) (hq : q + 1 ≤ m) (hm : m < d.size) : Is (swp d (q + 1) q) (rot f q m (m + 1)) := by
  intro p hp
  rw [swp_size] at hp
  rw [swp_get d (show q + 1 < d.size by omega) (show q < d.size by omega)]
  by_cases h1 : p = q
  · subst h1
    rw [if_pos rfl, h (p + 1) (by omega)]
    unfold rot
    rw [if_pos (by omega), if_pos (by omega)]
    exact app_congr f (by omega)
  · rw [if_neg h1]
    by_cases h2 : p = q + 1
    · subst h2
      rw [if_pos rfl, h q (by omega)]
      unfold rot
      rw [if_neg (by omega), if_neg (by omega), if_neg (by omega), if_pos (by omega)]
      exact app_congr f (by omega)
    · rw [if_neg h2, h p hp]
      unfold rot
      repeat' split
      all_goals first | (exfalso; omega) | exact app_congr f (by omega)
/-- what merging leaves: the row sorted from a to b -/
def Merged (lt' : α → α → Bool) (enc : α → List Value) (k : Nat) (w0 : World) (blk off a b : Nat) (d : Array α) (w' : World) : Prop :=
  ∃ d', SWK enc k w0 blk off d' w' ∧ PermIn a b d d' ∧ SortedIn lt' a b d'

set_option maxHeartbeats 8000000 in
set_option maxRecDepth 1000000 in
theorem sym_left (L : StP P k) (enc : α → List Value) (cf : α → α → Int) (lt' : α → α → Bool) (F : Finer (ltOf cf) lt') (g : Nat) (cb : Array Value) (blk off cap a b : Nat) (d0 d : Array α) (w0 w : World)
    (eg : ∀ args w, (callFunc g args).run P w = .ok (.enter g args) w) (hcmp : CmpLays P g cb enc k cf blk off d0.size w0) (R : RowK enc k w0 blk off d0) (hs : d0.size = d.size) (S : SWK enc k w0 blk off d w)
    (hmb : a + 1 < b) (hb : b ≤ d.size) (hsz : d.size < 4611686018427387904) (h2 : SortedIn lt' (a + 1) b d) (hC : Cross (ltOf cf) lt' a (a + 1) b d) :
    Calls P 79 #[.slice (some ⟨blk, off, none⟩) d.size cap, .int .i64 a, .int .i64 ((a : Int) + 1), .int .i64 b, .func (.func g) #[] cb] w fun e w' => e = .returned (.tuple #[]) ∧ Merged lt' enc k w0 blk off a b d w' := by
  have mixed := L.mixed; have t0 := L.t0; have a0 := L.a0; have z0 := L.z0; have v0 := L.v0; have t3 := L.t3; have a3 := L.a3; have z3 := L.z3; have v3 := L.v3; have t4 := L.t4; have a4 := L.a4; have z4 := L.z4; have v4 := L.v4; have t49 := L.t49; have a49 := L.a49; have z49 := L.z49; have v49 := L.v49; have t110 := L.t110; have a110 := L.a110; have z110 := L.z110; have v110 := L.v110; have aE := L.aE; have zE := L.zE; have t125 := L.t125; have a125 := L.a125; have z125 := L.z125; have v125 := L.v125
  have HC : Aside _ := hcmp
  have S0 : Aside _ := S
  have HS : Aside (SortedIn lt' (a + 1) b d ∧ Cross (ltOf cf) lt' a (a + 1) b d) := ⟨h2, hC⟩
  have F79 := L.f79
  have one : (a : Int) + 1 - (a : Int) = 1 := by omega
  clear hcmp S h2 hC
  go_enter F79, Tryd.ntmps79
  go_wp2
  clear one
  go_loopg [10, 11] (b - (a + 1)) (fun gk s10 s11 wr => ∃ (i j : Nat), s10 = .int .i64 i ∧ s11 = .int .i64 j ∧ a + 1 ≤ i ∧ i ≤ j ∧ j ≤ b ∧ j - i ≤ gk ∧ Aside (SWK enc k w0 blk off d wr ∧ (i = a + 1 ∨ ltOf cf d[i - 1]! d[a]! = true) ∧ (j = b ∨ ltOf cf d[j]! d[a]! = false)))
  case atStart => exact ⟨a + 1, b, by go_num, rfl, Nat.le_refl _, by omega, Nat.le_refl _, Nat.le_refl _, ⟨S0.out, Or.inl rfl, Or.inl rfl⟩⟩
  case round =>
    clear S0
    obtain ⟨i, j, rfl, rfl, hai, hij, hjb, hgk, S1⟩ := hrel
    by_cases hlt : i < j
    · have hltz : (i : Int) < (j : Int) := by omega
      obtain ⟨c, hc⟩ : ∃ c : Nat, c = (i + j) / 2 := ⟨_, rfl⟩
      have hcz : ((i : Int) + (j : Int)) / 2 = (c : Int) := by omega
      have hic : i ≤ c := by omega
      have hcj : c < j := by omega
      clear hc
      have ea : ((c : Int)).toNat = c := by omega
      have pa : (0 : Int) ≤ (c : Int) := by omega
      have ba : (c : Int) < (d.size : Int) := by omega
      have ra : IntKind.i64.wrap (c : Int) = (c : Int) := by rw [IntKind.wrap_i64]; omega
      have ec : ((a : Int)).toNat = a := by omega
      have pc : (0 : Int) ≤ (a : Int) := by omega
      have bc : (a : Int) < (d.size : Int) := by omega
      obtain ⟨x, hx⟩ : ∃ x, x = d[c]! := ⟨_, rfl⟩
      obtain ⟨y, hy⟩ : ∃ x, x = d[a]! := ⟨_, rfl⟩
      have la := S1.out.1.ld R (by omega) P c (by omega)
      have lb := S1.out.1.ld R (by omega) P a (by omega)
      rw [← hx] at la
      rw [← hy] at lb
      have hcc := S1.out.1.cmp HC.out (by omega) x y
      by_cases hv : cf x y < 0
      · have HL : Aside (ltOf cf d[c]! d[a]! = true) := by rw [← hx, ← hy]; exact decide_eq_true hv
        have hd : decide (cf x y < 0) = true := decide_eq_true hv
        clear hx hy
        go_wp2_with fail
        go_quiet_grown (first | (go_at_fn g; refine Calls.grown_of (hcc _ _)))
        have S2 : Aside (SWK enc k w0 blk off d (grow (wr.drewN nq) osq) ∧ (c + 1 = a + 1 ∨ ltOf cf d[c + 1 - 1]! d[a]! = true) ∧ (j = b ∨ ltOf cf d[j]! d[a]! = false)) := ⟨S1.out.1.grown nq osq, Or.inr HL.out, S1.out.2.2⟩
        clear la lb hcc S1 HL
        generalize grow (wr.drewN nq) osq = w2 at S2 ⊢
        clear nq osq
        go_wp2
        go_roundg (j - (c + 1))
        case measure => omega
        case rel => exact ⟨c + 1, j, by go_num, rfl, by omega, by omega, hjb, Nat.le_refl _, S2⟩
      · have HL : Aside (ltOf cf d[c]! d[a]! = false) := by rw [← hx, ← hy]; exact decide_eq_false hv
        have hd : decide (cf x y < 0) = false := decide_eq_false hv
        clear hx hy
        go_wp2_with fail
        go_quiet_grown (first | (go_at_fn g; refine Calls.grown_of (hcc _ _)))
        have S2 : Aside (SWK enc k w0 blk off d (grow (wr.drewN nq) osq) ∧ (i = a + 1 ∨ ltOf cf d[i - 1]! d[a]! = true) ∧ (c = b ∨ ltOf cf d[c]! d[a]! = false)) := ⟨S1.out.1.grown nq osq, S1.out.2.1, Or.inr HL.out⟩
        clear la lb hcc S1 HL
        generalize grow (wr.drewN nq) osq = w2 at S2 ⊢
        clear nq osq
        go_wp2
        go_roundg (c - i)
        case measure => omega
        case rel => exact ⟨i, c, rfl, rfl, hai, by omega, by omega, Nat.le_refl _, S2⟩
    · have : i = j := by omega
      subst this
      have S2 : Aside (Left enc k w0 blk off a b d d (rot (fun i => d[i]!) a (a + 1) (a + 1)) wr) := ⟨S1.out.1, rfl, permIn_refl _ _ _, is_rot_self d _ _ _ (Or.inr rfl)⟩
      have S3 : Aside ((i = a + 1 ∨ ltOf cf d[i - 1]! d[a]! = true) ∧ (i = b ∨ ltOf cf d[i]! d[a]! = false)) := S1.out.2
      clear S1
      go_wp2
      go_loopg [13] (i - 1 - a) (fun gk s13 wr2 => ∃ (q : Nat) (dk : Array α), s13 = .int .i64 q ∧ a ≤ q ∧ q + 1 ≤ i ∧ i - 1 - q ≤ gk ∧ dk.size = d.size ∧ Aside (Left enc k w0 blk off a b d dk (rot (fun i => d[i]!) a (a + 1) (q + 1)) wr2))
      case atStart => exact ⟨a, d, rfl, Nat.le_refl _, hai, Nat.le_refl _, rfl, S2⟩
      case round =>
        clear S2
        obtain ⟨q, dk, rfl, haq, hqi, hgk2, hds, S2⟩ := hrel
        by_cases hlt2 : q + 1 < i
        · have hlt2z : (q : Int) < (i : Int) - 1 := by omega
          go_wp2_with fail
          have ea : ((q : Int)).toNat = q := by omega
          have pa : (0 : Int) ≤ (q : Int) := by omega
          have ba : (q : Int) < (d.size : Int) := by omega
          have ra : IntKind.i64.wrap (q : Int) = (q : Int) := by rw [IntKind.wrap_i64]; omega
          have ec : ((q : Int) + 1).toNat = q + 1 := by omega
          have pc : (0 : Int) ≤ (q : Int) + 1 := by omega
          have bc : (q : Int) + 1 < (d.size : Int) := by omega
          have rc : IntKind.i64.wrap ((q : Int) + 1) = (q : Int) + 1 := by rw [IntKind.wrap_i64]; omega
          have S4 : Aside (Left enc k w0 blk off a b d (swp dk q (q + 1)) (rot (fun i => d[i]!) a (a + 1) (q + 2)) ((wr.drew.setCells blk (off + q * k) (enc dk[q + 1]!)).setCells blk (off + (q + 1) * k) (enc dk[q]!))) :=
            ⟨S2.out.1.swapped R q (q + 1) (by omega) (by omega), by rw [swp_size]; exact hds, permIn_trans _ _ _ _ _ S2.out.2.2.1 (swp_permIn dk a b q (q + 1) (by omega) (by omega) (by omega) (by omega) (by omega)), rotl_step S2.out.2.2.2 haq (by omega)⟩
          have la := S2.out.1.ld1 R (by omega) P q (by omega)
          have lb := S2.out.1.ld1 R (by omega) P (q + 1) (by omega)
          have sa := S2.out.1.st1 R (by omega) P q (by omega) dk[q + 1]!
          have sb := S2.out.1.st2 R (by omega) P q (q + 1) (by omega) (by omega) dk[q + 1]! dk[q]!
          have na : (enc dk[q]!).length = k := R.hk _
          have nb : (enc dk[q + 1]!).length = k := R.hk _
          generalize enc dk[q]! = cI at S4 la sb na
          generalize enc dk[q + 1]! = cJ at S4 lb sa sb nb
          clear S2
          go_wp2_with fail
          go_big_region_o
          clear la lb sa sb
          generalize (wr.drew.setCells blk (off + q * k) cJ).setCells blk (off + (q + 1) * k) cI = w2 at S4 ⊢
          go_wp2
          go_roundg (i - 1 - (q + 1))
          case measure => omega
          case rel => exact ⟨q + 1, swp dk q (q + 1), by go_num, by omega, by omega, Nat.le_refl _, by rw [swp_size]; exact hds, S4⟩
        · have hqe : q + 1 = i := by omega
          have hlt2z : ¬ (q : Int) < (i : Int) - 1 := by omega
          go_wp2
          refine bodyPost_ret_by (results_none rfl _ _ _) rfl ⟨rfl, dk, S2.out.1, S2.out.2.2.1, ?_⟩
          rw [hqe] at S2
          exact one_left F (by omega) hjb HS.out.1 HS.out.2 S3.out.1 S3.out.2 S2.out.2.2.2 S2.out.2.1 hb
end
end Go.Proofs.YtoobbkckpabamaaDoor
