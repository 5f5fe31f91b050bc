/- The library's stable sort at elements of k cells: whole. -/
import Derived.Test.YtoobbkckpabamaaDoorSortH
namespace Go.Proofs.YtoobbkckpabamaaDoor
open Go Go.RowKit Go.Lib Go.Sort Go.Shelf
section
variable {P : Program} {k : Nat} {α : Type} [Inhabited α]
/-- insertion sort from a to b does its work -/
def InsC (P : Program) (enc : α → List Value) (k : Nat) (cf : α → α → Int) (g : Nat) (cb : Array Value) (blk off cap sz : Nat) (w0 : World) : Prop :=
  ∀ (a b : Nat) (d : Array α) (w : World), d.size = sz → a ≤ b → b ≤ sz → SWK enc k w0 blk off d w →
    Calls P 78 #[.slice (some ⟨blk, off, none⟩) sz cap, .int .i64 a, .int .i64 b, .func (.func g) #[] cb] w fun e w' => e = .returned (.tuple #[]) ∧ SWK enc k w0 blk off (Sort.insertionSort (ltOf cf) d a b) w'
set_option maxHeartbeats 8000000 in
set_option maxRecDepth 1000000 in
theorem stable_any (L : StP P k) (enc : α → List Value) (cf : α → α → Int) (lt' : α → α → Bool) (F : Finer (ltOf cf) lt') (g : Nat) (cb : Array Value) (blk off cap n : Nat) (d : Array α) (w0 w : World)
    (eg : ∀ args w, (callFunc g args).run P w = .ok (.enter g args) w) (hcmp : CmpLays P g cb enc k cf blk off d.size w0) (R : RowK enc k w0 blk off d) (S : SWK enc k w0 blk off d w) (hn : d.size = n)
    (hsz : n < 1099511627776) (e78 : ∀ args w, (callFunc 78 args).run P w = .ok (.enter 78 args) w) (INS : InsC P enc k cf g cb blk off cap n w0) (hO : OkIn (ltOf cf) lt' 0 n d) :
    Calls P 65 #[.slice (some ⟨blk, off, none⟩) n cap, .int .i64 n, .func (.func g) #[] cb] w fun e w' => e = .returned (.tuple #[]) ∧ Merged lt' enc k w0 blk off 0 n d w' := by
  have mixed := L.mixed; have t0 := L.t0; have a0 := L.a0; have z0 := L.z0; have v0 := L.v0; have t3 := L.t3; have a3 := L.a3; have z3 := L.z3; have v3 := L.v3; have t4 := L.t4; have a4 := L.a4; have z4 := L.z4; have v4 := L.v4; have t49 := L.t49; have a49 := L.a49; have z49 := L.z49; have v49 := L.v49; have t110 := L.t110; have a110 := L.a110; have z110 := L.z110; have v110 := L.v110; have aE := L.aE; have zE := L.zE
  have e79 : ∀ args w, (callFunc 79 args).run P w = .ok (.enter 79 args) w := enters_of L.f79 (by kernel_rfl) rfl
  have SY : Aside (∀ a m b : Nat, a < m → m < b → b ≤ n → SymC P enc k cf lt' g cb blk off cap n w0 a m b) := fun a m b h1 h2 h3 => by
    have := sym_any L enc cf lt' F g cb blk off cap d w0 eg hcmp R (by omega) (b - a) a m b (Nat.le_refl _) h1 h2 (by omega)
    rw [hn] at this
    exact this
  have IN : Aside (InsC P enc k cf g cb blk off cap n w0) := INS
  have S0 : Aside (Way (ltOf cf) lt' enc k w0 blk off n d d w ∧ S20 lt' 0 d) := ⟨⟨S, permIn_refl _ _ _, hO⟩, fun q i j hq => by omega⟩
  have F65 := L.f65
  clear INS S hcmp hO
  go_enter F65, Tryd.ntmps65
  go_wp2
  go_loopg [7, 8] n (fun gk s7 s8 wr => ∃ (p A : Nat) (dk : Array α), s7 = .int .i64 A ∧ s8 = .int .i64 ((A : Int) + 20) ∧ A = p * 20 ∧ A ≤ n ∧ n - A ≤ gk ∧ Aside (Way (ltOf cf) lt' enc k w0 blk off n d dk wr ∧ S20 lt' p dk))
  case atStart => exact ⟨0, 0, d, rfl, rfl, rfl, Nat.zero_le _, Nat.le_refl _, S0⟩
  case round =>
    clear S0
    obtain ⟨p, A, dk, rfl, rfl, hA, hAn, hgk, S1⟩ := hrel
    have hdk : dk.size = n := by rw [← hn]; exact S1.out.1.2.1.1
    by_cases hlt : A + 20 ≤ n
    · have hltz : (A : Int) + 20 ≤ (n : Int) := by omega
      have hcall := IN.out A (A + 20) dk wr hdk (by omega) hlt S1.out.1.1
      rw [show ((A + 20 : Nat) : Int) = (A : Int) + 20 by omega] at hcall
      have HA : Aside (A = p * 20) := hA
      clear hA
      go_wp2_with (go_at_fn 78; refine hcall.mono ?_; rintro e w1 ⟨rfl, S2⟩)
      have ok := ins_ok F (d := dk) (a := A) (b := A + 20) (by omega) (by omega) (S1.out.1.2.2.narrow (by omega))
      have S3 : Aside (Way (ltOf cf) lt' enc k w0 blk off n d (Sort.insertionSort (ltOf cf) dk A (A + 20)) w1 ∧ S20 lt' (p + 1) (Sort.insertionSort (ltOf cf) dk A (A + 20))) :=
        ⟨S1.out.1.step (by omega) hlt S2 ok.1 ok.2, by have h1 := ok.1; have h2 := ok.2; rw [HA.out] at h1 h2 ⊢; exact S1.out.2.next h1 h2⟩
      clear ok S2 S1
      go_roundg (n - (A + 20))
      case measure => omega
      case rel => exact ⟨p + 1, A + 20, _, by go_num, by go_num, by have := HA.out; omega, hlt, Nat.le_refl _, S3⟩
    · have hltz : ¬ (A : Int) + 20 ≤ (n : Int) := by omega
      have hcall := IN.out A n dk wr hdk hAn (Nat.le_refl _) S1.out.1.1
      have HA : Aside (A = p * 20) := hA
      clear hA
      go_wp2_with (go_at_fn 78; refine hcall.mono ?_; rintro e w1 ⟨rfl, S2⟩)
      have ok := ins_ok F (d := dk) (a := A) (b := n) hAn (by omega) (S1.out.1.2.2.narrow (Nat.le_refl _))
      have S3 : Aside (Way (ltOf cf) lt' enc k w0 blk off n d (Sort.insertionSort (ltOf cf) dk A n) w1 ∧ SB lt' 20 n (Sort.insertionSort (ltOf cf) dk A n)) :=
        ⟨S1.out.1.step (by omega) (Nat.le_refl _) S2 ok.1 ok.2, by have h1 := ok.1; have h2 := ok.2; rw [HA.out] at h1 h2 ⊢; exact S1.out.2.last (by have := HA.out; omega) h1 h2⟩
      clear ok S2 S1 hcall HA hltz hlt hgk hAn
      generalize Sort.insertionSort (ltOf cf) dk A n = dm at S3
      clear hdk
      go_wp2
      go_loopg [6] n (fun gk s6 wr2 => ∃ (bs : Nat) (dk : Array α), s6 = .int .i64 bs ∧ 0 < bs ∧ bs ≤ 2 * n + 20 ∧ n - bs ≤ gk ∧ Aside (Way (ltOf cf) lt' enc k w0 blk off n d dk wr2 ∧ SB lt' bs n dk))
      case atStart => exact ⟨20, dm, rfl, by omega, by omega, by omega, S3⟩
      case round =>
        clear S3 dm
        obtain ⟨bs, dm, rfl, hb0, hb1, hgk, S1⟩ := hrel
        by_cases hlt : bs < n
        · have hltz : (bs : Int) < (n : Int) := by omega
          have S2 : Aside (Way (ltOf cf) lt' enc k w0 blk off n d dm wr ∧ SA lt' bs 0 n dm) := ⟨S1.out.1, SA.start S1.out.2⟩
          clear S1
          go_wp2
          go_loopg [7, 8] n (fun gk3 s7 s8 wr3 => ∃ (q A B : Nat) (dk : Array α), s7 = .int .i64 A ∧ s8 = .int .i64 B ∧ Aside (A = q * (2 * bs)) ∧ B = A + 2 * bs ∧ A ≤ n ∧ n - A ≤ gk3 ∧ Aside (Way (ltOf cf) lt' enc k w0 blk off n d dk wr3 ∧ SA lt' bs q n dk))
          case atStart => exact ⟨0, 0, 2 * bs, dm, rfl, by go_num, (by show 0 = 0 * (2 * bs); simp), by omega, Nat.zero_le _, Nat.le_refl _, S2⟩
          case round =>
            clear S2
            obtain ⟨q, A, B, dj, rfl, rfl, HA, hB, hAn, hgk3, S1⟩ := hrel
            have hdk : dj.size = n := by rw [← hn]; exact S1.out.1.2.1.1
            by_cases hlt3 : B ≤ n
            · have hlt3z : (B : Int) ≤ (n : Int) := by omega
              have hcall := SY.out A (A + bs) B (by omega) (by omega) hlt3 dj wr hdk S1.out.1.1 (S1.out.2.fst HA.out (by omega)) (S1.out.2.snd HA.out (by omega) hlt3) (S1.out.1.2.2.cross hlt3)
              rw [show ((A + bs : Nat) : Int) = (A : Int) + (bs : Int) by omega] at hcall
              have HB : Aside (B = A + 2 * bs) := hB
              clear hB
              go_wp2_with (go_at_fn 79; refine hcall.mono ?_; rintro e w1 ⟨rfl, d2, S2⟩)
              have S3 : Aside (Way (ltOf cf) lt' enc k w0 blk off n d d2 w1 ∧ SA lt' bs (q + 1) n d2) :=
                ⟨S1.out.1.step (by omega) hlt3 S2.1 S2.2.1 S2.2.2, by have h1 := S2.2.1; have h2 := S2.2.2; rw [HB.out] at h1 h2; exact S1.out.2.next HA.out h1 h2⟩
              clear S2 S1
              go_roundg (n - B)
              case measure => have := HB.out; omega
              case rel => exact ⟨q + 1, B, B + 2 * bs, d2, rfl, by go_num, (by show B = (q + 1) * (2 * bs); rw [Nat.add_mul, Nat.one_mul, ← HA.out]; exact HB.out), rfl, hlt3, Nat.le_refl _, S3⟩
            · have hlt3z : ¬ (B : Int) ≤ (n : Int) := by omega
              have HB : Aside (B = A + 2 * bs) := hB
              by_cases hm : A + bs < n
              · have hmz : (A : Int) + (bs : Int) < (n : Int) := by omega
                have hcall := SY.out A (A + bs) n (by omega) hm (Nat.le_refl _) dj wr hdk S1.out.1.1 (S1.out.2.fst HA.out (by omega)) (S1.out.2.snd HA.out (by omega) (Nat.le_refl _)) (S1.out.1.2.2.cross (Nat.le_refl _))
                rw [show ((A + bs : Nat) : Int) = (A : Int) + (bs : Int) by omega] at hcall
                clear hB
                go_wp2_with (go_at_fn 79; refine hcall.mono ?_; rintro e w1 ⟨rfl, d2, S2⟩)
                have S3 : Aside (Way (ltOf cf) lt' enc k w0 blk off n d d2 w1 ∧ SB lt' (2 * bs) n d2) :=
                  ⟨S1.out.1.step (by omega) (Nat.le_refl _) S2.1 S2.2.1 S2.2.2, S1.out.2.last HA.out (by have := HB.out; omega) S2.2.1 S2.2.2⟩
                clear S2 S1
                go_roundg (n - 2 * bs)
                case measure => omega
                case rel => exact ⟨2 * bs, d2, by go_num, by omega, by omega, Nat.le_refl _, S3⟩
              · have hmz : ¬ (A : Int) + (bs : Int) < (n : Int) := by omega
                clear hB
                go_wp2
                have S3 : Aside (Way (ltOf cf) lt' enc k w0 blk off n d dj wr ∧ SB lt' (2 * bs) n dj) := ⟨S1.out.1, S1.out.2.last' HA.out hb0 (by omega)⟩
                clear S1
                go_roundg (n - 2 * bs)
                case measure => omega
                case rel => exact ⟨2 * bs, dj, by go_num, by omega, by omega, Nat.le_refl _, S3⟩
        · have hltz : ¬ (bs : Int) < (n : Int) := by omega
          go_wp2
          go_end0
          exact ⟨rfl, dm, S1.out.1.1, S1.out.1.2.1, S1.out.2.all (by omega)⟩
set_option maxHeartbeats 8000000 in
theorem sortStable_any (L : StP P k) (enc : α → List Value) (cf : α → α → Int) (lt' : α → α → Bool) (F : Finer (ltOf cf) lt') (g : Nat) (cb : Array Value) (blk off cap n : Nat) (d : Array α) (w0 w : World)
    (eg : ∀ args w, (callFunc g args).run P w = .ok (.enter g args) w) (hcmp : CmpLays P g cb enc k cf blk off d.size w0) (R : RowK enc k w0 blk off d) (S : SWK enc k w0 blk off d w) (hn : d.size = n)
    (hsz : n < 1099511627776) (e78 : ∀ args w, (callFunc 78 args).run P w = .ok (.enter 78 args) w) (INS : InsC P enc k cf g cb blk off cap n w0) (hO : OkIn (ltOf cf) lt' 0 n d) :
    Calls P 47 #[.slice (some ⟨blk, off, none⟩) n cap, .func (.func g) #[] cb] w fun e w' => e = .returned (.tuple #[]) ∧ Merged lt' enc k w0 blk off 0 n d w' := by
  have mixed := L.mixed; have t0 := L.t0; have a0 := L.a0; have z0 := L.z0; have v0 := L.v0; have t3 := L.t3; have a3 := L.a3; have z3 := L.z3; have v3 := L.v3; have t49 := L.t49; have a49 := L.a49; have z49 := L.z49; have v49 := L.v49; have t110 := L.t110; have a110 := L.a110; have z110 := L.z110; have v110 := L.v110; have aE := L.aE; have zE := L.zE
  have e65 : ∀ args w, (callFunc 65 args).run P w = .ok (.enter 65 args) w := enters_of L.f65 (by kernel_rfl) rfl
  have hcall := stable_any L enc cf lt' F g cb blk off cap n d w0 w eg hcmp R S hn hsz e78 INS hO
  have F47 := L.f47
  clear INS S hcmp hO
  go_enter F47, Tryd.ntmps47
  go_wp2_with (go_at_fn 65; refine hcall.mono ?_; rintro e w1 ⟨rfl, hM⟩)
  go_end0
  exact ⟨rfl, hM⟩
end
end Go.Proofs.YtoobbkckpabamaaDoor
