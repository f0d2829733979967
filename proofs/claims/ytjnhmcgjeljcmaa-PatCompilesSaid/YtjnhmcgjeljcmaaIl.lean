/- PatCompiles' walk. -/
import Derived.Test.YtjnhmcgjeljcmaaIk
import Derived.Test.YtjnhmcgjeljcmaaFe
namespace Go.Proofs.Ytjnhmcgjeljcmaa
open Go.RowKit Go.Maps

set_option maxHeartbeats 4000000 in
set_option maxRecDepth 100000 in
theorem patCompiles_walk {w : World} (kind : Int) (s : ByteArray) (hs0 : s.size ≤ maxLen) :
    Calls Try.prog 8 #[.int .i64 kind, .string s] w (AlivePost w) := by
  have HRC := Lib.hid (fun W => rcomp_any kind s W hs0)
  go_enter Try.func8, Try.ntmps8
  go_wp2_with fail
  refine (palive_any _).mono ?_
  rintro e w1 ⟨rfl, b1⟩
  have B1 := Lib.hid b1
  clear b1
  go_wp2_with fail
  refine (pcomp_any kind s _).mono ?_
  rintro e w2 (⟨h0, p, X, pp, dd, rfl, hP, hx, hb2⟩ | ⟨h0, rfl, hb2⟩)
  · have P2 := Lib.hid hP
    have H0 := Lib.hid h0
    have B2 := Lib.hid (B1.out.trans (hb2.mono B1.out.size))
    clear hP hx hb2 h0
    go_wp2_with fail
    refine (HRC.out _).mono ?_
    rintro e w3 (⟨_, d, k, A, m, c, A', m', c', rfl, _, b3⟩ | ⟨h1, _⟩)
    rotate_left
    · exact absurd H0.out h1
    have P3 := Lib.hid ((P2.out.below b3).below ((Below.refl _ w3).alloc (Nat.le_refl _) (.cells #[.int .i64 kind, .string s, .int .i64 k, .slice A m c, .slice A' m' c'] 45)))
    have B3 := Lib.hid ((B2.out.trans (b3.mono B2.out.size)).alloc (Nat.le_trans B2.out.size b3.size) (.cells #[.int .i64 kind, .string s, .int .i64 k, .slice A m c, .slice A' m' c'] 45))
    clear b3
    go_wp2_with fail
    refine (pkind_any P3.out).mono ?_
    rintro e w4 ⟨rfl, rfl⟩
    go_wp2_with fail
    refine (ptext_any P3.out).mono ?_
    rintro e w4 ⟨rfl, rfl⟩
    go_wp2
    go_ret
    exact ⟨rfl, B3.out⟩
  · have B2 := Lib.hid (B1.out.trans (hb2.mono B1.out.size))
    have hc2 : ((patP kind s.data.toList).2.1 == 0) = false := by simpa using h0
    have H0 := Lib.hid h0
    clear hb2 h0
    obtain ⟨cc, hcc⟩ : ∃ cc, cc = (patP kind s.data.toList).2.1 := ⟨_, rfl⟩
    obtain ⟨oo, hoo⟩ : ∃ oo, oo = (patP kind s.data.toList).2.2 := ⟨_, rfl⟩
    have HRD := Lib.hid (fun W => (HRC.out W).mono fun e w' h => (show (e = .returned (.tuple #[.agg #[.int .i64 0, .string ⟨#[]⟩, .int .i64 0, .slice none 0 0, .slice none 0 0], .int .i64 cc, .int .i64 (oo : Nat)])) ∧ Below W.heap.size W w' by
      rcases h with ⟨h1, _⟩ | ⟨_, h1, h2⟩
      · exact absurd h1 H0.out
      · rw [hcc, hoo]; exact ⟨h1, h2⟩))
    rw [← hcc] at hc2
    rw [← hcc, ← hoo]
    clear HRC H0 hcc hoo
    go_wp2_with fail
    refine (HRD.out _).mono ?_
    rintro e w3 ⟨rfl, b3⟩
    have B3 := Lib.hid (B2.out.trans (b3.mono B2.out.size))
    have hB3 := B3.out.size
    clear b3
    go_wp2
    go_ret
    exact ⟨rfl, B3.out.alloc hB3 _⟩
end Go.Proofs.Ytjnhmcgjeljcmaa
