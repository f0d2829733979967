/- RexJoins answers true: all cases. -/
import Derived.Test.YtjnhmcgjeljcmaaXjw
namespace Go.Proofs.Ytjnhmcgjeljcmaa
open Go.RowKit

theorem goL_parts {Al : List UInt8 → Pr} : ∀ (f : Nat) (cur : List Tr) (l : List UInt8) (ps : List Tr) (n : Nat), goL Al f cur l = .ok ps n → ps.length ≤ n + 1
  | 0, _, _, _, _, h => by unfold goL at h; cases h
  | f + 1, cur, l, ps, n, h => by
    unfold goL at h
    split at h
    · injection h with h1 h2; subst h1 h2; simp
    · split at h
      · obtain ⟨ps', n', e1, rfl, rfl⟩ := pre_ok h
        have := goL_parts f _ _ _ _ e1
        simp; omega
      · split at h
        · obtain ⟨ps', n', e1, rfl, rfl⟩ := pre_ok h
          have := goL_parts f _ _ _ _ e1
          simp; omega
        · cases h
theorem whole_parts {l : List UInt8} {t : Tr} {n : Nat} (h : wholeX l = .ok t n) : partsT t ≠ [] ∧ (partsT t).length ≤ l.length + 1 := by
  obtain ⟨ps, cur, rfl, hg⟩ := whole_go h
  rw [partsT_end]
  refine ⟨by simp, ?_⟩
  have h1 := hg l.length [] (Nat.le_refl _) rfl
  rw [List.append_nil, goF_nil] at h1
  exact goL_parts _ _ _ _ _ h1

set_option maxHeartbeats 1000000 in
set_option maxRecDepth 100000 in
theorem rexJoins_walk (p q : ByteArray) (_ : p.size ≤ maxLen) (_ : q.size ≤ maxLen) (w : World) :
    Calls Try.prog 4 #[.string p, .string q] w fun e w' => e = .returned (.bool true) ∧ Below w.heap.size w w' := by
  by_cases h0 : (parseX p.data.toList).2.1 = 0
  · by_cases h1 : (parseX q.data.toList).2.1 = 0
    · obtain ⟨lp, a, n, ha, hpa⟩ := parseX_zero h0
      obtain ⟨lq, b, m, hb, hpb⟩ := parseX_zero h1
      have lp' : p.data.toList.length = p.size := rfl
      have lq' : q.data.toList.length = q.size := rfl
      by_cases hbig : 250 < p.size + q.size
      · have hp2 : p.size ≤ 256 := lp
        have hq2 : q.size ≤ 256 := lq
        have hb' : (250 : Int) < (p.size : Int) + (q.size : Int) := by omega
        have H1 := Lib.hid (fun W => xparse_any p W)
        have H2 := Lib.hid (fun W => xparse_any q W)
        simp only [hpa] at H1
        simp only [hpb] at H2
        clear h0 h1 ha hb hpa hpb hbig lp' lq' lp lq
        go_enter Try.func4, Try.ntmps4
        go_wp2_with fail
        refine (parsing_any _).mono ?_
        rintro e w1 ⟨rfl, b1⟩
        go_wp2_with fail
        refine (H1.out _).mono ?_
        rintro e w2 ⟨d2, k2, B1, m1, g1, B2, m2, g2, rfl, ht2, b2⟩
        clear ht2
        go_wp2_with fail
        refine (H2.out _).mono ?_
        rintro e w3 ⟨d3, k3, D1, n1, c1, D2, n2, c2, rfl, ht3, b3⟩
        clear ht3
        go_wp2
        go_ret
        have h2 := b1.trans (b2.mono b1.size)
        have h3 := h2.alloc h2.size (.cells #[.int .i64 k2, .slice B1 m1 g1, .slice B2 m2 g2] 26)
        have h4 := h3.trans (b3.mono h3.size)
        exact ⟨rfl, h4.alloc h4.size _⟩
      · have w1 := whole_parts ha
        have w2 := whole_parts hb
        exact joins_main p q a b w (by omega) (by omega) w1.1 w2.1 (joinCalls (by omega) ha hb)
    · have h1' : ((parseX q.data.toList).2.1 != 0) = true := by simpa using h1
      obtain ⟨_, a, n, _, hpa⟩ := parseX_zero h0
      have H1 := Lib.hid (fun W => xparse_any p W)
      have H2 := Lib.hid (fun W => xparse_any q W)
      simp only [hpa] at H1
      clear h0 h1 hpa
      generalize parseX q.data.toList = r at *
      go_enter Try.func4, Try.ntmps4
      go_wp2_with fail
      refine (parsing_any _).mono ?_
      rintro e w1 ⟨rfl, b1⟩
      go_wp2_with fail
      refine (H1.out _).mono ?_
      rintro e w2 ⟨d2, k2, B1, m1, g1, B2, m2, g2, rfl, ht2, b2⟩
      clear ht2
      go_wp2_with fail
      refine (H2.out _).mono ?_
      rintro e w3 ⟨d3, k3, D1, n1, c1, D2, n2, c2, rfl, ht3, b3⟩
      clear ht3
      go_wp2
      go_ret
      have h2 := b1.trans (b2.mono b1.size)
      have h3 := h2.alloc h2.size (.cells #[.int .i64 k2, .slice B1 m1 g1, .slice B2 m2 g2] 26)
      have h4 := h3.trans (b3.mono h3.size)
      exact ⟨rfl, h4.alloc h4.size _⟩
  · have h0' : ((parseX p.data.toList).2.1 != 0) = true := by simpa using h0
    have H1 := Lib.hid (fun W => xparse_any p W)
    have H2 := Lib.hid (fun W => xparse_any q W)
    clear h0
    generalize parseX p.data.toList = r at *
    generalize parseX q.data.toList = r2 at *
    go_enter Try.func4, Try.ntmps4
    go_wp2_with fail
    refine (parsing_any _).mono ?_
    rintro e w1 ⟨rfl, b1⟩
    go_wp2_with fail
    refine (H1.out _).mono ?_
    rintro e w2 ⟨d2, k2, B1, m1, g1, B2, m2, g2, rfl, ht2, b2⟩
    clear ht2
    go_wp2_with fail
    refine (H2.out _).mono ?_
    rintro e w3 ⟨d3, k3, D1, n1, c1, D2, n2, c2, rfl, ht3, b3⟩
    clear ht3
    go_wp2
    go_ret
    have h2 := b1.trans (b2.mono b1.size)
    have h3 := h2.alloc h2.size (.cells #[.int .i64 k2, .slice B1 m1 g1, .slice B2 m2 g2] 26)
    have h4 := h3.trans (b3.mono h3.size)
    exact ⟨rfl, h4.alloc h4.size _⟩
end Go.Proofs.Ytjnhmcgjeljcmaa
