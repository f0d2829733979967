/- The document's own number with which bytes begin. -/
import Derived.Test.YteokiaeojgjpdaaPr
namespace Go.Proofs.Yteokiaeojgjpdaa
open Go.RowKit

set_option maxHeartbeats 1000000 in
set_option maxRecDepth 100000 in
theorem getNum_any {w : World} {A : Option Addr} {m c : Nat} {bs : List UInt8} (hb : BytesAt w A m bs) (hm : m ≤ maxLen) :
    Calls Try.prog 41 #[.slice A m c] w fun e w' => e = .returned (numV (getL bs)) ∧ w = w' := by
  unfold maxLen at hm
  have hl := hb.1
  go_enter Try.func41, Try.ntmps41
  go_wp2_with fail
  go_loop [4, 5, 6] (fun n u i => ∃ j acc : Nat, j ≤ 9 ∧ j ≤ m ∧ i = .int .i64 (j : Nat) ∧ n = .int .i64 (acc : Nat) ∧ u = .int .i64 ((128 ^ min j 8 : Nat) : Int) ∧ acc < 128 ^ j ∧ getF (9 - j) j acc (bs.drop j) = getL bs) (fun _ _ i => 9 - (intOf i).toNat)
  case atStart => exact ⟨0, 0, Nat.zero_le _, Nat.zero_le _, rfl, rfl, rfl, by decide, rfl⟩
  case round =>
    obtain ⟨j, acc, hj, hjm, rfl, rfl, rfl, hac, hgf⟩ := hrel
    have HG := Lib.hid hgf
    clear hgf
    obtain ⟨u, hu⟩ : ∃ u, u = 128 ^ min j 8 := ⟨_, rfl⟩
    rw [← hu]
    by_cases hlt : j < m
    · have hlt' : (j : Int) < (m : Int) := by omega
      by_cases hlt9 : j < 9
      · have hlt9' : (j : Int) < 9 := by omega
        obtain ⟨b, o, rfl, hbw, hcells⟩ := hb.2 (by omega)
        obtain ⟨z, hz⟩ : ∃ z, bs[j]? = some z := ⟨bs[j]'(by omega), List.getElem?_eq_getElem _⟩
        have y1 : w.cell? ⟨b, o + j, none⟩ = some (.int .u8 (z.toNat : Nat)) := hcells j z hz
        clear hcells
        have hz255 := UInt8.toNat_lt z
        have hdr : bs.drop j = z :: bs.drop (j + 1) := by
          obtain ⟨hjl, e⟩ := List.getElem?_eq_some_iff.1 hz
          rw [List.drop_eq_getElem_cons hjl, e]
        obtain ⟨k, hk⟩ : ∃ k, 9 - j = k + 1 := ⟨8 - j, by omega⟩
        have hk2 : 9 - (j + 1) = k := by omega
        have hm8 : min j 8 = j := by omega
        rw [hm8] at hu
        obtain ⟨x, hx⟩ : ∃ x, x = z.toNat % 128 := ⟨_, rfl⟩
        obtain ⟨p, hp⟩ : ∃ p, p = x * u := ⟨_, rfl⟩
        obtain ⟨a2, ha2⟩ : ∃ a2, a2 = acc + p := ⟨_, rfl⟩
        have hgs := HG.out
        rw [hdr, hk] at hgs
        unfold getF at hgs
        rw [← hx, ← hu, ← hp, ← ha2] at hgs
        have hx1 : x < 128 := by omega
        have hpj : (128 : Nat) ^ (j + 1) = 128 * u := by rw [Nat.pow_succ, Nat.mul_comm, hu]
        have hxm : p + u ≤ 128 ^ (j + 1) := by
          rw [hpj, hp]
          calc x * u + u = (x + 1) * u := by rw [Nat.add_mul, Nat.one_mul]
            _ ≤ 128 * u := Nat.mul_le_mul (by omega) (Nat.le_refl _)
        have ha3 : a2 < 128 ^ (j + 1) := by omega
        have h9 : (128 : Nat) ^ (j + 1) ≤ 128 ^ 9 := Nat.pow_le_pow_right (by decide) (by omega)
        have ha4 : a2 < 9223372036854775808 := Nat.lt_of_lt_of_le ha3 h9
        have hp4 : p < 9223372036854775808 := by omega
        have hxI : (z.toNat : Int) % 128 = (x : Int) := by omega
        have hpI : (x : Int) * (u : Int) = (p : Int) := by rw [hp, Int.natCast_mul]
        have haI : (acc : Int) + (p : Int) = (a2 : Int) := by omega
        have HA3 := Lib.hid ha3
        have HGS := Lib.hid hgs
        have HK2 := Lib.hid hk2
        have HPJ := Lib.hid hpj
        have HU := Lib.hid hu
        have hz0 : ((z.toNat : Int) == 0) = decide (z.toNat = 0) := by rw [Bool.eq_iff_iff]; simp
        have HZ0 := Lib.hid hz0
        have HX := Lib.hid hx
        have hz128 : (128 : Int) ≤ (z.toNat : Int) ∨ (z.toNat : Int) < 128 := by omega
        have HP := Lib.hid hp
        have hu1 : j < 8 → 128 * u < 9223372036854775808 := fun h => by
          rw [← hpj]
          have h8 : (128 : Nat) ^ (j + 1) ≤ 128 ^ 8 := Nat.pow_le_pow_right (by decide) (by omega)
          exact Nat.lt_of_le_of_lt h8 (by decide)
        have hu8 : j = 8 → u = 72057594037927936 := fun h => by rw [hu, h]
        have ha5 : j < 8 → a2 < 72057594037927936 := fun h => by
          have h8 : (128 : Nat) ^ (j + 1) ≤ 128 ^ 8 := Nat.pow_le_pow_right (by decide) (by omega)
          exact Nat.lt_of_lt_of_le ha3 h8
        clear hgs hz0 hpj hxm ha3 hk2 hdr h9 HG hac hz hx hp hu ha2
        by_cases hj8 : j = 8
        · subst hj8
          obtain rfl := hu8 rfl
          obtain rfl : k = 0 := by omega
          clear hu1 ha5 hu8 hk
          by_cases hx64 : 64 < x
          · have hx64' : (64 : Int) < (x : Int) := by omega
            have HS := Lib.hid (show (0, 0) = getL bs by
              rw [← HGS.out]
              split
              · rfl
              · rw [if_pos (.inl (by have := HP.out; omega))])
            clear hpI
            go_wp2
            go_ret2
            rw [← HS.out]
            exact ⟨rfl, rfl⟩
          · have hx64' : ¬ (64 : Int) < (x : Int) := by omega
            have hpI8 : (x : Int) * 72057594037927936 = (p : Int) := by have := HP.out; omega
            clear hpI
            by_cases h128 : 128 ≤ z.toNat
            · have h128' : ¬ (z.toNat : Int) < 128 := by omega
              have HS := Lib.hid (show getF 0 (8 + 1) a2 (bs.drop (8 + 1)) = getL bs by rw [← HGS.out, if_pos h128])
              go_wp2
              go_round
              case rel => exact ⟨9, a2, by omega, by omega, by go_num, rfl, rfl, HA3.out, HS.out⟩
              case measure => simp [intOf]
            · have h128' : (z.toNat : Int) < 128 := by omega
              by_cases hzz : z.toNat = 0
              · have hzb : ((z.toNat : Int) == 0) = true := by rw [HZ0.out]; simpa using hzz
                have HS := Lib.hid (show (0, 0) = getL bs by rw [← HGS.out, if_neg h128, if_pos (.inr ⟨by omega, hzz⟩)])
                clear hzz
                go_wp2
                go_ret2
                rw [← HS.out]
                exact ⟨rfl, rfl⟩
              · have hzb : ((z.toNat : Int) == 0) = false := by rw [HZ0.out]; simpa using hzz
                by_cases hbig : 4611686018427387904 < a2
                · have hbig' : (4611686018427387904 : Int) < (a2 : Int) := by omega
                  have HS := Lib.hid (show (0, 0) = getL bs by rw [← HGS.out, if_neg h128, if_pos (.inl hbig)])
                  clear hzz
                  go_wp2
                  go_ret2
                  rw [← HS.out]
                  exact ⟨rfl, rfl⟩
                · have hbig' : ¬ (4611686018427387904 : Int) < (a2 : Int) := by omega
                  have HS := Lib.hid (show (a2, 8 + 1) = getL bs by rw [← HGS.out, if_neg h128, if_neg (by rintro (h | ⟨_, h⟩); exact hbig h; exact hzz h)])
                  clear hzz
                  go_wp2
                  go_ret2
                  rw [← HS.out]
                  exact ⟨rfl, rfl⟩
        · have hj8' : ((j : Int) == 8) = false := by simp; omega
          have hj8n : ¬ (j : Int) = 8 := by omega
          by_cases h128 : 128 ≤ z.toNat
          · have h128' : ¬ (z.toNat : Int) < 128 := by omega
            have HS := Lib.hid (show getF k (j + 1) a2 (bs.drop (j + 1)) = getL bs by rw [← HGS.out, if_pos h128])
            have hj8i : (j : Int) < 8 := by omega
            have hu2 := hu1 (by omega)
            go_wp2
            go_round
            case rel => exact ⟨j + 1, a2, by omega, by omega, by go_num, rfl, by rw [show min (j + 1) 8 = j + 1 by omega, HPJ.out]; go_num, HA3.out, by rw [HK2.out]; exact HS.out⟩
            case measure => simp [intOf]; omega
          · have h128' : (z.toNat : Int) < 128 := by omega
            by_cases hzz : z.toNat = 0
            · have hzb : ((z.toNat : Int) == 0) = true := by rw [HZ0.out]; simpa using hzz
              by_cases hj0 : 0 < j
              · have hj0' : (0 : Int) < (j : Int) := by omega
                have HS := Lib.hid (show (0, 0) = getL bs by rw [← HGS.out, if_neg h128, if_pos (.inr ⟨hj0, hzz⟩)])
                clear hzz
                go_wp2
                go_ret2
                rw [← HS.out]
                exact ⟨rfl, rfl⟩
              · have hj0' : ¬ (0 : Int) < (j : Int) := by omega
                have hbig : ¬ 4611686018427387904 < a2 := by have := ha5 (by omega); omega
                have hbig' : ¬ (4611686018427387904 : Int) < (a2 : Int) := by omega
                have HS := Lib.hid (show (a2, j + 1) = getL bs by rw [← HGS.out, if_neg h128, if_neg (by rintro (h | ⟨h, _⟩); exact hbig h; exact hj0 h)])
                clear hzz
                go_wp2
                go_ret2
                rw [← HS.out]
                exact ⟨rfl, rfl⟩
            · have hzb : ((z.toNat : Int) == 0) = false := by rw [HZ0.out]; simpa using hzz
              by_cases hbig : 4611686018427387904 < a2
              · have hbig' : (4611686018427387904 : Int) < (a2 : Int) := by omega
                have HS := Lib.hid (show (0, 0) = getL bs by rw [← HGS.out, if_neg h128, if_pos (.inl hbig)])
                clear hzz
                go_wp2
                go_ret2
                rw [← HS.out]
                exact ⟨rfl, rfl⟩
              · have hbig' : ¬ (4611686018427387904 : Int) < (a2 : Int) := by omega
                have HS := Lib.hid (show (a2, j + 1) = getL bs by rw [← HGS.out, if_neg h128, if_neg (by rintro (h | ⟨_, h⟩); exact hbig h; exact hzz h)])
                clear hzz
                go_wp2
                go_ret2
                rw [← HS.out]
                exact ⟨rfl, rfl⟩
      · have hlt9' : ¬ (j : Int) < 9 := by omega
        have HS := Lib.hid (show (0, 0) = getL bs by rw [← HG.out, show 9 - j = 0 by omega]; rfl)
        clear HG
        go_wp2
        go_ret2
        rw [← HS.out]
        exact ⟨rfl, rfl⟩
    · have hlt' : ¬ (j : Int) < (m : Int) := by omega
      have HS := Lib.hid (show (0, 0) = getL bs by
        rw [← HG.out, List.drop_of_length_le (by omega)]
        cases 9 - j <;> rfl)
      clear HG
      go_wp2
      go_ret2
      rw [← HS.out]
      exact ⟨rfl, rfl⟩
end Go.Proofs.Yteokiaeojgjpdaa
