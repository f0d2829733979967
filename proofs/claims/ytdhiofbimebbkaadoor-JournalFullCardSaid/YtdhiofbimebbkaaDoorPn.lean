/- pack.number: the number with which bytes begin. -/
import Derived.Test.YtdhiofbimebbkaaDoorBt
import Derived.Test.YtdhiofbimebbkaaDoorPk
import Derived.IntWalk
namespace Go.Proofs.YtdhiofbimebbkaaDoor
open Go.RowKit

theorem or_pow {n x i : Nat} (hn : n < 128 ^ i) (hx : x < 128) (hi : i ≤ 8) : bits BinOp.or IntKind.i64 (n : Int) (((x * 128 ^ i : Nat)) : Int) = ((n + x * 128 ^ i : Nat) : Int) := by
  have hp : (128 : Nat) ^ i = 2 ^ (7 * i) := by rw [Nat.pow_mul]
  have h8 : 128 ^ i ≤ 128 ^ 8 := Nat.pow_le_pow_right (by decide) hi
  have hlt : x * 128 ^ i + 128 ^ i ≤ 9223372036854775808 := by
    calc x * 128 ^ i + 128 ^ i = (x + 1) * 128 ^ i := by rw [Nat.add_mul, Nat.one_mul]
      _ ≤ 128 * 128 ^ 8 := Nat.mul_le_mul (by omega) h8
      _ = 9223372036854775808 := by decide
  have e : n ||| x * 128 ^ i = n + x * 128 ^ i := by
    rw [hp] at hn ⊢
    rw [Nat.or_comm, Nat.mul_comm x, ← Nat.two_pow_add_eq_or_of_lt hn x]
    omega
  show IntKind.i64.wrap ((BitVec.ofInt 64 (n : Int) ||| BitVec.ofInt 64 ((x * 128 ^ i : Nat) : Int)).toNat : Int) = _
  have h1 : (BitVec.ofInt 64 (n : Int)).toNat = n := by rw [BitVec.toNat_ofInt]; omega
  have h2 : (BitVec.ofInt 64 ((x * 128 ^ i : Nat) : Int)).toNat = x * 128 ^ i := by rw [BitVec.toNat_ofInt]; omega
  rw [BitVec.toNat_or, h1, h2, e, IntWalk.i64_in _ (by omega)]
theorem wrap64_in {x : Int} (h0 : 0 ≤ x) (h1 : x < 9223372036854775808) : wrap64 x = x := by unfold wrap64; omega
def numV (r : Nat × Nat) : Value := .tuple #[.int .i64 (r.1 : Nat), .int .i64 (r.2 : Nat)]
set_option maxHeartbeats 1000000 in
set_option maxRecDepth 100000 in
theorem number_any {w : World} {A : Option Addr} {m c : Nat} {bs : List UInt8} (hb : BytesAt w A m bs) (hm : m ≤ maxLen) :
    Calls Tryd.prog 67 #[.slice A m c] w fun e w' => e = .returned (numV (getL bs)) ∧ w = w' := by
  unfold maxLen at hm
  have hl := hb.1
  obtain ⟨q, hq⟩ : ∃ q : Nat, q = min m 9 := ⟨_, rfl⟩
  have hq1 : q ≤ m := by omega
  have hq2 : q ≤ 9 := by omega
  have hq3 : m ≤ q ∨ 9 ≤ q := by omega
  clear hq
  go_enter Tryd.func67, Tryd.ntmps67
  go_wp2_with fail
  all_goals
    go_loop [4, 9] (fun n i => ∃ j acc : Nat, j ≤ q ∧ i = .int .i64 (j : Nat) ∧ n = .int .i64 (acc : Nat) ∧ acc < 128 ^ j ∧ getF (9 - j) j acc (bs.drop j) = getL bs) (fun _ i => q - (intOf i).toNat)
    case atStart => exact ⟨0, 0, Nat.zero_le _, rfl, rfl, by decide, rfl⟩
    case round =>
      obtain ⟨j, acc, hj, rfl, rfl, hac, hgf⟩ := hrel
      have HG := Lib.hid hgf
      clear hgf
      by_cases hlt : j < q
      · have hlt' : (j : Int) < (m : Int) := by omega
        have hlt9 : (j : Int) < 9 := by omega
        obtain ⟨b, o, rfl, hbw, hcells⟩ := hb.2 (by omega)
        obtain ⟨z, hz⟩ : ∃ z, bs[j]? = some z := ⟨bs[j]'(by omega), List.getElem?_eq_getElem _⟩
        have y1 : w.cell? ⟨b, o + j, none⟩ = some (.int .u8 (z.toNat : Nat)) := hcells j z hz
        clear hcells
        have hz255 := UInt8.toNat_lt z
        have hdr : bs.drop j = z :: bs.drop (j + 1) := by
          obtain ⟨hjl, e⟩ := List.getElem?_eq_some_iff.1 hz
          rw [List.drop_eq_getElem_cons hjl, e]
        obtain ⟨k, hk⟩ : ∃ k, 9 - j = k + 1 := ⟨8 - j, by omega⟩
        have hk2 : 9 - (j + 1) = k := by omega
        obtain ⟨a2, ha2⟩ : ∃ a2, a2 = acc + z.toNat % 128 * 128 ^ j := ⟨_, rfl⟩
        have hgs := HG.out
        rw [hdr, hk] at hgs
        unfold getF at hgs
        rw [← ha2] at hgs
        have hx : z.toNat % 128 < 128 := Nat.mod_lt _ (by decide)
        have hpj : (128 : Nat) ^ (j + 1) = 128 * 128 ^ j := by rw [Nat.pow_succ, Nat.mul_comm]
        have hxm : z.toNat % 128 * 128 ^ j + 128 ^ j ≤ 128 ^ (j + 1) := by
          rw [hpj]
          calc z.toNat % 128 * 128 ^ j + 128 ^ j = (z.toNat % 128 + 1) * 128 ^ j := by rw [Nat.add_mul, Nat.one_mul]
            _ ≤ 128 * 128 ^ j := Nat.mul_le_mul (by omega) (Nat.le_refl _)
        have ha3 : a2 < 128 ^ (j + 1) := by omega
        have h9 : (128 : Nat) ^ (j + 1) ≤ 128 ^ 9 := Nat.pow_le_pow_right (by decide) (by omega)
        have ha4 : a2 < 9223372036854775808 := Nat.lt_of_lt_of_le ha3 h9
        have hor : bits BinOp.or IntKind.i64 (acc : Int) (wrap64 ((z.toNat : Int) % 128 * 2 ^ (7 * j))) = (a2 : Int) := by
          have e1 : ((z.toNat : Int) % 128 * 2 ^ (7 * j)) = ((z.toNat % 128 * 128 ^ j : Nat) : Int) := by
            rw [show (128 : Nat) ^ j = 2 ^ (7 * j) by rw [Nat.pow_mul]]
            rw [Int.natCast_mul, Int.natCast_pow, Int.natCast_emod]; rfl
          have e2 : wrap64 ((z.toNat % 128 * 128 ^ j : Nat) : Int) = ((z.toNat % 128 * 128 ^ j : Nat) : Int) := by
            refine wrap64_in (by omega) ?_
            have hq9 : z.toNat % 128 * 128 ^ j < 9223372036854775808 := Nat.lt_of_lt_of_le (by omega) h9
            omega
          rw [e1, e2, or_pow hac hx (by omega), ha2]
        have HA3 := Lib.hid ha3
        have HGS := Lib.hid hgs
        have HK2 := Lib.hid hk2
        have hz0 : ((z.toNat : Int) == 0) = decide (z.toNat = 0) := by rw [Bool.eq_iff_iff]; simp
        have HZ0 := Lib.hid hz0
        clear hgs hz0 hpj hxm ha3 hk hk2 ha2 hdr h9 HG hac hz
        by_cases h128 : 128 ≤ z.toNat
        · have h128' : (128 : Int) ≤ (z.toNat : Int) := by omega
          have HS := Lib.hid (show getF k (j + 1) a2 (bs.drop (j + 1)) = getL bs by rw [← HGS.out, if_pos h128])
          go_wp2
          go_round
          case rel => exact ⟨j + 1, a2, by omega, by go_num, rfl, HA3.out, by rw [HK2.out]; exact HS.out⟩
          case measure => simp [intOf]; omega
        · have h128' : ¬ (128 : Int) ≤ (z.toNat : Int) := by omega
          by_cases hbig : 4611686018427387904 < a2
          · have hbig' : (4611686018427387904 : Int) < (a2 : Int) := by omega
            have HS := Lib.hid (show (0, 0) = getL bs by rw [← HGS.out, if_neg h128, if_pos (.inl hbig)])
            go_wp2
            go_ret2
            rw [← HS.out]
            exact ⟨rfl, rfl⟩
          · have hbig' : ¬ (4611686018427387904 : Int) < (a2 : Int) := by omega
            by_cases hj0 : 0 < j
            · by_cases hzz : z.toNat = 0
              · have HS := Lib.hid (show (0, 0) = getL bs by rw [← HGS.out, if_neg h128, if_pos (.inr ⟨hj0, hzz⟩)])
                have hzb : ((z.toNat : Int) == 0) = true := by rw [HZ0.out]; simpa using hzz
                clear hzz
                go_wp2
                go_ret2
                rw [← HS.out]
                exact ⟨rfl, rfl⟩
              · have HS := Lib.hid (show (a2, j + 1) = getL bs by rw [← HGS.out, if_neg h128, if_neg (by rintro (h | ⟨_, h⟩); exact hbig h; exact hzz h)])
                have hzb : ((z.toNat : Int) == 0) = false := by rw [HZ0.out]; simpa using hzz
                clear hzz
                go_wp2
                go_ret2
                rw [← HS.out]
                exact ⟨rfl, rfl⟩
            · have HS := Lib.hid (show (a2, j + 1) = getL bs by rw [← HGS.out, if_neg h128, if_neg (by rintro (h | ⟨h, _⟩); exact hbig h; exact hj0 h)])
              go_wp2
              go_ret2
              rw [← HS.out]
              exact ⟨rfl, rfl⟩
      · have hjq : j = q := by omega
        have HS := Lib.hid (show (0, 0) = getL bs by
          rw [← HG.out]
          rcases hq3 with h3 | h3
          · rw [List.drop_of_length_le (by omega)]
            cases 9 - j <;> rfl
          · rw [show 9 - j = 0 by omega]; rfl)
        clear HG hjq
        first
          | (have hx : ¬ (j : Int) < (m : Int) := by omega
             go_wp2
             go_ret2
             rw [← HS.out]
             exact ⟨rfl, rfl⟩)
          | (have hx : ¬ (j : Int) < 9 := by omega
             go_wp2
             go_ret2
             rw [← HS.out]
             exact ⟨rfl, rfl⟩)
end Go.Proofs.YtdhiofbimebbkaaDoor
