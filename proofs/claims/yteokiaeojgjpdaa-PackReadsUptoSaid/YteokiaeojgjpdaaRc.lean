/- The document's own text with which bytes begin. -/
import Derived.Test.YteokiaeojgjpdaaRa
namespace Go.Proofs.Yteokiaeojgjpdaa
open Go.RowKit

def txtV (r : List UInt8 × Nat) : Value := .tuple #[.string ⟨r.1.toArray⟩, .int .i64 (r.2 : Nat)]
set_option maxHeartbeats 1000000 in
set_option maxRecDepth 100000 in
theorem getText_any {w : World} {A : Option Addr} {m c : Nat} {bs : List UInt8} {most : Int} (hb : BytesAt w A m bs) (hm : m ≤ maxLen) (hmc : m ≤ c) :
    Calls Try.prog 42 #[.slice A m c, .int .i64 most] w fun e w' => e = .returned (txtV (getT most bs)) ∧ w = w' := by
  have C0 := Lib.hid (getNum_any (c := c) hb hm)
  obtain ⟨n, k, hgl⟩ : ∃ n k, getL bs = (n, k) := ⟨_, _, rfl⟩
  have hbd := getL_bd bs
  have hbl := hb.1
  have GT := Lib.hid (show getT most bs = if k = 0 ∨ most < (n : Int) ∨ bs.length < k + n then ([], 0) else ((bs.drop k).take n, k + n) by unfold getT; rw [hgl])
  rw [hgl, show numV (n, k) = .tuple #[.int .i64 (n : Nat), .int .i64 (k : Nat)] from rfl] at C0
  rw [hgl] at hbd
  simp only at hbd
  have HB := Lib.hid hb
  have HM := Lib.hid hm
  clear hb hgl
  unfold maxLen at hm
  by_cases hk : k = 0
  · have hkb : ((k : Int) == 0) = true := by simp; omega
    have HG := Lib.hid (show getT most bs = ([], 0) by rw [GT.out, if_pos (.inl hk)])
    clear hbd hk
    go_enter Try.func42, Try.ntmps42
    go_wp2_with fail
    ((with_reducible refine C0.out.mono ?_))
    rintro e w' ⟨rfl, rfl⟩
    go_wp2
    go_ret2
    rw [HG.out]
    exact ⟨rfl, rfl⟩
  · have hkb : ((k : Int) == 0) = false := by simp; omega
    obtain ⟨h0k, hk9, hkm, hn4⟩ : 0 < k ∧ k ≤ 9 ∧ k ≤ bs.length ∧ n ≤ 4611686018427387904 := by
      rcases hbd with h0 | h0
      · injection h0 with _ h1; omega
      · exact h0
    clear hbd
    by_cases hmost : most < (n : Int)
    · have HG := Lib.hid (show getT most bs = ([], 0) by rw [GT.out, if_pos (.inr (.inl hmost))])
      clear hk
      go_enter Try.func42, Try.ntmps42
      go_wp2_with fail
      ((with_reducible refine C0.out.mono ?_))
      rintro e w' ⟨rfl, rfl⟩
      go_wp2
      go_ret2
      rw [HG.out]
      exact ⟨rfl, rfl⟩
    · by_cases hlen : m < k + n
      · have hlen' : (m : Int) - (k : Int) < (n : Int) := by omega
        have HG := Lib.hid (show getT most bs = ([], 0) by rw [GT.out, if_pos (.inr (.inr (by omega)))])
        clear hk
        go_enter Try.func42, Try.ntmps42
        go_wp2_with fail
        ((with_reducible refine C0.out.mono ?_))
        rintro e w' ⟨rfl, rfl⟩
        go_wp2
        go_ret2
        rw [HG.out]
        exact ⟨rfl, rfl⟩
      · have hlen' : ¬ (m : Int) - (k : Int) < (n : Int) := by omega
        obtain ⟨q, hq⟩ : ∃ q, q = k + n := ⟨_, rfl⟩
        have hqI : (k : Int) + (n : Int) = (q : Int) := by omega
        have HG := Lib.hid (show getT most bs = ((bs.drop k).take n, q) by rw [GT.out, if_neg (by omega), hq])
        have hq1 : q ≤ c := by omega
        have hq2 : k ≤ q := by omega
        obtain ⟨b, o, rfl, hbw, _⟩ := HB.out.2 (by omega)
        by_cases hcap : c = k
        · subst hcap
          obtain rfl : n = 0 := by omega
          obtain rfl : q = c := by omega
          have hst : (convert 44 9 (.slice (some ⟨b, o, none⟩) 0 0)).run Try.prog w = .ok (.string ⟨((bs.drop q).take 0).toArray⟩) w := by
            rw [List.take_zero]
            exact conv_str (A := some ⟨b, o, none⟩) (m := 0) ⟨rfl, fun h => by omega⟩ 0
          have hm2 : m = q := by omega
          subst hm2
          clear hk hqI hq hq1 hq2 hlen hlen'
          go_enter Try.func42, Try.ntmps42
          go_wp2_with fail
          ((with_reducible refine C0.out.mono ?_))
          rintro e w' ⟨rfl, rfl⟩
          go_wp2
          go_ret2
          rw [HG.out]
          exact ⟨rfl, rfl⟩
        · have hst : (convert 44 9 (.slice (some ⟨b, o + k, none⟩) n (c - k))).run Try.prog w = .ok (.string ⟨((bs.drop k).take n).toArray⟩) w :=
            conv_str ((HB.out.drop_ (k := k) (by omega)).cut (k := n) (by omega)) _
          subst hq
          have hkn0 : (0 : Int) ≤ (k : Int) + (n : Int) := by omega
          have hkn1 : (k : Int) + (n : Int) ≤ (c : Int) := by omega
          have hkn3 : (k : Int) ≤ (k : Int) + (n : Int) := by omega
          have hkn2 : (k : Int) + (n : Int) ≤ 9223372036854775807 := by omega
          clear hk hqI hq1 hq2
          go_enter Try.func42, Try.ntmps42
          go_wp2_with fail
          ((with_reducible refine C0.out.mono ?_))
          rintro e w' ⟨rfl, rfl⟩
          go_wp2
          go_ret2
          rw [HG.out]
          exact ⟨rfl, rfl⟩
end Go.Proofs.Yteokiaeojgjpdaa
