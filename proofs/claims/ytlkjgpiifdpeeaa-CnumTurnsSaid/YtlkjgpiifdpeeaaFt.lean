/- Plain facts: the form of a part, numbers turned by quarters, a number and its opposite summed. No program of the layer. -/
import Derived.Test.YtlkjgpiifdpeeaaNe
namespace Go.Proofs.Ytlkjgpiifdpeeaa
open Ieee

def ng (x : Nat) : Nat := Op.negFloat .f64 x
theorem ng_eq (x : Nat) : ng x = x ^^^ FD.signWeight := rfl
theorem ng_lt {x : Nat} (h : x < 2 * FD.signWeight) : ng x < 2 * FD.signWeight := by
  have e : 2 * FD.signWeight = 2 ^ 64 := by decide
  rw [e] at h ⊢
  exact Nat.xor_lt_two_pow h (by decide)
theorem ng_ng (x : Nat) : ng (ng x) = x := by rw [ng_eq, ng_eq, Nat.xor_assoc, Nat.xor_self, Nat.xor_zero]
theorem abs_ng (x : Nat) : absB (ng x) = absB x := by
  unfold absB
  rw [ng_eq, show double.signWeight = 2 ^ 63 from by decide, Nat.xor_mod_two_pow, Nat.mod_self, Nat.xor_zero]
theorem order_self_opp (d : Datum) : d.opposite.order d.opposite = d.order d := by
  cases d with
  | number s m e => simp only [Datum.opposite, Datum.order]; simp
  | infinity s => cases s <;> rfl
  | nan => rfl
theorem nan_ng {x : Nat} (h : x < 2 * FD.signWeight) : nanB (ng x) = nanB x := by
  unfold nanB
  have : FloatKind.f64.format.order (ng x) (ng x) = FloatKind.f64.format.order x x := by
    show (FD.read (ng x)).order (FD.read (ng x)) = (FD.read x).order (FD.read x)
    rw [ng_eq, read_neg FD x h, order_self_opp]
  rw [this]
theorem fin_ng {x : Nat} (h : x < 2 * FD.signWeight) : finB (ng x) = finB x := by
  unfold finB; rw [nan_ng h]; unfold infB; rw [abs_ng]

def fmB (x : Nat) : Nat := if eqF x 0 then 0 else x
theorem fin_zero : finB 0 = true := by decide +kernel
theorem read_zero : FD.read 0 = .number false 0 FD.leastPlace := by decide +kernel
theorem fmB_lt {x : Nat} (h : x < 2 * FD.signWeight) : fmB x < 2 * FD.signWeight := by
  unfold fmB; split
  · decide
  · exact h
theorem fin_fm {x : Nat} (h : finB x = true) : finB (fmB x) = true := by
  unfold fmB; split
  · exact fin_zero
  · exact h
theorem eq_self {x : Nat} (h : finB x = true) : eqF x x = true := by
  simp only [finB, Bool.and_eq_true, Bool.not_eq_true', nanB, bne_eq_false_iff_eq] at h
  unfold eqF; rw [h.1]; rfl
theorem eq_fm {x : Nat} (h : finB x = true) : eqF (fmB x) x = true ∧ eqF x (fmB x) = true := by
  unfold fmB
  cases he : eqF x 0
  · exact ⟨eq_self h, eq_self h⟩
  · refine ⟨?_, he⟩
    have := eq_both (finB_num h) (finB_num fin_zero)
    rw [if_pos rfl]
    exact this.symm.trans he
theorem fm_fm (x : Nat) : fmB (fmB x) = fmB x := by
  cases he : eqF x 0
  · have : fmB x = x := by unfold fmB; rw [he]; rfl
    rw [this, this]
  · have : fmB x = 0 := by unfold fmB; rw [he]; rfl
    rw [this]; decide +kernel
/-- a zero: the magnitude is nought -/
theorem zero_iff {x : Nat} {s : Bool} {m : Nat} {e : Int} (h : FD.read x = .number s m e) : eqF x 0 = true ↔ m = 0 := by
  show (FD.order x 0 == some .eq) = true ↔ m = 0
  unfold Format.order
  rw [h, read_zero]
  simp only [Datum.order, beq_iff_eq, Option.some.injEq, Int.compare_eq_eq]
  have z : signed false 0 (FD.leastPlace - min e FD.leastPlace).toNat = 0 := by simp [signed]
  rw [z]
  unfold signed
  rw [Nat.shiftLeft_eq]
  constructor
  · intro hh
    have hp : 0 < 2 ^ (e - min e FD.leastPlace).toNat := Nat.two_pow_pos _
    have : m * 2 ^ (e - min e FD.leastPlace).toNat = 0 := by split at hh <;> omega
    rcases Nat.mul_eq_zero.1 this with h | h
    · exact h
    · omega
  · rintro rfl; simp
theorem eq_ng {x : Nat} (hx : x < 2 * FD.signWeight) (h : finB x = true) : eqF (ng x) 0 = eqF x 0 := by
  obtain ⟨s, m, e, hr⟩ := finB_num h
  have hr2 : FD.read (ng x) = .number (!s) m e := by rw [ng_eq, read_neg FD x hx, hr]; rfl
  rw [Bool.eq_iff_iff, zero_iff hr, zero_iff hr2]
theorem fm_ng_fm {x : Nat} (hx : x < 2 * FD.signWeight) (h : finB x = true) : fmB (ng (fmB x)) = fmB (ng x) := by
  cases he : eqF x 0
  · have : fmB x = x := by unfold fmB; rw [he]; rfl
    rw [this]
  · have h1 : fmB x = 0 := by unfold fmB; rw [he]; rfl
    have h2 : fmB (ng x) = 0 := by unfold fmB; rw [eq_ng hx h, he]; rfl
    rw [h1, h2]; decide +kernel

theorem log2_shl {n : Nat} (k : Nat) (hn : n ≠ 0) : (n <<< k).log2 = n.log2 + k := by
  have hp : 0 < 2 ^ k := Nat.two_pow_pos _
  rw [Nat.shiftLeft_eq]
  have h0 : n * 2 ^ k ≠ 0 := fun e => by
    rcases Nat.mul_eq_zero.1 e with e | e
    · exact hn e
    · omega
  rw [Nat.log2_eq_iff h0, Nat.pow_add, show n.log2 + k + 1 = (n.log2 + 1) + k by omega, Nat.pow_add 2 (n.log2 + 1) k]
  exact ⟨Nat.mul_le_mul_right _ (Nat.log2_self_le hn), Nat.mul_lt_mul_of_pos_right Nat.lt_log2_self hp⟩
theorem cut_exact (n k drop : Nat) (hn : n ≠ 0) (h : drop ≤ k) : Toward.even.cut false (n <<< k) drop = n <<< (k - drop) := by
  have hl : (n <<< k).log2 = n.log2 + k := by exact log2_shl k hn
  unfold Toward.cut
  have hm : min drop ((n <<< k).log2 + 2) = drop := by rw [hl]; omega
  rw [hm, Nat.one_shiftLeft]
  have e : n <<< k = n <<< (k - drop) * 2 ^ drop := by
    rw [Nat.shiftLeft_eq, Nat.shiftLeft_eq, Nat.mul_assoc, ← Nat.pow_add, Nat.sub_add_cancel h]
  have hp : 0 < 2 ^ drop := Nat.two_pow_pos _
  rw [e]
  dsimp only
  rw [Nat.mul_div_cancel _ hp, Nat.mul_mod_left]
  have h1 : decide (2 ^ drop < 2 * 0) = false := by simp
  have h2 : (2 ^ drop == 2 * 0) = false := by rw [beq_eq_false_iff_ne]; omega
  simp only [h1, h2]
  simp
theorem rung_back (f : Format) {r : Nat} (h : r < f.infRung) : ∃ m k : Nat, (∀ s, bodyD f r s = .number s m (f.leastPlace + k)) ∧ rungOf f (m <<< k) f.leastPlace = r ∧ (m = 0 ↔ r = 0) := by
  have hb : 0 < f.binade := Nat.two_pow_pos _
  by_cases h1 : r < f.binade
  · refine ⟨r, 0, fun s => by simp [bodyD, h1], ?_, Iff.rfl⟩
    rw [Nat.shiftLeft_zero]
    unfold rungOf
    split
    · rename_i h0; exact h0.symm
    · rename_i h0
      have hl : r.log2 < f.fractionBits := (Nat.log2_lt h0).2 h1
      have hlast : max (f.leastPlace + (r.log2 : Int) - f.fractionBits) f.leastPlace = f.leastPlace := by omega
      simp only [hlast]
      have hc := cut_exact r 0 0 h0 (Nat.le_refl _)
      simp only [Nat.shiftLeft_zero, Nat.sub_self] at hc
      simp only [Int.sub_self, Int.toNat_zero, Nat.shiftLeft_zero, Nat.zero_mul, Nat.zero_add, hc]
      omega
  · have hq : 1 ≤ r / f.binade := Nat.div_pos (by omega) hb
    have hr : f.binade * (r / f.binade) + r % f.binade = r := Nat.div_add_mod _ _
    have hm0 : f.binade + r % f.binade ≠ 0 := by omega
    have hml : r % f.binade < f.binade := Nat.mod_lt _ hb
    have hlog : (f.binade + r % f.binade).log2 = f.fractionBits := by
      rw [Nat.log2_eq_iff hm0]
      have : f.binade = 2 ^ f.fractionBits := rfl
      rw [Nat.pow_succ]; omega
    refine ⟨f.binade + r % f.binade, r / f.binade - 1, fun s => by rw [bodyD, if_neg h1, if_pos h], ?_, by omega⟩
    unfold rungOf
    rw [if_neg (by rw [Nat.shiftLeft_eq]; exact fun e => by rcases Nat.mul_eq_zero.1 e with e | e; exact hm0 e; exact absurd e (Nat.ne_of_gt (Nat.two_pow_pos _)))]
    have hl2 : ((f.binade + r % f.binade) <<< (r / f.binade - 1)).log2 = f.fractionBits + (r / f.binade - 1) := by rw [log2_shl _ hm0, hlog]
    have hlast : max (f.leastPlace + (((f.binade + r % f.binade) <<< (r / f.binade - 1)).log2 : Int) - f.fractionBits) f.leastPlace = f.leastPlace + ((r / f.binade - 1 : Nat) : Int) := by rw [hl2]; omega
    simp only [hlast]
    have e1 : (f.leastPlace - (f.leastPlace + ((r / f.binade - 1 : Nat) : Int))).toNat = 0 := by omega
    have e2 : (f.leastPlace + ((r / f.binade - 1 : Nat) : Int) - f.leastPlace).toNat = r / f.binade - 1 := by omega
    rw [e1, e2, Nat.shiftLeft_zero, cut_exact _ _ _ hm0 (Nat.le_refl _), Nat.sub_self, Nat.shiftLeft_zero]
    have e3 : (r / f.binade - 1) * f.binade + (f.binade + r % f.binade) = r := by
      have : (r / f.binade - 1) * f.binade + f.binade = r / f.binade * f.binade := by
        rw [← Nat.succ_mul]; congr 1; omega
      have h5 : r / f.binade * f.binade = f.binade * (r / f.binade) := Nat.mul_comm _ _
      omega
    rw [e3]
    omega

theorem word_back {x : Nat} (h : x < 2 * FD.signWeight) : FD.word (x / FD.signWeight % 2 == 1) (x % FD.signWeight) = x := by
  have hd : x / FD.signWeight < 2 := Nat.div_lt_of_lt_mul (by omega)
  have hx : FD.signWeight * (x / FD.signWeight) + x % FD.signWeight = x := Nat.div_add_mod _ _
  unfold Format.word
  match hq : x / FD.signWeight, hd with
  | 0, _ => rw [hq] at hx; simpa using hx
  | 1, _ => rw [hq] at hx; simpa using hx
theorem num_lt {x : Nat} (h : IsNum FD x) : x % FD.signWeight < FD.infRung := by
  obtain ⟨s, m, e, h⟩ := h
  rw [read_body] at h
  rcases Nat.lt_or_ge (x % FD.signWeight) FD.infRung with h1 | h1
  · exact h1
  · exfalso
    have h2 : ¬ x % FD.signWeight < FD.binade := by
      have : FD.binade ≤ FD.infRung := by decide
      omega
    unfold bodyD at h
    rw [if_neg h2, if_neg (by omega)] at h
    split at h <;> cases h
/-- 0 and a number summed: its form -/
theorem add_zero_left {x : Nat} (hx : x < 2 * FD.signWeight) (h : finB x = true) : FD.add 0 x = some (fmB x) := by
  obtain ⟨m, k, hb, hr, hz⟩ := rung_back FD (num_lt (finB_num h))
  have hread : FD.read x = .number (x / FD.signWeight % 2 == 1) m (FD.leastPlace + k) := by rw [read_body]; exact hb _
  have hmin : min FD.leastPlace (FD.leastPlace + (k : Int)) = FD.leastPlace := by omega
  have hk : (FD.leastPlace + (k : Int) - FD.leastPlace).toNat = k := by omega
  have h0 : (FD.leastPlace - FD.leastPlace).toNat = 0 := by omega
  unfold Format.add
  rw [read_zero, hread]
  simp only [Datum.sum, Option.map_some, Option.some.injEq, hmin, hk, h0]
  have hs0 : signed false 0 0 = 0 := by simp [signed]
  rw [hs0, Int.zero_add]
  by_cases hm : m = 0
  · have he : fmB x = 0 := by
      unfold fmB; rw [(zero_iff hread).2 hm]; rfl
    subst hm
    have hs : signed (x / FD.signWeight % 2 == 1) 0 k = 0 := by unfold signed; simp
    rw [hs, he]
    simp only [Format.write, Format.nearest, Int.natAbs_zero, if_true, Bool.false_and]
    rfl
  · have he : fmB x = x := by
      unfold fmB
      cases hq : eqF x 0
      · rfl
      · exact absurd ((zero_iff hread).1 hq) hm
    have hpos : 0 < m <<< k := by
      rw [Nat.shiftLeft_eq]; exact Nat.mul_pos (by omega) (Nat.two_pow_pos _)
    have hna : (signed (x / FD.signWeight % 2 == 1) m k).natAbs = m <<< k := by unfold signed; split <;> omega
    have hne : signed (x / FD.signWeight % 2 == 1) m k ≠ 0 := by intro e; rw [e] at hna; simp at hna; omega
    have hlt : decide (signed (x / FD.signWeight % 2 == 1) m k < 0) = (x / FD.signWeight % 2 == 1) := by
      unfold signed
      cases (x / FD.signWeight % 2 == 1)
      · simp only [Bool.false_eq_true, if_false, decide_eq_false_iff_not]; omega
      · simp only [if_true, decide_eq_true_eq]; omega
    rw [if_neg hne, hna, hlt, he]
    simp only [Format.write, nearest_rung, hr]
    exact word_back hx
/-- a number's form and its opposite's summed: nought -/
theorem add_opp {x : Nat} (hx : x < 2 * FD.signWeight) (h : finB x = true) : FD.add (fmB x) (fmB (ng x)) = some 0 := by
  cases he : eqF x 0
  · have h1 : fmB x = x := by unfold fmB; rw [he]; rfl
    have h2 : fmB (ng x) = ng x := by unfold fmB; rw [eq_ng hx h, he]; rfl
    obtain ⟨s, m, e, hr⟩ := finB_num h
    have hr2 : FD.read (ng x) = .number (!s) m e := by rw [ng_eq, read_neg FD x hx, hr]; rfl
    unfold Format.add
    rw [h1, h2, hr, hr2]
    simp only [Datum.sum, Option.map_some, Option.some.injEq, signed_opp]
    have hz : ∀ z : Int, z + -z = 0 := fun z => by omega
    rw [hz]
    cases s <;> simp [Format.write, Format.nearest, Format.word]
  · have h1 : fmB x = 0 := by unfold fmB; rw [he]; rfl
    have h2 : fmB (ng x) = 0 := by unfold fmB; rw [eq_ng hx h, he]; rfl
    rw [h1, h2]; decide +kernel

end Go.Proofs.Ytlkjgpiifdpeeaa
