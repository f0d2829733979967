/- Plain facts: runs of digits held against each other. No program. -/
import Derived.Test.YtmicjadbahicfaaDoorNcPo
import Derived.Lib.Bytealg
import Derived.Lib.TrimByte
namespace Go.Proofs.YtmicjadbahicfaaDoor

theorem strip_val (p : List UInt8) : val (Lib.trimLeftB p 48) = val p := by
  unfold Lib.trimLeftB
  induction p with
  | nil => rfl
  | cons c p ih =>
    rw [List.dropWhile_cons]
    split
    · rename_i h
      have hc : c = 48 := by simpa using h
      rw [ih]; simp [val, hc]
    · rfl
theorem strip_all {p : List UInt8} (h : AllD p) : AllD (Lib.trimLeftB p 48) := fun c hc => h c (List.Sublist.mem hc (List.dropWhile_sublist _))
theorem strip_head (p : List UInt8) : Lib.trimLeftB p 48 = [] ∨ ∃ c l, Lib.trimLeftB p 48 = c :: l ∧ c ≠ 48 := by
  unfold Lib.trimLeftB
  induction p with
  | nil => exact Or.inl rfl
  | cons c p ih =>
    rw [List.dropWhile_cons]
    split
    · exact ih
    · rename_i h; exact Or.inr ⟨c, p, rfl, by simpa using h⟩
theorem val_ge {c : UInt8} {l : List UInt8} (h : AllD (c :: l)) (hc : c ≠ 48) : 10 ^ l.length ≤ val (c :: l) := by
  have h1 := isD_iff.1 h.tail.1
  have h2 : c.toNat ≠ 48 := fun e => hc (UInt8.toNat_inj.1 e)
  have h3 : 1 * 10 ^ l.length ≤ (c.toNat - 48) * 10 ^ l.length := Nat.mul_le_mul_right _ (by omega)
  simp only [val]; omega
theorem strip_len {p q : List UInt8} (hp : AllD p) (hq : AllD q) (h : (Lib.trimLeftB p 48).length < (Lib.trimLeftB q 48).length) : val p < val q := by
  rw [← strip_val p, ← strip_val q]
  have h1 := val_lt (strip_all hp)
  rcases strip_head q with e | ⟨c, l, e, hc⟩
  · rw [e] at h; simp at h
  · have h2 := val_ge (e ▸ strip_all hq) hc
    rw [e] at h ⊢
    have h3 : 10 ^ (Lib.trimLeftB p 48).length ≤ 10 ^ l.length := Nat.pow_le_pow_right (by omega) (by simpa using Nat.le_of_lt_succ h)
    omega
theorem lex_val {x y : List UInt8} (hx : AllD x) (hy : AllD y) (h : x.length = y.length) : Lib.compareBytes x y = c3 (val x) (val y) := by
  induction x generalizing y with
  | nil => cases y with
    | nil => rfl
    | cons => simp at h
  | cons c x ih => cases y with
    | nil => simp at h
    | cons d y =>
      have hl : x.length = y.length := by simpa using h
      have v1 := val_lt hx.tail.2
      have v2 := val_lt hy.tail.2
      have i1 := isD_iff.1 hx.tail.1
      have i2 := isD_iff.1 hy.tail.1
      rw [hl] at v1
      simp only [Lib.compareBytes, val, hl]
      rcases Nat.lt_trichotomy c.toNat d.toNat with hlt | heq | hgt
      · rw [if_pos (UInt8.lt_iff_toNat_lt.2 hlt)]
        have : (c.toNat - 48 + 1) * 10 ^ y.length ≤ (d.toNat - 48) * 10 ^ y.length := Nat.mul_le_mul_right _ (by omega)
        rw [Nat.succ_mul] at this
        unfold c3; rw [if_pos (by omega)]
      · have hc : c = d := UInt8.toNat_inj.1 heq
        subst hc
        rw [if_neg (by rw [UInt8.lt_iff_toNat_lt]; omega), if_neg (by rw [UInt8.lt_iff_toNat_lt]; omega), ih hx.tail.2 hy.tail.2 hl]
        unfold c3
        split <;> split <;> (try split) <;> (try split) <;> omega
      · rw [if_neg (by rw [UInt8.lt_iff_toNat_lt]; omega), if_pos (UInt8.lt_iff_toNat_lt.2 hgt)]
        have : (d.toNat - 48 + 1) * 10 ^ y.length ≤ (c.toNat - 48) * 10 ^ y.length := Nat.mul_le_mul_right _ (by omega)
        rw [Nat.succ_mul] at this
        unfold c3; rw [if_neg (by omega), if_pos (by omega)]

def runCode (p q : List UInt8) : Int :=
  if c3 (Lib.trimLeftB p 48).length (Lib.trimLeftB q 48).length ≠ 0 then c3 (Lib.trimLeftB p 48).length (Lib.trimLeftB q 48).length
  else if Lib.compareBytes (Lib.trimLeftB p 48) (Lib.trimLeftB q 48) ≠ 0 then Lib.compareBytes (Lib.trimLeftB p 48) (Lib.trimLeftB q 48)
  else c3 p.length q.length
theorem runCode_eq {p q : List UInt8} (hp : AllD p) (hq : AllD q) : runCode p q = cT (48, val p, p.length) (48, val q, q.length) := by
  have e0 : c3 48 48 = 0 := by decide
  unfold runCode cT
  simp only [e0, ne_eq, not_true_eq_false, if_false]
  rcases Nat.lt_trichotomy (Lib.trimLeftB p 48).length (Lib.trimLeftB q 48).length with h | h | h
  · have hv := strip_len hp hq h
    have c1 : c3 (Lib.trimLeftB p 48).length (Lib.trimLeftB q 48).length = -1 := by unfold c3; rw [if_pos h]
    have c2 : c3 (val p) (val q) = -1 := by unfold c3; rw [if_pos hv]
    rw [c1, c2]; simp
  · have c1 : c3 (Lib.trimLeftB p 48).length (Lib.trimLeftB q 48).length = 0 := c3_zero.2 h
    rw [c1, lex_val (strip_all hp) (strip_all hq) h, strip_val, strip_val]; simp
  · have hv := strip_len hq hp h
    have c1 : c3 (Lib.trimLeftB p 48).length (Lib.trimLeftB q 48).length = 1 := by unfold c3; rw [if_neg (by omega), if_pos h]
    have c2 : c3 (val p) (val q) = 1 := by unfold c3; rw [if_neg (by omega), if_pos hv]
    rw [c1, c2]; simp

/-- the first parts, in the code's way: bytes, unless both are digits -/
theorem cT_both {x y : UInt8} {a b : List UInt8} (hx : isD x = true) (hy : isD y = true) : cT (tok (x :: a)) (tok (y :: b)) = runCode (run (x :: a)) (run (y :: b)) := by
  rw [(tok_digit hx).1, (tok_digit hy).1, runCode_eq (run_all _) (run_all _)]
theorem cT_other {x y : UInt8} {a b : List UInt8} (h : isD x = false ∨ isD y = false) : cT (tok (x :: a)) (tok (y :: b)) = c3 x.toNat y.toNat := by
  have hD : ∀ {c : UInt8}, isD c = false → c.toNat < 48 ∨ 57 < c.toNat := fun {c} hc => by
    rcases Nat.lt_or_ge c.toNat 48 with h | h
    · exact Or.inl h
    · rcases Nat.lt_or_ge 57 c.toNat with h' | h'
      · exact Or.inr h'
      · have := isD_iff.2 ⟨h, h'⟩; rw [hc] at this; cases this
  cases hx : isD x
  · cases hy : isD y
    · rw [(tok_other hx).1, (tok_other hy).1]
      unfold cT
      split
      · rfl
      · rename_i h0
        have : c3 0 0 = 0 := by decide
        simp only [this]
        simpa using (Classical.not_not.1 h0).symm
    · rw [(tok_other hx).1, (tok_digit hy).1]
      have h1 := hD hx
      have h2 := isD_iff.1 hy
      unfold cT
      rw [if_pos (by rw [Ne, c3_zero]; omega)]
      show c3 x.toNat 48 = _
      unfold c3
      split <;> split <;> (try split) <;> (try split) <;> omega
  · cases hy : isD y
    · rw [(tok_digit hx).1, (tok_other hy).1]
      have h1 := hD hy
      have h2 := isD_iff.1 hx
      unfold cT
      rw [if_pos (by rw [Ne, c3_zero]; omega)]
      show c3 48 y.toNat = _
      unfold c3
      split <;> split <;> (try split) <;> (try split) <;> omega
    · rw [hx, hy] at h; simp at h

end Go.Proofs.YtmicjadbahicfaaDoor
