/- Plain facts: what is written is decoded to what it was; which bytes stand in it. No program. -/
import Derived.Test.YtplenagncmhhoaaDoorNmPd
namespace Go.Proofs.YtplenagncmhhoaaDoor

theorem toU8_toNat {n : Nat} (h : n < 256) : (n.toUInt8).toNat = n := by
  simp [Nat.toUInt8, UInt8.ofNat, UInt8.toNat]; omega
theorem hvI_hexD {n : Nat} (h : n < 16) : hvI ((hexD n : Nat) : Int) = n := by
  unfold hexD hvI; split <;> (split <;> (try split)) <;> omega
theorem stands_ne {s : ByteArray} {k : Nat} (h : standsB s k = true) : btN s k ≠ 92 := by
  simp [standsB, plainB, bt_btN] at h; omega

theorem dec_piece (s : ByteArray) (k : Nat) (rest : List UInt8) : dec (pieceL s k ++ rest) = (dec rest).map ((btN s k).toUInt8 :: ·) := by
  have hb := btN_bd s k
  cases h : standsB s k
  · rw [pieceL_no h]
    have h1 := hexD_bd (n := btN s k / 16) (by omega)
    have h2 := hexD_bd (n := btN s k % 16) (by omega)
    have e : (16 * ((btN s k / 16 : Nat) : Int) + ((btN s k % 16 : Nat) : Int)).toNat = btN s k := by omega
    simp only [List.cons_append, List.nil_append, dec]
    rw [if_neg (by simp), if_neg]
    · rw [toU8_toNat h1, toU8_toNat h2, hvI_hexD (by omega), hvI_hexD (by omega), e]
    · rw [toU8_toNat h1, toU8_toNat h2, hvI_hexD (by omega), hvI_hexD (by omega)]; omega
  · rw [pieceL_yes h]
    have hne : (btN s k).toUInt8 ≠ 92 := by
      rw [Ne, u8_92, toU8_toNat hb]; have := stands_ne h; omega
    rw [List.cons_append, List.nil_append, dec_plain _ hne]

theorem btN_toUInt8 (s : ByteArray) (k : Nat) (h : k < s.data.toList.length) : (btN s k).toUInt8 = s.data.toList[k] := by
  simp [btN, List.getD_eq_getElem?_getD, List.getElem?_eq_getElem h]

theorem dec_writeTo (s : ByteArray) : ∀ n, n ≤ s.size → ∀ rest, dec (writeTo s n ++ rest) = (dec rest).map (s.data.toList.take n ++ ·) := by
  intro n
  induction n with
  | zero => intro _ rest; simp [writeTo]
  | succ n ih =>
    intro hn rest
    have hn' : n < s.data.toList.length := hn
    rw [writeTo, List.append_assoc, ih (by omega), dec_piece, List.take_succ_eq_append_getElem hn', btN_toUInt8 s n hn']
    cases dec rest <;> simp

theorem dec_writeL {s : ByteArray} (h : rightB s.size = true) : dec (writeL s) = some s.data.toList := by
  rw [writeL_yes h]
  have := dec_writeTo s s.size (Nat.le_refl _) []
  rw [List.append_nil] at this
  have e : s.data.toList.take s.size = s.data.toList := List.take_of_length_le (Nat.le_refl _)
  rw [this, e]; simp [dec]

theorem readO_writeL {s v : ByteArray} (h : rightB s.size = true) (hv : writeL s = v.data.toList) : readO v = some s.data.toList := by
  have hd : decAt v 0 = some s.data.toList := by unfold decAt; rw [List.drop_zero, ← hv]; exact dec_writeL h
  have e : (⟨s.data.toList.toArray⟩ : ByteArray) = s := by cases s; simp
  unfold readO; rw [hd]
  simp only [e]
  rw [if_pos ⟨h, hv⟩]

theorem writeL_inj {s t : ByteArray} (hs : rightB s.size = true) (ht : rightB t.size = true) (h : writeL s = writeL t) : s = t := by
  have h1 := dec_writeL hs
  rw [h, dec_writeL ht] at h1
  cases s; cases t; simp at h1; simp [h1]

theorem pieceL_ne (s : ByteArray) (k : Nat) : 1 ≤ (pieceL s k).length := by unfold pieceL pieceN; split <;> simp
theorem writeTo_ge (s : ByteArray) (k : Nat) : k ≤ (writeTo s k).length := by
  induction k with
  | zero => simp
  | succ k ih => have := pieceL_ne s k; simp [writeTo]; omega

theorem hexD_print {n : Nat} (h : n < 16) : 33 ≤ hexD n ∧ hexD n ≤ 126 := by unfold hexD; split <;> omega
theorem piece_print (s : ByteArray) (k j : Nat) (hj : j < (pieceL s k).length) :
    32 ≤ ((pieceL s k)[j]).toNat ∧ ((pieceL s k)[j]).toNat ≤ 126 ∧ (((pieceL s k)[j]).toNat = 32 → j = 0 ∧ 0 < k ∧ k + 1 < s.size) := by
  have hb := btN_bd s k
  cases h : standsB s k
  · have h1 := hexD_print (n := btN s k / 16) (by omega)
    have h2 := hexD_print (n := btN s k % 16) (by omega)
    simp only [pieceL_no h] at hj ⊢
    have hj3 : j < 3 := by simpa using hj
    match j, hj3 with
    | 0, _ => simp
    | 1, _ => simp only [List.getElem_cons_succ, List.getElem_cons_zero]; rw [toU8_toNat (by omega)]; omega
    | 2, _ => simp only [List.getElem_cons_succ, List.getElem_cons_zero]; rw [toU8_toNat (by omega)]; omega
  · simp only [pieceL_yes h] at hj ⊢
    have hj1 : j = 0 := by simpa using hj
    subst hj1
    simp only [List.getElem_cons_zero]
    rw [toU8_toNat hb]
    simp only [standsB, plainB, bt_btN, Bool.or_eq_true, Bool.and_eq_true, decide_eq_true_eq, beq_iff_eq, bne_iff_ne] at h
    rcases h with ⟨⟨h1, h2⟩, h3⟩ | h1
    · have g1 := of_decide_eq_true h1
      have g2 := of_decide_eq_true h2
      exact ⟨by omega, by omega, fun e => by omega⟩
    · exact ⟨by omega, by omega, fun _ => ⟨trivial, by omega, by omega⟩⟩

theorem writeTo_print (s : ByteArray) : ∀ n, n ≤ s.size → ∀ j (hj : j < (writeTo s n).length),
    32 ≤ ((writeTo s n)[j]).toNat ∧ ((writeTo s n)[j]).toNat ≤ 126 ∧ (((writeTo s n)[j]).toNat = 32 → 0 < j ∧ (n < s.size ∨ j + 1 < (writeTo s n).length)) := by
  intro n
  induction n with
  | zero => intro _ j hj; simp [writeTo] at hj
  | succ n ih =>
    intro hn j hj
    have hp := pieceL_ne s n
    have hg := writeTo_ge s n
    have hl : (writeTo s (n + 1)).length = (writeTo s n).length + (pieceL s n).length := by simp [writeTo]
    by_cases hlt : j < (writeTo s n).length
    · have e : (writeTo s (n + 1))[j] = (writeTo s n)[j] := by simp only [writeTo]; exact List.getElem_append_left hlt
      rw [e]
      have := ih (by omega) j hlt
      refine ⟨this.1, this.2.1, fun h => ⟨(this.2.2 h).1, Or.inr (by omega)⟩⟩
    · have hj2 : j - (writeTo s n).length < (pieceL s n).length := by omega
      have e : (writeTo s (n + 1))[j] = (pieceL s n)[j - (writeTo s n).length] := by simp only [writeTo]; exact List.getElem_append_right (by omega)
      rw [e]
      have := piece_print s n _ hj2
      refine ⟨this.1, this.2.1, fun h => ?_⟩
      have := this.2.2 h
      exact ⟨by omega, Or.inl (by omega)⟩

/-- in the words of the walk -/
theorem written_print {s v : ByteArray} (h : rightB s.size = true) (hv : writeL s = v.data.toList) {k : Nat} (hk : k < v.size) :
    32 ≤ bt v k ∧ bt v k ≤ 126 ∧ ((bt v k == 32) = false ∨ ((bt v k == 32) = true ∧ 0 < k ∧ k + 1 < v.size)) := by
  have hv' : v.data.toList = writeTo s s.size := by rw [← hv, writeL_yes h]
  have hk' : k < v.data.toList.length := hk
  have hsz : v.size = (writeTo s s.size).length := by rw [← hv']; rfl
  have hp := writeTo_print s s.size (Nat.le_refl _) k (by omega)
  have e : bt v k = (((writeTo s s.size)[k]'(by omega)).toNat : Int) := by
    rw [bt_get v k hk']; simp only [hv']
  rw [e]
  refine ⟨by omega, by omega, ?_⟩
  by_cases h32 : ((writeTo s s.size)[k]'(by omega)).toNat = 32
  · refine Or.inr ⟨by simp [h32], (hp.2.2 h32).1, ?_⟩
    have := (hp.2.2 h32).2; omega
  · refine Or.inl ?_
    rw [beq_eq_false_iff_ne]; omega
theorem written_len {s v : ByteArray} (h : rightB s.size = true) (hv : writeL s = v.data.toList) : v.size ≤ 3 * s.size := by
  have : v.size = (writeL s).length := by rw [hv]; rfl
  rw [this, writeL_yes h]; exact writeTo_length s s.size

end Go.Proofs.YtplenagncmhhoaaDoor
