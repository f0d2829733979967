/- rex: what is read is no longer than what is there; rex.piece whole. -/
import Derived.Test.YtjnhmcgjeljcmaaXp
namespace Go.Proofs.Ytjnhmcgjeljcmaa
open Go.RowKit

theorem starts_lenN {t l : List UInt8} (h : starts t l = true) : t.length ≤ l.length := by
  unfold starts at h
  rw [List.isPrefixOf_iff_prefix] at h
  exact h.length_le
theorem signsX_le : ∀ (l : List UInt8) (t : Tr), (signsX t l).2 ≤ l.length
  | [], t => Nat.le_refl _
  | c :: l, t => by
    unfold signsX
    split
    · simp
    · have := signsX_le l (.mk (kindX c) [] [t])
      simp only [List.length_cons]; omega
theorem itemsPr_bd {neg : Bool} {m L : Nat} {r : Ir} (h : ∀ rs n, r = .ok rs n → 1 ≤ n ∧ n ≤ L) {t : Tr} {n : Nat} (e : itemsPr neg m r = .ok t n) : 1 ≤ n ∧ n ≤ m + L := by
  cases r with
  | ok rs k => have := h rs k rfl; simp [itemsPr] at e; omega
  | err c o => simp [itemsPr] at e
theorem classX_bd {l : List UInt8} {t : Tr} {n : Nat} (h : classX l = .ok t n) : 1 ≤ n ∧ n ≤ l.length := by
  unfold classX at h
  split at h
  · rename_i h1
    have := starts_len h1
    split at h
    · cases h
    · have := itemsPr_bd (itemsF_bd good_letterX false _).1 h
      rw [List.length_drop] at this; omega
  · split at h
    · cases h
    · have := itemsPr_bd (itemsF_bd good_letterX false _).1 h
      omega
theorem groupX_bd {Al : List UInt8 → Pr} {l : List UInt8} {t : Tr} {n : Nat} (h : groupX Al l = .ok t n) : 1 ≤ n ∧ n ≤ l.length := by
  unfold groupX at h
  split at h
  · rename_i t1 n1 _
    split at h
    · rename_i h1
      have h2 := starts_len h1
      rw [List.length_drop] at h2
      injection h with _ h; omega
    · cases h
  · cases h
theorem shift_ok {m : Nat} {r : Pr} {t : Tr} {n : Nat} (h : r.shift m = .ok t n) : ∃ n', r = .ok t n' ∧ n = m + n' := by
  cases r with
  | ok t' n' => simp [Pr.shift] at h; exact ⟨n', by rw [h.1], h.2.symm⟩
  | err c o => simp [Pr.shift] at h
theorem atomX_bd {Al : List UInt8 → Pr} {l : List UInt8} {t : Tr} {n : Nat} (h : atomX Al l = .ok t n) : 1 ≤ n ∧ n ≤ l.length := by
  unfold atomX at h
  split at h
  · cases h
  · split at h
    · rename_i h1
      have := starts_len h1
      obtain ⟨m, hm, rfl⟩ := shift_ok h
      have := groupX_bd hm
      rw [List.length_drop] at this; omega
    · split at h
      · rename_i h1
        have := starts_len h1
        obtain ⟨m, hm, rfl⟩ := shift_ok h
        have := classX_bd hm
        rw [List.length_drop] at this; omega
      · split at h
        · rename_i h1
          have := starts_len h1
          injection h with _ h; omega
        · split at h
          · rename_i h1
            have := starts_lenN h1
            simp at this
            injection h with _ h; omega
          · split at h
            · rename_i c m hm
              have := (good_letterX l).1 _ _ hm
              injection h with _ h; omega
            · cases h
theorem pieceX_bd {Al : List UInt8 → Pr} {l : List UInt8} {t : Tr} {n : Nat} (h : pieceX Al l = .ok t n) : 1 ≤ n ∧ n ≤ l.length := by
  unfold pieceX at h
  split at h
  · rename_i t1 n1 h1
    have hb := atomX_bd h1
    have := signsX_le (l.drop n1) t1
    rw [List.length_drop] at this
    injection h with _ h; omega
  · cases h
theorem partK_bd {Al : List UInt8 → Pr} : ∀ (f : Nat) (l : List UInt8) (acc : List Tr) (m : Nat) (t : Tr) (n : Nat), partK Al f l acc m = .ok t n → m ≤ n ∧ n ≤ m + l.length
  | 0, l, acc, m, t, n, h => by unfold partK at h; injection h with _ h; omega
  | f + 1, l, acc, m, t, n, h => by
    unfold partK at h
    split at h
    · injection h with _ h; omega
    · split at h
      · rename_i t1 n1 h1
        have hb := pieceX_bd h1
        have := partK_bd f _ _ _ _ _ h
        rw [List.length_drop] at this; omega
      · cases h
theorem partX_bd {Al : List UInt8 → Pr} {l : List UInt8} {t : Tr} {n : Nat} (h : partX Al l = .ok t n) : n ≤ l.length := by
  have := partK_bd _ _ _ _ _ _ h; omega
theorem altK_bd {Al : List UInt8 → Pr} : ∀ (f : Nat) (l : List UInt8) (acc : List Tr) (m : Nat) (t : Tr) (n : Nat), altK Al f l acc m = .ok t n → m ≤ n ∧ n ≤ m + l.length
  | 0, l, acc, m, t, n, h => by unfold altK at h; injection h with _ h; omega
  | f + 1, l, acc, m, t, n, h => by
    unfold altK at h
    split at h
    · rename_i h0
      have := starts_len h0
      split at h
      · rename_i t1 n1 h1
        have hb := partX_bd h1
        rw [List.length_drop] at hb
        have := altK_bd f _ _ _ _ _ h
        rw [List.length_drop] at this; omega
      · cases h
    · injection h with _ h; omega
theorem altX_bd {d : Nat} {l : List UInt8} {t : Tr} {n : Nat} (h : altX d l = .ok t n) : n ≤ l.length := by
  cases d with
  | zero => unfold altX at h; cases h
  | succ d =>
    unfold altX at h
    split at h
    · rename_i t1 n1 h1
      have hb := partX_bd h1
      have := altK_bd _ _ _ _ _ _ h
      rw [List.length_drop] at this; omega
    · cases h
theorem xpiece_any (Al : List UInt8 → Pr) (b k : Nat) (s : ByteArray) (w : World) (hc : Cur w b s k) (hk : k ≤ s.size) (hs : s.size ≤ 256) (hA : k < s.size → IsAl Al b s (k + 1)) :
    Calls Try.prog 116 #[.pointer (some ⟨b, 0, none⟩)] w (NPost w b s k (pieceX Al (restL s k))) := by
  unfold pieceX
  cases h : atomX Al (restL s k) with
  | err c o => exact piece_err Al b k s w hc hk hs hA h
  | ok t n =>
    have hb := atomX_bd h
    rw [rest_len] at hb
    have := piece_ok Al b k s w hc hk hs hA (by omega) h
    simp only [rest_drop]
    exact this
end Go.Proofs.Ytjnhmcgjeljcmaa
