/- Plain facts: the bytes of ranges; what a class of one range is read as. No program. -/
import Derived.Test.YtacmfhopelkbbaaGx
namespace Go.Proofs.Ytacmfhopelkbbaa

theorem inR_append (a b : List (UInt8 × UInt8)) (c : Nat) : inR (a ++ b) c = (inR a c || inR b c) := by simp [inR, List.any_append]
theorem rgTo_in (m : Nat → Bool) : ∀ k, k ≤ 256 → (∀ c, inR (rgTo m k) c = (decide (c < k) && m c)) ∧ (∀ r ∈ rgTo m k, r.1.toNat ≤ r.2.toNat) := by
  intro k
  induction k with
  | zero => intro _; exact ⟨fun c => by simp [rgTo, inR], by simp [rgTo]⟩
  | succ k ih =>
    intro hk
    obtain ⟨ih1, ih2⟩ := ih (by omega)
    have hku : (UInt8.ofNat k).toNat = k := by simp; omega
    cases hm : m k
    · rw [rgTo_skip hm]
      refine ⟨fun c => ?_, ih2⟩
      rw [ih1]
      by_cases hc : c = k
      · subst hc; simp [hm]
      · have : decide (c < k + 1) = decide (c < k) := by rw [Bool.eq_iff_iff]; simp; omega
        rw [this]
    · have fin : ∀ c, (decide (c < k + 1) && m c) = ((decide (c < k) && m c) || decide (c = k)) := by
        intro c
        by_cases hc : c = k
        · subst hc; simp [hm]
        · have : decide (c < k + 1) = decide (c < k) := by rw [Bool.eq_iff_iff]; simp; omega
          rw [this]; simp [hc]
      by_cases hb : k = 0 ∨ m (k - 1) = false
      · rw [rgTo_new hm hb]
        refine ⟨fun c => ?_, fun r hr => ?_⟩
        · rw [inR_append, ih1, fin]
          congr 1
          rw [Bool.eq_iff_iff]
          simp [inR, hku]; omega
        · rcases List.mem_append.1 hr with h | h
          · exact ih2 r h
          · simp at h; subst h; exact Nat.le_refl _
      · obtain ⟨j, rfl⟩ : ∃ j, k = j + 1 := ⟨k - 1, by omega⟩
        have hm2 : m j = true := by
          cases h : m j
          · exact absurd (Or.inr (by simpa using h)) hb
          · rfl
        obtain ⟨l, lo, e1, e2⟩ := rgTo_bump hm hm2
        have hju : (UInt8.ofNat j).toNat = j := by simp; omega
        have hlo : lo.toNat ≤ j := by
          have := ih2 (lo, UInt8.ofNat j) (by rw [e1]; simp)
          simpa [hju] using this
        rw [e2]
        refine ⟨fun c => ?_, fun r hr => ?_⟩
        · have h1 := ih1 c
          rw [e1, inR_append] at h1
          rw [inR_append, fin, ← h1, Bool.or_assoc]
          congr 1
          rw [Bool.eq_iff_iff]
          simp only [inR, List.any_cons, List.any_nil, Bool.or_false, Bool.and_eq_true, Bool.or_eq_true, decide_eq_true_eq, hju, hku]
          omega
        · rcases List.mem_append.1 hr with h | h
          · exact ih2 r (by rw [e1]; exact List.mem_append_left _ h)
          · rw [List.mem_singleton] at h; subst h; show lo.toNat ≤ (UInt8.ofNat (j + 1)).toNat; rw [hku]; omega
theorem inR_ranges (rs : List (UInt8 × UInt8)) (neg : Bool) (c : UInt8) : inR (rangesL rs neg) c.toNat = (inR rs c.toNat != neg) := by
  have h := (rgTo_in (memB rs neg) 256 (Nat.le_refl _)).1 c.toNat
  have hc := UInt8.toNat_lt c
  unfold rangesL
  rw [h]
  simp [memB]; omega

def clsL (lo hi : UInt8) : List UInt8 := [92, lo, 45, 92, hi, 93]
theorem range_cls (lo hi : UInt8) : rangeP letterG (clsL lo hi) = if hi < lo then .err 32 0 else .ok lo hi 5 := by
  unfold rangeP clsL
  simp [letterG, dashB, starts, List.isPrefixOf]
theorem items_cls (lo hi : UInt8) : itemsF letterG true (clsL lo hi) = if hi < lo then .err 32 0 else .ok [(lo, hi)] 6 := by
  have h := range_cls lo hi
  by_cases hh : hi < lo
  · rw [if_pos hh] at h ⊢
    exact itemsF_err (by simp) h
  · rw [if_neg hh] at h ⊢
    rw [itemsF_more good_letterG (by simp) h]
    have : (clsL lo hi).drop 5 = [93] := rfl
    rw [this, itemsF_end (by decide)]
    rfl
theorem class_cls (lo hi : UInt8) : classP letterG 33 (clsL lo hi) = if hi < lo then .err 32 0 else .ok (.mk 1 (rangesL [(lo, hi)] false) []) 6 := by
  unfold classP
  rw [if_neg (by unfold clsL; rw [starts_cons]; decide), items_cls]
  by_cases hh : hi < lo <;> simp [hh]
theorem class_cls_not (lo hi : UInt8) : classP letterG 33 (33 :: clsL lo hi) = if hi < lo then .err 32 1 else .ok (.mk 1 (rangesL [(lo, hi)] true) []) 7 := by
  unfold classP
  rw [if_pos (by rw [starts_cons]; decide)]
  have : (33 :: clsL lo hi).drop 1 = clsL lo hi := rfl
  rw [this, items_cls]
  by_cases hh : hi < lo <;> simp [hh]
theorem piece_class (l : List UInt8) : pieceG (91 :: l) = (classP letterG 33 l).shift 1 := by
  unfold pieceG
  rw [starts_cons, starts_cons, starts_cons, if_neg (by decide), if_neg (by decide), if_pos (by decide)]; rfl
theorem parse_cls_bad {lo hi : UInt8} (h : hi < lo) : parseG (91 :: clsL lo hi) = (zeroT, 32, 1) := by
  unfold parseG
  rw [if_neg (by simp [clsL]), piecesF_err (by simp) (by rw [piece_class, class_cls, if_pos h]; rfl)]
theorem pieces_cls {lo hi : UInt8} (h : ¬ hi < lo) : piecesF (91 :: clsL lo hi) = .ok [.mk 1 (rangesL [(lo, hi)] false) []] := by
  rw [piecesF_more (t := .mk 1 (rangesL [(lo, hi)] false) []) (n := 7) (by simp) (by rw [piece_class, class_cls, if_neg h]; rfl)]
  rfl
theorem pieces_cls_not {lo hi : UInt8} (h : ¬ hi < lo) : piecesF (91 :: 33 :: clsL lo hi) = .ok [.mk 1 (rangesL [(lo, hi)] true) []] := by
  rw [piecesF_more (t := .mk 1 (rangesL [(lo, hi)] true) []) (n := 8) (by simp) (by rw [piece_class, class_cls_not, if_neg h]; rfl)]
  rfl
theorem inR_two (lo hi c : UInt8) : inR [(lo, hi)] c.toNat = (decide (lo.toNat ≤ c.toNat) && decide (c.toNat ≤ hi.toNat)) := by simp [inR]
theorem match_cls {lo hi : UInt8} (h : ¬ hi < lo) (c : UInt8) : matchG (91 :: clsL lo hi) [c] = (decide (lo.toNat ≤ c.toNat) && decide (c.toNat ≤ hi.toNat)) := by
  rw [matchG_ok (by simp [clsL]) (pieces_cls h)]
  show (inR (rangesL [(lo, hi)] false) c.toNat && true) = _
  rw [inR_ranges, inR_two]; simp
theorem match_cls_not {lo hi : UInt8} (h : ¬ hi < lo) (c : UInt8) : matchG (91 :: 33 :: clsL lo hi) [c] = !(decide (lo.toNat ≤ c.toNat) && decide (c.toNat ≤ hi.toNat)) := by
  rw [matchG_ok (by simp [clsL]) (pieces_cls_not h)]
  show (inR (rangesL [(lo, hi)] true) c.toNat && true) = _
  rw [inR_ranges, inR_two]; simp
theorem match_cls_two {lo hi : UInt8} (h : ¬ hi < lo) (c d : UInt8) : matchG (91 :: clsL lo hi) [c, d] = false := by
  rw [matchG_ok (by simp [clsL]) (pieces_cls h)]
  show (inR (rangesL [(lo, hi)] false) c.toNat && false) = _
  simp
end Go.Proofs.Ytacmfhopelkbbaa
