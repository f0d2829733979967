/- Plain facts: what quoted texts, stars, classes and joined patterns are read as, and match. No program. -/
import Derived.Test.YtepfpmnfecehbaaGw
import Derived.Test.YtepfpmnfecehbaaQu
namespace Go.Proofs.Ytepfpmnfecehbaa

theorem starts_cons (c d : UInt8) (l : List UInt8) : starts [c] (d :: l) = (c == d) := by simp [starts, List.isPrefixOf]
theorem starts_nil (c : UInt8) (t : List UInt8) : starts (c :: t) [] = false := rfl
def single (c : UInt8) : Tr := .mk 1 [(c, c)] []
def starT : Tr := .mk 4 [] [anyT]
theorem pieceG_letter {d : UInt8} {l : List UInt8} (h1 : d ≠ 63) (h2 : d ≠ 42) (h3 : d ≠ 91) : pieceG (d :: l) = match letterG (d :: l) with | .ok c n => .ok (.mk 1 [(c, c)] []) n | .err c o => .err c o := by
  unfold pieceG
  rw [starts_cons, starts_cons, starts_cons, if_neg (by simpa using fun e => h1 e.symm), if_neg (by simpa using fun e => h2 e.symm), if_neg (by simpa using fun e => h3 e.symm)]
  rfl
theorem pieceG_quote (c : UInt8) (r : List UInt8) : pieceG (quote1 c ++ r) = .ok (single c) (quote1 c).length := by
  unfold quote1
  cases h : isSign c
  · simp only [isSign, Bool.or_eq_false_iff, beq_eq_false_iff_ne] at h
    simp only [Bool.false_eq_true, if_false, List.singleton_append]
    rw [pieceG_letter h.1.1.1 h.1.1.2 h.1.2]
    simp [letterG, h.2, single]
  · simp only [if_true, List.cons_append, List.nil_append]
    rw [pieceG_letter (by decide) (by decide) (by decide)]
    simp [letterG, single]
theorem quote1_ne (c : UInt8) : quote1 c ≠ [] := by unfold quote1; split <;> simp
theorem piecesF_quote (l r : List UInt8) : piecesF (quoteG l ++ r) = Ks.pre (l.map single) (quoteG l).length (piecesF r) := by
  induction l with
  | nil => simp [quoteG, Ks.pre_nil]
  | cons c l ih =>
    have e : quoteG (c :: l) ++ r = quote1 c ++ (quoteG l ++ r) := by simp [quoteG]
    rw [e, piecesF_more (by simp [quote1_ne]) (pieceG_quote c _), List.drop_left' rfl, ih, Ks.pre_pre]
    simp [quoteG]
theorem inR_one (c x : UInt8) : inR [(c, c)] x.toNat = (x == c) := by
  rw [Bool.eq_iff_iff]
  simp only [inR, List.any_cons, List.any_nil, Bool.or_false, Bool.and_eq_true, decide_eq_true_eq, beq_iff_eq]
  constructor
  · intro h; exact UInt8.toNat_inj.1 (by omega)
  · rintro rfl; omega
theorem gm_singles (a : List UInt8) (Q : List Pc) (s : List UInt8) : gm ((a.map single).map pcOf ++ Q) s = (a.isPrefixOf s && gm Q (s.drop a.length)) := by
  induction a generalizing s with
  | nil => simp [List.isPrefixOf]
  | cons c a ih =>
    cases s with
    | nil => simp [gm, single, pcOf, List.isPrefixOf]
    | cons x s =>
      simp only [List.map_cons, List.cons_append, single, pcOf, List.isPrefixOf, List.length_cons, List.drop_succ_cons]
      show (inR [(c, c)] x.toNat && gm ((a.map single).map pcOf ++ Q) s) = _
      rw [ih, inR_one, Bool.and_assoc, show (x == c) = (c == x) from Bool.eq_iff_iff.2 ⟨fun h => by rw [beq_iff_eq] at h ⊢; exact h.symm, fun h => by rw [beq_iff_eq] at h ⊢; exact h.symm⟩]
theorem parseG_ok {l : List UInt8} {ts : List Tr} (hl : l.length ≤ 256) (h : piecesF l = .ok ts) : parseG l = (.mk 2 [] ts, 0, 0) := by
  unfold parseG; rw [if_neg (by omega), h]
theorem matchG_ok {l : List UInt8} {ts : List Tr} (hl : l.length ≤ 256) (h : piecesF l = .ok ts) (s : List UInt8) : matchG l s = gm (ts.map pcOf) s := by
  unfold matchG; rw [parseG_ok hl h]; simp
theorem matchG_long {l : List UInt8} (hl : 256 < l.length) (s : List UInt8) : matchG l s = false := by
  unfold matchG parseG; rw [if_pos hl]; rfl
theorem piecesF_quote0 (l : List UInt8) : piecesF (quoteG l) = .ok (l.map single) := by
  have := piecesF_quote l []
  rw [List.append_nil, piecesF_nil] at this
  simpa [Ks.pre] using this
theorem prefix_eq (s t : List UInt8) : (s.isPrefixOf t && (t.drop s.length).isEmpty) = decide (s = t) := by
  rw [Bool.eq_iff_iff]
  simp only [Bool.and_eq_true, decide_eq_true_eq, List.isPrefixOf_iff_prefix, List.isEmpty_iff]
  constructor
  · rintro ⟨⟨r, rfl⟩, h⟩
    rw [List.drop_left' rfl] at h
    simp [h]
  · rintro rfl; exact ⟨List.prefix_refl _, by simp⟩
theorem match_quote {s : List UInt8} (hl : (quoteG s).length ≤ 256) (t : List UInt8) : matchG (quoteG s) t = decide (s = t) := by
  rw [matchG_ok hl (piecesF_quote0 s)]
  have := gm_singles s [] t
  rw [List.append_nil] at this
  rw [this]
  exact prefix_eq s t
theorem piecesF_star (r : List UInt8) : piecesF (42 :: r) = Ks.pre [starT] 1 (piecesF r) := by
  have h : pieceG (42 :: r) = .ok starT 1 := by
    unfold pieceG
    rw [starts_cons, starts_cons, if_neg (by decide), if_pos (by decide)]; rfl
  rw [piecesF_more (by simp) h]; rfl
theorem match_star (s : List UInt8) : matchG [42] s = true := by
  rw [matchG_ok (ts := [starT]) (by simp) (by rw [piecesF_star, piecesF_nil]; rfl)]
  show starM (gm []) s = true
  rw [starM_iff]
  exact ⟨s.length, Nat.le_refl _, by simp [gm]⟩
theorem any_all : rangesL [] true = [(0, 255)] := by decide +kernel
theorem match_one (s : List UInt8) : matchG [63] s = decide (s.length = 1) := by
  have h : pieceG [63] = .ok anyT 1 := by
    unfold pieceG; rw [starts_cons, if_pos (by decide)]
  rw [matchG_ok (ts := [anyT]) (by simp) (by rw [piecesF_more (by simp) h]; rfl)]
  show gm [.set (rangesL [] true)] s = _
  rw [any_all]
  match s with
  | [] => rfl
  | [c] =>
    have := UInt8.toNat_lt c
    simp [gm, inR]; omega
  | c :: d :: s => simp [gm]
theorem match_pre {a : List UInt8} (hl : (quoteG a).length + 1 ≤ 256) (s : List UInt8) : matchG (quoteG a ++ [42]) s = a.isPrefixOf s := by
  rw [matchG_ok (ts := a.map single ++ [starT]) (by simpa using hl) (by rw [piecesF_quote, piecesF_star, piecesF_nil]; simp [Ks.pre])]
  rw [List.map_append, gm_singles]
  have : gm ([starT].map pcOf) (s.drop a.length) = true := by
    show starM (gm []) _ = true
    rw [starM_iff]
    exact ⟨_, Nat.le_refl _, by simp [gm]; omega⟩
  rw [this, Bool.and_true]
theorem match_both {a b : List UInt8} (hl : (quoteG a).length + 1 + (quoteG b).length ≤ 256) (s : List UInt8) :
    matchG ((quoteG a ++ [42]) ++ quoteG b) s = (a.isPrefixOf s && decide (a.length + b.length ≤ s.length) && decide (s.drop (s.length - b.length) = b)) := by
  have e : (quoteG a ++ [42]) ++ quoteG b = quoteG a ++ (42 :: quoteG b) := by simp
  rw [e, matchG_ok (ts := a.map single ++ (starT :: b.map single)) (by simp; omega) (by rw [piecesF_quote, piecesF_star, piecesF_quote0]; simp [Ks.pre])]
  rw [List.map_append, gm_singles]
  have hst : gm ((starT :: b.map single).map pcOf) (s.drop a.length) = (decide (a.length + b.length ≤ s.length) && decide (s.drop (s.length - b.length) = b) || (decide (s.length < a.length) && decide (b = []))) := by
    show starM (gm ((b.map single).map pcOf)) _ = _
    rw [Bool.eq_iff_iff, starM_iff]
    have hg : ∀ t, gm ((b.map single).map pcOf) t = decide (b = t) := fun t => by
      have := gm_singles b [] t
      rw [List.append_nil] at this
      rw [this]; exact prefix_eq b t
    simp only [hg, decide_eq_true_eq, Bool.or_eq_true, Bool.and_eq_true]
    constructor
    · rintro ⟨j, hj, h⟩
      rw [List.drop_drop] at h
      rw [List.length_drop] at hj
      have hbl := congrArg List.length h
      rw [List.length_drop] at hbl
      rcases Nat.lt_or_ge s.length a.length with h1 | h1
      · right; exact ⟨h1, by rw [h]; exact List.drop_eq_nil_of_le (by omega)⟩
      · left
        refine ⟨by omega, ?_⟩
        rw [show s.length - b.length = a.length + j by omega]; exact h.symm
    · rintro (⟨h1, h2⟩ | ⟨h1, h2⟩)
      · refine ⟨s.length - b.length - a.length, by rw [List.length_drop]; omega, ?_⟩
        rw [List.drop_drop, show a.length + (s.length - b.length - a.length) = s.length - b.length by omega]
        exact h2.symm
      · exact ⟨0, Nat.zero_le _, by rw [List.drop_drop, List.drop_eq_nil_of_le (by omega)]; exact h2⟩
  rw [hst]
  cases hp : a.isPrefixOf s
  · simp
  · have hle : a.length ≤ s.length := (List.isPrefixOf_iff_prefix.1 hp).length_le
    simp [show ¬ s.length < a.length by omega]
end Go.Proofs.Ytepfpmnfecehbaa
