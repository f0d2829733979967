/- Plain functions: what glob.Parse reads. No program. -/
import Derived.Test.YtjnhmcgjeljcmaaTa
namespace Go.Proofs.Ytjnhmcgjeljcmaa

/-- A tree and how many bytes it takes; or an error and its place from here on. -/
inductive Pr where
  | ok (t : Tr) (n : Nat)
  | err (code : Int) (off : Nat)
def Pr.shift (m : Nat) : Pr → Pr
  | .ok t n => .ok t (m + n)
  | .err c o => .err c (m + o)
def Ir.pre (acc : List (UInt8 × UInt8)) (m : Nat) : Ir → Ir
  | .ok rs n => .ok (acc ++ rs) (m + n)
  | .err c o => .err c (m + o)
theorem Ir.pre_nil (r : Ir) : Ir.pre [] 0 r = r := by cases r <;> simp [Ir.pre]
theorem Ir.pre_more (acc : List (UInt8 × UInt8)) (m : Nat) (lo hi : UInt8) (n : Nat) (r : Ir) : Ir.pre acc m (r.more lo hi n) = Ir.pre (acc ++ [(lo, hi)]) (m + n) r := by
  cases r <;> simp [Ir.pre, Ir.more, Nat.add_assoc]
/-- The items from here on, with fuel enough. -/
def itemsF (L : List UInt8 → Lr) (first : Bool) (l : List UInt8) : Ir := itemsP L (l.length + 1) first l
theorem itemsF_end {L : List UInt8 → Lr} {l : List UInt8} (h : starts [93] l = true) : itemsF L false l = .ok [] 1 := by
  unfold itemsF itemsP; simp [h]
theorem itemsF_err {L : List UInt8 → Lr} {l : List UInt8} {first : Bool} {c : Int} {o : Nat} (h : (!first && starts [93] l) = false) (hr : rangeP L l = .err c o) : itemsF L first l = .err c o := by
  unfold itemsF itemsP; rw [h, hr]; rfl
theorem itemsF_more {L : List UInt8 → Lr} (hL : GoodL L) {l : List UInt8} {first : Bool} {lo hi : UInt8} {n : Nat} (h : (!first && starts [93] l) = false) (hr : rangeP L l = .ok lo hi n) :
    itemsF L first l = (itemsF L false (l.drop n)).more lo hi n := by
  unfold itemsF
  have hn := rangeP_ok hL hr
  rw [itemsP, h, hr]
  simp only [Bool.false_eq_true, if_false]
  rw [itemsP_fuel hL l.length ((l.drop n).length + 1) false (l.drop n) (by rw [List.length_drop]; omega) (by omega)]
/-- A class, behind its [ and its sign of the others. -/
def classP (L : List UInt8 → Lr) (sign : UInt8) (l : List UInt8) : Pr :=
  if starts [sign] l then
    match itemsF L true (l.drop 1) with
    | .ok rs n => .ok (.mk 1 (rangesL rs true) []) (1 + n)
    | .err c o => .err c (1 + o)
  else
    match itemsF L true l with
    | .ok rs n => .ok (.mk 1 (rangesL rs false) []) n
    | .err c o => .err c o
def anyT : Tr := .mk 1 (rangesL [] true) []
def pieceG (l : List UInt8) : Pr :=
  if starts [63] l then .ok anyT 1
  else if starts [42] l then .ok (.mk 4 [] [anyT]) 1
  else if starts [91] l then (classP letterG 33 (l.drop 1)).shift 1
  else match letterG l with
    | .ok c n => .ok (.mk 1 [(c, c)] []) n
    | .err c o => .err c o
theorem itemsP_bd {L : List UInt8 → Lr} (hL : GoodL L) : ∀ (f : Nat) (b : Bool) (l : List UInt8), l.length < f → (∀ rs n, itemsP L f b l = .ok rs n → 1 ≤ n ∧ n ≤ l.length) ∧ (∀ c o, itemsP L f b l = .err c o → o ≤ l.length)
  | 0, _, _, h => by omega
  | f + 1, b, l, h => by
    unfold itemsP
    by_cases h1 : (!b && starts [93] l) = true
    · rw [if_pos h1]
      refine ⟨fun rs n e => ?_, fun c o e => by cases e⟩
      injection e with _ e
      have h2 : starts [93] l = true := by simp only [Bool.and_eq_true] at h1; exact h1.2
      unfold starts at h2
      rw [List.isPrefixOf_iff_prefix] at h2
      have := h2.length_le
      simp at this; omega
    · rw [if_neg h1]
      cases hr : rangeP L l with
      | err c o => exact ⟨(fun rs n e => by simp at e), (fun c' o' e => by have := rangeP_err hL hr; simp at e; omega)⟩
      | ok lo hi n =>
        have hn := rangeP_ok hL hr
        have ih := itemsP_bd hL f false (l.drop n) (by rw [List.length_drop]; omega)
        rw [List.length_drop] at ih
        cases hi' : itemsP L f false (l.drop n) with
        | ok rs m =>
          have := ih.1 rs m hi'
          exact ⟨fun rs' n' e => by simp [hi', Ir.more] at e; omega, fun c o e => by simp [hi', Ir.more] at e⟩
        | err c o =>
          have := ih.2 c o hi'
          exact ⟨fun rs' n' e => by simp [hi', Ir.more] at e, fun c' o' e => by simp [hi', Ir.more] at e; omega⟩
theorem itemsF_bd {L : List UInt8 → Lr} (hL : GoodL L) (b : Bool) (l : List UInt8) : (∀ rs n, itemsF L b l = .ok rs n → 1 ≤ n ∧ n ≤ l.length) ∧ (∀ c o, itemsF L b l = .err c o → o ≤ l.length) := itemsP_bd hL _ b l (by omega)
theorem starts_len {c : UInt8} {l : List UInt8} (h : starts [c] l = true) : 1 ≤ l.length := by
  unfold starts at h
  rw [List.isPrefixOf_iff_prefix] at h
  exact h.length_le
theorem classP_bd {L : List UInt8 → Lr} (hL : GoodL L) (sg : UInt8) (l : List UInt8) : (∀ t n, classP L sg l = .ok t n → 1 ≤ n ∧ n ≤ l.length) ∧ (∀ c o, classP L sg l = .err c o → o ≤ l.length) := by
  unfold classP
  by_cases h : starts [sg] l = true
  · have h1 := starts_len h
    rw [if_pos h]
    have hb := itemsF_bd hL true (l.drop 1)
    rw [List.length_drop] at hb
    cases hi : itemsF L true (l.drop 1) with
    | ok rs n => have := hb.1 rs n hi; exact ⟨fun t m e => by simp at e; omega, fun c o e => by simp at e⟩
    | err c o => have := hb.2 c o hi; exact ⟨fun t m e => by simp at e, fun c o e => by simp at e; omega⟩
  · rw [if_neg h]
    have hb := itemsF_bd hL true l
    cases hi : itemsF L true l with
    | ok rs n => have := hb.1 rs n hi; exact ⟨fun t m e => by simp at e; omega, fun c o e => by simp at e⟩
    | err c o => have := hb.2 c o hi; exact ⟨fun t m e => by simp at e, fun c o e => by simp at e; omega⟩
theorem pieceG_bd (l : List UInt8) : (∀ t n, pieceG l = .ok t n → 1 ≤ n ∧ n ≤ l.length) ∧ (∀ c o, pieceG l = .err c o → o ≤ l.length) := by
  unfold pieceG
  by_cases h1 : starts [63] l = true
  · have := starts_len h1
    rw [if_pos h1]; exact ⟨fun t m e => by simp at e; omega, fun c o e => by simp at e⟩
  · rw [if_neg h1]
    by_cases h2 : starts [42] l = true
    · have := starts_len h2
      rw [if_pos h2]; exact ⟨fun t m e => by simp at e; omega, fun c o e => by simp at e⟩
    · rw [if_neg h2]
      by_cases h3 : starts [91] l = true
      · have := starts_len h3
        rw [if_pos h3]
        have hb := classP_bd good_letterG 33 (l.drop 1)
        rw [List.length_drop] at hb
        cases hi : classP letterG 33 (l.drop 1) with
        | ok t n => have := hb.1 t n hi; exact ⟨fun t m e => by simp [Pr.shift] at e; omega, fun c o e => by simp [Pr.shift] at e⟩
        | err c o => have := hb.2 c o hi; exact ⟨fun t m e => by simp [Pr.shift] at e, fun c o e => by simp [Pr.shift] at e; omega⟩
      · rw [if_neg h3]
        have hb := good_letterG l
        cases hi : letterG l with
        | ok c n => have := hb.1 c n hi; exact ⟨fun t m e => by simp at e; omega, fun c o e => by simp at e⟩
        | err c o => have := hb.2 c o hi; exact ⟨fun t m e => by simp at e, fun c o e => by simp at e; omega⟩
/-- All pieces. -/
inductive Ks where
  | ok (ts : List Tr)
  | err (code : Int) (off : Nat)
def Ks.pre (acc : List Tr) (m : Nat) : Ks → Ks
  | .ok ts => .ok (acc ++ ts)
  | .err c o => .err c (m + o)
theorem Ks.pre_nil (r : Ks) : Ks.pre [] 0 r = r := by cases r <;> simp [Ks.pre]
theorem Ks.pre_pre (a b : List Tr) (m n : Nat) (r : Ks) : Ks.pre a m (Ks.pre b n r) = Ks.pre (a ++ b) (m + n) r := by cases r <;> simp [Ks.pre, Nat.add_assoc]
def piecesP : Nat → List UInt8 → Ks
  | 0, _ => .err 0 0
  | f + 1, l => if l.isEmpty then .ok [] else
    match pieceG l with
    | .err c o => .err c o
    | .ok t n => Ks.pre [t] n (piecesP f (l.drop n))
theorem piecesP_fuel : ∀ (f g : Nat) (l : List UInt8), l.length < f → l.length < g → piecesP f l = piecesP g l := by
  intro f
  induction f with
  | zero => intro g l h; omega
  | succ f ih =>
    intro g l hf hg
    match g, hg with
    | g + 1, hg =>
      unfold piecesP
      split
      · rfl
      · split
        · rfl
        · rename_i t n h
          have := (pieceG_bd l).1 t n h
          rw [ih g (l.drop n) (by rw [List.length_drop]; omega) (by rw [List.length_drop]; omega)]
def piecesF (l : List UInt8) : Ks := piecesP (l.length + 1) l
theorem piecesF_nil : piecesF [] = .ok [] := rfl
theorem piecesF_err {l : List UInt8} (hl : l ≠ []) {c : Int} {o : Nat} (h : pieceG l = .err c o) : piecesF l = .err c o := by
  unfold piecesF piecesP; rw [if_neg (by simpa using hl), h]
theorem piecesF_more {l : List UInt8} (hl : l ≠ []) {t : Tr} {n : Nat} (h : pieceG l = .ok t n) : piecesF l = Ks.pre [t] n (piecesF (l.drop n)) := by
  unfold piecesF
  have hn := (pieceG_bd l).1 t n h
  rw [piecesP, if_neg (by simpa using hl), h]
  simp only
  rw [piecesP_fuel l.length ((l.drop n).length + 1) (l.drop n) (by rw [List.length_drop]; omega) (by omega)]
theorem piecesP_err : ∀ (f : Nat) (l : List UInt8), l.length < f → ∀ c o, piecesP f l = .err c o → o ≤ l.length
  | 0, _, h => by omega
  | f + 1, l, h => by
    intro c o e
    unfold piecesP at e
    split at e
    · cases e
    · split at e
      · rename_i c' o' hp
        injection e with _ e
        have := (pieceG_bd l).2 _ _ hp; omega
      · rename_i t n hp
        have hn := (pieceG_bd l).1 t n hp
        have ih := piecesP_err f (l.drop n) (by rw [List.length_drop]; omega)
        cases hk : piecesP f (l.drop n) with
        | ok ts => simp [hk, Ks.pre] at e
        | err c' o' =>
          have := ih c' o' hk
          rw [List.length_drop] at this
          simp [hk, Ks.pre] at e; omega
def zeroT : Tr := .mk 0 [] []
/-- glob.Parse: the tree, the error's number, its place. -/
def parseG (l : List UInt8) : Tr × Int × Nat :=
  if 256 < l.length then (zeroT, 2, 0)
  else match piecesF l with
    | .ok ts => (.mk 2 [] ts, 0, 0)
    | .err c o => (zeroT, c, o)
end Go.Proofs.Ytjnhmcgjeljcmaa
