/- Plain facts: which texts a glob's pieces match; that going back to the last star alone is enough. No program. -/
import Derived.Test.YtjnhmcgjeljcmaaGp
namespace Go.Proofs.Ytjnhmcgjeljcmaa

inductive Pc where
  | star
  | set (rs : List (UInt8 × UInt8))
def pcOf : Tr → Pc
  | .mk k rs _ => if k = 4 then .star else .set rs
def starM (f : List UInt8 → Bool) : List UInt8 → Bool
  | [] => f []
  | c :: t => f (c :: t) || starM f t
def gm : List Pc → List UInt8 → Bool
  | [], t => t.isEmpty
  | .star :: ps, t => starM (gm ps) t
  | .set rs :: ps, t => match t with
    | [] => false
    | c :: t => inR rs c.toNat && gm ps t
theorem starM_iff (f : List UInt8 → Bool) (t : List UInt8) : starM f t = true ↔ ∃ j, j ≤ t.length ∧ f (t.drop j) = true := by
  induction t with
  | nil => simp [starM]
  | cons c t ih =>
    simp only [starM, Bool.or_eq_true, ih]
    constructor
    · rintro (h | ⟨j, hj, h⟩)
      · exact ⟨0, Nat.zero_le _, h⟩
      · exact ⟨j + 1, by simp; omega, by simpa using h⟩
    · rintro ⟨j, hj, h⟩
      match j with
      | 0 => left; exact h
      | j + 1 => right; exact ⟨j, by simp at hj; omega, by simpa using h⟩
theorem starM_next {f : List UInt8 → Bool} {t : List UInt8} (h : f t = false) (hl : t ≠ []) : starM f t = starM f (t.drop 1) := by
  match t, hl with
  | c :: t, _ => simp [starM, h]
theorem starM_self {f : List UInt8 → Bool} {t : List UInt8} (h : f t = true) : starM f t = true := (starM_iff f t).2 ⟨0, Nat.zero_le _, h⟩
def isSet : Pc → Bool
  | .set _ => true
  | .star => false
/-- S are sets, and just these bytes' . -/
def setsOn : List Pc → List UInt8 → Bool
  | [], [] => true
  | .set rs :: S, c :: u => inR rs c.toNat && setsOn S u
  | _, _ => false
theorem setsOn_len : ∀ {S : List Pc} {u : List UInt8}, setsOn S u = true → S.length = u.length
  | [], [], _ => rfl
  | [], c :: u, h => by simp [setsOn] at h
  | .set rs :: S, [], h => by simp [setsOn] at h
  | .star :: S, u, h => by simp [setsOn] at h
  | .set rs :: S, c :: u, h => by
    simp only [setsOn, Bool.and_eq_true] at h
    simp [setsOn_len h.2]
theorem setsOn_all : ∀ {S : List Pc} {u : List UInt8}, setsOn S u = true → ∀ p ∈ S, isSet p = true
  | [], _, _ => by simp
  | .star :: S, u, h => by simp [setsOn] at h
  | .set rs :: S, [], h => by simp [setsOn] at h
  | .set rs :: S, c :: u, h => by
    simp only [setsOn, Bool.and_eq_true] at h
    intro p hp
    rcases List.mem_cons.1 hp with rfl | hp
    · rfl
    · exact setsOn_all h.2 p hp
theorem gm_sets : ∀ {S : List Pc} {u : List UInt8} (Q : List Pc) (v : List UInt8), setsOn S u = true → gm (S ++ Q) (u ++ v) = gm Q v
  | [], [], Q, v, _ => rfl
  | [], c :: u, Q, v, h => by simp [setsOn] at h
  | .star :: S, u, Q, v, h => by simp [setsOn] at h
  | .set rs :: S, [], Q, v, h => by simp [setsOn] at h
  | .set rs :: S, c :: u, Q, v, h => by
    simp only [setsOn, Bool.and_eq_true] at h
    simp only [List.cons_append, gm, h.1, Bool.true_and]
    exact gm_sets Q v h.2
theorem gm_drop : ∀ {S : List Pc} (Q : List Pc) (t : List UInt8), (∀ p ∈ S, isSet p = true) → gm (S ++ Q) t = true → S.length ≤ t.length ∧ gm Q (t.drop S.length) = true
  | [], Q, t, _, h => ⟨Nat.zero_le _, h⟩
  | .star :: S, Q, t, hs, h => by have := hs .star (by simp); simp [isSet] at this
  | .set rs :: S, Q, [], hs, h => by simp [gm] at h
  | .set rs :: S, Q, c :: t, hs, h => by
    simp only [List.cons_append, gm, Bool.and_eq_true] at h
    have := gm_drop Q t (fun p hp => hs p (List.mem_cons_of_mem _ hp)) h.2
    exact ⟨by simp; omega, by simpa using this.2⟩
def onlyS (ps : List Pc) : Bool := ps.all fun p => !isSet p
theorem gm_nil : ∀ ps : List Pc, gm ps [] = onlyS ps
  | [] => rfl
  | .star :: ps => by simp only [gm, starM, gm_nil ps]; simp [onlyS, isSet]
  | .set rs :: ps => by simp [gm, onlyS, isSet]
/-- What isn't stars alone wants a byte. -/
theorem gm_wants : ∀ {ps : List Pc} {t : List UInt8}, onlyS ps = false → gm ps t = true → 0 < t.length := by
  intro ps t h1 h2
  cases t with
  | nil => rw [gm_nil, h1] at h2; cases h2
  | cons c t => simp

/-- The state of the search. -/
structure MInv (ps : List Pc) (txt : List UInt8) (kid at_ : Nat) (beh : Int) (frm : Nat) : Prop where
  kidLe : kid ≤ ps.length
  atLe : at_ ≤ txt.length
  frmLe : frm ≤ at_
  main : (beh = -1 ∧ gm ps txt = gm (ps.drop kid) (txt.drop at_)) ∨
    (∃ b : Nat, beh = b ∧ b ≤ kid ∧ kid - b = at_ - frm ∧ gm ps txt = starM (gm (ps.drop b)) (txt.drop frm) ∧ setsOn ((ps.drop b).take (kid - b)) ((txt.drop frm).take (at_ - frm)) = true)
theorem MInv.start (ps : List Pc) (txt : List UInt8) : MInv ps txt 0 0 (-1) 0 := ⟨Nat.zero_le _, Nat.zero_le _, Nat.le_refl _, Or.inl ⟨rfl, rfl⟩⟩
theorem drop_cons_get {α : Type} {l : List α} {k : Nat} {x : α} (h : l[k]? = some x) : l.drop k = x :: l.drop (k + 1) := by
  have hk : k < l.length := (List.getElem?_eq_some_iff.1 h).1
  rw [List.drop_eq_getElem_cons hk]
  have := List.getElem?_eq_getElem hk
  rw [h] at this
  injection this with this
  rw [← this]
theorem split_at {α : Type} (l : List α) {b k : Nat} (h : b ≤ k) : l.drop b = (l.drop b).take (k - b) ++ l.drop k := by
  conv => lhs; rw [← List.take_append_drop (k - b) (l.drop b)]
  rw [List.drop_drop, show b + (k - b) = k by omega]
theorem drop_app {α : Type} (u v : List α) (n : Nat) : (u ++ v).drop (u.length + n) = v.drop n := by rw [← List.drop_drop, List.drop_left' rfl]
theorem MInv.star {ps : List Pc} {txt : List UInt8} {kid at_ frm : Nat} {beh : Int} (h : MInv ps txt kid at_ beh frm) (hk : ps[kid]? = some .star) : MInv ps txt (kid + 1) at_ ((kid + 1 : Nat) : Int) at_ := by
  have hlt : kid < ps.length := (List.getElem?_eq_some_iff.1 hk).1
  refine ⟨by omega, h.atLe, Nat.le_refl _, Or.inr ⟨kid + 1, rfl, Nat.le_refl _, by omega, ?_, by simp [setsOn]⟩⟩
  rcases h.main with ⟨_, hm⟩ | ⟨b, _, hb, hd, hm, hs⟩
  · rw [hm, drop_cons_get hk]; rfl
  · rw [hm]
    have hS := split_at ps hb
    have hT := split_at txt h.frmLe
    have hl : ((ps.drop b).take (kid - b)).length = at_ - frm := by rw [setsOn_len hs]; simp; have := h.atLe; omega
    rw [drop_cons_get hk] at hS
    generalize hSd : (ps.drop b).take (kid - b) = S at *
    generalize hud : (txt.drop frm).take (at_ - frm) = u at *
    rw [hS, hT]
    rw [Bool.eq_iff_iff]
    constructor
    · intro h1
      obtain ⟨j, hj, h2⟩ := (starM_iff _ _).1 h1
      obtain ⟨h3, h4⟩ := gm_drop _ _ (setsOn_all hs) h2
      obtain ⟨i, hi, h5⟩ := (starM_iff _ _).1 h4
      rw [List.drop_drop, List.drop_drop] at h5
      refine (starM_iff _ _).2 ⟨j + i, ?_, ?_⟩
      · have hul := setsOn_len hs
        simp only [List.length_drop, List.length_append] at hi hj h3 ⊢
        omega
      · have hul := setsOn_len hs
        rw [show j + (S.length + i) = u.length + (j + i) by omega, drop_app] at h5
        exact h5
    · intro h1
      refine starM_self ?_
      rw [gm_sets _ _ hs]
      exact h1
theorem MInv.step {ps : List Pc} {txt : List UInt8} {kid at_ frm : Nat} {beh : Int} {rs : List (UInt8 × UInt8)} {c : UInt8} (h : MInv ps txt kid at_ beh frm) (hk : ps[kid]? = some (.set rs)) (hc : txt[at_]? = some c) (hin : inR rs c.toNat = true) :
    MInv ps txt (kid + 1) (at_ + 1) beh frm := by
  have hlt : kid < ps.length := (List.getElem?_eq_some_iff.1 hk).1
  have hlt2 : at_ < txt.length := (List.getElem?_eq_some_iff.1 hc).1
  have := h.frmLe
  refine ⟨by omega, by omega, by omega, ?_⟩
  rcases h.main with ⟨h0, hm⟩ | ⟨b, h0, hb, hd, hm, hs⟩
  · left; refine ⟨h0, ?_⟩
    rw [hm, drop_cons_get hk, drop_cons_get hc]
    simp [gm, hin]
  · right
    refine ⟨b, h0, by omega, by omega, hm, ?_⟩
    have e1 : (ps.drop b).take (kid + 1 - b) = (ps.drop b).take (kid - b) ++ [.set rs] := by
      rw [show kid + 1 - b = (kid - b) + 1 by omega, List.take_add_one, List.getElem?_drop, show b + (kid - b) = kid by omega, hk]; rfl
    have e2 : (txt.drop frm).take (at_ + 1 - frm) = (txt.drop frm).take (at_ - frm) ++ [c] := by
      rw [show at_ + 1 - frm = (at_ - frm) + 1 by omega, List.take_add_one, List.getElem?_drop, show frm + (at_ - frm) = at_ by omega, hc]; rfl
    rw [e1, e2]
    generalize (ps.drop b).take (kid - b) = S at *
    generalize (txt.drop frm).take (at_ - frm) = u at *
    clear e1 e2
    induction S generalizing u with
    | nil =>
      cases u with
      | nil => simp [setsOn, hin]
      | cons x u => simp [setsOn] at hs
    | cons p S ih =>
      cases p with
      | star => simp [setsOn] at hs
      | set rs' =>
        cases u with
        | nil => simp [setsOn] at hs
        | cons x u =>
          simp only [setsOn, Bool.and_eq_true] at hs
          simp only [List.cons_append, setsOn, hs.1, Bool.true_and]
          exact ih u hs.2
/-- No piece fits here. -/
theorem MInv.stuck {ps : List Pc} {txt : List UInt8} {kid at_ : Nat} (hlt : at_ < txt.length) (h : ps.length ≤ kid ∨ ∃ rs, ps[kid]? = some (.set rs) ∧ ∀ c, txt[at_]? = some c → inR rs c.toNat = false) : gm (ps.drop kid) (txt.drop at_) = false := by
  rcases h with h | ⟨rs, hk, hc⟩
  · rw [List.drop_eq_nil_of_le h]
    rw [List.drop_eq_getElem_cons hlt]; rfl
  · rw [drop_cons_get hk, List.drop_eq_getElem_cons hlt]
    simp [gm, hc _ (List.getElem?_eq_getElem hlt)]
theorem MInv.back {ps : List Pc} {txt : List UInt8} {kid at_ frm b : Nat} (h : MInv ps txt kid at_ (b : Int) frm) (hlt : at_ < txt.length) (hst : gm (ps.drop kid) (txt.drop at_) = false) : MInv ps txt b (frm + 1) (b : Int) (frm + 1) ∧ b ≤ kid := by
  rcases h.main with ⟨h0, _⟩ | ⟨b', h0, hb, hd, hm, hs⟩
  · omega
  · obtain rfl : b = b' := by omega
    have := h.kidLe
    have := h.frmLe
    refine ⟨⟨by omega, by omega, Nat.le_refl _, Or.inr ⟨b, rfl, Nat.le_refl _, by omega, ?_, by simp [setsOn]⟩⟩, hb⟩
    rw [hm, starM_next, List.drop_drop]
    · rw [split_at ps hb, split_at txt h.frmLe, gm_sets _ _ hs, hst]
    · intro e; have := congrArg List.length e; simp at this; omega
theorem MInv.fail {ps : List Pc} {txt : List UInt8} {kid at_ frm : Nat} {beh : Int} (h : MInv ps txt kid at_ beh frm) (hb : beh < 0) (hst : gm (ps.drop kid) (txt.drop at_) = false) : gm ps txt = false := by
  rcases h.main with ⟨_, hm⟩ | ⟨b', h0, _⟩
  · rw [hm, hst]
  · omega
theorem MInv.over {ps : List Pc} {txt : List UInt8} {kid frm : Nat} {beh : Int} (h : MInv ps txt kid txt.length beh frm) : gm ps txt = onlyS (ps.drop kid) := by
  rcases h.main with ⟨_, hm⟩ | ⟨b, h0, hb, hd, hm, hs⟩
  · rw [hm, List.drop_length, gm_nil]
  · rw [hm, split_at ps hb]
    have hT : txt.drop frm = (txt.drop frm).take (txt.length - frm) := by rw [List.take_of_length_le (by simp)]
    cases ho : onlyS (ps.drop kid)
    · rw [Bool.eq_false_iff]
      intro h1
      obtain ⟨j, hj, h2⟩ := (starM_iff _ _).1 h1
      obtain ⟨h3, h4⟩ := gm_drop _ _ (setsOn_all hs) h2
      have h5 := gm_wants ho h4
      have hl := setsOn_len hs
      simp only [List.length_drop, List.length_take] at *
      omega
    · refine starM_self ?_
      rw [hT]
      have := gm_sets (ps.drop kid) [] hs
      rw [List.append_nil] at this
      rw [this, gm_nil, ho]
end Go.Proofs.Ytjnhmcgjeljcmaa
