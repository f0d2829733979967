/- Plain facts: no error of rex's parser has the number 0; what can't stand behind a pattern. No program. Plain facts: which texts a glob's pieces match; that going back to the last star alone is enough. No program. -/
import Derived.Test.YtgcbcdbfeaepkaaXu
import Derived.Test.YtgcbcdbfeaepkaaTw
import Derived.Test.YtgcbcdbfeaepkaaGp
namespace Go.Proofs.Ytgcbcdbfeaepkaa

theorem letterX_code {l : List UInt8} {c : Int} {o : Nat} (h : letterX l = .err c o) : c ≠ 0 := by
  rintro rfl
  match l with
  | [] => simp [letterX] at h
  | [x] => by_cases hx : x = 92 <;> simp [letterX, hx] at h
  | x :: y :: t =>
    by_cases hx : x = 92
    · simp only [letterX, hx, if_true] at h
      split at h
      · cases h
      · split at h
        · cases h
        · split at h
          · injection h with h; simp at h
          · cases h
    · simp [letterX, hx] at h
theorem rangeP_code {L : List UInt8 → Lr} (hL : ∀ l c o, L l = .err c o → c ≠ 0) {l : List UInt8} {c : Int} {o : Nat} (h : rangeP L l = .err c o) : c ≠ 0 := by
  unfold rangeP at h
  split at h
  · rename_i c' o' h1
    injection h with h2 _; subst h2; exact hL _ _ _ h1
  · split at h
    · split at h
      · rename_i c' o' h1
        injection h with h2 _; subst h2; exact hL _ _ _ h1
      · split at h
        · injection h with h2 _; subst h2; decide
        · cases h
    · cases h
theorem itemsP_code {L : List UInt8 → Lr} (hG : GoodL L) (hL : ∀ l c o, L l = .err c o → c ≠ 0) : ∀ (f : Nat) (b : Bool) (l : List UInt8), l.length < f → ∀ c o, itemsP L f b l = .err c o → c ≠ 0
  | 0, _, _, h => by omega
  | f + 1, b, l, h => by
    intro c o e
    unfold itemsP at e
    split at e
    · cases e
    · split at e
      · rename_i c' o' h1
        injection e with h2 _; subst h2; exact rangeP_code hL h1
      · rename_i lo hi n h1
        have hn := rangeP_ok hG h1
        cases hi2 : itemsP L f false (l.drop n) with
        | ok rs m => rw [hi2] at e; simp [Ir.more] at e
        | err c' o' =>
          rw [hi2] at e
          simp only [Ir.more] at e
          injection e with h2 _; subst h2
          exact itemsP_code hG hL f false _ (by rw [List.length_drop]; omega) _ _ hi2
theorem itemsPr_code {neg : Bool} {m : Nat} {b : Bool} {l : List UInt8} {c : Int} {o : Nat} (h : itemsPr neg m (itemsF letterX b l) = .err c o) : c ≠ 0 := by
  cases hi : itemsF letterX b l with
  | ok rs k => rw [hi] at h; simp [itemsPr] at h
  | err c' o' =>
    rw [hi] at h
    simp only [itemsPr] at h
    injection h with h2 _; subst h2
    exact itemsP_code good_letterX (fun _ _ _ => letterX_code) _ b l (by omega) _ _ hi
theorem classX_code {l : List UInt8} {c : Int} {o : Nat} (h : classX l = .err c o) : c ≠ 0 := by
  unfold classX at h
  split at h
  · split at h
    · injection h with h2 _; subst h2; decide
    · exact itemsPr_code h
  · split at h
    · injection h with h2 _; subst h2; decide
    · exact itemsPr_code h
theorem shift_err {m : Nat} {r : Pr} {c : Int} {n : Nat} (h : r.shift m = .err c n) : ∃ n', r = .err c n' ∧ n = m + n' := by
  cases r with
  | err c' n' => simp [Pr.shift] at h; exact ⟨n', by rw [h.1], h.2.symm⟩
  | ok c o => simp [Pr.shift] at h
theorem groupX_code {Al : List UInt8 → Pr} {l : List UInt8} (hA : ∀ c o, Al l = .err c o → c ≠ 0) {c : Int} {o : Nat} (h : groupX Al l = .err c o) : c ≠ 0 := by
  unfold groupX at h
  split at h
  · split at h
    · cases h
    · injection h with h2 _; subst h2; decide
  · rename_i c' o' h1
    injection h with h2 _; subst h2; exact hA _ _ h1
theorem atomX_code {Al : List UInt8 → Pr} {l : List UInt8} (hA : ∀ l', l'.length < l.length → ∀ c o, Al l' = .err c o → c ≠ 0) {c : Int} {o : Nat} (h : atomX Al l = .err c o) : c ≠ 0 := by
  unfold atomX at h
  split at h
  · injection h with h2 _; subst h2; decide
  · split at h
    · rename_i h1
      have := starts_len h1
      obtain ⟨n', h2, _⟩ := shift_err h
      exact groupX_code (hA _ (by rw [List.length_drop]; omega)) h2
    · split at h
      · obtain ⟨n', h2, _⟩ := shift_err h
        exact classX_code h2
      · split at h
        · cases h
        · split at h
          · cases h
          · split at h
            · cases h
            · rename_i c' o' h1
              injection h with h2 _; subst h2; exact letterX_code h1
theorem pieceX_code {Al : List UInt8 → Pr} {l : List UInt8} (hA : ∀ l', l'.length < l.length → ∀ c o, Al l' = .err c o → c ≠ 0) {c : Int} {o : Nat} (h : pieceX Al l = .err c o) : c ≠ 0 := by
  unfold pieceX at h
  split at h
  · cases h
  · rename_i c' o' h1
    injection h with h2 _; subst h2; exact atomX_code hA h1
theorem goL_code {Al : List UInt8 → Pr} : ∀ (f : Nat) (cur : List Tr) (l : List UInt8), l.length < f → (∀ l', l'.length < l.length → ∀ c o, Al l' = .err c o → c ≠ 0) → ∀ c o, goL Al f cur l = .err c o → c ≠ 0
  | 0, _, _, h => by omega
  | f + 1, cur, l, h => by
    intro hA c o e
    unfold goL at e
    split at e
    · cases e
    · split at e
      · rename_i h1
        have h2 := starts_len h1
        cases hg : goL Al f [] (l.drop 1) with
        | ok ps n => rw [hg] at e; simp [Gl.pre] at e
        | err c' o' =>
          rw [hg] at e
          simp only [Gl.pre] at e
          injection e with h3 _; subst h3
          exact goL_code f [] (l.drop 1) (by rw [List.length_drop]; omega) (fun l' hl' => hA l' (by rw [List.length_drop] at hl'; omega)) _ _ hg
      · split at e
        · rename_i t n h1
          have h2 := pieceX_bd h1
          cases hg : goL Al f (cur ++ [t]) (l.drop n) with
          | ok ps n => rw [hg] at e; simp [Gl.pre] at e
          | err c' o' =>
            rw [hg] at e
            simp only [Gl.pre] at e
            injection e with h3 _; subst h3
            exact goL_code f _ (l.drop n) (by rw [List.length_drop]; omega) (fun l' hl' => hA l' (by rw [List.length_drop] at hl'; omega)) _ _ hg
        · rename_i c' o' h1
          injection e with h3 _; subst h3
          exact pieceX_code hA h1
theorem altX_code : ∀ (d : Nat) (l : List UInt8), l.length < d → ∀ c o, altX d l = .err c o → c ≠ 0
  | 0, _, h => by omega
  | d + 1, l, h => by
    intro c o e
    rw [altX_go] at e
    cases hg : goF (altX d) [] l with
    | ok ps n => rw [hg] at e; simp [Gl.pr] at e
    | err c' o' =>
      rw [hg] at e
      simp only [Gl.pr] at e
      injection e with h3 _; subst h3
      exact goL_code _ [] l (by omega) (fun l' hl' => altX_code d l' (by omega)) _ _ hg
theorem wholeX_code {l : List UInt8} {c : Int} {o : Nat} (h : wholeX l = .err c o) : c ≠ 0 := by
  unfold wholeX at h
  split at h
  · split at h
    · cases h
    · injection h with h2 _; subst h2; decide
  · rename_i c' o' h1
    injection h with h2 _; subst h2; exact altX_code _ _ (by omega) _ _ h1
def wholeW (l : List UInt8) : Wr := match wholeX l with | .ok t _ => .ok t | .err c o => .err c o
def parseX (l : List UInt8) : Tr × Int × Nat := treeOf wholeW l
/-- A pattern that is read. -/
theorem parseX_zero {l : List UInt8} (h : (parseX l).2.1 = 0) : l.length ≤ 256 ∧ ∃ t n, wholeX l = .ok t n ∧ parseX l = (t, 0, 0) := by
  unfold parseX treeOf at h ⊢
  split at h
  · simp at h
  · rename_i hl
    refine ⟨by omega, ?_⟩
    rw [if_neg hl]
    unfold wholeW at h ⊢
    cases hw : wholeX l with
    | ok t n => exact ⟨t, n, rfl, rfl⟩
    | err c o => rw [hw] at h; exact absurd h (wholeX_code hw)
theorem parseX_err {l : List UInt8} {c : Int} {o : Nat} (hl : l.length ≤ 256) (h : wholeX l = .err c o) : parseX l = (zeroT, c, o) := by
  unfold parseX treeOf wholeW; rw [if_neg (by omega), h]
theorem parseX_ok {l : List UInt8} {t : Tr} {n : Nat} (hl : l.length ≤ 256) (h : wholeX l = .ok t n) : parseX l = (t, 0, 0) := by
  unfold parseX treeOf wholeW; rw [if_neg (by omega), h]
/-- What can't stand behind a pattern: its bytes, the error, its place. -/
def badX : List (List UInt8 × Int × Nat) := [([41], 30, 0), ([124, 42], 30, 1), ([40], 31, 1), ([91, 93], 30, 1), ([91, 97], 31, 2), ([92], 31, 1), ([92, 113], 30, 0), ([91, 122, 45, 97, 93], 32, 1), ([40, 124, 43], 30, 2), ([91, 94, 93], 30, 2)]
theorem bad_go : ∀ b ∈ badX, b.1 ≠ [41] → ∀ (d : Nat) (cur : List Tr), goF (altX (d + 1)) cur b.1 = .err b.2.1 b.2.2 := by
  intro b hb hne d cur
  simp only [badX, List.mem_cons, List.not_mem_nil, or_false] at hb
  rcases hb with rfl | rfl | rfl | rfl | rfl | rfl | rfl | rfl | rfl | rfl
  · exact absurd rfl hne
  all_goals kernel_rfl
theorem bad_sign : ∀ b ∈ badX, signX b.1 = 0 ∧ 1 ≤ b.1.length ∧ b.1.length ≤ 5 := by decide
theorem bad_whole {l : List UInt8} {t : Tr} {n : Nat} (h : wholeX l = .ok t n) {b : List UInt8 × Int × Nat} (hb : b ∈ badX) : wholeX (l ++ b.1) = .err b.2.1 (l.length + b.2.2) := by
  obtain ⟨ps, cur, _, hm⟩ := whole_more h
  obtain ⟨hs, h1, h5⟩ := bad_sign b hb
  have hd : ∃ d, (l ++ b.1).length = d + 1 := ⟨(l ++ b.1).length - 1, by rw [List.length_append]; omega⟩
  obtain ⟨d, hd⟩ := hd
  unfold wholeX
  rw [hm (l ++ b.1).length b.1 (by rw [List.length_append]; omega) hs]
  by_cases h41 : b.1 = [41]
  · have hb2 : b = ([41], 30, 0) := by
      simp only [badX, List.mem_cons, List.not_mem_nil, or_false] at hb
      rcases hb with rfl | rfl | rfl | rfl | rfl | rfl | rfl | rfl | rfl | rfl
      · rfl
      all_goals (exact absurd h41 (by decide))
    subst hb2
    rw [goF_stop (by decide)]
    simp only [Gl.pre, Gl.pr]
    rw [if_neg (by simp)]
  · rw [hd, bad_go b hb h41 d cur]
    simp only [Gl.pre, Gl.pr]
theorem bad_parse {l : List UInt8} (h : (parseX l).2.1 = 0) (hl : l.length ≤ 240) {b : List UInt8 × Int × Nat} (hb : b ∈ badX) : parseX (l ++ b.1) = (zeroT, b.2.1, l.length + b.2.2) := by
  obtain ⟨_, t, n, h1, _⟩ := parseX_zero h
  obtain ⟨hs, h2, h5⟩ := bad_sign b hb
  exact parseX_err (by rw [List.length_append]; omega) (bad_whole h1 hb)
end Go.Proofs.Ytgcbcdbfeaepkaa
namespace Go.Proofs.Ytgcbcdbfeaepkaa

inductive Pc where
  | star
  | set (rs : List (UInt8 × UInt8))
def pcOf : Tr → Pc
  | .mk k rs _ => if k = 4 then .star else .set rs
def starM (f : List UInt8 → Bool) : List UInt8 → Bool
  | [] => f []
  | c :: t => f (c :: t) || starM f t
def gm : List Pc → List UInt8 → Bool
  | [], t => t.isEmpty
  | .star :: ps, t => starM (gm ps) t
  | .set rs :: ps, t => match t with
    | [] => false
    | c :: t => inR rs c.toNat && gm ps t
theorem starM_iff (f : List UInt8 → Bool) (t : List UInt8) : starM f t = true ↔ ∃ j, j ≤ t.length ∧ f (t.drop j) = true := by
  induction t with
  | nil => simp [starM]
  | cons c t ih =>
    simp only [starM, Bool.or_eq_true, ih]
    constructor
    · rintro (h | ⟨j, hj, h⟩)
      · exact ⟨0, Nat.zero_le _, h⟩
      · exact ⟨j + 1, by simp; omega, by simpa using h⟩
    · rintro ⟨j, hj, h⟩
      match j with
      | 0 => left; exact h
      | j + 1 => right; exact ⟨j, by simp at hj; omega, by simpa using h⟩
theorem starM_next {f : List UInt8 → Bool} {t : List UInt8} (h : f t = false) (hl : t ≠ []) : starM f t = starM f (t.drop 1) := by
  match t, hl with
  | c :: t, _ => simp [starM, h]
theorem starM_self {f : List UInt8 → Bool} {t : List UInt8} (h : f t = true) : starM f t = true := (starM_iff f t).2 ⟨0, Nat.zero_le _, h⟩
def isSet : Pc → Bool
  | .set _ => true
  | .star => false
/-- S are sets, and just these bytes' . -/
def setsOn : List Pc → List UInt8 → Bool
  | [], [] => true
  | .set rs :: S, c :: u => inR rs c.toNat && setsOn S u
  | _, _ => false
theorem setsOn_len : ∀ {S : List Pc} {u : List UInt8}, setsOn S u = true → S.length = u.length
  | [], [], _ => rfl
  | [], c :: u, h => by simp [setsOn] at h
  | .set rs :: S, [], h => by simp [setsOn] at h
  | .star :: S, u, h => by simp [setsOn] at h
  | .set rs :: S, c :: u, h => by
    simp only [setsOn, Bool.and_eq_true] at h
    simp [setsOn_len h.2]
theorem setsOn_all : ∀ {S : List Pc} {u : List UInt8}, setsOn S u = true → ∀ p ∈ S, isSet p = true
  | [], _, _ => by simp
  | .star :: S, u, h => by simp [setsOn] at h
  | .set rs :: S, [], h => by simp [setsOn] at h
  | .set rs :: S, c :: u, h => by
    simp only [setsOn, Bool.and_eq_true] at h
    intro p hp
    rcases List.mem_cons.1 hp with rfl | hp
    · rfl
    · exact setsOn_all h.2 p hp
theorem gm_sets : ∀ {S : List Pc} {u : List UInt8} (Q : List Pc) (v : List UInt8), setsOn S u = true → gm (S ++ Q) (u ++ v) = gm Q v
  | [], [], Q, v, _ => rfl
  | [], c :: u, Q, v, h => by simp [setsOn] at h
  | .star :: S, u, Q, v, h => by simp [setsOn] at h
  | .set rs :: S, [], Q, v, h => by simp [setsOn] at h
  | .set rs :: S, c :: u, Q, v, h => by
    simp only [setsOn, Bool.and_eq_true] at h
    simp only [List.cons_append, gm, h.1, Bool.true_and]
    exact gm_sets Q v h.2
theorem gm_drop : ∀ {S : List Pc} (Q : List Pc) (t : List UInt8), (∀ p ∈ S, isSet p = true) → gm (S ++ Q) t = true → S.length ≤ t.length ∧ gm Q (t.drop S.length) = true
  | [], Q, t, _, h => ⟨Nat.zero_le _, h⟩
  | .star :: S, Q, t, hs, h => by have := hs .star (by simp); simp [isSet] at this
  | .set rs :: S, Q, [], hs, h => by simp [gm] at h
  | .set rs :: S, Q, c :: t, hs, h => by
    simp only [List.cons_append, gm, Bool.and_eq_true] at h
    have := gm_drop Q t (fun p hp => hs p (List.mem_cons_of_mem _ hp)) h.2
    exact ⟨by simp; omega, by simpa using this.2⟩
def onlyS (ps : List Pc) : Bool := ps.all fun p => !isSet p
theorem gm_nil : ∀ ps : List Pc, gm ps [] = onlyS ps
  | [] => rfl
  | .star :: ps => by simp only [gm, starM, gm_nil ps]; simp [onlyS, isSet]
  | .set rs :: ps => by simp [gm, onlyS, isSet]
/-- What isn't stars alone wants a byte. -/
theorem gm_wants : ∀ {ps : List Pc} {t : List UInt8}, onlyS ps = false → gm ps t = true → 0 < t.length := by
  intro ps t h1 h2
  cases t with
  | nil => rw [gm_nil, h1] at h2; cases h2
  | cons c t => simp

/-- The state of the search. -/
structure MInv (ps : List Pc) (txt : List UInt8) (kid at_ : Nat) (beh : Int) (frm : Nat) : Prop where
  kidLe : kid ≤ ps.length
  atLe : at_ ≤ txt.length
  frmLe : frm ≤ at_
  main : (beh = -1 ∧ gm ps txt = gm (ps.drop kid) (txt.drop at_)) ∨
    (∃ b : Nat, beh = b ∧ b ≤ kid ∧ kid - b = at_ - frm ∧ gm ps txt = starM (gm (ps.drop b)) (txt.drop frm) ∧ setsOn ((ps.drop b).take (kid - b)) ((txt.drop frm).take (at_ - frm)) = true)
theorem MInv.start (ps : List Pc) (txt : List UInt8) : MInv ps txt 0 0 (-1) 0 := ⟨Nat.zero_le _, Nat.zero_le _, Nat.le_refl _, Or.inl ⟨rfl, rfl⟩⟩
theorem drop_cons_get {α : Type} {l : List α} {k : Nat} {x : α} (h : l[k]? = some x) : l.drop k = x :: l.drop (k + 1) := by
  have hk : k < l.length := (List.getElem?_eq_some_iff.1 h).1
  rw [List.drop_eq_getElem_cons hk]
  have := List.getElem?_eq_getElem hk
  rw [h] at this
  injection this with this
  rw [← this]
theorem split_at {α : Type} (l : List α) {b k : Nat} (h : b ≤ k) : l.drop b = (l.drop b).take (k - b) ++ l.drop k := by
  conv => lhs; rw [← List.take_append_drop (k - b) (l.drop b)]
  rw [List.drop_drop, show b + (k - b) = k by omega]
theorem drop_app {α : Type} (u v : List α) (n : Nat) : (u ++ v).drop (u.length + n) = v.drop n := by rw [← List.drop_drop, List.drop_left' rfl]
theorem MInv.star {ps : List Pc} {txt : List UInt8} {kid at_ frm : Nat} {beh : Int} (h : MInv ps txt kid at_ beh frm) (hk : ps[kid]? = some .star) : MInv ps txt (kid + 1) at_ ((kid + 1 : Nat) : Int) at_ := by
  have hlt : kid < ps.length := (List.getElem?_eq_some_iff.1 hk).1
  refine ⟨by omega, h.atLe, Nat.le_refl _, Or.inr ⟨kid + 1, rfl, Nat.le_refl _, by omega, ?_, by simp [setsOn]⟩⟩
  rcases h.main with ⟨_, hm⟩ | ⟨b, _, hb, hd, hm, hs⟩
  · rw [hm, drop_cons_get hk]; rfl
  · rw [hm]
    have hS := split_at ps hb
    have hT := split_at txt h.frmLe
    have hl : ((ps.drop b).take (kid - b)).length = at_ - frm := by rw [setsOn_len hs]; simp; have := h.atLe; omega
    rw [drop_cons_get hk] at hS
    generalize hSd : (ps.drop b).take (kid - b) = S at *
    generalize hud : (txt.drop frm).take (at_ - frm) = u at *
    rw [hS, hT]
    rw [Bool.eq_iff_iff]
    constructor
    · intro h1
      obtain ⟨j, hj, h2⟩ := (starM_iff _ _).1 h1
      obtain ⟨h3, h4⟩ := gm_drop _ _ (setsOn_all hs) h2
      obtain ⟨i, hi, h5⟩ := (starM_iff _ _).1 h4
      rw [List.drop_drop, List.drop_drop] at h5
      refine (starM_iff _ _).2 ⟨j + i, ?_, ?_⟩
      · have hul := setsOn_len hs
        simp only [List.length_drop, List.length_append] at hi hj h3 ⊢
        omega
      · have hul := setsOn_len hs
        rw [show j + (S.length + i) = u.length + (j + i) by omega, drop_app] at h5
        exact h5
    · intro h1
      refine starM_self ?_
      rw [gm_sets _ _ hs]
      exact h1
theorem MInv.step {ps : List Pc} {txt : List UInt8} {kid at_ frm : Nat} {beh : Int} {rs : List (UInt8 × UInt8)} {c : UInt8} (h : MInv ps txt kid at_ beh frm) (hk : ps[kid]? = some (.set rs)) (hc : txt[at_]? = some c) (hin : inR rs c.toNat = true) :
    MInv ps txt (kid + 1) (at_ + 1) beh frm := by
  have hlt : kid < ps.length := (List.getElem?_eq_some_iff.1 hk).1
  have hlt2 : at_ < txt.length := (List.getElem?_eq_some_iff.1 hc).1
  have := h.frmLe
  refine ⟨by omega, by omega, by omega, ?_⟩
  rcases h.main with ⟨h0, hm⟩ | ⟨b, h0, hb, hd, hm, hs⟩
  · left; refine ⟨h0, ?_⟩
    rw [hm, drop_cons_get hk, drop_cons_get hc]
    simp [gm, hin]
  · right
    refine ⟨b, h0, by omega, by omega, hm, ?_⟩
    have e1 : (ps.drop b).take (kid + 1 - b) = (ps.drop b).take (kid - b) ++ [.set rs] := by
      rw [show kid + 1 - b = (kid - b) + 1 by omega, List.take_add_one, List.getElem?_drop, show b + (kid - b) = kid by omega, hk]; rfl
    have e2 : (txt.drop frm).take (at_ + 1 - frm) = (txt.drop frm).take (at_ - frm) ++ [c] := by
      rw [show at_ + 1 - frm = (at_ - frm) + 1 by omega, List.take_add_one, List.getElem?_drop, show frm + (at_ - frm) = at_ by omega, hc]; rfl
    rw [e1, e2]
    generalize (ps.drop b).take (kid - b) = S at *
    generalize (txt.drop frm).take (at_ - frm) = u at *
    clear e1 e2
    induction S generalizing u with
    | nil =>
      cases u with
      | nil => simp [setsOn, hin]
      | cons x u => simp [setsOn] at hs
    | cons p S ih =>
      cases p with
      | star => simp [setsOn] at hs
      | set rs' =>
        cases u with
        | nil => simp [setsOn] at hs
        | cons x u =>
          simp only [setsOn, Bool.and_eq_true] at hs
          simp only [List.cons_append, setsOn, hs.1, Bool.true_and]
          exact ih u hs.2
/-- No piece fits here. -/
theorem MInv.stuck {ps : List Pc} {txt : List UInt8} {kid at_ : Nat} (hlt : at_ < txt.length) (h : ps.length ≤ kid ∨ ∃ rs, ps[kid]? = some (.set rs) ∧ ∀ c, txt[at_]? = some c → inR rs c.toNat = false) : gm (ps.drop kid) (txt.drop at_) = false := by
  rcases h with h | ⟨rs, hk, hc⟩
  · rw [List.drop_eq_nil_of_le h]
    rw [List.drop_eq_getElem_cons hlt]; rfl
  · rw [drop_cons_get hk, List.drop_eq_getElem_cons hlt]
    simp [gm, hc _ (List.getElem?_eq_getElem hlt)]
theorem MInv.back {ps : List Pc} {txt : List UInt8} {kid at_ frm b : Nat} (h : MInv ps txt kid at_ (b : Int) frm) (hlt : at_ < txt.length) (hst : gm (ps.drop kid) (txt.drop at_) = false) : MInv ps txt b (frm + 1) (b : Int) (frm + 1) ∧ b ≤ kid := by
  rcases h.main with ⟨h0, _⟩ | ⟨b', h0, hb, hd, hm, hs⟩
  · omega
  · obtain rfl : b = b' := by omega
    have := h.kidLe
    have := h.frmLe
    refine ⟨⟨by omega, by omega, Nat.le_refl _, Or.inr ⟨b, rfl, Nat.le_refl _, by omega, ?_, by simp [setsOn]⟩⟩, hb⟩
    rw [hm, starM_next, List.drop_drop]
    · rw [split_at ps hb, split_at txt h.frmLe, gm_sets _ _ hs, hst]
    · intro e; have := congrArg List.length e; simp at this; omega
theorem MInv.fail {ps : List Pc} {txt : List UInt8} {kid at_ frm : Nat} {beh : Int} (h : MInv ps txt kid at_ beh frm) (hb : beh < 0) (hst : gm (ps.drop kid) (txt.drop at_) = false) : gm ps txt = false := by
  rcases h.main with ⟨_, hm⟩ | ⟨b', h0, _⟩
  · rw [hm, hst]
  · omega
theorem MInv.over {ps : List Pc} {txt : List UInt8} {kid frm : Nat} {beh : Int} (h : MInv ps txt kid txt.length beh frm) : gm ps txt = onlyS (ps.drop kid) := by
  rcases h.main with ⟨_, hm⟩ | ⟨b, h0, hb, hd, hm, hs⟩
  · rw [hm, List.drop_length, gm_nil]
  · rw [hm, split_at ps hb]
    have hT : txt.drop frm = (txt.drop frm).take (txt.length - frm) := by rw [List.take_of_length_le (by simp)]
    cases ho : onlyS (ps.drop kid)
    · rw [Bool.eq_false_iff]
      intro h1
      obtain ⟨j, hj, h2⟩ := (starM_iff _ _).1 h1
      obtain ⟨h3, h4⟩ := gm_drop _ _ (setsOn_all hs) h2
      have h5 := gm_wants ho h4
      have hl := setsOn_len hs
      simp only [List.length_drop, List.length_take] at *
      omega
    · refine starM_self ?_
      rw [hT]
      have := gm_sets (ps.drop kid) [] hs
      rw [List.append_nil] at this
      rw [this, gm_nil, ho]
end Go.Proofs.Ytgcbcdbfeaepkaa
