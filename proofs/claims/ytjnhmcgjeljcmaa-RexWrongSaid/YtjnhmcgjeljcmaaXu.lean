/- Plain facts: rex's parser as one loop; patterns one behind the other. No program. -/
import Derived.Test.YtjnhmcgjeljcmaaXq
namespace Go.Proofs.Ytjnhmcgjeljcmaa

def altEnd : List Tr → Tr
  | [t] => t
  | acc => .mk 3 [] acc
/-- The parts of an alternation and how many bytes they take. -/
inductive Gl where
  | ok (ps : List Tr) (n : Nat)
  | err (code : Int) (off : Nat)
def Gl.pre (acc : List Tr) (m : Nat) : Gl → Gl
  | .ok ps n => .ok (acc ++ ps) (m + n)
  | .err c o => .err c (m + o)
def Gl.pr : Gl → Pr
  | .ok ps n => .ok (altEnd ps) n
  | .err c o => .err c o
theorem Gl.pre_nil (r : Gl) : Gl.pre [] 0 r = r := by cases r <;> simp [Gl.pre]
theorem Gl.pre_pre (a b : List Tr) (m n : Nat) (r : Gl) : Gl.pre a m (Gl.pre b n r) = Gl.pre (a ++ b) (m + n) r := by cases r <;> simp [Gl.pre, Nat.add_assoc]
def goL (Al : List UInt8 → Pr) : Nat → List Tr → List UInt8 → Gl
  | 0, _, _ => .err 0 0
  | f + 1, cur, l =>
    if l.isEmpty || starts [41] l then .ok [.mk 2 [] cur] 0
    else if starts [124] l then (goL Al f [] (l.drop 1)).pre [.mk 2 [] cur] 1
    else match pieceX Al l with
      | .ok t n => (goL Al f (cur ++ [t]) (l.drop n)).pre [] n
      | .err c o => .err c o
theorem goL_fuel (Al : List UInt8 → Pr) : ∀ (f g : Nat) (cur : List Tr) (l : List UInt8), l.length < f → l.length < g → goL Al f cur l = goL Al g cur l := by
  intro f
  induction f with
  | zero => intro g cur l h; omega
  | succ f ih =>
    intro g cur l hf hg
    match g, hg with
    | g + 1, hg =>
      unfold goL
      split
      · rfl
      · split
        · rename_i h
          have := starts_len h
          rw [ih g [] (l.drop 1) (by rw [List.length_drop]; omega) (by rw [List.length_drop]; omega)]
        · split
          · rename_i t n h
            have := pieceX_bd h
            rw [ih g (cur ++ [t]) (l.drop n) (by rw [List.length_drop]; omega) (by rw [List.length_drop]; omega)]
          · rfl
def goF (Al : List UInt8 → Pr) (cur : List Tr) (l : List UInt8) : Gl := goL Al (l.length + 1) cur l
theorem goF_stop {Al : List UInt8 → Pr} {cur : List Tr} {l : List UInt8} (h : (l.isEmpty || starts [41] l) = true) : goF Al cur l = .ok [.mk 2 [] cur] 0 := by
  unfold goF goL; rw [if_pos h]
theorem goF_bar {Al : List UInt8 → Pr} {cur : List Tr} {l : List UInt8} (h : starts [124] l = true) (h0 : (l.isEmpty || starts [41] l) = false) : goF Al cur l = (goF Al [] (l.drop 1)).pre [.mk 2 [] cur] 1 := by
  unfold goF
  have := starts_len h
  rw [goL, if_neg (by rw [h0]; simp), if_pos h, goL_fuel Al l.length ((l.drop 1).length + 1) [] (l.drop 1) (by rw [List.length_drop]; omega) (by omega)]
theorem goF_more {Al : List UInt8 → Pr} {cur : List Tr} {l : List UInt8} {t : Tr} {n : Nat} (h0 : (l.isEmpty || starts [41] l) = false) (h1 : starts [124] l = false) (hp : pieceX Al l = .ok t n) : goF Al cur l = (goF Al (cur ++ [t]) (l.drop n)).pre [] n := by
  unfold goF
  have := pieceX_bd hp
  rw [goL, if_neg (by rw [h0]; simp), if_neg (by rw [h1]; simp), hp]
  simp only
  rw [goL_fuel Al l.length ((l.drop n).length + 1) (cur ++ [t]) (l.drop n) (by rw [List.length_drop]; omega) (by omega)]
theorem goF_err {Al : List UInt8 → Pr} {cur : List Tr} {l : List UInt8} {c : Int} {o : Nat} (h0 : (l.isEmpty || starts [41] l) = false) (h1 : starts [124] l = false) (hp : pieceX Al l = .err c o) : goF Al cur l = .err c o := by
  unfold goF
  rw [goL, if_neg (by rw [h0]; simp), if_neg (by rw [h1]; simp), hp]
theorem bar_not {l : List UInt8} (h : starts [124] l = true) : (l.isEmpty || starts [41] l) = false := by
  match l, h with
  | [], h => simp [starts, List.isPrefixOf] at h
  | c :: l, h =>
    have h1 : ((124 : UInt8) == c) = true := by simp only [starts, List.isPrefixOf, Bool.and_true] at h; exact h
    have h2 := eq_of_beq h1
    subst h2
    rfl
def afterPart (Al : List UInt8 → Pr) (cur' : List Tr) (n : Nat) (l : List UInt8) : Gl :=
  if starts [124] (l.drop n) then (goF Al [] (l.drop (n + 1))).pre [.mk 2 [] cur'] (n + 1) else .ok [.mk 2 [] cur'] n
theorem partK_go (Al : List UInt8 → Pr) : ∀ (f : Nat) (l : List UInt8) (cur : List Tr) (m : Nat), l.length < f →
    (∃ cur' n, partK Al f l cur m = .ok (.mk 2 [] cur') (m + n) ∧ n ≤ l.length ∧ goF Al cur l = afterPart Al cur' n l) ∨ (∃ c o, partK Al f l cur m = .err c (m + o) ∧ goF Al cur l = .err c o)
  | 0, _, _, _, h => by omega
  | f + 1, l, cur, m, h => by
    unfold partK
    by_cases hs : (l.isEmpty || starts [124] l || starts [41] l) = true
    · left
      rw [if_pos hs]
      refine ⟨cur, 0, rfl, Nat.zero_le _, ?_⟩
      unfold afterPart
      by_cases hb : starts [124] l = true
      · rw [List.drop_zero, if_pos hb]
        exact goF_bar hb (bar_not hb)
      · rw [List.drop_zero, if_neg hb]
        refine goF_stop ?_
        simp only [Bool.or_eq_true] at hs ⊢
        rcases hs with (h1 | h1) | h1
        · exact .inl h1
        · exact absurd h1 hb
        · exact .inr h1
    · rw [if_neg hs]
      have h0 : (l.isEmpty || starts [41] l) = false := by
        simp only [Bool.or_eq_true, not_or, Bool.not_eq_true] at hs
        rw [hs.1.1, hs.2]; rfl
      have h1 : starts [124] l = false := by
        simp only [Bool.or_eq_true, not_or, Bool.not_eq_true] at hs
        exact hs.1.2
      cases hp : pieceX Al l with
      | err c o => exact .inr ⟨c, o, rfl, goF_err h0 h1 hp⟩
      | ok t k =>
        have hk := pieceX_bd hp
        simp only
        rcases partK_go Al f (l.drop k) (cur ++ [t]) (m + k) (by rw [List.length_drop]; omega) with ⟨cur', n, e1, e2, e3⟩ | ⟨c, o, e1, e2⟩
        · left
          rw [List.length_drop] at e2
          refine ⟨cur', k + n, by rw [e1, Nat.add_assoc], by omega, ?_⟩
          rw [goF_more h0 h1 hp, e3]
          unfold afterPart
          rw [List.drop_drop, List.drop_drop]
          split
          · rw [Gl.pre_pre]; simp [Nat.add_assoc]
          · simp [Gl.pre]
        · right
          refine ⟨c, k + o, by rw [e1, Nat.add_assoc], ?_⟩
          rw [goF_more h0 h1 hp, e2]; rfl
theorem altK_go (Al : List UInt8 → Pr) : ∀ (f : Nat) (l : List UInt8) (acc : List Tr) (m : Nat), l.length < f →
    altK Al f l acc m = (if starts [124] l then (goF Al [] (l.drop 1)).pre acc (m + 1) else .ok acc m).pr
  | 0, _, _, _, h => by omega
  | f + 1, l, acc, m, h => by
    unfold altK
    by_cases hb : starts [124] l = true
    · have hl := starts_len hb
      rw [if_pos hb, if_pos hb]
      unfold partX
      rcases partK_go Al ((l.drop 1).length + 1) (l.drop 1) [] 0 (by omega) with ⟨cur', n, e1, e2, e3⟩ | ⟨c, o, e1, e2⟩
      · rw [List.length_drop] at e2
        rw [e1, e3]
        simp only [Nat.zero_add]
        rw [altK_go Al f _ _ _ (by rw [List.length_drop]; omega)]
        unfold afterPart
        rw [List.drop_drop, List.drop_drop, List.drop_drop]
        split
        · rw [Gl.pre_pre, show 1 + (n + 1) = 1 + n + 1 by omega, show m + (1 + n) + 1 = m + 1 + (n + 1) by omega]
        · simp [Gl.pre, Gl.pr, Nat.add_assoc]
      · rw [e1, e2]
        simp only [Gl.pre, Gl.pr, Nat.zero_add]
        rw [Nat.add_assoc]
    · rw [if_neg hb, if_neg hb]
      rcases acc with _ | ⟨a, _ | ⟨c, l⟩⟩ <;> rfl
theorem altX_go (d : Nat) (l : List UInt8) : altX (d + 1) l = (goF (altX d) [] l).pr := by
  unfold altX partX
  rcases partK_go (altX d) (l.length + 1) l [] 0 (by omega) with ⟨cur', n, e1, e2, e3⟩ | ⟨c, o, e1, e2⟩
  · rw [e1, e3]
    simp only [Nat.zero_add]
    rw [altK_go _ _ _ _ _ (by rw [List.length_drop]; omega)]
    unfold afterPart
    rw [List.drop_drop]
  · rw [e1, e2]; simp [Gl.pr]

/-! One text behind the other. -/
def AppL (L : List UInt8 → Lr) : Prop := ∀ l c n, L l = .ok c n → ∀ q, L (l ++ q) = .ok c n
theorem app_letterX : AppL letterX := by
  intro l c n h q
  match l with
  | [] => simp [letterX] at h
  | [x] =>
    by_cases hx : x = 92
    · simp [letterX, hx] at h
    · simpa [letterX, hx] using h
  | x :: y :: t =>
    by_cases hx : x = 92
    · simpa [letterX, hx] using h
    · simpa [letterX, hx] using h
theorem xstarts_app {c : UInt8} {l q : List UInt8} (h : l ≠ []) : starts [c] (l ++ q) = starts [c] l := by
  match l, h with
  | d :: l, _ => simp [starts, List.isPrefixOf]
theorem xstarts2_app {c d : UInt8} {l q : List UInt8} (h : l ≠ []) (h2 : l ≠ [c]) : starts [c, d] (l ++ q) = starts [c, d] l := by
  match l, h, h2 with
  | [x], _, h2 =>
    have hx : (c == x) = false := by simp; intro e; exact h2 (by rw [e])
    simp [starts, List.isPrefixOf, hx]
  | x :: y :: l, _, _ => simp [starts, List.isPrefixOf]
theorem xdrop_app {l q : List UInt8} {n : Nat} (h : n ≤ l.length) : (l ++ q).drop n = l.drop n ++ q := List.drop_append_of_le_length h
theorem nil_letter {L : List UInt8 → Lr} (hL : GoodL L) {c : UInt8} {n : Nat} (h : L [] = .ok c n) : False := by
  have := (hL []).1 c n h
  simp at this; omega
theorem xrange_app {L : List UInt8 → Lr} (hL : GoodL L) (hA : AppL L) {l : List UInt8} {lo hi : UInt8} {n : Nat} (h : rangeP L l = .ok lo hi n) (hn : n < l.length) (q : List UInt8) : rangeP L (l ++ q) = .ok lo hi n := by
  unfold rangeP at h ⊢
  cases h1 : L l with
  | err c o => rw [h1] at h; cases h
  | ok lo' n1 =>
    rw [h1] at h
    rw [hA l _ _ h1 q]
    simp only at h ⊢
    have b1 := (hL l).1 _ _ h1
    have hne : l.drop n1 ≠ [] := by
      intro e
      have e1 : dashB (l.drop n1) = false := by rw [e]; rfl
      rw [e1] at h
      simp at h
      have := congrArg List.length e
      simp at this
      omega
    have hne2 : l.drop n1 ≠ [45] := by
      intro e
      have e1 : dashB (l.drop n1) = true := by rw [e]; decide
      have e2 : l.drop (n1 + 1) = [] := by rw [← List.drop_drop, e]; rfl
      rw [e1, e2] at h
      simp only [if_true] at h
      split at h
      · cases h
      · rename_i hi' m h2
        exact nil_letter hL h2
    have hd : dashB ((l ++ q).drop n1) = dashB (l.drop n1) := by
      rw [xdrop_app b1.2]
      unfold dashB
      rw [xstarts_app hne, xstarts2_app hne hne2]
    rw [hd]
    cases hdb : dashB (l.drop n1)
    · rw [hdb] at h; simpa using h
    · rw [hdb] at h
      simp only [if_true] at h ⊢
      have hl1 : n1 + 1 ≤ l.length := by
        have := List.length_pos_iff.2 hne
        rw [List.length_drop] at this; omega
      cases h2 : L (l.drop (n1 + 1)) with
      | err c o => rw [h2] at h; cases h
      | ok hi' m =>
        rw [h2] at h
        rw [xdrop_app hl1, hA _ _ _ h2 q]
        exact h
theorem xitems_app {L : List UInt8 → Lr} (hL : GoodL L) (hA : AppL L) : ∀ (f : Nat) (b : Bool) (l : List UInt8), l.length < f → ∀ rs n, itemsP L f b l = .ok rs n → ∀ (q : List UInt8) (g : Nat), (l ++ q).length < g → itemsP L g b (l ++ q) = .ok rs n
  | 0, _, _, h => by omega
  | f + 1, b, l, h => by
    intro rs n hi q g hg
    match g, hg with
    | g + 1, hg =>
      have hb0 := (itemsP_bd hL (f + 1) b l h).1 rs n hi
      have hl : l ≠ [] := by rintro rfl; simp at hb0; omega
      unfold itemsP at hi ⊢
      rw [xstarts_app hl]
      by_cases h1 : (!b && starts [93] l) = true
      · rw [if_pos h1] at hi ⊢; exact hi
      · rw [if_neg h1] at hi ⊢
        cases hr : rangeP L l with
        | err c o => rw [hr] at hi; cases hi
        | ok lo hi' m =>
          rw [hr] at hi
          simp only at hi
          have hm := rangeP_ok hL hr
          cases hi2 : itemsP L f false (l.drop m) with
          | err c o => rw [hi2] at hi; simp [Ir.more] at hi
          | ok rs' n' =>
            have hb := (itemsP_bd hL f false (l.drop m) (by rw [List.length_drop]; omega)).1 rs' n' hi2
            rw [List.length_drop] at hb
            rw [xrange_app hL hA hr (by omega) q]
            simp only
            rw [xdrop_app hm.2]
            rw [xitems_app hL hA f false (l.drop m) (by rw [List.length_drop]; omega) rs' n' hi2 q g (by simp at hg ⊢; omega)]
            rw [hi2] at hi
            exact hi
theorem itemsPr_ok {neg : Bool} {m : Nat} {r : Ir} {t : Tr} {n : Nat} (h : itemsPr neg m r = .ok t n) : ∃ rs k, r = .ok rs k := by
  cases r with
  | ok rs k => exact ⟨rs, k, rfl⟩
  | err c o => simp [itemsPr] at h
theorem itemsX_app {b : Bool} {l : List UInt8} {rs : List (UInt8 × UInt8)} {n : Nat} (h : itemsF letterX b l = .ok rs n) (q : List UInt8) : itemsF letterX b (l ++ q) = .ok rs n :=
  xitems_app good_letterX app_letterX _ b l (by omega) rs n h q _ (by omega)
theorem classX_app {l : List UInt8} {t : Tr} {n : Nat} (h : classX l = .ok t n) (q : List UInt8) : classX (l ++ q) = .ok t n := by
  have hb := classX_bd h
  have hne : l ≠ [] := by rintro rfl; simp at hb; omega
  unfold classX at h ⊢
  rw [xstarts_app hne]
  by_cases h1 : starts [94] l = true
  · have hl := starts_len h1
    rw [if_pos h1] at h ⊢
    rw [xdrop_app hl]
    by_cases h2 : starts [93] (l.drop 1) = true
    · rw [if_pos h2] at h; cases h
    · rw [if_neg h2] at h
      obtain ⟨rs, k, hi⟩ := itemsPr_ok h
      have hb2 := (itemsF_bd good_letterX false _).1 _ _ hi
      have hne2 : l.drop 1 ≠ [] := by intro e; rw [e] at hb2; simp at hb2; omega
      rw [xstarts_app hne2, if_neg h2, itemsX_app hi q, ← hi]
      exact h
  · rw [if_neg h1] at h ⊢
    rw [xstarts_app hne]
    by_cases h2 : starts [93] l = true
    · rw [if_pos h2] at h; cases h
    · rw [if_neg h2] at h ⊢
      obtain ⟨rs, k, hi⟩ := itemsPr_ok h
      rw [itemsX_app hi q, ← hi]
      exact h
/-- What ends ahead of the end is read alike if more comes behind. -/
def AlExt (Al Al' : List UInt8 → Pr) : Prop := ∀ l q t n, Al l = .ok t n → n < l.length → Al' (l ++ q) = .ok t n
theorem groupX_app {Al Al' : List UInt8 → Pr} (hE : AlExt Al Al') {l : List UInt8} {t : Tr} {n : Nat} (h : groupX Al l = .ok t n) (q : List UInt8) : groupX Al' (l ++ q) = .ok t n := by
  unfold groupX at h ⊢
  cases h1 : Al l with
  | err c o => rw [h1] at h; cases h
  | ok t1 n1 =>
    rw [h1] at h
    simp only at h
    by_cases h2 : starts [41] (l.drop n1) = true
    · rw [if_pos h2] at h
      have h3 := starts_len h2
      rw [List.length_drop] at h3
      rw [hE l q t1 n1 h1 (by omega)]
      simp only
      rw [xdrop_app (by omega), xstarts_app (by intro e; rw [e] at h2; simp [starts, List.isPrefixOf] at h2), if_pos h2]
      exact h
    · rw [if_neg h2] at h; cases h
theorem signX_app {l q : List UInt8} (h : l ≠ []) : signX (l ++ q) = signX l := by
  match l, h with
  | c :: l, _ => rfl
theorem shift_eq {m : Nat} {r r' : Pr} (h : r = r') : r.shift m = r'.shift m := by rw [h]
theorem atomX_app {Al Al' : List UInt8 → Pr} (hE : AlExt Al Al') {l : List UInt8} {t : Tr} {n : Nat} (h : atomX Al l = .ok t n) (q : List UInt8) : atomX Al' (l ++ q) = .ok t n := by
  have hb := atomX_bd h
  have hne : l ≠ [] := by rintro rfl; simp at hb; omega
  have hne2 : l ≠ [92] := by
    rintro rfl
    simp [atomX, signX, kindX, starts, List.isPrefixOf, letterX] at h
  unfold atomX at h ⊢
  rw [signX_app hne, xstarts_app hne, xstarts_app hne, xstarts_app hne, xstarts2_app hne hne2]
  split at h
  · cases h
  · rename_i h0
    rw [if_neg h0]
    split at h
    · rename_i h1
      rw [if_pos h1, xdrop_app (starts_len h1)]
      obtain ⟨m, hm, rfl⟩ := shift_ok h
      rw [groupX_app hE hm q]; rfl
    · rename_i h1
      rw [if_neg h1]
      split at h
      · rename_i h2
        rw [if_pos h2, xdrop_app (starts_len h2)]
        obtain ⟨m, hm, rfl⟩ := shift_ok h
        rw [classX_app hm q]; rfl
      · rename_i h2
        rw [if_neg h2]
        split at h
        · rename_i h3
          rw [if_pos h3]; exact h
        · rename_i h3
          rw [if_neg h3]
          split at h
          · rename_i h4
            rw [if_pos h4]; exact h
          · rename_i h4
            rw [if_neg h4]
            split at h
            · rename_i c m hm
              rw [app_letterX _ _ _ hm q]; exact h
            · cases h
theorem signsX_none {q : List UInt8} (h : signX q = 0) (t : Tr) : signsX t q = (t, 0) := by
  match q with
  | [] => rfl
  | c :: q => simp only [signX] at h; simp [signsX, h]
theorem signsX_app : ∀ (l : List UInt8) (t : Tr) (q : List UInt8), ((signsX t l).2 < l.length ∨ signX q = 0) → signsX t (l ++ q) = signsX t l
  | [], t, q, h => by
    rcases h with h | h
    · simp [signsX] at h
    · simp only [List.nil_append]; rw [signsX_none h]; rfl
  | c :: l, t, q, h => by
    simp only [List.cons_append, signsX]
    by_cases hc : kindX c = 0
    · rw [if_pos hc, if_pos hc]
    · rw [if_neg hc, if_neg hc]
      simp only [signsX, if_neg hc, List.length_cons] at h
      rw [signsX_app l _ q (by omega)]
theorem pieceX_app {Al Al' : List UInt8 → Pr} (hE : AlExt Al Al') {l : List UInt8} {t : Tr} {n : Nat} (h : pieceX Al l = .ok t n) (q : List UInt8) (hq : n < l.length ∨ signX q = 0) : pieceX Al' (l ++ q) = .ok t n := by
  unfold pieceX at h ⊢
  cases h1 : atomX Al l with
  | err c o => rw [h1] at h; cases h
  | ok t1 n1 =>
    rw [h1] at h
    simp only at h
    have hb := atomX_bd h1
    rw [atomX_app hE h1 q]
    simp only
    have hn : n1 + (signsX t1 (l.drop n1)).2 = n := by injection h
    rw [xdrop_app hb.2, signsX_app (l.drop n1) t1 q (by rw [List.length_drop]; omega)]
    exact h
theorem pre_ok {acc : List Tr} {m : Nat} {r : Gl} {ps : List Tr} {n : Nat} (h : r.pre acc m = .ok ps n) : ∃ ps' n', r = .ok ps' n' ∧ ps = acc ++ ps' ∧ n = m + n' := by
  cases r with
  | ok ps' n' => simp only [Gl.pre] at h; injection h with h1 h2; exact ⟨ps', n', rfl, h1.symm, h2.symm⟩
  | err c o => simp [Gl.pre] at h
theorem goF_app {Al Al' : List UInt8 → Pr} (hE : AlExt Al Al') : ∀ (N : Nat) (cur : List Tr) (l : List UInt8), l.length ≤ N → ∀ ps n, goF Al cur l = .ok ps n →
    (n < l.length → ∀ q, goF Al' cur (l ++ q) = .ok ps n) ∧
    (n = l.length → ∃ ps' cur', ps = ps' ++ [.mk 2 [] cur'] ∧ ∀ q, signX q = 0 → goF Al' cur (l ++ q) = (goF Al' cur' q).pre ps' l.length) := by
  intro N
  induction N with
  | zero =>
    intro cur l hl ps n h
    obtain rfl : l = [] := by simpa using hl
    rw [goF_stop rfl] at h
    injection h with h1 h2
    refine ⟨fun hn => by simp at hn, fun _ => ⟨[], cur, h1.symm, fun q _ => ?_⟩⟩
    rw [List.nil_append]; exact (Gl.pre_nil _).symm
  | succ N ih =>
    intro cur l hl ps n h
    by_cases hne : l = []
    · subst hne
      rw [goF_stop rfl] at h
      injection h with h1 h2
      refine ⟨fun hn => by simp at hn, fun _ => ⟨[], cur, h1.symm, fun q _ => ?_⟩⟩
      rw [List.nil_append]; exact (Gl.pre_nil _).symm
    · have hem : l.isEmpty = false := by simpa using hne
      have hemq : ∀ q : List UInt8, (l ++ q).isEmpty = false := fun q => by simp [hne]
      by_cases h41 : starts [41] l = true
      · rw [goF_stop (by rw [h41]; simp)] at h
        injection h with h1 h2
        have hlen := starts_len h41
        refine ⟨fun hn q => ?_, fun hn => by omega⟩
        rw [goF_stop (by rw [xstarts_app hne, h41]; simp), h1, h2]
      · have h0 : (l.isEmpty || starts [41] l) = false := by rw [hem]; simpa using h41
        have h0q : ∀ q : List UInt8, ((l ++ q).isEmpty || starts [41] (l ++ q)) = false := fun q => by rw [hemq, xstarts_app hne]; simpa using h41
        by_cases hb : starts [124] l = true
        · have hlen := starts_len hb
          rw [goF_bar hb h0] at h
          obtain ⟨ps1, n1, e1, rfl, rfl⟩ := pre_ok h
          have := ih [] (l.drop 1) (by rw [List.length_drop]; omega) _ _ e1
          rw [List.length_drop] at this
          refine ⟨fun hn q => ?_, fun hn => ?_⟩
          · rw [goF_bar (by rw [xstarts_app hne]; exact hb) (h0q q), xdrop_app hlen, this.1 (by omega) q]; rfl
          · obtain ⟨ps', cur', rfl, hq⟩ := this.2 (by omega)
            refine ⟨.mk 2 [] cur :: ps', cur', rfl, fun q hsq => ?_⟩
            rw [goF_bar (by rw [xstarts_app hne]; exact hb) (h0q q), xdrop_app hlen, hq q hsq, Gl.pre_pre, show 1 + (l.length - 1) = l.length by omega]; rfl
        · have hb' : starts [124] l = false := by simpa using hb
          cases hp : pieceX Al l with
          | err c o => rw [goF_err h0 hb' hp] at h; cases h
          | ok t k =>
            have hk := pieceX_bd hp
            rw [goF_more h0 hb' hp] at h
            obtain ⟨ps1, n1, e1, rfl, rfl⟩ := pre_ok h
            have := ih (cur ++ [t]) (l.drop k) (by rw [List.length_drop]; omega) _ _ e1
            rw [List.length_drop] at this
            refine ⟨fun hn q => ?_, fun hn => ?_⟩
            · rw [goF_more (h0q q) (by rw [xstarts_app hne]; exact hb') (pieceX_app hE hp q (by omega)), xdrop_app hk.2, this.1 (by omega) q]; rfl
            · obtain ⟨ps', cur', rfl, hq⟩ := this.2 (by omega)
              refine ⟨ps', cur', rfl, fun q hsq => ?_⟩
              rw [goF_more (h0q q) (by rw [xstarts_app hne]; exact hb') (pieceX_app hE hp q (.inr hsq)), xdrop_app hk.2, hq q hsq, Gl.pre_pre, show k + (l.length - k) = l.length by omega]; rfl
theorem pr_ok {r : Gl} {t : Tr} {n : Nat} (h : r.pr = .ok t n) : ∃ ps, r = .ok ps n ∧ t = altEnd ps := by
  cases r with
  | ok ps m => simp only [Gl.pr] at h; injection h with h1 h2; subst h2; exact ⟨ps, rfl, h1.symm⟩
  | err c o => simp [Gl.pr] at h
theorem altX_ext : ∀ (d d' : Nat), d ≤ d' → AlExt (altX d) (altX d')
  | 0, _, _ => fun l q t n h => by unfold altX at h; cases h
  | d + 1, d', h => fun l q t n h1 hn => by
    match d', h with
    | d' + 1, h =>
      rw [altX_go] at h1 ⊢
      obtain ⟨ps, e, rfl⟩ := pr_ok h1
      rw [(goF_app (altX_ext d d' (by omega)) _ [] l (Nat.le_refl _) _ _ e).1 hn q]
      rfl
/-- A whole pattern with more behind it. -/
theorem whole_more {l : List UInt8} {t : Tr} {n : Nat} (h : wholeX l = .ok t n) : ∃ ps cur, t = altEnd (ps ++ [.mk 2 [] cur]) ∧ ∀ d q, l.length ≤ d → signX q = 0 → altX (d + 1) (l ++ q) = ((goF (altX d) cur q).pre ps l.length).pr := by
  unfold wholeX at h
  cases h1 : altX (l.length + 1) l with
  | err c o => rw [h1] at h; cases h
  | ok t1 n1 =>
    rw [h1] at h
    simp only at h
    split at h
    · rename_i hn
      injection h with e1 e2
      subst e1
      rw [altX_go] at h1
      obtain ⟨ps, e, rfl⟩ := pr_ok h1
      obtain ⟨ps', cur', rfl, _⟩ := (goF_app (altX_ext l.length l.length (Nat.le_refl _)) _ [] l (Nat.le_refl _) _ _ e).2 hn
      refine ⟨ps', cur', rfl, fun d q hd hq => ?_⟩
      obtain ⟨ps2, cur2, e2, hq2⟩ := (goF_app (altX_ext l.length d hd) _ [] l (Nat.le_refl _) _ _ e).2 hn
      have e3 := List.append_inj' e2 rfl
      have e4 : cur' = cur2 := by have := e3.2; simpa using this
      rw [altX_go, hq2 q hq, e3.1, e4]
    · cases h
end Go.Proofs.Ytjnhmcgjeljcmaa
