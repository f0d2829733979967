/- Plain facts: the text of a set is read as the set (towards RexBack). No program. Plain facts: what a piece's text begins with (towards RexBack). No program. Plain facts: the text of a tree is read as the tree (towards RexBack). No program. Plain facts: what trees rex's parser gives; a pattern's tree has a text that is read as it (towards RexBack). No program. Plain facts: how long the text of a parsed tree is, and how many steps it takes (towards RexBack). No program. -/
import Derived.Test.YtjnhmcgjeljcmaaXz
namespace Go.Proofs.Ytjnhmcgjeljcmaa

/-- What a text of ranges can't begin with: a - that stands for itself, a ], a ^. -/
theorem rangesT_first (rs : List (UInt8 × UInt8)) (rest : List UInt8) (c : UInt8) (hc : c = 45 ∨ c = 93 ∨ c = 94) (hne : rs ≠ []) : starts [c] (rangesT rs ++ rest) = false := by
  match rs, hne with
  | r :: rs, _ =>
    have e : rangesT (r :: rs) ++ rest = letterT csgs r.1 ++ ((if r.2 = r.1 then [] else 45 :: letterT csgs r.2) ++ rangesT rs ++ rest) := by
      simp [rangesT, range1T]
    rw [e]
    generalize ((if r.2 = r.1 then [] else 45 :: letterT csgs r.2) ++ rangesT rs ++ rest) = q
    generalize r.1 = b
    unfold letterT
    by_cases h10 : b = 10
    · subst h10; rcases hc with rfl | rfl | rfl <;> rfl
    · by_cases h9 : b = 9
      · subst h9; rcases hc with rfl | rfl | rfl <;> rfl
      · rw [if_neg h10, if_neg h9]
        cases hb : csgs.contains b
        · have hbc : b ≠ c := by
            rintro rfl
            rcases hc with rfl | rfl | rfl <;> simp [csgs] at hb
          simp [starts, List.isPrefixOf]
          exact fun e => hbc e.symm
        · rcases hc with rfl | rfl | rfl <;> rfl
theorem starts_tail (a b c : UInt8) (l : List UInt8) : starts [a, b] (c :: l) = ((a == c) && starts [b] l) := by simp [starts, List.isPrefixOf]
theorem range_text (r : UInt8 × UInt8) (rs : List (UInt8 × UInt8)) (rest : List UInt8) (h : r.1.toNat ≤ r.2.toNat) : rangeP letterX (range1T r ++ (rangesT rs ++ 93 :: rest)) = .ok r.1 r.2 (range1T r).length := by
  obtain ⟨lo, hi⟩ := r
  simp only at h
  by_cases e : hi = lo
  · subst e
    have er : range1T (hi, hi) = letterT csgs hi := by simp [range1T]
    rw [er]
    unfold rangeP
    rw [letterX_csgs]
    simp only
    rw [List.drop_left]
    have hd : dashB (rangesT rs ++ 93 :: rest) = false := by
      have : starts [45] (rangesT rs ++ 93 :: rest) = false := by
        cases rs with
        | nil => rfl
        | cons r rs => exact rangesT_first _ _ 45 (.inl rfl) (by simp)
      unfold dashB; rw [this]; rfl
    rw [if_neg (by rw [hd]; simp)]
  · have er : range1T (lo, hi) = letterT csgs lo ++ 45 :: letterT csgs hi := by simp [range1T, e]
    rw [er]
    unfold rangeP
    have e2 : letterT csgs lo ++ 45 :: letterT csgs hi ++ (rangesT rs ++ 93 :: rest) = letterT csgs lo ++ (45 :: (letterT csgs hi ++ (rangesT rs ++ 93 :: rest))) := by simp
    rw [e2, letterX_csgs]
    simp only
    rw [List.drop_left]
    have h2 := letterT_first hi (rangesT rs ++ 93 :: rest)
    have hd : dashB (45 :: (letterT csgs hi ++ (rangesT rs ++ 93 :: rest))) = true := by
      unfold dashB
      rw [starts_tail, h2.1]; simp [starts, List.isPrefixOf]
    rw [if_pos hd]
    have hdr : List.drop ((letterT csgs lo).length + 1) (letterT csgs lo ++ 45 :: (letterT csgs hi ++ (rangesT rs ++ 93 :: rest))) = letterT csgs hi ++ (rangesT rs ++ 93 :: rest) := by
      rw [List.drop_append]; simp
    rw [hdr, letterX_csgs]
    simp only
    rw [if_neg (by rw [UInt8.lt_iff_toNat_lt]; omega)]
    congr 1
    simp; omega
theorem items_text : ∀ (rs : List (UInt8 × UInt8)) (rest : List UInt8), (∀ r ∈ rs, r.1.toNat ≤ r.2.toNat) → itemsF letterX false (rangesT rs ++ 93 :: rest) = .ok rs ((rangesT rs).length + 1)
  | [], rest, _ => itemsF_end (by rfl)
  | r :: rs, rest, h => by
    have e : rangesT (r :: rs) ++ 93 :: rest = range1T r ++ (rangesT rs ++ 93 :: rest) := by simp [rangesT]
    have h0 : (!false && starts [93] (rangesT (r :: rs) ++ 93 :: rest)) = false := by rw [rangesT_first (r :: rs) _ 93 (.inr (.inl rfl)) (by simp)]; rfl
    have hr := range_text r rs rest (h r (by simp))
    rw [← e] at hr
    rw [itemsF_more good_letterX h0 hr, e, List.drop_left, items_text rs rest (fun r' hr' => h r' (by simp [hr']))]
    simp only [Ir.more]
    congr 1
    simp [rangesT]; omega
/-- A class of ranges, or of all others, is read as them. -/
theorem class_text (rs : List (UInt8 × UInt8)) (neg : Bool) (rest : List UInt8) (hne : rs ≠ []) (h : ∀ r ∈ rs, r.1.toNat ≤ r.2.toNat) :
    classX ((if neg then [94] else []) ++ (rangesT rs ++ 93 :: rest)) = .ok (.mk 1 (rangesL rs neg) []) ((if neg then 1 else 0) + ((rangesT rs).length + 1)) := by
  have h1 := rangesT_first rs (93 :: rest) 93 (.inr (.inl rfl)) hne
  have h2 := rangesT_first rs (93 :: rest) 94 (.inr (.inr rfl)) hne
  unfold classX
  cases neg with
  | true =>
    simp only [if_true]
    rw [if_pos (by simp [starts, List.isPrefixOf])]
    simp only [List.cons_append, List.nil_append, List.drop_succ_cons, List.drop_zero]
    rw [if_neg (by rw [h1]; simp), items_text rs rest h]
    simp [itemsPr]
  | false =>
    simp only [Bool.false_eq_true, if_false, List.nil_append]
    rw [if_neg (by rw [h2]; simp), if_neg (by rw [h1]; simp), items_text rs rest h]
    simp [itemsPr]
/-- Ranges hang on their bytes alone. -/
theorem rgTo_congr {m m' : Nat → Bool} : ∀ k, (∀ c, c < k → m c = m' c) → rgTo m k = rgTo m' k
  | 0, _ => rfl
  | k + 1, h => by
    have ih := rgTo_congr k (fun c hc => h c (by omega))
    rw [rgTo, rgTo, h k (by omega), ih]
    by_cases h0 : 0 < k
    · rw [h (k - 1) (by omega)]
    · simp [h0]
theorem rangesL_in (rs : List (UInt8 × UInt8)) (neg : Bool) (c : Nat) (hc : c < 256) : inR (rangesL rs neg) c = (inR rs c != neg) := by
  have := (rgTo_in (memB rs neg) 256 (Nat.le_refl _)).1 c
  unfold rangesL
  rw [this]
  simp [memB, hc]
theorem rangesL_twice (rs : List (UInt8 × UInt8)) (a b : Bool) : rangesL (rangesL rs a) b = rangesL rs (a != b) := by
  unfold rangesL
  refine rgTo_congr 256 fun c hc => ?_
  have := rangesL_in rs a c hc
  unfold rangesL at this
  show (inR (rgTo (memB rs a) 256) c != b) = (inR rs c != (a != b))
  rw [this]
  cases inR rs c <;> cases a <;> cases b <;> rfl
theorem rangesL_up (rs : List (UInt8 × UInt8)) (neg : Bool) : ∀ r ∈ rangesL rs neg, r.1.toNat ≤ r.2.toNat := (rgTo_in (memB rs neg) 256 (Nat.le_refl _)).2
/-- One byte, as Text tells it, is an atom. -/
theorem atom_one (Al : List UInt8 → Pr) (x : UInt8) (rest : List UInt8) : atomX Al (letterT sgs x ++ rest) = .ok (.mk 1 [(x, x)] []) (letterT sgs x).length := by
  unfold letterT
  by_cases h10 : x = 10
  · subst h10
    simp [atomX, signX, kindX, starts, List.isPrefixOf, letterX]
  · by_cases h9 : x = 9
    · subst h9
      simp [atomX, signX, kindX, starts, List.isPrefixOf, letterX]
    · rw [if_neg h10, if_neg h9]
      cases hc : sgs.contains x
      · have hs : x ≠ 124 ∧ x ≠ 40 ∧ x ≠ 41 ∧ x ≠ 42 ∧ x ≠ 43 ∧ x ≠ 63 ∧ x ≠ 46 ∧ x ≠ 91 ∧ x ≠ 92 := by
          simpa [sgs] using hc
        obtain ⟨_, s2, _, s4, s5, s6, s7, s8, s9⟩ := hs
        have hk : kindX x = 0 := by simp [kindX, s4, s5, s6]
        simp only [Bool.false_eq_true, if_false, List.cons_append, List.nil_append]
        unfold atomX
        rw [if_neg (by simp [signX, hk]), if_neg (by simp [starts, List.isPrefixOf, Ne.symm s2]), if_neg (by simp [starts, List.isPrefixOf, Ne.symm s8]), if_neg (by simp [starts, List.isPrefixOf, Ne.symm s7]), if_neg (by simp [starts, List.isPrefixOf, Ne.symm s9])]
        simp [letterX, s9]
      · have hx : x = 124 ∨ x = 40 ∨ x = 41 ∨ x = 42 ∨ x = 43 ∨ x = 63 ∨ x = 46 ∨ x = 91 ∨ x = 92 := by simpa [sgs] using hc
        rcases hx with rfl | rfl | rfl | rfl | rfl | rfl | rfl | rfl | rfl <;> simp [atomX, signX, kindX, starts, List.isPrefixOf, letterX, alnumB]
theorem atom_class_text (Al : List UInt8 → Pr) {l : List UInt8} {t : Tr} {n : Nat} (h : classX l = .ok t n) : atomX Al (91 :: l) = .ok t (1 + n) := by
  unfold atomX
  rw [if_neg (by simp [signX, kindX]), if_neg (by simp [starts, List.isPrefixOf]), if_pos (by simp [starts, List.isPrefixOf])]
  simp only [List.drop_succ_cons, List.drop_zero, h, Pr.shift]
/-- The text of a set that stands as its ranges is an atom, and is read as it. -/
theorem atom_set (Al : List UInt8 → Pr) (rs : List (UInt8 × UInt8)) (rest : List UInt8) (hn : rangesL rs false = rs) : atomX Al (setTx rs ++ rest) = .ok (.mk 1 rs []) (setTx rs).length := by
  have hup := rangesL_up rs false
  have huo := rangesL_up rs true
  rw [hn] at hup
  have htt : rangesL (rangesL rs true) true = rs := by rw [rangesL_twice]; exact hn
  unfold setTx
  rw [hn]
  unfold setT2
  by_cases h1 : oneR rs = true
  · rw [if_pos h1]
    match rs, h1 with
    | [(x, y)], h1 =>
      have : y = x := by simpa [oneR] using h1
      subst this
      exact atom_one Al y rest
  · rw [if_neg h1]
    by_cases h2 : rangesL rs true = [(10, 10)]
    · rw [if_pos h2]
      have hd : dotT = .mk 1 rs [] := by unfold dotT; rw [← h2, htt]
      simp only [List.cons_append, List.nil_append]
      unfold atomX
      rw [if_neg (by simp [signX, kindX]), if_neg (by simp [starts, List.isPrefixOf]), if_neg (by simp [starts, List.isPrefixOf]), if_pos (by simp [starts, List.isPrefixOf]), hd]
      rfl
    · rw [if_neg h2]
      by_cases h3 : (decide (rs.length = 0) || (decide (0 < (rangesL rs true).length) && decide ((rangesL rs true).length < rs.length))) = true
      · rw [if_pos h3]
        have hne : rangesL rs true ≠ [] := by
          intro e
          rw [e] at h3
          simp only [List.length_nil, Nat.lt_irrefl, decide_false, Bool.false_and, Bool.or_false, decide_eq_true_eq] at h3
          have h0 : rs = [] := List.eq_nil_of_length_eq_zero h3
          rw [e] at htt
          rw [h0] at htt
          exact absurd htt (by decide +kernel)
        have hc := class_text (rangesL rs true) true rest hne huo
        rw [htt] at hc
        simp only [if_true, List.cons_append, List.nil_append] at hc
        have := atom_class_text Al hc
        have e : [91, 94] ++ rangesT (rangesL rs true) ++ [93] ++ rest = 91 :: (94 :: (rangesT (rangesL rs true) ++ 93 :: rest)) := by simp
        rw [e, this]
        congr 1
        simp; omega
      · rw [if_neg h3]
        have hne : rs ≠ [] := by
          rintro rfl
          exact h3 (by simp)
        have hc := class_text rs false rest hne hup
        rw [hn] at hc
        simp only [Bool.false_eq_true, if_false, List.nil_append] at hc
        have := atom_class_text Al hc
        have e : [91] ++ rangesT rs ++ [93] ++ rest = 91 :: (rangesT rs ++ 93 :: rest) := by simp
        rw [e, this]
        congr 1
        simp; omega
end Go.Proofs.Ytjnhmcgjeljcmaa
namespace Go.Proofs.Ytjnhmcgjeljcmaa

/-- A text that goes on as a piece: it isn't empty and begins with no sign, no | and no ). -/
def Front (l : List UInt8) : Prop := ∃ c r, l = c :: r ∧ kindX c = 0 ∧ c ≠ 124 ∧ c ≠ 41
theorem Front.app {l : List UInt8} (h : Front l) (q : List UInt8) : Front (l ++ q) := by
  obtain ⟨c, r, rfl, h1, h2, h3⟩ := h
  exact ⟨c, r ++ q, rfl, h1, h2, h3⟩
theorem Front.go {l : List UInt8} (h : Front l) : signX l = 0 ∧ (l.isEmpty || starts [41] l) = false ∧ starts [124] l = false := by
  obtain ⟨c, r, rfl, h1, h2, h3⟩ := h
  refine ⟨h1, ?_, ?_⟩
  · simp [starts, List.isPrefixOf]; exact fun e => h3 e.symm
  · simp [starts, List.isPrefixOf]; exact fun e => h2 e.symm
theorem front_letter (x : UInt8) : Front (letterT sgs x) := by
  unfold letterT
  by_cases h10 : x = 10
  · subst h10; exact ⟨92, [110], rfl, rfl, by decide, by decide⟩
  · by_cases h9 : x = 9
    · subst h9; exact ⟨92, [116], rfl, rfl, by decide, by decide⟩
    · rw [if_neg h10, if_neg h9]
      cases hc : sgs.contains x
      · have hs : x ≠ 124 ∧ x ≠ 40 ∧ x ≠ 41 ∧ x ≠ 42 ∧ x ≠ 43 ∧ x ≠ 63 ∧ x ≠ 46 ∧ x ≠ 91 ∧ x ≠ 92 := by
          simpa [sgs] using hc
        obtain ⟨s1, _, s3, s4, s5, s6, _⟩ := hs
        exact ⟨x, [], rfl, by simp [kindX, s4, s5, s6], s1, s3⟩
      · exact ⟨92, [x], rfl, rfl, by decide, by decide⟩
theorem front_set (rs : List (UInt8 × UInt8)) : Front (setTx rs) := by
  unfold setTx setT2
  split
  · exact front_letter _
  · split
    · exact ⟨46, [], rfl, rfl, by decide, by decide⟩
    · split
      · exact ⟨91, _, rfl, rfl, by decide, by decide⟩
      · exact ⟨91, _, rfl, rfl, by decide, by decide⟩
/-- The text of a piece, as it stands in a Cat or under a sign. -/
def txtP (p : Tr) : List UInt8 := wrapP (within 2 p) (bodyT p)
theorem within_sign {k : Int} (hk : k ≠ 3) (p : Tr) : within k p = within 2 p := by
  have h1 : (k != 3) = true := by simpa using hk
  have h2 : ((2 : Int) != 3) = true := by decide
  unfold within; rw [h1, h2]
mutual
inductive PieceT : Tr → Prop
  | set {rs : List (UInt8 × UInt8)} : rangesL rs false = rs → PieceT (.mk 1 rs [])
  | sign {k : Int} {t : Tr} : (k = 4 ∨ k = 5 ∨ k = 6) → PieceT t → PieceT (.mk k [] [t])
  | group {t : Tr} : AltT t → PieceT t
inductive CatT : Tr → Prop
  | mk {ps : List Tr} : (∀ p, p ∈ ps → PieceT p) → CatT (.mk 2 [] ps)
inductive AltT : Tr → Prop
  | cat {t : Tr} : CatT t → AltT t
  | alt {ts : List Tr} : 2 ≤ ts.length → (∀ t, t ∈ ts → CatT t) → AltT (.mk 3 [] ts)
end
theorem AltT.kind {t : Tr} (h : AltT t) : kindOf t = 2 ∨ kindOf t = 3 := by
  cases h with
  | cat h => cases h; exact .inl rfl
  | alt h1 h2 => exact .inr rfl
theorem txt_group {t : Tr} (h : AltT t) : txtP t = 40 :: (bodyT t ++ [41]) := by
  have hw : within 2 t = true := by
    rcases h.kind with h | h <;> simp [within, h]
  unfold txtP; rw [hw]; rfl
theorem txt_set (rs : List (UInt8 × UInt8)) : txtP (.mk 1 rs []) = setTx rs := by
  simp [txtP, within, kindOf, wrapP, bodyT]
theorem txt_sign {k : Int} {t : Tr} (hk : k = 4 ∨ k = 5 ∨ k = 6) : txtP (.mk k [] [t]) = txtP t ++ signT k := by
  have hw : within 2 (.mk k [] [t]) = false := by
    rcases hk with rfl | rfl | rfl <;> rfl
  have h1 : ¬ k = 1 := by omega
  have h2 : ¬ (k = 2 ∨ k = 3) := by omega
  unfold txtP
  rw [hw, wrapP, if_neg (by simp), bodyT, if_neg h1, if_neg h2, if_pos hk, firstTx, within_sign (by omega)]
theorem front_piece {p : Tr} (h : PieceT p) : Front (txtP p) := by
  cases h with
  | set h => rw [txt_set]; exact front_set _
  | sign hk ht => rw [txt_sign hk]; exact (front_piece ht).app _
  | group h => rw [txt_group h]; exact ⟨40, _, rfl, rfl, by decide, by decide⟩
end Go.Proofs.Ytjnhmcgjeljcmaa
namespace Go.Proofs.Ytjnhmcgjeljcmaa

theorem kids_cat : ∀ (ps : List Tr) (first : Bool), kidsTx 2 first ps = ps.flatMap txtP
  | [], _ => by simp [kidsTx]
  | p :: ps, first => by
    rw [kidsTx, kids_cat ps false, if_neg (by omega)]
    simp [txtP]
theorem body_cat (ps : List Tr) : bodyT (.mk 2 [] ps) = ps.flatMap txtP := by
  rw [bodyT, if_neg (by decide), if_pos (.inl rfl), kids_cat]
theorem altEnd_parts {t : Tr} (h : AltT t) : altEnd (partsT t) = t := by
  cases h with
  | cat h => cases h; rfl
  | alt h1 h2 =>
    rename_i ts
    match ts, h1 with
    | a :: b :: l, _ => rfl
theorem CatT.form {t : Tr} (h : CatT t) : ∃ ps, t = .mk 2 [] ps ∧ ∀ p, p ∈ ps → PieceT p := by
  cases h with
  | mk h => exact ⟨_, rfl, h⟩
/-- A piece is read back by pieceX. -/
def ReadsP (N : Nat) : Prop := ∀ p, PieceT p → (txtP p).length ≤ N → ∀ d rest, (txtP p ++ rest).length ≤ d → pieceX (altX d) (txtP p ++ rest) = .ok (signsX p rest).1 ((txtP p).length + (signsX p rest).2)
def ReadsA (N : Nat) : Prop := ∀ t, AltT t → (bodyT t).length ≤ N → ∀ d rest, (rest = [] ∨ ∃ r, rest = 41 :: r) → (bodyT t ++ rest).length ≤ d → goF (altX d) [] (bodyT t ++ rest) = .ok (partsT t) (bodyT t).length
theorem cat_go {N : Nat} (hP : ReadsP N) (d : Nat) (rest : List UInt8) (hr : signX rest = 0) : ∀ (ps cur : List Tr), (∀ p, p ∈ ps → PieceT p) → (ps.flatMap txtP).length ≤ N → (ps.flatMap txtP ++ rest).length ≤ d →
    goF (altX d) cur (ps.flatMap txtP ++ rest) = (goF (altX d) (cur ++ ps) rest).pre [] (ps.flatMap txtP).length
  | [], cur, _, _, _ => by simp [Gl.pre_nil]
  | p :: ps, cur, h, hN, hd => by
    have hp := h p (by simp)
    simp only [List.flatMap_cons, List.length_append] at hN hd
    have hf := (front_piece hp).app (ps.flatMap txtP ++ rest)
    have hs : signX (ps.flatMap txtP ++ rest) = 0 := by
      cases ps with
      | nil => simpa using hr
      | cons q qs => simp only [List.flatMap_cons, List.append_assoc]; exact ((front_piece (h q (by simp))).app _).go.1
    have e := hP p hp (by omega) d (ps.flatMap txtP ++ rest) (by simp only [List.length_append]; omega)
    rw [signsX_none hs] at e
    simp only [List.flatMap_cons, List.append_assoc]
    rw [goF_more hf.go.2.1 hf.go.2.2 e, Nat.add_zero, List.drop_left, cat_go hP d rest hr ps (cur ++ [p]) (fun q hq => h q (by simp [hq])) (by omega) (by simp only [List.length_append]; omega), Gl.pre_pre]
    simp
theorem stop_go {Al : List UInt8 → Pr} {cur : List Tr} {rest : List UInt8} (h : rest = [] ∨ ∃ r, rest = 41 :: r) : signX rest = 0 ∧ goF Al cur rest = .ok [.mk 2 [] cur] 0 := by
  rcases h with rfl | ⟨r, rfl⟩
  · exact ⟨rfl, goF_stop rfl⟩
  · exact ⟨rfl, goF_stop rfl⟩
theorem alt_go {N : Nat} (hP : ReadsP N) (d : Nat) (rest : List UInt8) (hr : rest = [] ∨ ∃ r, rest = 41 :: r) : ∀ (ts : List Tr) (ps : List Tr), (∀ p, p ∈ ps → PieceT p) → (∀ t, t ∈ ts → CatT t) → (ps.flatMap txtP ++ kidsTx 3 false ts).length ≤ N → (ps.flatMap txtP ++ (kidsTx 3 false ts ++ rest)).length ≤ d →
    goF (altX d) [] (ps.flatMap txtP ++ (kidsTx 3 false ts ++ rest)) = .ok (.mk 2 [] ps :: ts) ((ps.flatMap txtP).length + (kidsTx 3 false ts).length)
  | [], ps, h, _, hN, hd => by
    have hst := stop_go (Al := altX d) (cur := ps) hr
    simp only [kidsTx, List.nil_append, List.append_nil, List.length_append] at hN hd ⊢
    rw [cat_go hP d rest hst.1 ps [] h hN (by simp only [List.length_append]; omega), List.nil_append, hst.2]
    simp [Gl.pre]
  | c :: ts, ps, h, ht, hN, hd => by
    have hc := ht c (by simp)
    cases hc with
    | mk hps =>
      rename_i qs
      have hk : kidsTx 3 false (.mk 2 [] qs :: ts) = 124 :: (qs.flatMap txtP ++ kidsTx 3 false ts) := by
        rw [kidsTx, if_pos ⟨rfl, rfl⟩]
        have : within 3 (.mk 2 [] qs) = false := by rfl
        rw [this, wrapP, if_neg (by simp), body_cat]
        simp
      rw [hk] at hN hd ⊢
      simp only [List.length_append, List.length_cons, List.cons_append, List.append_assoc] at hN hd ⊢
      rw [cat_go hP d _ (by rfl) ps [] h (by omega) (by simp only [List.length_append, List.length_cons]; omega), List.nil_append, goF_bar (by rfl) (by rfl)]
      simp only [List.drop_succ_cons, List.drop_zero]
      rw [alt_go hP d rest hr ts qs hps (fun t h' => ht t (by simp [h'])) (by simp only [List.length_append]; omega) (by simp only [List.length_append]; omega)]
      simp [Gl.pre]; omega
theorem reads_alt {N : Nat} (hP : ReadsP N) : ReadsA N := by
  intro t ht hN d rest hr hd
  cases ht with
  | cat h =>
    cases h with
    | mk hps =>
      rename_i ps
      rw [body_cat] at hN hd ⊢
      have := alt_go hP d rest hr [] ps hps (by simp) (by simpa [kidsTx] using hN) (by simpa [kidsTx] using hd)
      simpa [kidsTx, partsT, kindT] using this
  | alt h2 hts =>
    rename_i ts
    match ts, h2 with
    | c :: cs, _ =>
      obtain ⟨ps, rfl, hps⟩ := (hts c (by simp)).form
      · have hb : bodyT (.mk 3 [] (.mk 2 [] ps :: cs)) = ps.flatMap txtP ++ kidsTx 3 false cs := by
          rw [bodyT, if_neg (by decide), if_pos (.inr rfl), kidsTx, if_neg (by simp)]
          have : within 3 (.mk 2 [] ps) = false := by rfl
          rw [this, wrapP, if_neg (by simp), body_cat]; simp
        rw [hb] at hN hd ⊢
        rw [List.append_assoc, alt_go hP d rest hr cs ps hps (fun t h' => hts t (by simp [h'])) hN (by rw [← List.append_assoc]; exact hd)]
        simp [partsT, kindT, kidsT]
theorem reads_piece (N : Nat) (ih : ∀ M, M < N → ReadsP M) : ReadsP N := by
  intro p hp hN d rest hd
  cases hp with
  | set h =>
    rw [txt_set] at hN hd ⊢
    unfold pieceX
    rw [atom_set _ _ _ h]
    simp only [List.drop_left]
  | sign hk ht =>
    rename_i k t
    rw [txt_sign hk] at hN hd ⊢
    obtain ⟨s, hs, hks⟩ : ∃ s, signT k = [s] ∧ kindX s = k := by
      rcases hk with rfl | rfl | rfl
      · exact ⟨42, rfl, rfl⟩
      · exact ⟨43, rfl, rfl⟩
      · exact ⟨63, rfl, rfl⟩
    rw [hs] at hN hd ⊢
    simp only [List.length_append, List.length_singleton, List.append_assoc, List.cons_append, List.nil_append] at hN hd ⊢
    rw [ih (N - 1) (by omega) t ht (by omega) d (s :: rest) (by simp only [List.length_append, List.length_cons]; simp at hd; omega)]
    have hk0 : ¬ k = 0 := by omega
    simp only [signsX, hks, if_neg hk0]
    congr 1
    omega
  | group h =>
    rw [txt_group h] at hN hd ⊢
    simp only [List.length_append, List.length_cons, List.length_nil, List.cons_append, List.append_assoc, List.nil_append] at hN hd ⊢
    obtain ⟨d, rfl⟩ : ∃ d', d = d' + 1 := ⟨d - 1, by omega⟩
    have hA := reads_alt (ih (N - 1) (by omega)) p h (by omega) d (41 :: rest) (.inr ⟨rest, rfl⟩) (by simp only [List.length_append, List.length_cons]; omega)
    have h1 : altX (d + 1) (bodyT p ++ 41 :: rest) = .ok p (bodyT p).length := by rw [altX_go, hA]; simp only [Gl.pr]; rw [altEnd_parts h]
    have ha : atomX (altX (d + 1)) (40 :: (bodyT p ++ 41 :: rest)) = .ok p ((bodyT p).length + 2) := by
      unfold atomX
      rw [if_neg (by simp [signX, kindX]), if_pos (by rfl)]
      simp only [List.drop_succ_cons, List.drop_zero]
      unfold groupX
      rw [h1]
      simp only
      rw [List.drop_left, if_pos (by rfl)]
      simp only [Pr.shift]
      rw [show 1 + ((bodyT p).length + 1) = (bodyT p).length + 2 by omega]
    unfold pieceX
    rw [ha]
    have : List.drop ((bodyT p).length + 2) (40 :: (bodyT p ++ 41 :: rest)) = rest := by
      rw [List.drop_succ_cons, List.drop_append]; simp
    simp only [this]
theorem reads_all : ∀ N, ReadsP N := by
  intro N
  induction N using Nat.strongRecOn with
  | _ N ih => exact reads_piece N ih
/-- The text of a tree as parseX gives it is read as it. -/
theorem whole_text {t : Tr} (h : AltT t) : wholeX (bodyT t) = .ok t (bodyT t).length := by
  have := reads_alt (reads_all (bodyT t).length) t h (Nat.le_refl _) (bodyT t).length [] (.inl rfl) (by simp)
  rw [List.append_nil] at this
  have := whole_of_go this
  rw [altEnd_parts h] at this
  exact this
end Go.Proofs.Ytjnhmcgjeljcmaa
namespace Go.Proofs.Ytjnhmcgjeljcmaa

theorem set_piece (rs : List (UInt8 × UInt8)) (neg : Bool) : PieceT (.mk 1 (rangesL rs neg) []) := .set (by rw [rangesL_twice]; simp)
theorem itemsPr_piece {neg : Bool} {m : Nat} {r : Ir} {t : Tr} {n : Nat} (h : itemsPr neg m r = .ok t n) : PieceT t := by
  cases r with
  | ok rs k =>
    simp only [itemsPr] at h
    injection h with h1 _
    rw [← h1]; exact set_piece rs neg
  | err c o => simp [itemsPr] at h
theorem classX_piece {l : List UInt8} {t : Tr} {n : Nat} (h : classX l = .ok t n) : PieceT t := by
  unfold classX at h
  split at h
  · split at h
    · cases h
    · exact itemsPr_piece h
  · split at h
    · cases h
    · exact itemsPr_piece h
theorem atomX_piece {Al : List UInt8 → Pr} (hA : ∀ l t n, Al l = .ok t n → AltT t) {l : List UInt8} {t : Tr} {n : Nat} (h : atomX Al l = .ok t n) : PieceT t := by
  unfold atomX at h
  split at h
  · cases h
  · split at h
    · obtain ⟨m, hm, _⟩ := shift_ok h
      unfold groupX at hm
      split at hm
      · rename_i t1 n1 h1
        split at hm
        · injection hm with e _
          rw [← e]; exact .group (hA _ _ _ h1)
        · cases hm
      · cases hm
    · split at h
      · obtain ⟨m, hm, _⟩ := shift_ok h
        exact classX_piece hm
      · split at h
        · injection h with e _
          rw [← e]; exact set_piece _ _
        · split at h
          · injection h with e _
            rw [← e]; exact .set (rangesL_one (by decide))
          · split at h
            · injection h with e _
              rw [← e]; exact .set (rangesL_one (Nat.le_refl _))
            · cases h
theorem signsX_piece : ∀ (l : List UInt8) (t : Tr), PieceT t → PieceT (signsX t l).1
  | [], _, h => h
  | c :: l, t, h => by
    unfold signsX
    split
    · exact h
    · rename_i hk
      refine signsX_piece l _ (.sign ?_ h)
      unfold kindX at hk ⊢
      split
      · exact .inl rfl
      · split
        · exact .inr (.inl rfl)
        · split
          · exact .inr (.inr rfl)
          · rename_i h1 h2 h3
            exact absurd (by rw [if_neg h1, if_neg h2, if_neg h3]) hk
theorem pieceX_piece {Al : List UInt8 → Pr} (hA : ∀ l t n, Al l = .ok t n → AltT t) {l : List UInt8} {t : Tr} {n : Nat} (h : pieceX Al l = .ok t n) : PieceT t := by
  unfold pieceX at h
  split at h
  · rename_i t1 n1 h1
    injection h with e _
    rw [← e]; exact signsX_piece _ _ (atomX_piece hA h1)
  · cases h
theorem goL_cats {Al : List UInt8 → Pr} (hA : ∀ l t n, Al l = .ok t n → AltT t) : ∀ (f : Nat) (cur : List Tr) (l : List UInt8) (ps : List Tr) (n : Nat), (∀ p, p ∈ cur → PieceT p) → goL Al f cur l = .ok ps n → ps ≠ [] ∧ ∀ t, t ∈ ps → CatT t
  | 0, _, _, _, _, _, h => by unfold goL at h; cases h
  | f + 1, cur, l, ps, n, hc, h => by
    unfold goL at h
    split at h
    · injection h with h1 _
      subst h1
      exact ⟨by simp, fun t ht => by simp at ht; subst ht; exact .mk hc⟩
    · split at h
      · obtain ⟨ps', n', e1, rfl, _⟩ := pre_ok h
        have := goL_cats hA f [] _ _ _ (by simp) e1
        refine ⟨by simp, fun t ht => ?_⟩
        simp only [List.cons_append, List.nil_append, List.mem_cons] at ht
        rcases ht with rfl | ht
        · exact .mk hc
        · exact this.2 t ht
      · split at h
        · rename_i t k hp
          obtain ⟨ps', n', e1, rfl, _⟩ := pre_ok h
          have := goL_cats hA f (cur ++ [t]) _ _ _ (fun p hp' => by
            rcases List.mem_append.1 hp' with h1 | h1
            · exact hc p h1
            · simp at h1; subst h1; exact pieceX_piece hA hp) e1
          simpa using this
        · cases h
theorem altX_alt : ∀ (d : Nat) (l : List UInt8) (t : Tr) (n : Nat), altX d l = .ok t n → AltT t
  | 0, _, _, _, h => by unfold altX at h; cases h
  | d + 1, l, t, n, h => by
    rw [altX_go] at h
    obtain ⟨ps, e, rfl⟩ := pr_ok h
    have := goL_cats (altX_alt d) _ [] l ps n (by simp) e
    match ps, this with
    | [], this => exact absurd rfl this.1
    | [t], this => exact .cat (this.2 t (by simp))
    | a :: b :: l, this => exact .alt (by simp) this.2
/-- A pattern that is read: its tree has a text that is read as the same tree, or is too long. -/
theorem back_parse {l : List UInt8} {t : Tr} {n : Nat} (h : wholeX l = .ok t n) : AltT t ∧ parseX (bodyT t) = if 256 < (bodyT t).length then (zeroT, 2, 0) else (t, 0, 0) := by
  have ha : AltT t := by
    unfold wholeX at h
    split at h
    · rename_i t1 n1 h1
      split at h
      · injection h with e _
        rw [← e]; exact altX_alt _ _ _ _ h1
      · cases h
    · cases h
  refine ⟨ha, ?_⟩
  by_cases hl : 256 < (bodyT t).length
  · rw [if_pos hl]
    unfold parseX treeOf; rw [if_pos hl]
  · rw [if_neg hl]
    exact parseX_ok (by omega) (whole_text ha)
end Go.Proofs.Ytjnhmcgjeljcmaa
namespace Go.Proofs.Ytjnhmcgjeljcmaa

/-- What the bounds ask of a tree that n bytes are read as. -/
def Sized (t : Tr) (n : Nat) : Prop := (bodyT t).length ≤ 1300 * n ∧ stepsT t ≤ 4 * n + 3
def SizedP (t : Tr) (n : Nat) : Prop := (txtP t).length ≤ 1300 * n ∧ 1 + stepsT t ≤ 4 * n
theorem set_sized (rs : List (UInt8 × UInt8)) {n : Nat} (hn : 1 ≤ n) : SizedP (.mk 1 rs []) n := by
  have h := setT_len rs
  refine ⟨by rw [txt_set]; omega, ?_⟩
  have : stepsT (.mk 1 rs []) = 0 := by simp [stepsT]
  omega
theorem itemsPr_sized {neg : Bool} {m : Nat} {r : Ir} {t : Tr} {n k : Nat} (h : itemsPr neg m r = .ok t n) (hk : 1 ≤ k) : SizedP t k := by
  cases r with
  | ok rs j =>
    simp only [itemsPr] at h
    injection h with h1 _
    rw [← h1]; exact set_sized _ hk
  | err c o => simp [itemsPr] at h
theorem classX_sized {l : List UInt8} {t : Tr} {n k : Nat} (h : classX l = .ok t n) (hk : 1 ≤ k) : SizedP t k := by
  unfold classX at h
  split at h
  · split at h
    · cases h
    · exact itemsPr_sized h hk
  · split at h
    · cases h
    · exact itemsPr_sized h hk
theorem atomX_sized {Al : List UInt8 → Pr} (hA : ∀ l t n, Al l = .ok t n → AltT t ∧ Sized t n) {l : List UInt8} {t : Tr} {n : Nat} (h : atomX Al l = .ok t n) : SizedP t n := by
  have hb := atomX_bd h
  unfold atomX at h
  split at h
  · cases h
  · split at h
    · obtain ⟨m, hm, rfl⟩ := shift_ok h
      unfold groupX at hm
      split at hm
      · rename_i t1 n1 h1
        split at hm
        · injection hm with e e2
          subst e e2
          obtain ⟨ha, hs1, hs2⟩ := hA _ _ _ h1
          refine ⟨?_, by omega⟩
          rw [txt_group ha]
          simp; omega
        · cases hm
      · cases hm
    · split at h
      · obtain ⟨m, hm, rfl⟩ := shift_ok h
        exact classX_sized hm (by omega)
      · split at h
        · injection h with e _
          rw [← e]; exact set_sized _ (by omega)
        · split at h
          · injection h with e _
            rw [← e]; exact set_sized _ (by omega)
          · split at h
            · injection h with e _
              rw [← e]; exact set_sized _ (by omega)
            · cases h
theorem kindX_sign {c : UInt8} (h : ¬ kindX c = 0) : kindX c = 4 ∨ kindX c = 5 ∨ kindX c = 6 := by
  unfold kindX at h ⊢
  split
  · exact .inl rfl
  · split
    · exact .inr (.inl rfl)
    · split
      · exact .inr (.inr rfl)
      · rename_i h1 h2 h3
        exact absurd (by rw [if_neg h1, if_neg h2, if_neg h3]) h
theorem signsX_sized : ∀ (l : List UInt8) (t : Tr) (n : Nat), SizedP t n → SizedP (signsX t l).1 (n + (signsX t l).2)
  | [], _, _, h => h
  | c :: l, t, n, h => by
    unfold signsX
    split
    · exact h
    · rename_i hk
      have hs : SizedP (.mk (kindX c) [] [t]) (n + 1) := by
        have hk3 := kindX_sign hk
        refine ⟨?_, ?_⟩
        · rw [txt_sign hk3, List.length_append]
          have : (signT (kindX c)).length = 1 := by unfold signT; split; · rfl
                                                    · split <;> rfl
          have := h.1
          omega
        · have : stepsT (.mk (kindX c) [] [t]) = 2 + stepsT t := by
            rw [stepsT, if_neg (by omega), if_pos hk3, stepsF]; omega
          have := h.2
          omega
      have := signsX_sized l _ _ hs
      simp only
      rw [show n + ((signsX (.mk (kindX c) [] [t]) l).2 + 1) = n + 1 + (signsX (.mk (kindX c) [] [t]) l).2 by omega]
      exact this
theorem pieceX_sized {Al : List UInt8 → Pr} (hA : ∀ l t n, Al l = .ok t n → AltT t ∧ Sized t n) {l : List UInt8} {t : Tr} {n : Nat} (h : pieceX Al l = .ok t n) : SizedP t n := by
  unfold pieceX at h
  split at h
  · rename_i t1 n1 h1
    injection h with e e2
    rw [← e, ← e2]; exact signsX_sized _ _ _ (atomX_sized hA h1)
  · cases h
def lenC (c : Tr) : Nat := ((kidsT c).flatMap txtP).length + 1
def stpC (c : Tr) : Nat := 2 + stepsK (kidsT c)
theorem stepsK_snoc : ∀ (ps : List Tr) (p : Tr), stepsK (ps ++ [p]) = stepsK ps + (1 + stepsT p)
  | [], p => by simp [stepsK]
  | q :: ps, p => by simp only [List.cons_append, stepsK, stepsK_snoc ps p]; omega
theorem goL_sized {Al : List UInt8 → Pr} (hA : ∀ l t n, Al l = .ok t n → AltT t ∧ Sized t n) : ∀ (f : Nat) (cur : List Tr) (l : List UInt8) (ps : List Tr) (n : Nat), goL Al f cur l = .ok ps n →
    (ps.map lenC).sum ≤ (cur.flatMap txtP).length + 1300 * n + 1 ∧ (ps.map stpC).sum ≤ stepsK cur + 4 * n + 2
  | 0, _, _, _, _, h => by unfold goL at h; cases h
  | f + 1, cur, l, ps, n, h => by
    unfold goL at h
    split at h
    · injection h with h1 h2
      subst h1 h2
      simp [lenC, stpC, kidsT]; omega
    · split at h
      · obtain ⟨ps', n', e1, rfl, rfl⟩ := pre_ok h
        have := goL_sized hA f [] _ _ _ e1
        simp only [List.flatMap_nil, List.length_nil, stepsK] at this
        simp only [List.cons_append, List.nil_append, List.map_cons, List.sum_cons, lenC, stpC, kidsT] at this ⊢
        omega
      · split at h
        · rename_i t k hp
          obtain ⟨ps', n', e1, rfl, rfl⟩ := pre_ok h
          have := goL_sized hA f (cur ++ [t]) _ _ _ e1
          have hs := pieceX_sized hA hp
          rw [stepsK_snoc] at this
          simp only [List.flatMap_append, List.flatMap_cons, List.flatMap_nil, List.append_nil, List.length_append] at this
          obtain ⟨s1, s2⟩ := hs
          omega
        · cases h
theorem kids_len : ∀ (ts : List Tr), (∀ t, t ∈ ts → CatT t) → (kidsTx 3 false ts).length = (ts.map lenC).sum ∧ stepsK ts = (ts.map stpC).sum
  | [], _ => ⟨by simp [kidsTx], by simp [stepsK]⟩
  | c :: ts, h => by
    obtain ⟨ps, rfl, _⟩ := (h c (by simp)).form
    have ih := kids_len ts (fun t ht => h t (by simp [ht]))
    have hw : within 3 (.mk 2 [] ps) = false := by rfl
    constructor
    · rw [kidsTx, if_pos ⟨rfl, rfl⟩, hw, wrapP, if_neg (by simp), body_cat]
      simp only [List.length_append, List.length_cons, List.length_nil, List.map_cons, List.sum_cons, lenC, kidsT, ih.1]; omega
    · have hs : stepsT (.mk 2 [] ps) = 1 + stepsK ps := by rw [stepsT, if_pos (.inl rfl)]
      simp only [stepsK, List.map_cons, List.sum_cons, stpC, kidsT, ih.2, hs]; omega
theorem altX_sized : ∀ (d : Nat) (l : List UInt8) (t : Tr) (n : Nat), altX d l = .ok t n → AltT t ∧ Sized t n
  | 0, _, _, _, h => by unfold altX at h; cases h
  | d + 1, l, t, n, h => by
    have ha := altX_alt _ _ _ _ h
    refine ⟨ha, ?_⟩
    rw [altX_go] at h
    obtain ⟨ps, e, rfl⟩ := pr_ok h
    have hz := goL_sized (altX_sized d) _ [] l ps n e
    have hc := goL_cats (altX_alt d) _ [] l ps n (by simp) e
    simp only [List.flatMap_nil, List.length_nil, stepsK] at hz
    match ps, hc, hz with
    | [], hc, _ => exact absurd rfl hc.1
    | [c], hc, hz =>
      obtain ⟨qs, rfl, _⟩ := (hc.2 c (by simp)).form
      have hs : stepsT (.mk 2 [] qs) = 1 + stepsK qs := by rw [stepsT, if_pos (.inl rfl)]
      simp only [List.map_cons, List.map_nil, List.sum_cons, List.sum_nil, lenC, stpC, kidsT] at hz
      show Sized (.mk 2 [] qs) n
      unfold Sized
      rw [body_cat, hs]
      omega
    | a :: b :: r, hc, hz =>
      obtain ⟨qs, rfl, _⟩ := (hc.2 a (by simp)).form
      have hk := kids_len (b :: r) (fun t ht => hc.2 t (List.mem_cons_of_mem _ ht))
      have hb : bodyT (.mk 3 [] (.mk 2 [] qs :: b :: r)) = qs.flatMap txtP ++ kidsTx 3 false (b :: r) := by
        rw [bodyT, if_neg (by decide), if_pos (.inr rfl), kidsTx, if_neg (by simp)]
        have : within 3 (.mk 2 [] qs) = false := by rfl
        rw [this, wrapP, if_neg (by simp), body_cat]; simp
      have hs : stepsT (.mk 3 [] (.mk 2 [] qs :: b :: r)) = 1 + ((1 + (1 + stepsK qs)) + stepsK (b :: r)) := by
        rw [stepsT, if_pos (.inr rfl), stepsK, stepsT, if_pos (.inl rfl)]
      have e1 : (List.map lenC (.mk 2 [] qs :: b :: r)).sum = (qs.flatMap txtP).length + 1 + (List.map lenC (b :: r)).sum := by simp [lenC, kidsT]
      have e2 : (List.map stpC (.mk 2 [] qs :: b :: r)).sum = 2 + stepsK qs + (List.map stpC (b :: r)).sum := by simp [stpC, kidsT]
      rw [e1, e2] at hz
      show Sized (.mk 3 [] (.mk 2 [] qs :: b :: r)) n
      unfold Sized
      rw [hb, hs, List.length_append, hk.1, hk.2]
      omega
theorem whole_sized {l : List UInt8} {t : Tr} {n : Nat} (h : wholeX l = .ok t n) : (bodyT t).length ≤ 1300 * l.length ∧ stepsT t ≤ 4 * l.length + 3 := by
  unfold wholeX at h
  split at h
  · rename_i t1 n1 h1
    split at h
    · rename_i hn
      injection h with e _
      subst e
      have := (altX_sized _ _ _ _ h1).2
      unfold Sized at this
      rw [hn] at this
      exact this
    · cases h
  · cases h
end Go.Proofs.Ytjnhmcgjeljcmaa
