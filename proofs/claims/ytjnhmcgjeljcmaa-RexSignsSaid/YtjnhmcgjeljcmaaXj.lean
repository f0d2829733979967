/- Plain facts: two patterns joined. Rows of nodes one behind the other. -/
import Derived.Test.YtjnhmcgjeljcmaaXwa
namespace Go.Proofs.Ytjnhmcgjeljcmaa
open Go.RowKit

theorem whole_go {l : List UInt8} {t : Tr} {n : Nat} (h : wholeX l = .ok t n) : ∃ ps cur, t = altEnd (ps ++ [.mk 2 [] cur]) ∧ ∀ d q, l.length ≤ d → signX q = 0 → goF (altX d) [] (l ++ q) = (goF (altX d) cur q).pre ps l.length := by
  unfold wholeX at h
  cases h1 : altX (l.length + 1) l with
  | err c o => rw [h1] at h; cases h
  | ok t1 n1 =>
    rw [h1] at h
    simp only at h
    split at h
    · rename_i hn
      injection h with e1 e2
      subst e1
      rw [altX_go] at h1
      obtain ⟨ps, e, rfl⟩ := pr_ok h1
      obtain ⟨ps', cur', rfl, _⟩ := (goF_app (altX_ext l.length l.length (Nat.le_refl _)) _ [] l (Nat.le_refl _) _ _ e).2 hn
      refine ⟨ps', cur', rfl, fun d q hd hq => ?_⟩
      obtain ⟨ps2, cur2, e2, hq2⟩ := (goF_app (altX_ext l.length d hd) _ [] l (Nat.le_refl _) _ _ e).2 hn
      have e3 := List.append_inj' e2 rfl
      have e4 : cur' = cur2 := by have := e3.2; simpa using this
      rw [hq2 q hq, e3.1, e4]
    · cases h
def kindT : Tr → Int
  | .mk k _ _ => k
def kidsT : Tr → List Tr
  | .mk _ _ ks => ks
/-- The parts of a tree. -/
def partsT (t : Tr) : List Tr := if kindT t = 3 then kidsT t else [t]
theorem partsT_end (ps : List Tr) (cur : List Tr) : partsT (altEnd (ps ++ [.mk 2 [] cur])) = ps ++ [.mk 2 [] cur] := by
  rcases ps with _ | ⟨a, _ | ⟨b, l⟩⟩ <;> rfl
theorem goF_nil {Al : List UInt8 → Pr} {cur : List Tr} : goF Al cur [] = .ok [.mk 2 [] cur] 0 := goF_stop rfl
theorem altEnd_two {ps qs : List Tr} (h1 : ps ≠ []) (h2 : qs ≠ []) : altEnd (ps ++ qs) = .mk 3 [] (ps ++ qs) := by
  match ps, qs, h1, h2 with
  | a :: ps, b :: qs, _, _ =>
    rcases ps with _ | ⟨c, ps⟩ <;> rfl
theorem whole_of_go {l : List UInt8} {ps : List Tr} (h : goF (altX l.length) [] l = .ok ps l.length) : wholeX l = .ok (altEnd ps) l.length := by
  unfold wholeX
  rw [altX_go, h]
  simp [Gl.pr]
theorem join_or {p q : List UInt8} {a b : Tr} {n m : Nat} (ha : wholeX p = .ok a n) (hb : wholeX q = .ok b m) : wholeX (p ++ 124 :: q) = .ok (.mk 3 [] (partsT a ++ partsT b)) (p ++ 124 :: q).length := by
  obtain ⟨ps, cur, rfl, hp⟩ := whole_go ha
  obtain ⟨qs, dur, rfl, hq⟩ := whole_go hb
  rw [partsT_end, partsT_end, ← altEnd_two (by simp) (by simp)]
  refine whole_of_go ?_
  have hl : (p ++ 124 :: q).length = p.length + 1 + q.length := by simp; omega
  rw [hp _ _ (by omega) rfl, goF_bar (by rfl) (by rfl)]
  have h1 := hq (p ++ 124 :: q).length [] (by omega) rfl
  rw [List.append_nil, goF_nil] at h1
  simp only [List.drop_succ_cons, List.drop_zero]
  rw [h1]
  simp only [Gl.pre, hl]
  simp [Nat.add_assoc]
theorem group_atom {p r : List UInt8} {a : Tr} {n d : Nat} (ha : wholeX p = .ok a n) (hd : p.length < d) : atomX (altX d) (40 :: (p ++ 41 :: r)) = .ok a (p.length + 2) := by
  obtain ⟨ps, cur, rfl, hp⟩ := whole_go ha
  obtain ⟨d, rfl⟩ : ∃ d', d = d' + 1 := ⟨d - 1, by omega⟩
  have h1 : altX (d + 1) (p ++ 41 :: r) = .ok (altEnd (ps ++ [.mk 2 [] cur])) p.length := by
    rw [altX_go, hp d _ (by omega) rfl, goF_stop (by rfl)]; rfl
  unfold atomX
  rw [if_neg (by simp [signX, kindX]), if_pos (by rfl)]
  simp only [List.drop_succ_cons, List.drop_zero]
  unfold groupX
  rw [h1]
  simp only
  rw [List.drop_left, if_pos (by rfl)]
  simp only [Pr.shift]
  rw [show 1 + (p.length + 1) = p.length + 2 by omega]
theorem group_piece {p r : List UInt8} {a : Tr} {n d : Nat} (ha : wholeX p = .ok a n) (hd : p.length < d) : pieceX (altX d) (40 :: (p ++ 41 :: r)) = .ok (signsX a r).1 (p.length + 2 + (signsX a r).2) := by
  unfold pieceX
  rw [group_atom ha hd]
  simp only
  have : List.drop (p.length + 2) (40 :: (p ++ 41 :: r)) = r := by
    rw [List.drop_succ_cons, List.drop_append]; simp
  rw [this]
theorem join_cat {p q : List UInt8} {a b : Tr} {n m : Nat} (ha : wholeX p = .ok a n) (hb : wholeX q = .ok b m) : wholeX (40 :: (p ++ 41 :: 40 :: (q ++ [41]))) = .ok (.mk 2 [] [a, b]) (40 :: (p ++ 41 :: 40 :: (q ++ [41]))).length := by
  refine whole_of_go (ps := [.mk 2 [] [a, b]]) ?_
  have hl : (40 :: (p ++ 41 :: 40 :: (q ++ [41]))).length = p.length + 2 + (q.length + 2) := by simp; omega
  have h1 := group_piece (r := 40 :: (q ++ [41])) (d := (40 :: (p ++ 41 :: 40 :: (q ++ [41]))).length) ha (by omega)
  have h2 := group_piece (r := []) (d := (40 :: (p ++ 41 :: 40 :: (q ++ [41]))).length) hb (by omega)
  have hs : signsX a (40 :: (q ++ [41])) = (a, 0) := signsX_none (by simp [signX, kindX]) a
  have hs2 : signsX b [] = (b, 0) := rfl
  rw [hs] at h1
  rw [hs2] at h2
  rw [goF_more (by rfl) (by rfl) h1]
  have hd1 : List.drop (p.length + 2 + 0) (40 :: (p ++ 41 :: 40 :: (q ++ [41]))) = 40 :: (q ++ [41]) := by
    rw [Nat.add_zero, List.drop_succ_cons, List.drop_append]; simp
  rw [hd1, goF_more (by rfl) (by rfl) h2]
  have hd2 : List.drop (q.length + 2 + 0) (40 :: (q ++ [41])) = [] := by
    rw [Nat.add_zero, List.drop_succ_cons, List.drop_append]; simp
  rw [hd2, goF_nil]
  simp only [Gl.pre, hl]
  simp
theorem join_star {p : List UInt8} {a : Tr} {n : Nat} (ha : wholeX p = .ok a n) : wholeX (40 :: (p ++ [41, 42])) = .ok (.mk 2 [] [.mk 4 [] [a]]) (40 :: (p ++ [41, 42])).length := by
  refine whole_of_go (ps := [.mk 2 [] [.mk 4 [] [a]]]) ?_
  have hl : (40 :: (p ++ [41, 42])).length = p.length + 3 := by simp
  have h1 := group_piece (r := [42]) (d := (40 :: (p ++ [41, 42])).length) ha (by omega)
  have hs : signsX a [42] = (.mk 4 [] [a], 1) := by simp [signsX, kindX]
  rw [hs] at h1
  rw [goF_more (by rfl) (by rfl) h1]
  have hd1 : List.drop (p.length + 2 + 1) (40 :: (p ++ [41, 42])) = [] := by
    rw [List.drop_succ_cons, List.drop_append]; simp
  rw [hd1, goF_nil]
  simp only [Gl.pre, hl]
  simp

theorem KidsAt.app {w : World} {X : Nat → Prop} {d : Nat} {ts us : List Tr} {c e : List Value} (h : KidsAt w X d ts c) (k : KidsAt w X d us e) : KidsAt w X d (ts ++ us) (c ++ e) := by
  have hl := h.1
  have kl := k.1
  refine ⟨by simp [hl, kl]; omega, fun i t hi => ?_⟩
  rcases Nat.lt_or_ge i ts.length with h1 | h1
  · rw [List.getElem?_append_left h1] at hi
    obtain ⟨a, b, c', e0, e1, e2, ht'⟩ := h.2 i t hi
    refine ⟨a, b, c', ?_, ?_, ?_, ht'⟩
    · rw [List.getElem?_append_left (by omega)]; exact e0
    · rw [List.getElem?_append_left (by omega)]; exact e1
    · rw [List.getElem?_append_left (by omega)]; exact e2
  · rw [List.getElem?_append_right h1] at hi
    obtain ⟨a, b, c', e0, e1, e2, ht'⟩ := k.2 _ t hi
    refine ⟨a, b, c', ?_, ?_, ?_, ht'⟩
    · rw [List.getElem?_append_right (by omega), show i * 3 - c.length = (i - ts.length) * 3 by omega]; exact e0
    · rw [List.getElem?_append_right (by omega), show i * 3 + 1 - c.length = (i - ts.length) * 3 + 1 by omega]; exact e1
    · rw [List.getElem?_append_right (by omega), show i * 3 + 2 - c.length = (i - ts.length) * 3 + 2 by omega]; exact e2
/-- The cells of a node's kids. -/
theorem kids_cells {w : World} {X : Nat → Prop} {d b : Nat} : ∀ (kids : List Tr) (o : Nat), (∀ i t, kids[i]? = some t → ∃ v0 v1 v2, w.cell? ⟨b, o + i * 3, none⟩ = some v0 ∧ w.cell? ⟨b, o + i * 3 + 1, none⟩ = some v1 ∧ w.cell? ⟨b, o + i * 3 + 2, none⟩ = some v2 ∧ TreeAt w X d t [v0, v1, v2]) →
    ∃ news, KidsAt w X d kids news ∧ (∀ j u, news[j]? = some u → w.cell? ⟨b, o + j, none⟩ = some u) ∧ ∀ u ∈ news, u.oneCell' = true
  | [], o, h => ⟨[], KidsAt.nil _ _ _, fun j u hu => by simp at hu, fun u hu => by simp at hu⟩
  | t :: ks, o, h => by
    obtain ⟨v0, v1, v2, c0, c1, c2, ht⟩ := h 0 t rfl
    obtain ⟨news, hk, hc, h1⟩ := kids_cells ks (o + 3) fun i t' hi => by
      obtain ⟨u0, u1, u2, e0, e1, e2, ht'⟩ := h (i + 1) t' (by simpa using hi)
      refine ⟨u0, u1, u2, ?_, ?_, ?_, ht'⟩
      · rw [show o + 3 + i * 3 = o + (i + 1) * 3 by omega]; exact e0
      · rw [show o + 3 + i * 3 = o + (i + 1) * 3 by omega]; exact e1
      · rw [show o + 3 + i * 3 = o + (i + 1) * 3 by omega]; exact e2
    obtain ⟨k, A, n, c, A', n', c', s0, s1, s2⟩ := ht.shape
    refine ⟨[v0, v1, v2] ++ news, ?_, ?_, ?_⟩
    · exact KidsAt.app (KidsAt.snoc (ts := []) (cells := []) (KidsAt.nil _ _ _) ht) hk
    · intro j u hu
      match j, hu with
      | 0, hu => simp at hu; subst hu; simpa using c0
      | 1, hu => simp at hu; subst hu; simpa using c1
      | 2, hu => simp at hu; subst hu; simpa using c2
      | j + 3, hu =>
        have := hc j u (by simpa using hu)
        rw [show o + (j + 3) = o + 3 + j by omega]; exact this
    · intro u hu
      simp only [List.cons_append, List.nil_append, List.mem_cons] at hu
      rcases hu with rfl | rfl | rfl | hu
      · rw [s0]; rfl
      · rw [s1]; rfl
      · rw [s2]; rfl
      · exact h1 u hu
end Go.Proofs.Ytjnhmcgjeljcmaa
