/- Plain facts: a report of names and verdicts as lines; read back; cut off; with lines behind. No program. -/
import Derived.Test.YtplenagncmhhoaaDoorNmPb
namespace Go.Proofs.YtplenagncmhhoaaDoor
abbrev Ln := List UInt8
/-- What is known of names: how they are written, and which written one is read as which. -/
structure NmOk (ok : Ln → Bool) (wr : Ln → Ln) (rd : Ln → Option Ln) : Prop where
  back : ∀ n, ok n = true → rd (wr n) = some n
  only : ∀ l n, rd l = some n → ok n = true ∧ wr n = l
def wdL : List Ln := [[], [80, 65, 83, 83], [70, 65, 73, 76], [88, 80, 65, 83, 83], [88, 70, 65, 73, 76], [85, 78, 82, 69, 83, 79, 76, 86, 69, 68], [85, 78, 84, 69, 83, 84, 69, 68], [85, 78, 83, 85, 80, 80, 79, 82, 84, 69, 68]]
def wd (v : Nat) : Ln := wdL.getD v []
def vpL : List Ln → Nat → Ln → Nat
  | [], _, _ => 0
  | w :: ws, i, l => if w = l then i else vpL ws (i + 1) l
def vp (l : Ln) : Nat := vpL wdL 0 l
theorem vpL_some : ∀ (ws : List Ln) (i : Nat) (l : Ln), vpL ws i l ≠ 0 → i ≤ vpL ws i l ∧ ws[vpL ws i l - i]? = some l
  | [], i, l, h => absurd rfl h
  | w :: ws, i, l, h => by
    unfold vpL at h ⊢
    by_cases e : w = l
    · rw [if_pos e] at h ⊢
      exact ⟨Nat.le_refl _, by simp [e]⟩
    · rw [if_neg e] at h ⊢
      obtain ⟨h1, h2⟩ := vpL_some ws (i + 1) l h
      refine ⟨by omega, ?_⟩
      rw [show vpL ws (i + 1) l - i = (vpL ws (i + 1) l - (i + 1)) + 1 by omega, List.getElem?_cons_succ]
      exact h2
theorem vp_wd : ∀ v, 1 ≤ v → v ≤ 7 → vp (wd v) = v := by
  intro v h1 h2
  rcases (by omega : v = 1 ∨ v = 2 ∨ v = 3 ∨ v = 4 ∨ v = 5 ∨ v = 6 ∨ v = 7) with rfl | rfl | rfl | rfl | rfl | rfl | rfl <;> decide
theorem vp_only {l : Ln} (h : vp l ≠ 0) : 1 ≤ vp l ∧ vp l ≤ 7 ∧ l = wd (vp l) := by
  obtain ⟨h1, h2⟩ := vpL_some wdL 0 l h
  rw [Nat.sub_zero] at h2
  have h3 : vp l < wdL.length := (List.getElem?_eq_some_iff.1 h2).1
  refine ⟨Nat.pos_of_ne_zero h, by simp [wdL] at h3; omega, ?_⟩
  unfold wd
  rw [List.getD_eq_getElem?_getD]
  show l = (wdL[vp l]?).getD []
  rw [show wdL[vp l]? = some l from h2]; rfl
theorem wd_colon (v : Nat) : (58 : UInt8) ∉ wd v := by
  by_cases h : v < 8
  · rcases (by omega : v = 0 ∨ v = 1 ∨ v = 2 ∨ v = 3 ∨ v = 4 ∨ v = 5 ∨ v = 6 ∨ v = 7) with rfl | rfl | rfl | rfl | rfl | rfl | rfl | rfl <;> decide
  · unfold wd
    rw [List.getD_eq_getElem?_getD, List.getElem?_eq_none (by simp [wdL]; omega)]; simp
theorem wd_head {v : Nat} {c : UInt8} {l : Ln} (h : wd v = c :: l) : c = 80 ∨ c = 70 ∨ c = 88 ∨ c = 85 := by
  by_cases h8 : v < 8
  · rcases (by omega : v = 0 ∨ v = 1 ∨ v = 2 ∨ v = 3 ∨ v = 4 ∨ v = 5 ∨ v = 6 ∨ v = 7) with rfl | rfl | rfl | rfl | rfl | rfl | rfl | rfl <;> simp [wd, wdL] at h <;> simp [← h.1]
  · unfold wd at h
    rw [List.getD_eq_getElem?_getD, List.getElem?_eq_none (by simp [wdL]; omega)] at h; simp at h
/-- Where ': ' stands first: what is ahead of it and behind it. -/
def cutC : Ln → Option (Ln × Ln)
  | 58 :: 32 :: r => some ([], r)
  | c :: r => (cutC r).map fun p => (c :: p.1, p.2)
  | [] => none
theorem cutC_word : ∀ (a b : Ln), (58 : UInt8) ∉ a → cutC (a ++ 58 :: 32 :: b) = some (a, b)
  | [], b, _ => rfl
  | c :: a, b, h => by
    have hc : c ≠ 58 := fun e => h (by simp [e])
    have ih := cutC_word a b (fun e => h (List.mem_cons_of_mem _ e))
    rw [List.cons_append]
    unfold cutC
    split
    · rename_i heq; injection heq with h1 _; exact absurd h1 hc
    · rename_i heq; injection heq with h1 h2; subst h1 h2; rw [ih]; rfl
    · rename_i heq; cases heq
theorem cutC_pre : ∀ (l a b : Ln), cutC l = some (a, b) → l = a ++ 58 :: 32 :: b
  | [], a, b, h => by simp [cutC] at h
  | c :: l, a, b, h => by
    unfold cutC at h
    split at h
    · rename_i heq; injection h with h; injection h with h1 h2; subst h1 h2; rw [heq]; rfl
    · rename_i heq
      injection heq with h1 h2
      subst h1 h2
      cases hc : cutC l with
      | none => rw [hc] at h; simp at h
      | some p =>
        rw [hc] at h
        simp at h
        obtain ⟨rfl, rfl⟩ := h
        rw [cutC_pre l p.1 p.2 (by rw [hc])]; rfl
    · simp at h
section
variable (ok : Ln → Bool) (wr : Ln → Ln) (rd : Ln → Option Ln) (dg : Nat → Ln)
/-- A line of these words and a name. -/
def namedP (w l : Ln) : Option Ln := if w.isPrefixOf l then rd (l.drop w.length) else none
/-- A result's line. -/
def resP (l : Ln) : Option (Ln × Nat) := match cutC l with
  | none => none
  | some (a, b) => if vp a = 0 then none else (rd b).map fun n => (n, vp a)
def ressP : List Ln → List (Ln × Nat) × List Ln
  | [] => ([], [])
  | l :: r => match resP rd l with
    | none => ([], l :: r)
    | some x => (x :: (ressP r).1, (ressP r).2)
abbrev Pt := Ln × List (Ln × Nat)
def gw : Ln := [103, 114, 111, 117, 112, 32]
def sw : Ln := [84, 101, 115, 116, 32, 114, 117, 110, 32, 111, 102, 32]
def bw : Ln := [66, 111, 97, 114, 100, 32]
def partsP : Nat → List Ln → List Pt × List Ln
  | 0, ls => ([], ls)
  | _ + 1, [] => ([], [])
  | f + 1, l :: r => match namedP rd gw l with
    | none => ([], l :: r)
    | some g => ((g, (ressP rd r).1) :: (partsP f (ressP rd r).2).1, (partsP f (ressP rd r).2).2)
def cnt (ps : List Pt) (v : Nat) : Nat := (ps.map fun p => (p.2.filter fun r => r.2 == v).length).sum
def cntV (ps : List Pt) (v : Nat) : List Ln := if cnt ps v = 0 then [] else [35 :: 32 :: (wd v ++ 32 :: dg (cnt ps v))]
def endW : Ln := [35, 32, 101, 110, 100]
def tailL (ps : List Pt) : List Ln := (cntV dg ps 1 ++ cntV dg ps 2 ++ cntV dg ps 3 ++ cntV dg ps 4 ++ cntV dg ps 5 ++ cntV dg ps 6 ++ cntV dg ps 7) ++ [endW]
/-- How many of the wanted lines stand there, are they all there, and what is behind. -/
def tk : List Ln → List Ln → Nat × Bool × List Ln
  | [], ls => (0, true, ls)
  | _ :: _, [] => (0, false, [])
  | w :: ws, l :: ls => if l = w then ((tk ws ls).1 + 1, (tk ws ls).2.1, (tk ws ls).2.2) else (0, false, l :: ls)
structure Sm where
  suite : Ln
  board : Ln
  parts : List Pt
/-- The sum of lines, and of what is behind them; or the line that can't be taken. -/
def sumP (ls : List Ln) (t : Ln) : Option Sm × Nat := match ls with
  | [] => (none, 0)
  | l0 :: r0 => match namedP rd sw l0 with
    | none => (none, 0)
    | some su => match r0 with
      | [] => (none, 1)
      | l1 :: r1 => match namedP rd bw l1 with
        | none => (none, 1)
        | some bo =>
          let q := partsP rd (r1.length + 1) r1
          let k := tk (tailL dg q.1) q.2
          if k.2.1 = true ∧ k.2.2 = [] ∧ t = [] then (some ⟨su, bo, q.1⟩, 0) else (none, 2 + (r1.length - q.2.length) + k.1)
def resL (r : Ln × Nat) : Ln := wd r.2 ++ 58 :: 32 :: wr r.1
def partL (p : Pt) : List Ln := (gw ++ wr p.1) :: p.2.map (resL wr)
def partsL (ps : List Pt) : List Ln := (ps.map (partL wr)).flatten
def sumL (s : Sm) : List Ln := (sw ++ wr s.suite) :: (bw ++ wr s.board) :: (partsL wr s.parts ++ tailL dg s.parts)
def okR (r : Ln × Nat) : Prop := ok r.1 = true ∧ 1 ≤ r.2 ∧ r.2 ≤ 7
def okP (p : Pt) : Prop := ok p.1 = true ∧ ∀ r, r ∈ p.2 → okR ok r
def okS (s : Sm) : Prop := ok s.suite = true ∧ ok s.board = true ∧ ∀ p, p ∈ s.parts → okP ok p
variable {ok wr rd dg}
theorem named_yes (h : NmOk ok wr rd) (w n : Ln) (hn : ok n = true) : namedP rd w (w ++ wr n) = some n := by
  unfold namedP
  rw [if_pos (by simp [List.isPrefixOf_iff_prefix]), List.drop_left, h.back n hn]
theorem named_no {w l : Ln} {a b : UInt8} {w' l' : Ln} (hw : w = a :: w') (hl : l = b :: l') (h : a ≠ b) : namedP rd w l = none := by
  unfold namedP
  subst hw hl
  rw [if_neg]
  simp [h]
theorem res_yes (h : NmOk ok wr rd) {r : Ln × Nat} (hr : okR ok r) : resP rd (resL wr r) = some r := by
  obtain ⟨h1, h2, h3⟩ := hr
  unfold resP resL
  rw [cutC_word _ _ (wd_colon _)]
  simp only
  rw [vp_wd _ h2 h3, if_neg (by omega), h.back _ h1]; rfl
theorem res_no {l l' : Ln} {c : UInt8} (hl : l = c :: l') (hc : c ≠ 80 ∧ c ≠ 70 ∧ c ≠ 88 ∧ c ≠ 85) : resP rd l = none := by
  unfold resP
  split
  · rfl
  · rename_i a b hcut
    rw [if_pos]
    by_cases hv : vp a = 0
    · exact hv
    · obtain ⟨_, _, e⟩ := vp_only hv
      have := cutC_pre _ _ _ hcut
      match a, e with
      | [], _ => exact absurd (by decide) hv
      | x :: a, e =>
        rw [hl] at this
        injection this with e1 _
        subst e1
        rcases wd_head e.symm with rfl | rfl | rfl | rfl
        · exact absurd rfl hc.1
        · exact absurd rfl hc.2.1
        · exact absurd rfl hc.2.2.1
        · exact absurd rfl hc.2.2.2
theorem ress_app (h : NmOk ok wr rd) : ∀ (rs : List (Ln × Nat)) (rest : List Ln), (∀ r, r ∈ rs → okR ok r) → (∀ l, rest.head? = some l → resP rd l = none) → ressP rd (rs.map (resL wr) ++ rest) = (rs, rest)
  | [], [], _, _ => rfl
  | [], l :: rest, _, hr => by
    simp only [List.map_nil, List.nil_append]
    unfold ressP
    rw [hr l rfl]
  | r :: rs, rest, hk, hr => by
    have ih := ress_app h rs rest (fun x hx => hk x (List.mem_cons_of_mem _ hx)) hr
    simp only [List.map_cons, List.cons_append]
    unfold ressP
    rw [res_yes h (hk r (List.mem_cons_self ..))]
    simp only [ih]
theorem partsL_head {ps : List Pt} {l : Ln} (h : (partsL wr ps).head? = some l) : ∃ l', l = 103 :: l' := by
  match ps, h with
  | [], h => simp [partsL] at h
  | p :: ps, h =>
    simp [partsL, partL, gw] at h
    exact ⟨_, h.symm⟩
theorem tail_head (ps : List Pt) : ∃ l' r, tailL dg ps = (35 :: l') :: r := by
  have key : ∀ (xs : List Ln), (∀ x, x ∈ xs → ∃ l', x = 35 :: l') → ∃ l' r, xs ++ [endW] = (35 :: l') :: r := by
    intro xs hx
    match xs, hx with
    | [], _ => exact ⟨_, _, rfl⟩
    | x :: xs, hx =>
      obtain ⟨l', rfl⟩ := hx x (List.mem_cons_self ..)
      exact ⟨l', xs ++ [endW], rfl⟩
  have one : ∀ v x, x ∈ cntV dg ps v → ∃ l', x = 35 :: l' := by
    intro v x hx
    unfold cntV at hx
    split at hx
    · simp at hx
    · simp at hx; exact ⟨_, hx⟩
  refine key _ fun x hx => ?_
  simp only [List.mem_append] at hx
  rcases hx with (((((hx | hx) | hx) | hx) | hx) | hx) | hx <;> exact one _ x hx
/-- Lines at which parts end. -/
def Stops (rd : Ln → Option Ln) (rest : List Ln) : Prop := ∀ l, rest.head? = some l → resP rd l = none ∧ namedP rd gw l = none
theorem stops_tail (ps : List Pt) (more : List Ln) : Stops rd (tailL dg ps ++ more) := by
  obtain ⟨l', r, e⟩ := tail_head (dg := dg) ps
  intro l hl
  rw [e] at hl
  simp at hl
  subst hl
  exact ⟨res_no rfl (by decide), named_no rfl rfl (by decide)⟩
theorem parts_app (h : NmOk ok wr rd) : ∀ (ps : List Pt) (f : Nat) (rest : List Ln), ps.length < f → (∀ p, p ∈ ps → okP ok p) → Stops rd rest → partsP rd f (partsL wr ps ++ rest) = (ps, rest)
  | _, 0, _, hf, _, _ => by omega
  | [], f + 1, [], _, _, _ => rfl
  | [], f + 1, l :: rest, _, _, hs => by
    show partsP rd (f + 1) (l :: rest) = _
    unfold partsP
    rw [(hs l rfl).2]
  | p :: ps, f + 1, rest, hf, hk, hs => by
    have hp := hk p (List.mem_cons_self ..)
    have ih := parts_app h ps f rest (by simp at hf; omega) (fun x hx => hk x (List.mem_cons_of_mem _ hx)) hs
    have e : partsL wr (p :: ps) ++ rest = (gw ++ wr p.1) :: (p.2.map (resL wr) ++ (partsL wr ps ++ rest)) := by simp [partsL, partL]
    rw [e]
    unfold partsP
    rw [named_yes h gw p.1 hp.1]
    have hr := ress_app h p.2 (partsL wr ps ++ rest) hp.2 (fun l hl => by
      cases hq : partsL wr ps with
      | nil => rw [hq] at hl; exact (hs l (by simpa using hl)).1
      | cons a b =>
        rw [hq] at hl
        simp at hl
        subst hl
        obtain ⟨l', rfl⟩ := partsL_head (wr := wr) (ps := ps) (l := a) (by rw [hq]; rfl)
        exact res_no rfl (by decide))
    simp only [hr, ih]
theorem tk_app : ∀ (ws more : List Ln), tk ws (ws ++ more) = (ws.length, true, more)
  | [], more => rfl
  | w :: ws, more => by
    show tk (w :: ws) (w :: (ws ++ more)) = _
    unfold tk
    rw [if_pos rfl, tk_app ws more]; rfl
theorem tk_take : ∀ (ws : List Ln) (j : Nat), j < ws.length → tk ws (ws.take j) = (j, false, [])
  | [], j, h => by simp at h
  | w :: ws, 0, _ => rfl
  | w :: ws, j + 1, h => by
    show tk (w :: ws) (w :: ws.take j) = _
    unfold tk
    rw [if_pos rfl, tk_take ws j (by simpa using h)]
theorem parts_len (ps : List Pt) : ps.length ≤ (partsL wr ps).length := by
  induction ps with
  | nil => simp
  | cons p ps ih => simp [partsL, partL] at ih ⊢; omega
/-- A sum's lines are read as it; with lines behind they are refused there. -/
theorem sum_back (h : NmOk ok wr rd) {s : Sm} (hs : okS ok s) : sumP rd dg (sumL wr dg s) [] = (some s, 0) := by
  obtain ⟨h1, h2, h3⟩ := hs
  have hp := parts_app (rd := rd) h s.parts ((partsL wr s.parts ++ tailL dg s.parts).length + 1) (tailL dg s.parts) (by
    have : s.parts.length ≤ (partsL wr s.parts).length := parts_len s.parts
    simp; omega) h3 (by have := stops_tail (rd := rd) (dg := dg) s.parts []; simpa using this)
  have ht := tk_app (tailL dg s.parts) []
  rw [List.append_nil] at ht
  unfold sumP sumL
  simp only [named_yes h sw s.suite h1, named_yes h bw s.board h2, hp, ht]
  rw [if_pos (by simp)]
theorem sum_more (h : NmOk ok wr rd) {s : Sm} (hs : okS ok s) {more : List Ln} (t : Ln) (hm : more ≠ [] ∨ t ≠ []) : sumP rd dg (sumL wr dg s ++ more) t = (none, (sumL wr dg s).length) := by
  obtain ⟨h1, h2, h3⟩ := hs
  have hp := parts_app (rd := rd) h s.parts ((partsL wr s.parts ++ (tailL dg s.parts ++ more)).length + 1) (tailL dg s.parts ++ more) (by
    have : s.parts.length ≤ (partsL wr s.parts).length := parts_len s.parts
    simp; omega) h3 (stops_tail s.parts more)
  unfold sumP sumL
  simp only [List.cons_append, List.append_assoc, named_yes h sw s.suite h1, named_yes h bw s.board h2, hp, tk_app]
  rw [if_neg (by
    rcases hm with hm | hm
    · exact fun h => hm h.2.1
    · exact fun h => hm h.2.2)]
  congr 1
  simp; omega
/-- Lines of groups and results alone. -/
def GR (rd : Ln → Option Ln) (ls : List Ln) : Prop := ∀ l, l ∈ ls → (∃ n, namedP rd gw l = some n) ∨ (∃ r, resP rd l = some r)
theorem ress_rest : ∀ (ls : List Ln), (ressP rd ls).2.length ≤ ls.length ∧ (∀ l, l ∈ (ressP rd ls).2 → l ∈ ls) ∧ (∀ l, (ressP rd ls).2.head? = some l → resP rd l = none)
  | [] => ⟨Nat.le_refl _, fun _ h => h, fun l h => by simp [ressP] at h⟩
  | l :: r => by
    unfold ressP
    cases hr : resP rd l with
    | none => exact ⟨Nat.le_refl _, fun _ h => h, fun l' h => by simp at h; subst h; exact hr⟩
    | some x =>
      obtain ⟨a, b, c⟩ := ress_rest r
      exact ⟨by simp only [List.length_cons]; omega, fun l' h => List.mem_cons_of_mem _ (b l' h), c⟩
theorem parts_eat : ∀ (f : Nat) (ls : List Ln), ls.length < f → GR rd ls → (∀ l, ls.head? = some l → ∃ n, namedP rd gw l = some n) → (partsP rd f ls).2 = []
  | 0, _, h, _, _ => by omega
  | f + 1, [], _, _, _ => rfl
  | f + 1, l :: r, hf, hg, hh => by
    obtain ⟨n, hn⟩ := hh l rfl
    unfold partsP
    rw [hn]
    obtain ⟨a, b, c⟩ := ress_rest (rd := rd) r
    refine parts_eat f (ressP rd r).2 (by simp at hf; omega) (fun l' hl' => hg l' (List.mem_cons_of_mem _ (b l' hl'))) fun l' hl' => ?_
    have hm : l' ∈ (ressP rd r).2 := List.mem_of_mem_head? hl'
    rcases hg l' (List.mem_cons_of_mem _ (b l' hm)) with h | ⟨x, hx⟩
    · exact h
    · rw [c l' hl'] at hx; cases hx
theorem partsL_GR (h : NmOk ok wr rd) {ps : List Pt} (hk : ∀ p, p ∈ ps → okP ok p) : GR rd (partsL wr ps) := by
  intro l hl
  unfold partsL at hl
  obtain ⟨q, hq, hl⟩ := List.mem_flatten.1 hl
  obtain ⟨p, hp, rfl⟩ := List.mem_map.1 hq
  rcases List.mem_cons.1 hl with rfl | hl
  · exact .inl ⟨_, named_yes h gw p.1 (hk p hp).1⟩
  · obtain ⟨r, hr, rfl⟩ := List.mem_map.1 hl
    exact .inr ⟨_, res_yes h ((hk p hp).2 r hr)⟩
theorem partsL_first (h : NmOk ok wr rd) {ps : List Pt} (hk : ∀ p, p ∈ ps → okP ok p) {l : Ln} (hl : (partsL wr ps).head? = some l) : ∃ n, namedP rd gw l = some n := by
  match ps, hk, hl with
  | [], _, hl => simp [partsL] at hl
  | p :: ps, hk, hl =>
    simp [partsL, partL] at hl
    exact ⟨_, by rw [← hl]; exact named_yes h gw p.1 (hk p (List.mem_cons_self ..)).1⟩
theorem tk_none (ps : List Pt) : tk (tailL dg ps) [] = (0, false, []) := by
  obtain ⟨l', r, e⟩ := tail_head (dg := dg) ps
  rw [e]; rfl
/-- Cut off ahead of its last line's end a sum's text is refused at the line that isn't whole. -/
theorem sum_cut (h : NmOk ok wr rd) {s : Sm} (hs : okS ok s) {m : Nat} (hm : m < (sumL wr dg s).length) (t : Ln) : sumP rd dg ((sumL wr dg s).take m) t = (none, m) := by
  obtain ⟨h1, h2, h3⟩ := hs
  match m, hm with
  | 0, _ => rfl
  | 1, _ =>
    unfold sumP sumL
    simp only [List.take_succ_cons, List.take_zero, named_yes h sw s.suite h1]
  | m + 2, hm =>
    unfold sumL at hm ⊢
    simp only [List.take_succ_cons]
    unfold sumP
    simp only [named_yes h sw s.suite h1, named_yes h bw s.board h2]
    by_cases hc : m ≤ (partsL wr s.parts).length
    · rw [List.take_append_of_le_length hc]
      have he := parts_eat (rd := rd) (((partsL wr s.parts).take m).length + 1) ((partsL wr s.parts).take m) (by omega) (fun l hl => partsL_GR h h3 l (List.mem_of_mem_take hl)) (fun l hl => by
        cases m with
        | zero => simp at hl
        | succ m =>
          refine partsL_first h h3 (l := l) ?_
          cases hq : partsL wr s.parts with
          | nil => rw [hq] at hl; simp at hl
          | cons a b => rw [hq] at hl; simpa using hl)
      rw [he, tk_none]
      simp
      omega
    · obtain ⟨j, rfl⟩ : ∃ j, m = (partsL wr s.parts).length + j := ⟨m - (partsL wr s.parts).length, by omega⟩
      rw [List.take_length_add_append]
      have hj : j < (tailL dg s.parts).length := by simp at hm; omega
      have hp := parts_app (rd := rd) h s.parts ((partsL wr s.parts ++ (tailL dg s.parts).take j).length + 1) ((tailL dg s.parts).take j) (by
        have := parts_len (wr := wr) s.parts
        simp; omega) h3 (by
        obtain ⟨l', r, e⟩ := tail_head (dg := dg) s.parts
        intro l hl
        rw [e] at hl
        cases j with
        | zero => simp at hl
        | succ j =>
          simp at hl
          subst hl
          exact ⟨res_no rfl (by decide), named_no rfl rfl (by decide)⟩)
      rw [hp]
      simp only
      rw [tk_take _ _ hj]
      simp
      omega
/-- Lines as bytes. -/
def flat (ls : List Ln) : Ln := (ls.map fun l => l ++ [10]).flatten
/-- A text's whole lines, and what is behind them. -/
def linesOf : Ln → Ln → List Ln × Ln
  | cur, [] => ([], cur)
  | cur, c :: r => if c = 10 then (cur :: (linesOf [] r).1, (linesOf [] r).2) else linesOf (cur ++ [c]) r
theorem lines_cons (cur : Ln) (c : UInt8) (r : Ln) : linesOf cur (c :: r) = if c = 10 then (cur :: (linesOf [] r).1, (linesOf [] r).2) else linesOf (cur ++ [c]) r := rfl
theorem lines_run : ∀ (l cur rest : Ln), (10 : UInt8) ∉ l → linesOf cur (l ++ 10 :: rest) = ((cur ++ l) :: (linesOf [] rest).1, (linesOf [] rest).2)
  | [], cur, rest, _ => by simp [linesOf]
  | c :: l, cur, rest, h => by
    have hc : c ≠ 10 := fun e => h (by simp [e])
    rw [List.cons_append, lines_cons, if_neg hc, lines_run l _ rest (fun e => h (List.mem_cons_of_mem _ e))]
    simp
theorem lines_end : ∀ (t cur : Ln), (10 : UInt8) ∉ t → linesOf cur t = ([], cur ++ t)
  | [], cur, _ => by simp [linesOf]
  | c :: l, cur, h => by
    have hc : c ≠ 10 := fun e => h (by simp [e])
    rw [lines_cons, if_neg hc, lines_end l _ (fun e => h (List.mem_cons_of_mem _ e))]
    simp
theorem lines_flat : ∀ (ls : List Ln) (rest : Ln), (∀ l, l ∈ ls → (10 : UInt8) ∉ l) → linesOf [] (flat ls ++ rest) = (ls ++ (linesOf [] rest).1, (linesOf [] rest).2)
  | [], rest, _ => by simp [flat]
  | l :: ls, rest, h => by
    have e : flat (l :: ls) ++ rest = l ++ 10 :: (flat ls ++ rest) := by simp [flat]
    rw [e, lines_run l [] _ (h l (List.mem_cons_self ..)), lines_flat ls rest fun x hx => h x (List.mem_cons_of_mem _ hx)]
    simp
/-- Totals of two lists of parts. -/
theorem cnt_app (ps qs : List Pt) (v : Nat) : cnt (ps ++ qs) v = cnt ps v + cnt qs v := by simp [cnt]
theorem flat_app (a b : List Ln) : flat (a ++ b) = flat a ++ flat b := by simp [flat]
theorem flat_len (ls : List Ln) : (flat ls).length = (ls.map List.length).sum + ls.length := by
  induction ls with
  | nil => rfl
  | cons l ls ih => simp [flat] at ih ⊢; omega
/-- A text cut off is some whole lines and the beginning of the next one. -/
theorem flat_cut : ∀ (ls : List Ln) (i : Nat), i < (flat ls).length → ∃ m t, m < ls.length ∧ (flat ls).take i = flat (ls.take m) ++ t ∧ (∀ l, ls[m]? = some l → ∃ u, l = t ++ u)
  | [], i, h => by simp [flat] at h
  | l :: ls, i, h => by
    have e : flat (l :: ls) = l ++ 10 :: flat ls := by simp [flat]
    by_cases hi : i ≤ l.length
    · refine ⟨0, l.take i, by simp, ?_, fun l' hl => ?_⟩
      · rw [e, List.take_append_of_le_length hi]; simp [flat]
      · simp at hl; subst hl; exact ⟨l.drop i, (List.take_append_drop i l).symm⟩
    · obtain ⟨j, rfl⟩ : ∃ j, i = l.length + (j + 1) := ⟨i - l.length - 1, by omega⟩
      obtain ⟨m, t, h1, h2, h3⟩ := flat_cut ls j (by rw [e] at h; simp at h; omega)
      refine ⟨m + 1, t, by simp; omega, ?_, fun l' hl => h3 l' (by simpa using hl)⟩
      rw [e, List.take_length_add_append, List.take_succ_cons, h2]
      simp [flat]
/-- How many bytes of a text are 10. -/
theorem flat_count (ls : List Ln) (h : ∀ l, l ∈ ls → (10 : UInt8) ∉ l) : (flat ls).count 10 = ls.length := by
  induction ls with
  | nil => rfl
  | cons l ls ih =>
    have e : flat (l :: ls) = l ++ 10 :: flat ls := by simp [flat]
    rw [e, List.count_append, List.count_cons_self, ih fun x hx => h x (List.mem_cons_of_mem _ hx), List.count_eq_zero.2 (h l (List.mem_cons_self ..))]
    simp
end
end Go.Proofs.YtplenagncmhhoaaDoor
