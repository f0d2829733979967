/- Plain facts: a pattern's error is no 0. No program. Plain facts: the trees of patterns are right and small. No program. pat.exact: the tree of a text that means itself. -/
import Derived.Test.YtjnhmcgjeljcmaaGp
import Derived.Test.YtjnhmcgjeljcmaaXw
import Derived.Test.YtjnhmcgjeljcmaaOj
import Derived.Test.YtjnhmcgjeljcmaaKm
import Derived.Test.YtjnhmcgjeljcmaaTw
import Derived.Test.YtjnhmcgjeljcmaaBt
import Derived.StillTailTactics
import Derived.BigRegion
import Derived.Maps.AppendAt
import Derived.Deep.MidRow
namespace Go.Proofs.Ytjnhmcgjeljcmaa

theorem gletter_code {l : List UInt8} {c : Int} {o : Nat} (h : letterG l = .err c o) : c = 31 := by
  match l with
  | [] => simp [letterG] at h; omega
  | [x] =>
    by_cases hx : x = 92
    · simp [letterG, hx] at h; omega
    · simp [letterG, hx] at h
  | x :: y :: t =>
    by_cases hx : x = 92
    · simp [letterG, hx] at h
    · simp [letterG, hx] at h
theorem grange_code {l : List UInt8} {c : Int} {o : Nat} (h : rangeP letterG l = .err c o) : c = 31 ∨ c = 32 := by
  unfold rangeP at h
  split at h
  · rename_i c' o' h1
    injection h with h _
    exact Or.inl (h ▸ gletter_code h1)
  · split at h
    · split at h
      · rename_i c' o' h1
        injection h with h _
        exact Or.inl (h ▸ gletter_code h1)
      · split at h
        · injection h with h _
          exact Or.inr h.symm
        · cases h
    · cases h
theorem gitems_code : ∀ (f : Nat) (b : Bool) (l : List UInt8), l.length < f → ∀ c o, itemsP letterG f b l = .err c o → c = 31 ∨ c = 32
  | 0, _, _, h => by omega
  | f + 1, b, l, h => by
    intro c o hi
    unfold itemsP at hi
    split at hi
    · cases hi
    · split at hi
      · rename_i c' o' hr
        injection hi with hi _
        exact hi ▸ grange_code hr
      · rename_i lo hi' n hr
        have hm := rangeP_ok good_letterG hr
        cases hi2 : itemsP letterG f false (l.drop n) with
        | ok rs m => rw [hi2] at hi; simp [Ir.more] at hi
        | err c' o' =>
          rw [hi2] at hi
          simp only [Ir.more] at hi
          injection hi with hi _
          exact hi ▸ gitems_code f false (l.drop n) (by rw [List.length_drop]; omega) c' o' hi2
theorem gclass_code {l : List UInt8} {c : Int} {o : Nat} (h : classP letterG 33 l = .err c o) : c = 31 ∨ c = 32 := by
  unfold classP at h
  split at h
  · split at h
    · cases h
    · rename_i c' o' hi
      injection h with h _
      exact h ▸ gitems_code _ true _ (by omega) c' o' hi
  · split at h
    · cases h
    · rename_i c' o' hi
      injection h with h _
      exact h ▸ gitems_code _ true _ (by omega) c' o' hi
theorem gpiece_code {l : List UInt8} {c : Int} {o : Nat} (h : pieceG l = .err c o) : c = 31 ∨ c = 32 := by
  unfold pieceG at h
  split at h
  · cases h
  · split at h
    · cases h
    · split at h
      · cases hc : classP letterG 33 (l.drop 1) with
        | ok t n => rw [hc] at h; simp [Pr.shift] at h
        | err c' o' =>
          rw [hc] at h
          simp only [Pr.shift] at h
          injection h with h _
          exact h ▸ gclass_code hc
      · split at h
        · cases h
        · rename_i c' o' hl
          injection h with h _
          exact Or.inl (h ▸ gletter_code hl)
theorem gpieces_code : ∀ (f : Nat) (l : List UInt8), l.length < f → ∀ c o, piecesP f l = .err c o → c = 31 ∨ c = 32
  | 0, _, h => by omega
  | f + 1, l, h => by
    intro c o e
    unfold piecesP at e
    split at e
    · cases e
    · split at e
      · rename_i c' o' hp
        injection e with e _
        exact e ▸ gpiece_code hp
      · rename_i t n hp
        have hn := (pieceG_bd l).1 t n hp
        cases hk : piecesP f (l.drop n) with
        | ok ts => rw [hk] at e; simp [Ks.pre] at e
        | err c' o' =>
          rw [hk] at e
          simp only [Ks.pre] at e
          injection e with e _
          exact e ▸ gpieces_code f (l.drop n) (by rw [List.length_drop]; omega) c' o' hk
theorem gpcs_code {l : List UInt8} {c : Int} {o : Nat} (h : piecesF l = .err c o) : c ≠ 0 := by
  rcases gpieces_code _ l (by omega) c o h with h | h <;> omega
end Go.Proofs.Ytjnhmcgjeljcmaa
namespace Go.Proofs.Ytjnhmcgjeljcmaa

theorem map_congr_mem {α β : Type} {f g : α → β} : ∀ {l : List α}, (∀ x, x ∈ l → f x = g x) → l.map f = l.map g
  | [], _ => rfl
  | a :: r, h => by rw [List.map_cons, List.map_cons, h a (List.mem_cons_self ..), map_congr_mem fun x hx => h x (List.mem_cons_of_mem _ hx)]
theorem good_step : ∀ (d : Nat) (t : Tr), GoodT d t → GoodT (d + 1) t ∧ nodesT (d + 1) t = nodesT d t ∧ highT (d + 1) t = highT d t
  | 0, _, h => h.elim
  | d + 1, .mk k rs kids, h => by
    obtain ⟨h1, h2, h3, h4⟩ := h
    refine ⟨⟨h1, h2, h3, fun t ht => (good_step d t (h4 t ht)).1⟩, ?_, ?_⟩
    · show 1 + (kids.map (nodesT (d + 1))).sum = 1 + (kids.map (nodesT d)).sum
      rw [map_congr_mem fun t ht => (good_step d t (h4 t ht)).2.1]
    · show 1 + (kids.map (highT (d + 1))).foldr max 0 = 1 + (kids.map (highT d)).foldr max 0
      rw [map_congr_mem fun t ht => (good_step d t (h4 t ht)).2.2]
theorem good_add (d : Nat) (t : Tr) (h : GoodT d t) : ∀ e, GoodT (d + e) t ∧ nodesT (d + e) t = nodesT d t ∧ highT (d + e) t = highT d t
  | 0 => ⟨h, rfl, rfl⟩
  | e + 1 => by
    obtain ⟨h1, h2, h3⟩ := good_add d t h e
    obtain ⟨k1, k2, k3⟩ := good_step (d + e) t h1
    exact ⟨k1, k2.trans h2, k3.trans h3⟩
def FitT (N H : Nat) (t : Tr) : Prop := ∃ D, GoodT D t ∧ nodesT D t ≤ N ∧ highT D t ≤ H
def FitL (N H : Nat) (ts : List Tr) : Prop := ∃ D, (∀ t, t ∈ ts → GoodT D t ∧ highT D t ≤ H) ∧ (ts.map (nodesT D)).sum ≤ N
theorem FitT.mono {N N' H H' : Nat} {t : Tr} (h : FitT N H t) (h1 : N ≤ N') (h2 : H ≤ H') : FitT N' H' t := by
  obtain ⟨D, a, b, c⟩ := h
  exact ⟨D, a, Nat.le_trans b h1, Nat.le_trans c h2⟩
theorem FitL.mono {N N' H H' : Nat} {ts : List Tr} (h : FitL N H ts) (h1 : N ≤ N') (h2 : H ≤ H') : FitL N' H' ts := by
  obtain ⟨D, a, b⟩ := h
  exact ⟨D, fun t ht => ⟨(a t ht).1, Nat.le_trans (a t ht).2 h2⟩, Nat.le_trans b h1⟩
theorem fitL_nil (H : Nat) : FitL 0 H [] := ⟨0, fun t h => absurd h (by simp), Nat.le_refl _⟩
theorem fitL_app {N n H : Nat} {ts us : List Tr} (h : FitL N H ts) (h' : FitL n H us) : FitL (N + n) H (ts ++ us) := by
  obtain ⟨D, a, b⟩ := h
  obtain ⟨E, a', b'⟩ := h'
  have k1 := fun t ht => good_add D t (a t ht).1 E
  have k2 := fun t ht => good_add E t (a' t ht).1 D
  refine ⟨D + E, fun t ht => ?_, ?_⟩
  · rcases List.mem_append.1 ht with ht | ht
    · exact ⟨(k1 t ht).1, by rw [(k1 t ht).2.2]; exact (a t ht).2⟩
    · rw [Nat.add_comm D E]
      exact ⟨(k2 t ht).1, by rw [(k2 t ht).2.2]; exact (a' t ht).2⟩
  · rw [List.map_append, List.sum_append, map_congr_mem fun t ht => (k1 t ht).2.1, map_congr_mem (f := nodesT (D + E)) (g := nodesT E) fun t ht => by rw [Nat.add_comm D E]; exact (k2 t ht).2.1]
    omega
theorem fitL_one {N H : Nat} {t : Tr} (h : FitT N H t) : FitL N H [t] := by
  obtain ⟨D, a, b, c⟩ := h
  exact ⟨D, fun u hu => by obtain rfl := List.mem_singleton.1 hu; exact ⟨a, c⟩, by simpa using b⟩
theorem foldr_max_bd {l : List Nat} {H : Nat} (h : ∀ x, x ∈ l → x ≤ H) : l.foldr max 0 ≤ H := by
  induction l with
  | nil => exact Nat.zero_le _
  | cons a l ih =>
    rw [List.foldr_cons]
    exact Nat.max_le.2 ⟨h a (List.mem_cons_self ..), ih fun x hx => h x (List.mem_cons_of_mem _ hx)⟩
theorem fit_node {N H : Nat} {k : Int} {rs : List (UInt8 × UInt8)} {ts : List Tr} (h : FitL N H ts) (h1 : 1 ≤ k) (h2 : k ≤ 6) (h3 : 3 < k → ts ≠ []) : FitT (N + 1) (H + 1) (.mk k rs ts) := by
  obtain ⟨D, a, b⟩ := h
  refine ⟨D + 1, ⟨h1, h2, h3, fun t ht => (a t ht).1⟩, ?_, ?_⟩
  · show 1 + (ts.map (nodesT D)).sum ≤ N + 1
    omega
  · show 1 + (ts.map (highT D)).foldr max 0 ≤ H + 1
    have := foldr_max_bd (l := ts.map (highT D)) (H := H) fun x hx => by
      obtain ⟨t, ht, rfl⟩ := List.mem_map.1 hx
      exact (a t ht).2
    omega
theorem fit_set (rs : List (UInt8 × UInt8)) : FitT 1 1 (.mk 1 rs []) := fit_node (fitL_nil 0) (by decide) (by decide) (fun h => absurd h (by decide))
theorem kindX_in {c : UInt8} (h : kindX c ≠ 0) : 1 ≤ kindX c ∧ kindX c ≤ 6 := by
  unfold kindX at h ⊢
  split
  · decide
  · split
    · decide
    · split
      · decide
      · rename_i h1 h2 h3; rw [if_neg h1, if_neg h2, if_neg h3] at h; exact absurd rfl h
theorem fit_signs : ∀ (l : List UInt8) (t : Tr) (N H : Nat), FitT N H t → FitT (N + (signsX t l).2) (H + (signsX t l).2) (signsX t l).1
  | [], _, _, _, h => h
  | c :: l, t, N, H, h => by
    unfold signsX
    by_cases hk : kindX c = 0
    · rw [if_pos hk]; exact h
    · rw [if_neg hk]
      obtain ⟨k1, k2⟩ := kindX_in hk
      have := fit_signs l (.mk (kindX c) [] [t]) (N + 1) (H + 1) (fit_node (fitL_one h) k1 k2 (fun _ => by simp))
      exact this.mono (by simp only; omega) (by simp only; omega)
def AlOk (Al : List UInt8 → Pr) : Prop := ∀ l t n, Al l = .ok t n → FitT (2 * n + 1) (n + 2) t
theorem itemsPr_set {neg : Bool} {m : Nat} {r : Ir} {t : Tr} {n : Nat} (h : itemsPr neg m r = .ok t n) : ∃ rs, t = .mk 1 rs [] := by
  cases r with
  | ok rs k => simp only [itemsPr] at h; injection h with h1 _; exact ⟨_, h1.symm⟩
  | err c o => simp only [itemsPr] at h; cases h
theorem classX_set {l : List UInt8} {t : Tr} {n : Nat} (h : classX l = .ok t n) : ∃ rs, t = .mk 1 rs [] := by
  unfold classX at h
  split at h
  · split at h
    · cases h
    · exact itemsPr_set h
  · split at h
    · cases h
    · exact itemsPr_set h
theorem fit_atom {Al : List UInt8 → Pr} (hA : AlOk Al) {l : List UInt8} {t : Tr} {n : Nat} (h : atomX Al l = .ok t n) : FitT (2 * n) n t := by
  have hb := atomX_bd h
  have hset : ∀ rs, t = .mk 1 rs [] → FitT (2 * n) n t := fun rs e => by subst e; exact (fit_set rs).mono (by omega) hb.1
  unfold atomX at h
  split at h
  · cases h
  · split at h
    · obtain ⟨m, hg, rfl⟩ := shift_ok h
      unfold groupX at hg
      split at hg
      · rename_i u p hal
        split at hg
        · injection hg with e1 e2
          subst e1 e2
          exact (hA _ _ _ hal).mono (by omega) (by omega)
        · cases hg
      · cases hg
    · split at h
      · obtain ⟨m, hg, rfl⟩ := shift_ok h
        obtain ⟨rs, e⟩ := classX_set hg
        exact hset rs e
      · split at h
        · injection h with e1 _; exact hset _ e1.symm
        · split at h
          · injection h with e1 _; exact hset _ e1.symm
          · split at h
            · injection h with e1 _; exact hset _ e1.symm
            · cases h
theorem fit_piece {Al : List UInt8 → Pr} (hA : AlOk Al) {l : List UInt8} {t : Tr} {n : Nat} (h : pieceX Al l = .ok t n) : FitT (2 * n) n t := by
  unfold pieceX at h
  split at h
  · rename_i u m hm
    injection h with e1 e2
    subst e1 e2
    exact (fit_signs (l.drop m) u _ _ (fit_atom hA hm)).mono (by omega) (by omega)
  · cases h
def PsOk (M : Nat) (ps : List Tr) : Prop := ps ≠ [] ∧ ∃ N, FitL N (M + 1) ps ∧ N + ps.length ≤ 2 * M + 2
theorem fit_goL {Al : List UInt8 → Pr} (hA : AlOk Al) : ∀ (f : Nat) (cur : List Tr) (l : List UInt8) (m : Nat), FitL (2 * m) m cur → ∀ ps n, goL Al f cur l = .ok ps n → PsOk (m + n) ps
  | 0, _, _, _, _, _, _, h => by cases h
  | f + 1, cur, l, m, hc, ps, n, h => by
    have hcat : FitT (2 * m + 1) (m + 1) (.mk 2 [] cur) := fit_node hc (by decide) (by decide) (fun h => absurd h (by decide))
    unfold goL at h
    split at h
    · injection h with e1 e2
      subst e1 e2
      exact ⟨by simp, 2 * m + 1, fitL_one hcat, by simp⟩
    · split at h
      · obtain ⟨ps', n', hg, rfl, rfl⟩ := pre_ok h
        obtain ⟨h0, N, h1, h2⟩ := fit_goL hA f [] (l.drop 1) 0 (fitL_nil 0) ps' n' hg
        refine ⟨by simp, 2 * m + 1 + N, fitL_app ((fitL_one hcat).mono (Nat.le_refl _) (by omega)) (h1.mono (Nat.le_refl _) (by omega)), ?_⟩
        simp; omega
      · split at h
        · rename_i t k hk
          obtain ⟨ps', n', hg, e1, rfl⟩ := pre_ok h
          rw [List.nil_append] at e1
          subst e1
          have hp := fit_piece hA hk
          have hc2 : FitL (2 * (m + k)) (m + k) (cur ++ [t]) := (fitL_app (hc.mono (Nat.le_refl _) (Nat.le_add_right m k)) ((fitL_one hp).mono (Nat.le_refl _) (Nat.le_add_left k m))).mono (by omega) (Nat.le_refl _)
          have := fit_goL hA f (cur ++ [t]) (l.drop k) (m + k) hc2 ps n' hg
          rw [← Nat.add_assoc]
          exact this
        · cases h
theorem fit_end {M : Nat} {ps : List Tr} (h : PsOk M ps) : FitT (2 * M + 1) (M + 2) (altEnd ps) := by
  obtain ⟨h0, N, h1, h2⟩ := h
  match ps, h0, h1, h2 with
  | [t], _, h1, h2 =>
    obtain ⟨D, a, b⟩ := h1
    refine ⟨D, (a t (List.mem_singleton.2 rfl)).1, ?_, Nat.le_trans (a t (List.mem_singleton.2 rfl)).2 (by omega)⟩
    simp at b h2
    show nodesT D t ≤ _
    omega
  | t :: u :: r, _, h1, h2 =>
    refine (fit_node (k := 3) (rs := []) h1 (by decide) (by decide) (fun h => absurd h (by decide))).mono ?_ (by omega)
    simp at h2
    omega
theorem fit_alt : ∀ d, AlOk (altX d)
  | 0 => fun l t n h => by cases h
  | d + 1 => fun l t n h => by
    rw [altX_go] at h
    obtain ⟨ps, hg, rfl⟩ := pr_ok h
    have := fit_end (fit_goL (fit_alt d) _ [] l 0 (fitL_nil 0) ps n hg)
    rw [Nat.zero_add] at this
    exact this
theorem fit_parseX {l : List UInt8} (h : (parseX l).2.1 = 0) : l.length ≤ 256 ∧ FitT 513 258 (parseX l).1 := by
  obtain ⟨hl, t, n, hw, e⟩ := parseX_zero h
  refine ⟨hl, ?_⟩
  rw [e]
  unfold wholeX at hw
  split at hw
  · rename_i t' n' hx
    split at hw
    · rename_i hn
      injection hw with e1 _
      subst e1
      exact (fit_alt _ _ _ _ hx).mono (by omega) (by omega)
    · cases hw
  · cases hw
theorem fit_pc {t : Tr} (h : IsPc t) : FitT 2 2 t := by
  rcases h with ⟨rs, rfl⟩ | rfl
  · exact (fit_set rs).mono (by omega) (by omega)
  · exact fit_node (fitL_one (fit_set _)) (by decide) (by decide) (fun _ => by simp)
theorem fit_pcs : ∀ ts : List Tr, (∀ t, t ∈ ts → IsPc t) → FitL (2 * ts.length) 2 ts
  | [], _ => fitL_nil 2
  | t :: ts, h => by
    have := fitL_app (fitL_one (fit_pc (h t (List.mem_cons_self ..)))) (fit_pcs ts fun u hu => h u (List.mem_cons_of_mem _ hu))
    exact this.mono (by rw [List.length_cons]; omega) (Nat.le_refl _)
theorem pieces_len : ∀ (f : Nat) (l : List UInt8) (ts : List Tr), piecesP f l = .ok ts → ts.length ≤ l.length
  | 0, _, _, h => by cases h
  | f + 1, l, ts, h => by
    unfold piecesP at h
    split at h
    · injection h with h; subst h; exact Nat.zero_le _
    · split at h
      · cases h
      · rename_i t n hp
        have hn := (pieceG_bd l).1 t n hp
        cases hk : piecesP f (l.drop n) with
        | err c o => rw [hk] at h; cases h
        | ok us =>
          rw [hk] at h
          simp only [Ks.pre] at h
          injection h with h
          subst h
          have := pieces_len f (l.drop n) us hk
          rw [List.length_drop] at this
          simp; omega
theorem fit_parseG {l : List UInt8} (h : (parseG l).2.1 = 0) : l.length ≤ 256 ∧ FitT 513 258 (parseG l).1 := by
  unfold parseG at h ⊢
  split
  · rename_i h1; rw [if_pos h1] at h; exact absurd h (by decide)
  · rename_i h1
    rw [if_neg h1] at h
    cases hp : piecesF l with
    | err c o => rw [hp] at h; exact absurd h (gpcs_code hp)
    | ok ts =>
      have h2 := pieces_len _ _ _ hp
      exact ⟨by omega, (fit_node (fit_pcs ts (piecesP_isPc _ _ _ hp)) (by decide) (by decide) (fun h => absurd h (by decide))).mono (by omega) (by omega)⟩
/-- The tree of a text that means itself. -/
def exactT (l : List UInt8) : Tr := .mk 2 [] (l.map fun c => .mk 1 [(c, c)] [])
def exactP (l : List UInt8) : Tr × Int × Nat := if 256 < l.length then (zeroT, 2, 0) else (exactT l, 0, 0)
theorem fit_chars : ∀ l : List UInt8, FitL l.length 1 (l.map fun c => .mk 1 [(c, c)] [])
  | [] => fitL_nil 1
  | c :: l => by
    have := fitL_app (fitL_one (fit_set [(c, c)])) (fit_chars l)
    exact this.mono (by rw [List.length_cons]; omega) (Nat.le_refl _)
theorem fit_exact (l : List UInt8) (h : l.length ≤ 256) : FitT 513 258 (exactT l) :=
  (fit_node (fit_chars l) (by decide) (by decide) (fun h => absurd h (by decide))).mono (by omega) (by omega)
/-- What a kind's text is read as: the tree, the error's number, its place. -/
def patP (kind : Int) (l : List UInt8) : Tr × Int × Nat := if kind = 1 then exactP l else if kind = 2 then parseG l else if kind = 3 then parseX l else (zeroT, 1, 0)
theorem fit_pat {kind : Int} {l : List UInt8} (h : (patP kind l).2.1 = 0) : FitT 513 258 (patP kind l).1 := by
  unfold patP at h ⊢
  split
  · rename_i h1; rw [if_pos h1] at h
    unfold exactP at h ⊢
    split
    · rename_i h2; rw [if_pos h2] at h; exact absurd h (by decide)
    · exact fit_exact l (by omega)
  · rename_i h1; rw [if_neg h1] at h
    split
    · rename_i h2; rw [if_pos h2] at h; exact (fit_parseG h).2
    · rename_i h2; rw [if_neg h2] at h
      split
      · rename_i h3; rw [if_pos h3] at h; exact (fit_parseX h).2
      · rename_i h3; rw [if_neg h3] at h; exact absurd h (by decide)
end Go.Proofs.Ytjnhmcgjeljcmaa
namespace Go.Proofs.Ytjnhmcgjeljcmaa
open Go.RowKit Go.Maps

def setC (c : UInt8) : Tr := .mk 1 [(c, c)] []
def ERel (w : World) (acc : List Tr) (wr : World) : Prop := ∃ (A : Option Addr) (cap : Nat) (cells : List Value),
  Blk wr w.heap.size 26 #[.int .i64 0, .slice none 0 0, .slice none 0 0] ∧ Blk wr (w.heap.size + 1) 26 #[.int .i64 2, .slice none 0 0, .slice A acc.length cap] ∧
  wr.ownsRow (w.heap.size + 2) 26 3 (.slice A acc.length cap) acc.length cells ∧ KidsAt wr (fun j => w.heap.size + 2 ≤ j ∧ j < wr.heap.size ∧ (Value.slice A acc.length cap).ownBlock ≠ some j) 1 acc cells ∧ Below w.heap.size w wr
theorem ERel.start (w : World) : ERel w [] ((w.alloc (.cells #[.int .i64 0, .slice none 0 0, .slice none 0 0] 26)).alloc (.cells #[.int .i64 2, .slice none 0 0, .slice none 0 0] 26)) := by
  refine ⟨none, 0, [], (Blk.new w _ _).alloc _, ?_, World.ownsRow_nil _ _ _ _, KidsAt.nil _ _ _, ((Below.refl _ w).alloc (Nat.le_refl _) _).alloc (by simp) _⟩
  have := Blk.new (w.alloc (.cells #[.int .i64 0, .slice none 0 0, .slice none 0 0] 26)) 26 #[.int .i64 2, .slice none 0 0, .slice none 0 0]
  simpa using this
/-- One more byte. -/
theorem ERel.step {w w1 w4 : World} {acc : List Tr} {A : Option Addr} {cap g cap2 : Nat} {cells : List Value} {c : UInt8}
    (hb0 : Blk w1 w.heap.size 26 #[.int .i64 0, .slice none 0 0, .slice none 0 0]) (hb1 : Blk w1 (w.heap.size + 1) 26 #[.int .i64 2, .slice none 0 0, .slice A acc.length cap])
    (hown : w1.ownsRow (w.heap.size + 2) 26 3 (.slice A acc.length cap) acc.length cells) (hk : KidsAt w1 (fun j => w.heap.size + 2 ≤ j ∧ j < w1.heap.size ∧ (Value.slice A acc.length cap).ownBlock ≠ some j) 1 acc cells) (hb : Below w.heap.size w w1)
    (hgrow : ((w1.alloc (.cells #[.int .u8 (c.toNat : Nat), .int .u8 (c.toNat : Nat)] 37)).alloc (.cells #[.int .i64 1, .slice (some ⟨w1.heap.size, 0, none⟩) 1 1, .slice none 0 0] 26)).grownBy w4 (Value.slice A acc.length cap).ownBlock)
    (hown4 : w4.ownsRow (w.heap.size + 2) 26 3 (.slice (some ⟨g, 0, none⟩) (acc.length + 1) cap2) (acc.length + 1) (cells ++ [.int .i64 1, .slice (some ⟨w1.heap.size, 0, none⟩) 1 1, .slice none 0 0]))
    (hat : (Value.slice A acc.length cap).ownBlock = some g ∨ g = w1.heap.size + 2) :
    ERel w (acc ++ [setC c]) (w4.setCell ⟨w.heap.size + 1, 2, none⟩ (.slice (some ⟨g, 0, none⟩) (acc.length + 1) cap2)) := by
  have hlen : (acc ++ [setC c]).length = acc.length + 1 := by simp
  have hlt1 := hb1.lt
  have hs4 : w1.heap.size + 2 ≤ w4.heap.size := by have := hgrow.size; simpa using this
  have hap : ∀ j, j < w.heap.size + 2 → some j ≠ (Value.slice A acc.length cap).ownBlock := fun j hj => own_apart hown hj
  have hown_lt : ∀ j, (Value.slice A acc.length cap).ownBlock = some j → w.heap.size + 2 ≤ j ∧ j < w1.heap.size := fun j hj => hown.lt j hj
  have keep : ∀ j, j ≠ w.heap.size + 1 → j < w1.heap.size → some j ≠ (Value.slice A acc.length cap).ownBlock → (w4.setCell ⟨w.heap.size + 1, 2, none⟩ (.slice (some ⟨g, 0, none⟩) (acc.length + 1) cap2)).heap[j]? = w1.heap[j]? := by
    intro j h2 h3 h4
    rw [Below.heap_setCell _ _ _ _ h2, hgrow.block j (by simp; omega) h4, Below.heap_alloc _ _ _ (by simp; omega), Below.heap_alloc _ _ _ h3]
  refine ⟨some ⟨g, 0, none⟩, cap2, cells ++ [.int .i64 1, .slice (some ⟨w1.heap.size, 0, none⟩) 1 1, .slice none 0 0], ?_, ?_, ?_, ?_, ?_⟩
  · exact (((hb0.alloc _).alloc _).grown hgrow (hap _ (by omega))).far (by simp) _
  · rw [hlen]
    exact ((((hb1.alloc _).alloc _).grown hgrow (hap _ (by omega))).set_ 2 _ : Blk _ _ _ _)
  · rw [hlen]
    exact ownsRow_setCell_below hown4 (by simp) _
  · rw [hlen]
    refine KidsAt.snoc ?_ ?_
    · refine (hk.keep (w' := w4.setCell ⟨w.heap.size + 1, 2, none⟩ (.slice (some ⟨g, 0, none⟩) (acc.length + 1) cap2)) fun j hj => ?_).mono fun j hj => ⟨hj.1, ?_, ?_⟩
      · exact keep j (by have := hj.1; omega) hj.2.1 (fun e => hj.2.2 e.symm)
      · simp [World.setCell]; have := hj.2.1; omega
      · simp only [Value.ownBlock, ne_eq, Option.some.injEq]
        rintro rfl
        rcases hat with h | h
        · exact hj.2.2 h
        · have := hj.2.1; omega
    · have hr : Blk (w4.setCell ⟨w.heap.size + 1, 2, none⟩ (.slice (some ⟨g, 0, none⟩) (acc.length + 1) cap2)) w1.heap.size 37 #[.int .u8 (c.toNat : Nat), .int .u8 (c.toNat : Nat)] :=
        (((Blk.new w1 _ _).alloc _).grown hgrow (fun e => by have := hown_lt _ e.symm; omega)).far (by simp; omega) _
      refine ⟨some ⟨w1.heap.size, 0, none⟩, 1, 1, none, 0, 0, rfl, by decide, ⟨Nat.zero_le _, Nat.le_refl _⟩, ⟨rfl, fun _ => ⟨w1.heap.size, 0, rfl, ?_, fun i r hr' => ?_⟩⟩, rfl, fun h => absurd h (by omega)⟩
      · refine ⟨by omega, by simp [World.setCell]; omega, ?_⟩
        simp only [Value.ownBlock, ne_eq, Option.some.injEq]
        rintro rfl
        rcases hat with h | h
        · have := hown_lt _ h; omega
        · omega
      · match i, hr' with
        | 0, hr' =>
          obtain rfl : (c, c) = r := by simpa using hr'
          exact ⟨hr.cell 0, hr.cell 1⟩
  · refine ⟨?_, ?_, ?_, ?_, fun j hj => ?_⟩
    · exact hgrow.os.trans hb.os
    · exact hgrow.tape.trans hb.tape
    · exact hgrow.output.trans hb.output
    · have := hb.size; simp [World.setCell]; omega
    · rw [keep j (by omega) (by omega) (hap j (by omega))]
      exact hb.block j hj
set_option maxHeartbeats 2000000 in
set_option maxRecDepth 100000 in
theorem exact_any (s : ByteArray) (w : World) : Calls Try.prog 61 #[.string s] w (TreePost w (exactP s.data.toList)) := by
  unfold exactP
  by_cases hl : 256 < s.data.toList.length
  · rw [if_pos hl]
    have hl' : (256 : Int) < (s.size : Int) := by have : s.data.toList.length = s.size := rfl; omega
    go_enter Try.func61, Try.ntmps61
    obtain ⟨p0, p1, p2, -, -, -⟩ := blk3 (Blk.new w 26 #[.int .i64 0, .slice none 0 0, .slice none 0 0])
    go_wp2
    exact bodyPost_ret (v := .tuple #[.agg #[.int .i64 0, .slice none 0 0, .slice none 0 0], .int .i64 2, .int .i64 0]) (by simp [results, Try.results61, go_sem, p0, p1, p2]) rfl ⟨1, 0, none, 0, 0, none, 0, 0, rfl, treeAt_zero _ _, (Below.refl _ w).alloc (Nat.le_refl _) _⟩
  · rw [if_neg hl]
    have hl' : ¬ (256 : Int) < (s.size : Int) := by have : s.data.toList.length = s.size := rfl; omega
    have hsz : s.size ≤ 256 := by have : s.data.toList.length = s.size := rfl; omega
    go_enter Try.func61, Try.ntmps61
    go_wp2
    go_loopw [15] (fun i wr => ∃ j : Nat, j ≤ s.size ∧ i = .int .i64 (j : Nat) ∧ ERel w ((s.data.toList.take j).map setC) wr) (fun i _ => s.size - (intOf i).toNat)
    case atStart => exact ⟨0, Nat.zero_le _, rfl, ERel.start w⟩
    case round =>
      obtain ⟨j, hj, rfl, hr⟩ := hrel
      by_cases hlt : j < s.size
      · have hlt' : (j : Int) < (s.size : Int) := by omega
        have hj0 : (0 : Int) ≤ (j : Int) := by omega
        obtain ⟨A, cap, cells, hb0, hb1, hown, hk, hb⟩ := hr
        have hlen : s.data.toList.length = s.size := rfl
        have hln : ((s.data.toList.take j).map setC).length = j := by
          rw [List.length_map, List.length_take]
          omega
        obtain ⟨c, hc⟩ : ∃ c : UInt8, c = s[j] := ⟨_, rfl⟩
        have hnx : (s.data.toList.take (j + 1)).map setC = (s.data.toList.take j).map setC ++ [setC c] := by
          rw [List.take_succ_eq_append_getElem (by omega), List.map_append, hc]; rfl
        generalize (s.data.toList.take j).map setC = acc at *
        have HN := Lib.hid hnx
        clear hnx
        subst hln
        have hlt1 := hb1.lt
        have hne : w.heap.size + 1 ≠ wr.heap.size := by omega
        go_wp2_with fail
        go_region
        rw [← hc]
        have C0 : Blk ((wr.alloc (.cells #[.int .u8 (c.toNat : Nat), .int .u8 (c.toNat : Nat)] 37)).drew) w.heap.size 26 #[.int .i64 0, .slice none 0 0, .slice none 0 0] := hb0.alloc _
        have C1 : Blk ((wr.alloc (.cells #[.int .u8 (c.toNat : Nat), .int .u8 (c.toNat : Nat)] 37)).drew) (w.heap.size + 1) 26 #[.int .i64 2, .slice none 0 0, .slice A acc.length cap] := hb1.alloc _
        have C2 : ((wr.alloc (.cells #[.int .u8 (c.toNat : Nat), .int .u8 (c.toNat : Nat)] 37)).drew).ownsRow (w.heap.size + 2) 26 3 (.slice A acc.length cap) acc.length cells := hown.alloc _
        have C3 : KidsAt ((wr.alloc (.cells #[.int .u8 (c.toNat : Nat), .int .u8 (c.toNat : Nat)] 37)).drew) (fun j => w.heap.size + 2 ≤ j ∧ j < ((wr.alloc (.cells #[.int .u8 (c.toNat : Nat), .int .u8 (c.toNat : Nat)] 37)).drew).heap.size ∧ (Value.slice A acc.length cap).ownBlock ≠ some j) 1 acc cells :=
          (hk.keep (w' := ((wr.alloc (.cells #[.int .u8 (c.toNat : Nat), .int .u8 (c.toNat : Nat)] 37)).drew)) fun j hj => Below.heap_alloc wr _ j hj.2.1).mono fun j hj => ⟨hj.1, by simp; have := hj.2.1; omega, hj.2.2⟩
        have C4 : Below w.heap.size w ((wr.alloc (.cells #[.int .u8 (c.toNat : Nat), .int .u8 (c.toNat : Nat)] 37)).drew) := by
          have := hb.alloc hb.size (.cells #[.int .u8 (c.toNat : Nat), .int .u8 (c.toNat : Nat)] 37)
          exact ⟨this.os, this.tape, this.output, this.size, this.block⟩
        have C5 : Blk ((wr.alloc (.cells #[.int .u8 (c.toNat : Nat), .int .u8 (c.toNat : Nat)] 37)).drew) wr.heap.size 37 #[.int .u8 (c.toNat : Nat), .int .u8 (c.toNat : Nat)] := Blk.new wr _ _
        clear hb0 hb1 hown hk hb hlt1 hne hc
        generalize ((wr.alloc (.cells #[.int .u8 (c.toNat : Nat), .int .u8 (c.toNat : Nat)] 37)).drew) = w1 at C0 C1 C2 C3 C4 C5 ⊢
        generalize wr.heap.size = rp at C5 ⊢
        clear wr
        obtain ⟨i0, hi0, hz0, hz1, hz2⟩ := info_parts nodeInfo
        obtain ⟨v', w4, q1, q2, q3, _, q5⟩ := run_append_own_at (P := Try.prog) (w := (w1.alloc (.cells #[.int .u8 (c.toNat : Nat), .int .u8 (c.toNat : Nat)] 37)).alloc (.cells #[.int .i64 1, .slice (some ⟨w1.heap.size, 0, none⟩) 1 1, .slice none 0 0] 26)) (w.heap.size + 2) 24 24 26 i0 _ 3 56 Try.underlying24 hi0 hz0 hz1 hz2 rfl (by decide) _ acc.length cells ((C2.alloc _).alloc _) ⟨w1.heap.size + 1, 0, none⟩ 1 1 [.int .i64 1, .slice (some ⟨w1.heap.size, 0, none⟩) 1 1, .slice none 0 0] rfl (fun j u hu => by
            have hn := Blk.new (w1.alloc (.cells #[.int .u8 (c.toNat : Nat), .int .u8 (c.toNat : Nat)] 37)) 26 #[.int .i64 1, .slice (some ⟨w1.heap.size, 0, none⟩) 1 1, .slice none 0 0]
            have hs : (w1.alloc (.cells #[.int .u8 (c.toNat : Nat), .int .u8 (c.toNat : Nat)] 37)).heap.size = w1.heap.size + 1 := by simp
            rw [hs] at hn
            rw [Addr.add_mid, Nat.zero_add, hn.cell j]
            rw [← hu]; simp) (three_one _ _ _ _ _ _ _) (by unfold maxLen; omega) (by omega) (by have := C1.lt; simp; omega)
        obtain ⟨g, cap2, rfl, -⟩ := q2.form (by omega)
        have HRUN := Lib.hid q1
        have HST := Lib.hid (ERel.step C0 C1 C2 C3 C4 q3 q2 (by
          rcases q5 with h | h
          · exact .inl h.symm
          · exact .inr (by simpa [Value.ownBlock] using h)))
        obtain ⟨y0, y1, y2, f0, f1, f2⟩ := blk3 C1
        obtain ⟨r0, r1, -, -⟩ := blk2 C5
        have Z1 : Blk w4 (w.heap.size + 1) 26 #[.int .i64 2, .slice none 0 0, .slice A acc.length cap] := ((C1.alloc _).alloc _).grown q3 (own_apart C2 (by omega))
        obtain ⟨-, -, -, e0, e1, e2⟩ := blk3 Z1
        have z2 := Z1.cell 2
        clear C0 C1 C2 C3 C4 C5 q1 q2 q3 q5 Z1
        go_wp2_with (at_builtin; refine wpList_append_run rfl (.tmp 26) (.tmp 30) 24 rfl _ _ _ rfl rfl HRUN.out ?_)
        go_roundw
        case rel => exact ⟨acc.length + 1, by omega, by go_num, by rw [HN.out]; exact HST.out⟩
        case measure => simp [intOf]; omega
      · have hlt' : ¬ (j : Int) < (s.size : Int) := by omega
        obtain ⟨A, cap, cells, hb0, hb1, hown, hk, hb⟩ := hr
        have htk : s.data.toList.take j = s.data.toList := List.take_of_length_le (by have : s.data.toList.length = s.size := rfl; omega)
        rw [htk] at hb1 hown hk
        have hE : exactT s.data.toList = .mk 2 [] (s.data.toList.map setC) := rfl
        generalize s.data.toList.map setC = acc at *
        have HE := Lib.hid hE
        have HTR := Lib.hid (tree_node (k := 2) (X := fun j => w.heap.size + 2 ≤ j ∧ j < wr.heap.size) hown (hk.mono fun j hj => ⟨hj.1, hj.2.1⟩) (fun b hb' => hown.lt b hb'))
        obtain ⟨y0, y1, y2, f0, f1, f2⟩ := blk3 hb1
        obtain ⟨z0, z1, z2, g0, g1, g2⟩ := blk3 hb0
        have Z := Lib.hid hb0
        have HB := Lib.hid hb
        clear hb0 hb1 hown hk hb htk hE
        go_wp2
        have ZZ : Blk _ w.heap.size 26 #[.int .i64 2, .slice none 0 0, .slice A acc.length cap] := ((Z.out.set_ 0 (.int .i64 2)).set_ 1 (.slice none 0 0)).set_ 2 (.slice A acc.length cap)
        obtain ⟨x0, x1, x2, -, -, -⟩ := blk3 ZZ
        refine bodyPost_ret (v := .tuple #[.agg #[.int .i64 2, .slice none 0 0, .slice A acc.length cap], .int .i64 0, .int .i64 0]) (by simp [results, Try.results61, go_sem, x0, x1, x2]) rfl ⟨2, 2, none, 0, 0, A, acc.length, cap, rfl, ?_, ?_⟩
        · show TreeAt _ (Fresh w (((wr.setCell ⟨w.heap.size, 0, none⟩ (.int .i64 2)).setCell ⟨w.heap.size, 1, none⟩ (.slice none 0 0)).setCell ⟨w.heap.size, 2, none⟩ (.slice A acc.length cap))) 2 (exactT s.data.toList) _
          rw [HE.out]
          refine (HTR.out.keep (w' := ((wr.setCell ⟨w.heap.size, 0, none⟩ (.int .i64 2)).setCell ⟨w.heap.size, 1, none⟩ (.slice none 0 0)).setCell ⟨w.heap.size, 2, none⟩ (.slice A acc.length cap)) fun j hj => ?_).mono fun j hj => ⟨?_, ?_⟩
          · have h1 := hj.1
            rw [Below.heap_setCell _ _ _ _ (by simp; omega), Below.heap_setCell _ _ _ _ (by simp; omega), Below.heap_setCell _ _ _ _ (by simp; omega)]
          · have h1 := hj.1; omega
          · have h1 := hj.2; simp [World.setCell]; omega
        · exact ((HB.out.setCell (p := ⟨w.heap.size, 0, none⟩) (Nat.le_refl _) _).setCell (p := ⟨w.heap.size, 1, none⟩) (Nat.le_refl _) _).setCell (p := ⟨w.heap.size, 2, none⟩) (Nat.le_refl _) _
end Go.Proofs.Ytjnhmcgjeljcmaa
