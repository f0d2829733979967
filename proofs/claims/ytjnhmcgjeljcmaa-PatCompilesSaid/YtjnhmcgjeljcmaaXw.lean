/- Plain facts: no error of rex's parser has the number 0; what can't stand behind a pattern. No program. rex.whole, rex.Parse; the examples of Parse (parsing). -/
import Derived.Test.YtjnhmcgjeljcmaaXu
import Derived.Test.YtjnhmcgjeljcmaaTw
import Derived.Test.YtjnhmcgjeljcmaaXt
namespace Go.Proofs.Ytjnhmcgjeljcmaa

theorem letterX_code {l : List UInt8} {c : Int} {o : Nat} (h : letterX l = .err c o) : c ≠ 0 := by
  rintro rfl
  match l with
  | [] => simp [letterX] at h
  | [x] => by_cases hx : x = 92 <;> simp [letterX, hx] at h
  | x :: y :: t =>
    by_cases hx : x = 92
    · simp only [letterX, hx, if_true] at h
      split at h
      · cases h
      · split at h
        · cases h
        · split at h
          · injection h with h; simp at h
          · cases h
    · simp [letterX, hx] at h
theorem rangeP_code {L : List UInt8 → Lr} (hL : ∀ l c o, L l = .err c o → c ≠ 0) {l : List UInt8} {c : Int} {o : Nat} (h : rangeP L l = .err c o) : c ≠ 0 := by
  unfold rangeP at h
  split at h
  · rename_i c' o' h1
    injection h with h2 _; subst h2; exact hL _ _ _ h1
  · split at h
    · split at h
      · rename_i c' o' h1
        injection h with h2 _; subst h2; exact hL _ _ _ h1
      · split at h
        · injection h with h2 _; subst h2; decide
        · cases h
    · cases h
theorem itemsP_code {L : List UInt8 → Lr} (hG : GoodL L) (hL : ∀ l c o, L l = .err c o → c ≠ 0) : ∀ (f : Nat) (b : Bool) (l : List UInt8), l.length < f → ∀ c o, itemsP L f b l = .err c o → c ≠ 0
  | 0, _, _, h => by omega
  | f + 1, b, l, h => by
    intro c o e
    unfold itemsP at e
    split at e
    · cases e
    · split at e
      · rename_i c' o' h1
        injection e with h2 _; subst h2; exact rangeP_code hL h1
      · rename_i lo hi n h1
        have hn := rangeP_ok hG h1
        cases hi2 : itemsP L f false (l.drop n) with
        | ok rs m => rw [hi2] at e; simp [Ir.more] at e
        | err c' o' =>
          rw [hi2] at e
          simp only [Ir.more] at e
          injection e with h2 _; subst h2
          exact itemsP_code hG hL f false _ (by rw [List.length_drop]; omega) _ _ hi2
theorem itemsPr_code {neg : Bool} {m : Nat} {b : Bool} {l : List UInt8} {c : Int} {o : Nat} (h : itemsPr neg m (itemsF letterX b l) = .err c o) : c ≠ 0 := by
  cases hi : itemsF letterX b l with
  | ok rs k => rw [hi] at h; simp [itemsPr] at h
  | err c' o' =>
    rw [hi] at h
    simp only [itemsPr] at h
    injection h with h2 _; subst h2
    exact itemsP_code good_letterX (fun _ _ _ => letterX_code) _ b l (by omega) _ _ hi
theorem classX_code {l : List UInt8} {c : Int} {o : Nat} (h : classX l = .err c o) : c ≠ 0 := by
  unfold classX at h
  split at h
  · split at h
    · injection h with h2 _; subst h2; decide
    · exact itemsPr_code h
  · split at h
    · injection h with h2 _; subst h2; decide
    · exact itemsPr_code h
theorem shift_err {m : Nat} {r : Pr} {c : Int} {n : Nat} (h : r.shift m = .err c n) : ∃ n', r = .err c n' ∧ n = m + n' := by
  cases r with
  | err c' n' => simp [Pr.shift] at h; exact ⟨n', by rw [h.1], h.2.symm⟩
  | ok c o => simp [Pr.shift] at h
theorem groupX_code {Al : List UInt8 → Pr} {l : List UInt8} (hA : ∀ c o, Al l = .err c o → c ≠ 0) {c : Int} {o : Nat} (h : groupX Al l = .err c o) : c ≠ 0 := by
  unfold groupX at h
  split at h
  · split at h
    · cases h
    · injection h with h2 _; subst h2; decide
  · rename_i c' o' h1
    injection h with h2 _; subst h2; exact hA _ _ h1
theorem atomX_code {Al : List UInt8 → Pr} {l : List UInt8} (hA : ∀ l', l'.length < l.length → ∀ c o, Al l' = .err c o → c ≠ 0) {c : Int} {o : Nat} (h : atomX Al l = .err c o) : c ≠ 0 := by
  unfold atomX at h
  split at h
  · injection h with h2 _; subst h2; decide
  · split at h
    · rename_i h1
      have := starts_len h1
      obtain ⟨n', h2, _⟩ := shift_err h
      exact groupX_code (hA _ (by rw [List.length_drop]; omega)) h2
    · split at h
      · obtain ⟨n', h2, _⟩ := shift_err h
        exact classX_code h2
      · split at h
        · cases h
        · split at h
          · cases h
          · split at h
            · cases h
            · rename_i c' o' h1
              injection h with h2 _; subst h2; exact letterX_code h1
theorem pieceX_code {Al : List UInt8 → Pr} {l : List UInt8} (hA : ∀ l', l'.length < l.length → ∀ c o, Al l' = .err c o → c ≠ 0) {c : Int} {o : Nat} (h : pieceX Al l = .err c o) : c ≠ 0 := by
  unfold pieceX at h
  split at h
  · cases h
  · rename_i c' o' h1
    injection h with h2 _; subst h2; exact atomX_code hA h1
theorem goL_code {Al : List UInt8 → Pr} : ∀ (f : Nat) (cur : List Tr) (l : List UInt8), l.length < f → (∀ l', l'.length < l.length → ∀ c o, Al l' = .err c o → c ≠ 0) → ∀ c o, goL Al f cur l = .err c o → c ≠ 0
  | 0, _, _, h => by omega
  | f + 1, cur, l, h => by
    intro hA c o e
    unfold goL at e
    split at e
    · cases e
    · split at e
      · rename_i h1
        have h2 := starts_len h1
        cases hg : goL Al f [] (l.drop 1) with
        | ok ps n => rw [hg] at e; simp [Gl.pre] at e
        | err c' o' =>
          rw [hg] at e
          simp only [Gl.pre] at e
          injection e with h3 _; subst h3
          exact goL_code f [] (l.drop 1) (by rw [List.length_drop]; omega) (fun l' hl' => hA l' (by rw [List.length_drop] at hl'; omega)) _ _ hg
      · split at e
        · rename_i t n h1
          have h2 := pieceX_bd h1
          cases hg : goL Al f (cur ++ [t]) (l.drop n) with
          | ok ps n => rw [hg] at e; simp [Gl.pre] at e
          | err c' o' =>
            rw [hg] at e
            simp only [Gl.pre] at e
            injection e with h3 _; subst h3
            exact goL_code f _ (l.drop n) (by rw [List.length_drop]; omega) (fun l' hl' => hA l' (by rw [List.length_drop] at hl'; omega)) _ _ hg
        · rename_i c' o' h1
          injection e with h3 _; subst h3
          exact pieceX_code hA h1
theorem altX_code : ∀ (d : Nat) (l : List UInt8), l.length < d → ∀ c o, altX d l = .err c o → c ≠ 0
  | 0, _, h => by omega
  | d + 1, l, h => by
    intro c o e
    rw [altX_go] at e
    cases hg : goF (altX d) [] l with
    | ok ps n => rw [hg] at e; simp [Gl.pr] at e
    | err c' o' =>
      rw [hg] at e
      simp only [Gl.pr] at e
      injection e with h3 _; subst h3
      exact goL_code _ [] l (by omega) (fun l' hl' => altX_code d l' (by omega)) _ _ hg
theorem wholeX_code {l : List UInt8} {c : Int} {o : Nat} (h : wholeX l = .err c o) : c ≠ 0 := by
  unfold wholeX at h
  split at h
  · split at h
    · cases h
    · injection h with h2 _; subst h2; decide
  · rename_i c' o' h1
    injection h with h2 _; subst h2; exact altX_code _ _ (by omega) _ _ h1
def wholeW (l : List UInt8) : Wr := match wholeX l with | .ok t _ => .ok t | .err c o => .err c o
def parseX (l : List UInt8) : Tr × Int × Nat := treeOf wholeW l
/-- A pattern that is read. -/
theorem parseX_zero {l : List UInt8} (h : (parseX l).2.1 = 0) : l.length ≤ 256 ∧ ∃ t n, wholeX l = .ok t n ∧ parseX l = (t, 0, 0) := by
  unfold parseX treeOf at h ⊢
  split at h
  · simp at h
  · rename_i hl
    refine ⟨by omega, ?_⟩
    rw [if_neg hl]
    unfold wholeW at h ⊢
    cases hw : wholeX l with
    | ok t n => exact ⟨t, n, rfl, rfl⟩
    | err c o => rw [hw] at h; exact absurd h (wholeX_code hw)
theorem parseX_err {l : List UInt8} {c : Int} {o : Nat} (hl : l.length ≤ 256) (h : wholeX l = .err c o) : parseX l = (zeroT, c, o) := by
  unfold parseX treeOf wholeW; rw [if_neg (by omega), h]
theorem parseX_ok {l : List UInt8} {t : Tr} {n : Nat} (hl : l.length ≤ 256) (h : wholeX l = .ok t n) : parseX l = (t, 0, 0) := by
  unfold parseX treeOf wholeW; rw [if_neg (by omega), h]
/-- What can't stand behind a pattern: its bytes, the error, its place. -/
def badX : List (List UInt8 × Int × Nat) := [([41], 30, 0), ([124, 42], 30, 1), ([40], 31, 1), ([91, 93], 30, 1), ([91, 97], 31, 2), ([92], 31, 1), ([92, 113], 30, 0), ([91, 122, 45, 97, 93], 32, 1), ([40, 124, 43], 30, 2), ([91, 94, 93], 30, 2)]
theorem bad_go : ∀ b ∈ badX, b.1 ≠ [41] → ∀ (d : Nat) (cur : List Tr), goF (altX (d + 1)) cur b.1 = .err b.2.1 b.2.2 := by
  intro b hb hne d cur
  simp only [badX, List.mem_cons, List.not_mem_nil, or_false] at hb
  rcases hb with rfl | rfl | rfl | rfl | rfl | rfl | rfl | rfl | rfl | rfl
  · exact absurd rfl hne
  all_goals kernel_rfl
theorem bad_sign : ∀ b ∈ badX, signX b.1 = 0 ∧ 1 ≤ b.1.length ∧ b.1.length ≤ 5 := by decide
theorem bad_whole {l : List UInt8} {t : Tr} {n : Nat} (h : wholeX l = .ok t n) {b : List UInt8 × Int × Nat} (hb : b ∈ badX) : wholeX (l ++ b.1) = .err b.2.1 (l.length + b.2.2) := by
  obtain ⟨ps, cur, _, hm⟩ := whole_more h
  obtain ⟨hs, h1, h5⟩ := bad_sign b hb
  have hd : ∃ d, (l ++ b.1).length = d + 1 := ⟨(l ++ b.1).length - 1, by rw [List.length_append]; omega⟩
  obtain ⟨d, hd⟩ := hd
  unfold wholeX
  rw [hm (l ++ b.1).length b.1 (by rw [List.length_append]; omega) hs]
  by_cases h41 : b.1 = [41]
  · have hb2 : b = ([41], 30, 0) := by
      simp only [badX, List.mem_cons, List.not_mem_nil, or_false] at hb
      rcases hb with rfl | rfl | rfl | rfl | rfl | rfl | rfl | rfl | rfl | rfl
      · rfl
      all_goals (exact absurd h41 (by decide))
    subst hb2
    rw [goF_stop (by decide)]
    simp only [Gl.pre, Gl.pr]
    rw [if_neg (by simp)]
  · rw [hd, bad_go b hb h41 d cur]
    simp only [Gl.pre, Gl.pr]
theorem bad_parse {l : List UInt8} (h : (parseX l).2.1 = 0) (hl : l.length ≤ 240) {b : List UInt8 × Int × Nat} (hb : b ∈ badX) : parseX (l ++ b.1) = (zeroT, b.2.1, l.length + b.2.2) := by
  obtain ⟨_, t, n, h1, _⟩ := parseX_zero h
  obtain ⟨hs, h2, h5⟩ := bad_sign b hb
  exact parseX_err (by rw [List.length_append]; omega) (bad_whole h1 hb)
end Go.Proofs.Ytjnhmcgjeljcmaa
namespace Go.Proofs.Ytjnhmcgjeljcmaa
open Go.RowKit


set_option maxHeartbeats 400000 in
theorem whole_any (b : Nat) (s : ByteArray) (w : World) (hc : Cur w b s 0) (hs : s.size ≤ 256) :
    Calls Try.prog 35 #[.pointer (some ⟨b, 0, none⟩)] w (WPost w b (wholeW s.data.toList)) := by
  have hsm : s.size ≤ maxLen := by unfold maxLen; omega
  have hb0 : b < w.heap.size := Blk.lt hc
  have hA := isAl_any b s hs (s.size + 1) 0 (Nat.zero_le _) (by omega)
  have HA := Lib.hid hA.1
  have hlen : s.data.toList.length = s.size := rfl
  have h0 : restL s 0 = s.data.toList := rfl
  unfold wholeW wholeX
  rw [hlen, ← h0]
  cases hl : altX (s.size + 1) (restL s 0) with
  | err c o =>
    have HL := Lib.hid hl
    clear hl hA
    go_enter Try.func35, Try.ntmps35
    go_wp2_with fail
    refine (HA.out _ (Blk.alloc hc _)).mono ?_
    intro e w1 hp
    obtain ⟨he, g1⟩ := hp.err_ HL.out
    rw [Nat.zero_add] at he
    subst he
    clear hp
    go_wp2
    exact ⟨rfl, rfl, gb_trans (gb_alloc (gb_refl _ _) _) g1⟩
  | ok t n =>
    have hn := hA.2 _ _ hl
    rw [Nat.zero_add] at hn
    have HL := Lib.hid hl
    clear hl hA
    simp only
    by_cases hov : n = s.size
    · rw [if_pos hov]
      have ho : overB s (0 + n) = true := by simp [overB, hov]
      go_enter Try.func35, Try.ntmps35
      go_wp2_with fail
      refine (HA.out _ (Blk.alloc hc _)).mono ?_
      intro e w1 hp
      obtain ⟨⟨d, kk, A, m, c, A', m', c', rfl, ht⟩, hc1, g1⟩ := hp.ok_ HL.out
      clear hp
      have gw := gb_trans (gb_alloc (gb_refl w (some b)) _) g1
      have hlt1 : w.heap.size + 1 ≤ w1.heap.size := by have := g1.size; simpa using this
      have hblk : Blk w1 w.heap.size 26 _ := (Blk.new w 26 _).grown g1 (by simp; omega)
      have HT := Lib.hid ht
      clear ht g1
      go_wp2_with fail
      refine (over_any b (0 + n) s _ (Blk.alloc hc1 _)).mono ?_
      rintro e w2 ⟨rfl, nq, rfl⟩
      rw [ho]
      have hblkN : Blk (w1.alloc (.cells #[.int .i64 kk, .slice A m c, .slice A' m' c'] 26)) w1.heap.size 26 _ := Blk.new w1 26 _
      obtain ⟨p0, p1, p2, z0, z1, z2⟩ := blk3 ((hblk.alloc (.cells #[.int .i64 kk, .slice A m c, .slice A' m' c'] 26)).drewN nq)
      obtain ⟨q0, q1, q2, y0, y1, y2⟩ := blk3 (hblkN.drewN nq)
      have gw2 := gb_drewN (gb_alloc gw (.cells #[.int .i64 kk, .slice A m c, .slice A' m' c'] 26)) nq
      have HT2 := Lib.hid (HT.out.keep (w' := (w1.alloc (.cells #[.int .i64 kk, .slice A m c, .slice A' m' c'] 26)).drewN nq) fun j hj => Below.heap_alloc _ _ _ hj.2)
      clear HT hblk hblkN
      go_wp2
      refine bodyPost_ret (v := .agg #[.int .i64 kk, .slice A m c, .slice A' m' c']) (by simp [results, Try.results35, go_sem, *]) rfl ⟨⟨d, kk, A, m, c, A', m', c', rfl, ?_⟩, ?_⟩
      · refine (HT2.out.keep (w' := ((((w1.alloc (.cells #[.int .i64 kk, .slice A m c, .slice A' m' c'] 26)).drewN nq).setCell ⟨w.heap.size, 0, none⟩ _).setCell ⟨w.heap.size, 1, none⟩ _).setCell ⟨w.heap.size, 2, none⟩ _) fun j hj => ?_).mono fun j hj => ⟨?_, ?_⟩
        · have : j ≠ w.heap.size := by have := hj.1; simp at this; omega
          rw [Below.heap_setCell _ _ _ _ this, Below.heap_setCell _ _ _ _ this, Below.heap_setCell _ _ _ _ this]
        · have := hj.1; simp at this; omega
        · simp [World.setCell]; have := hj.2; omega
      · exact gb_set (gb_set (gb_set gw2 (.inr (Nat.le_refl _)) _) (.inr (Nat.le_refl _)) _) (.inr (Nat.le_refl _)) _
    · rw [if_neg hov]
      have ho : overB s (0 + n) = false := by simp [overB, hov]
      go_enter Try.func35, Try.ntmps35
      go_wp2_with fail
      refine (HA.out _ (Blk.alloc hc _)).mono ?_
      intro e w1 hp
      obtain ⟨⟨d, kk, A, m, c, A', m', c', rfl, ht⟩, hc1, g1⟩ := hp.ok_ HL.out
      clear hp ht
      have gw := gb_trans (gb_alloc (gb_refl w (some b)) _) g1
      go_wp2_with fail
      refine (over_any b (0 + n) s _ (Blk.alloc hc1 _)).mono ?_
      rintro e w2 ⟨rfl, nq, rfl⟩
      rw [ho]
      go_wp2_with fail
      refine (at_any b (0 + n) s _ ((Blk.alloc hc1 _).drewN nq)).mono ?_
      rintro e w3 ⟨rfl, rfl⟩
      go_wp2
      exact ⟨rfl, rfl, gb_drewN (gb_alloc gw _) _⟩
theorem whole_is : IsParser 35 wholeW := ⟨fun args W => by kernel_rfl, fun b s w hc hs => whole_any b s w hc hs⟩
set_option maxHeartbeats 400000 in
theorem xparse_any (s : ByteArray) (w : World) : Calls Try.prog 16 #[.string s] w (TreePost w (parseX s.data.toList)) := by
  unfold parseX
  go_enter Try.func16, Try.ntmps16
  go_wp2_with fail
  refine (tree_any 35 wholeW whole_is s _).mono ?_
  rintro e w1 ⟨d, k, A, n, c, A', n', c', rfl, ht, hb⟩
  obtain ⟨p0, p1, p2, f0, f1, f2⟩ := blk3 ((Blk.new w 26 _).below hb (by simp))
  have HT := Lib.hid ht
  have hb1 : Below w.heap.size w w1 := ((Below.refl _ w).alloc (Nat.le_refl _) _).trans (hb.mono (by simp))
  clear ht
  go_wp2
  refine bodyPost_ret (v := .tuple #[.agg #[.int .i64 k, .slice A n c, .slice A' n' c'], .int .i64 (treeOf wholeW s.data.toList).2.1, .int .i64 ((treeOf wholeW s.data.toList).2.2 : Nat)]) (by simp [results, Try.results16, go_sem, *]) rfl ⟨d, k, A, n, c, A', n', c', rfl, ?_, ?_⟩
  · refine (HT.out.keep (w' := ((w1.setCell ⟨w.heap.size, 0, none⟩ (.int .i64 k)).setCell ⟨w.heap.size, 1, none⟩ (.slice A n c)).setCell ⟨w.heap.size, 2, none⟩ (.slice A' n' c')) fun j hj => ?_).mono fun j hj => ⟨?_, ?_⟩
    · have h1 := hj.1
      simp at h1
      rw [Below.heap_setCell _ _ _ _ (by simp; omega), Below.heap_setCell _ _ _ _ (by simp; omega), Below.heap_setCell _ _ _ _ (by simp; omega)]
    · have h1 := hj.1
      simp at h1; omega
    · simp [World.setCell]; exact hj.2
  · exact ((hb1.setCell (p := ⟨w.heap.size, 0, none⟩) (Nat.le_refl _) _).setCell (p := ⟨w.heap.size, 1, none⟩) (Nat.le_refl _) _).setCell (p := ⟨w.heap.size, 2, none⟩) (Nat.le_refl _) _
theorem TreeAt.heads {w : World} {X : Nat → Prop} {d : Nat} {k k' : Int} {rs : List (UInt8 × UInt8)} {kids : List Tr} {A A' : Option Addr} {n c n' c' : Nat} (h : TreeAt w X d (.mk k rs kids) [.int .i64 k', .slice A n c, .slice A' n' c']) :
    k' = k ∧ n' = kids.length ∧ n' ≤ maxLen ∧ n ≤ maxLen := by
  cases d with
  | zero => exact h.elim
  | succ d =>
    obtain ⟨B, m, e, B', m', e', hv, h1, h2, h3, h4, h5⟩ := h
    injection hv with v0 hv
    injection hv with v1 hv
    injection hv with v2 _
    injection v0 with _ v0
    injection v1 with _ v1 _
    injection v2 with _ v2 _
    subst v1 v2
    exact ⟨v0, h4.symm, h2.1, h1⟩
theorem px1 : parseX [97, 124, 98, 42] = (.mk 3 [] [.mk 2 [] [.mk 1 [(97, 97)] []], .mk 2 [] [.mk 4 [] [.mk 1 [(98, 98)] []]]], 0, 0) := by kernel_rfl
theorem px2 : parseX [97, 41] = (zeroT, 30, 1) := by kernel_rfl

set_option maxHeartbeats 1000000 in
set_option maxRecDepth 100000 in
theorem parsing_any (w : World) : Calls Try.prog 14 #[] w fun e w' => e = .returned (.bool true) ∧ Below w.heap.size w w' := by
  have H1 := Lib.hid (fun W => xparse_any ⟨#[97, 124, 98, 42]⟩ W)
  have H2 := Lib.hid (fun W => xparse_any ⟨#[97, 41]⟩ W)
  simp only [px1] at H1
  simp only [px2] at H2
  go_enter Try.func14, Try.ntmps14
  go_wp2_with fail
  refine (H1.out _).mono ?_
  rintro e w1 ⟨d, k, A, n, c, A', n', c', rfl, ht, hb1⟩
  obtain ⟨rfl, hn', _, _⟩ := ht.heads
  obtain rfl : n' = 2 := hn'
  clear ht H1
  go_wp2_with fail
  refine (H2.out _).mono ?_
  rintro e w2 ⟨d2, k2, B1, m1, g1, B2, m2, g2, rfl, ht2, hb2⟩
  have hblk := (Blk.new w1 26 #[.int .i64 3, .slice A n c, .slice A' 2 c']).below hb2 (by simp)
  obtain ⟨p0, p1, p2, f0, f1, f2⟩ := blk3 hblk
  have hlt2 := hblk.lt
  clear ht2 hblk H2
  go_wp2
  go_ret
  refine ⟨rfl, ?_⟩
  have h1 : Below w.heap.size w (w1.alloc (.cells #[.int .i64 3, .slice A n c, .slice A' 2 c'] 26)) := hb1.alloc hb1.size _
  have h2 := h1.trans (hb2.mono h1.size)
  exact h2.alloc h2.size (.cells #[.int .i64 k2, .slice B1 m1 g1, .slice B2 m2 g2] 26)
end Go.Proofs.Ytjnhmcgjeljcmaa
