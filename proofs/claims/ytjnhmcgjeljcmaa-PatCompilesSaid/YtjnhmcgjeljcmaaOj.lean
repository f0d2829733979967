/- nfa.Prog.ahead: an Alt; any right tree. nfa's wrong and census.count: how many nodes, whether one is wrong. -/
import Derived.Test.YtjnhmcgjeljcmaaOh
namespace Go.Proofs.Ytjnhmcgjeljcmaa
open Go.RowKit Go.Maps

/-- The states of an Alt's first m kids. -/
def altR (d : Nat) (kids : List Tr) (nx : Nat) (S : List St) (m : Nat) : List St := (kids.take m).foldl (fun Q t => joinM (aheadT d t nx Q).2 S.length [(aheadT d t nx Q).1]) (S ++ [forkS])
theorem takeS {α : Type} {l : List α} {i : Nat} {x : α} (h : l[i]? = some x) : l.take (i + 1) = l.take i ++ [x] := by rw [List.take_add_one, h]; rfl
section
variable {d : Nat} {kids : List Tr} {nx : Nat} {S : List St}
theorem altR_step {i : Nat} {t : Tr} (h : kids[i]? = some t) : altR d kids nx S (i + 1) = joinM (aheadT d t nx (altR d kids nx S i)).2 S.length [(aheadT d t nx (altR d kids nx S i)).1] := by
  unfold altR
  rw [takeS h, List.foldl_append]; rfl
theorem altR_at : ∀ i, i ≤ kids.length → (∃ x, (altR d kids nx S i)[S.length]? = some x ∧ x.next.length = i) ∧ S.length < (altR d kids nx S i).length
  | 0, _ => ⟨⟨forkS, by unfold altR; simp, rfl⟩, by unfold altR; simp⟩
  | i + 1, hi => by
    obtain ⟨⟨x, hx, hl⟩, hlt⟩ := altR_at i (by omega)
    obtain ⟨t, ht⟩ : ∃ t, kids[i]? = some t := ⟨kids[i]'(by omega), List.getElem?_eq_getElem _⟩
    rw [altR_step ht]
    have e := ahead_ext d t nx (altR d kids nx S i)
    refine ⟨⟨⟨x.bytes, x.fork, x.next ++ [(aheadT d t nx (altR d kids nx S i)).1]⟩, by rw [joinM_at, e.keep _ hlt, hx]; rfl, by simp [hl]⟩, by rw [joinM_len]; exact Nat.lt_of_lt_of_le hlt e.le⟩
theorem altR_len (i : Nat) : (altR d kids nx S i).length ≤ S.length + 1 + ((kids.take i).map (nodesT d)).sum := by
  unfold altR
  have key : ∀ (ts : List Tr) (Q : List St), (ts.foldl (fun Q t => joinM (aheadT d t nx Q).2 S.length [(aheadT d t nx Q).1]) Q).length ≤ Q.length + (ts.map (nodesT d)).sum := by
    intro ts
    induction ts with
    | nil => intro Q; simp
    | cons t ts ih =>
      intro Q
      rw [List.foldl_cons, List.map_cons, List.sum_cons]
      have a := ih (joinM (aheadT d t nx Q).2 S.length [(aheadT d t nx Q).1])
      have c := ahead_len d t nx Q
      rw [joinM_len] at a
      omega
  have := key (kids.take i) (S ++ [forkS])
  rwa [List.length_append, List.length_singleton] at this
theorem sum_take {i : Nat} {t : Tr} (h : kids[i]? = some t) : ((kids.take i).map (nodesT d)).sum + nodesT d t ≤ (kids.map (nodesT d)).sum := by
  have := takeS h
  have e : (kids.map (nodesT d)).sum = ((kids.take (i + 1)).map (nodesT d)).sum + ((kids.drop (i + 1)).map (nodesT d)).sum := by
    conv => lhs; rw [← List.take_append_drop (i + 1) kids, List.map_append, List.sum_append]
  rw [e, this, List.map_append, List.sum_append]
  simp only [List.map_cons, List.map_nil, List.sum_cons, List.sum_nil]
  omega
end
theorem tree_shape {w : World} {X : Nat → Prop} {d : Nat} {t : Tr} {v0 v1 v2 : Value} (h : TreeAt w X d t [v0, v1, v2]) : ∃ k A n c A' n' c', v0 = .int .i64 k ∧ v1 = .slice A n c ∧ v2 = .slice A' n' c' := by
  match d, t, h with
  | d + 1, .mk k rs kids, h =>
    obtain ⟨A, n, c, A', n', c', e, _⟩ := h
    simp only [List.cons.injEq, and_true] at e
    exact ⟨k, A, n, c, A', n', c', e⟩
set_option maxHeartbeats 400000 in
set_option maxRecDepth 100000 in
theorem ahead3_any {d : Nat} (IH : AhIH d) (rs : List (UInt8 × UInt8)) (kids : List Tr) (A A' : Option Addr) (n c n' c' : Nat) (w : World) (X : Nat → Prop) (pp : Nat) (start steps : Int) (S : List St) (nx : Nat)
    (hk : KidsO w X d n' A' kids) (hn : n' ≤ maxLen) (hn2 : n' ≤ 90000) (hg : ∀ t, t ∈ kids → GoodT d t) (hm : Mach w X pp start steps S) (hnx : nx ≤ 90000) (hl : S.length + 1 + (kids.map (nodesT d)).sum ≤ 90000) :
    Calls Try.prog 97 #[.pointer (some ⟨pp, 0, none⟩), .agg #[.int .i64 3, .slice A n c, .slice A' n' c'], .int .i64 (nx : Nat)] w (AhPost w X pp start steps (aheadT (d + 1) (.mk 3 rs kids) nx S)) := by
  have hkl := hk.1
  have HT : aheadT (d + 1) (.mk 3 rs kids) nx S = (S.length, altR d kids nx S n') := by
    unfold aheadT altR
    rw [if_neg (by decide), if_neg (by decide), if_pos rfl, List.take_of_length_le (by omega)]; rfl
  rw [HT]
  clear HT
  unfold maxLen at hn
  have b0 : Below w.heap.size w (w.alloc (.cells #[.int .i64 3, .slice A n c, .slice A' n' c'] 26)) := (Below.refl _ w).alloc (Nat.le_refl _) _
  have k0 : Blk (w.alloc (.cells #[.int .i64 3, .slice A n c, .slice A' n' c'] 26)) w.heap.size 26 #[.int .i64 3, .slice A n c, .slice A' n' c'] := Blk.new w _ _
  have hs0 : (w.alloc (.cells #[.int .i64 3, .slice A n c, .slice A' n' c'] 26)).heap.size = w.heap.size + 1 := by simp
  obtain ⟨FV, hFV⟩ : ∃ FV, FV = stC forkS (.slice none 0 0) := ⟨_, rfl⟩
  have HBF := Lib.hid (fun W => build_fork W)
  have ha := add_any (hm.below b0) forkS (.slice none 0 0) ⟨rfl, .inl ⟨rfl, rfl⟩⟩ (fun b hb => by cases hb) (by omega)
  rw [show stC ⟨fun _ => false, true, []⟩ (.slice none 0 0) = FV from hFV.symm] at HBF
  rw [← hFV] at ha
  have HA := Lib.hid ha
  have HK0 := Lib.hid k0
  have HKP := Lib.hid (kept_alloc X w (.cells #[.int .i64 3, .slice A n c, .slice A' n' c'] 26))
  have hXl := Lib.hid (fun j (hj : X j) => hm.old hj)
  have HK := Lib.hid hk
  have HIH := Lib.hid IH
  have HRS := Lib.hid (fun (i : Nat) (t : Tr) (h : kids[i]? = some t) => altR_step (d := d) (nx := nx) (S := S) h)
  have HRA := Lib.hid (fun i hi => altR_at (d := d) (kids := kids) (nx := nx) (S := S) i hi)
  have HRL := Lib.hid (fun i => altR_len (d := d) (kids := kids) (nx := nx) (S := S) i)
  have HSA := Lib.hid (fun (i : Nat) (t : Tr) (h : kids[i]? = some t) => sum_take (d := d) h)
  have HR0 := Lib.hid (show altR d kids nx S 0 = S ++ [forkS] from rfl)
  generalize altR d kids nx S = R at *
  obtain ⟨F, hF⟩ : ∃ F, F = S.length := ⟨_, rfl⟩
  rw [← hF] at HA HRS HRA ⊢
  have HF := Lib.hid hF
  have hFl : F + 1 + (kids.map (nodesT d)).sum ≤ 90000 := by omega
  clear ha hFV k0 b0 hm hk IH hF hl
  go_enter Try.func97, Try.ntmps97
  go_wp2_with (refine wpList_build1 rfl 175 1 (.const (.bool true)) rfl (.bool true) (.agg FV) rfl (HBF.out _) ?_)
  refine HA.out.mono ?_
  rintro e w1 ⟨rfl, X1, hm1, hx1, hk1⟩
  have hnN : ¬ X w.heap.size := fun h => by have := hXl.out _ h; omega
  have kb1 : Blk w1 w.heap.size 26 #[.int .i64 3, .slice A n c, .slice A' n' c'] := (hk1.block _ HK0.out.lt hnN).trans HK0.out
  have HX1 := Lib.hid (show ∀ x, X1 x → X x ∨ w.heap.size + 1 ≤ x from fun x hx => by
    rcases hx1 x hx with h | h | h
    · exact .inl h
    · cases h
    · exact .inr (by omega))
  have HKP1 := Lib.hid (HKP.out.trans hk1 (fun j hj => .inl hj))
  have hw0 : w1.cell? ⟨w.heap.size, 0, none⟩ = some (.int .i64 3) := kb1.cell 0
  have hw2 : w1.cell? ⟨w.heap.size, 2, none⟩ = some (.slice A' n' c') := kb1.cell 2
  have HM1 := Lib.hid (show Mach w1 X1 pp start steps (R 0) by rw [HR0.out]; exact hm1)
  have HKB1 := Lib.hid kb1
  clear hm1 hx1 hk1 kb1 HA HKP
  go_wp2_with fail
  go_loopw [10, 70] (fun _ vi wr => ∃ (m : Nat) (Xr : Nat → Prop), m ≤ n' ∧ vi = .int .i64 (m : Nat) ∧ Mach wr Xr pp start steps (R m) ∧ (∀ x, Xr x → X x ∨ w.heap.size + 1 ≤ x) ∧ Kept X w wr ∧ Blk wr w.heap.size 26 #[.int .i64 3, .slice A n c, .slice A' n' c']) (fun _ vi _ => n' - (intOf vi).toNat)
  case atStart => exact ⟨0, X1, Nat.zero_le _, rfl, HM1.out, HX1.out, HKP1.out, HKB1.out⟩
  case round =>
    clear HM1 HX1 HKP1 HKB1 hw0 hw2
    obtain ⟨m, Xr, hmn, rfl, hm, hx, hkp, hb⟩ := hrel
    have hw2 : wr.cell? ⟨w.heap.size, 2, none⟩ = some (.slice A' n' c') := hb.cell 2
    have HB := Lib.hid hb
    have HM := Lib.hid hm
    have HKQ := Lib.hid hkp
    have HX := Lib.hid hx
    have hsw := hkp.size
    have hswb := hb.lt
    clear hb hm hkp hx
    by_cases hlt : m < n'
    · have hlt' : (m : Int) < (n' : Int) := by omega
      have hm0 : (0 : Int) ≤ (m : Int) := by omega
      obtain ⟨b, o, rfl, hbo, hcells⟩ := HK.out.2 (by omega)
      obtain ⟨t, htk⟩ : ∃ t, kids[m]? = some t := ⟨kids[m]'(by omega), List.getElem?_eq_getElem _⟩
      obtain ⟨v0, v1, v2, e0, e1, e2, htr⟩ := hcells m t htk
      obtain ⟨tk, tA, tn, tc, tA', tn', tc', rfl, rfl, rfl⟩ := tree_shape htr
      have hbk := HKQ.out.block b hbo.1 hbo.2
      replace e0 := (World.cell?_of_block (a := ⟨b, o + m * 3, none⟩) hbk).trans e0
      replace e1 := (World.cell?_of_block (a := ⟨b, o + m * 3 + 1, none⟩) hbk).trans e1
      replace e2 := (World.cell?_of_block (a := ⟨b, o + m * 3 + 2, none⟩) hbk).trans e2
      have hxw : ∀ j, Xr j → X j ∨ w.heap.size ≤ j := fun j hj => by
        rcases HX.out j hj with h | h
        · exact .inl h
        · exact .inr (by omega)
      have htr2 : TreeAt (wr.alloc (.cells #[.int .i64 tk, .slice tA tn tc, .slice tA' tn' tc'] 26)) (Off (wr.alloc (.cells #[.int .i64 tk, .slice tA tn tc, .slice tA' tn' tc'] 26)) Xr) d t [.int .i64 tk, .slice tA tn tc, .slice tA' tn' tc'] := tree_off (tree_off htr HKQ.out hxw) (kept_alloc Xr wr _) (fun j hj => .inl hj)
      have hsum := HSA.out m t htk
      have hlenR := HRL.out m
      obtain ⟨⟨x, hxa, hxl⟩, hxlt⟩ := HRA.out m (by omega)
      have hext := ahead_ext d t nx (R m)
      have HR := Lib.hid (HIH.out t _ _ _ (wr.alloc (.cells #[.int .i64 tk, .slice tA tn tc, .slice tA' tn' tc'] 26)) Xr pp start steps (R m) nx htr2 (hg t (List.mem_of_getElem? htk)) (HM.out.alloc _) hnx (by have := HF.out; omega))
      have HST := Lib.hid (HRS.out m t htk)
      generalize hQ : aheadT d t nx (R m) = Q at HR HST hext
      have HAT := Lib.hid (show Q.2[F]? = some x from (hext.keep F hxlt).trans hxa)
      have HXL := Lib.hid hxl
      clear htr hcells htk hbk htr2 hext hQ hxa hxl hxlt hlenR hsum
      go_wp2_with fail
      refine HR.out.mono ?_
      rintro e w3 ⟨rfl, X3, hm3, hx3, hk3⟩
      have hnb : ¬ Xr w.heap.size := fun hx => by
        rcases HX.out _ hx with h | h
        · exact hnN h
        · omega
      have hs3 := hk3.size
      have hs3' : wr.heap.size + 1 ≤ w3.heap.size := by simpa using hs3
      have kb3 : Blk w3 w.heap.size 26 #[.int .i64 3, .slice A n c, .slice (some ⟨b, o, none⟩) n' c'] := (hk3.block _ (by simp; omega) hnb).trans (HB.out.alloc _)
      have HX3 := Lib.hid (show ∀ x, X3 x → X x ∨ w.heap.size + 1 ≤ x from fun x hx => by
        rcases hx3 x hx with h | h
        · exact HX.out x h
        · exact .inr (by simp at h; omega))
      have hkp3 : Kept X w w3 := (HKQ.out.alloc _).trans hk3 hxw
      have HJ := Lib.hid (join_any (hm3.alloc (.cells #[.int .i64 (Q.1 : Nat)] 3)) HAT.out (tb := w3.heap.size) (ns := [Q.1]) (Blk.new w3 3 #[.int .i64 (Q.1 : Nat)]) (by simp) (by have := HXL.out; simp only [List.length_singleton]; omega) 1)
      rw [← HST.out] at HJ
      have HKQ3 := Lib.hid hkp3
      have HKB3 := Lib.hid kb3
      clear hm3 hx3 hk3 kb3 hkp3 HR HST
      go_wp2_with fail
      refine HJ.out.mono ?_
      rintro e w4 ⟨rfl, X4, hm4, hx4, hk4⟩
      have hnb3 : ¬ X3 w.heap.size := fun hx => by
        rcases HX3.out _ hx with h | h
        · exact hnN h
        · omega
      have HKB4 := Lib.hid (show Blk w4 w.heap.size 26 #[.int .i64 3, .slice A n c, .slice (some ⟨b, o, none⟩) n' c'] from (hk4.block _ (by simp; omega) hnb3).trans (HKB3.out.alloc _))
      have HX4 := Lib.hid (show ∀ x, X4 x → X x ∨ w.heap.size + 1 ≤ x from fun x hx => by
        rcases hx4 x hx with h | h
        · exact HX3.out x h
        · exact .inr (by simp at h; omega))
      have HKQ4 := Lib.hid ((HKQ3.out.alloc (.cells #[.int .i64 (Q.1 : Nat)] 3)).trans hk4 (fun j hj => by
        rcases HX3.out j hj with h | h
        · exact .inl h
        · exact .inr (by omega)))
      have HM4 := Lib.hid hm4
      clear hm4 hx4 hk4 HJ
      go_wp2
      go_roundw
      case rel => exact ⟨m + 1, X4, by omega, by go_num, HM4.out, HX4.out, HKQ4.out, HKB4.out⟩
      case measure => simp [intOf]; omega
    · obtain rfl : n' = m := by omega
      have hlt' : ¬ (n' : Int) < (n' : Int) := by omega
      have HFIN := Lib.hid (show ∃ X', Mach wr X' pp start steps (R n') ∧ (∀ j, X' j → X j ∨ w.heap.size ≤ j) ∧ Kept X w wr from ⟨Xr, HM.out, fun j hj => by
        rcases HX.out j hj with h | h
        · exact .inl h
        · exact .inr (by omega), HKQ.out⟩)
      go_wp2
      go_ret
      exact ⟨rfl, HFIN.out⟩
theorem nodes_kids {d k : Nat} {ts : List Tr} (hg : ∀ t, t ∈ ts → GoodT d t) : ts.length ≤ (ts.map (nodesT d)).sum ∨ k = 0 := by
  left
  induction ts with
  | nil => simp
  | cons t ts ih =>
    have := ih (fun t ht => hg t (List.mem_cons_of_mem _ ht))
    have h1 : 1 ≤ nodesT d t := by
      have := hg t (List.mem_cons_self ..)
      match d, t, this with
      | d + 1, .mk k rs kids, _ => unfold nodesT; omega
    rw [List.map_cons, List.sum_cons, List.length_cons]; omega
/-- A right tree's states are added. -/
theorem ahead_any : ∀ d, AhIH d
  | 0 => fun t v0 v1 v2 w X pp start steps S nx h _ _ _ _ => h.elim
  | d + 1 => fun t v0 v1 v2 w X pp start steps S nx h hg hm hnx hl => by
    have ih := ahead_any d
    obtain ⟨k, rs, kids⟩ := t
    obtain ⟨A, n, c, A', n', c', e, hn, hn', hr, hlk, hk⟩ := h
    obtain ⟨g1, g2, g3, g4⟩ := hg
    simp only [List.cons.injEq, and_true] at e
    obtain ⟨rfl, rfl, rfl⟩ := e
    have hkt : KidsO w X d n' A' kids := ⟨hlk, hk⟩
    have hl2 : S.length + 1 + (kids.map (nodesT d)).sum ≤ 90000 := by unfold nodesT at hl; omega
    rcases (by omega : k = 1 ∨ k = 2 ∨ k = 3 ∨ k = 4 ∨ k = 5 ∨ k = 6) with rfl | rfl | rfl | rfl | rfl | rfl
    · exact ahead1_any d rs kids A A' n c n' c' w X pp start steps S nx hr hn hm hnx (by omega)
    · exact ahead2_any ih rs kids A A' n c n' c' w X pp start steps S nx hkt hn'.1 g4 hm hnx (by omega)
    · exact ahead3_any ih rs kids A A' n c n' c' w X pp start steps S nx hkt hn'.1 (by have := (nodes_kids (k := 1) g4).resolve_right (by decide); omega) g4 hm hnx hl2
    all_goals
      match kids, g3 (by decide), g4, hkt, hl2 with
      | t :: r, _, g4, hkt, hl2 =>
        have hl3 : S.length + 1 + nodesT d t ≤ 90000 := by rw [List.map_cons, List.sum_cons] at hl2; omega
        first
          | exact ahead4_any ih rs t r A A' n c n' c' w X pp start steps S nx hkt (g4 t (List.mem_cons_self ..)) hm hnx hl3
          | exact ahead5_any ih rs t r A A' n c n' c' w X pp start steps S nx hkt (g4 t (List.mem_cons_self ..)) hm hnx hl3
          | exact ahead6_any ih rs t r A A' n c n' c' w X pp start steps S nx hkt (g4 t (List.mem_cons_self ..)) hm hnx hl3
end Go.Proofs.Ytjnhmcgjeljcmaa
namespace Go.Proofs.Ytjnhmcgjeljcmaa
open Go.RowKit Go.Maps

/-- Is a node of this kind, with so many kids, wrong? -/
def wrong1 (k : Int) (n : Nat) : Bool := if k = 1 ∨ k = 2 ∨ k = 3 then false else if k = 4 ∨ k = 5 ∨ k = 6 then n == 0 else true
def wrongT : Nat → Tr → Bool
  | 0, _ => true
  | d + 1, .mk k _ kids => wrong1 k kids.length || kids.any (wrongT d)
/-- How deep a tree is. -/
def highT : Nat → Tr → Nat
  | 0, _ => 0
  | d + 1, .mk _ _ kids => 1 + (kids.map (highT d)).foldr max 0
theorem foldr_max_le {l : List Nat} {x : Nat} (h : x ∈ l) : x ≤ l.foldr max 0 := by
  induction l with
  | nil => exact nomatch h
  | cons a l ih =>
    rw [List.foldr_cons]
    rcases List.mem_cons.1 h with rfl | h
    · exact Nat.le_max_left _ _
    · exact Nat.le_trans (ih h) (Nat.le_max_right _ _)
theorem good_of : ∀ (d : Nat) (t : Tr), wrongT d t = false → GoodT d t
  | 0, _, h => by cases h
  | d + 1, .mk k rs kids, h => by
    unfold wrongT at h
    rw [Bool.or_eq_false_iff] at h
    obtain ⟨h1, h2⟩ := h
    have hk : ∀ t, t ∈ kids → GoodT d t := fun t ht => good_of d t (by
      rw [List.any_eq_false] at h2
      have := h2 t ht
      simpa using this)
    unfold wrong1 at h1
    by_cases a : k = 1 ∨ k = 2 ∨ k = 3
    · exact ⟨by omega, by omega, fun h => by omega, hk⟩
    · rw [if_neg a] at h1
      by_cases b : k = 4 ∨ k = 5 ∨ k = 6
      · rw [if_pos b] at h1
        refine ⟨by omega, by omega, fun _ e => ?_, hk⟩
        subst e
        cases h1
      · rw [if_neg b] at h1; cases h1
theorem good_wrong : ∀ (d : Nat) (t : Tr), GoodT d t → wrongT d t = false
  | 0, _, h => h.elim
  | d + 1, .mk k rs kids, ⟨g1, g2, g3, g4⟩ => by
    unfold wrongT
    rw [Bool.or_eq_false_iff]
    refine ⟨?_, ?_⟩
    · unfold wrong1
      by_cases a : k = 1 ∨ k = 2 ∨ k = 3
      · rw [if_pos a]
      · rw [if_neg a, if_pos (by omega)]
        have := g3 (by omega)
        match kids, this with
        | _ :: _, _ => rfl
    · rw [List.any_eq_false]
      intro t ht
      rw [good_wrong d t (g4 t ht)]; simp
set_option maxHeartbeats 400000 in
set_option maxRecDepth 100000 in
theorem nwrong_any (k : Int) (A A' : Option Addr) (n c n' c' : Nat) (w : World) : Calls Try.prog 121 #[.agg #[.int .i64 k, .slice A n c, .slice A' n' c']] w fun e w' => e = .returned (.bool (wrong1 k n')) ∧ Below w.heap.size w w' := by
  have hb := Lib.hid ((Below.refl w.heap.size w).alloc (Nat.le_refl _) (.cells #[.int .i64 k, .slice A n c, .slice A' n' c'] 26))
  have hz := Lib.hid (show ((n' : Int) == 0) = (n' == 0) by rw [Bool.eq_iff_iff]; simp)
  by_cases h1 : k = 1 ∨ k = 2 ∨ k = 3
  · have HW := Lib.hid (show wrong1 k n' = false by unfold wrong1; rw [if_pos h1])
    rw [HW.out]
    rcases h1 with rfl | rfl | rfl
    all_goals
      go_enter Try.func121, Try.ntmps121
      go_wp2
      go_ret
      exact ⟨rfl, hb.out⟩
  · by_cases h2 : k = 4 ∨ k = 5 ∨ k = 6
    · have HW := Lib.hid (show wrong1 k n' = (n' == 0) by unfold wrong1; rw [if_neg h1, if_pos h2])
      rw [HW.out]
      clear h1
      rcases h2 with rfl | rfl | rfl
      all_goals
        go_enter Try.func121, Try.ntmps121
        go_wp2
        go_ret
        exact ⟨ret_bool hz.out, hb.out⟩
    · have HW := Lib.hid (show wrong1 k n' = true by unfold wrong1; rw [if_neg h1, if_neg h2])
      rw [HW.out]
      have q1 : ((k : Int) == 1) = false := by simp; omega
      have q2 : ((k : Int) == 2) = false := by simp; omega
      have q3 : ((k : Int) == 3) = false := by simp; omega
      have q4 : ((k : Int) == 4) = false := by simp; omega
      have q5 : ((k : Int) == 5) = false := by simp; omega
      have q6 : ((k : Int) == 6) = false := by simp; omega
      clear h1 h2
      go_enter Try.func121, Try.ntmps121
      go_wp2
      go_ret
      exact ⟨rfl, hb.out⟩
/-- What counting leaves. -/
def CountIH (d : Nat) : Prop := ∀ (t : Tr) (v0 v1 v2 : Value) (w : World) (cp : Nat) (N deep : Nat) (lg wr : Bool), TreeAt w (fun b => b < w.heap.size ∧ b ≠ cp) d t [v0, v1, v2] → Blk w cp 171 #[.int .i64 (N : Nat), .bool lg, .bool wr] → N + nodesT d t ≤ 1000 → deep + highT d t ≤ 301 →
  Calls Try.prog 96 #[.pointer (some ⟨cp, 0, none⟩), .agg #[v0, v1, v2], .int .i64 (deep : Nat)] w fun e w' => e = .returned (.tuple #[]) ∧ Blk w' cp 171 #[.int .i64 ((N + nodesT d t : Nat) : Int), .bool false, .bool (wr || wrongT d t)] ∧ Kept (fun j => j = cp) w w'
theorem count_cells {w : World} {cp : Nat} {a b c : Value} (h : Blk w cp 171 #[a, b, c]) : w.cell? ⟨cp, 0, none⟩ = some a ∧ w.cell? ⟨cp, 1, none⟩ = some b ∧ w.cell? ⟨cp, 2, none⟩ = some c ∧ w.frozen? ⟨cp, 0, none⟩ = false ∧ w.frozen? ⟨cp, 1, none⟩ = false ∧ w.frozen? ⟨cp, 2, none⟩ = false := blk3 h
set_option maxHeartbeats 1000000 in
set_option maxRecDepth 100000 in
theorem count_any : ∀ d, CountIH d
  | 0 => fun t v0 v1 v2 w cp N deep lg wr h _ _ _ => h.elim
  | d + 1 => fun t v0 v1 v2 w cp N deep lg wr h hb hN hD => by
    have ih := count_any d
    obtain ⟨k, rs, kids⟩ := t
    obtain ⟨A, n, c, A', n', c', e, hn, hn', hr, hlk, hk⟩ := h
    simp only [List.cons.injEq, and_true] at e
    obtain ⟨rfl, rfl, rfl⟩ := e
    have hnN : nodesT (d + 1) (.mk k rs kids) = 1 + (kids.map (nodesT d)).sum := rfl
    have hhN : highT (d + 1) (.mk k rs kids) = 1 + (kids.map (highT d)).foldr max 0 := rfl
    have hwN : wrongT (d + 1) (.mk k rs kids) = (wrong1 k n' || kids.any (wrongT d)) := by rw [← hlk]; rfl
    rw [hnN] at hN
    rw [hhN] at hD
    rw [hnN, hwN]
    clear hnN hhN hwN hr
    have hcp := hb.lt
    obtain ⟨p0, p1, p2, f0, f1, f2⟩ := count_cells hb
    have hne : w.heap.size ≠ cp := by omega
    have q1 : ¬ (1000 : Int) < (N : Int) + 1 := by omega
    have q2 : ¬ (300 : Int) < (deep : Int) := by omega
    unfold maxLen at hn'
    have hnn := hn'.1
    have hwrp : IntKind.i64.wrap ((N : Int) + 1) = (N : Int) + 1 := by rw [IntKind.wrap_i64]; omega
    have hb2 : Blk ((w.setCell ⟨cp, 0, none⟩ (.int .i64 ((N : Int) + 1))).setCell ⟨cp, 1, none⟩ (.bool false)) cp 171 #[.int .i64 ((N : Int) + 1), .bool false, .bool wr] := (hb.set_ 0 _).set_ 1 _
    have hsz2 : ((w.setCell ⟨cp, 0, none⟩ (.int .i64 ((N : Int) + 1))).setCell ⟨cp, 1, none⟩ (.bool false)).heap.size = w.heap.size := by simp [World.setCell]
    have hk2 : Kept (fun j => j = cp) w ((w.setCell ⟨cp, 0, none⟩ (.int .i64 ((N : Int) + 1))).setCell ⟨cp, 1, none⟩ (.bool false)) := ((Kept.refl (fun j => j = cp) w).set_ (p := ⟨cp, 0, none⟩) (.inl rfl) _).set_ (p := ⟨cp, 1, none⟩) (.inl rfl) _
    have hbx := hb2.alloc (.cells #[.int .i64 k, .slice A n c, .slice A' n' c'] 26)
    have kx := Blk.new ((w.setCell ⟨cp, 0, none⟩ (.int .i64 ((N : Int) + 1))).setCell ⟨cp, 1, none⟩ (.bool false)) 26 #[.int .i64 k, .slice A n c, .slice A' n' c']
    rw [hsz2] at kx
    have hkx := hk2.alloc (.cells #[.int .i64 k, .slice A n c, .slice A' n' c'] 26)
    have HBX := Lib.hid hbx
    have HKX := Lib.hid kx
    have HPX := Lib.hid hkx
    have HB0 := Lib.hid hb2
    have HP0 := Lib.hid hk2
    clear hb2 hsz2 hk2 hb hbx kx hkx hn' hn
    cases wr with
    | true =>
      have HB2 := Lib.hid ((HB0.out.set_ 2 (.bool true)).alloc (.cells #[.int .i64 k, .slice A n c, .slice A' n' c'] 26))
      have hk3 := Blk.new (((w.setCell ⟨cp, 0, none⟩ (.int .i64 ((N : Int) + 1))).setCell ⟨cp, 1, none⟩ (.bool false)).setCell ⟨cp, 2, none⟩ (.bool true)) 26 #[.int .i64 k, .slice A n c, .slice A' n' c']
      rw [show (((w.setCell ⟨cp, 0, none⟩ (.int .i64 ((N : Int) + 1))).setCell ⟨cp, 1, none⟩ (.bool false)).setCell ⟨cp, 2, none⟩ (.bool true)).heap.size = w.heap.size by simp [World.setCell]] at hk3
      have HK2 := Lib.hid hk3
      have HP2 := Lib.hid ((HP0.out.set_ (p := ⟨cp, 2, none⟩) (.inl rfl) (.bool true)).alloc (.cells #[.int .i64 k, .slice A n c, .slice A' n' c'] 26))
      clear hk3
      clear HBX HKX HPX
      go_enter Try.func96, Try.ntmps96
      go_wp2_with fail
      go_loopw [6] (fun vi wx => ∃ m : Nat, m ≤ n' ∧ vi = .int .i64 (m : Nat) ∧ Blk wx cp 171 #[.int .i64 ((N + 1 + ((kids.take m).map (nodesT d)).sum : Nat) : Int), .bool false, .bool (true || (kids.take m).any (wrongT d))] ∧ Blk wx w.heap.size 26 #[.int .i64 k, .slice A n c, .slice A' n' c'] ∧ Kept (fun j => j = cp) w wx) (fun vi _ => n' - (intOf vi).toNat)
      case atStart => exact ⟨0, Nat.zero_le _, rfl, by rw [List.take_zero]; simpa using HB2.out, HK2.out, HP2.out⟩
      case round =>
        clear HB2 HK2 HP2
        obtain ⟨m, hm, rfl, hb, hkb, hkp⟩ := hrel
        have HMB := Lib.hid hb
        have HMK := Lib.hid hkb
        have HMP := Lib.hid hkp
        obtain ⟨N1, hN1⟩ : ∃ N1, N1 = N + 1 + ((kids.take m).map (nodesT d)).sum := ⟨_, rfl⟩
        obtain ⟨Z1, hZ1⟩ : ∃ Z1, Z1 = (true || (kids.take m).any (wrongT d)) := ⟨_, rfl⟩
        rw [← hN1, ← hZ1] at hb
        have hlb := hb.lt
        obtain ⟨p0, p1, p2, f0, f1, f2⟩ := count_cells hb
        have hw2 : wr.cell? ⟨w.heap.size, 2, none⟩ = some (.slice A' n' c') := hkb.cell 2
        have hsw := hkp.size
        by_cases hlt : m < n'
        · have hlt' : (m : Int) < (n' : Int) := by omega
          have hm0 : (0 : Int) ≤ (m : Int) := by omega
          obtain ⟨b, o, rfl, hbo, hcells⟩ := hk (by omega)
          obtain ⟨t, htk⟩ : ∃ t, kids[m]? = some t := ⟨kids[m]'(by omega), List.getElem?_eq_getElem _⟩
          obtain ⟨v0, v1, v2, e0, e1, e2, htr⟩ := hcells m t htk
          have hbk := hkp.block b hbo.1 hbo.2
          replace e0 := (World.cell?_of_block (a := ⟨b, o + m * 3, none⟩) hbk).trans e0
          replace e1 := (World.cell?_of_block (a := ⟨b, o + m * 3 + 1, none⟩) hbk).trans e1
          replace e2 := (World.cell?_of_block (a := ⟨b, o + m * 3 + 2, none⟩) hbk).trans e2
          have hsum := sum_take (d := d) htk
          have hhi := foldr_max_le (List.mem_map.2 ⟨t, List.mem_of_getElem? htk, rfl⟩ : highT d t ∈ kids.map (highT d))
          have HR := Lib.hid (ih t v0 v1 v2 wr cp N1 (deep + 1) false Z1 ((htr.keep fun i hi => hkp.block i hi.1 hi.2).mono fun i hi => ⟨Nat.lt_of_lt_of_le hi.1 hsw, hi.2⟩) hb (by omega) (by omega))
          have HTS := Lib.hid (takeS htk)
          have HN1 := Lib.hid hN1
          have HZ1 := Lib.hid hZ1
          clear hcells htr htk hbk hN1 hZ1 hb hkb hkp
          go_wp2_with fail
          refine HR.out.mono ?_
          rintro e w3 ⟨rfl, hb3, hk3⟩
          have HB3 := Lib.hid (show Blk w3 cp 171 #[.int .i64 ((N + 1 + ((kids.take (m + 1)).map (nodesT d)).sum : Nat) : Int), .bool false, .bool (true || (kids.take (m + 1)).any (wrongT d))] by
            rw [HTS.out, List.map_append, List.sum_append, List.any_append]
            have e3 : N + 1 + (((kids.take m).map (nodesT d)).sum + ([t].map (nodesT d)).sum) = N1 + nodesT d t := by rw [HN1.out]; simp; omega
            have e4 : (true || ((kids.take m).any (wrongT d) || [t].any (wrongT d))) = (Z1 || wrongT d t) := by rw [HZ1.out]; simp
            rw [e3, e4]; exact hb3)
          have HKB3 := Lib.hid (show Blk w3 w.heap.size 26 #[.int .i64 k, .slice A n c, .slice (some ⟨b, o, none⟩) n' c'] from (hk3.block _ HMK.out.lt hne).trans HMK.out)
          have HKP3 := Lib.hid (HMP.out.trans hk3 (fun j hj => .inl hj))
          clear hb3 hk3 HR
          go_wp2
          go_roundw
          case rel => exact ⟨m + 1, by omega, by go_num, HB3.out, HKB3.out, HKP3.out⟩
          case measure => simp [intOf]; omega
        · obtain rfl : n' = m := by omega
          have hlt' : ¬ (n' : Int) < (n' : Int) := by omega
          have HFIN := Lib.hid (show Blk wr cp 171 #[.int .i64 ((N + (1 + (kids.map (nodesT d)).sum) : Nat) : Int), .bool false, .bool (true || (wrong1 k n' || kids.any (wrongT d)))] by
            have h := HMB.out
            rw [List.take_of_length_le (by omega)] at h
            rw [show N + (1 + (kids.map (nodesT d)).sum) = N + 1 + (kids.map (nodesT d)).sum by omega, show (true || (wrong1 k n' || kids.any (wrongT d))) = (true || kids.any (wrongT d)) by simp]
            exact h)
          clear hN1 hZ1
          go_wp2
          go_end0
          exact ⟨rfl, HFIN.out, HMP.out⟩
    | false =>
      have HW := Lib.hid (fun W => nwrong_any k A A' n c n' c' W)
      go_enter Try.func96, Try.ntmps96
      go_wp2_with fail
      refine (HW.out _).mono ?_
      rintro e w1 ⟨rfl, b1⟩
      have hbq := HBX.out.below b1 HBX.out.lt
      obtain ⟨p0, p1, p2, f0, f1, f2⟩ := count_cells hbq
      have HB2 := Lib.hid (hbq.set_ 2 (.bool (wrong1 k n')))
      have HK2 := Lib.hid ((HKX.out.below b1 HKX.out.lt).far (p := ⟨cp, 2, none⟩) hne (.bool (wrong1 k n')))
      have HP2 := Lib.hid ((HPX.out.trans (kept_below b1) (fun j hj => .inl hj)).set_ (p := ⟨cp, 2, none⟩) (.inl rfl) (.bool (wrong1 k n')))
      clear HBX HKX HPX hbq b1
      go_wp2_with fail
      go_loopw [6] (fun vi wx => ∃ m : Nat, m ≤ n' ∧ vi = .int .i64 (m : Nat) ∧ Blk wx cp 171 #[.int .i64 ((N + 1 + ((kids.take m).map (nodesT d)).sum : Nat) : Int), .bool false, .bool (wrong1 k n' || (kids.take m).any (wrongT d))] ∧ Blk wx w.heap.size 26 #[.int .i64 k, .slice A n c, .slice A' n' c'] ∧ Kept (fun j => j = cp) w wx) (fun vi _ => n' - (intOf vi).toNat)
      case atStart => exact ⟨0, Nat.zero_le _, rfl, by rw [List.take_zero]; simpa using HB2.out, HK2.out, HP2.out⟩
      case round =>
        clear HB2 HK2 HP2
        obtain ⟨m, hm, rfl, hb, hkb, hkp⟩ := hrel
        have HMB := Lib.hid hb
        have HMK := Lib.hid hkb
        have HMP := Lib.hid hkp
        obtain ⟨N1, hN1⟩ : ∃ N1, N1 = N + 1 + ((kids.take m).map (nodesT d)).sum := ⟨_, rfl⟩
        obtain ⟨Z1, hZ1⟩ : ∃ Z1, Z1 = (wrong1 k n' || (kids.take m).any (wrongT d)) := ⟨_, rfl⟩
        rw [← hN1, ← hZ1] at hb
        have hlb := hb.lt
        obtain ⟨p0, p1, p2, f0, f1, f2⟩ := count_cells hb
        have hw2 : wr.cell? ⟨w.heap.size, 2, none⟩ = some (.slice A' n' c') := hkb.cell 2
        have hsw := hkp.size
        by_cases hlt : m < n'
        · have hlt' : (m : Int) < (n' : Int) := by omega
          have hm0 : (0 : Int) ≤ (m : Int) := by omega
          obtain ⟨b, o, rfl, hbo, hcells⟩ := hk (by omega)
          obtain ⟨t, htk⟩ : ∃ t, kids[m]? = some t := ⟨kids[m]'(by omega), List.getElem?_eq_getElem _⟩
          obtain ⟨v0, v1, v2, e0, e1, e2, htr⟩ := hcells m t htk
          have hbk := hkp.block b hbo.1 hbo.2
          replace e0 := (World.cell?_of_block (a := ⟨b, o + m * 3, none⟩) hbk).trans e0
          replace e1 := (World.cell?_of_block (a := ⟨b, o + m * 3 + 1, none⟩) hbk).trans e1
          replace e2 := (World.cell?_of_block (a := ⟨b, o + m * 3 + 2, none⟩) hbk).trans e2
          have hsum := sum_take (d := d) htk
          have hhi := foldr_max_le (List.mem_map.2 ⟨t, List.mem_of_getElem? htk, rfl⟩ : highT d t ∈ kids.map (highT d))
          have HR := Lib.hid (ih t v0 v1 v2 wr cp N1 (deep + 1) false Z1 ((htr.keep fun i hi => hkp.block i hi.1 hi.2).mono fun i hi => ⟨Nat.lt_of_lt_of_le hi.1 hsw, hi.2⟩) hb (by omega) (by omega))
          have HTS := Lib.hid (takeS htk)
          have HN1 := Lib.hid hN1
          have HZ1 := Lib.hid hZ1
          clear hcells htr htk hbk hN1 hZ1 hb hkb hkp
          go_wp2_with fail
          refine HR.out.mono ?_
          rintro e w3 ⟨rfl, hb3, hk3⟩
          have HB3 := Lib.hid (show Blk w3 cp 171 #[.int .i64 ((N + 1 + ((kids.take (m + 1)).map (nodesT d)).sum : Nat) : Int), .bool false, .bool (wrong1 k n' || (kids.take (m + 1)).any (wrongT d))] by
            rw [HTS.out, List.map_append, List.sum_append, List.any_append]
            have e3 : N + 1 + (((kids.take m).map (nodesT d)).sum + ([t].map (nodesT d)).sum) = N1 + nodesT d t := by rw [HN1.out]; simp; omega
            have e4 : (wrong1 k n' || ((kids.take m).any (wrongT d) || [t].any (wrongT d))) = (Z1 || wrongT d t) := by rw [HZ1.out]; simp [Bool.or_assoc]
            rw [e3, e4]; exact hb3)
          have HKB3 := Lib.hid (show Blk w3 w.heap.size 26 #[.int .i64 k, .slice A n c, .slice (some ⟨b, o, none⟩) n' c'] from (hk3.block _ HMK.out.lt hne).trans HMK.out)
          have HKP3 := Lib.hid (HMP.out.trans hk3 (fun j hj => .inl hj))
          clear hb3 hk3 HR
          go_wp2
          go_roundw
          case rel => exact ⟨m + 1, by omega, by go_num, HB3.out, HKB3.out, HKP3.out⟩
          case measure => simp [intOf]; omega
        · obtain rfl : n' = m := by omega
          have hlt' : ¬ (n' : Int) < (n' : Int) := by omega
          have HFIN := Lib.hid (show Blk wr cp 171 #[.int .i64 ((N + (1 + (kids.map (nodesT d)).sum) : Nat) : Int), .bool false, .bool (false || (wrong1 k n' || kids.any (wrongT d)))] by
            have h := HMB.out
            rw [List.take_of_length_le (by omega)] at h
            rw [show N + (1 + (kids.map (nodesT d)).sum) = N + 1 + (kids.map (nodesT d)).sum by omega, show (false || (wrong1 k n' || kids.any (wrongT d))) = (wrong1 k n' || kids.any (wrongT d)) by simp]
            exact h)
          clear hN1 hZ1
          go_wp2
          go_end0
          exact ⟨rfl, HFIN.out, HMP.out⟩
end Go.Proofs.Ytjnhmcgjeljcmaa
