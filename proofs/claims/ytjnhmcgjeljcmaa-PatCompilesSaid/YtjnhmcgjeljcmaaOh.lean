/- nfa.Prog.ahead: a Star, a Plus, a Maybe. (Written by wip/gen/gen_oh.py.) -/
import Derived.Test.YtjnhmcgjeljcmaaOg
namespace Go.Proofs.Ytjnhmcgjeljcmaa
open Go.RowKit Go.Maps

def forkS : St := ⟨fun _ => false, true, []⟩
set_option maxHeartbeats 400000 in
set_option maxRecDepth 100000 in
theorem ahead6_any {d : Nat} (IH : AhIH d) (rs : List (UInt8 × UInt8)) (t : Tr) (r : List Tr) (A A' : Option Addr) (n c n' c' : Nat) (w : World) (X : Nat → Prop) (pp : Nat) (start steps : Int) (S : List St) (nx : Nat)
    (hk : KidsO w X d n' A' (t :: r)) (hg : GoodT d t) (hm : Mach w X pp start steps S) (hnx : nx ≤ 90000) (hl : S.length + 1 + nodesT d t ≤ 90000) :
    Calls Try.prog 97 #[.pointer (some ⟨pp, 0, none⟩), .agg #[.int .i64 6, .slice A n c, .slice A' n' c'], .int .i64 (nx : Nat)] w (AhPost w X pp start steps (aheadT (d + 1) (.mk 6 rs (t :: r)) nx S)) := by
  obtain ⟨R, hR⟩ : ∃ R, R = aheadT d t nx (S ++ [forkS]) := ⟨_, rfl⟩
  have HT : aheadT (d + 1) (.mk 6 rs (t :: r)) nx S = (S.length, joinM R.2 S.length [R.1, nx]) := by unfold aheadT; rw [hR, if_neg (by decide), if_neg (by decide), if_neg (by decide)]; rfl
  rw [HT]
  clear HT
  have hn0 : 0 < n' := by rw [← hk.1]; simp
  obtain ⟨b, o, rfl, hbo, hcells⟩ := hk.2 hn0
  obtain ⟨v0, v1, v2, e0, e1, e2, htr⟩ := hcells 0 t rfl
  rw [Nat.zero_mul, Nat.add_zero] at e0 e1 e2
  have hext := ahead_ext d t nx (S ++ [forkS])
  have hlen := ahead_len d t nx (S ++ [forkS])
  rw [← hR] at hext hlen
  have hls : (S ++ [forkS]).length = S.length + 1 := by simp
  have hat : (S ++ [forkS])[S.length]? = some forkS := by simp
  have HAT := Lib.hid (show R.2[S.length]? = some forkS by rw [hext.keep _ (by rw [hls]; omega)]; exact hat)
  rw [hls] at hlen
  have HR1 := Lib.hid hR
  have b0 : Below w.heap.size w (w.alloc (.cells #[.int .i64 6, .slice A n c, .slice (some ⟨b, o, none⟩) n' c'] 26)) := (Below.refl _ w).alloc (Nat.le_refl _) _
  have k0 : Blk (w.alloc (.cells #[.int .i64 6, .slice A n c, .slice (some ⟨b, o, none⟩) n' c'] 26)) w.heap.size 26 #[.int .i64 6, .slice A n c, .slice (some ⟨b, o, none⟩) n' c'] := Blk.new w _ _
  have hs0 : (w.alloc (.cells #[.int .i64 6, .slice A n c, .slice (some ⟨b, o, none⟩) n' c'] 26)).heap.size = w.heap.size + 1 := by simp
  obtain ⟨FV, hFV⟩ : ∃ FV, FV = stC forkS (.slice none 0 0) := ⟨_, rfl⟩
  have HBF := Lib.hid (fun W => build_fork W)
  have ha := add_any (hm.below b0) forkS (.slice none 0 0) ⟨rfl, .inl ⟨rfl, rfl⟩⟩ (fun b hb => by cases hb) (by omega)
  rw [show stC ⟨fun _ => false, true, []⟩ (.slice none 0 0) = FV from hFV.symm] at HBF
  rw [← hFV] at ha
  have HA := Lib.hid ha
  have HK0 := Lib.hid k0
  have HKP := Lib.hid (kept_alloc X w (.cells #[.int .i64 6, .slice A n c, .slice (some ⟨b, o, none⟩) n' c'] 26))
  have hXl := Lib.hid (fun j (hj : X j) => hm.old hj)
  have HIH := Lib.hid IH
  have HTR := Lib.hid htr
  have hn1 : (0 : Int) < (n' : Int) := by omega
  clear ha hFV k0 b0 hm hk hcells hR hext IH htr hat
  go_enter Try.func97, Try.ntmps97
  go_wp2_with (refine wpList_build1 rfl 175 1 (.const (.bool true)) rfl (.bool true) (.agg FV) rfl (HBF.out _) ?_)
  refine HA.out.mono ?_
  rintro e w1 ⟨rfl, X1, hm1, hx1, hk1⟩
  have hnN : ¬ X w.heap.size := fun h => by have := hXl.out _ h; omega
  have kb1 : Blk w1 w.heap.size 26 #[.int .i64 6, .slice A n c, .slice (some ⟨b, o, none⟩) n' c'] := (hk1.block _ HK0.out.lt hnN).trans HK0.out
  have hX1 : ∀ x, X1 x → X x ∨ w.heap.size + 1 ≤ x := fun x hx => by
    rcases hx1 x hx with h | h | h
    · exact .inl h
    · cases h
    · exact .inr (by omega)
  have hX1' : ∀ x, X1 x → X x ∨ w.heap.size ≤ x := fun x hx => by rcases hX1 x hx with h | h; exact .inl h; exact .inr (by omega)
  have hkp1 : Kept X w w1 := HKP.out.trans hk1 (fun j hj => .inl hj)
  have hbk := hkp1.block b hbo.1 hbo.2
  replace e0 := (World.cell?_of_block (a := ⟨b, o, none⟩) hbk).trans e0
  replace e1 := (World.cell?_of_block (a := ⟨b, o + 1, none⟩) hbk).trans e1
  replace e2 := (World.cell?_of_block (a := ⟨b, o + 2, none⟩) hbk).trans e2
  have hw0 : w1.cell? ⟨w.heap.size, 0, none⟩ = some (.int .i64 6) := kb1.cell 0
  have hw2 : w1.cell? ⟨w.heap.size, 2, none⟩ = some (.slice (some ⟨b, o, none⟩) n' c') := kb1.cell 2
  have HR := Lib.hid (HIH.out t v0 v1 v2 w1 X1 pp start steps (S ++ [forkS]) nx (tree_off HTR.out hkp1 hX1') hg hm1 (by omega) (by rw [hls]; omega))
  rw [← HR1.out] at HR
  have HKB1 := Lib.hid kb1
  have HX1 := Lib.hid hX1
  have HKP1 := Lib.hid hkp1
  have hlt1 := hkp1.size
  clear hm1 hx1 hk1 kb1 hX1 hX1' hkp1 hbk HA
  go_wp2_with fail
  refine HR.out.mono ?_
  rintro e w2 ⟨rfl, X2, hm2, hx2, hk2⟩
  have hnN1 : ¬ X1 w.heap.size := fun h => by
    rcases HX1.out _ h with h | h
    · exact hnN h
    · omega
  have kb2 : Blk w2 w.heap.size 26 #[.int .i64 6, .slice A n c, .slice (some ⟨b, o, none⟩) n' c'] := (hk2.block _ HKB1.out.lt hnN1).trans HKB1.out
  have hs1 : w.heap.size + 1 ≤ w1.heap.size := HKB1.out.lt
  have hX2 : ∀ x, X2 x → X x ∨ w.heap.size + 1 ≤ x := fun x hx => by
    rcases hx2 x hx with h | h
    · exact HX1.out x h
    · exact .inr (by omega)
  have hkp2 : Kept X w w2 := HKP1.out.trans hk2 (fun j hj => by
    rcases HX1.out j hj with h | h
    · exact .inl h
    · exact .inr (by omega))
  have hmj := hm2.alloc (.cells #[.int .i64 (R.1 : Nat), .int .i64 (nx : Nat)] 3)
  have HJ := Lib.hid (join_any hmj HAT.out (tb := w2.heap.size) (ns := [R.1, nx]) (Blk.new w2 3 #[.int .i64 (R.1 : Nat), .int .i64 (nx : Nat)]) (by simp) (show 0 + 2 ≤ 100000 by decide) 2)
  have HKP2 := Lib.hid hkp2
  have HX2 := Lib.hid hX2
  have HKB2 := Lib.hid kb2
  have hs2 := hk2.size
  have hs2' := kb2.lt
  clear hm2 hx2 hk2 kb2 hX2 hkp2 hmj HR hw0 hw2
  go_wp2_with fail
  refine HJ.out.mono ?_
  rintro e w3 ⟨rfl, X3, hm3, hx3, hk3⟩
  have HFIN := Lib.hid (show ∃ X', Mach w3 X' pp start steps (joinM R.2 S.length [R.1, nx]) ∧ (∀ j, X' j → X j ∨ w.heap.size ≤ j) ∧ Kept X w w3 from
    ⟨X3, hm3, fun j hj => by
      rcases hx3 j hj with h | h
      · rcases HX2.out j h with h | h
        · exact .inl h
        · exact .inr (by omega)
      · exact .inr (by simp at h; omega), (HKP2.out.alloc _).trans hk3 (fun j hj => by
      rcases HX2.out j hj with h | h
      · exact .inl h
      · exact .inr (by omega))⟩)
  have hnN2 : ¬ X2 w.heap.size := fun h => by
    rcases HX2.out _ h with h | h
    · exact hnN h
    · omega
  have kb3 : Blk w3 w.heap.size 26 #[.int .i64 6, .slice A n c, .slice (some ⟨b, o, none⟩) n' c'] := (hk3.block _ (by simp; omega) hnN2).trans (HKB2.out.alloc _)
  have hw0 : w3.cell? ⟨w.heap.size, 0, none⟩ = some (.int .i64 6) := kb3.cell 0
  clear hm3 hx3 hk3 kb3 HJ
  go_wp2
  go_ret
  exact ⟨rfl, HFIN.out⟩
set_option maxHeartbeats 400000 in
set_option maxRecDepth 100000 in
theorem ahead5_any {d : Nat} (IH : AhIH d) (rs : List (UInt8 × UInt8)) (t : Tr) (r : List Tr) (A A' : Option Addr) (n c n' c' : Nat) (w : World) (X : Nat → Prop) (pp : Nat) (start steps : Int) (S : List St) (nx : Nat)
    (hk : KidsO w X d n' A' (t :: r)) (hg : GoodT d t) (hm : Mach w X pp start steps S) (_ : nx ≤ 90000) (hl : S.length + 1 + nodesT d t ≤ 90000) :
    Calls Try.prog 97 #[.pointer (some ⟨pp, 0, none⟩), .agg #[.int .i64 5, .slice A n c, .slice A' n' c'], .int .i64 (nx : Nat)] w (AhPost w X pp start steps (aheadT (d + 1) (.mk 5 rs (t :: r)) nx S)) := by
  obtain ⟨R, hR⟩ : ∃ R, R = aheadT d t S.length (S ++ [forkS]) := ⟨_, rfl⟩
  have HT : aheadT (d + 1) (.mk 5 rs (t :: r)) nx S = (R.1, joinM R.2 S.length [R.1, nx]) := by unfold aheadT; rw [hR, if_neg (by decide), if_neg (by decide), if_neg (by decide)]; rfl
  rw [HT]
  clear HT
  have hn0 : 0 < n' := by rw [← hk.1]; simp
  obtain ⟨b, o, rfl, hbo, hcells⟩ := hk.2 hn0
  obtain ⟨v0, v1, v2, e0, e1, e2, htr⟩ := hcells 0 t rfl
  rw [Nat.zero_mul, Nat.add_zero] at e0 e1 e2
  have hext := ahead_ext d t S.length (S ++ [forkS])
  have hlen := ahead_len d t S.length (S ++ [forkS])
  rw [← hR] at hext hlen
  have hls : (S ++ [forkS]).length = S.length + 1 := by simp
  have hat : (S ++ [forkS])[S.length]? = some forkS := by simp
  have HAT := Lib.hid (show R.2[S.length]? = some forkS by rw [hext.keep _ (by rw [hls]; omega)]; exact hat)
  rw [hls] at hlen
  have HR1 := Lib.hid hR
  have b0 : Below w.heap.size w (w.alloc (.cells #[.int .i64 5, .slice A n c, .slice (some ⟨b, o, none⟩) n' c'] 26)) := (Below.refl _ w).alloc (Nat.le_refl _) _
  have k0 : Blk (w.alloc (.cells #[.int .i64 5, .slice A n c, .slice (some ⟨b, o, none⟩) n' c'] 26)) w.heap.size 26 #[.int .i64 5, .slice A n c, .slice (some ⟨b, o, none⟩) n' c'] := Blk.new w _ _
  have hs0 : (w.alloc (.cells #[.int .i64 5, .slice A n c, .slice (some ⟨b, o, none⟩) n' c'] 26)).heap.size = w.heap.size + 1 := by simp
  obtain ⟨FV, hFV⟩ : ∃ FV, FV = stC forkS (.slice none 0 0) := ⟨_, rfl⟩
  have HBF := Lib.hid (fun W => build_fork W)
  have ha := add_any (hm.below b0) forkS (.slice none 0 0) ⟨rfl, .inl ⟨rfl, rfl⟩⟩ (fun b hb => by cases hb) (by omega)
  rw [show stC ⟨fun _ => false, true, []⟩ (.slice none 0 0) = FV from hFV.symm] at HBF
  rw [← hFV] at ha
  have HA := Lib.hid ha
  have HK0 := Lib.hid k0
  have HKP := Lib.hid (kept_alloc X w (.cells #[.int .i64 5, .slice A n c, .slice (some ⟨b, o, none⟩) n' c'] 26))
  have hXl := Lib.hid (fun j (hj : X j) => hm.old hj)
  have HIH := Lib.hid IH
  have HTR := Lib.hid htr
  have hn1 : (0 : Int) < (n' : Int) := by omega
  clear ha hFV k0 b0 hm hk hcells hR hext IH htr hat
  go_enter Try.func97, Try.ntmps97
  go_wp2_with (refine wpList_build1 rfl 175 1 (.const (.bool true)) rfl (.bool true) (.agg FV) rfl (HBF.out _) ?_)
  refine HA.out.mono ?_
  rintro e w1 ⟨rfl, X1, hm1, hx1, hk1⟩
  have hnN : ¬ X w.heap.size := fun h => by have := hXl.out _ h; omega
  have kb1 : Blk w1 w.heap.size 26 #[.int .i64 5, .slice A n c, .slice (some ⟨b, o, none⟩) n' c'] := (hk1.block _ HK0.out.lt hnN).trans HK0.out
  have hX1 : ∀ x, X1 x → X x ∨ w.heap.size + 1 ≤ x := fun x hx => by
    rcases hx1 x hx with h | h | h
    · exact .inl h
    · cases h
    · exact .inr (by omega)
  have hX1' : ∀ x, X1 x → X x ∨ w.heap.size ≤ x := fun x hx => by rcases hX1 x hx with h | h; exact .inl h; exact .inr (by omega)
  have hkp1 : Kept X w w1 := HKP.out.trans hk1 (fun j hj => .inl hj)
  have hbk := hkp1.block b hbo.1 hbo.2
  replace e0 := (World.cell?_of_block (a := ⟨b, o, none⟩) hbk).trans e0
  replace e1 := (World.cell?_of_block (a := ⟨b, o + 1, none⟩) hbk).trans e1
  replace e2 := (World.cell?_of_block (a := ⟨b, o + 2, none⟩) hbk).trans e2
  have hw0 : w1.cell? ⟨w.heap.size, 0, none⟩ = some (.int .i64 5) := kb1.cell 0
  have hw2 : w1.cell? ⟨w.heap.size, 2, none⟩ = some (.slice (some ⟨b, o, none⟩) n' c') := kb1.cell 2
  have HR := Lib.hid (HIH.out t v0 v1 v2 w1 X1 pp start steps (S ++ [forkS]) S.length (tree_off HTR.out hkp1 hX1') hg hm1 (by omega) (by rw [hls]; omega))
  rw [← HR1.out] at HR
  have HKB1 := Lib.hid kb1
  have HX1 := Lib.hid hX1
  have HKP1 := Lib.hid hkp1
  have hlt1 := hkp1.size
  clear hm1 hx1 hk1 kb1 hX1 hX1' hkp1 hbk HA
  go_wp2_with fail
  refine HR.out.mono ?_
  rintro e w2 ⟨rfl, X2, hm2, hx2, hk2⟩
  have hnN1 : ¬ X1 w.heap.size := fun h => by
    rcases HX1.out _ h with h | h
    · exact hnN h
    · omega
  have kb2 : Blk w2 w.heap.size 26 #[.int .i64 5, .slice A n c, .slice (some ⟨b, o, none⟩) n' c'] := (hk2.block _ HKB1.out.lt hnN1).trans HKB1.out
  have hs1 : w.heap.size + 1 ≤ w1.heap.size := HKB1.out.lt
  have hX2 : ∀ x, X2 x → X x ∨ w.heap.size + 1 ≤ x := fun x hx => by
    rcases hx2 x hx with h | h
    · exact HX1.out x h
    · exact .inr (by omega)
  have hkp2 : Kept X w w2 := HKP1.out.trans hk2 (fun j hj => by
    rcases HX1.out j hj with h | h
    · exact .inl h
    · exact .inr (by omega))
  have hmj := hm2.alloc (.cells #[.int .i64 (R.1 : Nat), .int .i64 (nx : Nat)] 3)
  have HJ := Lib.hid (join_any hmj HAT.out (tb := w2.heap.size) (ns := [R.1, nx]) (Blk.new w2 3 #[.int .i64 (R.1 : Nat), .int .i64 (nx : Nat)]) (by simp) (show 0 + 2 ≤ 100000 by decide) 2)
  have HKP2 := Lib.hid hkp2
  have HX2 := Lib.hid hX2
  have HKB2 := Lib.hid kb2
  have hs2 := hk2.size
  have hs2' := kb2.lt
  clear hm2 hx2 hk2 kb2 hX2 hkp2 hmj HR hw0 hw2
  go_wp2_with fail
  refine HJ.out.mono ?_
  rintro e w3 ⟨rfl, X3, hm3, hx3, hk3⟩
  have HFIN := Lib.hid (show ∃ X', Mach w3 X' pp start steps (joinM R.2 S.length [R.1, nx]) ∧ (∀ j, X' j → X j ∨ w.heap.size ≤ j) ∧ Kept X w w3 from
    ⟨X3, hm3, fun j hj => by
      rcases hx3 j hj with h | h
      · rcases HX2.out j h with h | h
        · exact .inl h
        · exact .inr (by omega)
      · exact .inr (by simp at h; omega), (HKP2.out.alloc _).trans hk3 (fun j hj => by
      rcases HX2.out j hj with h | h
      · exact .inl h
      · exact .inr (by omega))⟩)
  have hnN2 : ¬ X2 w.heap.size := fun h => by
    rcases HX2.out _ h with h | h
    · exact hnN h
    · omega
  have kb3 : Blk w3 w.heap.size 26 #[.int .i64 5, .slice A n c, .slice (some ⟨b, o, none⟩) n' c'] := (hk3.block _ (by simp; omega) hnN2).trans (HKB2.out.alloc _)
  have hw0 : w3.cell? ⟨w.heap.size, 0, none⟩ = some (.int .i64 5) := kb3.cell 0
  clear hm3 hx3 hk3 kb3 HJ
  go_wp2
  go_ret
  exact ⟨rfl, HFIN.out⟩
set_option maxHeartbeats 400000 in
set_option maxRecDepth 100000 in
theorem ahead4_any {d : Nat} (IH : AhIH d) (rs : List (UInt8 × UInt8)) (t : Tr) (r : List Tr) (A A' : Option Addr) (n c n' c' : Nat) (w : World) (X : Nat → Prop) (pp : Nat) (start steps : Int) (S : List St) (nx : Nat)
    (hk : KidsO w X d n' A' (t :: r)) (hg : GoodT d t) (hm : Mach w X pp start steps S) (_ : nx ≤ 90000) (hl : S.length + 1 + nodesT d t ≤ 90000) :
    Calls Try.prog 97 #[.pointer (some ⟨pp, 0, none⟩), .agg #[.int .i64 4, .slice A n c, .slice A' n' c'], .int .i64 (nx : Nat)] w (AhPost w X pp start steps (aheadT (d + 1) (.mk 4 rs (t :: r)) nx S)) := by
  obtain ⟨R, hR⟩ : ∃ R, R = aheadT d t S.length (S ++ [forkS]) := ⟨_, rfl⟩
  have HT : aheadT (d + 1) (.mk 4 rs (t :: r)) nx S = (S.length, joinM R.2 S.length [R.1, nx]) := by unfold aheadT; rw [hR, if_neg (by decide), if_neg (by decide), if_neg (by decide)]; rfl
  rw [HT]
  clear HT
  have hn0 : 0 < n' := by rw [← hk.1]; simp
  obtain ⟨b, o, rfl, hbo, hcells⟩ := hk.2 hn0
  obtain ⟨v0, v1, v2, e0, e1, e2, htr⟩ := hcells 0 t rfl
  rw [Nat.zero_mul, Nat.add_zero] at e0 e1 e2
  have hext := ahead_ext d t S.length (S ++ [forkS])
  have hlen := ahead_len d t S.length (S ++ [forkS])
  rw [← hR] at hext hlen
  have hls : (S ++ [forkS]).length = S.length + 1 := by simp
  have hat : (S ++ [forkS])[S.length]? = some forkS := by simp
  have HAT := Lib.hid (show R.2[S.length]? = some forkS by rw [hext.keep _ (by rw [hls]; omega)]; exact hat)
  rw [hls] at hlen
  have HR1 := Lib.hid hR
  have b0 : Below w.heap.size w (w.alloc (.cells #[.int .i64 4, .slice A n c, .slice (some ⟨b, o, none⟩) n' c'] 26)) := (Below.refl _ w).alloc (Nat.le_refl _) _
  have k0 : Blk (w.alloc (.cells #[.int .i64 4, .slice A n c, .slice (some ⟨b, o, none⟩) n' c'] 26)) w.heap.size 26 #[.int .i64 4, .slice A n c, .slice (some ⟨b, o, none⟩) n' c'] := Blk.new w _ _
  have hs0 : (w.alloc (.cells #[.int .i64 4, .slice A n c, .slice (some ⟨b, o, none⟩) n' c'] 26)).heap.size = w.heap.size + 1 := by simp
  obtain ⟨FV, hFV⟩ : ∃ FV, FV = stC forkS (.slice none 0 0) := ⟨_, rfl⟩
  have HBF := Lib.hid (fun W => build_fork W)
  have ha := add_any (hm.below b0) forkS (.slice none 0 0) ⟨rfl, .inl ⟨rfl, rfl⟩⟩ (fun b hb => by cases hb) (by omega)
  rw [show stC ⟨fun _ => false, true, []⟩ (.slice none 0 0) = FV from hFV.symm] at HBF
  rw [← hFV] at ha
  have HA := Lib.hid ha
  have HK0 := Lib.hid k0
  have HKP := Lib.hid (kept_alloc X w (.cells #[.int .i64 4, .slice A n c, .slice (some ⟨b, o, none⟩) n' c'] 26))
  have hXl := Lib.hid (fun j (hj : X j) => hm.old hj)
  have HIH := Lib.hid IH
  have HTR := Lib.hid htr
  have hn1 : (0 : Int) < (n' : Int) := by omega
  clear ha hFV k0 b0 hm hk hcells hR hext IH htr hat
  go_enter Try.func97, Try.ntmps97
  go_wp2_with (refine wpList_build1 rfl 175 1 (.const (.bool true)) rfl (.bool true) (.agg FV) rfl (HBF.out _) ?_)
  refine HA.out.mono ?_
  rintro e w1 ⟨rfl, X1, hm1, hx1, hk1⟩
  have hnN : ¬ X w.heap.size := fun h => by have := hXl.out _ h; omega
  have kb1 : Blk w1 w.heap.size 26 #[.int .i64 4, .slice A n c, .slice (some ⟨b, o, none⟩) n' c'] := (hk1.block _ HK0.out.lt hnN).trans HK0.out
  have hX1 : ∀ x, X1 x → X x ∨ w.heap.size + 1 ≤ x := fun x hx => by
    rcases hx1 x hx with h | h | h
    · exact .inl h
    · cases h
    · exact .inr (by omega)
  have hX1' : ∀ x, X1 x → X x ∨ w.heap.size ≤ x := fun x hx => by rcases hX1 x hx with h | h; exact .inl h; exact .inr (by omega)
  have hkp1 : Kept X w w1 := HKP.out.trans hk1 (fun j hj => .inl hj)
  have hbk := hkp1.block b hbo.1 hbo.2
  replace e0 := (World.cell?_of_block (a := ⟨b, o, none⟩) hbk).trans e0
  replace e1 := (World.cell?_of_block (a := ⟨b, o + 1, none⟩) hbk).trans e1
  replace e2 := (World.cell?_of_block (a := ⟨b, o + 2, none⟩) hbk).trans e2
  have hw0 : w1.cell? ⟨w.heap.size, 0, none⟩ = some (.int .i64 4) := kb1.cell 0
  have hw2 : w1.cell? ⟨w.heap.size, 2, none⟩ = some (.slice (some ⟨b, o, none⟩) n' c') := kb1.cell 2
  have HR := Lib.hid (HIH.out t v0 v1 v2 w1 X1 pp start steps (S ++ [forkS]) S.length (tree_off HTR.out hkp1 hX1') hg hm1 (by omega) (by rw [hls]; omega))
  rw [← HR1.out] at HR
  have HKB1 := Lib.hid kb1
  have HX1 := Lib.hid hX1
  have HKP1 := Lib.hid hkp1
  have hlt1 := hkp1.size
  clear hm1 hx1 hk1 kb1 hX1 hX1' hkp1 hbk HA
  go_wp2_with fail
  refine HR.out.mono ?_
  rintro e w2 ⟨rfl, X2, hm2, hx2, hk2⟩
  have hnN1 : ¬ X1 w.heap.size := fun h => by
    rcases HX1.out _ h with h | h
    · exact hnN h
    · omega
  have kb2 : Blk w2 w.heap.size 26 #[.int .i64 4, .slice A n c, .slice (some ⟨b, o, none⟩) n' c'] := (hk2.block _ HKB1.out.lt hnN1).trans HKB1.out
  have hs1 : w.heap.size + 1 ≤ w1.heap.size := HKB1.out.lt
  have hX2 : ∀ x, X2 x → X x ∨ w.heap.size + 1 ≤ x := fun x hx => by
    rcases hx2 x hx with h | h
    · exact HX1.out x h
    · exact .inr (by omega)
  have hkp2 : Kept X w w2 := HKP1.out.trans hk2 (fun j hj => by
    rcases HX1.out j hj with h | h
    · exact .inl h
    · exact .inr (by omega))
  have hmj := hm2.alloc (.cells #[.int .i64 (R.1 : Nat), .int .i64 (nx : Nat)] 3)
  have HJ := Lib.hid (join_any hmj HAT.out (tb := w2.heap.size) (ns := [R.1, nx]) (Blk.new w2 3 #[.int .i64 (R.1 : Nat), .int .i64 (nx : Nat)]) (by simp) (show 0 + 2 ≤ 100000 by decide) 2)
  have HKP2 := Lib.hid hkp2
  have HX2 := Lib.hid hX2
  have HKB2 := Lib.hid kb2
  have hs2 := hk2.size
  have hs2' := kb2.lt
  clear hm2 hx2 hk2 kb2 hX2 hkp2 hmj HR hw0 hw2
  go_wp2_with fail
  refine HJ.out.mono ?_
  rintro e w3 ⟨rfl, X3, hm3, hx3, hk3⟩
  have HFIN := Lib.hid (show ∃ X', Mach w3 X' pp start steps (joinM R.2 S.length [R.1, nx]) ∧ (∀ j, X' j → X j ∨ w.heap.size ≤ j) ∧ Kept X w w3 from
    ⟨X3, hm3, fun j hj => by
      rcases hx3 j hj with h | h
      · rcases HX2.out j h with h | h
        · exact .inl h
        · exact .inr (by omega)
      · exact .inr (by simp at h; omega), (HKP2.out.alloc _).trans hk3 (fun j hj => by
      rcases HX2.out j hj with h | h
      · exact .inl h
      · exact .inr (by omega))⟩)
  have hnN2 : ¬ X2 w.heap.size := fun h => by
    rcases HX2.out _ h with h | h
    · exact hnN h
    · omega
  have kb3 : Blk w3 w.heap.size 26 #[.int .i64 4, .slice A n c, .slice (some ⟨b, o, none⟩) n' c'] := (hk3.block _ (by simp; omega) hnN2).trans (HKB2.out.alloc _)
  have hw0 : w3.cell? ⟨w.heap.size, 0, none⟩ = some (.int .i64 4) := kb3.cell 0
  clear hm3 hx3 hk3 kb3 HJ
  go_wp2
  go_ret
  exact ⟨rfl, HFIN.out⟩
end Go.Proofs.Ytjnhmcgjeljcmaa
