/- rex.class. -/
import Derived.Test.YtjnhmcgjeljcmaaGk
import Derived.Test.YtjnhmcgjeljcmaaXl
namespace Go.Proofs.Ytjnhmcgjeljcmaa
open Go.RowKit

/-- A class, behind its [. -/
def classX (l : List UInt8) : Pr :=
  if starts [94] l then (if starts [93] (l.drop 1) then .err 30 1 else itemsPr true 1 (itemsF letterX false (l.drop 1)))
  else if starts [93] l then .err 30 0 else itemsPr false 0 (itemsF letterX false l)
theorem xclassSkip (b k : Nat) (s : ByteArray) (hk : k ≤ s.size) (hs : s.size ≤ maxLen) :
    ∃ (neg : Bool) (k1 : Nat), k ≤ k1 ∧ k1 ≤ s.size ∧ classX (restL s k) = (if isB [93] s k1 = true then .err 30 (k1 - k) else itemsPr neg (k1 - k) (itemsF letterX false (restL s k1))) ∧
      ∀ W, Cur W b s k → Calls Try.prog 89 #[.pointer (some ⟨b, 0, none⟩), .string ⟨#[94]⟩] W fun e w' => e = .returned (.bool neg) ∧ Cur w' b s k1 ∧ W.grownBy w' (some b) := by
  cases h : isB [94] s k
  · refine ⟨false, k, Nat.le_refl _, hk, ?_, fun W hc => skip_no b k s ⟨#[94]⟩ W hc hk h⟩
    unfold classX
    rw [if_neg (by rw [← preB_starts]; unfold isB at h; rw [h]; simp), Nat.sub_self]
    rfl
  · have hl := isB_le h
    simp at hl
    refine ⟨true, k + 1, by omega, by omega, ?_, fun W hc => skip_yes b k s ⟨#[94]⟩ W hc hk hs h⟩
    unfold classX
    rw [if_pos (by rw [← preB_starts]; exact h), rest_drop, show k + 1 - k = 1 by omega]
    rfl

set_option maxHeartbeats 1000000 in
set_option maxRecDepth 100000 in
theorem xclass_any (b k : Nat) (s : ByteArray) (w : World) (hc : Cur w b s k) (hk : k ≤ s.size) (hs : s.size ≤ 256) :
    Calls Try.prog 153 #[.pointer (some ⟨b, 0, none⟩)] w (NPost w b s k (classX (restL s k))) := by
  obtain ⟨i0, hi0, hz0, hz1, hz2⟩ := info_parts rgInfo
  have hsm : s.size ≤ maxLen := by unfold maxLen; omega
  obtain ⟨neg, k1, hk1, hk1s, hcl, hskip⟩ := xclassSkip b k s hk hsm
  rw [hcl]
  have HSK := Lib.hid hskip
  clear hcl hskip
  have hb0 : b < w.heap.size := Blk.lt hc
  by_cases h93 : isB [93] s k1 = true
  · rw [if_pos h93]
    go_enter Try.func153, Try.ntmps153
    go_wp2_with fail
    refine (HSK.out _ (Blk.alloc hc _)).mono ?_
    rintro e w1 ⟨rfl, hc1, g1⟩
    go_wp2_with fail
    refine (is_any b k1 s ⟨#[93]⟩ _ hc1 hk1s).mono ?_
    rintro e w2 ⟨rfl, n2, rfl⟩
    have hi : isB (⟨#[93]⟩ : ByteArray).data.toList s k1 = true := h93
    go_wp2_with fail
    refine (at_any b k1 s _ (Blk.drewN hc1 _)).mono ?_
    rintro e w2 ⟨rfl, rfl⟩
    go_wp2
    exact ⟨rfl, flaw_eq (by omega), gb_drewN (gb_trans (gb_alloc (gb_refl w (some b)) _) g1) _⟩
  rw [if_neg h93]
  have h93' : isB (⟨#[93]⟩ : ByteArray).data.toList s k1 = false := by simpa using h93
  clear h93
  generalize hR : itemsF letterX false (restL s k1) = R
  have HR := Lib.hid hR
  clear hR
  go_enter Try.func153, Try.ntmps153
  go_wp2_with fail
  refine (HSK.out _ (Blk.alloc hc _)).mono ?_
  rintro e w1 ⟨rfl, hc1, g1⟩
  go_wp2_with fail
  refine (is_any b k1 s ⟨#[93]⟩ _ hc1 hk1s).mono ?_
  rintro e w1' ⟨rfl, n2, rfl⟩
  have hblk : Blk (w1.drewN n2) w.heap.size 26 _ := Blk.drewN ((Blk.new w 26 _).grown g1 (by simp; omega)) _
  have gw1 := gb_drewN (gb_trans (gb_alloc (gb_refl w (some b)) _) g1) n2
  have hc1' : Cur (w1.drewN n2) b s k1 := Blk.drewN hc1 _
  clear g1 hc1
  generalize w1.drewN n2 = wz at *
  clear w1
  go_wp2_with fail
  go_loopw [4] (fun v wr => ∃ (k2 : Nat) (acc : List (UInt8 × UInt8)), k1 ≤ k2 ∧ k2 ≤ s.size ∧ acc.length ≤ k2 ∧ wr.ownsRow (w.heap.size + 1) 37 2 v acc.length (rgCells acc) ∧ Cur wr b s k2 ∧
      R = Ir.pre acc (k2 - k1) (itemsF letterX false (restL s k2)) ∧ w.grownBy wr (some b) ∧ Blk wr w.heap.size 26 #[.int .i64 0, .slice none 0 0, .slice none 0 0]) (fun v _ => s.size + 1 - sliceLen v)
  case atStart => exact ⟨k1, [], Nat.le_refl _, hk1s, Nat.zero_le _, World.ownsRow_nil _ _ _ _, hc1', by rw [Nat.sub_self, Ir.pre_nil]; exact HR.out.symm, gw1, hblk⟩
  case round =>
    clear hc1' gw1 hblk h93'
    obtain ⟨k2, acc, h12, h2s, hal, hown, hc2, hRR, gw, hblk⟩ := hrel
    have HRR := Lib.hid hRR
    clear hRR
    obtain ⟨ao, cap, hv⟩ := own_form hown
    subst hv
    have hgs := gw.size
    have hbl := hblk.lt
    by_cases h93 : isB [93] s k2 = true
    · have HEND := Lib.hid (show R = .ok acc (k2 - k1 + 1) by rw [HRR.out, itemsF_end (by rw [← preB_starts]; exact h93)]; simp [Ir.pre])
      go_wp2_with fail
      refine (skip_yes b k2 s ⟨#[93]⟩ _ hc2 h2s hsm h93).mono ?_
      rintro e w2 ⟨rfl, hc2', g2⟩
      have hown2 := own_grown hown g2 (by omega)
      have hblk2 := hblk.grown g2 (by simp; omega)
      have gw2 := gb_trans gw g2
      obtain ⟨A2, cp2, hv2, _, hm2, r2⟩ := rg_of_own hown2
      injection hv2 with hv3 _ hv4
      subst hv3 hv4
      go_wp2_with fail
      refine (ranges_any ao acc.length cap acc neg _ (r2.mono fun b hb => hb.2.1) hm2).mono ?_
      rintro e w3 ⟨v3, rfl, o3, b3⟩
      obtain ⟨A3, c3, rfl, _, hm3, r3⟩ := rg_of_own o3
      have gw3 := gb_trans gw2 (gb_below b3 _)
      have hblk3 := hblk2.below b3 hblk2.lt
      have hc3 : Cur w3 b s _ := Blk.below hc2' b3 (Blk.lt hc2')
      have hs3 := b3.size
      have hgs2 := g2.size
      clear hown2 hown hblk2 o3
      go_wp2_with fail
      refine (xset_any _ _ _ _).mono ?_
      rintro e w4 ⟨rfl, b4⟩
      have hblk4 := hblk3.below b4 hblk3.lt
      have hc4 : Cur w4 b s _ := Blk.below hc3 b4 (Blk.lt hc3)
      have gw4 := gb_trans gw3 (gb_below b4 _)
      have hs4 := b4.size
      obtain ⟨p0, p1, p2, z0, z1, z2⟩ := blk3 hblk4
      have R4 := Lib.hid (r3.keep (w' := w4) fun b hb => b4.block b hb.2.1)
      clear r3 hblk3 r2
      go_wp2
      rw [HEND.out]
      refine bodyPost_ret (v := .agg #[.int .i64 1, .slice A3 (rangesL acc neg).length c3, .slice none 0 0]) (by simp [results, Try.results153, go_sem, *]) rfl ⟨⟨1, 1, A3, _, c3, none, 0, 0, rfl, ?_⟩, ?_, ?_⟩
      · refine tree_leaf hm3 ?_ 0
        refine (R4.out.keep (w' := ((w4.setCell ⟨w.heap.size, 0, none⟩ _).setCell ⟨w.heap.size, 1, none⟩ _).setCell ⟨w.heap.size, 2, none⟩ _) fun b hb => ?_).mono fun b hb => ⟨?_, ?_⟩
        · have : b ≠ w.heap.size := by have := hb.1; omega
          rw [Below.heap_setCell _ _ _ _ this, Below.heap_setCell _ _ _ _ this, Below.heap_setCell _ _ _ _ this]
        · have := hb.1; omega
        · simp [World.setCell]; have := hb.2.1; omega
      · rw [show k + (k1 - k + (k2 - k1 + 1)) = k2 + 1 by omega]
        exact ((Blk.far hc4 (by simp; omega) _).far (by simp; omega) _).far (by simp; omega) _
      · exact gb_set (gb_set (gb_set gw4 (.inr (Nat.le_refl _)) _) (.inr (Nat.le_refl _)) _) (.inr (Nat.le_refl _)) _
    · have h9 : isB [93] s k2 = false := by simpa using h93
      clear h93
      have hst : (!false && starts [93] (restL s k2)) = false := by rw [← preB_starts]; unfold isB at h9; rw [h9]; simp
      cases hrp : rangeP letterX (restL s k2) with
      | err c o =>
        have HRP := Lib.hid hrp
        have HR2 := Lib.hid (show R = .err c (k2 - k1 + o) by rw [HRR.out, itemsF_err hst hrp]; rfl)
        clear hrp hst
        go_wp2_with fail
        refine (skip_no b k2 s ⟨#[93]⟩ _ hc2 h2s h9).mono ?_
        rintro e w2 ⟨rfl, hc2', g2⟩
        go_wp2_with fail
        refine (range_any 155 letterX xLetter_is good_letterX b k2 s _ hc2' h2s hsm).mono ?_
        intro e w3 hp
        obtain ⟨rfl, g3⟩ := hp.err_ HRP.out
        go_wp2
        rw [HR2.out]
        exact ⟨rfl, flaw_eq (by omega), gb_trans (gb_trans gw g2) g3⟩
      | ok lo hi n =>
        have hrn := rangeP_ok good_letterX hrp
        rw [rest_len] at hrn
        have HRP := Lib.hid hrp
        have HR2 := Lib.hid (show R = Ir.pre (acc ++ [(lo, hi)]) (k2 - k1 + n) (itemsF letterX false (restL s (k2 + n))) by
          rw [HRR.out, itemsF_more good_letterX hst hrp, Ir.pre_more, rest_drop])
        clear hrp hst
        go_wp2_with fail
        refine (skip_no b k2 s ⟨#[93]⟩ _ hc2 h2s h9).mono ?_
        rintro e w2 ⟨rfl, hc2', g2⟩
        go_wp2_with fail
        refine (range_any 155 letterX xLetter_is good_letterX b k2 s _ hc2' h2s hsm).mono ?_
        intro e w3 hp
        obtain ⟨rfl, hc3, g3⟩ := hp.ok_ HRP.out
        have gw3 := gb_trans (gb_trans gw g2) g3
        have hown3 := own_grown (own_grown hown g2 (by omega)) g3 (by omega)
        have hblk3 := (hblk.grown g2 (by simp; omega)).grown g3 (by simp; omega)
        have hs3 := g3.size
        have hsz3 : w.heap.size + 1 ≤ w3.heap.size := hblk3.lt
        go_wp2_with (at_builtin; refine wpList_append_lies _ rfl (.tmp 16) (.tmp 19) 23 rfl (w.heap.size + 1) 37 i0 _ 2 2 Try.underlying23 hi0 hz0 hz1 hz2 rfl (by decide) _ _ _ rfl (hown3.alloc _) ⟨w3.heap.size, 0, none⟩ 1 1 [.int .u8 lo.toNat, .int .u8 hi.toNat] rfl rfl (World.news_of_block (heap_alloc_new w3 _)) (two_one _ _) (by decide) (by unfold maxLen; omega) (by omega) (by simp; omega) _ rfl ?_)
        intro g cap2 w4 hown4 hgrow hat hlt4
        have hgr : ∀ j, (Value.slice ao acc.length cap).ownBlock = some j → w.heap.size + 1 ≤ j := fun j hj => (hown3.lt j hj).1
        go_wp2
        go_roundw
        case rel =>
          refine ⟨k2 + n, acc ++ [(lo, hi)], by omega, by omega, by simp; omega, ?_, ?_, ?_, ?_, ?_⟩
          · rw [rgCells_append, List.length_append]; exact hown4
          · exact (Blk.alloc hc3 _).grown hgrow (fun e => by have := hgr _ e.symm; omega)
          · rw [HR2.out, show k2 - k1 + n = k2 + n - k1 by omega]
          · exact gb_step (gb_alloc gw3 _) hgrow (fun j hj => Or.inr (by have := hgr j hj; omega))
          · exact (hblk3.alloc _).grown hgrow (fun e => by have := hgr _ e.symm; omega)
        case measure => simp [sliceLen] <;> omega
end Go.Proofs.Ytjnhmcgjeljcmaa
