/- The reference's class: one of the ways of its sign. The reference's class: one of the ways of its sign. The reference's class answers classP. -/
import Derived.Test.YtjnhmcgjeljcmaaRka
namespace Go.Proofs.Ytjnhmcgjeljcmaa
open Go.RowKit
set_option maxHeartbeats 2000000 in
set_option maxRecDepth 100000 in
theorem rclass_pos (k k1 : Nat) (s : ByteArray) (w : World) (_ : k < s.size) (hs : s.size ≤ 256) (hk1 : k1 = k + 1) (hjl : k + 1 < s.size) (hjb : byteAt s (k + 1) ≠ 33) (hcl : classP letterG 33 (restL s (k + 1)) = itemsPr false (k1 - (k + 1)) (itemsF letterG true (restL s k1))) :
    Calls Try.prog 65 #[.string s, .int .i64 (k : Nat)] w (CRes w (k + 1) (classP letterG 33 (restL s (k + 1)))) := by
  obtain ⟨i0, hi0, hz0, hz1, hz2⟩ := info_parts rgInfo
  have t1 : ((k : Int) + 1) < (s.size : Int) := by omega
  have t2 := byteAt_eq s (k + 1) hjl
  have t3 : (((byteAt s (k + 1)).toNat : Int) == 33) = false := byte_eq_false hjb
  have t4 : ((k : Int) + 1).toNat = k + 1 := by omega
  have HS := Lib.hid (show (k1 : Int) = (k : Int) + 1 by omega)
  have b1 : k + 1 ≤ k1 ∧ k1 ≤ s.size := by omega
  rw [hcl]
  generalize hR : itemsF letterG true (restL s k1) = R
  have HR := Lib.hid hR
  clear hR hcl hk1 hjb
  go_enter Try.func65, Try.ntmps65
  go_wp2_with fail
  go_loopw [1, 9, 10] (fun vat vrs vf wr => ∃ (k2 : Nat) (acc : List (UInt8 × UInt8)), k1 ≤ k2 ∧ k2 ≤ s.size ∧ acc.length ≤ k2 ∧ vat = .int .i64 k2 ∧ vf = .bool acc.isEmpty ∧ wr.ownsRow (w.heap.size + 1) 37 2 vrs acc.length (rgCells acc) ∧
      Blk wr w.heap.size 26 #[.int .i64 0, .slice none 0 0, .slice none 0 0] ∧ R = Ir.pre acc (k2 - k1) (itemsF letterG acc.isEmpty (restL s k2)) ∧ Below w.heap.size w wr) (fun vat _ _ _ => s.size - (intOf vat).toNat)
  case atStart =>
    refine ⟨k1, [], Nat.le_refl _, b1.2, Nat.zero_le _, by rw [HS.out], rfl, ⟨rfl, Or.inr ⟨w.heap.size + 1, 0, #[], rfl, Nat.le_refl _, heap_alloc_new2 w _ _, Nat.le_refl _, Nat.zero_le _, rfl, rfl⟩⟩, (Blk.new w _ _).alloc _, by rw [Nat.sub_self, Ir.pre_nil]; exact HR.out.symm, ((Below.refl _ w).alloc (Nat.le_refl _) _).alloc (by simp) _⟩
  case round =>
    obtain ⟨k2, acc, h12, h2s, hal, rfl, rfl, hown, hblk, hRR, hbw⟩ := hrel
    have HRR := Lib.hid hRR
    clear hRR
    obtain ⟨ao, cap, hv⟩ := own_form hown
    subst hv
    obtain ⟨p0, p1, p2, z0, z1, z2⟩ := blk3 hblk
    have hB := hbw.size
    have hbl := hblk.lt
    rcases Nat.eq_or_lt_of_le h2s with hend | hlt
    · have HX := Lib.hid (show R = .err 31 (k2 - k1) by rw [HRR.out, itemsF_letterErr (c := 31) (o := 0) (by rw [rest_nil s k2 (by omega), starts_nil]; simp) (by rw [rest_nil s k2 (by omega)]; rfl)]; rfl)
      have e1 : ¬ (k2 : Int) < (s.size : Int) := by omega
      have e2 : (s.size : Int) ≤ (k2 : Int) := by omega
      have HW := Lib.hid (show ((s.size : Nat) : Int) = ((k + 1 + (k1 - (k + 1) + (k2 - k1)) : Nat) : Int) by omega)
      clear hend
      go_wp2
      rw [HX.out]
      refine bodyPost_ret (v := .tuple #[.agg #[.int .i64 0, .slice none 0 0, .slice none 0 0], .int .i64 0, .int .i64 31, .int .i64 ((s.size : Nat) : Int)]) (by simp [results, Try.results65, go_sem, *]) rfl ⟨by rw [HW.out], zero_store hblk hbw (Nat.le_refl _)⟩
    · have hlt' : (k2 : Int) < (s.size : Int) := by omega
      have hbt := byteAt_eq s k2 hlt
      by_cases hclose : acc ≠ [] ∧ byteAt s k2 = 93
      · obtain ⟨hne, h93⟩ := hclose
        have hem : acc.isEmpty = false := by simpa using hne
        have HX := Lib.hid (show R = .ok acc (k2 - k1 + 1) by rw [HRR.out, hem, itemsF_end (by rw [starts_rest s k2 93 hlt]; simp [h93])]; simp [Ir.pre])
        have e3 : (((byteAt s k2).toNat : Int) == 93) = true := byte_eq_true h93
        obtain ⟨A2, cp2, hv2, _, hm2, r2⟩ := rg_of_own hown
        injection hv2 with hv3 _ hv4
        subst hv3 hv4
        have HW := Lib.hid (show ((k2 : Int) + 1) = ((k + 1 + (k1 - (k + 1) + (k2 - k1 + 1)) : Nat) : Int) by omega)
        clear hne h93
        go_wp2_with fail
        refine (rranges_any ao acc.length cap acc false wr (r2.mono fun b hb => hb.2.1) hm2).mono ?_
        rintro e w3 ⟨v3, rfl, o3, b3⟩
        obtain ⟨A3, c3, rfl, _, hm3, r3⟩ := rg_of_own o3
        have hblk3 := hblk.below b3 hbl
        obtain ⟨p0, p1, p2, z0, z1, z2⟩ := blk3 hblk3
        have hb3 := hbw.trans (b3.mono hB)
        have HT := Lib.hid (tree_leaf (k := 1) (c := c3) hm3 r3 0)
        clear r2 r3 o3
        go_wp2
        rw [HX.out]
        refine bodyPost_ret (v := .tuple #[.agg #[.int .i64 1, .slice A3 (rangesL acc false).length c3, .slice none 0 0], .int .i64 ((k2 : Int) + 1), .int .i64 0, .int .i64 0]) (by simp [results, Try.results65, go_sem, *]) rfl ⟨1, 1, A3, _, c3, none, 0, 0, by rw [HW.out], ?_, ?_⟩
        · refine (HT.out.keep (w' := ((w3.setCell ⟨w.heap.size, 0, none⟩ (.int .i64 1)).setCell ⟨w.heap.size, 1, none⟩ (.slice A3 (rangesL acc false).length c3)).setCell ⟨w.heap.size, 2, none⟩ (.slice none 0 0)) fun b hb => ?_).mono fun b hb => ⟨?_, ?_⟩
          · have : b ≠ w.heap.size := by have := hb.1; omega
            rw [Below.heap_setCell _ _ _ _ this, Below.heap_setCell _ _ _ _ this, Below.heap_setCell _ _ _ _ this]
          · have := hb.1; omega
          · simp [World.setCell]; have := hb.2.1; omega
        · exact ((hb3.setCell (p := ⟨w.heap.size, 0, none⟩) (Nat.le_refl _) _).setCell (p := ⟨w.heap.size, 1, none⟩) (Nat.le_refl _) _).setCell (p := ⟨w.heap.size, 2, none⟩) (Nat.le_refl _) _
      · have hst : (!acc.isEmpty && starts [93] (restL s k2)) = false := by
          rw [starts_rest s k2 93 hlt]
          cases hem : acc.isEmpty
          · by_cases h93 : byteAt s k2 = 93
            · exact absurd ⟨by simpa using hem, h93⟩ hclose
            · simp [h93]
          · rfl
        have hgo : byteAt s k2 ≠ 93 ∨ (byteAt s k2 = 93 ∧ acc.isEmpty = true) := by
          by_cases h93 : byteAt s k2 = 93
          · right; refine ⟨h93, ?_⟩
            cases hem : acc.isEmpty
            · exact absurd ⟨by simpa using hem, h93⟩ hclose
            · rfl
          · exact Or.inl h93
        have e3 : (((byteAt s k2).toNat : Int) == 93) = false ∨ ((((byteAt s k2).toNat : Int) == 93) = true ∧ acc.isEmpty = true) := by
          rcases hgo with h | ⟨h, h2⟩
          · exact Or.inl (byte_eq_false h)
          · exact Or.inr ⟨byte_eq_true h, h2⟩
        clear hgo hclose
        cases hlt1 : letterG (restL s k2) with
        | err c o =>
          have hc := letterG_code hlt1
          have ho := letterG_end hlt1
          rw [rest_len] at ho
          subst hc
          have HX := Lib.hid (show R = .err 31 (k2 - k1 + o) by rw [HRR.out, itemsF_letterErr hst hlt1]; rfl)
          have HIT := Lib.hid (fun W => item_err s k2 W hlt hs hlt1)
          have HW := Lib.hid (show ((s.size : Nat) : Int) = ((k + 1 + (k1 - (k + 1) + (k2 - k1 + o)) : Nat) : Int) by omega)
          clear hlt1 hst ho
          rcases e3 with e3 | ⟨e3, hem⟩
          all_goals
            go_wp2_with fail
            refine (HIT.out _).mono ?_
            rintro e w3 ⟨rfl, rfl⟩
            go_wp2
            rw [HX.out]
            refine bodyPost_ret (v := .tuple #[.agg #[.int .i64 0, .slice none 0 0, .slice none 0 0], .int .i64 0, .int .i64 31, .int .i64 ((s.size : Nat) : Int)]) (by simp [results, Try.results65, go_sem, *]) rfl ⟨by rw [HW.out], zero_store hblk hbw (Nat.le_refl _)⟩
        | ok lo n =>
          have hn := (good_letterG _).1 _ _ hlt1
          rw [rest_len] at hn
          obtain ⟨k3, hk3⟩ : ∃ k3, k3 = k2 + n := ⟨_, rfl⟩
          have HIT := Lib.hid (fun W => (show Calls Try.prog 66 #[.string s, .int .i64 (k2 : Nat)] W fun e w' => e = .returned (.tuple #[.int .u8 (lo.toNat : Nat), .int .i64 (k3 : Nat), .bool true]) ∧ W = w' by rw [hk3]; exact item_ok s k2 W hlt hs hlt1))
          have hk3b : k2 < k3 ∧ k3 ≤ s.size := by omega
          have hdr : (restL s k2).drop n = restL s k3 := by rw [rest_drop, hk3]
          have hdr1 : (restL s k2).drop (n + 1) = restL s (k3 + 1) := by rw [rest_drop, hk3]; rfl
          have hda := dashR_at s k3
          cases hd : dashR (restL s k3) with
          | false =>
            have HX := Lib.hid (show R = Ir.pre (acc ++ [(lo, lo)]) (k3 - k1) (itemsF letterG false (restL s k3)) by
              rw [HRR.out, itemsF_noDash hst hlt1 (by rw [hdr]; exact hd), Ir.pre_more, hdr, show k2 - k1 + n = k3 - k1 by omega])
            rw [hd] at hda
            have hways : (¬ ((k3 : Int) + 1 < (s.size : Int))) ∨ (((k3 : Int) + 1 < (s.size : Int)) ∧ byteAt s k3 ≠ 45) ∨ (((k3 : Int) + 1 < (s.size : Int)) ∧ byteAt s k3 = 45 ∧ byteAt s (k3 + 1) = 93) := by
              by_cases h1 : k3 + 1 < s.size
              · right
                by_cases h2 : byteAt s k3 = 45
                · right
                  refine ⟨by omega, h2, ?_⟩
                  simp [h1, h2] at hda
                  exact hda
                · left; exact ⟨by omega, h2⟩
              · left; omega
            clear hk3 hdr hdr1 hda hd hlt1 hst hn
            have hway2 : (¬ ((k3 : Int) + 1 < (s.size : Int))) ∨ (∃ h : k3 < s.size, ((k3 : Int) + 1 < (s.size : Int)) ∧ s[k3] = byteAt s k3 ∧ (((byteAt s k3).toNat : Int) == 45) = false) ∨ (∃ (h : k3 < s.size) (h' : k3 + 1 < s.size), ((k3 : Int) + 1 < (s.size : Int)) ∧ s[k3] = byteAt s k3 ∧ (((byteAt s k3).toNat : Int) == 45) = true ∧ s[k3 + 1] = byteAt s (k3 + 1) ∧ (((byteAt s (k3 + 1)).toNat : Int) != 93) = false) := by
              rcases hways with h | ⟨h1, h2⟩ | ⟨h1, h2, h3⟩
              · exact Or.inl h
              · exact Or.inr (Or.inl ⟨by omega, h1, byteAt_eq s k3 (by omega), byte_eq_false h2⟩)
              · exact Or.inr (Or.inr ⟨by omega, by omega, h1, byteAt_eq s k3 (by omega), byte_eq_true h2, byteAt_eq s (k3 + 1) (by omega), byte_ne_false h3⟩)
            clear hways
            have ht3 : ((k3 : Int) + 1).toNat = k3 + 1 := by omega
            rcases e3 with e3 | ⟨e3, hem⟩ <;> rcases hway2 with g1 | ⟨g0, g1, g2, g3⟩ | ⟨g0, g0', g1, g2, g3, g4, g5⟩
            all_goals
              go_wp2_with fail
              refine (HIT.out _).mono ?_
              rintro e w3 ⟨rfl, rfl⟩
              go_wp2_with (at_builtin; refine wpList_append_lies _ rfl (.tmp 109) (.tmp 113) 23 rfl (w.heap.size + 1) 37 i0 _ 2 2 Try.underlying23 hi0 hz0 hz1 hz2 rfl (by decide) _ _ _ rfl (hown.alloc _) ⟨wr.heap.size, 0, none⟩ 1 1 [.int .u8 (lo.toNat : Nat), .int .u8 (lo.toNat : Nat)] rfl rfl (World.news_of_block (heap_alloc_new wr _)) (two_one _ _) (by decide) (by unfold maxLen; omega) (by omega) (by simp; omega) _ rfl ?_)
              intro g cap2 w4 hown4 hgrow hat hlt4
              have hgr : ∀ j, (Value.slice ao acc.length cap).ownBlock = some j → w.heap.size + 1 ≤ j := fun j hj => (hown.lt j hj).1
              go_wp2
              go_roundw
              case rel =>
                refine ⟨k3, acc ++ [(lo, lo)], by omega, by omega, by simp; omega, rfl, by rw [snoc_empty], ?_, (hblk.alloc _).grown hgrow (fun e => by have := hgr _ e.symm; omega), by rw [HX.out, snoc_empty], (hbw.alloc hB _).grown hgrow (by simp; omega) (fun j hj => by have := hgr j hj; omega)⟩
                rw [rgCells_append, List.length_append]; exact hown4
              case measure => simp [intOf]; omega
          | true =>
            rw [hd] at hda
            have h1 : k3 + 1 < s.size ∧ byteAt s k3 = 45 ∧ byteAt s (k3 + 1) ≠ 93 := by
              by_cases h1 : k3 + 1 < s.size
              · by_cases h2 : byteAt s k3 = 45
                · refine ⟨h1, h2, fun h3 => ?_⟩
                  simp [h1, h2, h3] at hda
                · simp [h1, h2] at hda
              · simp [h1] at hda
            obtain ⟨h1, h2, h3⟩ := h1
            have g0 : k3 < s.size := by omega
            have g1 : (k3 : Int) + 1 < (s.size : Int) := by omega
            have g2 := byteAt_eq s k3 g0
            have g3 : (((byteAt s k3).toNat : Int) == 45) = true := byte_eq_true h2
            have g4 := byteAt_eq s (k3 + 1) h1
            have g5 : (((byteAt s (k3 + 1)).toNat : Int) != 93) = true := byte_ne_true h3
            have ht3 : ((k3 : Int) + 1).toNat = k3 + 1 := by omega
            have hc1 : (((k3 + 1 : Nat)) : Int) = (k3 : Int) + 1 := by omega
            clear hda h2 h3
            cases hlt2 : letterG (restL s (k3 + 1)) with
            | err c o =>
              have hc := letterG_code hlt2
              have ho := letterG_end hlt2
              rw [rest_len] at ho
              subst hc
              have HX := Lib.hid (show R = .err 31 (k2 - k1 + (n + 1 + o)) by rw [HRR.out, itemsF_dashErr hst hlt1 (by rw [hdr]; exact hd) (by rw [hdr1]; exact hlt2)]; rfl)
              have HIT2 := Lib.hid (fun W => (show Calls Try.prog 66 #[.string s, .int .i64 ((k3 : Int) + 1)] W fun e w' => e = .returned (.tuple #[.int .u8 0, .int .i64 0, .bool false]) ∧ W = w' by rw [← hc1]; exact item_err s (k3 + 1) W h1 hs hlt2))
              have HW := Lib.hid (show ((s.size : Nat) : Int) = ((k + 1 + (k1 - (k + 1) + (k2 - k1 + (n + 1 + o))) : Nat) : Int) by omega)
              clear hk3 hdr hdr1 hd hlt1 hst hn ho hlt2 hc1
              rcases e3 with e3 | ⟨e3, hem⟩
              all_goals
                go_wp2_with fail
                refine (HIT.out _).mono ?_
                rintro e w3 ⟨rfl, rfl⟩
                go_wp2_with fail
                refine (HIT2.out _).mono ?_
                rintro e w3 ⟨rfl, rfl⟩
                go_wp2
                rw [HX.out]
                refine bodyPost_ret (v := .tuple #[.agg #[.int .i64 0, .slice none 0 0, .slice none 0 0], .int .i64 0, .int .i64 31, .int .i64 ((s.size : Nat) : Int)]) (by simp [results, Try.results65, go_sem, *]) rfl ⟨by rw [HW.out], zero_store hblk hbw (Nat.le_refl _)⟩
            | ok hi m =>
              have hm := (good_letterG _).1 _ _ hlt2
              rw [rest_len] at hm
              obtain ⟨k4, hk4⟩ : ∃ k4, k4 = k3 + 1 + m := ⟨_, rfl⟩
              have HIT2 := Lib.hid (fun W => (show Calls Try.prog 66 #[.string s, .int .i64 ((k3 : Int) + 1)] W fun e w' => e = .returned (.tuple #[.int .u8 (hi.toNat : Nat), .int .i64 (k4 : Nat), .bool true]) ∧ W = w' by rw [← hc1, hk4]; exact item_ok s (k3 + 1) W h1 hs hlt2))
              have hk4b : k3 < k4 ∧ k4 ≤ s.size := by omega
              by_cases hlh : hi < lo
              · have HX := Lib.hid (show R = .err 32 (k2 - k1 + 0) by rw [HRR.out, itemsF_dashBad hst hlt1 (by rw [hdr]; exact hd) (by rw [hdr1]; exact hlt2) hlh]; rfl)
                have hl' : (hi.toNat : Int) < (lo.toNat : Int) := by have := UInt8.lt_iff_toNat_lt.1 hlh; omega
                have HW := Lib.hid (show ((k2 : Nat) : Int) = ((k + 1 + (k1 - (k + 1) + (k2 - k1 + 0)) : Nat) : Int) by omega)
                clear hk3 hk4 hdr hdr1 hd hlt1 hst hn hlt2 hc1 hlh
                rcases e3 with e3 | ⟨e3, hem⟩
                all_goals
                  go_wp2_with fail
                  refine (HIT.out _).mono ?_
                  rintro e w3 ⟨rfl, rfl⟩
                  go_wp2_with fail
                  refine (HIT2.out _).mono ?_
                  rintro e w3 ⟨rfl, rfl⟩
                  go_wp2
                  rw [HX.out]
                  refine bodyPost_ret (v := .tuple #[.agg #[.int .i64 0, .slice none 0 0, .slice none 0 0], .int .i64 0, .int .i64 32, .int .i64 ((k2 : Nat) : Int)]) (by simp [results, Try.results65, go_sem, *]) rfl ⟨by rw [HW.out], zero_store hblk hbw (Nat.le_refl _)⟩
              · have HX := Lib.hid (show R = Ir.pre (acc ++ [(lo, hi)]) (k4 - k1) (itemsF letterG false (restL s k4)) by
                  rw [HRR.out, itemsF_dashOk hst hlt1 (by rw [hdr]; exact hd) (by rw [hdr1]; exact hlt2) hlh, Ir.pre_more, rest_drop, show k2 + (n + 1 + m) = k4 by omega, show k2 - k1 + (n + 1 + m) = k4 - k1 by omega])
                have hl' : ¬ (hi.toNat : Int) < (lo.toNat : Int) := by
                  have h5 : ¬ hi.toNat < lo.toNat := fun h => hlh (UInt8.lt_iff_toNat_lt.2 h)
                  omega
                clear hk3 hk4 hdr hdr1 hd hlt1 hst hn hlt2 hc1 hlh
                rcases e3 with e3 | ⟨e3, hem⟩
                all_goals
                  go_wp2_with fail
                  refine (HIT.out _).mono ?_
                  rintro e w3 ⟨rfl, rfl⟩
                  go_wp2_with fail
                  refine (HIT2.out _).mono ?_
                  rintro e w3 ⟨rfl, rfl⟩
                  go_wp2_with (at_builtin; refine wpList_append_lies _ rfl (.tmp 109) (.tmp 113) 23 rfl (w.heap.size + 1) 37 i0 _ 2 2 Try.underlying23 hi0 hz0 hz1 hz2 rfl (by decide) _ _ _ rfl (hown.alloc _) ⟨wr.heap.size, 0, none⟩ 1 1 [.int .u8 (lo.toNat : Nat), .int .u8 (hi.toNat : Nat)] rfl rfl (World.news_of_block (heap_alloc_new wr _)) (two_one _ _) (by decide) (by unfold maxLen; omega) (by omega) (by simp; omega) _ rfl ?_)
                  intro g cap2 w4 hown4 hgrow hat hlt4
                  have hgr : ∀ j, (Value.slice ao acc.length cap).ownBlock = some j → w.heap.size + 1 ≤ j := fun j hj => (hown.lt j hj).1
                  go_wp2
                  go_roundw
                  case rel =>
                    refine ⟨k4, acc ++ [(lo, hi)], by omega, by omega, by simp; omega, rfl, by rw [snoc_empty], ?_, (hblk.alloc _).grown hgrow (fun e => by have := hgr _ e.symm; omega), by rw [HX.out, snoc_empty], (hbw.alloc hB _).grown hgrow (by simp; omega) (fun j hj => by have := hgr j hj; omega)⟩
                    rw [rgCells_append, List.length_append]; exact hown4
                  case measure => simp [intOf]; omega
end Go.Proofs.Ytjnhmcgjeljcmaa
namespace Go.Proofs.Ytjnhmcgjeljcmaa
open Go.RowKit
set_option maxHeartbeats 2000000 in
set_option maxRecDepth 100000 in
theorem rclass_end (k k1 : Nat) (s : ByteArray) (w : World) (hk : k < s.size) (hs : s.size ≤ 256) (hk1 : k1 = k + 1) (hjl : s.size ≤ k + 1) (hcl : classP letterG 33 (restL s (k + 1)) = itemsPr false (k1 - (k + 1)) (itemsF letterG true (restL s k1))) :
    Calls Try.prog 65 #[.string s, .int .i64 (k : Nat)] w (CRes w (k + 1) (classP letterG 33 (restL s (k + 1)))) := by
  obtain ⟨i0, hi0, hz0, hz1, hz2⟩ := info_parts rgInfo
  have t1 : ¬ ((k : Int) + 1) < (s.size : Int) := by omega
  have HS := Lib.hid (show (k1 : Int) = (k : Int) + 1 by omega)
  have b1 : k + 1 ≤ k1 ∧ k1 ≤ s.size := by omega
  rw [hcl]
  generalize hR : itemsF letterG true (restL s k1) = R
  have HR := Lib.hid hR
  clear hR hcl hk1
  go_enter Try.func65, Try.ntmps65
  go_wp2_with fail
  go_loopw [1, 9, 10] (fun vat vrs vf wr => ∃ (k2 : Nat) (acc : List (UInt8 × UInt8)), k1 ≤ k2 ∧ k2 ≤ s.size ∧ acc.length ≤ k2 ∧ vat = .int .i64 k2 ∧ vf = .bool acc.isEmpty ∧ wr.ownsRow (w.heap.size + 1) 37 2 vrs acc.length (rgCells acc) ∧
      Blk wr w.heap.size 26 #[.int .i64 0, .slice none 0 0, .slice none 0 0] ∧ R = Ir.pre acc (k2 - k1) (itemsF letterG acc.isEmpty (restL s k2)) ∧ Below w.heap.size w wr) (fun vat _ _ _ => s.size - (intOf vat).toNat)
  case atStart =>
    refine ⟨k1, [], Nat.le_refl _, b1.2, Nat.zero_le _, by rw [HS.out], rfl, ⟨rfl, Or.inr ⟨w.heap.size + 1, 0, #[], rfl, Nat.le_refl _, heap_alloc_new2 w _ _, Nat.le_refl _, Nat.zero_le _, rfl, rfl⟩⟩, (Blk.new w _ _).alloc _, by rw [Nat.sub_self, Ir.pre_nil]; exact HR.out.symm, ((Below.refl _ w).alloc (Nat.le_refl _) _).alloc (by simp) _⟩
  case round =>
    obtain ⟨k2, acc, h12, h2s, hal, rfl, rfl, hown, hblk, hRR, hbw⟩ := hrel
    have HRR := Lib.hid hRR
    clear hRR
    obtain ⟨ao, cap, hv⟩ := own_form hown
    subst hv
    obtain ⟨p0, p1, p2, z0, z1, z2⟩ := blk3 hblk
    have hB := hbw.size
    have hbl := hblk.lt
    rcases Nat.eq_or_lt_of_le h2s with hend | hlt
    · have HX := Lib.hid (show R = .err 31 (k2 - k1) by rw [HRR.out, itemsF_letterErr (c := 31) (o := 0) (by rw [rest_nil s k2 (by omega), starts_nil]; simp) (by rw [rest_nil s k2 (by omega)]; rfl)]; rfl)
      have e1 : ¬ (k2 : Int) < (s.size : Int) := by omega
      have e2 : (s.size : Int) ≤ (k2 : Int) := by omega
      have HW := Lib.hid (show ((s.size : Nat) : Int) = ((k + 1 + (k1 - (k + 1) + (k2 - k1)) : Nat) : Int) by omega)
      clear hend
      go_wp2
      rw [HX.out]
      refine bodyPost_ret (v := .tuple #[.agg #[.int .i64 0, .slice none 0 0, .slice none 0 0], .int .i64 0, .int .i64 31, .int .i64 ((s.size : Nat) : Int)]) (by simp [results, Try.results65, go_sem, *]) rfl ⟨by rw [HW.out], zero_store hblk hbw (Nat.le_refl _)⟩
    · exact absurd hlt (by omega)
end Go.Proofs.Ytjnhmcgjeljcmaa
namespace Go.Proofs.Ytjnhmcgjeljcmaa
open Go.RowKit
theorem rclass_any (k : Nat) (s : ByteArray) (w : World) (hk : k < s.size) (hs : s.size ≤ 256) :
    Calls Try.prog 65 #[.string s, .int .i64 (k : Nat)] w (CRes w (k + 1) (classP letterG 33 (restL s (k + 1)))) := by
  rcases class_ways s (k + 1) (by omega) with ⟨k1, hk1, hjl, hjb, hcl⟩ | ⟨k1, hk1, hjl, hjb, hcl⟩ | ⟨k1, hk1, hjl, hcl⟩
  · exact rclass_neg k k1 s w hk hs hk1 hjl hjb hcl
  · exact rclass_pos k k1 s w hk hs hk1 hjl hjb hcl
  · exact rclass_end k k1 s w hk hs hk1 hjl hcl
end Go.Proofs.Ytjnhmcgjeljcmaa
