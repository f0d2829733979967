/- The reference's Parse answers parseG. -/
import Derived.Test.YtjnhmcgjeljcmaaRkd
import Derived.Test.YtjnhmcgjeljcmaaFc
namespace Go.Proofs.Ytjnhmcgjeljcmaa
open Go.RowKit

def KRow (w : World) (wr : World) (v : Value) (acc : List Tr) : Prop := ∃ d cells, wr.ownsRow (w.heap.size + 1) 26 3 v acc.length cells ∧ KidsAt wr (fun j => w.heap.size + 1 ≤ j ∧ j < wr.heap.size ∧ v.ownBlock ≠ some j) d acc cells ∧
  Blk wr w.heap.size 26 #[.int .i64 0, .slice none 0 0, .slice none 0 0] ∧ Below w.heap.size w wr
theorem KRow.step {w wr w3 w4 : World} {d d3 g cap2 H : Nat} {acc : List Tr} {v : Value} {cells : List Value} {t : Tr} {v0 v1 v2 : Value}
    (hown : wr.ownsRow (w.heap.size + 1) 26 3 v acc.length cells) (hkids : KidsAt wr (fun j => w.heap.size + 1 ≤ j ∧ j < wr.heap.size ∧ v.ownBlock ≠ some j) d acc cells)
    (hblk : Blk wr w.heap.size 26 #[.int .i64 0, .slice none 0 0, .slice none 0 0]) (hbw : Below w.heap.size w wr)
    (b3 : Below wr.heap.size wr w3) (ht3 : TreeAt w3 (Fresh wr w3) d3 t [v0, v1, v2])
    (hgrow : (w3.alloc (.cells #[v0, v1, v2] 26)).grownBy w4 v.ownBlock)
    (hown4 : w4.ownsRow (w.heap.size + 1) 26 3 (.slice (some ⟨g, 0, none⟩) (acc.length + 1) cap2) (acc.length + 1) (cells ++ [v0, v1, v2]))
    (hat : v.ownBlock = some g ∨ g = H) (hH : w3.heap.size < H) : KRow w w4 (.slice (some ⟨g, 0, none⟩) (acc.length + 1) cap2) (acc ++ [t]) := by
  have hs3 := b3.size
  have hs4 : w3.heap.size + 1 ≤ w4.heap.size := by have := hgrow.size; simpa using this
  have hlen : (acc ++ [t]).length = acc.length + 1 := by simp
  have hbl := hblk.lt
  have hap : ∀ j, j < w.heap.size + 1 → some j ≠ v.ownBlock := fun j hj => own_apart hown hj
  have hown_lt : ∀ j, v.ownBlock = some j → w.heap.size + 1 ≤ j ∧ j < wr.heap.size := fun j hj => hown.lt j hj
  have keep : ∀ j, j < w3.heap.size → some j ≠ v.ownBlock → w4.heap[j]? = w3.heap[j]? := by
    intro j h3 h4
    rw [hgrow.block j (by simp; omega) h4, Below.heap_alloc _ _ _ h3]
  refine ⟨max d d3, cells ++ [v0, v1, v2], by rw [hlen]; exact hown4, KidsAt.snoc ?_ ?_, ?_, ?_⟩
  · refine ((hkids.keep (w' := w4) fun j hj => ?_).mono fun j hj => ⟨hj.1, ?_, ?_⟩).deeper (Nat.le_max_left _ _)
    · rw [keep j (by have := hj.2.1; omega) (fun e => hj.2.2 e.symm)]
      exact b3.block j hj.2.1
    · have := hj.2.1; omega
    · simp only [Value.ownBlock, ne_eq, Option.some.injEq]
      rintro rfl
      rcases hat with h | h
      · exact hj.2.2 h
      · have := hj.2.1; omega
  · refine ((TreeAt.keep (w' := w4) (fun j hj => ?_) ht3).mono fun j hj => ⟨?_, ?_, ?_⟩).deeper (Nat.le_max_right _ _)
    · exact keep j hj.2 (fun e => by have := hown_lt j e.symm; have := hj.1; omega)
    · have := hj.1; omega
    · have := hj.2; omega
    · have h1 := hj.1
      have h2 := hj.2
      simp only [Value.ownBlock, ne_eq, Option.some.injEq]
      rintro rfl
      rcases hat with h | h
      · have := hown_lt _ h; omega
      · omega
  · exact ((hblk.below b3 hbl).alloc _).grown hgrow (hap _ (by omega))
  · exact ((hbw.trans (b3.mono hbw.size)).alloc (by have := hbw.size; omega) _).grown hgrow (by have := hbw.size; simp; omega) (fun j hj => by have := hown_lt j hj; omega)
theorem piece_at63 {s : ByteArray} {k : Nat} (h : k < s.size) (hb : byteAt s k = 63) : pieceG (restL s k) = .ok anyT 1 := by
  unfold pieceG; rw [if_pos (by rw [starts_rest s k 63 h]; simp [hb])]
theorem piece_at42 {s : ByteArray} {k : Nat} (h : k < s.size) (hb : byteAt s k = 42) : pieceG (restL s k) = .ok starT 1 := by
  unfold pieceG; rw [if_neg (by rw [starts_rest s k 63 h]; simp [hb]), if_pos (by rw [starts_rest s k 42 h]; simp [hb])]; rfl
theorem piece_at91 {s : ByteArray} {k : Nat} (h : k < s.size) (hb : byteAt s k = 91) : pieceG (restL s k) = (classP letterG 33 (restL s (k + 1))).shift 1 := by
  unfold pieceG; rw [if_neg (by rw [starts_rest s k 63 h]; simp [hb]), if_neg (by rw [starts_rest s k 42 h]; simp [hb]), if_pos (by rw [starts_rest s k 91 h]; simp [hb]), rest_drop]
theorem piece_atL {s : ByteArray} {k : Nat} (h : k < s.size) (h1 : byteAt s k ≠ 63) (h2 : byteAt s k ≠ 42) (h3 : byteAt s k ≠ 91) : pieceG (restL s k) = match letterG (restL s k) with | .ok c n => .ok (single c) n | .err c o => .err c o := by
  unfold pieceG; rw [if_neg (by rw [starts_rest s k 63 h]; simp [h1]), if_neg (by rw [starts_rest s k 42 h]; simp [h2]), if_neg (by rw [starts_rest s k 91 h]; simp [h3])]; rfl

def ksRes : Ks → Tr × Int × Nat
  | .ok ts => (.mk 2 [] ts, 0, 0)
  | .err c o => (zeroT, c, o)
theorem parseG_res (l : List UInt8) : parseG l = if 256 < l.length then (zeroT, 2, 0) else ksRes (piecesF l) := by
  unfold parseG
  split
  · rfl
  · cases piecesF l <;> rfl

set_option maxHeartbeats 2000000 in
set_option maxRecDepth 100000 in
theorem rparse_any (s : ByteArray) (w : World) (_ : s.size ≤ maxLen) : Calls Try.prog 41 #[.string s] w (TreePost w (parseG s.data.toList)) := by
  obtain ⟨i0, hi0, hz0, hz1, hz2⟩ := info_parts nodeInfo
  rw [parseG_res]
  by_cases hbig : 256 < s.data.toList.length
  · rw [if_pos hbig]
    have hb' : (256 : Int) < (s.size : Int) := by have : s.data.toList.length = s.size := rfl; omega
    clear hbig
    go_enter Try.func41, Try.ntmps41
    go_wp2
    refine bodyPost_ret (v := .tuple #[.agg #[.int .i64 0, .slice none 0 0, .slice none 0 0], .int .i64 2, .int .i64 0]) (by simp [results, Try.results41, go_sem]) rfl ⟨1, 0, none, 0, 0, none, 0, 0, rfl, treeAt_zero _ _, ?_⟩
    exact (Below.refl _ w).alloc (Nat.le_refl _) _
  · rw [if_neg hbig]
    have hs : s.size ≤ 256 := by have : s.data.toList.length = s.size := rfl; omega
    have hb' : ¬ (256 : Int) < (s.size : Int) := by omega
    clear hbig
    have hr0 : s.data.toList = restL s 0 := rfl
    rw [hr0]
    generalize hR : piecesF (restL s 0) = R
    have HR := Lib.hid hR
    clear hR hr0
    go_enter Try.func41, Try.ntmps41
    go_wp2_with fail
    go_loopw [5, 6] (fun v vat wr => ∃ (k2 : Nat) (acc : List Tr), k2 ≤ s.size ∧ acc.length ≤ k2 ∧ vat = .int .i64 k2 ∧ R = Ks.pre acc k2 (piecesF (restL s k2)) ∧ KRow w wr v acc) (fun _ vat _ => s.size - (intOf vat).toNat)
    case atStart =>
      exact ⟨0, [], Nat.zero_le _, Nat.zero_le _, rfl, by rw [Ks.pre_nil]; exact HR.out.symm, 0, [], ⟨rfl, Or.inr ⟨w.heap.size + 1, 0, #[], rfl, Nat.le_refl _, heap_alloc_new2 w _ _, Nat.le_refl _, Nat.zero_le _, rfl, rfl⟩⟩, KidsAt.nil _ _ _, (Blk.new w _ _).alloc _, ((Below.refl _ w).alloc (Nat.le_refl _) _).alloc (by simp) _⟩
    case round =>
      obtain ⟨k2, acc, h2s, hal, rfl, hRR, d, cells, hown, hkids, hblk, hbw⟩ := hrel
      have HRR := Lib.hid hRR
      clear hRR
      have HK := Lib.hid hkids
      clear hkids
      obtain ⟨ao, cap, hv⟩ := own_form hown
      subst hv
      obtain ⟨p0, p1, p2, z0, z1, z2⟩ := blk3 hblk
      have hB := hbw.size
      have hbl := hblk.lt
      rcases Nat.eq_or_lt_of_le h2s with hend | hlt
      · have HX := Lib.hid (show R = .ok acc by rw [HRR.out, rest_nil s k2 (by omega), piecesF_nil]; simp [Ks.pre])
        have e1 : ¬ (k2 : Int) < (s.size : Int) := by omega
        have HT := Lib.hid (tree_node (k := 2) hown (HK.out.mono (Y := fun j => w.heap.size + 1 ≤ j ∧ j < wr.heap.size) fun j hj => ⟨hj.1, hj.2.1⟩) (fun j hj => hown.lt j hj))
        clear hend
        go_wp2
        rw [HX.out, ksRes]
        refine bodyPost_ret (v := .tuple #[.agg #[.int .i64 2, .slice none 0 0, .slice ao acc.length cap], .int .i64 0, .int .i64 0]) (by simp [results, Try.results41, go_sem, *]) rfl ⟨d + 1, 2, none, 0, 0, ao, acc.length, cap, rfl, ?_, ?_⟩
        · refine (HT.out.keep (w' := ((wr.setCell ⟨w.heap.size, 0, none⟩ (.int .i64 2)).setCell ⟨w.heap.size, 1, none⟩ (.slice none 0 0)).setCell ⟨w.heap.size, 2, none⟩ (.slice ao acc.length cap)) fun b hb => ?_).mono fun b hb => ⟨by have := hb.1; omega, ?_⟩
          · have : b ≠ w.heap.size := by have := hb.1; omega
            rw [Below.heap_setCell _ _ _ _ this, Below.heap_setCell _ _ _ _ this, Below.heap_setCell _ _ _ _ this]
          · simp [World.setCell]; exact hb.2
        · exact ((hbw.setCell (p := ⟨w.heap.size, 0, none⟩) (Nat.le_refl _) _).setCell (p := ⟨w.heap.size, 1, none⟩) (Nat.le_refl _) _).setCell (p := ⟨w.heap.size, 2, none⟩) (Nat.le_refl _) _
      · have hlt' : (k2 : Int) < (s.size : Int) := by omega
        have hbt := byteAt_eq s k2 hlt
        have hne : restL s k2 ≠ [] := by rw [rest_cons s k2 hlt]; simp
        by_cases c63 : byteAt s k2 = 63
        · have HX := Lib.hid (show R = Ks.pre (acc ++ [anyT]) (k2 + 1) (piecesF (restL s (k2 + 1))) by rw [HRR.out, piecesF_more hne (piece_at63 hlt c63), Ks.pre_pre, rest_drop])
          have e1 : (((byteAt s k2).toNat : Int) == 63) = true := byte_eq_true c63
          clear c63 hne
          go_wp2_with fail
          refine (rall_any _).mono ?_
          rintro e w3 ⟨⟨d3, kk, A3, n3, c3, A3', n3', c3', rfl, ht3⟩, b3⟩
          have hown3 := own_below hown b3
          have hs3 := b3.size
          have HT3 := Lib.hid ht3
          clear ht3
          go_wp2_with (at_builtin; refine wpList_append_lies _ rfl (.tmp 46) (.tmp 48) 24 rfl (w.heap.size + 1) 26 i0 _ 3 56 Try.underlying24 hi0 hz0 hz1 hz2 rfl (by decide) _ _ _ rfl (hown3.alloc _) ⟨w3.heap.size, 0, none⟩ 1 1 [.int .i64 kk, .slice A3 n3 c3, .slice A3' n3' c3'] rfl rfl (World.news_of_block (heap_alloc_new w3 _)) (three_one _ _ _ _ _ _ _) (by decide) (by unfold maxLen; omega) (by omega) (by simp; omega) _ rfl ?_)
          intro g cap2 w4 hown4 hgrow hat hlt4
          go_wp2
          go_roundw
          case rel => exact ⟨k2 + 1, acc ++ [anyT], by omega, by simp; omega, by go_num, HX.out, KRow.step hown HK.out hblk hbw b3 HT3.out hgrow hown4 hat (by simp)⟩
          case measure => simp [intOf]; omega
        · have e1 : (((byteAt s k2).toNat : Int) == 63) = false := byte_eq_false c63
          by_cases c42 : byteAt s k2 = 42
          · have HX := Lib.hid (show R = Ks.pre (acc ++ [starT]) (k2 + 1) (piecesF (restL s (k2 + 1))) by rw [HRR.out, piecesF_more hne (piece_at42 hlt c42), Ks.pre_pre, rest_drop])
            have e2 : (((byteAt s k2).toNat : Int) == 42) = true := byte_eq_true c42
            clear c42 c63 hne
            go_wp2_with fail
            refine (rall_any _).mono ?_
            rintro e w3 ⟨⟨d3, kk, A3, n3, c3, A3', n3', c3', rfl, ht3⟩, b3⟩
            have hown3 := own_below hown b3
            have hs3 := b3.size
            have HT3 := Lib.hid (star_tree (w1 := wr) 4 ht3 hs3)
            clear ht3
            go_wp2_with (at_builtin; refine wpList_append_lies _ rfl (.tmp 54) (.tmp 58) 24 rfl (w.heap.size + 1) 26 i0 _ 3 56 Try.underlying24 hi0 hz0 hz1 hz2 rfl (by decide) _ _ _ rfl ((hown3.alloc _).alloc _) ⟨w3.heap.size + 1, 0, none⟩ 1 1 [.int .i64 4, .slice none 0 0, .slice (some ⟨w3.heap.size, 0, none⟩) 1 1] rfl rfl (World.news_of_block (heap_alloc_new2 w3 _ _)) (three_one _ _ _ _ _ _ _) (by decide) (by unfold maxLen; omega) (by omega) (by simp; omega) _ rfl ?_)
            intro g cap2 w4 hown4 hgrow hat hlt4
            go_wp2
            go_roundw
            case rel => exact ⟨k2 + 1, acc ++ [starT], by omega, by simp; omega, by go_num, HX.out, KRow.step hown HK.out hblk hbw (b3.alloc hs3 _) HT3.out hgrow hown4 hat (by simp)⟩
            case measure => simp [intOf]; omega
          · have e2 : (((byteAt s k2).toNat : Int) == 42) = false := byte_eq_false c42
            by_cases c91 : byteAt s k2 = 91
            · have e3 : (((byteAt s k2).toNat : Int) == 91) = true := byte_eq_true c91
              have hp := piece_at91 hlt c91
              have HC := Lib.hid (rclass_any k2 s wr hlt hs)
              clear c42 c63 c91
              cases hcl : classP letterG 33 (restL s (k2 + 1)) with
              | err c o =>
                have hc := gclass_code hcl
                rw [hcl] at HC hp
                have HX := Lib.hid (show R = .err c (k2 + (1 + o)) by rw [HRR.out, piecesF_err hne hp]; rfl)
                have hc' : ((c : Int) != 0) = true := by rw [bne_iff_ne]; omega
                clear hcl hp hne hc
                have HW := Lib.hid (show ((k2 + 1 + o : Nat) : Int) = ((k2 + (1 + o) : Nat) : Int) by omega)
                generalize hwh : ((k2 + 1 + o : Nat) : Int) = wh at HW
                have HC2 := Lib.hid (HC.out.mono (fun e w' h => (show e = .returned (.tuple #[.agg #[.int .i64 0, .slice none 0 0, .slice none 0 0], .int .i64 0, .int .i64 c, .int .i64 wh]) ∧ Below wr.heap.size wr w' from ⟨by rw [← hwh]; exact h.1, h.2⟩)))
                clear hwh HC
                go_wp2_with fail
                refine HC2.out.mono ?_
                rintro e w3 ⟨rfl, b3⟩
                have hblk3 := hblk.below b3 hbl
                obtain ⟨p0, p1, p2, z0, z1, z2⟩ := blk3 hblk3
                have hbl3 := hblk3.lt
                have hb3 := hbw.trans (b3.mono hB)
                go_wp2
                rw [HX.out, ksRes]
                refine bodyPost_ret (v := .tuple #[.agg #[.int .i64 0, .slice none 0 0, .slice none 0 0], .int .i64 c, .int .i64 wh]) (by simp [results, Try.results41, go_sem, *]) rfl ⟨1, 0, none, 0, 0, none, 0, 0, by rw [HW.out], treeAt_zero _ _, ?_⟩
                exact (zero_store hblk3 hb3 (Nat.le_refl _)).alloc (by have := hb3.size; simp [World.setCell]; omega) _
              | ok t n =>
                have hn := (classP_bd good_letterG 33 _).1 t n hcl
                rw [rest_len] at hn
                rw [hcl] at HC hp
                obtain ⟨k4, hk4⟩ : ∃ k4, k4 = k2 + 1 + n := ⟨_, rfl⟩
                have HX := Lib.hid (show R = Ks.pre (acc ++ [t]) k4 (piecesF (restL s k4)) by rw [HRR.out, piecesF_more hne hp, Ks.pre_pre, rest_drop, show k2 + (1 + n) = k4 by omega])
                have HC2 := Lib.hid (HC.out.mono (fun e w' h => (show ∃ d kk A m c A' m' c', e = .returned (.tuple #[.agg #[.int .i64 kk, .slice A m c, .slice A' m' c'], .int .i64 (k4 : Nat), .int .i64 0, .int .i64 0]) ∧ TreeAt w' (Fresh wr w') d t [.int .i64 kk, .slice A m c, .slice A' m' c'] ∧ Below wr.heap.size wr w' by rw [hk4]; exact h)))
                have hk4b : k2 < k4 ∧ k4 ≤ s.size := by omega
                clear hcl hp hne HC hk4
                go_wp2_with fail
                refine HC2.out.mono ?_
                rintro e w3 ⟨d3, kk, A3, n3, c3, A3', n3', c3', rfl, ht3, b3⟩
                have hown3 := own_below hown b3
                have hs3 := b3.size
                have HT3 := Lib.hid ((ht3.keep (w' := w3.alloc (.cells #[.int .i64 kk, .slice A3 n3 c3, .slice A3' n3' c3'] 26)) fun b hb => Below.heap_alloc _ _ _ hb.2).mono (Y := Fresh wr (w3.alloc (.cells #[.int .i64 kk, .slice A3 n3 c3, .slice A3' n3' c3'] 26))) fun b hb => ⟨hb.1, by have := hb.2; simp; omega⟩)
                clear ht3
                go_wp2_with (at_builtin; refine wpList_append_lies _ rfl (.tmp 77) (.tmp 79) 24 rfl (w.heap.size + 1) 26 i0 _ 3 56 Try.underlying24 hi0 hz0 hz1 hz2 rfl (by decide) _ _ _ rfl ((hown3.alloc _).alloc _) ⟨w3.heap.size + 1, 0, none⟩ 1 1 [.int .i64 kk, .slice A3 n3 c3, .slice A3' n3' c3'] rfl rfl (World.news_of_block (heap_alloc_new2 w3 _ _)) (three_one _ _ _ _ _ _ _) (by decide) (by unfold maxLen; omega) (by omega) (by simp; omega) _ rfl ?_)
                intro g cap2 w4 hown4 hgrow hat hlt4
                go_wp2
                go_roundw
                case rel => exact ⟨k4, acc ++ [t], by omega, by simp; omega, rfl, HX.out, KRow.step hown HK.out hblk hbw (b3.alloc hs3 _) HT3.out hgrow hown4 hat (by simp)⟩
                case measure => simp [intOf]; omega
            · have e3 : (((byteAt s k2).toNat : Int) == 91) = false := byte_eq_false c91
              have hp := piece_atL hlt c63 c42 c91
              clear c42 c63 c91
              cases hl1 : letterG (restL s k2) with
              | err c o =>
                have hc := letterG_code hl1
                have ho := letterG_end hl1
                rw [rest_len] at ho
                subst hc
                rw [hl1] at hp
                have HX := Lib.hid (show R = .err 31 (k2 + o) by rw [HRR.out, piecesF_err hne hp]; rfl)
                have HIT := Lib.hid (fun W => item_err s k2 W hlt hs hl1)
                have HW := Lib.hid (show ((s.size : Nat) : Int) = ((k2 + o : Nat) : Int) by omega)
                clear hl1 hp hne ho
                go_wp2_with fail
                refine (HIT.out _).mono ?_
                rintro e w3 ⟨rfl, rfl⟩
                go_wp2
                rw [HX.out, ksRes]
                refine bodyPost_ret (v := .tuple #[.agg #[.int .i64 0, .slice none 0 0, .slice none 0 0], .int .i64 31, .int .i64 ((s.size : Nat) : Int)]) (by simp [results, Try.results41, go_sem, *]) rfl ⟨1, 0, none, 0, 0, none, 0, 0, by rw [HW.out], treeAt_zero _ _, zero_store hblk hbw (Nat.le_refl _)⟩
              | ok c n =>
                have hn := (good_letterG _).1 _ _ hl1
                rw [rest_len] at hn
                rw [hl1] at hp
                obtain ⟨k4, hk4⟩ : ∃ k4, k4 = k2 + n := ⟨_, rfl⟩
                have HX := Lib.hid (show R = Ks.pre (acc ++ [single c]) k4 (piecesF (restL s k4)) by rw [HRR.out, piecesF_more hne hp, Ks.pre_pre, rest_drop, hk4])
                have HIT := Lib.hid (fun W => (show Calls Try.prog 66 #[.string s, .int .i64 (k2 : Nat)] W fun e w' => e = .returned (.tuple #[.int .u8 (c.toNat : Nat), .int .i64 (k4 : Nat), .bool true]) ∧ W = w' by rw [hk4]; exact item_ok s k2 W hlt hs hl1))
                have hk4b : k2 < k4 ∧ k4 ≤ s.size := by omega
                clear hl1 hp hne hk4
                go_wp2_with fail
                refine (HIT.out _).mono ?_
                rintro e w3 ⟨rfl, rfl⟩
                go_wp2_with fail
                refine (rone_any c _).mono ?_
                rintro e w3 ⟨⟨d3, kk, A3, n3, c3, A3', n3', c3', rfl, ht3⟩, b3⟩
                have hown3 := own_below hown b3
                have hs3 := b3.size
                have HT3 := Lib.hid ht3
                clear ht3
                go_wp2_with (at_builtin; refine wpList_append_lies _ rfl (.tmp 38) (.tmp 41) 24 rfl (w.heap.size + 1) 26 i0 _ 3 56 Try.underlying24 hi0 hz0 hz1 hz2 rfl (by decide) _ _ _ rfl (hown3.alloc _) ⟨w3.heap.size, 0, none⟩ 1 1 [.int .i64 kk, .slice A3 n3 c3, .slice A3' n3' c3'] rfl rfl (World.news_of_block (heap_alloc_new w3 _)) (three_one _ _ _ _ _ _ _) (by decide) (by unfold maxLen; omega) (by omega) (by simp; omega) _ rfl ?_)
                intro g cap2 w4 hown4 hgrow hat hlt4
                go_wp2
                go_roundw
                case rel => exact ⟨k4, acc ++ [single c], by omega, by simp; omega, rfl, HX.out, KRow.step hown HK.out hblk hbw b3 HT3.out hgrow hown4 hat (by simp)⟩
                case measure => simp [intOf]; omega
end Go.Proofs.Ytjnhmcgjeljcmaa
