/- RexJoins answers true. -/
import Derived.Test.YtjnhmcgjeljcmaaXjl
namespace Go.Proofs.Ytjnhmcgjeljcmaa
open Go.RowKit

/-- The calls that the law makes. -/
structure JoinCalls (p q : ByteArray) (a b : Tr) : Prop where
  m1 : ∀ W, Calls Try.prog 16 #[.string p] W (TreePost W (a, 0, 0))
  m2 : ∀ W, Calls Try.prog 16 #[.string q] W (TreePost W (b, 0, 0))
  m3 : ∀ W, Calls Try.prog 16 #[.string ((p ++ ⟨#[124]⟩) ++ q)] W (TreePost W (.mk 3 [] (partsT a ++ partsT b), 0, 0))
  m4 : ∀ W, Calls Try.prog 16 #[.string ((((⟨#[40]⟩ ++ p) ++ ⟨#[41, 40]⟩) ++ q) ++ ⟨#[41]⟩)] W (TreePost W (.mk 2 [] [a, b], 0, 0))
  m5 : ∀ W, Calls Try.prog 16 #[.string ((⟨#[40]⟩ ++ p) ++ ⟨#[41, 42]⟩)] W (TreePost W (.mk 2 [] [.mk 4 [] [a]], 0, 0))
theorem joinCalls {p q : ByteArray} {a b : Tr} {n m : Nat} (hl : p.size + q.size ≤ 250) (ha : wholeX p.data.toList = .ok a n) (hb : wholeX q.data.toList = .ok b m) : JoinCalls p q a b := by
  have lp : p.data.toList.length = p.size := rfl
  have lq : q.data.toList.length = q.size := rfl
  have e3 : ((p ++ ⟨#[124]⟩) ++ q).data.toList = p.data.toList ++ 124 :: q.data.toList := by rw [xlist_app, xlist_app]; simp
  have e4 : ((((⟨#[40]⟩ ++ p) ++ ⟨#[41, 40]⟩) ++ q) ++ ⟨#[41]⟩ : ByteArray).data.toList = 40 :: (p.data.toList ++ 41 :: 40 :: (q.data.toList ++ [41])) := by
    rw [xlist_app, xlist_app, xlist_app, xlist_app]; simp
  have e5 : ((⟨#[40]⟩ ++ p) ++ ⟨#[41, 42]⟩ : ByteArray).data.toList = 40 :: (p.data.toList ++ [41, 42]) := by
    rw [xlist_app, xlist_app]; simp
  refine ⟨fun W => ?_, fun W => ?_, fun W => ?_, fun W => ?_, fun W => ?_⟩
  · have := xparse_any p W
    rw [parseX_ok (by omega) ha] at this; exact this
  · have := xparse_any q W
    rw [parseX_ok (by omega) hb] at this; exact this
  · have := xparse_any ((p ++ ⟨#[124]⟩) ++ q) W
    rw [e3, parseX_ok (by simp; omega) (join_or ha hb)] at this; exact this
  · have := xparse_any ((((⟨#[40]⟩ ++ p) ++ ⟨#[41, 40]⟩) ++ q) ++ ⟨#[41]⟩) W
    rw [e4, parseX_ok (by simp; omega) (join_cat ha hb)] at this; exact this
  · have := xparse_any ((⟨#[40]⟩ ++ p) ++ ⟨#[41, 42]⟩) W
    rw [e5, parseX_ok (by simp; omega) (join_star ha)] at this; exact this

set_option maxHeartbeats 1000000 in
set_option maxRecDepth 100000 in
theorem joins_main (p q : ByteArray) (a b : Tr) (w : World) (hl : ¬ (250 : Int) < (p.size : Int) + (q.size : Int)) (hlen : (partsT a).length + (partsT b).length ≤ 1000) (hna : partsT a ≠ []) (hnb : partsT b ≠ []) (H : JoinCalls p q a b) :
    Calls Try.prog 4 #[.string p, .string q] w fun e w' => e = .returned (.bool true) ∧ Below w.heap.size w w' := by
  obtain ⟨i0, hi0, hz0, hz1, hz2⟩ := info_parts nodeInfo
  have HH := Lib.hid H
  have HNA := Lib.hid hna
  have HNB := Lib.hid hnb
  clear H hna hnb
  go_enter Try.func4, Try.ntmps4
  go_wp2_with fail
  refine (parsing_any _).mono ?_
  rintro e w1 ⟨rfl, b1⟩
  go_wp2_with fail
  refine (HH.out.m1 _).mono ?_
  rintro e w2 ⟨d2, k2, B1, m1, g1, B2, m2, g2, rfl, ht2, b2⟩
  have HT2 := Lib.hid ht2
  clear ht2
  go_wp2_with fail
  refine (HH.out.m2 _).mono ?_
  rintro e w3 ⟨d3, k3, D1, n1, c1, D2, n2, c2, rfl, ht3, b3⟩
  have HT3 := Lib.hid ht3
  have hblk := (Blk.new w2 26 #[.int .i64 k2, .slice B1 m1 g1, .slice B2 m2 g2]).below b3 (by simp)
  obtain ⟨p0, p1, p2, z0, z1, z2⟩ := blk3 hblk
  have hl2 := hblk.lt
  clear ht3 hblk
  have hb3 := b3.size
  simp at hb3
  have HTA := Lib.hid ((((HT2.out.keep (w' := ((w3.alloc (.cells #[.int .i64 k3, .slice D1 n1 c1, .slice D2 n2 c2] 26)).alloc (.cells #[] 26)).alloc (.cells #[.int .i64 k2, .slice B1 m1 g1, .slice B2 m2 g2, .int .i64 k3, .slice D1 n1 c1, .slice D2 n2 c2] 26)) fun j hj => by
    have h2 := hj.2
    rw [Below.heap_alloc _ _ _ (by simp; omega), Below.heap_alloc _ _ _ (by simp; omega), Below.heap_alloc _ _ _ (by omega), b3.block j (by simp; omega), Below.heap_alloc _ _ _ h2]).mono (Y := fun j => j < w3.heap.size) fun j hj => by have := hj.2; omega)).deeper (d' := max d2 d3 + 1) (by omega))
  have HTB := Lib.hid ((((HT3.out.keep (w' := ((w3.alloc (.cells #[.int .i64 k3, .slice D1 n1 c1, .slice D2 n2 c2] 26)).alloc (.cells #[] 26)).alloc (.cells #[.int .i64 k2, .slice B1 m1 g1, .slice B2 m2 g2, .int .i64 k3, .slice D1 n1 c1, .slice D2 n2 c2] 26)) fun j hj => by
    have h2 := hj.2
    rw [Below.heap_alloc _ _ _ (by simp; omega), Below.heap_alloc _ _ _ (by simp; omega), Below.heap_alloc _ _ _ h2]).mono (Y := fun j => j < w3.heap.size) fun j hj => hj.2)).deeper (d' := max d2 d3 + 1) (by omega))
  have HW := Lib.hid (show Below w.heap.size w (((w3.alloc (.cells #[.int .i64 k3, .slice D1 n1 c1, .slice D2 n2 c2] 26)).alloc (.cells #[] 26)).alloc (.cells #[.int .i64 k2, .slice B1 m1 g1, .slice B2 m2 g2, .int .i64 k3, .slice D1 n1 c1, .slice D2 n2 c2] 26)) by
    have h2 := b1.trans (b2.mono b1.size)
    have h3 := h2.alloc h2.size (.cells #[.int .i64 k2, .slice B1 m1 g1, .slice B2 m2 g2] 26)
    have h4 := h3.trans (b3.mono h3.size)
    have h5 := h4.alloc h4.size (.cells #[.int .i64 k3, .slice D1 n1 c1, .slice D2 n2 c2] 26)
    have h6 := h5.alloc h5.size (.cells #[] 26)
    exact h6.alloc h6.size _)
  have HBA := Lib.hid (show Blk (((w3.alloc (.cells #[.int .i64 k3, .slice D1 n1 c1, .slice D2 n2 c2] 26)).alloc (.cells #[] 26)).alloc (.cells #[.int .i64 k2, .slice B1 m1 g1, .slice B2 m2 g2, .int .i64 k3, .slice D1 n1 c1, .slice D2 n2 c2] 26)) w2.heap.size 26 #[.int .i64 k2, .slice B1 m1 g1, .slice B2 m2 g2] from ((((Blk.new w2 26 _).below b3 (by simp)).alloc _).alloc _).alloc _)
  have HBB := Lib.hid (show Blk (((w3.alloc (.cells #[.int .i64 k3, .slice D1 n1 c1, .slice D2 n2 c2] 26)).alloc (.cells #[] 26)).alloc (.cells #[.int .i64 k2, .slice B1 m1 g1, .slice B2 m2 g2, .int .i64 k3, .slice D1 n1 c1, .slice D2 n2 c2] 26)) w3.heap.size 26 #[.int .i64 k3, .slice D1 n1 c1, .slice D2 n2 c2] from ((Blk.new w3 26 _).alloc _).alloc _)
  have HLIT := Lib.hid (show Blk (((w3.alloc (.cells #[.int .i64 k3, .slice D1 n1 c1, .slice D2 n2 c2] 26)).alloc (.cells #[] 26)).alloc (.cells #[.int .i64 k2, .slice B1 m1 g1, .slice B2 m2 g2, .int .i64 k3, .slice D1 n1 c1, .slice D2 n2 c2] 26)) (w3.heap.size + 2) 26 #[.int .i64 k2, .slice B1 m1 g1, .slice B2 m2 g2, .int .i64 k3, .slice D1 n1 c1, .slice D2 n2 c2] by
    have := Blk.new ((w3.alloc (.cells #[.int .i64 k3, .slice D1 n1 c1, .slice D2 n2 c2] 26)).alloc (.cells #[] 26)) 26 #[.int .i64 k2, .slice B1 m1 g1, .slice B2 m2 g2, .int .i64 k3, .slice D1 n1 c1, .slice D2 n2 c2]
    simpa using this)
  have HOWN := Lib.hid (show (((w3.alloc (.cells #[.int .i64 k3, .slice D1 n1 c1, .slice D2 n2 c2] 26)).alloc (.cells #[] 26)).alloc (.cells #[.int .i64 k2, .slice B1 m1 g1, .slice B2 m2 g2, .int .i64 k3, .slice D1 n1 c1, .slice D2 n2 c2] 26)).ownsRow (w3.heap.size + 1) 26 3 (.slice (some ⟨w3.heap.size + 1, 0, none⟩) 0 0) 0 [] by
    have := World.ownsRow_made (base := w3.heap.size + 1) (e := 26) (size := 3) (w3.alloc (.cells #[.int .i64 k3, .slice D1 n1 c1, .slice D2 n2 c2] 26)) #[] 0 (by simp) (Nat.zero_le _) rfl
    exact World.ownsRow.alloc (by simpa using this) _)
  have hww : w.heap.size ≤ w3.heap.size := by have := b1.size; have := b2.size; omega
  clear b1 b2 b3 HT2 HT3
  go_wp2_with fail
  clear p0 p1 p2 z0 z1 z2
  obtain ⟨W0, hW0⟩ : ∃ W0, W0 = ((w3.alloc (.cells #[.int .i64 k3, .slice D1 n1 c1, .slice D2 n2 c2] 26)).alloc (.cells #[] 26)).alloc (.cells #[.int .i64 k2, .slice B1 m1 g1, .slice B2 m2 g2, .int .i64 k3, .slice D1 n1 c1, .slice D2 n2 c2] 26) := ⟨_, rfl⟩
  rw [← hW0] at HTA HTB HW HBA HBB HLIT HOWN ⊢
  have hW0s : W0.heap.size = w3.heap.size + 3 := by rw [hW0]; simp
  clear hW0
  go_loopw [11, 56] (fun v i wr => ∃ (ao : Option Addr) (nn cp j : Nat) (acc : List Tr), v = .slice ao nn cp ∧ i = .int .i64 j ∧ j ≤ 2 ∧ acc = ([partsT a, partsT b].take j).flatten ∧ PRow (w3.heap.size + 1) W0 wr v acc (max d2 d3 + 1) ∧ Blk wr (w3.heap.size + 2) 26 #[.int .i64 k2, .slice B1 m1 g1, .slice B2 m2 g2, .int .i64 k3, .slice D1 n1 c1, .slice D2 n2 c2] ∧ v.ownBlock ≠ some (w3.heap.size + 2)) (fun _ i _ => 2 - (intOf i).toNat)
  case atStart => exact ⟨_, _, _, 0, [], rfl, rfl, by omega, rfl, ⟨[], HOWN.out, KidsAt.nil _ _ _, Below.refl _ _⟩, HLIT.out, by simp [Value.ownBlock]⟩
  case round =>
    obtain ⟨ao, nn, cp, j, acc, rfl, rfl, hj, hacc, ⟨cells, hown, hkids, hbw⟩, hlit, hvne⟩ := hrel
    have hwr := hbw.size
    have q0 := hlit.cell 0
    have q1 := hlit.cell 1
    have q2 := hlit.cell 2
    have q3 := hlit.cell 3
    have q4 := hlit.cell 4
    have q5 := hlit.cell 5
    simp only [List.getElem?_toArray, List.getElem?_cons_zero, List.getElem?_cons_succ] at q0 q1 q2 q3 q4 q5
    have hjj : j = 0 ∨ j = 1 ∨ j = 2 := by omega
    rcases hjj with rfl | rfl | rfl
    · obtain rfl : acc = [] := hacc
      have HTX := Lib.hid ((HTA.out.keep (w' := wr) fun j hj => hbw.block j (by omega)).mono (Y := fun j => j < w3.heap.size + 1) fun j hj => by omega)
      by_cases hk3 : k2 = 3
      · have hk3' : (k2 == 3) = true := by simpa using hk3
        obtain ⟨bb, oo, news, hA, hpos, hlen', hkn, hnc, hno⟩ := parts_alt HTX.out hk3 HNA.out
        have HKN := Lib.hid (hkn.deeper (Nat.le_succ _))
        have hnl : news.length = m2 * 3 := by rw [hkn.1, hlen']
        have hm2 : m2 ≤ 1000 := by omega
        have HA' := Lib.hid hA
        have HL' := Lib.hid hlen'
        clear hA hlen' hk3
        have hnc' : ∀ j u, news[j]? = some u → (wr.alloc (.cells #[.int .i64 k2, .slice B1 m1 g1, .slice B2 m2 g2] 26)).cell? ((⟨bb, oo, none⟩ : Addr).add j) = some u := fun j u hu => by
          have h0 := hnc j u hu
          have hlt := World.block_lt_of_cell? wr _ h0
          rw [World.cell?_of_block (Below.heap_alloc _ _ _ hlt)]; exact h0
        clear hkn hnc
        go_wp2_with (at_builtin; (refine wpList_append_lies _ rfl (.tmp 63) (.tmp 65) 24 rfl (w3.heap.size + 1) 26 i0 _ 3 56 Try.underlying24 hi0 hz0 hz1 hz2 rfl (by decide) _ _ _ rfl (hown.alloc _) ⟨bb, oo, none⟩ m2 g2 news (by show Value.slice B2 m2 g2 = _; rw [HA'.out]) hnl hnc' hno hpos (by unfold maxLen; first | omega | (simp; omega)) (by first | omega | (simp; omega)) (by simp; omega) _ rfl ?_))
        intro g cap2 w4 hown4 hgrow hat hlt4
        have HS := Lib.hid (PRow.grow (n := m2) (hown.alloc _) (hkids.keep (w' := wr.alloc (.cells #[.int .i64 k2, .slice B1 m1 g1, .slice B2 m2 g2] 26)) fun j hj => Below.heap_alloc _ _ _ (by omega)) (hbw.alloc (by omega) _) (by simp; omega) (HKN.out.keep (w' := wr.alloc (.cells #[.int .i64 k2, .slice B1 m1 g1, .slice B2 m2 g2] 26)) fun j hj => Below.heap_alloc _ _ _ (by omega)) (by rw [HL'.out]; simp) hown4 hgrow)
        have HB := Lib.hid (show Blk w4 (w3.heap.size + 2) 26 #[.int .i64 k2, .slice B1 m1 g1, .slice B2 m2 g2, .int .i64 k3, .slice D1 n1 c1, .slice D2 n2 c2] from (hlit.alloc _).grown hgrow (fun e => hvne e.symm))
        have HN := Lib.hid (show (some g : Option Nat) ≠ some (w3.heap.size + 2) by
          rcases hat with h | h
          · rw [← h]; exact hvne
          · intro e; injection e with e; (try simp at h); omega)
        go_wp2
        go_roundw
        case rel => exact ⟨_, _, _, 1, _, rfl, rfl, by omega, by simp, HS.out, HB.out, HN.out⟩
        case measure => simp [intOf]
      · have hk3' : (k2 == 3) = false := by simpa using hk3
        obtain ⟨hpe, hkn⟩ := parts_one HTX.out hk3
        have HKN := Lib.hid hkn
        have HPE := Lib.hid hpe
        clear hkn
        go_wp2_with (at_builtin; refine wpList_append_lies _ rfl (.tmp 67) (.tmp 69) 24 rfl (w3.heap.size + 1) 26 i0 _ 3 56 Try.underlying24 hi0 hz0 hz1 hz2 rfl (by decide) _ _ _ rfl ((hown.alloc _).alloc _) ⟨wr.heap.size + 1, 0, none⟩ 1 1 [.int .i64 k2, .slice B1 m1 g1, .slice B2 m2 g2] rfl rfl (World.news_of_block (heap_alloc_new2 wr _ _)) (three_one _ _ _ _ _ _ _) (by decide) (by unfold maxLen; first | omega | simp) (by first | omega | simp) (by simp; omega) _ rfl ?_)
        intro g cap2 w4 hown4 hgrow hat hlt4
        have HS := Lib.hid (PRow.grow ((hown.alloc _).alloc _) (hkids.keep (w' := (wr.alloc (.cells #[.int .i64 k2, .slice B1 m1 g1, .slice B2 m2 g2] 26)).alloc (.cells #[.int .i64 k2, .slice B1 m1 g1, .slice B2 m2 g2] 26)) fun j hj => by rw [Below.heap_alloc _ _ _ (by simp; omega), Below.heap_alloc _ _ _ (by omega)]) ((hbw.alloc (by omega) _).alloc (by simp; omega) _) (by simp; omega) (HKN.out.keep (w' := (wr.alloc (.cells #[.int .i64 k2, .slice B1 m1 g1, .slice B2 m2 g2] 26)).alloc (.cells #[.int .i64 k2, .slice B1 m1 g1, .slice B2 m2 g2] 26)) fun j hj => by rw [Below.heap_alloc _ _ _ (by simp; omega), Below.heap_alloc _ _ _ (by omega)]) (by rw [HPE.out]; rfl) hown4 hgrow)
        have HB := Lib.hid (show Blk w4 (w3.heap.size + 2) 26 #[.int .i64 k2, .slice B1 m1 g1, .slice B2 m2 g2, .int .i64 k3, .slice D1 n1 c1, .slice D2 n2 c2] from ((hlit.alloc _).alloc _).grown hgrow (fun e => hvne e.symm))
        have HN := Lib.hid (show (some g : Option Nat) ≠ some (w3.heap.size + 2) by
          rcases hat with h | h
          · rw [← h]; exact hvne
          · intro e; injection e with e; (try simp at h); omega)
        go_wp2
        go_roundw
        case rel => exact ⟨_, _, _, 1, _, rfl, rfl, by omega, by simp, HS.out, HB.out, HN.out⟩
        case measure => simp [intOf]
    · obtain rfl : acc = partsT a := by simpa using hacc
      clear hacc
      have HTX := Lib.hid ((HTB.out.keep (w' := wr) fun j hj => hbw.block j (by omega)).mono (Y := fun j => j < w3.heap.size + 1) fun j hj => by omega)
      by_cases hk3 : k3 = 3
      · have hk3' : (k3 == 3) = true := by simpa using hk3
        obtain ⟨bb, oo, news, hA, hpos, hlen', hkn, hnc, hno⟩ := parts_alt HTX.out hk3 HNB.out
        have HKN := Lib.hid (hkn.deeper (Nat.le_succ _))
        have hnl : news.length = n2 * 3 := by rw [hkn.1, hlen']
        have hm2 : n2 ≤ 1000 := by omega
        have HA' := Lib.hid hA
        have HL' := Lib.hid hlen'
        clear hA hlen' hk3
        have hnc' : ∀ j u, news[j]? = some u → (wr.alloc (.cells #[.int .i64 k3, .slice D1 n1 c1, .slice D2 n2 c2] 26)).cell? ((⟨bb, oo, none⟩ : Addr).add j) = some u := fun j u hu => by
          have h0 := hnc j u hu
          have hlt := World.block_lt_of_cell? wr _ h0
          rw [World.cell?_of_block (Below.heap_alloc _ _ _ hlt)]; exact h0
        clear hkn hnc
        go_wp2_with (at_builtin; refine wpList_append_lies _ rfl (.tmp 63) (.tmp 65) 24 rfl (w3.heap.size + 1) 26 i0 _ 3 56 Try.underlying24 hi0 hz0 hz1 hz2 rfl (by decide) _ _ _ rfl (hown.alloc _) ⟨bb, oo, none⟩ n2 c2 news (by show Value.slice D2 n2 c2 = _; rw [HA'.out]) hnl hnc' hno hpos (by unfold maxLen; first | omega | (simp; omega)) (by first | omega | (simp; omega)) (by simp; omega) _ rfl ?_)
        intro g cap2 w4 hown4 hgrow hat hlt4
        have HS := Lib.hid (PRow.grow (hown.alloc _) (hkids.keep (w' := wr.alloc (.cells #[.int .i64 k3, .slice D1 n1 c1, .slice D2 n2 c2] 26)) fun j hj => Below.heap_alloc _ _ _ (by omega)) (hbw.alloc (by omega) _) (by simp; omega) (HKN.out.keep (w' := wr.alloc (.cells #[.int .i64 k3, .slice D1 n1 c1, .slice D2 n2 c2] 26)) fun j hj => Below.heap_alloc _ _ _ (by omega)) (congrArg (fun z => (partsT a).length + z) HL'.out) hown4 hgrow)
        have HB := Lib.hid (show Blk w4 (w3.heap.size + 2) 26 #[.int .i64 k2, .slice B1 m1 g1, .slice B2 m2 g2, .int .i64 k3, .slice D1 n1 c1, .slice D2 n2 c2] from (hlit.alloc _).grown hgrow (fun e => hvne e.symm))
        have HN := Lib.hid (show (some g : Option Nat) ≠ some (w3.heap.size + 2) by
          rcases hat with h | h
          · rw [← h]; exact hvne
          · intro e; injection e with e; (try simp at h); omega)
        go_wp2
        go_roundw
        case rel => exact ⟨_, _, _, 2, _, rfl, rfl, by omega, by simp, HS.out, HB.out, HN.out⟩
        case measure => simp [intOf]
      · have hk3' : (k3 == 3) = false := by simpa using hk3
        obtain ⟨hpe, hkn⟩ := parts_one HTX.out hk3
        have HKN := Lib.hid hkn
        have HPE := Lib.hid hpe
        clear hkn
        go_wp2_with (at_builtin; refine wpList_append_lies _ rfl (.tmp 67) (.tmp 69) 24 rfl (w3.heap.size + 1) 26 i0 _ 3 56 Try.underlying24 hi0 hz0 hz1 hz2 rfl (by decide) _ _ _ rfl ((hown.alloc _).alloc _) ⟨wr.heap.size + 1, 0, none⟩ 1 1 [.int .i64 k3, .slice D1 n1 c1, .slice D2 n2 c2] rfl rfl (World.news_of_block (heap_alloc_new2 wr _ _)) (three_one _ _ _ _ _ _ _) (by decide) (by unfold maxLen; first | omega | simp) (by first | omega | simp) (by simp; omega) _ rfl ?_)
        intro g cap2 w4 hown4 hgrow hat hlt4
        have HS := Lib.hid (PRow.grow ((hown.alloc _).alloc _) (hkids.keep (w' := (wr.alloc (.cells #[.int .i64 k3, .slice D1 n1 c1, .slice D2 n2 c2] 26)).alloc (.cells #[.int .i64 k3, .slice D1 n1 c1, .slice D2 n2 c2] 26)) fun j hj => by rw [Below.heap_alloc _ _ _ (by simp; omega), Below.heap_alloc _ _ _ (by omega)]) ((hbw.alloc (by omega) _).alloc (by simp; omega) _) (by simp; omega) (HKN.out.keep (w' := (wr.alloc (.cells #[.int .i64 k3, .slice D1 n1 c1, .slice D2 n2 c2] 26)).alloc (.cells #[.int .i64 k3, .slice D1 n1 c1, .slice D2 n2 c2] 26)) fun j hj => by rw [Below.heap_alloc _ _ _ (by simp; omega), Below.heap_alloc _ _ _ (by omega)]) (by rw [HPE.out]; rfl) hown4 hgrow)
        have HB := Lib.hid (show Blk w4 (w3.heap.size + 2) 26 #[.int .i64 k2, .slice B1 m1 g1, .slice B2 m2 g2, .int .i64 k3, .slice D1 n1 c1, .slice D2 n2 c2] from ((hlit.alloc _).alloc _).grown hgrow (fun e => hvne e.symm))
        have HN := Lib.hid (show (some g : Option Nat) ≠ some (w3.heap.size + 2) by
          rcases hat with h | h
          · rw [← h]; exact hvne
          · intro e; injection e with e; (try simp at h); omega)
        go_wp2
        go_roundw
        case rel => exact ⟨_, _, _, 2, _, rfl, rfl, by omega, by simp, HS.out, HB.out, HN.out⟩
        case measure => simp [intOf]
    · obtain rfl : acc = partsT a ++ partsT b := by simpa using hacc
      clear hacc q0 q1 q2 q3 q4 q5
      have hap : 0 < (partsT a ++ partsT b).length := by
        have := HNA.out
        rw [List.length_append]
        have h1 : (partsT a).length ≠ 0 := by simpa using this
        omega
      obtain ⟨gp, cq, hv, _, _⟩ := hown.form hap
      injection hv with hv1 hv2 hv3
      subst hv1 hv2 hv3
      have HT0 := Lib.hid (tree_node (k := 3) hown (hkids.mono (Y := fun j => j < wr.heap.size) fun j hj => by omega) (fun j hj => (hown.lt j hj).2))
      go_wp2_with fail
      refine (HH.out.m3 _).mono ?_
      rintro e w5 ⟨d5, k5, E1, e1, f1, E2, e2, f2, rfl, ht5, b5⟩
      have HT5 := Lib.hid ht5
      clear ht5
      go_wp2_with fail
      refine (HH.out.m4 _).mono ?_
      rintro e w6 ⟨d6, k6, F1, e3, f3, F2, e4, f4, rfl, ht6, b6⟩
      have HT6 := Lib.hid ht6
      clear ht6
      go_wp2_with fail
      refine (HH.out.m5 _).mono ?_
      rintro e w7 ⟨d7, k7, G1, e5, f5, G2, e6, f6, rfl, ht7, b7⟩
      have HT7 := Lib.hid ht7
      clear ht7
      have s5 := b5.size
      have s6 := b6.size
      have s7 := b7.size
      simp at s6 s7
      have Bor := ((Blk.new w5 26 #[.int .i64 k5, .slice E1 e1 f1, .slice E2 e2 f2]).below b6 (by simp)).alloc (.cells #[.int .i64 k6, .slice F1 e3 f3, .slice F2 e4 f4] 26) |>.below b7 (by simp; omega)
      have Bcat := (Blk.new w6 26 #[.int .i64 k6, .slice F1 e3 f3, .slice F2 e4 f4]).below b7 (by simp)
      obtain ⟨o0, o1, o2, _, _, _⟩ := blk3 Bor
      have l5 := Bor.lt
      have l6 := Bcat.lt
      have C0 : Below wr.heap.size wr (w5.alloc (.cells #[.int .i64 k5, .slice E1 e1 f1, .slice E2 e2 f2] 26)) := b5.alloc s5 _
      have C1 : Below (w5.alloc (.cells #[.int .i64 k5, .slice E1 e1 f1, .slice E2 e2 f2] 26)).heap.size (w5.alloc (.cells #[.int .i64 k5, .slice E1 e1 f1, .slice E2 e2 f2] 26)) (w6.alloc (.cells #[.int .i64 k6, .slice F1 e3 f3, .slice F2 e4 f4] 26)) := b6.alloc b6.size _
      have C2 : Below (w6.alloc (.cells #[.int .i64 k6, .slice F1 e3 f3, .slice F2 e4 f4] 26)).heap.size (w6.alloc (.cells #[.int .i64 k6, .slice F1 e3 f3, .slice F2 e4 f4] 26)) (w7.alloc (.cells #[.int .i64 k7, .slice G1 e5 f5, .slice G2 e6 f6] 26)) := b7.alloc b7.size _
      have C12 := C1.trans (C2.mono C1.size)
      have C02 := C0.trans (C12.mono C0.size)
      have HBO := Lib.hid (Bor.alloc (.cells #[.int .i64 k7, .slice G1 e5 f5, .slice G2 e6 f6] 26))
      have HBC := Lib.hid (Bcat.alloc (.cells #[.int .i64 k7, .slice G1 e5 f5, .slice G2 e6 f6] 26))
      have HBS := Lib.hid (Blk.new w7 26 #[.int .i64 k7, .slice G1 e5 f5, .slice G2 e6 f6])
      have hlA : w2.heap.size < wr.heap.size := by omega
      have hlB : w3.heap.size < wr.heap.size := by omega
      have HNA7 := Lib.hid ((HBA.out.below hbw (by omega)).below C02 hlA)
      have HNB7 := Lib.hid ((HBB.out.below hbw (by omega)).below C02 hlB)
      have M : ∃ M, max d2 d3 + 1 + 1 ≤ M ∧ d5 ≤ M ∧ d6 ≤ M + 1 ∧ d7 ≤ M + 1 := ⟨max d2 d3 + 2 + d5 + d6 + d7, by omega, by omega, by omega, by omega⟩
      obtain ⟨M, hM1, hM2, hM3, hM4⟩ := M
      have HP7 := Lib.hid (HT0.out.up (d' := M) (fun _ h => h) C02 (by omega))
      rw [List.length_append] at HP7
      have HO7 := Lib.hid ((HT5.out.keep (w' := w5.alloc (.cells #[.int .i64 k5, .slice E1 e1 f1, .slice E2 e2 f2] 26)) fun j hj => Below.heap_alloc _ _ _ hj.2).up (d' := M) (fun j hj => by have := hj.2; simp; omega) C12 hM2)
      have HC7 := Lib.hid ((HT6.out.keep (w' := w6.alloc (.cells #[.int .i64 k6, .slice F1 e3 f3, .slice F2 e4 f4] 26)) fun j hj => Below.heap_alloc _ _ _ hj.2).up (d' := M + 1) (fun j hj => by have := hj.2; simp; omega) C2 hM3)
      have HS7 := Lib.hid (HT7.out.up (w' := w7.alloc (.cells #[.int .i64 k7, .slice G1 e5 f5, .slice G2 e6 f6] 26)) (d' := M + 1) (fun j hj => hj.2) ((Below.refl _ w7).alloc (Nat.le_refl _) _) hM4)
      have HA7 := Lib.hid (((HTA.out.keep (w' := wr) fun j hj => hbw.block j (by omega)).up (d' := M) (fun j hj => by omega) C02 (by omega)))
      have HB7 := Lib.hid (((HTB.out.keep (w' := wr) fun j hj => hbw.block j (by omega)).up (d' := M) (fun j hj => by omega) C02 (by omega)))
      have HW7 := Lib.hid (show Below w.heap.size w (w7.alloc (.cells #[.int .i64 k7, .slice G1 e5 f5, .slice G2 e6 f6] 26)) from (HW.out.trans (hbw.mono (by omega))).trans (C02.mono (by have := HW.out.size; omega)))
      clear Bor Bcat C0 C1 C2 C12 C02 HT0 HT5 HT6 HT7 HTA HTB HW HBA HBB HLIT HOWN hown hkids hbw hlit hvne b5 b6 b7 HNA HNB
      go_wp2_with fail
      refine (same_yes _ _ _ _ _ _ _ _ _ HO7.out HP7.out).mono ?_
      rintro e w8 ⟨rfl, b8⟩
      obtain ⟨o0, o1, o2, _, _, _⟩ := blk3 (HBC.out.below b8 HBC.out.lt)
      obtain ⟨t0, t1, t2, _, _, _⟩ := blk3 (HNA7.out.below b8 HNA7.out.lt)
      obtain ⟨u0, u1, u2, _, _, _⟩ := blk3 (HNB7.out.below b8 HNB7.out.lt)
      have HT8 := Lib.hid (two_tree (HA7.out.up (fun _ h => h) b8 (Nat.le_refl _)) (HB7.out.up (fun _ h => h) b8 (Nat.le_refl _)))
      have b9 := b8.alloc b8.size (.cells #[.int .i64 k2, .slice B1 m1 g1, .slice B2 m2 g2, .int .i64 k3, .slice D1 n1 c1, .slice D2 n2 c2] 26)
      have HC8 := Lib.hid (HC7.out.up (fun _ h => h) b9 (Nat.le_refl _))
      have BC := Lib.hid (HBS.out.below b9 HBS.out.lt)
      have BA := Lib.hid ((HNA7.out.below b9 HNA7.out.lt))
      have HA9 := Lib.hid (HA7.out.up (fun _ h => h) b9 (Nat.le_refl _))
      have HS9 := Lib.hid (HS7.out.up (d' := M + 2) (fun _ h => h) b9 (by omega))
      have HW9 := Lib.hid (HW7.out.trans (b9.mono HW7.out.size))
      have s9 := b9.size
      go_wp2_with fail
      refine (same_yes _ _ _ _ _ _ _ _ _ HC8.out HT8.out).mono ?_
      rintro e w9 ⟨rfl, b10⟩
      have s10 := b10.size
      clear o0 o1 o2 t0 t1 t2 u0 u1 u2 HC7 HO7 HP7 HB7 HNB7 HT8 HC8 b8 b9
      obtain ⟨o0, o1, o2, _, _, _⟩ := blk3 (BC.out.below b10 BC.out.lt)
      obtain ⟨t0, t1, t2, _, _, _⟩ := blk3 (BA.out.below b10 BA.out.lt)
      have lc := (BC.out.below b10 BC.out.lt).lt
      have HW10 := Lib.hid (HW9.out.trans (b10.mono HW9.out.size))
      have ta := HA9.out.up (fun _ h => h) b10 (Nat.le_refl _)
      have b11 := (b10.alloc b10.size (.cells #[.int .i64 k2, .slice B1 m1 g1, .slice B2 m2 g2] 26))
      have b12 := (b11.alloc b11.size (.cells #[.int .i64 4, .slice none 0 0, .slice (some ⟨w9.heap.size, 0, none⟩) 1 1] 26))
      have HS10 := Lib.hid (HS9.out.up (fun _ h => h) b12 (Nat.le_refl _))
      have tw := wrap_tree (Y := fun j => j < w9.heap.size + 1) 4 ta (fun j hj => ⟨hj, by omega⟩) (by omega)
      have tx := wrap_tree (Y := fun j => j < w9.heap.size + 1 + 1) 2 tw (fun j hj => ⟨by simpa using hj, by omega⟩) (by simp)
      simp only [World.size_alloc] at tx
      have HX10 := Lib.hid (tx.mono (Y := fun j => j < ((w9.alloc (.cells #[.int .i64 k2, .slice B1 m1 g1, .slice B2 m2 g2] 26)).alloc (.cells #[.int .i64 4, .slice none 0 0, .slice (some ⟨w9.heap.size, 0, none⟩) 1 1] 26)).heap.size) fun j hj => by simp; omega)
      clear tw tx ta b10 b11 b12
      go_wp2_with fail
      refine (same_yes _ _ _ _ _ _ _ _ _ HS10.out HX10.out).mono ?_
      rintro e wz ⟨rfl, bz⟩
      go_wp2
      go_ret
      refine ⟨rfl, ?_⟩
      have h1 := HW10.out.alloc HW10.out.size (.cells #[.int .i64 k2, .slice B1 m1 g1, .slice B2 m2 g2] 26)
      have h2 := h1.alloc h1.size (.cells #[.int .i64 4, .slice none 0 0, .slice (some ⟨w9.heap.size, 0, none⟩) 1 1] 26)
      exact h2.trans (bz.mono h2.size)
end Go.Proofs.Ytjnhmcgjeljcmaa
