/- rex.part. -/
import Derived.Test.YtjnhmcgjeljcmaaXq
import Derived.Test.YtjnhmcgjeljcmaaGs
namespace Go.Proofs.Ytjnhmcgjeljcmaa
open Go.RowKit

theorem PiRel.drewN {w wr : World} {b k : Nat} {s : ByteArray} {kind : Int} {acc : List Tr} (h : PiRel w b s kind k acc wr) (n : Nat) : PiRel w b s kind k acc (wr.drewN n) := by
  obtain ⟨A, cap, d, cells, h1, h2, h3, h4, h5, h6⟩ := h
  exact ⟨A, cap, d, cells, h1, h2, h3, h4.keep fun _ _ => rfl, h5, gb_drewN h6 n⟩
theorem PiRel.cur {w wr : World} {b k : Nat} {s : ByteArray} {kind : Int} {acc : List Tr} (h : PiRel w b s kind k acc wr) : Cur wr b s k := by
  obtain ⟨A, cap, d, cells, h1, h2, h3, h4, h5, h6⟩ := h
  exact h5
theorem over_pi {w wr : World} {b k : Nat} {s : ByteArray} {kind : Int} {acc : List Tr} (h : PiRel w b s kind k acc wr) :
    Calls Try.prog 55 #[.pointer (some ⟨b, 0, none⟩)] wr fun e w' => e = .returned (.bool (overB s k)) ∧ PiRel w b s kind k acc w' :=
  (over_any b k s wr h.cur).mono fun e w' ⟨h1, n, h2⟩ => ⟨h1, by rw [h2]; exact h.drewN n⟩
theorem is_pi {w wr : World} {b k : Nat} {s : ByteArray} {kind : Int} {acc : List Tr} (t : ByteArray) (h : PiRel w b s kind k acc wr) (hk : k ≤ s.size) :
    Calls Try.prog 115 #[.pointer (some ⟨b, 0, none⟩), .string t] wr fun e w' => e = .returned (.bool (isB t.data.toList s k)) ∧ PiRel w b s kind k acc w' :=
  (is_any b k s t wr h.cur hk).mono fun e w' ⟨h1, n, h2⟩ => ⟨h1, by rw [h2]; exact h.drewN n⟩
theorem partK_stop {Al : List UInt8 → Pr} {f : Nat} {l : List UInt8} {acc : List Tr} {m : Nat} (h : (l.isEmpty || starts [124] l || starts [41] l) = true) : partK Al (f + 1) l acc m = .ok (.mk 2 [] acc) m := by
  unfold partK; rw [if_pos h]
theorem partK_err {Al : List UInt8 → Pr} {f : Nat} {l : List UInt8} {acc : List Tr} {m o : Nat} {c : Int} (h : (l.isEmpty || starts [124] l || starts [41] l) = false) (hp : pieceX Al l = .err c o) : partK Al (f + 1) l acc m = .err c (m + o) := by
  unfold partK; rw [if_neg (by rw [h]; simp), hp]
theorem partK_ok {Al : List UInt8 → Pr} {f : Nat} {l : List UInt8} {acc : List Tr} {m n : Nat} {t : Tr} (h : (l.isEmpty || starts [124] l || starts [41] l) = false) (hp : pieceX Al l = .ok t n) : partK Al (f + 1) l acc m = partK Al f (l.drop n) (acc ++ [t]) (m + n) := by
  rw [partK, if_neg (by rw [h]; simp), hp]
theorem pi_end {w wr : World} {b k k2 : Nat} {s : ByteArray} {acc : List Tr} {A : Option Addr} {cap d : Nat} {cells : List Value} (hb0 : b < w.heap.size) (hkk : k ≤ k2)
    (_ : Blk wr w.heap.size 26 #[.int .i64 0, .slice none 0 0, .slice none 0 0]) (hown : wr.ownsRow (w.heap.size + 2) 26 3 (.slice A acc.length cap) acc.length cells)
    (hkids : KidsAt wr (fun j => w.heap.size + 2 ≤ j ∧ j < wr.heap.size ∧ (Value.slice A acc.length cap).ownBlock ≠ some j) d acc cells) (hc : Cur wr b s k2) (gw : w.grownBy wr (some b)) (x y z : Value) :
    NPost w b s k (.ok (.mk 2 [] acc) (k2 - k)) (.returned (.agg #[.int .i64 2, .slice none 0 0, .slice A acc.length cap])) (((wr.setCell ⟨w.heap.size, 0, none⟩ x).setCell ⟨w.heap.size, 1, none⟩ y).setCell ⟨w.heap.size, 2, none⟩ z) := by
  refine ⟨⟨d + 1, 2, none, 0, 0, A, acc.length, cap, rfl, ?_⟩, ?_, gb_store gw (Nat.le_refl _)⟩
  · refine (TreeAt.keep (fun j hj => ?_) (tree_node (k := 2) hown (hkids.mono (Y := fun j => w.heap.size + 2 ≤ j ∧ j < wr.heap.size) fun j hj => ⟨hj.1, hj.2.1⟩) (fun j hj => hown.lt j hj))).mono fun j hj => ⟨by have := hj.1; omega, ?_⟩
    · have hne : j ≠ w.heap.size := by have := hj.1; omega
      rw [Below.heap_setCell _ _ _ _ hne, Below.heap_setCell _ _ _ _ hne, Below.heap_setCell _ _ _ _ hne]
    · simp [World.setCell]; exact hj.2
  · rw [show k + (k2 - k) = k2 by omega]
    exact cur_store hc (by omega)

set_option maxHeartbeats 2000000 in
set_option maxRecDepth 100000 in
theorem part_any (Al : List UInt8 → Pr) (b k : Nat) (s : ByteArray) (w : World) (hc : Cur w b s k) (hk : k ≤ s.size) (hs : s.size ≤ 256) (hA : ∀ j, k < j → j ≤ s.size → IsAl Al b s j) :
    Calls Try.prog 88 #[.pointer (some ⟨b, 0, none⟩)] w (NPost w b s k (partX Al (restL s k))) := by
  obtain ⟨i0, hi0, hz0, hz1, hz2⟩ := info_parts nodeInfo
  have hsm : s.size ≤ maxLen := by unfold maxLen; omega
  have hb0 : b < w.heap.size := Blk.lt hc
  unfold partX
  have hf : s.size - k < (restL s k).length + 1 := by rw [rest_len]; omega
  generalize hF : (restL s k).length + 1 = F at hf
  clear hF
  generalize hR : partK Al F (restL s k) [] 0 = R
  have HR := Lib.hid hR
  clear hR
  go_enter Try.func88, Try.ntmps88
  go_wp2_with fail
  go_loopg [5] (s.size + 1 - k) (fun gn _ wr => ∃ (f k2 : Nat) (acc : List Tr), s.size - k2 < f ∧ k ≤ k2 ∧ k2 ≤ s.size ∧ gn = s.size + 1 - k2 ∧ acc.length ≤ k2 ∧ R = partK Al f (restL s k2) acc (k2 - k) ∧ PiRel w b s 2 k2 acc wr)
  case atStart => exact ⟨F, k, [], hf, Nat.le_refl _, hk, rfl, Nat.zero_le _, by rw [Nat.sub_self]; exact HR.out.symm, PiRel.start hc⟩
  case round =>
    obtain ⟨f, k2, acc, hf2, hkk, h2s, rfl, hal, hRR, hpi⟩ := hrel
    have hA2 : k2 < s.size → IsAl Al b s (k2 + 1) := fun h => hA (k2 + 1) (by omega) h
    have HA2 := Lib.hid hA2
    obtain ⟨f, rfl⟩ : ∃ f', f = f' + 1 := ⟨f - 1, by omega⟩
    have HRR := Lib.hid hRR
    clear hRR hA2 hf HR
    cases ho : overB s k2
    · have h2l : k2 < s.size := by simp [overB] at ho; omega
      have hne : (restL s k2).isEmpty = false := by rw [rest_cons s k2 h2l]; rfl
      cases h1 : isB [124] s k2
      · cases h3 : isB [41] s k2
        · have hgo : ((restL s k2).isEmpty || starts [124] (restL s k2) || starts [41] (restL s k2)) = false := by
            rw [hne, ← preB_starts, ← preB_starts]; unfold isB at h1 h3; rw [h1, h3]; rfl
          go_wp2_with fail
          refine (over_pi hpi).mono ?_
          rintro e w2 ⟨rfl, hpi2⟩
          rw [ho]
          clear hpi
          go_wp2_with fail
          refine (is_pi ⟨#[124]⟩ hpi2 h2s).mono ?_
          rintro e w4 ⟨rfl, hpi4⟩
          rw [show isB (ByteArray.mk #[124]).data.toList s k2 = false from h1]
          clear hpi2
          go_wp2_with fail
          refine (is_pi ⟨#[41]⟩ hpi4 h2s).mono ?_
          rintro e wr ⟨rfl, hpi⟩
          rw [show isB (ByteArray.mk #[41]).data.toList s k2 = false from h3]
          clear hpi4
          obtain ⟨A, cap, d, cells, hblk, hn, hown, hkids, hc2, gw⟩ := hpi
          obtain ⟨n0, n1, n2, z0, z1, z2⟩ := blk3 hn
          have hlt1 := hn.lt
          go_wp2
          have hA2 := HA2.out
          cases hp : pieceX Al (restL s k2) with
          | err c o =>
            have HP := Lib.hid hp
            have HR2 := Lib.hid (show R = .err c (k2 - k + o) by rw [HRR.out, partK_err hgo hp])
            clear hp
            have HPC := Lib.hid (fun W (h : Cur W b s k2) => xpiece_any Al b k2 s W h h2s hs hA2)
            refine wp_region_any (by kernel_rfl) ?_
            change wpAny _ _ _ _ _ _ _ (World.drew _)
            refine wpAny_take (i := 0) (v := .pointer (some ⟨w.heap.size + 1, 2, none⟩)) rfl (by kernel_rfl) (by kernel_rfl) (by kernel_rfl) (fun _ _ _ h => h) (Or.inl ⟨by rfl, fun W => by go_simp⟩) ?_
            refine wpAny_take (i := 2) (v := .pointer (some ⟨b, 0, none⟩)) rfl (by kernel_rfl) (by kernel_rfl) (by kernel_rfl) (fun _ _ _ h => h) (Or.inl ⟨by rfl, fun W => by go_simp⟩) ?_
            refine wpAny_ready (rs := [1, 3]) (by kernel_rfl) (by simp) ?_
            refine AllReady.cons rfl (fun K hK => ?_) (AllReady.cons rfl (fun K hK => ?_) AllReady.nil)
            · go_simp
              refine hK _ _ ?_
              refine wpAny_ready (rs := [3]) (by kernel_rfl) (by simp) ?_
              refine AllReady.cons rfl (fun K hK => ?_) AllReady.nil
              go_simp
              go_wp2_with fail
              refine (HPC.out _ (hc2.drewN _)).mono ?_
              intro e w3 hp
              obtain ⟨rfl, g3⟩ := hp.err_ HP.out
              refine ⟨rfl, ?_⟩
              rw [HR2.out]
              exact ⟨flaw_eq (show k2 + o = k + (k2 - k + o) by omega), gb_trans (gb_drewN gw _) g3⟩
            · go_simp
              go_wp2_with fail
              refine (HPC.out _ (hc2.drewN _)).mono ?_
              intro e w3 hp
              obtain ⟨rfl, g3⟩ := hp.err_ HP.out
              refine ⟨rfl, ?_⟩
              rw [HR2.out]
              exact ⟨flaw_eq (show k2 + o = k + (k2 - k + o) by omega), gb_trans (gb_drewN gw _) g3⟩
          | ok t n =>
            have hpn := pieceX_bd hp
            rw [rest_len] at hpn
            have HP := Lib.hid hp
            have HR2 := Lib.hid (show R = partK Al f (restL s (k2 + n)) (acc ++ [t]) (k2 + n - k) by
              rw [HRR.out, partK_ok hgo hp, rest_drop, show k2 - k + n = k2 + n - k by omega])
            clear hp
            have HPC := Lib.hid (fun W (h : Cur W b s k2) => xpiece_any Al b k2 s W h h2s hs hA2)
            clear hA2
            refine wp_region_any (by kernel_rfl) ?_
            change wpAny _ _ _ _ _ _ _ (World.drew _)
            refine wpAny_take (i := 0) (v := .pointer (some ⟨w.heap.size + 1, 2, none⟩)) rfl (by kernel_rfl) (by kernel_rfl) (by kernel_rfl) (fun _ _ _ h => h) (Or.inl ⟨by rfl, fun W => by go_simp⟩) ?_
            refine wpAny_take (i := 2) (v := .pointer (some ⟨b, 0, none⟩)) rfl (by kernel_rfl) (by kernel_rfl) (by kernel_rfl) (fun _ _ _ h => h) (Or.inl ⟨by rfl, fun W => by go_simp⟩) ?_
            refine wpAny_ready (rs := [1, 3]) (by kernel_rfl) (by simp) ?_
            refine AllReady.cons rfl (fun K hK => ?_) (AllReady.cons rfl (fun K hK => ?_) AllReady.nil)
            · go_simp
              refine hK _ _ ?_
              clear hK K
              refine wpAny_ready (rs := [3]) (by kernel_rfl) (by simp) ?_
              refine AllReady.cons rfl (fun K hK => ?_) AllReady.nil
              go_simp
              go_wp2_with fail
              refine (HPC.out _ (hc2.drewN _)).mono ?_
              intro e w3 hp
              obtain ⟨⟨d3, kk, A3, n3, c3, A3', n3', c3', rfl, ht3⟩, hc3, g3⟩ := hp.ok_ HP.out
              have hn3 := (hn.drewN 1).grown g3 (by simp; omega)
              obtain ⟨_, _, n32, _, _, z32⟩ := blk3 hn3
              have hown3 : w3.ownsRow (w.heap.size + 2) 26 3 (.slice A acc.length cap) acc.length cells := own_grown (w := wr.drewN 1) hown g3 (by omega)
              have hs3 := hn3.lt
              refine hK _ _ ?_
              refine wpAny_ready (rs := [4]) (by kernel_rfl) (by simp) ?_
              refine AllReady.cons rfl (fun K hK => ?_) AllReady.nil
              go_simp
              refine hK _ _ ?_
              refine wpAny_ready (rs := [5]) (by kernel_rfl) (by simp) ?_
              refine AllReady.cons rfl (fun K hK => ?_) AllReady.nil
              refine step_append_lies _ (by rfl) (.tmp 19) (.tmp 22) 24 (by rfl) (w.heap.size + 2) 26 i0 _ 3 56 Try.underlying24 hi0 hz0 hz1 hz2 rfl (by decide) _ acc.length cells (by rfl) (by exact hown3.alloc _) ⟨w3.heap.size, 0, none⟩ 1 1 [.int .i64 kk, .slice A3 n3 c3, .slice A3' n3' c3'] (by rfl) rfl (by exact World.news_of_block (heap_alloc_new w3 _)) (three_one _ _ _ _ _ _ _) (by decide) (by unfold maxLen; omega) (by omega) (by simp; omega) _ (by rfl) ?_
              intro g cap2 w4 hown4 hgrow hat hlt4
              have hn4 := (hn3.alloc (.cells #[.int .i64 kk, .slice A3 n3 c3, .slice A3' n3' c3'] 26)).grown hgrow (own_apart hown3 (by omega))
              obtain ⟨_, _, n42, _, _, z42⟩ := blk3 hn4
              refine hK _ _ ?_
              refine wpAny_take (i := 6) (v := .pointer (some ⟨w.heap.size + 1, 2, none⟩)) rfl (by kernel_rfl) (by kernel_rfl) (by kernel_rfl) (fun _ _ _ h => h) (Or.inl ⟨by rfl, fun W => by go_simp⟩) ?_
              refine wpAny_ready (rs := [7]) (by kernel_rfl) (by simp) ?_
              refine AllReady.cons rfl (fun K hK => ?_) AllReady.nil
              go_simp
              refine hK _ _ ?_
              refine wpAny_done (by kernel_rfl) ?_ _
              go_wp2
              go_roundg (s.size + 1 - (k2 + n))
              case measure => omega
              case rel => exact ⟨f, k2 + n, acc ++ [t], by omega, by omega, by omega, rfl, by simp; omega, HR2.out, PiRel.step hb0 hblk hown hkids gw hlt1 g3 ht3 hc3 hgrow hown4 hat (by simp) hn4⟩
            · go_simp
              go_wp2_with fail
              refine (HPC.out _ (hc2.drewN _)).mono ?_
              intro e w3 hp
              obtain ⟨⟨d3, kk, A3, n3, c3, A3', n3', c3', rfl, ht3⟩, hc3, g3⟩ := hp.ok_ HP.out
              have hn3 := (hn.drewN 1).grown g3 (by simp; omega)
              obtain ⟨_, _, n32, _, _, z32⟩ := blk3 hn3
              have hown3 : w3.ownsRow (w.heap.size + 2) 26 3 (.slice A acc.length cap) acc.length cells := own_grown (w := wr.drewN 1) hown g3 (by omega)
              have hs3 := hn3.lt
              refine hK _ _ ?_
              clear hK K
              refine wpAny_ready (rs := [1, 4]) (by kernel_rfl) (by simp) ?_
              refine AllReady.cons rfl (fun K hK => ?_) (AllReady.cons rfl (fun K hK => ?_) AllReady.nil)
              · go_simp
                refine hK _ _ ?_
                clear hK K
                refine wpAny_ready (rs := [4]) (by kernel_rfl) (by simp) ?_
                refine AllReady.cons rfl (fun K hK => ?_) AllReady.nil
                go_simp
                refine hK _ _ ?_
                refine wpAny_ready (rs := [5]) (by kernel_rfl) (by simp) ?_
                refine AllReady.cons rfl (fun K hK => ?_) AllReady.nil
                refine step_append_lies _ (by rfl) (.tmp 19) (.tmp 22) 24 (by rfl) (w.heap.size + 2) 26 i0 _ 3 56 Try.underlying24 hi0 hz0 hz1 hz2 rfl (by decide) _ acc.length cells (by rfl) (by exact hown3.alloc _) ⟨w3.heap.size, 0, none⟩ 1 1 [.int .i64 kk, .slice A3 n3 c3, .slice A3' n3' c3'] (by rfl) rfl (by exact World.news_of_block (heap_alloc_new w3 _)) (three_one _ _ _ _ _ _ _) (by decide) (by unfold maxLen; omega) (by omega) (by simp; omega) _ (by rfl) ?_
                intro g cap2 w4 hown4 hgrow hat hlt4
                have hn4 := (hn3.alloc (.cells #[.int .i64 kk, .slice A3 n3 c3, .slice A3' n3' c3'] 26)).grown hgrow (own_apart hown3 (by omega))
                obtain ⟨_, _, n42, _, _, z42⟩ := blk3 hn4
                refine hK _ _ ?_
                refine wpAny_take (i := 6) (v := .pointer (some ⟨w.heap.size + 1, 2, none⟩)) rfl (by kernel_rfl) (by kernel_rfl) (by kernel_rfl) (fun _ _ _ h => h) (Or.inl ⟨by rfl, fun W => by go_simp⟩) ?_
                refine wpAny_ready (rs := [7]) (by kernel_rfl) (by simp) ?_
                refine AllReady.cons rfl (fun K hK => ?_) AllReady.nil
                go_simp
                refine hK _ _ ?_
                refine wpAny_done (by kernel_rfl) ?_ _
                go_wp2
                go_roundg (s.size + 1 - (k2 + n))
                case measure => omega
                case rel => exact ⟨f, k2 + n, acc ++ [t], by omega, by omega, by omega, rfl, by simp; omega, HR2.out, PiRel.step hb0 hblk hown hkids gw hlt1 g3 ht3 hc3 hgrow hown4 hat (by simp) hn4⟩
              · go_simp
                refine hK _ _ ?_
                clear hK K
                refine wpAny_ready (rs := [1]) (by kernel_rfl) (by simp) ?_
                refine AllReady.cons rfl (fun K hK => ?_) AllReady.nil
                go_simp
                refine hK _ _ ?_
                clear hK K
                refine wpAny_ready (rs := [5]) (by kernel_rfl) (by simp) ?_
                refine AllReady.cons rfl (fun K hK => ?_) AllReady.nil
                refine step_append_lies _ (by rfl) (.tmp 19) (.tmp 22) 24 (by rfl) (w.heap.size + 2) 26 i0 _ 3 56 Try.underlying24 hi0 hz0 hz1 hz2 rfl (by decide) _ acc.length cells (by rfl) (by exact hown3.alloc _) ⟨w3.heap.size, 0, none⟩ 1 1 [.int .i64 kk, .slice A3 n3 c3, .slice A3' n3' c3'] (by rfl) rfl (by exact World.news_of_block (heap_alloc_new w3 _)) (three_one _ _ _ _ _ _ _) (by decide) (by unfold maxLen; omega) (by omega) (by simp; omega) _ (by rfl) ?_
                intro g cap2 w4 hown4 hgrow hat hlt4
                have hn4 := (hn3.alloc (.cells #[.int .i64 kk, .slice A3 n3 c3, .slice A3' n3' c3'] 26)).grown hgrow (own_apart hown3 (by omega))
                obtain ⟨_, _, n42, _, _, z42⟩ := blk3 hn4
                refine hK _ _ ?_
                refine wpAny_take (i := 6) (v := .pointer (some ⟨w.heap.size + 1, 2, none⟩)) rfl (by kernel_rfl) (by kernel_rfl) (by kernel_rfl) (fun _ _ _ h => h) (Or.inl ⟨by rfl, fun W => by go_simp⟩) ?_
                refine wpAny_ready (rs := [7]) (by kernel_rfl) (by simp) ?_
                refine AllReady.cons rfl (fun K hK => ?_) AllReady.nil
                go_simp
                refine hK _ _ ?_
                refine wpAny_done (by kernel_rfl) ?_ _
                go_wp2
                go_roundg (s.size + 1 - (k2 + n))
                case measure => omega
                case rel => exact ⟨f, k2 + n, acc ++ [t], by omega, by omega, by omega, rfl, by simp; omega, HR2.out, PiRel.step hb0 hblk hown hkids gw hlt1 g3 ht3 hc3 hgrow hown4 hat (by simp) hn4⟩
        · have HR2 := Lib.hid (show R = .ok (.mk 2 [] acc) (k2 - k) by rw [HRR.out, partK_stop (by rw [← preB_starts, ← preB_starts]; unfold isB at h3; rw [h3]; simp)])
          go_wp2_with fail
          refine (over_pi hpi).mono ?_
          rintro e w2 ⟨rfl, hpi2⟩
          rw [ho]
          clear hpi
          go_wp2_with fail
          refine (is_pi ⟨#[124]⟩ hpi2 h2s).mono ?_
          rintro e w4 ⟨rfl, hpi4⟩
          rw [show isB (ByteArray.mk #[124]).data.toList s k2 = false from h1]
          clear hpi2
          go_wp2_with fail
          refine (is_pi ⟨#[41]⟩ hpi4 h2s).mono ?_
          rintro e w5 ⟨rfl, hpi⟩
          rw [show isB (ByteArray.mk #[41]).data.toList s k2 = true from h3]
          clear hpi4
          obtain ⟨A, cap, d, cells, hblk, hn, hown, hkids, hc2, gw⟩ := hpi
          obtain ⟨n0, n1, n2, z0, z1, z2⟩ := blk3 hn
          obtain ⟨p0, p1, p2, f0, f1, f2⟩ := blk3 hblk
          have hlt1 := hn.lt
          go_wp2
          rw [HR2.out]
          exact bodyPost_ret (v := .agg #[.int .i64 2, .slice none 0 0, .slice A acc.length cap]) (by simp [results, Try.results88, go_sem, *]) rfl (pi_end hb0 hkk hblk hown hkids hc2 gw _ _ _)
      · have HR2 := Lib.hid (show R = .ok (.mk 2 [] acc) (k2 - k) by rw [HRR.out, partK_stop (by rw [← preB_starts, ← preB_starts]; unfold isB at h1; rw [h1]; simp)])
        go_wp2_with fail
        refine (over_pi hpi).mono ?_
        rintro e w2 ⟨rfl, hpi2⟩
        rw [ho]
        clear hpi
        go_wp2_with fail
        refine (is_pi ⟨#[124]⟩ hpi2 h2s).mono ?_
        rintro e w4 ⟨rfl, hpi⟩
        rw [show isB (ByteArray.mk #[124]).data.toList s k2 = true from h1]
        clear hpi2
        obtain ⟨A, cap, d, cells, hblk, hn, hown, hkids, hc2, gw⟩ := hpi
        obtain ⟨n0, n1, n2, z0, z1, z2⟩ := blk3 hn
        obtain ⟨p0, p1, p2, f0, f1, f2⟩ := blk3 hblk
        have hlt1 := hn.lt
        go_wp2
        rw [HR2.out]
        exact bodyPost_ret (v := .agg #[.int .i64 2, .slice none 0 0, .slice A acc.length cap]) (by simp [results, Try.results88, go_sem, *]) rfl (pi_end hb0 hkk hblk hown hkids hc2 gw _ _ _)
    · have h2e : k2 = s.size := by simpa [overB] using ho
      have HR2 := Lib.hid (show R = .ok (.mk 2 [] acc) (k2 - k) by rw [HRR.out, partK_stop (by rw [rest_nil s k2 (by omega)]; rfl)])
      go_wp2_with fail
      refine (over_pi hpi).mono ?_
      rintro e w2 ⟨rfl, hpi2⟩
      rw [ho]
      clear hpi
      obtain ⟨A, cap, d, cells, hblk, hn, hown, hkids, hc2, gw⟩ := hpi2
      obtain ⟨n0, n1, n2, z0, z1, z2⟩ := blk3 hn
      obtain ⟨p0, p1, p2, f0, f1, f2⟩ := blk3 hblk
      have hlt1 := hn.lt
      go_wp2
      rw [HR2.out]
      exact bodyPost_ret (v := .agg #[.int .i64 2, .slice none 0 0, .slice A acc.length cap]) (by simp [results, Try.results88, go_sem, *]) rfl (pi_end hb0 hkk hblk hown hkids hc2 gw _ _ _)
end Go.Proofs.Ytjnhmcgjeljcmaa
