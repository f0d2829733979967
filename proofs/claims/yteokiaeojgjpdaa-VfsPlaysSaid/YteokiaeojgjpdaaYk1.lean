/- A law's disk held against the document's (same). -/
import Derived.Test.YteokiaeojgjpdaaYe
import Derived.Test.YteokiaeojgjpdaaYk0
import Derived.Deep.RegionHeld3
import Derived.IntWalk
namespace Go.Proofs.Yteokiaeojgjpdaa
open Go.RowKit Go.Maps Go.Sort

set_option maxHeartbeats 8000000 in
set_option maxRecDepth 100000 in
theorem same_off {w : World} {dp : Nat} {X : Nat → Prop} {Y : Nat → Prop} {A : Option Addr} {n c : Nat} {fs : List FR} {V : FV} {free fuse : Nat} (hD : Disk w dp X ⟨V, free, fuse, true⟩) (ok : Ok ⟨V, free, fuse, true⟩) (h : RefAt w Y A n fs) (hY : Low w.heap.size Y) (hV : fs.map FR.t = V) (hR : RiseV V) (most fu : Int) (hmost : most = ((free + tot V : Nat) : Int)) :
    Calls Try.prog 30 #[.pointer (some ⟨dp, 0, none⟩), .agg #[.slice A n c, .int .i64 most, .int .i64 fu, .bool true]] w fun e w' => e = .returned (.bool true) ∧ Below w.heap.size w w' := by
  have mixed : Try.prog.follows .mixedOrders = true := by kernel_rfl
  have hfl := h.1
  have hn1 : n ≤ 1000000 := by have := ok.len; rw [← hV] at this; simp only [List.length_map] at this; omega
  obtain ⟨tt, htt⟩ : ∃ tt, tt = tot V := ⟨_, rfl⟩
  have ht5 : tt ≤ 500000000 := by rw [htt]; exact ok.bytes
  have hro : free + tt ≤ 9223372036854775807 := by rw [htt]; exact ok.room
  rw [← htt] at hmost
  have hmi : most - (tt : Int) = (free : Int) := by omega
  have hm01 : 0 ≤ most ∧ most ≤ 9223372036854775807 := by omega
  have b0 := (Below.refl w.heap.size w).alloc (Nat.le_refl _) (.cells #[.slice A n c, .int .i64 most, .int .i64 fu, .bool true] 53)
  have H := Lib.hid h
  have HD := Lib.hid hD
  have HOK := Lib.hid ok
  have HV := Lib.hid hV
  have HR := Lib.hid hR
  have HTT := Lib.hid htt
  have B0 := Lib.hid b0
  have K3 := Lib.hid (Blk.new w 53 #[.slice A n c, .int .i64 most, .int .i64 fu, .bool true])
  have CN := Lib.hid ((hD.below b0).names ok)
  clear h hD ok hV hR htt b0 hmost
  go_enter Try.func30, Try.ntmps30
  go_wp2_with fail
  refine CN.out.mono ?_
  rintro e w1 ⟨v5, rfl, hr5, b1⟩
  simp only [List.length_map] at hr5
  obtain ⟨A5, c5, ev, hcell⟩ := row_open hr5
  subst ev
  have hVl : V.length = n := by rw [← HV.out, List.length_map, hfl]
  rw [hVl] at hcell ⊢
  have HB1 := Lib.hid (B0.out.trans (b1.mono B0.out.size))
  have HC := Lib.hid hcell
  obtain ⟨q0, q1, q2, q3, -, -, -⟩ := blk4 (K3.out.below b1 K3.out.lt)
  have M1 := Lib.hid (K3.out.below b1 K3.out.lt)
  have hp3 := K3.out.lt
  have hs1 := b1.size
  have L0 : w.heap.size < w1.heap.size := by omega
  clear CN hr5 b1 hcell hVl
  go_wp2_with fail
  have CD := Lib.hid (fun (W : World) (hW : Below w.heap.size w W) => (HD.out.below hW).down)
  have CR := Lib.hid (fun (W : World) (hW : Below w.heap.size w W) => (HD.out.below hW).room)
  have CU := Lib.hid (fun (W : World) (hW : Below w.heap.size w W) => used_any (c := c) (H.out.below hY hW) (by unfold maxLen; omega) (by rw [HV.out, ← HTT.out]; omega) (.int .i64 most) (.int .i64 fu) (.bool true))
  rw [HV.out, ← HTT.out] at CU
  simp only at CD CR
  have hwr : IntKind.i64.wrap (free : Int) = (free : Int) := IntWalk.i64_in _ (by omega)
  refine wp_region_held_drew (S := fun W => W.cell? ⟨w.heap.size, 0, none⟩ = some (.slice A n c) ∧ W.cell? ⟨w.heap.size, 1, none⟩ = some (.int .i64 most) ∧ W.cell? ⟨w.heap.size, 2, none⟩ = some (.int .i64 fu) ∧ W.cell? ⟨w.heap.size, 3, none⟩ = some (.bool true)) mixed ⟨q0, q1, q2, q3⟩ (fun hS => ?_)
  refine wpAnyH_take (i := 0) (v := .pointer (some ⟨dp, 0, none⟩)) rfl (by kernel_rfl) (by kernel_rfl) (by kernel_rfl) (fun _ _ _ h => h) (Or.inl ⟨by rfl, fun W hW => by obtain ⟨h0, h1, h2, h3⟩ := hW; go_simp⟩) hS ?_
  try simp only [Act.put, List.getElem_toArray, List.getElem_cons_zero, List.getElem_cons_succ, List.setIfInBounds_toArray, List.set_cons_zero, List.set_cons_succ]
  refine wpAnyH_take (i := 2) (v := .pointer (some ⟨w.heap.size, 3, none⟩)) rfl (by kernel_rfl) (by kernel_rfl) (by kernel_rfl) (fun _ _ _ h => h) (Or.inl ⟨by rfl, fun W hW => by obtain ⟨h0, h1, h2, h3⟩ := hW; go_simp⟩) hS ?_
  try simp only [Act.put, List.getElem_toArray, List.getElem_cons_zero, List.getElem_cons_succ, List.setIfInBounds_toArray, List.set_cons_zero, List.set_cons_succ]
  refine wpAnyH_take (i := 3) (v := .bool true) rfl (by kernel_rfl) (by kernel_rfl) (by kernel_rfl) (fun _ _ _ h => h) (Or.inl ⟨by rfl, fun W hW => by obtain ⟨h0, h1, h2, h3⟩ := hW; go_simp⟩) hS ?_
  try simp only [Act.put, List.getElem_toArray, List.getElem_cons_zero, List.getElem_cons_succ, List.setIfInBounds_toArray, List.set_cons_zero, List.set_cons_succ]
  refine wpAnyH_ready (rs := [1]) (by kernel_rfl) (by simp) ?_
  refine AllReadyH.cons rfl (fun K hK => ?_) AllReadyH.nil
  go_simp
  refine (CD.out _ (HB1.out.trans (drewN_bel _ 1))).mono ?_
  rintro e w2 ⟨rfl, hw2⟩
  refine hK.out _ _ (by rw [← hw2]; exact ⟨q0, q1, q2, q3⟩) (fun hS => ?_)
  clear hK K
  refine wpAnyH_take (i := 4) (v := .bool false) rfl (by kernel_rfl) (by kernel_rfl) (by kernel_rfl) (fun _ _ _ h => h) (Or.inl ⟨by rfl, fun W hW => by obtain ⟨h0, h1, h2, h3⟩ := hW; go_simp⟩) hS ?_
  try simp only [Act.put, List.getElem_toArray, List.getElem_cons_zero, List.getElem_cons_succ, List.setIfInBounds_toArray, List.set_cons_zero, List.set_cons_succ]
  refine wpAnyH_take (i := 5) (v := .bool false) rfl (by kernel_rfl) (by kernel_rfl) (by kernel_rfl) (fun _ _ _ h => h) (Or.inl ⟨by rfl, fun W hW => by obtain ⟨h0, h1, h2, h3⟩ := hW; go_simp⟩) hS ?_
  try simp only [Act.put, List.getElem_toArray, List.getElem_cons_zero, List.getElem_cons_succ, List.setIfInBounds_toArray, List.set_cons_zero, List.set_cons_succ]
  refine wpAnyH_take (i := 6) (v := .pointer (some ⟨dp, 0, none⟩)) rfl (by kernel_rfl) (by kernel_rfl) (by kernel_rfl) (fun _ _ _ h => h) (Or.inl ⟨by rfl, fun W hW => by obtain ⟨h0, h1, h2, h3⟩ := hW; go_simp⟩) hS ?_
  try simp only [Act.put, List.getElem_toArray, List.getElem_cons_zero, List.getElem_cons_succ, List.setIfInBounds_toArray, List.set_cons_zero, List.set_cons_succ]
  refine wpAnyH_take (i := 8) (v := .pointer (some ⟨w.heap.size, 1, none⟩)) rfl (by kernel_rfl) (by kernel_rfl) (by kernel_rfl) (fun _ _ _ h => h) (Or.inl ⟨by rfl, fun W hW => by obtain ⟨h0, h1, h2, h3⟩ := hW; go_simp⟩) hS ?_
  try simp only [Act.put, List.getElem_toArray, List.getElem_cons_zero, List.getElem_cons_succ, List.setIfInBounds_toArray, List.set_cons_zero, List.set_cons_succ]
  refine wpAnyH_take (i := 9) (v := .int .i64 most) rfl (by kernel_rfl) (by kernel_rfl) (by kernel_rfl) (fun _ _ _ h => h) (Or.inl ⟨by rfl, fun W hW => by obtain ⟨h0, h1, h2, h3⟩ := hW; go_simp⟩) hS ?_
  try simp only [Act.put, List.getElem_toArray, List.getElem_cons_zero, List.getElem_cons_succ, List.setIfInBounds_toArray, List.set_cons_zero, List.set_cons_succ]
  refine wpAnyH_take (i := 10) (v := .agg #[.slice A n c, .int .i64 most, .int .i64 fu, .bool true]) rfl (by kernel_rfl) (by kernel_rfl) (by kernel_rfl) (fun _ _ _ h => h) (Or.inl ⟨by rfl, fun W hW => by obtain ⟨h0, h1, h2, h3⟩ := hW; go_simp⟩) hS ?_
  try simp only [Act.put, List.getElem_toArray, List.getElem_cons_zero, List.getElem_cons_succ, List.setIfInBounds_toArray, List.set_cons_zero, List.set_cons_succ]
  refine wpAnyH_ready (rs := [7]) (by kernel_rfl) (by simp) ?_
  refine AllReadyH.cons rfl (fun K hK => ?_) AllReadyH.nil
  go_simp
  rw [← hw2]
  refine (CR.out _ (HB1.out.trans (drewN_bel _ 1))).mono ?_
  rintro e w3 ⟨rfl, hw3⟩
  refine hK.out _ _ (by rw [← hw3]; exact ⟨q0, q1, q2, q3⟩) (fun hS => ?_)
  clear hK K
  refine wpAnyH_ready (rs := [11]) (by kernel_rfl) (by simp) ?_
  refine AllReadyH.cons rfl (fun K hK => ?_) AllReadyH.nil
  go_simp
  rw [← hw3]
  refine (CU.out _ (HB1.out.trans (drewN_bel _ 1))).mono ?_
  rintro e w4 ⟨hb4, rfl⟩
  refine hK.out _ _ ⟨(hb4.cell (p := ⟨w.heap.size, 0, none⟩) L0).trans q0, (hb4.cell (p := ⟨w.heap.size, 1, none⟩) L0).trans q1, (hb4.cell (p := ⟨w.heap.size, 2, none⟩) L0).trans q2, (hb4.cell (p := ⟨w.heap.size, 3, none⟩) L0).trans q3⟩ (fun hS => ?_)
  clear hK K
  refine wpAnyH_take (i := 12) (v := .int .i64 (free : Nat)) rfl (by kernel_rfl) (by kernel_rfl) (by kernel_rfl) (fun _ _ _ h => h) (Or.inl ⟨by rfl, fun W hW => by obtain ⟨h0, h1, h2, h3⟩ := hW; go_simp⟩) hS ?_
  try simp only [Act.put, List.getElem_toArray, List.getElem_cons_zero, List.getElem_cons_succ, List.setIfInBounds_toArray, List.set_cons_zero, List.set_cons_succ]
  refine wpAnyH_take (i := 13) (v := .bool false) rfl (by kernel_rfl) (by kernel_rfl) (by kernel_rfl) (fun _ _ _ h => h) (Or.inl ⟨by rfl, fun W hW => by obtain ⟨h0, h1, h2, h3⟩ := hW; go_simp⟩) hS ?_
  try simp only [Act.put, List.getElem_toArray, List.getElem_cons_zero, List.getElem_cons_succ, List.setIfInBounds_toArray, List.set_cons_zero, List.set_cons_succ]
  refine wpAnyH_take (i := 14) (v := .bool false) rfl (by kernel_rfl) (by kernel_rfl) (by kernel_rfl) (fun _ _ _ h => h) (Or.inl ⟨by rfl, fun W hW => by obtain ⟨h0, h1, h2, h3⟩ := hW; go_simp⟩) hS ?_
  try simp only [Act.put, List.getElem_toArray, List.getElem_cons_zero, List.getElem_cons_succ, List.setIfInBounds_toArray, List.set_cons_zero, List.set_cons_succ]
  refine wpAnyH_take (i := 15) (v := .bool false) rfl (by kernel_rfl) (by kernel_rfl) (by kernel_rfl) (fun _ _ _ h => h) (Or.inl ⟨by rfl, fun W hW => by obtain ⟨h0, h1, h2, h3⟩ := hW; go_simp⟩) hS ?_
  try simp only [Act.put, List.getElem_toArray, List.getElem_cons_zero, List.getElem_cons_succ, List.setIfInBounds_toArray, List.set_cons_zero, List.set_cons_succ]
  refine wpAnyH_take (i := 16) (v := .slice A5 n c5) rfl (by kernel_rfl) (by kernel_rfl) (by kernel_rfl) (fun _ _ _ h => h) (Or.inl ⟨by rfl, fun W hW => by obtain ⟨h0, h1, h2, h3⟩ := hW; go_simp⟩) hS ?_
  try simp only [Act.put, List.getElem_toArray, List.getElem_cons_zero, List.getElem_cons_succ, List.setIfInBounds_toArray, List.set_cons_zero, List.set_cons_succ]
  refine wpAnyH_take (i := 17) (v := .int .i64 (n : Nat)) rfl (by kernel_rfl) (by kernel_rfl) (by kernel_rfl) (fun _ _ _ h => h) (Or.inl ⟨by rfl, fun W hW => by obtain ⟨h0, h1, h2, h3⟩ := hW; go_simp⟩) hS ?_
  try simp only [Act.put, List.getElem_toArray, List.getElem_cons_zero, List.getElem_cons_succ, List.setIfInBounds_toArray, List.set_cons_zero, List.set_cons_succ]
  refine wpAnyH_take (i := 18) (v := .pointer (some ⟨w.heap.size, 0, none⟩)) rfl (by kernel_rfl) (by kernel_rfl) (by kernel_rfl) (fun _ _ _ h => h) (Or.inl ⟨by rfl, fun W hW => by obtain ⟨h0, h1, h2, h3⟩ := hW; go_simp⟩) hS ?_
  try simp only [Act.put, List.getElem_toArray, List.getElem_cons_zero, List.getElem_cons_succ, List.setIfInBounds_toArray, List.set_cons_zero, List.set_cons_succ]
  refine wpAnyH_take (i := 19) (v := .slice A n c) rfl (by kernel_rfl) (by kernel_rfl) (by kernel_rfl) (fun _ _ _ h => h) (Or.inl ⟨by rfl, fun W hW => by obtain ⟨h0, h1, h2, h3⟩ := hW; go_simp⟩) hS ?_
  try simp only [Act.put, List.getElem_toArray, List.getElem_cons_zero, List.getElem_cons_succ, List.setIfInBounds_toArray, List.set_cons_zero, List.set_cons_succ]
  refine wpAnyH_take (i := 20) (v := .int .i64 (n : Nat)) rfl (by kernel_rfl) (by kernel_rfl) (by kernel_rfl) (fun _ _ _ h => h) (Or.inl ⟨by rfl, fun W hW => by obtain ⟨h0, h1, h2, h3⟩ := hW; go_simp⟩) hS ?_
  try simp only [Act.put, List.getElem_toArray, List.getElem_cons_zero, List.getElem_cons_succ, List.setIfInBounds_toArray, List.set_cons_zero, List.set_cons_succ]
  refine wpAnyH_take (i := 21) (v := .bool false) rfl (by kernel_rfl) (by kernel_rfl) (by kernel_rfl) (fun _ _ _ h => h) (Or.inl ⟨by rfl, fun W hW => by obtain ⟨h0, h1, h2, h3⟩ := hW; go_simp⟩) hS ?_
  try simp only [Act.put, List.getElem_toArray, List.getElem_cons_zero, List.getElem_cons_succ, List.setIfInBounds_toArray, List.set_cons_zero, List.set_cons_succ]
  refine wpAnyH_take (i := 22) (v := .bool false) rfl (by kernel_rfl) (by kernel_rfl) (by kernel_rfl) (fun _ _ _ h => h) (Or.inl ⟨by rfl, fun W hW => by obtain ⟨h0, h1, h2, h3⟩ := hW; go_simp⟩) hS ?_
  try simp only [Act.put, List.getElem_toArray, List.getElem_cons_zero, List.getElem_cons_succ, List.setIfInBounds_toArray, List.set_cons_zero, List.set_cons_succ]
  refine wpAnyH_done (by kernel_rfl) ?_ _
  clear hS hwr
  have hb41 : Below w1.heap.size w1 w4 := ⟨hb4.os, hb4.tape, hb4.output, hb4.size, hb4.block⟩
  have HB4 := Lib.hid (HB1.out.trans (hb41.mono HB1.out.size))
  have HC4 := Lib.hid (fun (hn : 0 < n) => HC.out hn)
  have H41 := Lib.hid hb41
  clear CD CR CU hb4 hb41 hw2 hw3 q0 q1 q2 q3 hmi hm01
  have hs4 := H41.out.size
  have m3 := M1.out.below H41.out L0
  obtain ⟨q0, q1, q2, q3, -, -, -⟩ := blk4 m3
  have M3 := Lib.hid m3
  clear m3
  go_wp2_with fail
  go_loopw [39] (fun i wr => ∃ j : Nat, j ≤ n ∧ i = .int .i64 (j : Nat) ∧ Below w4.heap.size w4 wr) (fun i _ => n - (intOf i).toNat)
  case atStart => exact ⟨0, Nat.zero_le _, rfl, Below.refl _ _⟩
  case round =>
    clear q0 q1 q2 q3
    obtain ⟨j, hj, rfl, hb⟩ := hrel
    have hbs := hb.size
    have HW := Lib.hid (HB4.out.trans (hb.mono HB4.out.size))
    have H4 := Lib.hid hb
    clear hb
    by_cases hlt : j < n
    · have hlt' : (j : Int) < (n : Int) := by omega
      have hj0 : (0 : Int) ≤ (j : Int) := by omega
      obtain ⟨b, o, rfl, hYb, hbl, hc⟩ := H.out.2.2 (by omega)
      obtain ⟨ng, rfl, hng0, hng, hnc⟩ := HC4.out (by omega)
      obtain ⟨f, hf⟩ : ∃ f, fs[j]? = some f := ⟨fs[j]'(by omega), List.getElem?_eq_getElem _⟩
      have hmf : f ∈ fs := List.mem_of_getElem? hf
      have hft : f.t ∈ V := by rw [← HV.out]; exact List.mem_map.2 ⟨f, hmf, rfl⟩
      have hnm : ((V.map fun t => t.1).map encStr)[j]? = some (.string ⟨f.nm.toArray⟩) := by rw [← HV.out, List.getElem?_map, List.getElem?_map, List.getElem?_map, hf]; rfl
      have hft2 := hft
      have hn40 : f.nm.length ≤ 40 := HOK.out.names f.t hft
      have y0 : wr.cell? ⟨b, o + j * 3, none⟩ = some (.string ⟨f.nm.toArray⟩) := by rw [HW.out.cell (p := ⟨b, o + j * 3, none⟩) hbl]; exact (hc j f hf).1
      have y1 : wr.cell? ⟨b, o + j * 3 + 1, none⟩ = some (.slice f.B f.bs.length f.c) := by rw [HW.out.cell (p := ⟨b, o + j * 3 + 1, none⟩) hbl]; exact (hc j f hf).2.1
      have y2 : wr.cell? ⟨b, o + j * 3 + 2, none⟩ = some (.int .i64 (f.sf : Nat)) := by rw [HW.out.cell (p := ⟨b, o + j * 3 + 2, none⟩) hbl]; exact (hc j f hf).2.2
      have hal := (Below.refl wr.heap.size wr).alloc (Nat.le_refl _) (.cells #[.string ⟨f.nm.toArray⟩, .slice f.B f.bs.length f.c, .int .i64 (f.sf : Nat)] 130)
      have HWa := Lib.hid (HW.out.trans (hal.mono HW.out.size))
      have CRd := Lib.hid ((HD.out.below HWa.out).read HOK.out ⟨f.nm.toArray⟩ (by show f.nm.length ≤ maxLen; unfold maxLen; omega))
      have hrs : readS (⟨f.nm.toArray⟩ : ByteArray).data.toList ⟨V, free, fuse, true⟩ = (70, []) := by
        rfl
      rw [hrs] at CRd
      have hnw1 : ng < w1.heap.size := hng
      have z0 : w4.cell? ⟨ng, j, none⟩ = some (.string ⟨f.nm.toArray⟩) := (H41.out.cell (p := ⟨ng, j, none⟩) hng).trans (hnc j _ hnm)
      have K7 := Lib.hid (Blk.new wr 130 #[.string ⟨f.nm.toArray⟩, .slice f.B f.bs.length f.c, .int .i64 (f.sf : Nat)])
      have HFO := Lib.hid (H.out.2.1 f hmf)
      have Z0 := Lib.hid z0
      have HAL := Lib.hid hal
      clear hc hf hft hnm hrs hal z0 hnc hng
      go_wp2_with fail
      refine CRd.out.mono ?_
      rintro e w5 ⟨v8, rfl, hr8, b5⟩
      obtain ⟨A8, c8, ev, hy8, hbk8⟩ := row_bytes hr8
      have ev8 := ev
      subst ev
      have hw5 := b5.size
      have H5a := Lib.hid (H4.out.trans ((HAL.out.mono hbs).trans (b5.mono (by have := HAL.out.size; omega))))
      have hwr1 : wr.heap.size < (wr.alloc (.cells #[.string ⟨f.nm.toArray⟩, .slice f.B f.bs.length f.c, .int .i64 (f.sf : Nat)] 130)).heap.size := by simp
      have z5 : w5.cell? ⟨ng, j, none⟩ = some (.string ⟨f.nm.toArray⟩) := (H5a.out.cell (p := ⟨ng, j, none⟩) (show ng < w4.heap.size by omega)).trans Z0.out
      obtain ⟨p0, p1, p2, -, -, -⟩ := blk3 (K7.out.below b5 hwr1)
      obtain ⟨q0, q1, q2, q3, -, -, -⟩ := blk4 (M3.out.below H5a.out (by omega))
      have hbeq : (ByteArray.toList ⟨f.nm.toArray⟩ == ByteArray.toList ⟨f.nm.toArray⟩) = true := by simp
      have HR8 := Lib.hid hr8
      have HY8 := Lib.hid hy8
      have HBK8 := Lib.hid hbk8
      have HW5 := Lib.hid (HWa.out.trans (b5.mono HWa.out.size))
      generalize (⟨f.nm.toArray⟩ : ByteArray) = sa at *
      clear y0 y1 y2 CRd hr8 hy8 hbk8 b5
      go_wp2_with fail
      go_quiet (fail)
      have HW6 := Lib.hid (HW5.out.trans (drewN_bel w5 nq))
      have H6 := Lib.hid (H5a.out.trans (drewN_bel w5 nq))
      go_wp2
      go_roundw
      case rel => exact ⟨j + 1, by omega, by go_num, H6.out⟩
      case measure => simp [intOf]; omega
    · have hlt' : ¬ (j : Int) < (n : Int) := by omega
      go_wp2
      go_ret
      exact ⟨rfl, HW.out⟩
end Go.Proofs.Yteokiaeojgjpdaa
