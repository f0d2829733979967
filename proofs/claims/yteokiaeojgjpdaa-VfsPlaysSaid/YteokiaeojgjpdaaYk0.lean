/- A law's disk held against the document's (same). -/
import Derived.Test.YteokiaeojgjpdaaYe
import Derived.Test.YteokiaeojgjpdaaYi
import Derived.Deep.RegionHeld3
import Derived.IntWalk
namespace Go.Proofs.Yteokiaeojgjpdaa
open Go.RowKit Go.Maps Go.Sort

theorem row_bel2 {w w' : World} {B : Nat} {e : TypeId} {v : Value} {n : Nat} {xs : List Value} (h : w.ownsRow B e 1 v n xs) (hb : Below w.heap.size w w') : w'.ownsRow B e 1 v n xs := by
  refine ⟨h.1, ?_⟩
  rcases h.2 with h0 | ⟨g, cap, cur, e, h1, h2, h3⟩
  · exact .inl h0
  · exact .inr ⟨g, cap, cur, e, h1, (hb.block g (Array.getElem?_eq_some_iff.1 h2).1).trans h2, h3⟩
theorem Disk.below {w w' : World} {dp : Nat} {X : Nat → Prop} {s : Sta} (h : Disk w dp X s) (hb : Below w.heap.size w w') : Disk w' dp X s := h.keep fun j hj => hb.block j (h.lt hj)
set_option maxHeartbeats 8000000 in
set_option maxRecDepth 100000 in
theorem same_up {w : World} {dp : Nat} {X : Nat → Prop} {Y : Nat → Prop} {A : Option Addr} {n c : Nat} {fs : List FR} {V : FV} {free fuse : Nat} (hD : Disk w dp X ⟨V, free, fuse, false⟩) (ok : Ok ⟨V, free, fuse, false⟩) (h : RefAt w Y A n fs) (hY : Low w.heap.size Y) (hV : fs.map FR.t = V) (hR : RiseV V) (most fu : Int) (hmost : most = ((free + tot V : Nat) : Int)) :
    Calls Try.prog 30 #[.pointer (some ⟨dp, 0, none⟩), .agg #[.slice A n c, .int .i64 most, .int .i64 fu, .bool false]] w fun e w' => e = .returned (.bool true) ∧ Below w.heap.size w w' := by
  have mixed : Try.prog.follows .mixedOrders = true := by kernel_rfl
  have hfl := h.1
  have hn1 : n ≤ 1000000 := by have := ok.len; rw [← hV] at this; simp only [List.length_map] at this; omega
  obtain ⟨tt, htt⟩ : ∃ tt, tt = tot V := ⟨_, rfl⟩
  have ht5 : tt ≤ 500000000 := by rw [htt]; exact ok.bytes
  have hro : free + tt ≤ 9223372036854775807 := by rw [htt]; exact ok.room
  rw [← htt] at hmost
  have hmi : most - (tt : Int) = (free : Int) := by omega
  have hm01 : 0 ≤ most ∧ most ≤ 9223372036854775807 := by omega
  have b0 := (Below.refl w.heap.size w).alloc (Nat.le_refl _) (.cells #[.slice A n c, .int .i64 most, .int .i64 fu, .bool false] 53)
  have H := Lib.hid h
  have HD := Lib.hid hD
  have HOK := Lib.hid ok
  have HV := Lib.hid hV
  have HR := Lib.hid hR
  have HTT := Lib.hid htt
  have B0 := Lib.hid b0
  have K3 := Lib.hid (Blk.new w 53 #[.slice A n c, .int .i64 most, .int .i64 fu, .bool false])
  have CN := Lib.hid ((hD.below b0).names ok)
  clear h hD ok hV hR htt b0 hmost
  go_enter Try.func30, Try.ntmps30
  go_wp2_with fail
  refine CN.out.mono ?_
  rintro e w1 ⟨v5, rfl, hr5, b1⟩
  simp only [List.length_map] at hr5
  obtain ⟨A5, c5, ev, hcell⟩ := row_open hr5
  subst ev
  have hVl : V.length = n := by rw [← HV.out, List.length_map, hfl]
  rw [hVl] at hcell ⊢
  have HB1 := Lib.hid (B0.out.trans (b1.mono B0.out.size))
  have HC := Lib.hid hcell
  obtain ⟨q0, q1, q2, q3, -, -, -⟩ := blk4 (K3.out.below b1 K3.out.lt)
  have M1 := Lib.hid (K3.out.below b1 K3.out.lt)
  have hp3 := K3.out.lt
  have hs1 := b1.size
  have L0 : w.heap.size < w1.heap.size := by omega
  clear CN hr5 b1 hcell hVl
  go_wp2_with fail
  have CD := Lib.hid (fun (W : World) (hW : Below w.heap.size w W) => (HD.out.below hW).down)
  have CR := Lib.hid (fun (W : World) (hW : Below w.heap.size w W) => (HD.out.below hW).room)
  have CU := Lib.hid (fun (W : World) (hW : Below w.heap.size w W) => used_any (c := c) (H.out.below hY hW) (by unfold maxLen; omega) (by rw [HV.out, ← HTT.out]; omega) (.int .i64 most) (.int .i64 fu) (.bool false))
  rw [HV.out, ← HTT.out] at CU
  simp only at CD CR
  have hwr : IntKind.i64.wrap (free : Int) = (free : Int) := IntWalk.i64_in _ (by omega)
  refine wp_region_held_drew (S := fun W => W.cell? ⟨w.heap.size, 0, none⟩ = some (.slice A n c) ∧ W.cell? ⟨w.heap.size, 1, none⟩ = some (.int .i64 most) ∧ W.cell? ⟨w.heap.size, 2, none⟩ = some (.int .i64 fu) ∧ W.cell? ⟨w.heap.size, 3, none⟩ = some (.bool false)) mixed ⟨q0, q1, q2, q3⟩ (fun hS => ?_)
  refine wpAnyH_take (i := 0) (v := .pointer (some ⟨dp, 0, none⟩)) rfl (by kernel_rfl) (by kernel_rfl) (by kernel_rfl) (fun _ _ _ h => h) (Or.inl ⟨by rfl, fun W hW => by obtain ⟨h0, h1, h2, h3⟩ := hW; go_simp⟩) hS ?_
  try simp only [Act.put, List.getElem_toArray, List.getElem_cons_zero, List.getElem_cons_succ, List.setIfInBounds_toArray, List.set_cons_zero, List.set_cons_succ]
  refine wpAnyH_take (i := 2) (v := .pointer (some ⟨w.heap.size, 3, none⟩)) rfl (by kernel_rfl) (by kernel_rfl) (by kernel_rfl) (fun _ _ _ h => h) (Or.inl ⟨by rfl, fun W hW => by obtain ⟨h0, h1, h2, h3⟩ := hW; go_simp⟩) hS ?_
  try simp only [Act.put, List.getElem_toArray, List.getElem_cons_zero, List.getElem_cons_succ, List.setIfInBounds_toArray, List.set_cons_zero, List.set_cons_succ]
  refine wpAnyH_take (i := 3) (v := .bool false) rfl (by kernel_rfl) (by kernel_rfl) (by kernel_rfl) (fun _ _ _ h => h) (Or.inl ⟨by rfl, fun W hW => by obtain ⟨h0, h1, h2, h3⟩ := hW; go_simp⟩) hS ?_
  try simp only [Act.put, List.getElem_toArray, List.getElem_cons_zero, List.getElem_cons_succ, List.setIfInBounds_toArray, List.set_cons_zero, List.set_cons_succ]
  refine wpAnyH_ready (rs := [1]) (by kernel_rfl) (by simp) ?_
  refine AllReadyH.cons rfl (fun K hK => ?_) AllReadyH.nil
  go_simp
  refine (CD.out _ (HB1.out.trans (drewN_bel _ 1))).mono ?_
  rintro e w2 ⟨rfl, hw2⟩
  refine hK.out _ _ (by rw [← hw2]; exact ⟨q0, q1, q2, q3⟩) (fun hS => ?_)
  clear hK K
  refine wpAnyH_take (i := 4) (v := .bool false) rfl (by kernel_rfl) (by kernel_rfl) (by kernel_rfl) (fun _ _ _ h => h) (Or.inl ⟨by rfl, fun W hW => by obtain ⟨h0, h1, h2, h3⟩ := hW; go_simp⟩) hS ?_
  try simp only [Act.put, List.getElem_toArray, List.getElem_cons_zero, List.getElem_cons_succ, List.setIfInBounds_toArray, List.set_cons_zero, List.set_cons_succ]
  refine wpAnyH_take (i := 5) (v := .bool false) rfl (by kernel_rfl) (by kernel_rfl) (by kernel_rfl) (fun _ _ _ h => h) (Or.inl ⟨by rfl, fun W hW => by obtain ⟨h0, h1, h2, h3⟩ := hW; go_simp⟩) hS ?_
  try simp only [Act.put, List.getElem_toArray, List.getElem_cons_zero, List.getElem_cons_succ, List.setIfInBounds_toArray, List.set_cons_zero, List.set_cons_succ]
  refine wpAnyH_take (i := 6) (v := .pointer (some ⟨dp, 0, none⟩)) rfl (by kernel_rfl) (by kernel_rfl) (by kernel_rfl) (fun _ _ _ h => h) (Or.inl ⟨by rfl, fun W hW => by obtain ⟨h0, h1, h2, h3⟩ := hW; go_simp⟩) hS ?_
  try simp only [Act.put, List.getElem_toArray, List.getElem_cons_zero, List.getElem_cons_succ, List.setIfInBounds_toArray, List.set_cons_zero, List.set_cons_succ]
  refine wpAnyH_take (i := 8) (v := .pointer (some ⟨w.heap.size, 1, none⟩)) rfl (by kernel_rfl) (by kernel_rfl) (by kernel_rfl) (fun _ _ _ h => h) (Or.inl ⟨by rfl, fun W hW => by obtain ⟨h0, h1, h2, h3⟩ := hW; go_simp⟩) hS ?_
  try simp only [Act.put, List.getElem_toArray, List.getElem_cons_zero, List.getElem_cons_succ, List.setIfInBounds_toArray, List.set_cons_zero, List.set_cons_succ]
  refine wpAnyH_take (i := 9) (v := .int .i64 most) rfl (by kernel_rfl) (by kernel_rfl) (by kernel_rfl) (fun _ _ _ h => h) (Or.inl ⟨by rfl, fun W hW => by obtain ⟨h0, h1, h2, h3⟩ := hW; go_simp⟩) hS ?_
  try simp only [Act.put, List.getElem_toArray, List.getElem_cons_zero, List.getElem_cons_succ, List.setIfInBounds_toArray, List.set_cons_zero, List.set_cons_succ]
  refine wpAnyH_take (i := 10) (v := .agg #[.slice A n c, .int .i64 most, .int .i64 fu, .bool false]) rfl (by kernel_rfl) (by kernel_rfl) (by kernel_rfl) (fun _ _ _ h => h) (Or.inl ⟨by rfl, fun W hW => by obtain ⟨h0, h1, h2, h3⟩ := hW; go_simp⟩) hS ?_
  try simp only [Act.put, List.getElem_toArray, List.getElem_cons_zero, List.getElem_cons_succ, List.setIfInBounds_toArray, List.set_cons_zero, List.set_cons_succ]
  refine wpAnyH_ready (rs := [7]) (by kernel_rfl) (by simp) ?_
  refine AllReadyH.cons rfl (fun K hK => ?_) AllReadyH.nil
  go_simp
  rw [← hw2]
  refine (CR.out _ (HB1.out.trans (drewN_bel _ 1))).mono ?_
  rintro e w3 ⟨rfl, hw3⟩
  refine hK.out _ _ (by rw [← hw3]; exact ⟨q0, q1, q2, q3⟩) (fun hS => ?_)
  clear hK K
  refine wpAnyH_ready (rs := [11]) (by kernel_rfl) (by simp) ?_
  refine AllReadyH.cons rfl (fun K hK => ?_) AllReadyH.nil
  go_simp
  rw [← hw3]
  refine (CU.out _ (HB1.out.trans (drewN_bel _ 1))).mono ?_
  rintro e w4 ⟨hb4, rfl⟩
  refine hK.out _ _ ⟨(hb4.cell (p := ⟨w.heap.size, 0, none⟩) L0).trans q0, (hb4.cell (p := ⟨w.heap.size, 1, none⟩) L0).trans q1, (hb4.cell (p := ⟨w.heap.size, 2, none⟩) L0).trans q2, (hb4.cell (p := ⟨w.heap.size, 3, none⟩) L0).trans q3⟩ (fun hS => ?_)
  clear hK K
  refine wpAnyH_take (i := 12) (v := .int .i64 (free : Nat)) rfl (by kernel_rfl) (by kernel_rfl) (by kernel_rfl) (fun _ _ _ h => h) (Or.inl ⟨by rfl, fun W hW => by obtain ⟨h0, h1, h2, h3⟩ := hW; go_simp⟩) hS ?_
  try simp only [Act.put, List.getElem_toArray, List.getElem_cons_zero, List.getElem_cons_succ, List.setIfInBounds_toArray, List.set_cons_zero, List.set_cons_succ]
  refine wpAnyH_take (i := 13) (v := .bool false) rfl (by kernel_rfl) (by kernel_rfl) (by kernel_rfl) (fun _ _ _ h => h) (Or.inl ⟨by rfl, fun W hW => by obtain ⟨h0, h1, h2, h3⟩ := hW; go_simp⟩) hS ?_
  try simp only [Act.put, List.getElem_toArray, List.getElem_cons_zero, List.getElem_cons_succ, List.setIfInBounds_toArray, List.set_cons_zero, List.set_cons_succ]
  refine wpAnyH_take (i := 14) (v := .bool false) rfl (by kernel_rfl) (by kernel_rfl) (by kernel_rfl) (fun _ _ _ h => h) (Or.inl ⟨by rfl, fun W hW => by obtain ⟨h0, h1, h2, h3⟩ := hW; go_simp⟩) hS ?_
  try simp only [Act.put, List.getElem_toArray, List.getElem_cons_zero, List.getElem_cons_succ, List.setIfInBounds_toArray, List.set_cons_zero, List.set_cons_succ]
  refine wpAnyH_take (i := 15) (v := .bool false) rfl (by kernel_rfl) (by kernel_rfl) (by kernel_rfl) (fun _ _ _ h => h) (Or.inl ⟨by rfl, fun W hW => by obtain ⟨h0, h1, h2, h3⟩ := hW; go_simp⟩) hS ?_
  try simp only [Act.put, List.getElem_toArray, List.getElem_cons_zero, List.getElem_cons_succ, List.setIfInBounds_toArray, List.set_cons_zero, List.set_cons_succ]
  refine wpAnyH_take (i := 16) (v := .slice A5 n c5) rfl (by kernel_rfl) (by kernel_rfl) (by kernel_rfl) (fun _ _ _ h => h) (Or.inl ⟨by rfl, fun W hW => by obtain ⟨h0, h1, h2, h3⟩ := hW; go_simp⟩) hS ?_
  try simp only [Act.put, List.getElem_toArray, List.getElem_cons_zero, List.getElem_cons_succ, List.setIfInBounds_toArray, List.set_cons_zero, List.set_cons_succ]
  refine wpAnyH_take (i := 17) (v := .int .i64 (n : Nat)) rfl (by kernel_rfl) (by kernel_rfl) (by kernel_rfl) (fun _ _ _ h => h) (Or.inl ⟨by rfl, fun W hW => by obtain ⟨h0, h1, h2, h3⟩ := hW; go_simp⟩) hS ?_
  try simp only [Act.put, List.getElem_toArray, List.getElem_cons_zero, List.getElem_cons_succ, List.setIfInBounds_toArray, List.set_cons_zero, List.set_cons_succ]
  refine wpAnyH_take (i := 18) (v := .pointer (some ⟨w.heap.size, 0, none⟩)) rfl (by kernel_rfl) (by kernel_rfl) (by kernel_rfl) (fun _ _ _ h => h) (Or.inl ⟨by rfl, fun W hW => by obtain ⟨h0, h1, h2, h3⟩ := hW; go_simp⟩) hS ?_
  try simp only [Act.put, List.getElem_toArray, List.getElem_cons_zero, List.getElem_cons_succ, List.setIfInBounds_toArray, List.set_cons_zero, List.set_cons_succ]
  refine wpAnyH_take (i := 19) (v := .slice A n c) rfl (by kernel_rfl) (by kernel_rfl) (by kernel_rfl) (fun _ _ _ h => h) (Or.inl ⟨by rfl, fun W hW => by obtain ⟨h0, h1, h2, h3⟩ := hW; go_simp⟩) hS ?_
  try simp only [Act.put, List.getElem_toArray, List.getElem_cons_zero, List.getElem_cons_succ, List.setIfInBounds_toArray, List.set_cons_zero, List.set_cons_succ]
  refine wpAnyH_take (i := 20) (v := .int .i64 (n : Nat)) rfl (by kernel_rfl) (by kernel_rfl) (by kernel_rfl) (fun _ _ _ h => h) (Or.inl ⟨by rfl, fun W hW => by obtain ⟨h0, h1, h2, h3⟩ := hW; go_simp⟩) hS ?_
  try simp only [Act.put, List.getElem_toArray, List.getElem_cons_zero, List.getElem_cons_succ, List.setIfInBounds_toArray, List.set_cons_zero, List.set_cons_succ]
  refine wpAnyH_take (i := 21) (v := .bool false) rfl (by kernel_rfl) (by kernel_rfl) (by kernel_rfl) (fun _ _ _ h => h) (Or.inl ⟨by rfl, fun W hW => by obtain ⟨h0, h1, h2, h3⟩ := hW; go_simp⟩) hS ?_
  try simp only [Act.put, List.getElem_toArray, List.getElem_cons_zero, List.getElem_cons_succ, List.setIfInBounds_toArray, List.set_cons_zero, List.set_cons_succ]
  refine wpAnyH_take (i := 22) (v := .bool false) rfl (by kernel_rfl) (by kernel_rfl) (by kernel_rfl) (fun _ _ _ h => h) (Or.inl ⟨by rfl, fun W hW => by obtain ⟨h0, h1, h2, h3⟩ := hW; go_simp⟩) hS ?_
  try simp only [Act.put, List.getElem_toArray, List.getElem_cons_zero, List.getElem_cons_succ, List.setIfInBounds_toArray, List.set_cons_zero, List.set_cons_succ]
  refine wpAnyH_done (by kernel_rfl) ?_ _
  clear hS hwr
  have hb41 : Below w1.heap.size w1 w4 := ⟨hb4.os, hb4.tape, hb4.output, hb4.size, hb4.block⟩
  have HB4 := Lib.hid (HB1.out.trans (hb41.mono HB1.out.size))
  have HC4 := Lib.hid (fun (hn : 0 < n) => HC.out hn)
  have H41 := Lib.hid hb41
  clear CD CR CU hb4 hb41 hw2 hw3 q0 q1 q2 q3 hmi hm01
  have hs4 := H41.out.size
  have m3 := M1.out.below H41.out L0
  obtain ⟨q0, q1, q2, q3, -, -, -⟩ := blk4 m3
  have M3 := Lib.hid m3
  clear m3
  go_wp2_with fail
  go_loopw [39] (fun i wr => ∃ j : Nat, j ≤ n ∧ i = .int .i64 (j : Nat) ∧ Below w4.heap.size w4 wr) (fun i _ => n - (intOf i).toNat)
  case atStart => exact ⟨0, Nat.zero_le _, rfl, Below.refl _ _⟩
  case round =>
    clear q0 q1 q2 q3
    obtain ⟨j, hj, rfl, hb⟩ := hrel
    have hbs := hb.size
    have HW := Lib.hid (HB4.out.trans (hb.mono HB4.out.size))
    have H4 := Lib.hid hb
    clear hb
    by_cases hlt : j < n
    · have hlt' : (j : Int) < (n : Int) := by omega
      have hj0 : (0 : Int) ≤ (j : Int) := by omega
      obtain ⟨b, o, rfl, hYb, hbl, hc⟩ := H.out.2.2 (by omega)
      obtain ⟨ng, rfl, hng0, hng, hnc⟩ := HC4.out (by omega)
      obtain ⟨f, hf⟩ : ∃ f, fs[j]? = some f := ⟨fs[j]'(by omega), List.getElem?_eq_getElem _⟩
      have hmf : f ∈ fs := List.mem_of_getElem? hf
      have hft : f.t ∈ V := by rw [← HV.out]; exact List.mem_map.2 ⟨f, hmf, rfl⟩
      have hnm : ((V.map fun t => t.1).map encStr)[j]? = some (.string ⟨f.nm.toArray⟩) := by rw [← HV.out, List.getElem?_map, List.getElem?_map, List.getElem?_map, hf]; rfl
      have hft2 := hft
      have hn40 : f.nm.length ≤ 40 := HOK.out.names f.t hft
      have y0 : wr.cell? ⟨b, o + j * 3, none⟩ = some (.string ⟨f.nm.toArray⟩) := by rw [HW.out.cell (p := ⟨b, o + j * 3, none⟩) hbl]; exact (hc j f hf).1
      have y1 : wr.cell? ⟨b, o + j * 3 + 1, none⟩ = some (.slice f.B f.bs.length f.c) := by rw [HW.out.cell (p := ⟨b, o + j * 3 + 1, none⟩) hbl]; exact (hc j f hf).2.1
      have y2 : wr.cell? ⟨b, o + j * 3 + 2, none⟩ = some (.int .i64 (f.sf : Nat)) := by rw [HW.out.cell (p := ⟨b, o + j * 3 + 2, none⟩) hbl]; exact (hc j f hf).2.2
      have hal := (Below.refl wr.heap.size wr).alloc (Nat.le_refl _) (.cells #[.string ⟨f.nm.toArray⟩, .slice f.B f.bs.length f.c, .int .i64 (f.sf : Nat)] 130)
      have HWa := Lib.hid (HW.out.trans (hal.mono HW.out.size))
      have CRd := Lib.hid ((HD.out.below HWa.out).read HOK.out ⟨f.nm.toArray⟩ (by show f.nm.length ≤ maxLen; unfold maxLen; omega))
      have hrs : readS (⟨f.nm.toArray⟩ : ByteArray).data.toList ⟨V, free, fuse, false⟩ = (0, f.bs) := by
        show (if (false : Bool) = true then ((70 : Int), ([] : List UInt8)) else match vlook f.nm V with | none => (4, []) | some t => (0, t.2.1)) = _
        rw [vlook_of (nm := f.nm) HR.out hft rfl]; rfl
      rw [hrs] at CRd
      have hnw1 : ng < w1.heap.size := hng
      have z0 : w4.cell? ⟨ng, j, none⟩ = some (.string ⟨f.nm.toArray⟩) := (H41.out.cell (p := ⟨ng, j, none⟩) hng).trans (hnc j _ hnm)
      have K7 := Lib.hid (Blk.new wr 130 #[.string ⟨f.nm.toArray⟩, .slice f.B f.bs.length f.c, .int .i64 (f.sf : Nat)])
      have HFO := Lib.hid (H.out.2.1 f hmf)
      have Z0 := Lib.hid z0
      have HAL := Lib.hid hal
      clear hc hf hft hnm hrs hal z0 hnc hng
      go_wp2_with fail
      refine CRd.out.mono ?_
      rintro e w5 ⟨v8, rfl, hr8, b5⟩
      obtain ⟨A8, c8, ev, hy8, hbk8⟩ := row_bytes hr8
      have ev8 := ev
      subst ev
      have hw5 := b5.size
      have H5a := Lib.hid (H4.out.trans ((HAL.out.mono hbs).trans (b5.mono (by have := HAL.out.size; omega))))
      have hwr1 : wr.heap.size < (wr.alloc (.cells #[.string ⟨f.nm.toArray⟩, .slice f.B f.bs.length f.c, .int .i64 (f.sf : Nat)] 130)).heap.size := by simp
      have z5 : w5.cell? ⟨ng, j, none⟩ = some (.string ⟨f.nm.toArray⟩) := (H5a.out.cell (p := ⟨ng, j, none⟩) (show ng < w4.heap.size by omega)).trans Z0.out
      obtain ⟨p0, p1, p2, -, -, -⟩ := blk3 (K7.out.below b5 hwr1)
      obtain ⟨q0, q1, q2, q3, -, -, -⟩ := blk4 (M3.out.below H5a.out (by omega))
      have hbeq : (ByteArray.toList ⟨f.nm.toArray⟩ == ByteArray.toList ⟨f.nm.toArray⟩) = true := by simp
      have HR8 := Lib.hid (row_base hr8 (show w4.heap.size ≤ _ by have := HAL.out.size; omega))
      have HY8 := Lib.hid hy8
      have HBK8 := Lib.hid hbk8
      have HW5 := Lib.hid (HWa.out.trans (b5.mono HWa.out.size))
      generalize (⟨f.nm.toArray⟩ : ByteArray) = sa at *
      clear y0 y1 y2 CRd hr8 hy8 hbk8 b5
      go_wp2_with fail
      go_quiet (fail)
      have hfb : f.bs.length ≤ 500000000 := by
        have h8 := HOK.out.bytes
        have h9 := tot_mem hft2
        exact Nat.le_trans h9 h8
      have HS := Lib.hid (sameb_yes (c := c8) (d := f.c) (HY8.out.below (drewN_bel w5 nq)) ((HFO.out.below hY HW5.out).1.below (drewN_bel w5 nq)) (by unfold maxLen; have := HOK.out.bytes; have := tot_mem (V := V) hft2; show f.bs.length ≤ _; have h9 : f.t.2.1.length = f.bs.length := rfl; simp only at *; omega))
      have HW6 := Lib.hid (HW5.out.trans (drewN_bel w5 nq))
      have H6 := Lib.hid (H5a.out.trans (drewN_bel w5 nq))
      have HR6 := Lib.hid (row_bel2 HR8.out (drewN_bel w5 nq))
      have p61 : (w5.drewN nq).cell? ⟨wr.heap.size, 1, none⟩ = some (.slice f.B f.bs.length f.c) := p1
      have q63 : (w5.drewN nq).cell? ⟨w.heap.size, 3, none⟩ = some (.bool false) := q3
      generalize w5.drewN nq = w6 at HS HW6 H6 HR6 p61 q63 ⊢
      clear p0 p1 p2 q0 q1 q2 q3 z5 hw5
      go_wp2_with fail
      refine HS.out.mono ?_
      rintro e w7 ⟨rfl, b7⟩
      have HW7 := Lib.hid (HW6.out.trans (b7.mono HW6.out.size))
      have H7 := Lib.hid (H6.out.trans (b7.mono H6.out.size))
      have hr7 := row_bel2 HR6.out b7
      obtain ⟨L, hL⟩ : ∃ L, L = f.bs.length := ⟨_, rfl⟩
      have hLb : L ≤ 500000000 := by omega
      rw [← hL] at hr7 ⊢
      have ROW : 0 < L → ∃ g cur, A8 = some ⟨g, 0, none⟩ ∧ Blk w7 g 5 cur ∧ cur.size = c8 ∧ L ≤ c8 ∧ w4.heap.size ≤ g := by
        intro hL0
        rcases hr7.2 with ⟨e, h0⟩ | ⟨g, cap, cur, e, hB, hb, h1, _, h3, _⟩
        · omega
        · injection e with e1 _ e3
          subst e3
          exact ⟨g, cur, e1, hb, by omega, h1, by omega⟩
      have RW := Lib.hid ROW
      clear hr7 hL HS HR6 p61 q63 b7 ROW
      go_wp2_with fail
      go_loopw [73] (fun i wx => ∃ q : Nat, q ≤ L ∧ i = .int .i64 (q : Nat) ∧ (∀ g, A8 = some ⟨g, 0, none⟩ → 0 < L → ∃ cu, Blk wx g 5 cu ∧ cu.size = c8) ∧ Below w4.heap.size w7 wx) (fun i _ => L - (intOf i).toNat)
      case atStart => exact ⟨0, Nat.zero_le _, rfl, fun g hg hL0 => by
        obtain ⟨g', cur, e, h1, h2, _⟩ := RW.out hL0
        rw [hg] at e; injection e with e; injection e with e _ _; subst e
        exact ⟨cur, h1, h2⟩, Below.refl _ _⟩
      case round =>
        obtain ⟨q, hq, rfl, hblk, hbx⟩ := hrel
        have HBX := Lib.hid hbx
        by_cases hql : q < L
        · have hql' : (q : Int) < (L : Int) := by omega
          have hq0 : (0 : Int) ≤ (q : Int) := by omega
          obtain ⟨g, cur0, eA, _, _, hLc, hgw⟩ := RW.out (by omega)
          obtain ⟨cu, hbk, hcu⟩ := hblk g eA (by omega)
          subst eA
          have hjc : q < cu.size := by omega
          have x0 : wr.cell? ⟨g, q, none⟩ = some cu[q] := by rw [hbk.cell, Array.getElem?_eq_getElem hjc]
          have x1 : wr.frozen? ⟨g, q, none⟩ = false := hbk.frozen q
          have HK := Lib.hid (show ∀ g', (some ⟨g, 0, none⟩ : Option Addr) = some ⟨g', 0, none⟩ → 0 < L → ∃ cu2, Blk (wr.setCell ⟨g, q, none⟩ (.int .u8 99)) g' 5 cu2 ∧ cu2.size = c8 by
            intro g' e _
            injection e with e; injection e with e _ _; subst e
            exact ⟨_, hbk.set_ q (.int .u8 99), by simpa using hcu⟩)
          have HBW := Lib.hid (hbx.setCell (p := ⟨g, q, none⟩) hgw (.int .u8 99))
          generalize cu[q] = z at x0
          clear hbk hbx hblk
          go_wp2
          go_roundw
          case rel => exact ⟨q + 1, by omega, by go_num, HK.out, HBW.out⟩
          case measure => simp [intOf]; omega
        · have hql' : ¬ (q : Int) < (L : Int) := by omega
          have H8 := Lib.hid (H7.out.trans hbx)
          clear hblk hbx
          go_wp2
          go_roundw
          case rel => exact ⟨j + 1, by omega, by go_num, H8.out⟩
          case measure => simp [intOf]; omega
    · have hlt' : ¬ (j : Int) < (n : Int) := by omega
      go_wp2
      go_ret
      exact ⟨rfl, HW.out⟩
end Go.Proofs.Yteokiaeojgjpdaa
