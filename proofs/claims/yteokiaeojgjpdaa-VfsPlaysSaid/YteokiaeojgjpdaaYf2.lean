/- The document's own Do, kind 2 (Append). -/
import Derived.Test.YteokiaeojgjpdaaYe
import Derived.Deep.RegionHeld3
import Derived.IntWalk
namespace Go.Proofs.Yteokiaeojgjpdaa
open Go.RowKit Go.Maps

set_option maxHeartbeats 8000000 in
set_option maxRecDepth 100000 in
theorem do2_any {w : World} {Y : Nat → Prop} {A : Option Addr} {n c : Nat} {fs : List FR} (h : RefAt w Y A n fs) (hY : Low w.heap.size Y) (hn : n ≤ 100000) (V : FV) (free fuse : Nat) (down : Bool) (hV : fs.map FR.t = V) (hR : RiseV V) (most fu : Int) (hfu : down = false → fu = (fuse : Nat)) (hsf : fuse ≤ 9223372036854775807) (a z : ByteArray) (ha : a.size ≤ maxLen) (hz : z.size ≤ maxLen) (num : Int) (B : Option Addr) (m d : Nat) (bs : List UInt8) (hb : BytesAt w B m bs) (hm : m ≤ 400000000) (hmost : most = ((free + tot V : Nat) : Int)) (hroom : free + tot V ≤ 9223372036854775807) (htot : tot V ≤ 400000000) :
    Calls Try.prog 26 #[.agg #[.slice A n c, .int .i64 most, .int .i64 fu, .bool down], .agg #[.int .i64 2, .string a, .string z, .int .i64 num, .slice B m d]] w (DoPost w Y most (appendS a.data.toList bs ⟨V, free, fuse, down⟩)) := by
  have hfl := h.1
  obtain ⟨W0, hW0⟩ : ∃ W0, W0 = (((w.alloc (.cells #[.slice A n c, .int .i64 most, .int .i64 fu, .bool down] 53)).alloc (.cells #[.int .i64 2, .string a, .string z, .int .i64 num, .slice B m d] 62)).alloc (.cells #[.slice none 0 0, .int .i64 0, .int .i64 0, .bool false] 53)) := ⟨_, rfl⟩
  have hs0 : W0.heap.size = w.heap.size + 3 := by rw [hW0]; simp
  have b0 : Below w.heap.size w W0 := by
    rw [hW0]
    have h1 := (Below.refl w.heap.size w).alloc (Nat.le_refl _) (.cells #[.slice A n c, .int .i64 most, .int .i64 fu, .bool down] 53)
    have h2 := h1.alloc h1.size (.cells #[.int .i64 2, .string a, .string z, .int .i64 num, .slice B m d] 62)
    exact h2.alloc h2.size _
  have k2 : Blk W0 w.heap.size 53 #[.slice A n c, .int .i64 most, .int .i64 fu, .bool down] := by rw [hW0]; exact ((Blk.new w 53 _).alloc _).alloc _
  have k3 : Blk W0 (w.heap.size + 1) 62 #[.int .i64 2, .string a, .string z, .int .i64 num, .slice B m d] := by
    rw [hW0]
    have := (Blk.new (w.alloc (.cells #[.slice A n c, .int .i64 most, .int .i64 fu, .bool down] 53)) 62 #[.int .i64 2, .string a, .string z, .int .i64 num, .slice B m d]).alloc (.cells #[.slice none 0 0, .int .i64 0, .int .i64 0, .bool false] 53)
    simpa using this
  have k4 : Blk W0 (w.heap.size + 2) 53 #[.slice none 0 0, .int .i64 0, .int .i64 0, .bool false] := by
    rw [hW0]
    have := Blk.new ((w.alloc (.cells #[.slice A n c, .int .i64 most, .int .i64 fu, .bool down] 53)).alloc (.cells #[.int .i64 2, .string a, .string z, .int .i64 num, .slice B m d] 62)) 53 #[.slice none 0 0, .int .i64 0, .int .i64 0, .bool false]
    simpa using this
  have H := Lib.hid h
  have B0 := Lib.hid b0
  have K2 := Lib.hid k2
  have K3 := Lib.hid k3
  have K4 := Lib.hid k4
  have C := Lib.hid (find_any (c := c) (h.below hY b0) (fun b hb => by have := hY b hb; omega) (by unfold maxLen; omega) (.int .i64 most) (.int .i64 fu) (.bool down) a)
  have HV := Lib.hid hV
  have HR := Lib.hid hR
  clear h b0 k2 k3 k4 hV hR
  have HMO := Lib.hid hmost
  clear hmost
  cases down with
  | true =>
    have HRES := Lib.hid (show appendS a.data.toList bs ⟨V, free, fuse, true⟩ = (70, ⟨V, free, fuse, true⟩) from rfl)
    go_enter Try.func26, Try.ntmps26
    go_wp2_with fail
    refine bodyPost_ret (v := .tuple #[.agg #[.slice A n c, .int .i64 most, .int .i64 fu, .bool true], .int .i64 70]) (by simp [results, Try.results26, go_sem]) rfl ?_
    rw [HRES.out]
    exact do_same H.out hY (below3 w _ _ _) HV.out rfl rfl (fun h => by cases h)
  | false =>
    obtain rfl := hfu rfl
    go_enter Try.func26, Try.ntmps26
    go_wp2_with fail
    rw [← hW0]
    refine C.out.mono ?_
    rintro e w1 ⟨b1, hc⟩
    have hs1 := b1.size
    have HB1 := Lib.hid (B0.out.trans (b1.mono (by omega)))
    clear hW0 C
    rcases hc with ⟨rfl, hno⟩ | ⟨i, f, hi, hfn, rfl⟩
    · have HRES := Lib.hid (show appendS a.data.toList bs ⟨V, free, fuse, false⟩ = (4, ⟨V, free, fuse, false⟩) by
        unfold appendS onFile
        rw [vlook_no (V := V) (fun t ht => by
          rw [← HV.out] at ht
          obtain ⟨g, hg, rfl⟩ := List.mem_map.1 ht
          exact hno g hg)]
        rfl)
      have k2 : Blk w1 (w.heap.size) 53 #[.slice A n c, .int .i64 most, .int .i64 (fuse : Nat), .bool false] := K2.out.below b1 (by omega)
      have k2c0 : World.cell? w1 ⟨w.heap.size, 0, none⟩ = some (.slice A n c) := (k2).cell 0
      have k2f0 : World.frozen? w1 ⟨w.heap.size, 0, none⟩ = false := (k2).frozen 0
      have k2c1 : World.cell? w1 ⟨w.heap.size, 1, none⟩ = some (.int .i64 most) := (k2).cell 1
      have k2f1 : World.frozen? w1 ⟨w.heap.size, 1, none⟩ = false := (k2).frozen 1
      have k2c2 : World.cell? w1 ⟨w.heap.size, 2, none⟩ = some (.int .i64 (fuse : Nat)) := (k2).cell 2
      have k2f2 : World.frozen? w1 ⟨w.heap.size, 2, none⟩ = false := (k2).frozen 2
      have k2c3 : World.cell? w1 ⟨w.heap.size, 3, none⟩ = some (.bool false) := (k2).cell 3
      have k2f3 : World.frozen? w1 ⟨w.heap.size, 3, none⟩ = false := (k2).frozen 3
      have k3 : Blk w1 (w.heap.size + 1) 62 #[.int .i64 2, .string a, .string z, .int .i64 num, .slice B m d] := K3.out.below b1 (by omega)
      have k3c0 : World.cell? w1 ⟨w.heap.size + 1, 0, none⟩ = some (.int .i64 2) := (k3).cell 0
      have k3c1 : World.cell? w1 ⟨w.heap.size + 1, 1, none⟩ = some (.string a) := (k3).cell 1
      have k3c2 : World.cell? w1 ⟨w.heap.size + 1, 2, none⟩ = some (.string z) := (k3).cell 2
      have k3c3 : World.cell? w1 ⟨w.heap.size + 1, 3, none⟩ = some (.int .i64 num) := (k3).cell 3
      have k3c4 : World.cell? w1 ⟨w.heap.size + 1, 4, none⟩ = some (.slice B m d) := (k3).cell 4
      have k4 : Blk w1 (w.heap.size + 2) 53 #[.slice none 0 0, .int .i64 0, .int .i64 0, .bool false] := K4.out.below b1 (by omega)
      have k4c0 : World.cell? w1 ⟨w.heap.size + 2, 0, none⟩ = some (.slice none 0 0) := (k4).cell 0
      have k4f0 : World.frozen? w1 ⟨w.heap.size + 2, 0, none⟩ = false := (k4).frozen 0
      have k4c1 : World.cell? w1 ⟨w.heap.size + 2, 1, none⟩ = some (.int .i64 0) := (k4).cell 1
      have k4f1 : World.frozen? w1 ⟨w.heap.size + 2, 1, none⟩ = false := (k4).frozen 1
      have k4c2 : World.cell? w1 ⟨w.heap.size + 2, 2, none⟩ = some (.int .i64 0) := (k4).cell 2
      have k4f2 : World.frozen? w1 ⟨w.heap.size + 2, 2, none⟩ = false := (k4).frozen 2
      have k4c3 : World.cell? w1 ⟨w.heap.size + 2, 3, none⟩ = some (.bool false) := (k4).cell 3
      have k4f3 : World.frozen? w1 ⟨w.heap.size + 2, 3, none⟩ = false := (k4).frozen 3
      clear b1 hno k2 k3 k4
      go_wp2
      refine bodyPost_ret (v := .tuple #[.agg #[.slice A n c, .int .i64 most, .int .i64 (fuse : Nat), .bool false], .int .i64 4]) (by simp [results, Try.results26, go_sem, *]) rfl ?_
      rw [HRES.out]
      exact do_same H.out hY (below_set4 HB1.out (by omega) _ _ _ _) HV.out rfl rfl (fun _ => rfl)
    · have hi0 : (0 : Int) ≤ (i : Int) := by omega
      have hil := (List.getElem?_eq_some_iff.1 hi).1
      have hin : (i : Int) < (n : Int) := by omega
      obtain ⟨b, o, rfl, hYb, hbl, hcl⟩ := H.out.2.2 (by omega)
      have Y1 := Lib.hid (fun (ob : Obj) => HB1.out.alloc HB1.out.size ob)
      have y0 : ∀ ob, (w1.alloc ob).cell? ⟨b, o + i * 3, none⟩ = some (.string ⟨f.nm.toArray⟩) := fun ob => by rw [(Y1.out ob).cell (p := ⟨b, o + i * 3, none⟩) hbl]; exact (hcl i f hi).1
      have y1 : ∀ ob, (w1.alloc ob).cell? ⟨b, o + i * 3 + 1, none⟩ = some (.slice f.B f.bs.length f.c) := fun ob => by rw [(Y1.out ob).cell (p := ⟨b, o + i * 3 + 1, none⟩) hbl]; exact (hcl i f hi).2.1
      have y2 : ∀ ob, (w1.alloc ob).cell? ⟨b, o + i * 3 + 2, none⟩ = some (.int .i64 (f.sf : Nat)) := fun ob => by rw [(Y1.out ob).cell (p := ⟨b, o + i * 3 + 2, none⟩) hbl]; exact (hcl i f hi).2.2
      have hft : f.t ∈ V := by rw [← HV.out]; exact List.mem_map.2 ⟨f, List.mem_of_getElem? hi, rfl⟩
      have HLK := Lib.hid (vlook_of HR.out hft hfn)
      have hfx := hft
      have HFN := Lib.hid hfn
      have HFO := Lib.hid (H.out.2.1 f (List.mem_of_getElem? hi))
      have hmost := HMO.out
      have hbl := hb.1
      have HBb := Lib.hid hb
      have mixed : Try.prog.follows .mixedOrders = true := by kernel_rfl
      have hfl2 : f.bs.length ≤ 400000000 := Nat.le_trans (tot_mem (t := f.t) hft) htot
      have CU := Lib.hid (fun (E : World) (hE : Below w.heap.size w E) => used_any (c := c) (H.out.below hY hE) (by unfold maxLen; omega) (by rw [HV.out]; omega) (.int .i64 most) (.int .i64 (fuse : Nat)) (.bool false))
      rw [HV.out] at CU
      obtain ⟨tt, htt⟩ : ∃ tt, tt = tot V := ⟨_, rfl⟩
      rw [← htt] at CU hmost hroom htot
      have HTT := Lib.hid htt
      have hmi : most - (tt : Int) = (free : Int) := by omega
      have hm0 : (0 : Int) ≤ most := by omega
      have hm1 : most ≤ 9223372036854775807 := by omega
      clear hb htt hroom hmost
      by_cases hbad : free < m
      · have HRES := Lib.hid (show appendS a.data.toList bs ⟨V, free, fuse, false⟩ = (71, ⟨V, free, fuse, false⟩) by
          unfold appendS onFile
          rw [HLK.out]
          exact if_pos (by show free < bs.length; omega))
        have hgt : most - (tt : Int) < (m : Int) := by rw [hmi]; omega
        have hmr : 0 ≤ most - (tt : Int) ∧ most - (tt : Int) ≤ 9223372036854775807 := by omega
        clear hmi
        have k21 : Blk w1 (w.heap.size) 53 #[.slice (some ⟨b, o, none⟩) n c, .int .i64 most, .int .i64 (fuse : Nat), .bool false] := K2.out.below b1 (by omega)
        have k2c01 : World.cell? w1 ⟨w.heap.size, 0, none⟩ = some (.slice (some ⟨b, o, none⟩) n c) := (k21).cell 0
        have k2f01 : World.frozen? w1 ⟨w.heap.size, 0, none⟩ = false := (k21).frozen 0
        have k2c11 : World.cell? w1 ⟨w.heap.size, 1, none⟩ = some (.int .i64 most) := (k21).cell 1
        have k2f11 : World.frozen? w1 ⟨w.heap.size, 1, none⟩ = false := (k21).frozen 1
        have k2c21 : World.cell? w1 ⟨w.heap.size, 2, none⟩ = some (.int .i64 (fuse : Nat)) := (k21).cell 2
        have k2f21 : World.frozen? w1 ⟨w.heap.size, 2, none⟩ = false := (k21).frozen 2
        have k2c31 : World.cell? w1 ⟨w.heap.size, 3, none⟩ = some (.bool false) := (k21).cell 3
        have k2f31 : World.frozen? w1 ⟨w.heap.size, 3, none⟩ = false := (k21).frozen 3
        have k31 : Blk w1 (w.heap.size + 1) 62 #[.int .i64 2, .string a, .string z, .int .i64 num, .slice B m d] := K3.out.below b1 (by omega)
        have k3c01 : World.cell? w1 ⟨w.heap.size + 1, 0, none⟩ = some (.int .i64 2) := (k31).cell 0
        have k3c11 : World.cell? w1 ⟨w.heap.size + 1, 1, none⟩ = some (.string a) := (k31).cell 1
        have k3c21 : World.cell? w1 ⟨w.heap.size + 1, 2, none⟩ = some (.string z) := (k31).cell 2
        have k3c31 : World.cell? w1 ⟨w.heap.size + 1, 3, none⟩ = some (.int .i64 num) := (k31).cell 3
        have k3c41 : World.cell? w1 ⟨w.heap.size + 1, 4, none⟩ = some (.slice B m d) := (k31).cell 4
        have k41 : Blk w1 (w.heap.size + 2) 53 #[.slice none 0 0, .int .i64 0, .int .i64 0, .bool false] := K4.out.below b1 (by omega)
        have k4c01 : World.cell? w1 ⟨w.heap.size + 2, 0, none⟩ = some (.slice none 0 0) := (k41).cell 0
        have k4f01 : World.frozen? w1 ⟨w.heap.size + 2, 0, none⟩ = false := (k41).frozen 0
        have k4c11 : World.cell? w1 ⟨w.heap.size + 2, 1, none⟩ = some (.int .i64 0) := (k41).cell 1
        have k4f11 : World.frozen? w1 ⟨w.heap.size + 2, 1, none⟩ = false := (k41).frozen 1
        have k4c21 : World.cell? w1 ⟨w.heap.size + 2, 2, none⟩ = some (.int .i64 0) := (k41).cell 2
        have k4f21 : World.frozen? w1 ⟨w.heap.size + 2, 2, none⟩ = false := (k41).frozen 2
        have k4c31 : World.cell? w1 ⟨w.heap.size + 2, 3, none⟩ = some (.bool false) := (k41).cell 3
        have k4f31 : World.frozen? w1 ⟨w.heap.size + 2, 3, none⟩ = false := (k41).frozen 3
        have k2 : ∀ ob, Blk (w1.alloc ob) (w.heap.size) 53 #[.slice (some ⟨b, o, none⟩) n c, .int .i64 most, .int .i64 (fuse : Nat), .bool false] := fun ob => (K2.out.below b1 (by omega)).alloc ob
        have k2c0 : ∀ ob, World.cell? (w1.alloc ob) ⟨w.heap.size, 0, none⟩ = some (.slice (some ⟨b, o, none⟩) n c) := fun ob => (k2 ob).cell 0
        have k2f0 : ∀ ob, World.frozen? (w1.alloc ob) ⟨w.heap.size, 0, none⟩ = false := fun ob => (k2 ob).frozen 0
        have k2c1 : ∀ ob, World.cell? (w1.alloc ob) ⟨w.heap.size, 1, none⟩ = some (.int .i64 most) := fun ob => (k2 ob).cell 1
        have k2f1 : ∀ ob, World.frozen? (w1.alloc ob) ⟨w.heap.size, 1, none⟩ = false := fun ob => (k2 ob).frozen 1
        have k2c2 : ∀ ob, World.cell? (w1.alloc ob) ⟨w.heap.size, 2, none⟩ = some (.int .i64 (fuse : Nat)) := fun ob => (k2 ob).cell 2
        have k2f2 : ∀ ob, World.frozen? (w1.alloc ob) ⟨w.heap.size, 2, none⟩ = false := fun ob => (k2 ob).frozen 2
        have k2c3 : ∀ ob, World.cell? (w1.alloc ob) ⟨w.heap.size, 3, none⟩ = some (.bool false) := fun ob => (k2 ob).cell 3
        have k2f3 : ∀ ob, World.frozen? (w1.alloc ob) ⟨w.heap.size, 3, none⟩ = false := fun ob => (k2 ob).frozen 3
        have k3 : ∀ ob, Blk (w1.alloc ob) (w.heap.size + 1) 62 #[.int .i64 2, .string a, .string z, .int .i64 num, .slice B m d] := fun ob => (K3.out.below b1 (by omega)).alloc ob
        have k3c0 : ∀ ob, World.cell? (w1.alloc ob) ⟨w.heap.size + 1, 0, none⟩ = some (.int .i64 2) := fun ob => (k3 ob).cell 0
        have k3c1 : ∀ ob, World.cell? (w1.alloc ob) ⟨w.heap.size + 1, 1, none⟩ = some (.string a) := fun ob => (k3 ob).cell 1
        have k3c2 : ∀ ob, World.cell? (w1.alloc ob) ⟨w.heap.size + 1, 2, none⟩ = some (.string z) := fun ob => (k3 ob).cell 2
        have k3c3 : ∀ ob, World.cell? (w1.alloc ob) ⟨w.heap.size + 1, 3, none⟩ = some (.int .i64 num) := fun ob => (k3 ob).cell 3
        have k3c4 : ∀ ob, World.cell? (w1.alloc ob) ⟨w.heap.size + 1, 4, none⟩ = some (.slice B m d) := fun ob => (k3 ob).cell 4
        have k4 : ∀ ob, Blk (w1.alloc ob) (w.heap.size + 2) 53 #[.slice none 0 0, .int .i64 0, .int .i64 0, .bool false] := fun ob => (K4.out.below b1 (by omega)).alloc ob
        have k4c0 : ∀ ob, World.cell? (w1.alloc ob) ⟨w.heap.size + 2, 0, none⟩ = some (.slice none 0 0) := fun ob => (k4 ob).cell 0
        have k4f0 : ∀ ob, World.frozen? (w1.alloc ob) ⟨w.heap.size + 2, 0, none⟩ = false := fun ob => (k4 ob).frozen 0
        have k4c1 : ∀ ob, World.cell? (w1.alloc ob) ⟨w.heap.size + 2, 1, none⟩ = some (.int .i64 0) := fun ob => (k4 ob).cell 1
        have k4f1 : ∀ ob, World.frozen? (w1.alloc ob) ⟨w.heap.size + 2, 1, none⟩ = false := fun ob => (k4 ob).frozen 1
        have k4c2 : ∀ ob, World.cell? (w1.alloc ob) ⟨w.heap.size + 2, 2, none⟩ = some (.int .i64 0) := fun ob => (k4 ob).cell 2
        have k4f2 : ∀ ob, World.frozen? (w1.alloc ob) ⟨w.heap.size + 2, 2, none⟩ = false := fun ob => (k4 ob).frozen 2
        have k4c3 : ∀ ob, World.cell? (w1.alloc ob) ⟨w.heap.size + 2, 3, none⟩ = some (.bool false) := fun ob => (k4 ob).cell 3
        have k4f3 : ∀ ob, World.frozen? (w1.alloc ob) ⟨w.heap.size + 2, 3, none⟩ = false := fun ob => (k4 ob).frozen 3
        have KB := Lib.hid (And.intro k2 (And.intro k3 k4))
        clear hfx b1 hcl hi hft hfn k2 k3 k4 k21 k31 k41
        go_wp2_with fail
        have L0 : w.heap.size < (w1.alloc (.cells #[.string ⟨f.nm.toArray⟩, .slice f.B f.bs.length f.c, .int .i64 (f.sf : Nat)] 130)).drew.heap.size := by show w.heap.size < (w1.alloc (.cells #[.string ⟨f.nm.toArray⟩, .slice f.B f.bs.length f.c, .int .i64 (f.sf : Nat)] 130)).heap.size; simp; omega
        have L1 : w.heap.size + 1 < (w1.alloc (.cells #[.string ⟨f.nm.toArray⟩, .slice f.B f.bs.length f.c, .int .i64 (f.sf : Nat)] 130)).drew.heap.size := by show w.heap.size + 1 < (w1.alloc (.cells #[.string ⟨f.nm.toArray⟩, .slice f.B f.bs.length f.c, .int .i64 (f.sf : Nat)] 130)).heap.size; simp; omega
        have SF := Lib.hid (show (w1.alloc (.cells #[.string ⟨f.nm.toArray⟩, .slice f.B f.bs.length f.c, .int .i64 (f.sf : Nat)] 130)).drew.cell? ⟨w.heap.size + 1, 0, none⟩ = some (.int .i64 2) ∧ (w1.alloc (.cells #[.string ⟨f.nm.toArray⟩, .slice f.B f.bs.length f.c, .int .i64 (f.sf : Nat)] 130)).drew.cell? ⟨w.heap.size + 1, 4, none⟩ = some (.slice B m d) ∧ (w1.alloc (.cells #[.string ⟨f.nm.toArray⟩, .slice f.B f.bs.length f.c, .int .i64 (f.sf : Nat)] 130)).drew.cell? ⟨w.heap.size, 0, none⟩ = some (.slice (some ⟨b, o, none⟩) n c) ∧ (w1.alloc (.cells #[.string ⟨f.nm.toArray⟩, .slice f.B f.bs.length f.c, .int .i64 (f.sf : Nat)] 130)).drew.cell? ⟨w.heap.size, 1, none⟩ = some (.int .i64 most) ∧ (w1.alloc (.cells #[.string ⟨f.nm.toArray⟩, .slice f.B f.bs.length f.c, .int .i64 (f.sf : Nat)] 130)).drew.cell? ⟨w.heap.size, 2, none⟩ = some (.int .i64 (fuse : Nat)) ∧ (w1.alloc (.cells #[.string ⟨f.nm.toArray⟩, .slice f.B f.bs.length f.c, .int .i64 (f.sf : Nat)] 130)).drew.cell? ⟨w.heap.size, 3, none⟩ = some (.bool false) from ⟨k3c0 _, k3c4 _, k2c0 _, k2c1 _, k2c2 _, k2c3 _⟩)
        refine wp_region_held_drew (S := fun W => W.cell? ⟨w.heap.size + 1, 0, none⟩ = some (.int .i64 2) ∧ W.cell? ⟨w.heap.size + 1, 4, none⟩ = some (.slice B m d) ∧ W.cell? ⟨w.heap.size, 0, none⟩ = some (.slice (some ⟨b, o, none⟩) n c) ∧ W.cell? ⟨w.heap.size, 1, none⟩ = some (.int .i64 most) ∧ W.cell? ⟨w.heap.size, 2, none⟩ = some (.int .i64 (fuse : Nat)) ∧ W.cell? ⟨w.heap.size, 3, none⟩ = some (.bool false)) mixed SF.out (fun hS => ?_)
        clear k2c0 k2f0 k4c0 k4f0 k2c01 k2f01 k4c01 k4f01 k2c1 k2f1 k4c1 k4f1 k2c11 k2f11 k4c11 k4f11 k2c2 k2f2 k4c2 k4f2 k2c21 k2f21 k4c21 k4f21 k2c3 k2f3 k4c3 k4f3 k2c31 k2f31 k4c31 k4f31 k3c0 k3c01 k3c1 k3c11 k3c2 k3c21 k3c3 k3c31 k3c4 k3c41 y0 y1 y2
        refine wpAnyH_take (i := 0) (v := .pointer (some ⟨w.heap.size + 1, 0, none⟩)) rfl (by kernel_rfl) (by kernel_rfl) (by kernel_rfl) (fun _ _ _ h => h) (Or.inl ⟨by rfl, fun W hW => by obtain ⟨h0, h1, h2, h3, h4, h5⟩ := hW; go_simp⟩) hS ?_
        try simp only [Act.put, List.getElem_toArray, List.getElem_cons_zero, List.getElem_cons_succ, List.setIfInBounds_toArray, List.set_cons_zero, List.set_cons_succ]
        refine wpAnyH_take (i := 1) (v := .int .i64 2) rfl (by kernel_rfl) (by kernel_rfl) (by kernel_rfl) (fun _ _ _ h => h) (Or.inl ⟨by rfl, fun W hW => by obtain ⟨h0, h1, h2, h3, h4, h5⟩ := hW; go_simp⟩) hS ?_
        try simp only [Act.put, List.getElem_toArray, List.getElem_cons_zero, List.getElem_cons_succ, List.setIfInBounds_toArray, List.set_cons_zero, List.set_cons_succ]
        refine wpAnyH_take (i := 2) (v := .bool true) rfl (by kernel_rfl) (by kernel_rfl) (by kernel_rfl) (fun _ _ _ h => h) (Or.inl ⟨by rfl, fun W hW => by obtain ⟨h0, h1, h2, h3, h4, h5⟩ := hW; go_simp⟩) hS ?_
        try simp only [Act.put, List.getElem_toArray, List.getElem_cons_zero, List.getElem_cons_succ, List.setIfInBounds_toArray, List.set_cons_zero, List.set_cons_succ]
        refine wpAnyH_take (i := 3) (v := .bool true) rfl (by kernel_rfl) (by kernel_rfl) (by kernel_rfl) (fun _ _ _ h => h) (Or.inl ⟨by rfl, fun W hW => by obtain ⟨h0, h1, h2, h3, h4, h5⟩ := hW; go_simp⟩) hS ?_
        try simp only [Act.put, List.getElem_toArray, List.getElem_cons_zero, List.getElem_cons_succ, List.setIfInBounds_toArray, List.set_cons_zero, List.set_cons_succ]
        refine wpAnyH_take (i := 4) (v := .pointer (some ⟨w.heap.size + 1, 4, none⟩)) rfl (by kernel_rfl) (by kernel_rfl) (by kernel_rfl) (fun _ _ _ h => h) (Or.inl ⟨by rfl, fun W hW => by obtain ⟨h0, h1, h2, h3, h4, h5⟩ := hW; go_simp⟩) hS ?_
        try simp only [Act.put, List.getElem_toArray, List.getElem_cons_zero, List.getElem_cons_succ, List.setIfInBounds_toArray, List.set_cons_zero, List.set_cons_succ]
        refine wpAnyH_take (i := 5) (v := .slice B m d) rfl (by kernel_rfl) (by kernel_rfl) (by kernel_rfl) (fun _ _ _ h => h) (Or.inl ⟨by rfl, fun W hW => by obtain ⟨h0, h1, h2, h3, h4, h5⟩ := hW; go_simp⟩) hS ?_
        try simp only [Act.put, List.getElem_toArray, List.getElem_cons_zero, List.getElem_cons_succ, List.setIfInBounds_toArray, List.set_cons_zero, List.set_cons_succ]
        refine wpAnyH_take (i := 6) (v := .int .i64 (m : Nat)) rfl (by kernel_rfl) (by kernel_rfl) (by kernel_rfl) (fun _ _ _ h => h) (Or.inl ⟨by rfl, fun W hW => by obtain ⟨h0, h1, h2, h3, h4, h5⟩ := hW; go_simp⟩) hS ?_
        try simp only [Act.put, List.getElem_toArray, List.getElem_cons_zero, List.getElem_cons_succ, List.setIfInBounds_toArray, List.set_cons_zero, List.set_cons_succ]
        refine wpAnyH_take (i := 7) (v := .pointer (some ⟨w.heap.size, 1, none⟩)) rfl (by kernel_rfl) (by kernel_rfl) (by kernel_rfl) (fun _ _ _ h => h) (Or.inl ⟨by rfl, fun W hW => by obtain ⟨h0, h1, h2, h3, h4, h5⟩ := hW; go_simp⟩) hS ?_
        try simp only [Act.put, List.getElem_toArray, List.getElem_cons_zero, List.getElem_cons_succ, List.setIfInBounds_toArray, List.set_cons_zero, List.set_cons_succ]
        refine wpAnyH_take (i := 8) (v := .int .i64 most) rfl (by kernel_rfl) (by kernel_rfl) (by kernel_rfl) (fun _ _ _ h => h) (Or.inl ⟨by rfl, fun W hW => by obtain ⟨h0, h1, h2, h3, h4, h5⟩ := hW; go_simp⟩) hS ?_
        try simp only [Act.put, List.getElem_toArray, List.getElem_cons_zero, List.getElem_cons_succ, List.setIfInBounds_toArray, List.set_cons_zero, List.set_cons_succ]
        refine wpAnyH_take (i := 9) (v := .agg #[.slice (some ⟨b, o, none⟩) n c, .int .i64 most, .int .i64 (fuse : Nat), .bool false]) rfl (by kernel_rfl) (by kernel_rfl) (by kernel_rfl) (fun _ _ _ h => h) (Or.inl ⟨by rfl, fun W hW => by obtain ⟨h0, h1, h2, h3, h4, h5⟩ := hW; go_simp⟩) hS ?_
        try simp only [Act.put, List.getElem_toArray, List.getElem_cons_zero, List.getElem_cons_succ, List.setIfInBounds_toArray, List.set_cons_zero, List.set_cons_succ]
        refine wpAnyH_ready (rs := [10]) (by kernel_rfl) (by simp) ?_
        refine AllReadyH.cons rfl (fun K hK => ?_) AllReadyH.nil
        go_simp
        refine (CU.out _ ((Y1.out (.cells #[.string ⟨f.nm.toArray⟩, .slice f.B f.bs.length f.c, .int .i64 (f.sf : Nat)] 130)).trans (drewN_bel _ 1))).mono ?_
        rintro e w3 ⟨hb3, rfl⟩
        refine hK.out _ _ ⟨(hb3.cell (p := ⟨w.heap.size + 1, 0, none⟩) L1).trans SF.out.1, (hb3.cell (p := ⟨w.heap.size + 1, 4, none⟩) L1).trans SF.out.2.1, (hb3.cell (p := ⟨w.heap.size, 0, none⟩) L0).trans SF.out.2.2.1, (hb3.cell (p := ⟨w.heap.size, 1, none⟩) L0).trans SF.out.2.2.2.1, (hb3.cell (p := ⟨w.heap.size, 2, none⟩) L0).trans SF.out.2.2.2.2.1, (hb3.cell (p := ⟨w.heap.size, 3, none⟩) L0).trans SF.out.2.2.2.2.2⟩ (fun hS => ?_)
        clear hK K
        have hwr : IntKind.i64.wrap (most - (tt : Int)) = most - (tt : Int) := IntWalk.i64_in _ (by omega)
        refine wpAnyH_take (i := 11) (v := .int .i64 (most - (tt : Int))) rfl (by kernel_rfl) (by kernel_rfl) (by kernel_rfl) (fun _ _ _ h => h) (Or.inl ⟨by rfl, fun W hW => by obtain ⟨h0, h1, h2, h3, h4, h5⟩ := hW; go_simp⟩) hS ?_
        try simp only [Act.put, List.getElem_toArray, List.getElem_cons_zero, List.getElem_cons_succ, List.setIfInBounds_toArray, List.set_cons_zero, List.set_cons_succ]
        refine wpAnyH_take (i := 12) (v := .bool true) rfl (by kernel_rfl) (by kernel_rfl) (by kernel_rfl) (fun _ _ _ h => h) (Or.inl ⟨by rfl, fun W hW => by obtain ⟨h0, h1, h2, h3, h4, h5⟩ := hW; go_simp⟩) hS ?_
        try simp only [Act.put, List.getElem_toArray, List.getElem_cons_zero, List.getElem_cons_succ, List.setIfInBounds_toArray, List.set_cons_zero, List.set_cons_succ]
        refine wpAnyH_take (i := 13) (v := .bool true) rfl (by kernel_rfl) (by kernel_rfl) (by kernel_rfl) (fun _ _ _ h => h) (Or.inl ⟨by rfl, fun W hW => by obtain ⟨h0, h1, h2, h3, h4, h5⟩ := hW; go_simp⟩) hS ?_
        try simp only [Act.put, List.getElem_toArray, List.getElem_cons_zero, List.getElem_cons_succ, List.setIfInBounds_toArray, List.set_cons_zero, List.set_cons_succ]
        refine wpAnyH_done (by kernel_rfl) ?_ _
        clear hS hwr
        have hb4 : Below (w1.alloc (.cells #[.string ⟨f.nm.toArray⟩, .slice f.B f.bs.length f.c, .int .i64 (f.sf : Nat)] 130)).heap.size (w1.alloc (.cells #[.string ⟨f.nm.toArray⟩, .slice f.B f.bs.length f.c, .int .i64 (f.sf : Nat)] 130)) w3 := ⟨hb3.os, hb3.tape, hb3.output, hb3.size, hb3.block⟩
        have K2 := Lib.hid ((KB.out.1 (.cells #[.string ⟨f.nm.toArray⟩, .slice f.B f.bs.length f.c, .int .i64 (f.sf : Nat)] 130)).below hb4 (KB.out.1 (.cells #[.string ⟨f.nm.toArray⟩, .slice f.B f.bs.length f.c, .int .i64 (f.sf : Nat)] 130)).lt)
        have K3 := Lib.hid ((KB.out.2.1 (.cells #[.string ⟨f.nm.toArray⟩, .slice f.B f.bs.length f.c, .int .i64 (f.sf : Nat)] 130)).below hb4 (KB.out.2.1 (.cells #[.string ⟨f.nm.toArray⟩, .slice f.B f.bs.length f.c, .int .i64 (f.sf : Nat)] 130)).lt)
        have K4 := Lib.hid ((KB.out.2.2 (.cells #[.string ⟨f.nm.toArray⟩, .slice f.B f.bs.length f.c, .int .i64 (f.sf : Nat)] 130)).below hb4 (KB.out.2.2 (.cells #[.string ⟨f.nm.toArray⟩, .slice f.B f.bs.length f.c, .int .i64 (f.sf : Nat)] 130)).lt)
        have K7 := Lib.hid ((Blk.new w1 130 #[.string ⟨f.nm.toArray⟩, .slice f.B f.bs.length f.c, .int .i64 (f.sf : Nat)]).below hb4 (Blk.new w1 130 _).lt)
        have HB2 := Lib.hid ((Y1.out (.cells #[.string ⟨f.nm.toArray⟩, .slice f.B f.bs.length f.c, .int .i64 (f.sf : Nat)] 130)).trans (hb4.mono (Y1.out (.cells #[.string ⟨f.nm.toArray⟩, .slice f.B f.bs.length f.c, .int .i64 (f.sf : Nat)] 130)).size))
        have hs2 : w1.heap.size < w3.heap.size := K7.out.lt
        clear hb3 hb4 SF KB Y1 L0 L1
        have k2 : Blk w3 (w.heap.size) 53 #[.slice (some ⟨b, o, none⟩) n c, .int .i64 most, .int .i64 (fuse : Nat), .bool false] := K2.out
        have k2c0 : World.cell? w3 ⟨w.heap.size, 0, none⟩ = some (.slice (some ⟨b, o, none⟩) n c) := (k2).cell 0
        have k2f0 : World.frozen? w3 ⟨w.heap.size, 0, none⟩ = false := (k2).frozen 0
        have k2c1 : World.cell? w3 ⟨w.heap.size, 1, none⟩ = some (.int .i64 most) := (k2).cell 1
        have k2f1 : World.frozen? w3 ⟨w.heap.size, 1, none⟩ = false := (k2).frozen 1
        have k2c2 : World.cell? w3 ⟨w.heap.size, 2, none⟩ = some (.int .i64 (fuse : Nat)) := (k2).cell 2
        have k2f2 : World.frozen? w3 ⟨w.heap.size, 2, none⟩ = false := (k2).frozen 2
        have k2c3 : World.cell? w3 ⟨w.heap.size, 3, none⟩ = some (.bool false) := (k2).cell 3
        have k2f3 : World.frozen? w3 ⟨w.heap.size, 3, none⟩ = false := (k2).frozen 3
        have k3 : Blk w3 (w.heap.size + 1) 62 #[.int .i64 2, .string a, .string z, .int .i64 num, .slice B m d] := K3.out
        have k3c0 : World.cell? w3 ⟨w.heap.size + 1, 0, none⟩ = some (.int .i64 2) := (k3).cell 0
        have k3c1 : World.cell? w3 ⟨w.heap.size + 1, 1, none⟩ = some (.string a) := (k3).cell 1
        have k3c2 : World.cell? w3 ⟨w.heap.size + 1, 2, none⟩ = some (.string z) := (k3).cell 2
        have k3c3 : World.cell? w3 ⟨w.heap.size + 1, 3, none⟩ = some (.int .i64 num) := (k3).cell 3
        have k3c4 : World.cell? w3 ⟨w.heap.size + 1, 4, none⟩ = some (.slice B m d) := (k3).cell 4
        have k4 : Blk w3 (w.heap.size + 2) 53 #[.slice none 0 0, .int .i64 0, .int .i64 0, .bool false] := K4.out
        have k4c0 : World.cell? w3 ⟨w.heap.size + 2, 0, none⟩ = some (.slice none 0 0) := (k4).cell 0
        have k4f0 : World.frozen? w3 ⟨w.heap.size + 2, 0, none⟩ = false := (k4).frozen 0
        have k4c1 : World.cell? w3 ⟨w.heap.size + 2, 1, none⟩ = some (.int .i64 0) := (k4).cell 1
        have k4f1 : World.frozen? w3 ⟨w.heap.size + 2, 1, none⟩ = false := (k4).frozen 1
        have k4c2 : World.cell? w3 ⟨w.heap.size + 2, 2, none⟩ = some (.int .i64 0) := (k4).cell 2
        have k4f2 : World.frozen? w3 ⟨w.heap.size + 2, 2, none⟩ = false := (k4).frozen 2
        have k4c3 : World.cell? w3 ⟨w.heap.size + 2, 3, none⟩ = some (.bool false) := (k4).cell 3
        have k4f3 : World.frozen? w3 ⟨w.heap.size + 2, 3, none⟩ = false := (k4).frozen 3
        have k7 := K7.out
        obtain ⟨k7c0, k7c1, k7c2, k7f0, k7f1, k7f2⟩ := blk3 k7
        clear k2 k3 k4 k7
        go_wp2
        refine bodyPost_ret (v := .tuple #[.agg #[.slice (some ⟨b, o, none⟩) n c, .int .i64 most, .int .i64 (fuse : Nat), .bool false], .int .i64 71]) (by simp [results, Try.results26, go_sem, *]) rfl ?_
        rw [HRES.out]
        exact do_same H.out hY (below_set4 HB2.out (by omega) _ _ _ _) HV.out rfl rfl (fun _ => rfl)
      · have hgt : ¬ most - (tt : Int) < (m : Int) := by rw [hmi]; omega
        have hmr : 0 ≤ most - (tt : Int) ∧ most - (tt : Int) ≤ 9223372036854775807 := by omega
        clear hmi
        have k21 : Blk w1 (w.heap.size) 53 #[.slice (some ⟨b, o, none⟩) n c, .int .i64 most, .int .i64 (fuse : Nat), .bool false] := K2.out.below b1 (by omega)
        have k2c01 : World.cell? w1 ⟨w.heap.size, 0, none⟩ = some (.slice (some ⟨b, o, none⟩) n c) := (k21).cell 0
        have k2f01 : World.frozen? w1 ⟨w.heap.size, 0, none⟩ = false := (k21).frozen 0
        have k2c11 : World.cell? w1 ⟨w.heap.size, 1, none⟩ = some (.int .i64 most) := (k21).cell 1
        have k2f11 : World.frozen? w1 ⟨w.heap.size, 1, none⟩ = false := (k21).frozen 1
        have k2c21 : World.cell? w1 ⟨w.heap.size, 2, none⟩ = some (.int .i64 (fuse : Nat)) := (k21).cell 2
        have k2f21 : World.frozen? w1 ⟨w.heap.size, 2, none⟩ = false := (k21).frozen 2
        have k2c31 : World.cell? w1 ⟨w.heap.size, 3, none⟩ = some (.bool false) := (k21).cell 3
        have k2f31 : World.frozen? w1 ⟨w.heap.size, 3, none⟩ = false := (k21).frozen 3
        have k31 : Blk w1 (w.heap.size + 1) 62 #[.int .i64 2, .string a, .string z, .int .i64 num, .slice B m d] := K3.out.below b1 (by omega)
        have k3c01 : World.cell? w1 ⟨w.heap.size + 1, 0, none⟩ = some (.int .i64 2) := (k31).cell 0
        have k3c11 : World.cell? w1 ⟨w.heap.size + 1, 1, none⟩ = some (.string a) := (k31).cell 1
        have k3c21 : World.cell? w1 ⟨w.heap.size + 1, 2, none⟩ = some (.string z) := (k31).cell 2
        have k3c31 : World.cell? w1 ⟨w.heap.size + 1, 3, none⟩ = some (.int .i64 num) := (k31).cell 3
        have k3c41 : World.cell? w1 ⟨w.heap.size + 1, 4, none⟩ = some (.slice B m d) := (k31).cell 4
        have k41 : Blk w1 (w.heap.size + 2) 53 #[.slice none 0 0, .int .i64 0, .int .i64 0, .bool false] := K4.out.below b1 (by omega)
        have k4c01 : World.cell? w1 ⟨w.heap.size + 2, 0, none⟩ = some (.slice none 0 0) := (k41).cell 0
        have k4f01 : World.frozen? w1 ⟨w.heap.size + 2, 0, none⟩ = false := (k41).frozen 0
        have k4c11 : World.cell? w1 ⟨w.heap.size + 2, 1, none⟩ = some (.int .i64 0) := (k41).cell 1
        have k4f11 : World.frozen? w1 ⟨w.heap.size + 2, 1, none⟩ = false := (k41).frozen 1
        have k4c21 : World.cell? w1 ⟨w.heap.size + 2, 2, none⟩ = some (.int .i64 0) := (k41).cell 2
        have k4f21 : World.frozen? w1 ⟨w.heap.size + 2, 2, none⟩ = false := (k41).frozen 2
        have k4c31 : World.cell? w1 ⟨w.heap.size + 2, 3, none⟩ = some (.bool false) := (k41).cell 3
        have k4f31 : World.frozen? w1 ⟨w.heap.size + 2, 3, none⟩ = false := (k41).frozen 3
        have k2 : ∀ ob, Blk (w1.alloc ob) (w.heap.size) 53 #[.slice (some ⟨b, o, none⟩) n c, .int .i64 most, .int .i64 (fuse : Nat), .bool false] := fun ob => (K2.out.below b1 (by omega)).alloc ob
        have k2c0 : ∀ ob, World.cell? (w1.alloc ob) ⟨w.heap.size, 0, none⟩ = some (.slice (some ⟨b, o, none⟩) n c) := fun ob => (k2 ob).cell 0
        have k2f0 : ∀ ob, World.frozen? (w1.alloc ob) ⟨w.heap.size, 0, none⟩ = false := fun ob => (k2 ob).frozen 0
        have k2c1 : ∀ ob, World.cell? (w1.alloc ob) ⟨w.heap.size, 1, none⟩ = some (.int .i64 most) := fun ob => (k2 ob).cell 1
        have k2f1 : ∀ ob, World.frozen? (w1.alloc ob) ⟨w.heap.size, 1, none⟩ = false := fun ob => (k2 ob).frozen 1
        have k2c2 : ∀ ob, World.cell? (w1.alloc ob) ⟨w.heap.size, 2, none⟩ = some (.int .i64 (fuse : Nat)) := fun ob => (k2 ob).cell 2
        have k2f2 : ∀ ob, World.frozen? (w1.alloc ob) ⟨w.heap.size, 2, none⟩ = false := fun ob => (k2 ob).frozen 2
        have k2c3 : ∀ ob, World.cell? (w1.alloc ob) ⟨w.heap.size, 3, none⟩ = some (.bool false) := fun ob => (k2 ob).cell 3
        have k2f3 : ∀ ob, World.frozen? (w1.alloc ob) ⟨w.heap.size, 3, none⟩ = false := fun ob => (k2 ob).frozen 3
        have k3 : ∀ ob, Blk (w1.alloc ob) (w.heap.size + 1) 62 #[.int .i64 2, .string a, .string z, .int .i64 num, .slice B m d] := fun ob => (K3.out.below b1 (by omega)).alloc ob
        have k3c0 : ∀ ob, World.cell? (w1.alloc ob) ⟨w.heap.size + 1, 0, none⟩ = some (.int .i64 2) := fun ob => (k3 ob).cell 0
        have k3c1 : ∀ ob, World.cell? (w1.alloc ob) ⟨w.heap.size + 1, 1, none⟩ = some (.string a) := fun ob => (k3 ob).cell 1
        have k3c2 : ∀ ob, World.cell? (w1.alloc ob) ⟨w.heap.size + 1, 2, none⟩ = some (.string z) := fun ob => (k3 ob).cell 2
        have k3c3 : ∀ ob, World.cell? (w1.alloc ob) ⟨w.heap.size + 1, 3, none⟩ = some (.int .i64 num) := fun ob => (k3 ob).cell 3
        have k3c4 : ∀ ob, World.cell? (w1.alloc ob) ⟨w.heap.size + 1, 4, none⟩ = some (.slice B m d) := fun ob => (k3 ob).cell 4
        have k4 : ∀ ob, Blk (w1.alloc ob) (w.heap.size + 2) 53 #[.slice none 0 0, .int .i64 0, .int .i64 0, .bool false] := fun ob => (K4.out.below b1 (by omega)).alloc ob
        have k4c0 : ∀ ob, World.cell? (w1.alloc ob) ⟨w.heap.size + 2, 0, none⟩ = some (.slice none 0 0) := fun ob => (k4 ob).cell 0
        have k4f0 : ∀ ob, World.frozen? (w1.alloc ob) ⟨w.heap.size + 2, 0, none⟩ = false := fun ob => (k4 ob).frozen 0
        have k4c1 : ∀ ob, World.cell? (w1.alloc ob) ⟨w.heap.size + 2, 1, none⟩ = some (.int .i64 0) := fun ob => (k4 ob).cell 1
        have k4f1 : ∀ ob, World.frozen? (w1.alloc ob) ⟨w.heap.size + 2, 1, none⟩ = false := fun ob => (k4 ob).frozen 1
        have k4c2 : ∀ ob, World.cell? (w1.alloc ob) ⟨w.heap.size + 2, 2, none⟩ = some (.int .i64 0) := fun ob => (k4 ob).cell 2
        have k4f2 : ∀ ob, World.frozen? (w1.alloc ob) ⟨w.heap.size + 2, 2, none⟩ = false := fun ob => (k4 ob).frozen 2
        have k4c3 : ∀ ob, World.cell? (w1.alloc ob) ⟨w.heap.size + 2, 3, none⟩ = some (.bool false) := fun ob => (k4 ob).cell 3
        have k4f3 : ∀ ob, World.frozen? (w1.alloc ob) ⟨w.heap.size + 2, 3, none⟩ = false := fun ob => (k4 ob).frozen 3
        have KB := Lib.hid (And.intro k2 (And.intro k3 k4))
        clear hfx b1 hcl hi hft hfn k2 k3 k4 k21 k31 k41
        go_wp2_with fail
        have L0 : w.heap.size < (w1.alloc (.cells #[.string ⟨f.nm.toArray⟩, .slice f.B f.bs.length f.c, .int .i64 (f.sf : Nat)] 130)).drew.heap.size := by show w.heap.size < (w1.alloc (.cells #[.string ⟨f.nm.toArray⟩, .slice f.B f.bs.length f.c, .int .i64 (f.sf : Nat)] 130)).heap.size; simp; omega
        have L1 : w.heap.size + 1 < (w1.alloc (.cells #[.string ⟨f.nm.toArray⟩, .slice f.B f.bs.length f.c, .int .i64 (f.sf : Nat)] 130)).drew.heap.size := by show w.heap.size + 1 < (w1.alloc (.cells #[.string ⟨f.nm.toArray⟩, .slice f.B f.bs.length f.c, .int .i64 (f.sf : Nat)] 130)).heap.size; simp; omega
        have SF := Lib.hid (show (w1.alloc (.cells #[.string ⟨f.nm.toArray⟩, .slice f.B f.bs.length f.c, .int .i64 (f.sf : Nat)] 130)).drew.cell? ⟨w.heap.size + 1, 0, none⟩ = some (.int .i64 2) ∧ (w1.alloc (.cells #[.string ⟨f.nm.toArray⟩, .slice f.B f.bs.length f.c, .int .i64 (f.sf : Nat)] 130)).drew.cell? ⟨w.heap.size + 1, 4, none⟩ = some (.slice B m d) ∧ (w1.alloc (.cells #[.string ⟨f.nm.toArray⟩, .slice f.B f.bs.length f.c, .int .i64 (f.sf : Nat)] 130)).drew.cell? ⟨w.heap.size, 0, none⟩ = some (.slice (some ⟨b, o, none⟩) n c) ∧ (w1.alloc (.cells #[.string ⟨f.nm.toArray⟩, .slice f.B f.bs.length f.c, .int .i64 (f.sf : Nat)] 130)).drew.cell? ⟨w.heap.size, 1, none⟩ = some (.int .i64 most) ∧ (w1.alloc (.cells #[.string ⟨f.nm.toArray⟩, .slice f.B f.bs.length f.c, .int .i64 (f.sf : Nat)] 130)).drew.cell? ⟨w.heap.size, 2, none⟩ = some (.int .i64 (fuse : Nat)) ∧ (w1.alloc (.cells #[.string ⟨f.nm.toArray⟩, .slice f.B f.bs.length f.c, .int .i64 (f.sf : Nat)] 130)).drew.cell? ⟨w.heap.size, 3, none⟩ = some (.bool false) from ⟨k3c0 _, k3c4 _, k2c0 _, k2c1 _, k2c2 _, k2c3 _⟩)
        refine wp_region_held_drew (S := fun W => W.cell? ⟨w.heap.size + 1, 0, none⟩ = some (.int .i64 2) ∧ W.cell? ⟨w.heap.size + 1, 4, none⟩ = some (.slice B m d) ∧ W.cell? ⟨w.heap.size, 0, none⟩ = some (.slice (some ⟨b, o, none⟩) n c) ∧ W.cell? ⟨w.heap.size, 1, none⟩ = some (.int .i64 most) ∧ W.cell? ⟨w.heap.size, 2, none⟩ = some (.int .i64 (fuse : Nat)) ∧ W.cell? ⟨w.heap.size, 3, none⟩ = some (.bool false)) mixed SF.out (fun hS => ?_)
        clear k2c0 k2f0 k4c0 k4f0 k2c01 k2f01 k4c01 k4f01 k2c1 k2f1 k4c1 k4f1 k2c11 k2f11 k4c11 k4f11 k2c2 k2f2 k4c2 k4f2 k2c21 k2f21 k4c21 k4f21 k2c3 k2f3 k4c3 k4f3 k2c31 k2f31 k4c31 k4f31 k3c0 k3c01 k3c1 k3c11 k3c2 k3c21 k3c3 k3c31 k3c4 k3c41 y0 y1 y2
        refine wpAnyH_take (i := 0) (v := .pointer (some ⟨w.heap.size + 1, 0, none⟩)) rfl (by kernel_rfl) (by kernel_rfl) (by kernel_rfl) (fun _ _ _ h => h) (Or.inl ⟨by rfl, fun W hW => by obtain ⟨h0, h1, h2, h3, h4, h5⟩ := hW; go_simp⟩) hS ?_
        try simp only [Act.put, List.getElem_toArray, List.getElem_cons_zero, List.getElem_cons_succ, List.setIfInBounds_toArray, List.set_cons_zero, List.set_cons_succ]
        refine wpAnyH_take (i := 1) (v := .int .i64 2) rfl (by kernel_rfl) (by kernel_rfl) (by kernel_rfl) (fun _ _ _ h => h) (Or.inl ⟨by rfl, fun W hW => by obtain ⟨h0, h1, h2, h3, h4, h5⟩ := hW; go_simp⟩) hS ?_
        try simp only [Act.put, List.getElem_toArray, List.getElem_cons_zero, List.getElem_cons_succ, List.setIfInBounds_toArray, List.set_cons_zero, List.set_cons_succ]
        refine wpAnyH_take (i := 2) (v := .bool true) rfl (by kernel_rfl) (by kernel_rfl) (by kernel_rfl) (fun _ _ _ h => h) (Or.inl ⟨by rfl, fun W hW => by obtain ⟨h0, h1, h2, h3, h4, h5⟩ := hW; go_simp⟩) hS ?_
        try simp only [Act.put, List.getElem_toArray, List.getElem_cons_zero, List.getElem_cons_succ, List.setIfInBounds_toArray, List.set_cons_zero, List.set_cons_succ]
        refine wpAnyH_take (i := 3) (v := .bool true) rfl (by kernel_rfl) (by kernel_rfl) (by kernel_rfl) (fun _ _ _ h => h) (Or.inl ⟨by rfl, fun W hW => by obtain ⟨h0, h1, h2, h3, h4, h5⟩ := hW; go_simp⟩) hS ?_
        try simp only [Act.put, List.getElem_toArray, List.getElem_cons_zero, List.getElem_cons_succ, List.setIfInBounds_toArray, List.set_cons_zero, List.set_cons_succ]
        refine wpAnyH_take (i := 4) (v := .pointer (some ⟨w.heap.size + 1, 4, none⟩)) rfl (by kernel_rfl) (by kernel_rfl) (by kernel_rfl) (fun _ _ _ h => h) (Or.inl ⟨by rfl, fun W hW => by obtain ⟨h0, h1, h2, h3, h4, h5⟩ := hW; go_simp⟩) hS ?_
        try simp only [Act.put, List.getElem_toArray, List.getElem_cons_zero, List.getElem_cons_succ, List.setIfInBounds_toArray, List.set_cons_zero, List.set_cons_succ]
        refine wpAnyH_take (i := 5) (v := .slice B m d) rfl (by kernel_rfl) (by kernel_rfl) (by kernel_rfl) (fun _ _ _ h => h) (Or.inl ⟨by rfl, fun W hW => by obtain ⟨h0, h1, h2, h3, h4, h5⟩ := hW; go_simp⟩) hS ?_
        try simp only [Act.put, List.getElem_toArray, List.getElem_cons_zero, List.getElem_cons_succ, List.setIfInBounds_toArray, List.set_cons_zero, List.set_cons_succ]
        refine wpAnyH_take (i := 6) (v := .int .i64 (m : Nat)) rfl (by kernel_rfl) (by kernel_rfl) (by kernel_rfl) (fun _ _ _ h => h) (Or.inl ⟨by rfl, fun W hW => by obtain ⟨h0, h1, h2, h3, h4, h5⟩ := hW; go_simp⟩) hS ?_
        try simp only [Act.put, List.getElem_toArray, List.getElem_cons_zero, List.getElem_cons_succ, List.setIfInBounds_toArray, List.set_cons_zero, List.set_cons_succ]
        refine wpAnyH_take (i := 7) (v := .pointer (some ⟨w.heap.size, 1, none⟩)) rfl (by kernel_rfl) (by kernel_rfl) (by kernel_rfl) (fun _ _ _ h => h) (Or.inl ⟨by rfl, fun W hW => by obtain ⟨h0, h1, h2, h3, h4, h5⟩ := hW; go_simp⟩) hS ?_
        try simp only [Act.put, List.getElem_toArray, List.getElem_cons_zero, List.getElem_cons_succ, List.setIfInBounds_toArray, List.set_cons_zero, List.set_cons_succ]
        refine wpAnyH_take (i := 8) (v := .int .i64 most) rfl (by kernel_rfl) (by kernel_rfl) (by kernel_rfl) (fun _ _ _ h => h) (Or.inl ⟨by rfl, fun W hW => by obtain ⟨h0, h1, h2, h3, h4, h5⟩ := hW; go_simp⟩) hS ?_
        try simp only [Act.put, List.getElem_toArray, List.getElem_cons_zero, List.getElem_cons_succ, List.setIfInBounds_toArray, List.set_cons_zero, List.set_cons_succ]
        refine wpAnyH_take (i := 9) (v := .agg #[.slice (some ⟨b, o, none⟩) n c, .int .i64 most, .int .i64 (fuse : Nat), .bool false]) rfl (by kernel_rfl) (by kernel_rfl) (by kernel_rfl) (fun _ _ _ h => h) (Or.inl ⟨by rfl, fun W hW => by obtain ⟨h0, h1, h2, h3, h4, h5⟩ := hW; go_simp⟩) hS ?_
        try simp only [Act.put, List.getElem_toArray, List.getElem_cons_zero, List.getElem_cons_succ, List.setIfInBounds_toArray, List.set_cons_zero, List.set_cons_succ]
        refine wpAnyH_ready (rs := [10]) (by kernel_rfl) (by simp) ?_
        refine AllReadyH.cons rfl (fun K hK => ?_) AllReadyH.nil
        go_simp
        refine (CU.out _ ((Y1.out (.cells #[.string ⟨f.nm.toArray⟩, .slice f.B f.bs.length f.c, .int .i64 (f.sf : Nat)] 130)).trans (drewN_bel _ 1))).mono ?_
        rintro e w3 ⟨hb3, rfl⟩
        refine hK.out _ _ ⟨(hb3.cell (p := ⟨w.heap.size + 1, 0, none⟩) L1).trans SF.out.1, (hb3.cell (p := ⟨w.heap.size + 1, 4, none⟩) L1).trans SF.out.2.1, (hb3.cell (p := ⟨w.heap.size, 0, none⟩) L0).trans SF.out.2.2.1, (hb3.cell (p := ⟨w.heap.size, 1, none⟩) L0).trans SF.out.2.2.2.1, (hb3.cell (p := ⟨w.heap.size, 2, none⟩) L0).trans SF.out.2.2.2.2.1, (hb3.cell (p := ⟨w.heap.size, 3, none⟩) L0).trans SF.out.2.2.2.2.2⟩ (fun hS => ?_)
        clear hK K
        have hwr : IntKind.i64.wrap (most - (tt : Int)) = most - (tt : Int) := IntWalk.i64_in _ (by omega)
        refine wpAnyH_take (i := 11) (v := .int .i64 (most - (tt : Int))) rfl (by kernel_rfl) (by kernel_rfl) (by kernel_rfl) (fun _ _ _ h => h) (Or.inl ⟨by rfl, fun W hW => by obtain ⟨h0, h1, h2, h3, h4, h5⟩ := hW; go_simp⟩) hS ?_
        try simp only [Act.put, List.getElem_toArray, List.getElem_cons_zero, List.getElem_cons_succ, List.setIfInBounds_toArray, List.set_cons_zero, List.set_cons_succ]
        refine wpAnyH_take (i := 12) (v := .bool false) rfl (by kernel_rfl) (by kernel_rfl) (by kernel_rfl) (fun _ _ _ h => h) (Or.inl ⟨by rfl, fun W hW => by obtain ⟨h0, h1, h2, h3, h4, h5⟩ := hW; go_simp⟩) hS ?_
        try simp only [Act.put, List.getElem_toArray, List.getElem_cons_zero, List.getElem_cons_succ, List.setIfInBounds_toArray, List.set_cons_zero, List.set_cons_succ]
        refine wpAnyH_take (i := 13) (v := .bool false) rfl (by kernel_rfl) (by kernel_rfl) (by kernel_rfl) (fun _ _ _ h => h) (Or.inl ⟨by rfl, fun W hW => by obtain ⟨h0, h1, h2, h3, h4, h5⟩ := hW; go_simp⟩) hS ?_
        try simp only [Act.put, List.getElem_toArray, List.getElem_cons_zero, List.getElem_cons_succ, List.setIfInBounds_toArray, List.set_cons_zero, List.set_cons_succ]
        refine wpAnyH_done (by kernel_rfl) ?_ _
        clear hS hwr
        have hb4 : Below (w1.alloc (.cells #[.string ⟨f.nm.toArray⟩, .slice f.B f.bs.length f.c, .int .i64 (f.sf : Nat)] 130)).heap.size (w1.alloc (.cells #[.string ⟨f.nm.toArray⟩, .slice f.B f.bs.length f.c, .int .i64 (f.sf : Nat)] 130)) w3 := ⟨hb3.os, hb3.tape, hb3.output, hb3.size, hb3.block⟩
        have K2 := Lib.hid ((KB.out.1 (.cells #[.string ⟨f.nm.toArray⟩, .slice f.B f.bs.length f.c, .int .i64 (f.sf : Nat)] 130)).below hb4 (KB.out.1 (.cells #[.string ⟨f.nm.toArray⟩, .slice f.B f.bs.length f.c, .int .i64 (f.sf : Nat)] 130)).lt)
        have K3 := Lib.hid ((KB.out.2.1 (.cells #[.string ⟨f.nm.toArray⟩, .slice f.B f.bs.length f.c, .int .i64 (f.sf : Nat)] 130)).below hb4 (KB.out.2.1 (.cells #[.string ⟨f.nm.toArray⟩, .slice f.B f.bs.length f.c, .int .i64 (f.sf : Nat)] 130)).lt)
        have K4 := Lib.hid ((KB.out.2.2 (.cells #[.string ⟨f.nm.toArray⟩, .slice f.B f.bs.length f.c, .int .i64 (f.sf : Nat)] 130)).below hb4 (KB.out.2.2 (.cells #[.string ⟨f.nm.toArray⟩, .slice f.B f.bs.length f.c, .int .i64 (f.sf : Nat)] 130)).lt)
        have K7 := Lib.hid ((Blk.new w1 130 #[.string ⟨f.nm.toArray⟩, .slice f.B f.bs.length f.c, .int .i64 (f.sf : Nat)]).below hb4 (Blk.new w1 130 _).lt)
        have HB2 := Lib.hid ((Y1.out (.cells #[.string ⟨f.nm.toArray⟩, .slice f.B f.bs.length f.c, .int .i64 (f.sf : Nat)] 130)).trans (hb4.mono (Y1.out (.cells #[.string ⟨f.nm.toArray⟩, .slice f.B f.bs.length f.c, .int .i64 (f.sf : Nat)] 130)).size))
        have hs2 : w1.heap.size < w3.heap.size := K7.out.lt
        clear hb3 hb4 SF KB Y1 L0 L1
        have k2 : Blk w3 (w.heap.size) 53 #[.slice (some ⟨b, o, none⟩) n c, .int .i64 most, .int .i64 (fuse : Nat), .bool false] := K2.out
        have k2c0 : World.cell? w3 ⟨w.heap.size, 0, none⟩ = some (.slice (some ⟨b, o, none⟩) n c) := (k2).cell 0
        have k2f0 : World.frozen? w3 ⟨w.heap.size, 0, none⟩ = false := (k2).frozen 0
        have k2c1 : World.cell? w3 ⟨w.heap.size, 1, none⟩ = some (.int .i64 most) := (k2).cell 1
        have k2f1 : World.frozen? w3 ⟨w.heap.size, 1, none⟩ = false := (k2).frozen 1
        have k2c2 : World.cell? w3 ⟨w.heap.size, 2, none⟩ = some (.int .i64 (fuse : Nat)) := (k2).cell 2
        have k2f2 : World.frozen? w3 ⟨w.heap.size, 2, none⟩ = false := (k2).frozen 2
        have k2c3 : World.cell? w3 ⟨w.heap.size, 3, none⟩ = some (.bool false) := (k2).cell 3
        have k2f3 : World.frozen? w3 ⟨w.heap.size, 3, none⟩ = false := (k2).frozen 3
        have k3 : Blk w3 (w.heap.size + 1) 62 #[.int .i64 2, .string a, .string z, .int .i64 num, .slice B m d] := K3.out
        have k3c0 : World.cell? w3 ⟨w.heap.size + 1, 0, none⟩ = some (.int .i64 2) := (k3).cell 0
        have k3c1 : World.cell? w3 ⟨w.heap.size + 1, 1, none⟩ = some (.string a) := (k3).cell 1
        have k3c2 : World.cell? w3 ⟨w.heap.size + 1, 2, none⟩ = some (.string z) := (k3).cell 2
        have k3c3 : World.cell? w3 ⟨w.heap.size + 1, 3, none⟩ = some (.int .i64 num) := (k3).cell 3
        have k3c4 : World.cell? w3 ⟨w.heap.size + 1, 4, none⟩ = some (.slice B m d) := (k3).cell 4
        have k4 : Blk w3 (w.heap.size + 2) 53 #[.slice none 0 0, .int .i64 0, .int .i64 0, .bool false] := K4.out
        have k4c0 : World.cell? w3 ⟨w.heap.size + 2, 0, none⟩ = some (.slice none 0 0) := (k4).cell 0
        have k4f0 : World.frozen? w3 ⟨w.heap.size + 2, 0, none⟩ = false := (k4).frozen 0
        have k4c1 : World.cell? w3 ⟨w.heap.size + 2, 1, none⟩ = some (.int .i64 0) := (k4).cell 1
        have k4f1 : World.frozen? w3 ⟨w.heap.size + 2, 1, none⟩ = false := (k4).frozen 1
        have k4c2 : World.cell? w3 ⟨w.heap.size + 2, 2, none⟩ = some (.int .i64 0) := (k4).cell 2
        have k4f2 : World.frozen? w3 ⟨w.heap.size + 2, 2, none⟩ = false := (k4).frozen 2
        have k4c3 : World.cell? w3 ⟨w.heap.size + 2, 3, none⟩ = some (.bool false) := (k4).cell 3
        have k4f3 : World.frozen? w3 ⟨w.heap.size + 2, 3, none⟩ = false := (k4).frozen 3
        have k7 := K7.out
        obtain ⟨k7c0, k7c1, k7c2, k7f0, k7f1, k7f2⟩ := blk3 k7
        clear k2 k3 k4 k7
        rcases (by omega : fuse = 0 ∨ fuse = 1 ∨ 2 ≤ fuse) with h0 | h1 | h2
        · have hf1 : ¬ (0 : Int) < (fuse : Int) := by omega
          have HRES := Lib.hid (show appendS a.data.toList bs ⟨V, free, fuse, false⟩ = (0, ⟨vset (f.nm, f.bs ++ bs, f.sf) V, free - bs.length, 0, false⟩) by
            unfold appendS onFile stepS
            rw [HLK.out]
            show (if free < bs.length then _ else _) = _
            rw [if_neg (by omega)]
            subst h0; rfl)
          subst h0
          go_wp2_with fail
          clear hf1
          have hE := HB2.out
          have hk4 := K4.out
          have hk3 := K3.out
          have hk2 : Blk (w3) w.heap.size 53 #[.slice (some ⟨b, o, none⟩) n c, .int .i64 most, .int .i64 ((0 : Nat) : Int), .bool false] := K2.out
          have hk7 := K7.out
          have hEN : (w3).heap.size = w3.heap.size := by simp [World.setCell]
          have hEA0 : Below (w3).heap.size (w3) ((w3).alloc (.cells #[] 5)) := (Below.refl _ _).alloc (Nat.le_refl _) _
          have row0 : ((w3).alloc (.cells #[] 5)).ownsRow w3.heap.size 5 1 (.slice (some ⟨w3.heap.size, 0, none⟩) 0 0) ([] : List UInt8).length (([] : List UInt8).map u8V) := by
            have hh := heap_alloc_new (w3) (.cells #[] 5)
            rw [hEN] at hh
            exact ⟨rfl, .inr ⟨w3.heap.size, 0, #[], rfl, Nat.le_refl _, hh, Nat.le_refl _, Nat.zero_le _, rfl, rfl⟩⟩
          have a3 := hk3.below hEA0 hk3.lt
          have a2 := hk2.below hEA0 hk2.lt
          have a4 := hk4.below hEA0 hk4.lt
          have a7 := hk7.below hEA0 hk7.lt
          have hsA : w3.heap.size ≤ ((w3).alloc (.cells #[] 5)).heap.size := by rw [← hEN]; exact hEA0.size
          have HEA := Lib.hid (hE.trans (hEA0.mono hE.size))
          generalize (w3).alloc (.cells #[] 5) = EA at row0 a2 a3 a4 a7 hsA HEA ⊢
          have A3 := Lib.hid a3
          have A2 := Lib.hid a2
          have A4 := Lib.hid a4
          have A7 := Lib.hid a7
          have R0 := Lib.hid row0
          clear hE hk4 hk3 hk2 hk7 hEN hEA0 row0 a2 a3 a4 a7 k2c0 k2c1 k2c2 k2c3 k2f0 k2f1 k2f2 k2f3 k3c0 k3c1 k3c2 k3c3 k3c4 k4c0 k4c1 k4c2 k4c3 k4f0 k4f1 k4f2 k4f3 k7c0 k7c1 k7c2 k7f0 k7f1 k7f2
          go_loopw [8, 9] (fun v i wr => ∃ j : Nat, j ≤ f.bs.length ∧ i = .int .i64 (j : Nat) ∧ wr.ownsRow w3.heap.size 5 1 v (f.bs.take j).length ((f.bs.take j).map u8V) ∧ Below w3.heap.size EA wr) (fun _ i _ => f.bs.length - (intOf i).toNat)
          case atStart => exact ⟨0, Nat.zero_le _, rfl, R0.out, Below.refl _ _⟩
          case round =>
            obtain ⟨j, hj, rfl, ho, hb⟩ := hrel
            have hbs := hb.size
            obtain ⟨L, hL⟩ : ∃ L, L = (f.bs.take j).length := ⟨_, rfl⟩
            have HL := Lib.hid hL
            have hLb : L ≤ 400000000 := by rw [hL, List.length_take]; omega
            have HBw := Lib.hid (HEA.out.trans (hb.mono (by omega)))
            have q7 : wr.cell? ⟨w1.heap.size, 1, none⟩ = some (.slice f.B f.bs.length f.c) := (hb.cell (p := ⟨w1.heap.size, 1, none⟩) hs2).trans (A7.out.cell 1)
            by_cases hlt : j < f.bs.length
            · have hlt' : (j : Int) < (f.bs.length : Int) := by omega
              have hj0 : (0 : Int) ≤ (j : Int) := by omega
              obtain ⟨gb, go, hfB, hgb, hcells⟩ := HFO.out.1.2 (by omega)
              obtain ⟨y, hy⟩ : ∃ y, f.bs[j]? = some y := ⟨f.bs[j]'hlt, List.getElem?_eq_getElem _⟩
              have y1 : wr.cell? ⟨gb, go + j, none⟩ = some (.int .u8 (y.toNat : Nat)) := by rw [HBw.out.cell (p := ⟨gb, go + j, none⟩) hgb]; exact hcells j y hy
              rw [hfB] at q7
              obtain ⟨A5, c5, W5, hrun5, ho5, hb5⟩ := pushB (z := y) 44 ho (by omega) hb (by omega) (.int .u8 (y.toNat : Nat)) rfl
              obtain ⟨A6, c6, ev, _, _⟩ := row_shape (row_base ho (Nat.zero_le _))
              subst ev
              rw [← hL] at hrun5 ho5 ⊢
              have H5 := Lib.hid hrun5
              have HO5 := Lib.hid ho5
              have HB5 := Lib.hid hb5
              have HT5 := Lib.hid (takeB hy)
              have hyl := UInt8.toNat_lt y
              clear hcells hy hrun5 ho5 hb5 ho hb hL hfB
              generalize f.bs.length = fl at *
              go_wp2_with (at_builtin; refine wpList_append_run rfl (.tmp 121) (.tmp 127) 44 rfl _ _ _ rfl rfl H5.out ?_)
              go_roundw
              case rel =>
                refine ⟨j + 1, by omega, by go_num, ?_, HB5.out⟩
                rw [HT5.out]
                have := HO5.out
                rw [List.length_append, ← HL.out] at this ⊢
                exact this
              case measure => simp [intOf]; omega
            · have hlt' : ¬ (j : Int) < (f.bs.length : Int) := by omega
              rw [List.take_of_length_le (by omega)] at ho hL
              obtain ⟨A6, c6, ev, _, _⟩ := row_shape (row_base ho (Nat.zero_le _))
              subst ev
              have HO := Lib.hid ho
              have HB := Lib.hid hb
              have hfl3 : (f.bs.length : Nat) = f.bs.length := rfl
              clear ho hb hlt HL hL R0
              go_wp2_with fail
              go_loopw [8, 10] (fun v i wr => ∃ j : Nat, j ≤ m ∧ i = .int .i64 (j : Nat) ∧ wr.ownsRow w3.heap.size 5 1 v (f.bs ++ bs.take j).length ((f.bs ++ bs.take j).map u8V) ∧ Below w3.heap.size EA wr) (fun _ i _ => m - (intOf i).toNat)
              case atStart => exact ⟨0, Nat.zero_le _, rfl, by rw [List.take_zero, List.append_nil]; exact HO.out, HB.out⟩
              case round =>
                clear HO HB HBw q7
                obtain ⟨i2, hi2, rfl, ho, hb⟩ := hrel
                have hbs := hb.size
                obtain ⟨M, hM⟩ : ∃ M, M = (f.bs ++ bs.take i2).length := ⟨_, rfl⟩
                have HM := Lib.hid hM
                have hMb : M ≤ 800000000 := by rw [hM, List.length_append, List.length_take]; omega
                have HBw := Lib.hid (HEA.out.trans (hb.mono (by omega)))
                have q3 : wr.cell? ⟨w.heap.size + 1, 4, none⟩ = some (.slice B m d) := (hb.cell (p := ⟨w.heap.size + 1, 4, none⟩) (show w.heap.size + 1 < w3.heap.size by omega)).trans (A3.out.cell 4)
                by_cases hlt : i2 < m
                · have hlt2 : (i2 : Int) < (m : Int) := by omega
                  have hi20 : (0 : Int) ≤ (i2 : Int) := by omega
                  obtain ⟨gb, go, rfl, hgb, hcells⟩ := HBb.out.2 (by omega)
                  obtain ⟨y, hy⟩ : ∃ y, bs[i2]? = some y := ⟨bs[i2]'(by omega), List.getElem?_eq_getElem _⟩
                  have y1 : wr.cell? ⟨gb, go + i2, none⟩ = some (.int .u8 (y.toNat : Nat)) := by rw [HBw.out.cell (p := ⟨gb, go + i2, none⟩) hgb]; exact hcells i2 y hy
                  obtain ⟨A5, c5, W5, hrun5, ho5, hb5⟩ := pushB (z := y) 44 ho (by omega) hb (by omega) (.int .u8 (y.toNat : Nat)) rfl
                  obtain ⟨A7', c7', ev, _, _⟩ := row_shape (row_base ho (Nat.zero_le _))
                  subst ev
                  rw [← hM] at hrun5 ho5 ⊢
                  have H5 := Lib.hid hrun5
                  have HO5 := Lib.hid ho5
                  have HB5 := Lib.hid hb5
                  have HT5 := Lib.hid (takeB hy)
                  have hyl := UInt8.toNat_lt y
                  clear hcells hy hrun5 ho5 hb5 ho hb hM
                  go_wp2_with (at_builtin; refine wpList_append_run rfl (.tmp 136) (.tmp 142) 44 rfl _ _ _ rfl rfl H5.out ?_)
                  go_roundw
                  case rel =>
                    refine ⟨i2 + 1, by omega, by go_num, ?_, HB5.out⟩
                    rw [HT5.out, ← List.append_assoc]
                    have := HO5.out
                    rw [List.length_append, ← HM.out] at this ⊢
                    exact this
                  case measure => simp [intOf]; omega
                · have hlt2 : ¬ (i2 : Int) < (m : Int) := by omega
                  rw [List.take_of_length_le (by omega)] at ho hM
                  obtain ⟨A8, c8, ev, hby, hcp, hbk⟩ := rowFO ho
                  subst ev
                  rw [← hM] at hby hcp ⊢
                  have hwA := HEA.out.size
                  have hw3w : w.heap.size ≤ w3.heap.size := by omega
                  have m4 : Blk wr (w.heap.size + 2) 53 #[.slice none 0 0, .int .i64 0, .int .i64 0, .bool false] := A4.out.below hb (by omega)
                  have m7 : Blk wr w1.heap.size 130 #[.string ⟨f.nm.toArray⟩, .slice f.B f.bs.length f.c, .int .i64 (f.sf : Nat)] := A7.out.below hb hs2
                  have m2 : Blk wr w.heap.size 53 #[.slice (some ⟨b, o, none⟩) n c, .int .i64 most, .int .i64 ((0 : Nat) : Int), .bool false] := (A2.out).below hb (by omega)
                  have hW6 := HBw.out.setCell (p := ⟨w1.heap.size, 1, none⟩) (show w.heap.size ≤ w1.heap.size by omega) (.slice A8 M c8)
                  have h64 := m4.far (p := ⟨w1.heap.size, 1, none⟩) (show w.heap.size + 2 ≠ w1.heap.size by omega) (.slice A8 M c8)
                  have r6 : RefAt (wr.setCell ⟨w1.heap.size, 1, none⟩ (.slice A8 M c8)) (fun b => Y b ∨ (w3.heap.size ≤ b ∧ b < wr.heap.size)) (some ⟨b, o, none⟩) n fs := (H.out.below hY hW6).mono fun b hb => .inl hb
                  have y6 : BytesAt (wr.setCell ⟨w1.heap.size, 1, none⟩ (.slice A8 M c8)) A8 M (f.bs ++ bs) := hby.keep (fun hm b' o' e hl => Below.heap_setCell wr _ _ b' (show b' ≠ w1.heap.size by have := hbk b' o' e; omega)) (by simp [World.setCell])
                  have f6 : FOk (wr.setCell ⟨w1.heap.size, 1, none⟩ (.slice A8 M c8)) (fun b => Y b ∨ (w3.heap.size ≤ b ∧ b < wr.heap.size)) ⟨f.nm, f.bs ++ bs, f.sf, A8, c8⟩ := by
                    refine ⟨by show BytesAt _ A8 (f.bs ++ bs).length _; rw [← hM]; exact y6, by show (f.bs ++ bs).length ≤ c8 ∧ _; rw [← hM]; exact hcp, by show f.sf ≤ (f.bs ++ bs).length; have := HFO.out.2.2.1; rw [List.length_append]; omega, HFO.out.2.2.2.1, fun b' o' hm e => .inr ⟨hbk b' o' e, ?_⟩⟩
                    obtain ⟨b2, o2, e2, hl2, _⟩ := hby.2 (by have : 0 < (f.bs ++ bs).length := hm; omega)
                    have e3 : A8 = some ⟨b', o', none⟩ := e
                    rw [e3] at e2
                    injection e2 with e2
                    injection e2 with e2 _ _
                    omega
                  obtain ⟨k2c0, k2c1, k2c2, k2c3, -, -, -⟩ := blk4 m2
                  obtain ⟨k7c0, k7c1, k7c2, k7f0, k7f1, k7f2⟩ := blk3 m7
                  have CW := Lib.hid (show Calls Try.prog 75 #[.agg #[.slice (some ⟨b, o, none⟩) n c, .int .i64 most, .int .i64 ((0 : Nat) : Int), .bool false], .agg #[.string ⟨f.nm.toArray⟩, .slice A8 M c8, .int .i64 (f.sf : Nat)]] (wr.setCell ⟨w1.heap.size, 1, none⟩ (.slice A8 M c8)) _ from by
                    have h9 := with_any (c := c) (x := ⟨f.nm, f.bs ++ bs, f.sf, A8, c8⟩) r6 (fun b' hb' => by
                      show b' < (wr.setCell _ _).heap.size
                      have hz : (wr.setCell ⟨w1.heap.size, 1, none⟩ (.slice A8 M c8)).heap.size = wr.heap.size := by simp [World.setCell]
                      rw [hz]
                      rcases hb' with h1 | h1
                      · have := hY b' h1; omega
                      · omega) (by omega) most ((0 : Nat) : Int) false f6
                    simp only [← hM] at h9
                    exact h9)
                  have H64 := Lib.hid h64
                  have HW6 := Lib.hid hW6
                  have hsz6 : (wr.setCell ⟨w1.heap.size, 1, none⟩ (.slice A8 M c8)).heap.size = wr.heap.size := by simp [World.setCell]
                  clear hM hW6 h64 r6 y6 f6 m2 m4 m7 hby hcp hbk ho hb
                  go_wp2_with fail
                  refine CW.out.mono ?_
                  rintro e w7 ⟨A9, n9, c9, fs9, rfl, hr9, hv9, hb9⟩
                  obtain ⟨k4c0, k4c1, k4c2, k4c3, k4f1, k4f2, k4f3⟩ := blk4 (H64.out.below hb9 H64.out.lt)
                  have k4f0 := (H64.out.below hb9 H64.out.lt).frozen 0
                  have h9s := hb9.size
                  have HB9 := Lib.hid (HW6.out.trans (hb9.mono HW6.out.size))
                  have HR9 := Lib.hid (do_span hr9 (Nat.le_of_eq hsz6.symm) h9s (by omega))
                  have HV9 := Lib.hid hv9
                  clear hr9 hv9 hb9 k2c0 k2c1 k2c2 k2c3 k7c0 k7c1 k7c2 k7f0 k7f1 k7f2 q3 CW
                  go_wp2
                  refine bodyPost_ret (v := .tuple #[.agg #[.slice A9 n9 c9, .int .i64 most, .int .i64 ((0 : Nat) : Int), .bool false], .int .i64 0]) (by simp [results, Try.results26, go_sem, *]) rfl ?_
                  rw [HRES.out]
                  exact do_end2 (N := w3.heap.size) HB9.out (by omega) (by omega) hY HR9.out (by rw [HV9.out]; show withL (f.nm, f.bs ++ bs, f.sf) (fs.map FR.t) = vset (f.nm, f.bs ++ bs, f.sf) V; rw [HV.out, withL_eq HR.out]; exact (vset_with HR.out (by show vlook f.nm V = _; rw [HFN.out]; exact HLK.out)).symm) rfl rfl (fun _ => rfl) _ _ _ _
        · have hf1 : 0 < fuse := by omega
          have hf2 : (fuse : Int) - 1 = 0 := by omega
          have HRES := Lib.hid (show appendS a.data.toList bs ⟨V, free, fuse, false⟩ = (70, ⟨V, free, fuse, true⟩) by
            unfold appendS onFile stepS
            rw [HLK.out]
            show (if free < bs.length then _ else _) = _
            rw [if_neg (by omega)]
            subst h1; rfl)
          clear h1
          go_wp2
          refine bodyPost_ret (v := .tuple #[.agg #[.slice (some ⟨b, o, none⟩) n c, .int .i64 most, .int .i64 0, .bool true], .int .i64 70]) (by simp [results, Try.results26, go_sem, *]) rfl ?_
          rw [HRES.out]
          exact do_same H.out hY (below_set4 ((HB2.out.setCell (p := ⟨w.heap.size, 2, none⟩) (Nat.le_refl _) _).setCell (p := ⟨w.heap.size, 3, none⟩) (Nat.le_refl _) _) (by omega) _ _ _ _) HV.out rfl rfl (fun h => by cases h)
        · have hf1 : 0 < fuse := by omega
          have hf2 : ((fuse : Int) - 1 == 0) = false := by rw [beq_eq_false_iff_ne]; omega
          have HRES := Lib.hid (show appendS a.data.toList bs ⟨V, free, fuse, false⟩ = (0, ⟨vset (f.nm, f.bs ++ bs, f.sf) V, free - bs.length, fuse - 1, false⟩) by
            unfold appendS onFile stepS
            rw [HLK.out]
            show (if free < bs.length then _ else _) = _
            rw [if_neg (by omega)]
            show (if fuse = 1 then _ else _) = _
            rw [if_neg (by omega)]; try rfl)
          clear h2
          go_wp2_with fail
          have HF1 := Lib.hid hf1
          clear hf1 hf2
          have hE := (HB2.out.setCell (p := ⟨w.heap.size, 2, none⟩) (Nat.le_refl _) (.int .i64 ((fuse : Int) - 1)))
          have hk4 := (K4.out.far (p := ⟨w.heap.size, 2, none⟩) (show w.heap.size + 2 ≠ w.heap.size by omega) (.int .i64 ((fuse : Int) - 1)))
          have hk3 := (K3.out.far (p := ⟨w.heap.size, 2, none⟩) (show w.heap.size + 1 ≠ w.heap.size by omega) (.int .i64 ((fuse : Int) - 1)))
          have hk2 : Blk ((w3.setCell ⟨w.heap.size, 2, none⟩ (.int .i64 ((fuse : Int) - 1)))) w.heap.size 53 #[.slice (some ⟨b, o, none⟩) n c, .int .i64 most, .int .i64 ((fuse : Int) - 1), .bool false] := (K2.out.set_ 2 (.int .i64 ((fuse : Int) - 1)))
          have hk7 := (K7.out.far (p := ⟨w.heap.size, 2, none⟩) (show w1.heap.size ≠ w.heap.size by omega) (.int .i64 ((fuse : Int) - 1)))
          have hEN : ((w3.setCell ⟨w.heap.size, 2, none⟩ (.int .i64 ((fuse : Int) - 1)))).heap.size = w3.heap.size := by simp [World.setCell]
          have hEA0 : Below ((w3.setCell ⟨w.heap.size, 2, none⟩ (.int .i64 ((fuse : Int) - 1)))).heap.size ((w3.setCell ⟨w.heap.size, 2, none⟩ (.int .i64 ((fuse : Int) - 1)))) (((w3.setCell ⟨w.heap.size, 2, none⟩ (.int .i64 ((fuse : Int) - 1)))).alloc (.cells #[] 5)) := (Below.refl _ _).alloc (Nat.le_refl _) _
          have row0 : (((w3.setCell ⟨w.heap.size, 2, none⟩ (.int .i64 ((fuse : Int) - 1)))).alloc (.cells #[] 5)).ownsRow w3.heap.size 5 1 (.slice (some ⟨w3.heap.size, 0, none⟩) 0 0) ([] : List UInt8).length (([] : List UInt8).map u8V) := by
            have hh := heap_alloc_new ((w3.setCell ⟨w.heap.size, 2, none⟩ (.int .i64 ((fuse : Int) - 1)))) (.cells #[] 5)
            rw [hEN] at hh
            exact ⟨rfl, .inr ⟨w3.heap.size, 0, #[], rfl, Nat.le_refl _, hh, Nat.le_refl _, Nat.zero_le _, rfl, rfl⟩⟩
          have a3 := hk3.below hEA0 hk3.lt
          have a2 := hk2.below hEA0 hk2.lt
          have a4 := hk4.below hEA0 hk4.lt
          have a7 := hk7.below hEA0 hk7.lt
          have hsA : w3.heap.size ≤ (((w3.setCell ⟨w.heap.size, 2, none⟩ (.int .i64 ((fuse : Int) - 1)))).alloc (.cells #[] 5)).heap.size := by rw [← hEN]; exact hEA0.size
          have HEA := Lib.hid (hE.trans (hEA0.mono hE.size))
          generalize ((w3.setCell ⟨w.heap.size, 2, none⟩ (.int .i64 ((fuse : Int) - 1)))).alloc (.cells #[] 5) = EA at row0 a2 a3 a4 a7 hsA HEA ⊢
          have A3 := Lib.hid a3
          have A2 := Lib.hid a2
          have A4 := Lib.hid a4
          have A7 := Lib.hid a7
          have R0 := Lib.hid row0
          clear hE hk4 hk3 hk2 hk7 hEN hEA0 row0 a2 a3 a4 a7 k2c0 k2c1 k2c2 k2c3 k2f0 k2f1 k2f2 k2f3 k3c0 k3c1 k3c2 k3c3 k3c4 k4c0 k4c1 k4c2 k4c3 k4f0 k4f1 k4f2 k4f3 k7c0 k7c1 k7c2 k7f0 k7f1 k7f2
          go_loopw [8, 9] (fun v i wr => ∃ j : Nat, j ≤ f.bs.length ∧ i = .int .i64 (j : Nat) ∧ wr.ownsRow w3.heap.size 5 1 v (f.bs.take j).length ((f.bs.take j).map u8V) ∧ Below w3.heap.size EA wr) (fun _ i _ => f.bs.length - (intOf i).toNat)
          case atStart => exact ⟨0, Nat.zero_le _, rfl, R0.out, Below.refl _ _⟩
          case round =>
            obtain ⟨j, hj, rfl, ho, hb⟩ := hrel
            have hbs := hb.size
            obtain ⟨L, hL⟩ : ∃ L, L = (f.bs.take j).length := ⟨_, rfl⟩
            have HL := Lib.hid hL
            have hLb : L ≤ 400000000 := by rw [hL, List.length_take]; omega
            have HBw := Lib.hid (HEA.out.trans (hb.mono (by omega)))
            have q7 : wr.cell? ⟨w1.heap.size, 1, none⟩ = some (.slice f.B f.bs.length f.c) := (hb.cell (p := ⟨w1.heap.size, 1, none⟩) hs2).trans (A7.out.cell 1)
            by_cases hlt : j < f.bs.length
            · have hlt' : (j : Int) < (f.bs.length : Int) := by omega
              have hj0 : (0 : Int) ≤ (j : Int) := by omega
              obtain ⟨gb, go, hfB, hgb, hcells⟩ := HFO.out.1.2 (by omega)
              obtain ⟨y, hy⟩ : ∃ y, f.bs[j]? = some y := ⟨f.bs[j]'hlt, List.getElem?_eq_getElem _⟩
              have y1 : wr.cell? ⟨gb, go + j, none⟩ = some (.int .u8 (y.toNat : Nat)) := by rw [HBw.out.cell (p := ⟨gb, go + j, none⟩) hgb]; exact hcells j y hy
              rw [hfB] at q7
              obtain ⟨A5, c5, W5, hrun5, ho5, hb5⟩ := pushB (z := y) 44 ho (by omega) hb (by omega) (.int .u8 (y.toNat : Nat)) rfl
              obtain ⟨A6, c6, ev, _, _⟩ := row_shape (row_base ho (Nat.zero_le _))
              subst ev
              rw [← hL] at hrun5 ho5 ⊢
              have H5 := Lib.hid hrun5
              have HO5 := Lib.hid ho5
              have HB5 := Lib.hid hb5
              have HT5 := Lib.hid (takeB hy)
              have hyl := UInt8.toNat_lt y
              clear hcells hy hrun5 ho5 hb5 ho hb hL hfB
              generalize f.bs.length = fl at *
              go_wp2_with (at_builtin; refine wpList_append_run rfl (.tmp 121) (.tmp 127) 44 rfl _ _ _ rfl rfl H5.out ?_)
              go_roundw
              case rel =>
                refine ⟨j + 1, by omega, by go_num, ?_, HB5.out⟩
                rw [HT5.out]
                have := HO5.out
                rw [List.length_append, ← HL.out] at this ⊢
                exact this
              case measure => simp [intOf]; omega
            · have hlt' : ¬ (j : Int) < (f.bs.length : Int) := by omega
              rw [List.take_of_length_le (by omega)] at ho hL
              obtain ⟨A6, c6, ev, _, _⟩ := row_shape (row_base ho (Nat.zero_le _))
              subst ev
              have HO := Lib.hid ho
              have HB := Lib.hid hb
              have hfl3 : (f.bs.length : Nat) = f.bs.length := rfl
              clear ho hb hlt HL hL R0
              go_wp2_with fail
              go_loopw [8, 10] (fun v i wr => ∃ j : Nat, j ≤ m ∧ i = .int .i64 (j : Nat) ∧ wr.ownsRow w3.heap.size 5 1 v (f.bs ++ bs.take j).length ((f.bs ++ bs.take j).map u8V) ∧ Below w3.heap.size EA wr) (fun _ i _ => m - (intOf i).toNat)
              case atStart => exact ⟨0, Nat.zero_le _, rfl, by rw [List.take_zero, List.append_nil]; exact HO.out, HB.out⟩
              case round =>
                clear HO HB HBw q7
                obtain ⟨i2, hi2, rfl, ho, hb⟩ := hrel
                have hbs := hb.size
                obtain ⟨M, hM⟩ : ∃ M, M = (f.bs ++ bs.take i2).length := ⟨_, rfl⟩
                have HM := Lib.hid hM
                have hMb : M ≤ 800000000 := by rw [hM, List.length_append, List.length_take]; omega
                have HBw := Lib.hid (HEA.out.trans (hb.mono (by omega)))
                have q3 : wr.cell? ⟨w.heap.size + 1, 4, none⟩ = some (.slice B m d) := (hb.cell (p := ⟨w.heap.size + 1, 4, none⟩) (show w.heap.size + 1 < w3.heap.size by omega)).trans (A3.out.cell 4)
                by_cases hlt : i2 < m
                · have hlt2 : (i2 : Int) < (m : Int) := by omega
                  have hi20 : (0 : Int) ≤ (i2 : Int) := by omega
                  obtain ⟨gb, go, rfl, hgb, hcells⟩ := HBb.out.2 (by omega)
                  obtain ⟨y, hy⟩ : ∃ y, bs[i2]? = some y := ⟨bs[i2]'(by omega), List.getElem?_eq_getElem _⟩
                  have y1 : wr.cell? ⟨gb, go + i2, none⟩ = some (.int .u8 (y.toNat : Nat)) := by rw [HBw.out.cell (p := ⟨gb, go + i2, none⟩) hgb]; exact hcells i2 y hy
                  obtain ⟨A5, c5, W5, hrun5, ho5, hb5⟩ := pushB (z := y) 44 ho (by omega) hb (by omega) (.int .u8 (y.toNat : Nat)) rfl
                  obtain ⟨A7', c7', ev, _, _⟩ := row_shape (row_base ho (Nat.zero_le _))
                  subst ev
                  rw [← hM] at hrun5 ho5 ⊢
                  have H5 := Lib.hid hrun5
                  have HO5 := Lib.hid ho5
                  have HB5 := Lib.hid hb5
                  have HT5 := Lib.hid (takeB hy)
                  have hyl := UInt8.toNat_lt y
                  clear hcells hy hrun5 ho5 hb5 ho hb hM
                  go_wp2_with (at_builtin; refine wpList_append_run rfl (.tmp 136) (.tmp 142) 44 rfl _ _ _ rfl rfl H5.out ?_)
                  go_roundw
                  case rel =>
                    refine ⟨i2 + 1, by omega, by go_num, ?_, HB5.out⟩
                    rw [HT5.out, ← List.append_assoc]
                    have := HO5.out
                    rw [List.length_append, ← HM.out] at this ⊢
                    exact this
                  case measure => simp [intOf]; omega
                · have hlt2 : ¬ (i2 : Int) < (m : Int) := by omega
                  rw [List.take_of_length_le (by omega)] at ho hM
                  obtain ⟨A8, c8, ev, hby, hcp, hbk⟩ := rowFO ho
                  subst ev
                  rw [← hM] at hby hcp ⊢
                  have hwA := HEA.out.size
                  have hw3w : w.heap.size ≤ w3.heap.size := by omega
                  have m4 : Blk wr (w.heap.size + 2) 53 #[.slice none 0 0, .int .i64 0, .int .i64 0, .bool false] := A4.out.below hb (by omega)
                  have m7 : Blk wr w1.heap.size 130 #[.string ⟨f.nm.toArray⟩, .slice f.B f.bs.length f.c, .int .i64 (f.sf : Nat)] := A7.out.below hb hs2
                  have m2 : Blk wr w.heap.size 53 #[.slice (some ⟨b, o, none⟩) n c, .int .i64 most, .int .i64 ((fuse : Int) - 1), .bool false] := (A2.out).below hb (by omega)
                  have hW6 := HBw.out.setCell (p := ⟨w1.heap.size, 1, none⟩) (show w.heap.size ≤ w1.heap.size by omega) (.slice A8 M c8)
                  have h64 := m4.far (p := ⟨w1.heap.size, 1, none⟩) (show w.heap.size + 2 ≠ w1.heap.size by omega) (.slice A8 M c8)
                  have r6 : RefAt (wr.setCell ⟨w1.heap.size, 1, none⟩ (.slice A8 M c8)) (fun b => Y b ∨ (w3.heap.size ≤ b ∧ b < wr.heap.size)) (some ⟨b, o, none⟩) n fs := (H.out.below hY hW6).mono fun b hb => .inl hb
                  have y6 : BytesAt (wr.setCell ⟨w1.heap.size, 1, none⟩ (.slice A8 M c8)) A8 M (f.bs ++ bs) := hby.keep (fun hm b' o' e hl => Below.heap_setCell wr _ _ b' (show b' ≠ w1.heap.size by have := hbk b' o' e; omega)) (by simp [World.setCell])
                  have f6 : FOk (wr.setCell ⟨w1.heap.size, 1, none⟩ (.slice A8 M c8)) (fun b => Y b ∨ (w3.heap.size ≤ b ∧ b < wr.heap.size)) ⟨f.nm, f.bs ++ bs, f.sf, A8, c8⟩ := by
                    refine ⟨by show BytesAt _ A8 (f.bs ++ bs).length _; rw [← hM]; exact y6, by show (f.bs ++ bs).length ≤ c8 ∧ _; rw [← hM]; exact hcp, by show f.sf ≤ (f.bs ++ bs).length; have := HFO.out.2.2.1; rw [List.length_append]; omega, HFO.out.2.2.2.1, fun b' o' hm e => .inr ⟨hbk b' o' e, ?_⟩⟩
                    obtain ⟨b2, o2, e2, hl2, _⟩ := hby.2 (by have : 0 < (f.bs ++ bs).length := hm; omega)
                    have e3 : A8 = some ⟨b', o', none⟩ := e
                    rw [e3] at e2
                    injection e2 with e2
                    injection e2 with e2 _ _
                    omega
                  obtain ⟨k2c0, k2c1, k2c2, k2c3, -, -, -⟩ := blk4 m2
                  obtain ⟨k7c0, k7c1, k7c2, k7f0, k7f1, k7f2⟩ := blk3 m7
                  have CW := Lib.hid (show Calls Try.prog 75 #[.agg #[.slice (some ⟨b, o, none⟩) n c, .int .i64 most, .int .i64 ((fuse : Int) - 1), .bool false], .agg #[.string ⟨f.nm.toArray⟩, .slice A8 M c8, .int .i64 (f.sf : Nat)]] (wr.setCell ⟨w1.heap.size, 1, none⟩ (.slice A8 M c8)) _ from by
                    have h9 := with_any (c := c) (x := ⟨f.nm, f.bs ++ bs, f.sf, A8, c8⟩) r6 (fun b' hb' => by
                      show b' < (wr.setCell _ _).heap.size
                      have hz : (wr.setCell ⟨w1.heap.size, 1, none⟩ (.slice A8 M c8)).heap.size = wr.heap.size := by simp [World.setCell]
                      rw [hz]
                      rcases hb' with h1 | h1
                      · have := hY b' h1; omega
                      · omega) (by omega) most ((fuse : Int) - 1) false f6
                    simp only [← hM] at h9
                    exact h9)
                  have H64 := Lib.hid h64
                  have HW6 := Lib.hid hW6
                  have hsz6 : (wr.setCell ⟨w1.heap.size, 1, none⟩ (.slice A8 M c8)).heap.size = wr.heap.size := by simp [World.setCell]
                  clear hM hW6 h64 r6 y6 f6 m2 m4 m7 hby hcp hbk ho hb
                  go_wp2_with fail
                  refine CW.out.mono ?_
                  rintro e w7 ⟨A9, n9, c9, fs9, rfl, hr9, hv9, hb9⟩
                  obtain ⟨k4c0, k4c1, k4c2, k4c3, k4f1, k4f2, k4f3⟩ := blk4 (H64.out.below hb9 H64.out.lt)
                  have k4f0 := (H64.out.below hb9 H64.out.lt).frozen 0
                  have h9s := hb9.size
                  have HB9 := Lib.hid (HW6.out.trans (hb9.mono HW6.out.size))
                  have HR9 := Lib.hid (do_span hr9 (Nat.le_of_eq hsz6.symm) h9s (by omega))
                  have HV9 := Lib.hid hv9
                  clear hr9 hv9 hb9 k2c0 k2c1 k2c2 k2c3 k7c0 k7c1 k7c2 k7f0 k7f1 k7f2 q3 CW
                  go_wp2
                  refine bodyPost_ret (v := .tuple #[.agg #[.slice A9 n9 c9, .int .i64 most, .int .i64 ((fuse : Int) - 1), .bool false], .int .i64 0]) (by simp [results, Try.results26, go_sem, *]) rfl ?_
                  rw [HRES.out]
                  exact do_end2 (N := w3.heap.size) HB9.out (by omega) (by omega) hY HR9.out (by rw [HV9.out]; show withL (f.nm, f.bs ++ bs, f.sf) (fs.map FR.t) = vset (f.nm, f.bs ++ bs, f.sf) V; rw [HV.out, withL_eq HR.out]; exact (vset_with HR.out (by show vlook f.nm V = _; rw [HFN.out]; exact HLK.out)).symm) rfl rfl (fun _ => by have := HF1.out; show (fuse : Int) - 1 = ((fuse - 1 : Nat) : Int); omega) _ _ _ _
end Go.Proofs.Yteokiaeojgjpdaa
