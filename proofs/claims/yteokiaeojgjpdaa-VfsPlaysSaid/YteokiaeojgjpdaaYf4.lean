/- The document's own Do, kind 4 (Rename). -/
import Derived.Test.YteokiaeojgjpdaaYe
namespace Go.Proofs.Yteokiaeojgjpdaa
open Go.RowKit Go.Maps

set_option maxHeartbeats 8000000 in
set_option maxRecDepth 100000 in
theorem do4_any {w : World} {Y : Nat → Prop} {A : Option Addr} {n c : Nat} {fs : List FR} (h : RefAt w Y A n fs) (hY : Low w.heap.size Y) (hn : n ≤ 100000) (V : FV) (free fuse : Nat) (down : Bool) (hV : fs.map FR.t = V) (hR : RiseV V) (most fu : Int) (hfu : down = false → fu = (fuse : Nat)) (hsf : fuse ≤ 9223372036854775807) (a z : ByteArray) (ha : a.size ≤ maxLen) (hz : z.size ≤ maxLen) (num : Int) (B : Option Addr) (m d : Nat) :
    Calls Try.prog 26 #[.agg #[.slice A n c, .int .i64 most, .int .i64 fu, .bool down], .agg #[.int .i64 4, .string a, .string z, .int .i64 num, .slice B m d]] w (DoPost w Y most (renameS a.data.toList z.data.toList ⟨V, free, fuse, down⟩)) := by
  have hfl := h.1
  obtain ⟨W0, hW0⟩ : ∃ W0, W0 = (((w.alloc (.cells #[.slice A n c, .int .i64 most, .int .i64 fu, .bool down] 53)).alloc (.cells #[.int .i64 4, .string a, .string z, .int .i64 num, .slice B m d] 62)).alloc (.cells #[.slice none 0 0, .int .i64 0, .int .i64 0, .bool false] 53)) := ⟨_, rfl⟩
  have hs0 : W0.heap.size = w.heap.size + 3 := by rw [hW0]; simp
  have b0 : Below w.heap.size w W0 := by
    rw [hW0]
    have h1 := (Below.refl w.heap.size w).alloc (Nat.le_refl _) (.cells #[.slice A n c, .int .i64 most, .int .i64 fu, .bool down] 53)
    have h2 := h1.alloc h1.size (.cells #[.int .i64 4, .string a, .string z, .int .i64 num, .slice B m d] 62)
    exact h2.alloc h2.size _
  have k2 : Blk W0 w.heap.size 53 #[.slice A n c, .int .i64 most, .int .i64 fu, .bool down] := by rw [hW0]; exact ((Blk.new w 53 _).alloc _).alloc _
  have k3 : Blk W0 (w.heap.size + 1) 62 #[.int .i64 4, .string a, .string z, .int .i64 num, .slice B m d] := by
    rw [hW0]
    have := (Blk.new (w.alloc (.cells #[.slice A n c, .int .i64 most, .int .i64 fu, .bool down] 53)) 62 #[.int .i64 4, .string a, .string z, .int .i64 num, .slice B m d]).alloc (.cells #[.slice none 0 0, .int .i64 0, .int .i64 0, .bool false] 53)
    simpa using this
  have k4 : Blk W0 (w.heap.size + 2) 53 #[.slice none 0 0, .int .i64 0, .int .i64 0, .bool false] := by
    rw [hW0]
    have := Blk.new ((w.alloc (.cells #[.slice A n c, .int .i64 most, .int .i64 fu, .bool down] 53)).alloc (.cells #[.int .i64 4, .string a, .string z, .int .i64 num, .slice B m d] 62)) 53 #[.slice none 0 0, .int .i64 0, .int .i64 0, .bool false]
    simpa using this
  have H := Lib.hid h
  have B0 := Lib.hid b0
  have K2 := Lib.hid k2
  have K3 := Lib.hid k3
  have K4 := Lib.hid k4
  have C := Lib.hid (find_any (c := c) (h.below hY b0) (fun b hb => by have := hY b hb; omega) (by unfold maxLen; omega) (.int .i64 most) (.int .i64 fu) (.bool down) a)
  have HV := Lib.hid hV
  have HR := Lib.hid hR
  clear h b0 k2 k3 k4 hV hR
  cases down with
  | true =>
    have HRES := Lib.hid (show renameS a.data.toList z.data.toList ⟨V, free, fuse, true⟩ = (70, ⟨V, free, fuse, true⟩) from rfl)
    go_enter Try.func26, Try.ntmps26
    go_wp2_with fail
    refine bodyPost_ret (v := .tuple #[.agg #[.slice A n c, .int .i64 most, .int .i64 fu, .bool true], .int .i64 70]) (by simp [results, Try.results26, go_sem]) rfl ?_
    rw [HRES.out]
    exact do_same H.out hY (below3 w _ _ _) HV.out rfl rfl (fun h => by cases h)
  | false =>
    obtain rfl := hfu rfl
    go_enter Try.func26, Try.ntmps26
    go_wp2_with fail
    rw [← hW0]
    refine C.out.mono ?_
    rintro e w1 ⟨b1, hc⟩
    have hs1 := b1.size
    have HB1 := Lib.hid (B0.out.trans (b1.mono (by omega)))
    clear hW0 C
    have CN := Lib.hid (named_any z w1 hz)
    have hzl : z.data.toList.length = z.size := rfl
    by_cases hnm : 0 < z.size ∧ z.size ≤ 40
    · rw [decide_eq_true hnm] at CN
      rcases hc with ⟨rfl, hno⟩ | ⟨i, f, hi, hfn, rfl⟩
      · have HRES := Lib.hid (show renameS a.data.toList z.data.toList ⟨V, free, fuse, false⟩ = (4, ⟨V, free, fuse, false⟩) by
          unfold renameS onFile
          rw [hzl, mayC_yes hnm, if_neg (by decide), vlook_no (V := V) (fun t ht => by
            rw [← HV.out] at ht
            obtain ⟨g, hg, rfl⟩ := List.mem_map.1 ht
            exact hno g hg)]
          rfl)
        have k2 : Blk w1 (w.heap.size) 53 #[.slice A n c, .int .i64 most, .int .i64 (fuse : Nat), .bool false] := K2.out.below b1 (by omega)
        have k2c0 : World.cell? w1 ⟨w.heap.size, 0, none⟩ = some (.slice A n c) := (k2).cell 0
        have k2f0 : World.frozen? w1 ⟨w.heap.size, 0, none⟩ = false := (k2).frozen 0
        have k2c1 : World.cell? w1 ⟨w.heap.size, 1, none⟩ = some (.int .i64 most) := (k2).cell 1
        have k2f1 : World.frozen? w1 ⟨w.heap.size, 1, none⟩ = false := (k2).frozen 1
        have k2c2 : World.cell? w1 ⟨w.heap.size, 2, none⟩ = some (.int .i64 (fuse : Nat)) := (k2).cell 2
        have k2f2 : World.frozen? w1 ⟨w.heap.size, 2, none⟩ = false := (k2).frozen 2
        have k2c3 : World.cell? w1 ⟨w.heap.size, 3, none⟩ = some (.bool false) := (k2).cell 3
        have k2f3 : World.frozen? w1 ⟨w.heap.size, 3, none⟩ = false := (k2).frozen 3
        have k3 : Blk w1 (w.heap.size + 1) 62 #[.int .i64 4, .string a, .string z, .int .i64 num, .slice B m d] := K3.out.below b1 (by omega)
        have k3c0 : World.cell? w1 ⟨w.heap.size + 1, 0, none⟩ = some (.int .i64 4) := (k3).cell 0
        have k3c1 : World.cell? w1 ⟨w.heap.size + 1, 1, none⟩ = some (.string a) := (k3).cell 1
        have k3c2 : World.cell? w1 ⟨w.heap.size + 1, 2, none⟩ = some (.string z) := (k3).cell 2
        have k3c3 : World.cell? w1 ⟨w.heap.size + 1, 3, none⟩ = some (.int .i64 num) := (k3).cell 3
        have k3c4 : World.cell? w1 ⟨w.heap.size + 1, 4, none⟩ = some (.slice B m d) := (k3).cell 4
        have k4 : Blk w1 (w.heap.size + 2) 53 #[.slice none 0 0, .int .i64 0, .int .i64 0, .bool false] := K4.out.below b1 (by omega)
        have k4c0 : World.cell? w1 ⟨w.heap.size + 2, 0, none⟩ = some (.slice none 0 0) := (k4).cell 0
        have k4f0 : World.frozen? w1 ⟨w.heap.size + 2, 0, none⟩ = false := (k4).frozen 0
        have k4c1 : World.cell? w1 ⟨w.heap.size + 2, 1, none⟩ = some (.int .i64 0) := (k4).cell 1
        have k4f1 : World.frozen? w1 ⟨w.heap.size + 2, 1, none⟩ = false := (k4).frozen 1
        have k4c2 : World.cell? w1 ⟨w.heap.size + 2, 2, none⟩ = some (.int .i64 0) := (k4).cell 2
        have k4f2 : World.frozen? w1 ⟨w.heap.size + 2, 2, none⟩ = false := (k4).frozen 2
        have k4c3 : World.cell? w1 ⟨w.heap.size + 2, 3, none⟩ = some (.bool false) := (k4).cell 3
        have k4f3 : World.frozen? w1 ⟨w.heap.size + 2, 3, none⟩ = false := (k4).frozen 3
        clear hno b1 k2 k3 k4 hnm
        go_wp2_with fail
        refine CN.out.mono ?_
        rintro e w2 ⟨rfl, hw2⟩
        rw [hw2]
        clear hw2 w2
        go_wp2
        refine bodyPost_ret (v := .tuple #[.agg #[.slice A n c, .int .i64 most, .int .i64 (fuse : Nat), .bool false], .int .i64 4]) (by simp [results, Try.results26, go_sem, *]) rfl ?_
        rw [HRES.out]
        exact do_same H.out hY (below_set4 HB1.out (by omega) _ _ _ _) HV.out rfl rfl (fun _ => rfl)
      · have hnm2 := Lib.hid (show 0 < z.data.toList.length ∧ z.data.toList.length ≤ 40 from hnm)
        have hi0 : (0 : Int) ≤ (i : Int) := by omega
        have hil := (List.getElem?_eq_some_iff.1 hi).1
        have hin : (i : Int) < (n : Int) := by omega
        obtain ⟨b, o, rfl, hYb, hbl, hcl⟩ := H.out.2.2 (by omega)
        have Y1 := Lib.hid (fun (ob : Obj) => HB1.out.alloc HB1.out.size ob)
        have y0 : ∀ ob, (w1.alloc ob).cell? ⟨b, o + i * 3, none⟩ = some (.string ⟨f.nm.toArray⟩) := fun ob => by rw [(Y1.out ob).cell (p := ⟨b, o + i * 3, none⟩) hbl]; exact (hcl i f hi).1
        have y1 : ∀ ob, (w1.alloc ob).cell? ⟨b, o + i * 3 + 1, none⟩ = some (.slice f.B f.bs.length f.c) := fun ob => by rw [(Y1.out ob).cell (p := ⟨b, o + i * 3 + 1, none⟩) hbl]; exact (hcl i f hi).2.1
        have y2 : ∀ ob, (w1.alloc ob).cell? ⟨b, o + i * 3 + 2, none⟩ = some (.int .i64 (f.sf : Nat)) := fun ob => by rw [(Y1.out ob).cell (p := ⟨b, o + i * 3 + 2, none⟩) hbl]; exact (hcl i f hi).2.2
        have hft : f.t ∈ V := by rw [← HV.out]; exact List.mem_map.2 ⟨f, List.mem_of_getElem? hi, rfl⟩
        have HLK := Lib.hid (vlook_of HR.out hft hfn)
        have HFN := Lib.hid hfn
        have HFO := Lib.hid (H.out.2.1 f (List.mem_of_getElem? hi))
        have k21 : Blk w1 (w.heap.size) 53 #[.slice (some ⟨b, o, none⟩) n c, .int .i64 most, .int .i64 (fuse : Nat), .bool false] := K2.out.below b1 (by omega)
        have k2c01 : World.cell? w1 ⟨w.heap.size, 0, none⟩ = some (.slice (some ⟨b, o, none⟩) n c) := (k21).cell 0
        have k2f01 : World.frozen? w1 ⟨w.heap.size, 0, none⟩ = false := (k21).frozen 0
        have k2c11 : World.cell? w1 ⟨w.heap.size, 1, none⟩ = some (.int .i64 most) := (k21).cell 1
        have k2f11 : World.frozen? w1 ⟨w.heap.size, 1, none⟩ = false := (k21).frozen 1
        have k2c21 : World.cell? w1 ⟨w.heap.size, 2, none⟩ = some (.int .i64 (fuse : Nat)) := (k21).cell 2
        have k2f21 : World.frozen? w1 ⟨w.heap.size, 2, none⟩ = false := (k21).frozen 2
        have k2c31 : World.cell? w1 ⟨w.heap.size, 3, none⟩ = some (.bool false) := (k21).cell 3
        have k2f31 : World.frozen? w1 ⟨w.heap.size, 3, none⟩ = false := (k21).frozen 3
        have k31 : Blk w1 (w.heap.size + 1) 62 #[.int .i64 4, .string a, .string z, .int .i64 num, .slice B m d] := K3.out.below b1 (by omega)
        have k3c01 : World.cell? w1 ⟨w.heap.size + 1, 0, none⟩ = some (.int .i64 4) := (k31).cell 0
        have k3c11 : World.cell? w1 ⟨w.heap.size + 1, 1, none⟩ = some (.string a) := (k31).cell 1
        have k3c21 : World.cell? w1 ⟨w.heap.size + 1, 2, none⟩ = some (.string z) := (k31).cell 2
        have k3c31 : World.cell? w1 ⟨w.heap.size + 1, 3, none⟩ = some (.int .i64 num) := (k31).cell 3
        have k3c41 : World.cell? w1 ⟨w.heap.size + 1, 4, none⟩ = some (.slice B m d) := (k31).cell 4
        have k41 : Blk w1 (w.heap.size + 2) 53 #[.slice none 0 0, .int .i64 0, .int .i64 0, .bool false] := K4.out.below b1 (by omega)
        have k4c01 : World.cell? w1 ⟨w.heap.size + 2, 0, none⟩ = some (.slice none 0 0) := (k41).cell 0
        have k4f01 : World.frozen? w1 ⟨w.heap.size + 2, 0, none⟩ = false := (k41).frozen 0
        have k4c11 : World.cell? w1 ⟨w.heap.size + 2, 1, none⟩ = some (.int .i64 0) := (k41).cell 1
        have k4f11 : World.frozen? w1 ⟨w.heap.size + 2, 1, none⟩ = false := (k41).frozen 1
        have k4c21 : World.cell? w1 ⟨w.heap.size + 2, 2, none⟩ = some (.int .i64 0) := (k41).cell 2
        have k4f21 : World.frozen? w1 ⟨w.heap.size + 2, 2, none⟩ = false := (k41).frozen 2
        have k4c31 : World.cell? w1 ⟨w.heap.size + 2, 3, none⟩ = some (.bool false) := (k41).cell 3
        have k4f31 : World.frozen? w1 ⟨w.heap.size + 2, 3, none⟩ = false := (k41).frozen 3
        have k2 : ∀ ob, Blk (w1.alloc ob) (w.heap.size) 53 #[.slice (some ⟨b, o, none⟩) n c, .int .i64 most, .int .i64 (fuse : Nat), .bool false] := fun ob => (K2.out.below b1 (by omega)).alloc ob
        have k2c0 : ∀ ob, World.cell? (w1.alloc ob) ⟨w.heap.size, 0, none⟩ = some (.slice (some ⟨b, o, none⟩) n c) := fun ob => (k2 ob).cell 0
        have k2f0 : ∀ ob, World.frozen? (w1.alloc ob) ⟨w.heap.size, 0, none⟩ = false := fun ob => (k2 ob).frozen 0
        have k2c1 : ∀ ob, World.cell? (w1.alloc ob) ⟨w.heap.size, 1, none⟩ = some (.int .i64 most) := fun ob => (k2 ob).cell 1
        have k2f1 : ∀ ob, World.frozen? (w1.alloc ob) ⟨w.heap.size, 1, none⟩ = false := fun ob => (k2 ob).frozen 1
        have k2c2 : ∀ ob, World.cell? (w1.alloc ob) ⟨w.heap.size, 2, none⟩ = some (.int .i64 (fuse : Nat)) := fun ob => (k2 ob).cell 2
        have k2f2 : ∀ ob, World.frozen? (w1.alloc ob) ⟨w.heap.size, 2, none⟩ = false := fun ob => (k2 ob).frozen 2
        have k2c3 : ∀ ob, World.cell? (w1.alloc ob) ⟨w.heap.size, 3, none⟩ = some (.bool false) := fun ob => (k2 ob).cell 3
        have k2f3 : ∀ ob, World.frozen? (w1.alloc ob) ⟨w.heap.size, 3, none⟩ = false := fun ob => (k2 ob).frozen 3
        have k3 : ∀ ob, Blk (w1.alloc ob) (w.heap.size + 1) 62 #[.int .i64 4, .string a, .string z, .int .i64 num, .slice B m d] := fun ob => (K3.out.below b1 (by omega)).alloc ob
        have k3c0 : ∀ ob, World.cell? (w1.alloc ob) ⟨w.heap.size + 1, 0, none⟩ = some (.int .i64 4) := fun ob => (k3 ob).cell 0
        have k3c1 : ∀ ob, World.cell? (w1.alloc ob) ⟨w.heap.size + 1, 1, none⟩ = some (.string a) := fun ob => (k3 ob).cell 1
        have k3c2 : ∀ ob, World.cell? (w1.alloc ob) ⟨w.heap.size + 1, 2, none⟩ = some (.string z) := fun ob => (k3 ob).cell 2
        have k3c3 : ∀ ob, World.cell? (w1.alloc ob) ⟨w.heap.size + 1, 3, none⟩ = some (.int .i64 num) := fun ob => (k3 ob).cell 3
        have k3c4 : ∀ ob, World.cell? (w1.alloc ob) ⟨w.heap.size + 1, 4, none⟩ = some (.slice B m d) := fun ob => (k3 ob).cell 4
        have k4 : ∀ ob, Blk (w1.alloc ob) (w.heap.size + 2) 53 #[.slice none 0 0, .int .i64 0, .int .i64 0, .bool false] := fun ob => (K4.out.below b1 (by omega)).alloc ob
        have k4c0 : ∀ ob, World.cell? (w1.alloc ob) ⟨w.heap.size + 2, 0, none⟩ = some (.slice none 0 0) := fun ob => (k4 ob).cell 0
        have k4f0 : ∀ ob, World.frozen? (w1.alloc ob) ⟨w.heap.size + 2, 0, none⟩ = false := fun ob => (k4 ob).frozen 0
        have k4c1 : ∀ ob, World.cell? (w1.alloc ob) ⟨w.heap.size + 2, 1, none⟩ = some (.int .i64 0) := fun ob => (k4 ob).cell 1
        have k4f1 : ∀ ob, World.frozen? (w1.alloc ob) ⟨w.heap.size + 2, 1, none⟩ = false := fun ob => (k4 ob).frozen 1
        have k4c2 : ∀ ob, World.cell? (w1.alloc ob) ⟨w.heap.size + 2, 2, none⟩ = some (.int .i64 0) := fun ob => (k4 ob).cell 2
        have k4f2 : ∀ ob, World.frozen? (w1.alloc ob) ⟨w.heap.size + 2, 2, none⟩ = false := fun ob => (k4 ob).frozen 2
        have k4c3 : ∀ ob, World.cell? (w1.alloc ob) ⟨w.heap.size + 2, 3, none⟩ = some (.bool false) := fun ob => (k4 ob).cell 3
        have k4f3 : ∀ ob, World.frozen? (w1.alloc ob) ⟨w.heap.size + 2, 3, none⟩ = false := fun ob => (k4 ob).frozen 3
        have KB := Lib.hid (And.intro k2 (And.intro k3 k4))
        clear hnm b1 hcl hi hft hfn k2 k3 k4 k21 k31 k41
        go_wp2_with fail
        refine CN.out.mono ?_
        rintro e w2 ⟨rfl, hw2⟩
        rw [hw2]
        clear hw2 w2
        go_wp2_with fail
        go_quiet (fail)
        have K2 := Lib.hid ((KB.out.1 (.cells #[.string ⟨f.nm.toArray⟩, .slice f.B f.bs.length f.c, .int .i64 (f.sf : Nat)] 130)).drewN nq)
        have K3 := Lib.hid ((KB.out.2.1 (.cells #[.string ⟨f.nm.toArray⟩, .slice f.B f.bs.length f.c, .int .i64 (f.sf : Nat)] 130)).drewN nq)
        have K4 := Lib.hid ((KB.out.2.2 (.cells #[.string ⟨f.nm.toArray⟩, .slice f.B f.bs.length f.c, .int .i64 (f.sf : Nat)] 130)).drewN nq)
        have K7 := Lib.hid ((Blk.new w1 130 #[.string ⟨f.nm.toArray⟩, .slice f.B f.bs.length f.c, .int .i64 (f.sf : Nat)]).drewN nq)
        have HB2 := Lib.hid ((Y1.out (.cells #[.string ⟨f.nm.toArray⟩, .slice f.B f.bs.length f.c, .int .i64 (f.sf : Nat)] 130)).trans (drewN_bel _ nq))
        have hs2 : ((w1.alloc (.cells #[.string ⟨f.nm.toArray⟩, .slice f.B f.bs.length f.c, .int .i64 (f.sf : Nat)] 130)).drewN nq).heap.size = w1.heap.size + 1 := by simp [World.drewN]
        generalize (w1.alloc (.cells #[.string ⟨f.nm.toArray⟩, .slice f.B f.bs.length f.c, .int .i64 (f.sf : Nat)] 130)).drewN nq = W2 at K2 K3 K4 K7 HB2 hs2 ⊢
        clear y0 y1 y2 k2c0 k2f0 k4c0 k4f0 k2c01 k2f01 k4c01 k4f01 k2c1 k2f1 k4c1 k4f1 k2c11 k2f11 k4c11 k4f11 k2c2 k2f2 k4c2 k4f2 k2c21 k2f21 k4c21 k4f21 k2c3 k2f3 k4c3 k4f3 k2c31 k2f31 k4c31 k4f31 k3c0 k3c01 k3c1 k3c11 k3c2 k3c21 k3c3 k3c31 k3c4 k3c41 KB Y1
        have k2 : Blk W2 (w.heap.size) 53 #[.slice (some ⟨b, o, none⟩) n c, .int .i64 most, .int .i64 (fuse : Nat), .bool false] := K2.out
        have k2c0 : World.cell? W2 ⟨w.heap.size, 0, none⟩ = some (.slice (some ⟨b, o, none⟩) n c) := (k2).cell 0
        have k2f0 : World.frozen? W2 ⟨w.heap.size, 0, none⟩ = false := (k2).frozen 0
        have k2c1 : World.cell? W2 ⟨w.heap.size, 1, none⟩ = some (.int .i64 most) := (k2).cell 1
        have k2f1 : World.frozen? W2 ⟨w.heap.size, 1, none⟩ = false := (k2).frozen 1
        have k2c2 : World.cell? W2 ⟨w.heap.size, 2, none⟩ = some (.int .i64 (fuse : Nat)) := (k2).cell 2
        have k2f2 : World.frozen? W2 ⟨w.heap.size, 2, none⟩ = false := (k2).frozen 2
        have k2c3 : World.cell? W2 ⟨w.heap.size, 3, none⟩ = some (.bool false) := (k2).cell 3
        have k2f3 : World.frozen? W2 ⟨w.heap.size, 3, none⟩ = false := (k2).frozen 3
        have k3 : Blk W2 (w.heap.size + 1) 62 #[.int .i64 4, .string a, .string z, .int .i64 num, .slice B m d] := K3.out
        have k3c0 : World.cell? W2 ⟨w.heap.size + 1, 0, none⟩ = some (.int .i64 4) := (k3).cell 0
        have k3c1 : World.cell? W2 ⟨w.heap.size + 1, 1, none⟩ = some (.string a) := (k3).cell 1
        have k3c2 : World.cell? W2 ⟨w.heap.size + 1, 2, none⟩ = some (.string z) := (k3).cell 2
        have k3c3 : World.cell? W2 ⟨w.heap.size + 1, 3, none⟩ = some (.int .i64 num) := (k3).cell 3
        have k3c4 : World.cell? W2 ⟨w.heap.size + 1, 4, none⟩ = some (.slice B m d) := (k3).cell 4
        have k4 : Blk W2 (w.heap.size + 2) 53 #[.slice none 0 0, .int .i64 0, .int .i64 0, .bool false] := K4.out
        have k4c0 : World.cell? W2 ⟨w.heap.size + 2, 0, none⟩ = some (.slice none 0 0) := (k4).cell 0
        have k4f0 : World.frozen? W2 ⟨w.heap.size + 2, 0, none⟩ = false := (k4).frozen 0
        have k4c1 : World.cell? W2 ⟨w.heap.size + 2, 1, none⟩ = some (.int .i64 0) := (k4).cell 1
        have k4f1 : World.frozen? W2 ⟨w.heap.size + 2, 1, none⟩ = false := (k4).frozen 1
        have k4c2 : World.cell? W2 ⟨w.heap.size + 2, 2, none⟩ = some (.int .i64 0) := (k4).cell 2
        have k4f2 : World.frozen? W2 ⟨w.heap.size + 2, 2, none⟩ = false := (k4).frozen 2
        have k4c3 : World.cell? W2 ⟨w.heap.size + 2, 3, none⟩ = some (.bool false) := (k4).cell 3
        have k4f3 : World.frozen? W2 ⟨w.heap.size + 2, 3, none⟩ = false := (k4).frozen 3
        have k7 := K7.out
        obtain ⟨k7c0, k7c1, k7c2, k7f0, k7f1, k7f2⟩ := blk3 k7
        clear k2 k3 k4 k7
        have HFX := Lib.hid (show FOk w Y ⟨z.data.toList, f.bs, f.sf, f.B, f.c⟩ from ⟨HFO.out.1, HFO.out.2.1, HFO.out.2.2.1, (by show z.size ≤ maxLen; exact hz), HFO.out.2.2.2.2⟩)
        have CW := Lib.hid (fun (E : World) (hE : Below w.heap.size w E) (fu' : Int) => without_any (c := c) (H.out.below hY hE) (fun b hb => by have := hY b hb; have := hE.size; omega) (by omega) most fu' false a)
        rcases (by omega : fuse = 0 ∨ fuse = 1 ∨ 2 ≤ fuse) with h0 | h1 | h2
        · have hf1 : ¬ (0 : Int) < (fuse : Int) := by omega
          have HRES := Lib.hid (show renameS a.data.toList z.data.toList ⟨V, free, fuse, false⟩ = (0, ⟨vins (z.data.toList, f.bs, f.sf) (vdel z.data.toList (vdel a.data.toList V)), free + (match vlook z.data.toList (vdel a.data.toList V) with | some t => t.2.1.length | none => 0), 0, false⟩) by
            unfold renameS onFile stepS
            rw [mayC_yes hnm2.out, if_neg (by decide), HLK.out]
            subst h0; rfl)
          subst h0
          go_wp2_with fail
          refine (CW.out _ ?hbe _).mono ?_
          case hbe => exact HB2.out
          rintro e w5 ⟨A5, n5, c5, fs5, rfl, hr5, hv5, hb5⟩
          have hE := HB2.out
          have hk4 := K4.out
          have hk3 := K3.out
          have hk7 := K7.out
          have hk2 := K2.out
          have hEs := hk7.lt
          have hE5 := hb5.size
          have H5 := Lib.hid hr5
          have V5 := Lib.hid hv5
          have B5 := Lib.hid (hE.trans (hb5.mono hE.size))
          have N5 := hr5.1
          have m2 := hk2.below hb5 hk2.lt
          have m3 := hk3.below hb5 hk3.lt
          have m4 := hk4.below hb5 hk4.lt
          have m7 := hk7.below hb5 hk7.lt
          obtain ⟨k2c0, k2c1, k2c2, k2c3, k2f1, k2f2, k2f3⟩ := blk4 m2
          have k2f0 := m2.frozen 0
          have k3c2 : w5.cell? ⟨w.heap.size + 1, 2, none⟩ = some (.string z) := m3.cell 2
          obtain ⟨k4c0, k4c1, k4c2, k4c3, k4f1, k4f2, k4f3⟩ := blk4 m4
          have k4f0 := m4.frozen 0
          obtain ⟨k7c0, k7c1, k7c2, k7f0, k7f1, k7f2⟩ := blk3 m7
          have hn5 : n5 ≤ 100000 := by
            have e := congrArg List.length hv5
            have h2 := (vdel_sub (nm := a.data.toList) (V := fs.map FR.t)).length_le
            rw [List.length_map] at e h2
            omega
          have M4 := Lib.hid m4
          have HE2 := Lib.hid hE
          -- the world in which With is called
          have W6 := Lib.hid (show ∀ x0 x1 x2 x3 x4 : Value, let E6 := (((((w5.setCell ⟨w.heap.size, 0, none⟩ x0).setCell ⟨w.heap.size, 1, none⟩ x1).setCell ⟨w.heap.size, 2, none⟩ x2).setCell ⟨w.heap.size, 3, none⟩ x3).setCell ⟨w1.heap.size, 0, none⟩ x4); Below w.heap.size w E6 ∧ E6.heap.size = w5.heap.size ∧ RefAt E6 (fun b => Y b ∨ ((W2).heap.size ≤ b ∧ b < w5.heap.size)) A5 n5 fs5 ∧ Blk E6 (w.heap.size + 2) 53 #[.slice none 0 0, .int .i64 0, .int .i64 0, .bool false] from by
            intro x0 x1 x2 x3 x4
            have hnY : ∀ p, w.heap.size ≤ p → p < (W2).heap.size → ¬ (Y p ∨ ((W2).heap.size ≤ p ∧ p < w5.heap.size)) := fun p h1 h2 h => by
              rcases h with h | h
              · have := hY p h; omega
              · omega
            refine ⟨(below_set4 B5.out (Nat.le_refl _) x0 x1 x2 x3).setCell (p := ⟨w1.heap.size, 0, none⟩) (show w.heap.size ≤ w1.heap.size by omega) x4, by simp [World.setCell], ?_, ?_⟩
            · exact ((((H5.out.set_ (p := ⟨w.heap.size, 0, none⟩) (hnY w.heap.size (Nat.le_refl _) (by omega)) x0).set_ (p := ⟨w.heap.size, 1, none⟩) (hnY w.heap.size (Nat.le_refl _) (by omega)) x1).set_ (p := ⟨w.heap.size, 2, none⟩) (hnY w.heap.size (Nat.le_refl _) (by omega)) x2).set_ (p := ⟨w.heap.size, 3, none⟩) (hnY w.heap.size (Nat.le_refl _) (by omega)) x3).set_ (p := ⟨w1.heap.size, 0, none⟩) (hnY w1.heap.size (by omega) (by omega)) x4
            · exact ((((M4.out.far (p := ⟨w.heap.size, 0, none⟩) (show w.heap.size + 2 ≠ w.heap.size by omega) x0).far (p := ⟨w.heap.size, 1, none⟩) (show w.heap.size + 2 ≠ w.heap.size by omega) x1).far (p := ⟨w.heap.size, 2, none⟩) (show w.heap.size + 2 ≠ w.heap.size by omega) x2).far (p := ⟨w.heap.size, 3, none⟩) (show w.heap.size + 2 ≠ w.heap.size by omega) x3).far (p := ⟨w1.heap.size, 0, none⟩) (show w.heap.size + 2 ≠ w1.heap.size by omega) x4)
          clear hr5 hv5 hb5 hE hk2 hk3 hk4 hk7 m2 m3 m4 m7
          go_wp2_with fail
          obtain ⟨b6, s6, r6, q6⟩ := W6.out (.slice A5 n5 c5) (.int .i64 most) (.int .i64 ((0 : Nat) : Int)) (.bool false) (.string z)
          refine (with_any (c := c5) r6 ?hlow (by omega) most ((0 : Nat) : Int) false (x := ⟨z.data.toList, f.bs, f.sf, f.B, f.c⟩) ?hfx).mono ?_
          case hlow =>
            intro b hb
            rw [s6]
            rcases hb with h1 | h1
            · have := hY b h1; omega
            · omega
          case hfx => exact (HFX.out.below hY b6).mono fun b hb => .inl hb
          rintro e w6 ⟨A6, n6, c6, fs6, rfl, hr6, hv6, hb6⟩
          obtain ⟨k4c0, k4c1, k4c2, k4c3, k4f1, k4f2, k4f3⟩ := blk4 (q6.below hb6 q6.lt)
          have k4f0 := (q6.below hb6 q6.lt).frozen 0
          have hs6 := hb6.size
          have HB6 := Lib.hid (b6.trans (hb6.mono b6.size))
          have HR6 := Lib.hid hr6
          have HV6 := Lib.hid hv6
          clear b6 r6 q6 hr6 hv6 hb6
          go_wp2
          refine bodyPost_ret (v := .tuple #[.agg #[.slice A6 n6 c6, .int .i64 most, .int .i64 ((0 : Nat) : Int), .bool false], .int .i64 0]) (by simp [results, Try.results26, go_sem, *]) rfl ?_
          rw [HRES.out]
          refine do_end2 (N := W2.heap.size) HB6.out (by omega) (by omega) hY (do_span HR6.out (by omega) hs6 hE5) (by rw [HV6.out]; show withL (z.data.toList, f.bs, f.sf) (fs5.map FR.t) = vins (z.data.toList, f.bs, f.sf) (vdel z.data.toList (vdel a.data.toList V)); rw [V5.out, HV.out, withL_eq (HR.out.del _)]) rfl rfl (fun _ => rfl) _ _ _ _
        · have hf1 : (0 : Int) < (fuse : Int) := by omega
          have hf2 : (fuse : Int) - 1 = 0 := by omega
          have HRES := Lib.hid (show renameS a.data.toList z.data.toList ⟨V, free, fuse, false⟩ = (70, ⟨V, free, fuse, true⟩) by
            unfold renameS onFile stepS
            rw [mayC_yes hnm2.out, if_neg (by decide), HLK.out]
            subst h1; rfl)
          clear h1
          go_wp2
          refine bodyPost_ret (v := .tuple #[.agg #[.slice (some ⟨b, o, none⟩) n c, .int .i64 most, .int .i64 0, .bool true], .int .i64 70]) (by simp [results, Try.results26, go_sem, *]) rfl ?_
          rw [HRES.out]
          exact do_same H.out hY (below_set4 ((HB2.out.setCell (p := ⟨w.heap.size, 2, none⟩) (Nat.le_refl _) _).setCell (p := ⟨w.heap.size, 3, none⟩) (Nat.le_refl _) _) (by omega) _ _ _ _) HV.out rfl rfl (fun h => by cases h)
        · have hf1 : (0 : Int) < (fuse : Int) := by omega
          have hf2 : ¬ (fuse : Int) - 1 = 0 := by omega
          have HRES := Lib.hid (show renameS a.data.toList z.data.toList ⟨V, free, fuse, false⟩ = (0, ⟨vins (z.data.toList, f.bs, f.sf) (vdel z.data.toList (vdel a.data.toList V)), free + (match vlook z.data.toList (vdel a.data.toList V) with | some t => t.2.1.length | none => 0), fuse - 1, false⟩) by
            unfold renameS onFile stepS
            rw [mayC_yes hnm2.out, if_neg (by decide), HLK.out]
            show (if fuse = 1 then _ else _) = _
            rw [if_neg (by omega)]; try rfl)
          clear h2
          go_wp2_with fail
          refine (CW.out _ ?hbe _).mono ?_
          case hbe => exact (HB2.out.setCell (p := ⟨w.heap.size, 2, none⟩) (Nat.le_refl _) (.int .i64 ((fuse : Int) - 1)))
          rintro e w5 ⟨A5, n5, c5, fs5, rfl, hr5, hv5, hb5⟩
          have hE := (HB2.out.setCell (p := ⟨w.heap.size, 2, none⟩) (Nat.le_refl _) (.int .i64 ((fuse : Int) - 1)))
          have hk4 := (K4.out.far (p := ⟨w.heap.size, 2, none⟩) (show w.heap.size + 2 ≠ w.heap.size by omega) (.int .i64 ((fuse : Int) - 1)))
          have hk3 := (K3.out.far (p := ⟨w.heap.size, 2, none⟩) (show w.heap.size + 1 ≠ w.heap.size by omega) (.int .i64 ((fuse : Int) - 1)))
          have hk7 := (K7.out.far (p := ⟨w.heap.size, 2, none⟩) (show w1.heap.size ≠ w.heap.size by omega) (.int .i64 ((fuse : Int) - 1)))
          have hk2 := (K2.out.set_ 2 (.int .i64 ((fuse : Int) - 1)))
          have hEs := hk7.lt
          have hE5 := hb5.size
          have H5 := Lib.hid hr5
          have V5 := Lib.hid hv5
          have B5 := Lib.hid (hE.trans (hb5.mono hE.size))
          have N5 := hr5.1
          have m2 := hk2.below hb5 hk2.lt
          have m3 := hk3.below hb5 hk3.lt
          have m4 := hk4.below hb5 hk4.lt
          have m7 := hk7.below hb5 hk7.lt
          obtain ⟨k2c0, k2c1, k2c2, k2c3, k2f1, k2f2, k2f3⟩ := blk4 m2
          have k2f0 := m2.frozen 0
          have k3c2 : w5.cell? ⟨w.heap.size + 1, 2, none⟩ = some (.string z) := m3.cell 2
          obtain ⟨k4c0, k4c1, k4c2, k4c3, k4f1, k4f2, k4f3⟩ := blk4 m4
          have k4f0 := m4.frozen 0
          obtain ⟨k7c0, k7c1, k7c2, k7f0, k7f1, k7f2⟩ := blk3 m7
          have hn5 : n5 ≤ 100000 := by
            have e := congrArg List.length hv5
            have h2 := (vdel_sub (nm := a.data.toList) (V := fs.map FR.t)).length_le
            rw [List.length_map] at e h2
            omega
          have M4 := Lib.hid m4
          have HE2 := Lib.hid hE
          -- the world in which With is called
          have W6 := Lib.hid (show ∀ x0 x1 x2 x3 x4 : Value, let E6 := (((((w5.setCell ⟨w.heap.size, 0, none⟩ x0).setCell ⟨w.heap.size, 1, none⟩ x1).setCell ⟨w.heap.size, 2, none⟩ x2).setCell ⟨w.heap.size, 3, none⟩ x3).setCell ⟨w1.heap.size, 0, none⟩ x4); Below w.heap.size w E6 ∧ E6.heap.size = w5.heap.size ∧ RefAt E6 (fun b => Y b ∨ (((W2.setCell ⟨w.heap.size, 2, none⟩ (.int .i64 ((fuse : Int) - 1)))).heap.size ≤ b ∧ b < w5.heap.size)) A5 n5 fs5 ∧ Blk E6 (w.heap.size + 2) 53 #[.slice none 0 0, .int .i64 0, .int .i64 0, .bool false] from by
            intro x0 x1 x2 x3 x4
            have hnY : ∀ p, w.heap.size ≤ p → p < ((W2.setCell ⟨w.heap.size, 2, none⟩ (.int .i64 ((fuse : Int) - 1)))).heap.size → ¬ (Y p ∨ (((W2.setCell ⟨w.heap.size, 2, none⟩ (.int .i64 ((fuse : Int) - 1)))).heap.size ≤ p ∧ p < w5.heap.size)) := fun p h1 h2 h => by
              rcases h with h | h
              · have := hY p h; omega
              · omega
            refine ⟨(below_set4 B5.out (Nat.le_refl _) x0 x1 x2 x3).setCell (p := ⟨w1.heap.size, 0, none⟩) (show w.heap.size ≤ w1.heap.size by omega) x4, by simp [World.setCell], ?_, ?_⟩
            · exact ((((H5.out.set_ (p := ⟨w.heap.size, 0, none⟩) (hnY w.heap.size (Nat.le_refl _) (by omega)) x0).set_ (p := ⟨w.heap.size, 1, none⟩) (hnY w.heap.size (Nat.le_refl _) (by omega)) x1).set_ (p := ⟨w.heap.size, 2, none⟩) (hnY w.heap.size (Nat.le_refl _) (by omega)) x2).set_ (p := ⟨w.heap.size, 3, none⟩) (hnY w.heap.size (Nat.le_refl _) (by omega)) x3).set_ (p := ⟨w1.heap.size, 0, none⟩) (hnY w1.heap.size (by omega) (by omega)) x4
            · exact ((((M4.out.far (p := ⟨w.heap.size, 0, none⟩) (show w.heap.size + 2 ≠ w.heap.size by omega) x0).far (p := ⟨w.heap.size, 1, none⟩) (show w.heap.size + 2 ≠ w.heap.size by omega) x1).far (p := ⟨w.heap.size, 2, none⟩) (show w.heap.size + 2 ≠ w.heap.size by omega) x2).far (p := ⟨w.heap.size, 3, none⟩) (show w.heap.size + 2 ≠ w.heap.size by omega) x3).far (p := ⟨w1.heap.size, 0, none⟩) (show w.heap.size + 2 ≠ w1.heap.size by omega) x4)
          clear hr5 hv5 hb5 hE hk2 hk3 hk4 hk7 m2 m3 m4 m7
          go_wp2_with fail
          obtain ⟨b6, s6, r6, q6⟩ := W6.out (.slice A5 n5 c5) (.int .i64 most) (.int .i64 ((fuse : Int) - 1)) (.bool false) (.string z)
          refine (with_any (c := c5) r6 ?hlow (by omega) most ((fuse : Int) - 1) false (x := ⟨z.data.toList, f.bs, f.sf, f.B, f.c⟩) ?hfx).mono ?_
          case hlow =>
            intro b hb
            rw [s6]
            rcases hb with h1 | h1
            · have := hY b h1; omega
            · omega
          case hfx => exact (HFX.out.below hY b6).mono fun b hb => .inl hb
          rintro e w6 ⟨A6, n6, c6, fs6, rfl, hr6, hv6, hb6⟩
          obtain ⟨k4c0, k4c1, k4c2, k4c3, k4f1, k4f2, k4f3⟩ := blk4 (q6.below hb6 q6.lt)
          have k4f0 := (q6.below hb6 q6.lt).frozen 0
          have hs6 := hb6.size
          have HB6 := Lib.hid (b6.trans (hb6.mono b6.size))
          have HR6 := Lib.hid hr6
          have HV6 := Lib.hid hv6
          clear b6 r6 q6 hr6 hv6 hb6
          go_wp2
          refine bodyPost_ret (v := .tuple #[.agg #[.slice A6 n6 c6, .int .i64 most, .int .i64 ((fuse : Int) - 1), .bool false], .int .i64 0]) (by simp [results, Try.results26, go_sem, *]) rfl ?_
          rw [HRES.out]
          refine do_end2 (N := (W2.setCell ⟨w.heap.size, 2, none⟩ (.int .i64 ((fuse : Int) - 1))).heap.size) HB6.out (by omega) (by omega) hY (do_span HR6.out (by omega) hs6 hE5) (by rw [HV6.out]; show withL (z.data.toList, f.bs, f.sf) (fs5.map FR.t) = vins (z.data.toList, f.bs, f.sf) (vdel z.data.toList (vdel a.data.toList V)); rw [V5.out, HV.out, withL_eq (HR.out.del _)]) rfl rfl (fun _ => by show (fuse : Int) - 1 = ((fuse - 1 : Nat) : Int); omega) _ _ _ _
    · rw [decide_eq_false hnm] at CN
      rcases hc with ⟨rfl, hno⟩ | ⟨i, f, hi, hfn, rfl⟩
      all_goals
        have HRES := Lib.hid (show renameS a.data.toList z.data.toList ⟨V, free, fuse, false⟩ = (1, ⟨V, free, fuse, false⟩) by
          unfold renameS
          rw [hzl, mayC_no hnm]
          rfl)
        have k2 : Blk w1 (w.heap.size) 53 #[.slice A n c, .int .i64 most, .int .i64 (fuse : Nat), .bool false] := K2.out.below b1 (by omega)
        have k2c0 : World.cell? w1 ⟨w.heap.size, 0, none⟩ = some (.slice A n c) := (k2).cell 0
        have k2f0 : World.frozen? w1 ⟨w.heap.size, 0, none⟩ = false := (k2).frozen 0
        have k2c1 : World.cell? w1 ⟨w.heap.size, 1, none⟩ = some (.int .i64 most) := (k2).cell 1
        have k2f1 : World.frozen? w1 ⟨w.heap.size, 1, none⟩ = false := (k2).frozen 1
        have k2c2 : World.cell? w1 ⟨w.heap.size, 2, none⟩ = some (.int .i64 (fuse : Nat)) := (k2).cell 2
        have k2f2 : World.frozen? w1 ⟨w.heap.size, 2, none⟩ = false := (k2).frozen 2
        have k2c3 : World.cell? w1 ⟨w.heap.size, 3, none⟩ = some (.bool false) := (k2).cell 3
        have k2f3 : World.frozen? w1 ⟨w.heap.size, 3, none⟩ = false := (k2).frozen 3
        have k3 : Blk w1 (w.heap.size + 1) 62 #[.int .i64 4, .string a, .string z, .int .i64 num, .slice B m d] := K3.out.below b1 (by omega)
        have k3c0 : World.cell? w1 ⟨w.heap.size + 1, 0, none⟩ = some (.int .i64 4) := (k3).cell 0
        have k3c1 : World.cell? w1 ⟨w.heap.size + 1, 1, none⟩ = some (.string a) := (k3).cell 1
        have k3c2 : World.cell? w1 ⟨w.heap.size + 1, 2, none⟩ = some (.string z) := (k3).cell 2
        have k3c3 : World.cell? w1 ⟨w.heap.size + 1, 3, none⟩ = some (.int .i64 num) := (k3).cell 3
        have k3c4 : World.cell? w1 ⟨w.heap.size + 1, 4, none⟩ = some (.slice B m d) := (k3).cell 4
        have k4 : Blk w1 (w.heap.size + 2) 53 #[.slice none 0 0, .int .i64 0, .int .i64 0, .bool false] := K4.out.below b1 (by omega)
        have k4c0 : World.cell? w1 ⟨w.heap.size + 2, 0, none⟩ = some (.slice none 0 0) := (k4).cell 0
        have k4f0 : World.frozen? w1 ⟨w.heap.size + 2, 0, none⟩ = false := (k4).frozen 0
        have k4c1 : World.cell? w1 ⟨w.heap.size + 2, 1, none⟩ = some (.int .i64 0) := (k4).cell 1
        have k4f1 : World.frozen? w1 ⟨w.heap.size + 2, 1, none⟩ = false := (k4).frozen 1
        have k4c2 : World.cell? w1 ⟨w.heap.size + 2, 2, none⟩ = some (.int .i64 0) := (k4).cell 2
        have k4f2 : World.frozen? w1 ⟨w.heap.size + 2, 2, none⟩ = false := (k4).frozen 2
        have k4c3 : World.cell? w1 ⟨w.heap.size + 2, 3, none⟩ = some (.bool false) := (k4).cell 3
        have k4f3 : World.frozen? w1 ⟨w.heap.size + 2, 3, none⟩ = false := (k4).frozen 3
        clear b1 k2 k3 k4 hnm
        go_wp2_with fail
        refine CN.out.mono ?_
        rintro e w2 ⟨rfl, hw2⟩
        rw [hw2]
        clear hw2 w2
        go_wp2
        refine bodyPost_ret (v := .tuple #[.agg #[.slice A n c, .int .i64 most, .int .i64 (fuse : Nat), .bool false], .int .i64 1]) (by simp [results, Try.results26, go_sem, *]) rfl ?_
        rw [HRES.out]
        exact do_same H.out hY (below_set4 HB1.out (by omega) _ _ _ _) HV.out rfl rfl (fun _ => rfl)
end Go.Proofs.Yteokiaeojgjpdaa
