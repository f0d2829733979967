/- The document's With: a file more, where its name rises. -/
import Derived.Test.YteokiaeojgjpdaaYc
namespace Go.Proofs.Yteokiaeojgjpdaa
open Go.RowKit Go.Maps

theorem drewN_bel {B : Nat} (w : World) (n : Nat) : Below B w (w.drewN n) := ⟨rfl, rfl, rfl, Nat.le_refl _, fun _ _ => rfl⟩
theorem less_str (a b : List UInt8) : Op.bytesLess (ByteArray.toList ⟨a.toArray⟩) (ByteArray.toList ⟨b.toArray⟩) = bytesBefore a b := by
  rw [ByteArray.toList_eq, ByteArray.toList_eq, less_before']
theorem beq_str (a b : List UInt8) : (ByteArray.toList ⟨a.toArray⟩ == ByteArray.toList ⟨b.toArray⟩) = decide (a = b) := by
  rw [str_beq']
  by_cases h : a = b
  · subst h; simp
  · have : ¬ (⟨a.toArray⟩ : ByteArray) = ⟨b.toArray⟩ := fun e => h (by injection e with e; simpa using e)
    rw [decide_eq_false h, decide_eq_false this]
/-- What the loop of With reads, in any world that it makes. -/
structure WFacts (w W : World) (b o j n c : Nat) (x f : FR) (most fuse : Int) (down : Bool) : Prop where
  q0 : W.cell? ⟨w.heap.size, 0, none⟩ = some (.slice (some ⟨b, o, none⟩) n c)
  q1 : W.cell? ⟨w.heap.size, 1, none⟩ = some (.int .i64 most)
  q2 : W.cell? ⟨w.heap.size, 2, none⟩ = some (.int .i64 fuse)
  q3 : W.cell? ⟨w.heap.size, 3, none⟩ = some (.bool down)
  x0 : W.cell? ⟨w.heap.size + 1, 0, none⟩ = some (.string ⟨x.nm.toArray⟩)
  x1 : W.cell? ⟨w.heap.size + 1, 1, none⟩ = some (.slice x.B x.bs.length x.c)
  x2 : W.cell? ⟨w.heap.size + 1, 2, none⟩ = some (.int .i64 (x.sf : Nat))
  y0 : W.cell? ⟨b, o + j * 3, none⟩ = some (.string ⟨f.nm.toArray⟩)
  y1 : W.cell? ⟨b, o + j * 3 + 1, none⟩ = some (.slice f.B f.bs.length f.c)
  y2 : W.cell? ⟨b, o + j * 3 + 2, none⟩ = some (.int .i64 (f.sf : Nat))
theorem WFacts.below {w W W' : World} {b o j n c N : Nat} {x f : FR} {most fuse : Int} {down : Bool} (h : WFacts w W b o j n c x f most fuse down) (hb : Below N W W') (hN : w.heap.size + 2 ≤ N) (hbN : b < N) : WFacts w W' b o j n c x f most fuse down :=
  ⟨(hb.cell (p := ⟨w.heap.size, 0, none⟩) (show w.heap.size < N by omega)).trans h.q0, (hb.cell (p := ⟨w.heap.size, 1, none⟩) (show w.heap.size < N by omega)).trans h.q1, (hb.cell (p := ⟨w.heap.size, 2, none⟩) (show w.heap.size < N by omega)).trans h.q2, (hb.cell (p := ⟨w.heap.size, 3, none⟩) (show w.heap.size < N by omega)).trans h.q3,
    (hb.cell (p := ⟨w.heap.size + 1, 0, none⟩) (show w.heap.size + 1 < N by omega)).trans h.x0, (hb.cell (p := ⟨w.heap.size + 1, 1, none⟩) (show w.heap.size + 1 < N by omega)).trans h.x1, (hb.cell (p := ⟨w.heap.size + 1, 2, none⟩) (show w.heap.size + 1 < N by omega)).trans h.x2,
    (hb.cell (p := ⟨b, o + j * 3, none⟩) hbN).trans h.y0, (hb.cell (p := ⟨b, o + j * 3 + 1, none⟩) hbN).trans h.y1, (hb.cell (p := ⟨b, o + j * 3 + 2, none⟩) hbN).trans h.y2⟩
set_option maxHeartbeats 8000000 in
set_option maxRecDepth 100000 in
theorem with_any {w : World} {Y : Nat → Prop} {A : Option Addr} {n c : Nat} {fs : List FR} (h : RefAt w Y A n fs) (hY : Low w.heap.size Y) (hn : n ≤ 300000000) (most fuse : Int) (down : Bool) {x : FR} (hx : FOk w Y x) :
    Calls Try.prog 75 #[.agg #[.slice A n c, .int .i64 most, .int .i64 fuse, .bool down], .agg #[.string ⟨x.nm.toArray⟩, .slice x.B x.bs.length x.c, .int .i64 (x.sf : Nat)]] w (FsPost w Y most fuse down (withL x.t (fs.map FR.t))) := by
  have hfl := h.1
  have H := Lib.hid h
  have HX := Lib.hid hx
  clear h hx
  obtain ⟨W0, hW0⟩ : ∃ W0, W0 = ((((w.alloc (.cells #[.slice A n c, .int .i64 most, .int .i64 fuse, .bool down] 53)).alloc (.cells #[.string ⟨x.nm.toArray⟩, .slice x.B x.bs.length x.c, .int .i64 (x.sf : Nat)] 130)).alloc (.cells #[.slice none 0 0, .int .i64 0, .int .i64 0, .bool false] 53)).alloc (.cells #[] 130)) := ⟨_, rfl⟩
  have hs0 : W0.heap.size = w.heap.size + 4 := by rw [hW0]; simp
  have b0 : Below w.heap.size w W0 := by
    rw [hW0]
    have h1 := (Below.refl w.heap.size w).alloc (Nat.le_refl _) (.cells #[.slice A n c, .int .i64 most, .int .i64 fuse, .bool down] 53)
    have h2 := h1.alloc h1.size (.cells #[.string ⟨x.nm.toArray⟩, .slice x.B x.bs.length x.c, .int .i64 (x.sf : Nat)] 130)
    have h3 := h2.alloc h2.size (.cells #[.slice none 0 0, .int .i64 0, .int .i64 0, .bool false] 53)
    exact h3.alloc h3.size _
  have k1 : Blk W0 w.heap.size 53 #[.slice A n c, .int .i64 most, .int .i64 fuse, .bool down] := by rw [hW0]; exact (((Blk.new w 53 _).alloc _).alloc _).alloc _
  have kx : Blk W0 (w.heap.size + 1) 130 #[.string ⟨x.nm.toArray⟩, .slice x.B x.bs.length x.c, .int .i64 (x.sf : Nat)] := by
    rw [hW0]
    have := ((Blk.new (w.alloc (.cells #[.slice A n c, .int .i64 most, .int .i64 fuse, .bool down] 53)) 130 #[.string ⟨x.nm.toArray⟩, .slice x.B x.bs.length x.c, .int .i64 (x.sf : Nat)]).alloc (.cells #[.slice none 0 0, .int .i64 0, .int .i64 0, .bool false] 53)).alloc (.cells #[] 130)
    simpa using this
  have k2 : Blk W0 (w.heap.size + 2) 53 #[.slice none 0 0, .int .i64 0, .int .i64 0, .bool false] := by
    rw [hW0]
    have := (Blk.new ((w.alloc (.cells #[.slice A n c, .int .i64 most, .int .i64 fuse, .bool down] 53)).alloc (.cells #[.string ⟨x.nm.toArray⟩, .slice x.B x.bs.length x.c, .int .i64 (x.sf : Nat)] 130)) 53 #[.slice none 0 0, .int .i64 0, .int .i64 0, .bool false]).alloc (.cells #[] 130)
    simpa using this
  have o0 : OutAt W0 (w.heap.size + 3) (.slice (some ⟨w.heap.size + 1 + 1 + 1, 0, none⟩) 0 0) [] := by
    rw [hW0]
    refine ⟨rfl, .inr ⟨w.heap.size + 3, 0, #[], rfl, Nat.le_refl _, ?_, Nat.le_refl _, Nat.zero_le _, rfl, rfl⟩⟩
    have := heap_alloc_new (((w.alloc (.cells #[.slice A n c, .int .i64 most, .int .i64 fuse, .bool down] 53)).alloc (.cells #[.string ⟨x.nm.toArray⟩, .slice x.B x.bs.length x.c, .int .i64 (x.sf : Nat)] 130)).alloc (.cells #[.slice none 0 0, .int .i64 0, .int .i64 0, .bool false] 53)) (.cells #[] 130)
    simpa using this
  have K1 := Lib.hid k1
  have KX := Lib.hid kx
  have K2 := Lib.hid k2
  have B0 := Lib.hid b0
  have O0 := Lib.hid o0
  clear k1 k2 kx b0 o0
  go_enter Try.func75, Try.ntmps75
  go_wp2_with fail
  rw [← hW0]
  clear hW0
  go_loopw [5, 6, 7] (fun v dn i wr => ∃ (j : Nat) (out : List FR) (d : Bool), j ≤ n ∧ out.length ≤ 2 * j ∧ i = .int .i64 (j : Nat) ∧ dn = .bool d ∧ OutAt wr (w.heap.size + 3) v out ∧ (out.map FR.t, d) = ((fs.map FR.t).take j).foldl (withStep x.t) ([], false) ∧ (∀ f ∈ out, f = x ∨ f ∈ fs) ∧ Below (w.heap.size + 3) W0 wr) (fun _ _ i _ => n - (intOf i).toNat)
  case atStart => exact ⟨0, [], false, Nat.zero_le _, Nat.zero_le _, rfl, rfl, O0.out, rfl, (fun f hf => nomatch hf), Below.refl _ _⟩
  case round =>
    clear O0
    obtain ⟨j, out, d, hj, hol, rfl, rfl, ho, hV, hsub, hb⟩ := hrel
    have hbs := hb.size
    obtain ⟨Av, cv, ev⟩ := ho.shape
    subst ev
    have HB := Lib.hid (B0.out.trans (hb.mono (by omega)))
    have HO := Lib.hid ho
    have H0 := Lib.hid hb
    have HSUB := Lib.hid hsub
    by_cases hlt : j < n
    · have hlt' : (j : Int) < (n : Int) := by omega
      have hj0 : (0 : Int) ≤ (j : Int) := by omega
      obtain ⟨b, o, rfl, hYb, hbl, hc⟩ := H.out.2.2 (by omega)
      obtain ⟨f, hf⟩ : ∃ f, fs[j]? = some f := ⟨fs[j]'(by omega), List.getElem?_eq_getElem _⟩
      have hmf : f ∈ fs := List.mem_of_getElem? hf
      have hft : (fs.map FR.t)[j]? = some f.t := by rw [List.getElem?_map, hf]; rfl
      have hsn : ((fs.map FR.t).take (j + 1)).foldl (withStep x.t) ([], false) = withStep x.t (out.map FR.t, d) f.t := by
        rw [(take_succ_at hft).1, List.foldl_append, ← hV]; rfl
      have hF : WFacts w wr b o j n c x f most fuse down := by
        obtain ⟨q0, q1, q2, q3, -, -, -⟩ := blk4 (K1.out.below hb (by omega))
        obtain ⟨x0, x1, x2, -, -, -⟩ := blk3 (KX.out.below hb (by omega))
        refine ⟨q0, q1, q2, q3, x0, x1, x2, ?_, ?_, ?_⟩
        · rw [HB.out.cell (p := ⟨b, o + j * 3, none⟩) hbl]; exact (hc j f hf).1
        · rw [HB.out.cell (p := ⟨b, o + j * 3 + 1, none⟩) hbl]; exact (hc j f hf).2.1
        · rw [HB.out.cell (p := ⟨b, o + j * 3 + 2, none⟩) hbl]; exact (hc j f hf).2.2
      have HF := Lib.hid hF
      have SN := Lib.hid hsn
      have MF := Lib.hid hmf
      have SF := Lib.hid hf
      clear hc hf hft ho hb hV hsub hsn hmf hF
      cases d with
      | true =>
        by_cases heq : f.nm = x.nm
        · obtain ⟨q0, q1, q2, q3, x0, x1, x2, y0, y1, y2⟩ := HF.out
          have hbe : (ByteArray.toList ⟨f.nm.toArray⟩ == ByteArray.toList ⟨x.nm.toArray⟩) = true := by rw [beq_str]; exact decide_eq_true heq
          have SN2 := Lib.hid (show ((out).map FR.t, true) = ((fs.map FR.t).take (j + 1)).foldl (withStep x.t) ([], false) by
            rw [SN.out]
            unfold withStep
            have e1 : f.t.1 = f.nm := rfl
            have e2 : x.t.1 = x.nm := rfl
            rw [e1, e2]
            rw [if_pos heq]
            simp)
          generalize hsf : (⟨f.nm.toArray⟩ : ByteArray) = sf at q0 q1 q2 q3 x0 x1 x2 y0 y1 y2 hbe
          generalize hsx : (⟨x.nm.toArray⟩ : ByteArray) = sx at q0 q1 q2 q3 x0 x1 x2 y0 y1 y2 hbe
          have HSF := Lib.hid hsf
          have HSX := Lib.hid hsx
          clear heq hsf hsx
          go_wp2_with fail
          go_quiet (fail)
          have HOa := Lib.hid (HO.out.below (drewN_bel wr nq))
          have Ha := Lib.hid (H0.out.trans (drewN_bel wr nq))
          have HFa := Lib.hid (HF.out.below (N := w.heap.size + 3) (drewN_bel wr nq) (by omega) (by omega))
          have hbsa : W0.heap.size ≤ (wr.drewN nq).heap.size := Ha.out.size
          generalize wr.drewN nq = wa at HOa Ha HFa hbsa ⊢
          clear q0 q1 q2 q3 x0 x1 x2 y0 y1 y2 HO H0 HF hbs HB
          obtain ⟨q0, q1, q2, q3, x0, x1, x2, y0, y1, y2⟩ := HFa.out
          rw [HSF.out] at y0
          rw [HSX.out] at x0
          go_wp2_with fail
          go_quiet (fail)
          have HOc := Lib.hid (HOa.out.below (drewN_bel wa nq))
          have Hc := Lib.hid (Ha.out.trans (drewN_bel wa nq))
          have HFc := Lib.hid (HFa.out.below (N := w.heap.size + 3) (drewN_bel wa nq) (by omega) (by omega))
          have hbsc : W0.heap.size ≤ (wa.drewN nq).heap.size := Hc.out.size
          generalize wa.drewN nq = wc at HOc Hc HFc hbsc ⊢
          clear q0 q1 q2 q3 x0 x1 x2 y0 y1 y2
          obtain ⟨q0, q1, q2, q3, x0, x1, x2, y0, y1, y2⟩ := HFc.out
          rw [HSF.out] at y0
          rw [HSX.out] at x0
          go_wp2
          go_roundw
          case rel =>
            refine ⟨j + 1, out, true, by omega, by (try simp only [List.length_append, List.length_singleton]); omega, by go_num, rfl, by first | exact HOc.out | simpa using HOc.out, SN2.out, ?_, Hc.out⟩
            intro g hg
            try simp only [List.mem_append, List.mem_singleton] at hg
            exact HSUB.out g hg
          case measure => simp [intOf]; omega
        · obtain ⟨q0, q1, q2, q3, x0, x1, x2, y0, y1, y2⟩ := HF.out
          have hbe : (ByteArray.toList ⟨f.nm.toArray⟩ == ByteArray.toList ⟨x.nm.toArray⟩) = false := by rw [beq_str]; exact decide_eq_false heq
          have SN2 := Lib.hid (show ((out ++ [f]).map FR.t, true) = ((fs.map FR.t).take (j + 1)).foldl (withStep x.t) ([], false) by
            rw [SN.out]
            unfold withStep
            have e1 : f.t.1 = f.nm := rfl
            have e2 : x.t.1 = x.nm := rfl
            rw [e1, e2]
            rw [if_neg heq]
            simp)
          generalize hsf : (⟨f.nm.toArray⟩ : ByteArray) = sf at q0 q1 q2 q3 x0 x1 x2 y0 y1 y2 hbe
          generalize hsx : (⟨x.nm.toArray⟩ : ByteArray) = sx at q0 q1 q2 q3 x0 x1 x2 y0 y1 y2 hbe
          have HSF := Lib.hid hsf
          have HSX := Lib.hid hsx
          clear heq hsf hsx
          go_wp2_with fail
          go_quiet (fail)
          have HOa := Lib.hid (HO.out.below (drewN_bel wr nq))
          have Ha := Lib.hid (H0.out.trans (drewN_bel wr nq))
          have HFa := Lib.hid (HF.out.below (N := w.heap.size + 3) (drewN_bel wr nq) (by omega) (by omega))
          have hbsa : W0.heap.size ≤ (wr.drewN nq).heap.size := Ha.out.size
          generalize wr.drewN nq = wa at HOa Ha HFa hbsa ⊢
          clear q0 q1 q2 q3 x0 x1 x2 y0 y1 y2 HO H0 HF hbs HB
          obtain ⟨q0, q1, q2, q3, x0, x1, x2, y0, y1, y2⟩ := HFa.out
          rw [HSF.out] at y0
          rw [HSX.out] at x0
          go_wp2_with fail
          go_quiet (fail)
          have HOc := Lib.hid (HOa.out.below (drewN_bel wa nq))
          have Hc := Lib.hid (Ha.out.trans (drewN_bel wa nq))
          have HFc := Lib.hid (HFa.out.below (N := w.heap.size + 3) (drewN_bel wa nq) (by omega) (by omega))
          have hbsc : W0.heap.size ≤ (wa.drewN nq).heap.size := Hc.out.size
          generalize wa.drewN nq = wc at HOc Hc HFc hbsc ⊢
          clear q0 q1 q2 q3 x0 x1 x2 y0 y1 y2
          obtain ⟨q0, q1, q2, q3, x0, x1, x2, y0, y1, y2⟩ := HFc.out
          rw [HSF.out] at y0
          rw [HSX.out] at x0
          obtain ⟨Ae, ce, we, hrun, ho, hb⟩ := put_file (W := wc) 51 HOc.out (by omega) f (by (try simp only [List.length_append, List.length_singleton]); omega)
          rw [HSF.out] at hrun
          try simp only [List.length_append, List.length_singleton] at hrun
          have HRUN := Lib.hid hrun
          have HOe := Lib.hid ho
          have He := Lib.hid (Hc.out.trans hb)
          have HFe := Lib.hid (HFc.out.below hb (by omega) (by omega))
          have hbse : W0.heap.size ≤ we.heap.size := He.out.size
          clear hrun ho hb
          go_wp2_with (at_builtin; refine wpList_append_run rfl (.tmp 42) (.tmp 48) 51 rfl _ _ _ rfl rfl HRUN.out ?_)
          go_roundw
          case rel =>
            refine ⟨j + 1, out ++ [f], true, by omega, by (try simp only [List.length_append, List.length_singleton]); omega, by go_num, rfl, by first | exact HOe.out | simpa using HOe.out, SN2.out, ?_, He.out⟩
            intro g hg
            try simp only [List.mem_append, List.mem_singleton] at hg
            rcases hg with hg | hg
            · exact HSUB.out g hg
            · exact .inr (hg ▸ MF.out)
          case measure => simp [intOf]; omega
      | false =>
        cases hbf : bytesBefore f.nm x.nm with
        | true =>
          have heq : ¬ f.nm = x.nm := before_ne hbf
          obtain ⟨q0, q1, q2, q3, x0, x1, x2, y0, y1, y2⟩ := HF.out
          have hls : Op.bytesLess (ByteArray.toList ⟨f.nm.toArray⟩) (ByteArray.toList ⟨x.nm.toArray⟩) = true := by rw [less_str]; exact hbf
          have hbe : (ByteArray.toList ⟨f.nm.toArray⟩ == ByteArray.toList ⟨x.nm.toArray⟩) = false := by rw [beq_str]; exact decide_eq_false heq
          have SN2 := Lib.hid (show ((out ++ [f]).map FR.t, false) = ((fs.map FR.t).take (j + 1)).foldl (withStep x.t) ([], false) by
            rw [SN.out]
            unfold withStep
            have e1 : f.t.1 = f.nm := rfl
            have e2 : x.t.1 = x.nm := rfl
            rw [e1, e2, hbf]
            rw [if_neg heq]
            simp)
          generalize hsf : (⟨f.nm.toArray⟩ : ByteArray) = sf at q0 q1 q2 q3 x0 x1 x2 y0 y1 y2 hbe hls
          generalize hsx : (⟨x.nm.toArray⟩ : ByteArray) = sx at q0 q1 q2 q3 x0 x1 x2 y0 y1 y2 hbe hls
          have HSF := Lib.hid hsf
          have HSX := Lib.hid hsx
          clear heq hbf hsf hsx
          go_wp2_with fail
          go_quiet (fail)
          have HOa := Lib.hid (HO.out.below (drewN_bel wr nq))
          have Ha := Lib.hid (H0.out.trans (drewN_bel wr nq))
          have HFa := Lib.hid (HF.out.below (N := w.heap.size + 3) (drewN_bel wr nq) (by omega) (by omega))
          have hbsa : W0.heap.size ≤ (wr.drewN nq).heap.size := Ha.out.size
          generalize wr.drewN nq = wa at HOa Ha HFa hbsa ⊢
          clear q0 q1 q2 q3 x0 x1 x2 y0 y1 y2 HO H0 HF hbs HB
          obtain ⟨q0, q1, q2, q3, x0, x1, x2, y0, y1, y2⟩ := HFa.out
          rw [HSF.out] at y0
          rw [HSX.out] at x0
          go_wp2_with fail
          go_quiet (fail)
          have HOc := Lib.hid (HOa.out.below (drewN_bel wa nq))
          have Hc := Lib.hid (Ha.out.trans (drewN_bel wa nq))
          have HFc := Lib.hid (HFa.out.below (N := w.heap.size + 3) (drewN_bel wa nq) (by omega) (by omega))
          have hbsc : W0.heap.size ≤ (wa.drewN nq).heap.size := Hc.out.size
          generalize wa.drewN nq = wc at HOc Hc HFc hbsc ⊢
          clear q0 q1 q2 q3 x0 x1 x2 y0 y1 y2
          obtain ⟨q0, q1, q2, q3, x0, x1, x2, y0, y1, y2⟩ := HFc.out
          rw [HSF.out] at y0
          rw [HSX.out] at x0
          obtain ⟨Ae, ce, we, hrun, ho, hb⟩ := put_file (W := wc) 51 HOc.out (by omega) f (by (try simp only [List.length_append, List.length_singleton]); omega)
          rw [HSF.out] at hrun
          try simp only [List.length_append, List.length_singleton] at hrun
          have HRUN := Lib.hid hrun
          have HOe := Lib.hid ho
          have He := Lib.hid (Hc.out.trans hb)
          have HFe := Lib.hid (HFc.out.below hb (by omega) (by omega))
          have hbse : W0.heap.size ≤ we.heap.size := He.out.size
          clear hrun ho hb
          go_wp2_with (at_builtin; refine wpList_append_run rfl (.tmp 42) (.tmp 48) 51 rfl _ _ _ rfl rfl HRUN.out ?_)
          go_roundw
          case rel =>
            refine ⟨j + 1, out ++ [f], false, by omega, by (try simp only [List.length_append, List.length_singleton]); omega, by go_num, rfl, by first | exact HOe.out | simpa using HOe.out, SN2.out, ?_, He.out⟩
            intro g hg
            try simp only [List.mem_append, List.mem_singleton] at hg
            rcases hg with hg | hg
            · exact HSUB.out g hg
            · exact .inr (hg ▸ MF.out)
          case measure => simp [intOf]; omega
        | false =>
          by_cases heq : f.nm = x.nm
          · obtain ⟨q0, q1, q2, q3, x0, x1, x2, y0, y1, y2⟩ := HF.out
            have hls : Op.bytesLess (ByteArray.toList ⟨f.nm.toArray⟩) (ByteArray.toList ⟨x.nm.toArray⟩) = false := by rw [less_str]; exact hbf
            have hbe : (ByteArray.toList ⟨f.nm.toArray⟩ == ByteArray.toList ⟨x.nm.toArray⟩) = true := by rw [beq_str]; exact decide_eq_true heq
            have SN2 := Lib.hid (show ((out ++ [x]).map FR.t, true) = ((fs.map FR.t).take (j + 1)).foldl (withStep x.t) ([], false) by
              rw [SN.out]
              unfold withStep
              have e1 : f.t.1 = f.nm := rfl
              have e2 : x.t.1 = x.nm := rfl
              rw [e1, e2, hbf]
              rw [if_pos heq]
              simp)
            generalize hsf : (⟨f.nm.toArray⟩ : ByteArray) = sf at q0 q1 q2 q3 x0 x1 x2 y0 y1 y2 hbe hls
            generalize hsx : (⟨x.nm.toArray⟩ : ByteArray) = sx at q0 q1 q2 q3 x0 x1 x2 y0 y1 y2 hbe hls
            have HSF := Lib.hid hsf
            have HSX := Lib.hid hsx
            clear heq hbf hsf hsx
            go_wp2_with fail
            go_quiet (fail)
            have HOa := Lib.hid (HO.out.below (drewN_bel wr nq))
            have Ha := Lib.hid (H0.out.trans (drewN_bel wr nq))
            have HFa := Lib.hid (HF.out.below (N := w.heap.size + 3) (drewN_bel wr nq) (by omega) (by omega))
            have hbsa : W0.heap.size ≤ (wr.drewN nq).heap.size := Ha.out.size
            generalize wr.drewN nq = wa at HOa Ha HFa hbsa ⊢
            clear q0 q1 q2 q3 x0 x1 x2 y0 y1 y2 HO H0 HF hbs HB
            obtain ⟨q0, q1, q2, q3, x0, x1, x2, y0, y1, y2⟩ := HFa.out
            rw [HSF.out] at y0
            rw [HSX.out] at x0
            obtain ⟨Ab, cb, wb, hrun, ho, hb⟩ := put_file (W := wa) 51 HOa.out (by omega) x (by (try simp only [List.length_append, List.length_singleton]); omega)
            rw [HSX.out] at hrun
            try simp only [List.length_append, List.length_singleton] at hrun
            have HRUN := Lib.hid hrun
            have HOb := Lib.hid ho
            have Hb := Lib.hid (Ha.out.trans hb)
            have HFb := Lib.hid (HFa.out.below hb (by omega) (by omega))
            have hbsb : W0.heap.size ≤ wb.heap.size := Hb.out.size
            clear hrun ho hb
            go_wp2_with (at_builtin; refine wpList_append_run rfl (.tmp 29) (.tmp 31) 51 rfl _ _ _ rfl rfl HRUN.out ?_)
            clear q0 q1 q2 q3 x0 x1 x2 y0 y1 y2 HRUN
            obtain ⟨q0, q1, q2, q3, x0, x1, x2, y0, y1, y2⟩ := HFb.out
            rw [HSF.out] at y0
            rw [HSX.out] at x0
            go_quiet (fail)
            have HOc := Lib.hid (HOb.out.below (drewN_bel wb nq))
            have Hc := Lib.hid (Hb.out.trans (drewN_bel wb nq))
            have HFc := Lib.hid (HFb.out.below (N := w.heap.size + 3) (drewN_bel wb nq) (by omega) (by omega))
            have hbsc : W0.heap.size ≤ (wb.drewN nq).heap.size := Hc.out.size
            generalize wb.drewN nq = wc at HOc Hc HFc hbsc ⊢
            clear q0 q1 q2 q3 x0 x1 x2 y0 y1 y2
            obtain ⟨q0, q1, q2, q3, x0, x1, x2, y0, y1, y2⟩ := HFc.out
            rw [HSF.out] at y0
            rw [HSX.out] at x0
            go_wp2
            go_roundw
            case rel =>
              refine ⟨j + 1, out ++ [x], true, by omega, by (try simp only [List.length_append, List.length_singleton]); omega, by go_num, rfl, by first | exact HOc.out | simpa using HOc.out, SN2.out, ?_, Hc.out⟩
              intro g hg
              try simp only [List.mem_append, List.mem_singleton] at hg
              rcases hg with hg | hg
              · exact HSUB.out g hg
              · exact .inl hg
            case measure => simp [intOf]; omega
          · obtain ⟨q0, q1, q2, q3, x0, x1, x2, y0, y1, y2⟩ := HF.out
            have hls : Op.bytesLess (ByteArray.toList ⟨f.nm.toArray⟩) (ByteArray.toList ⟨x.nm.toArray⟩) = false := by rw [less_str]; exact hbf
            have hbe : (ByteArray.toList ⟨f.nm.toArray⟩ == ByteArray.toList ⟨x.nm.toArray⟩) = false := by rw [beq_str]; exact decide_eq_false heq
            have SN2 := Lib.hid (show ((out ++ [x] ++ [f]).map FR.t, true) = ((fs.map FR.t).take (j + 1)).foldl (withStep x.t) ([], false) by
              rw [SN.out]
              unfold withStep
              have e1 : f.t.1 = f.nm := rfl
              have e2 : x.t.1 = x.nm := rfl
              rw [e1, e2, hbf]
              rw [if_neg heq]
              simp)
            generalize hsf : (⟨f.nm.toArray⟩ : ByteArray) = sf at q0 q1 q2 q3 x0 x1 x2 y0 y1 y2 hbe hls
            generalize hsx : (⟨x.nm.toArray⟩ : ByteArray) = sx at q0 q1 q2 q3 x0 x1 x2 y0 y1 y2 hbe hls
            have HSF := Lib.hid hsf
            have HSX := Lib.hid hsx
            clear heq hbf hsf hsx
            go_wp2_with fail
            go_quiet (fail)
            have HOa := Lib.hid (HO.out.below (drewN_bel wr nq))
            have Ha := Lib.hid (H0.out.trans (drewN_bel wr nq))
            have HFa := Lib.hid (HF.out.below (N := w.heap.size + 3) (drewN_bel wr nq) (by omega) (by omega))
            have hbsa : W0.heap.size ≤ (wr.drewN nq).heap.size := Ha.out.size
            generalize wr.drewN nq = wa at HOa Ha HFa hbsa ⊢
            clear q0 q1 q2 q3 x0 x1 x2 y0 y1 y2 HO H0 HF hbs HB
            obtain ⟨q0, q1, q2, q3, x0, x1, x2, y0, y1, y2⟩ := HFa.out
            rw [HSF.out] at y0
            rw [HSX.out] at x0
            obtain ⟨Ab, cb, wb, hrun, ho, hb⟩ := put_file (W := wa) 51 HOa.out (by omega) x (by (try simp only [List.length_append, List.length_singleton]); omega)
            rw [HSX.out] at hrun
            try simp only [List.length_append, List.length_singleton] at hrun
            have HRUN := Lib.hid hrun
            have HOb := Lib.hid ho
            have Hb := Lib.hid (Ha.out.trans hb)
            have HFb := Lib.hid (HFa.out.below hb (by omega) (by omega))
            have hbsb : W0.heap.size ≤ wb.heap.size := Hb.out.size
            clear hrun ho hb
            go_wp2_with (at_builtin; refine wpList_append_run rfl (.tmp 29) (.tmp 31) 51 rfl _ _ _ rfl rfl HRUN.out ?_)
            clear q0 q1 q2 q3 x0 x1 x2 y0 y1 y2 HRUN
            obtain ⟨q0, q1, q2, q3, x0, x1, x2, y0, y1, y2⟩ := HFb.out
            rw [HSF.out] at y0
            rw [HSX.out] at x0
            go_quiet (fail)
            have HOc := Lib.hid (HOb.out.below (drewN_bel wb nq))
            have Hc := Lib.hid (Hb.out.trans (drewN_bel wb nq))
            have HFc := Lib.hid (HFb.out.below (N := w.heap.size + 3) (drewN_bel wb nq) (by omega) (by omega))
            have hbsc : W0.heap.size ≤ (wb.drewN nq).heap.size := Hc.out.size
            generalize wb.drewN nq = wc at HOc Hc HFc hbsc ⊢
            clear q0 q1 q2 q3 x0 x1 x2 y0 y1 y2
            obtain ⟨q0, q1, q2, q3, x0, x1, x2, y0, y1, y2⟩ := HFc.out
            rw [HSF.out] at y0
            rw [HSX.out] at x0
            obtain ⟨Ae, ce, we, hrun, ho, hb⟩ := put_file (W := wc) 51 HOc.out (by omega) f (by (try simp only [List.length_append, List.length_singleton]); omega)
            rw [HSF.out] at hrun
            try simp only [List.length_append, List.length_singleton] at hrun
            have HRUN := Lib.hid hrun
            have HOe := Lib.hid ho
            have He := Lib.hid (Hc.out.trans hb)
            have HFe := Lib.hid (HFc.out.below hb (by omega) (by omega))
            have hbse : W0.heap.size ≤ we.heap.size := He.out.size
            clear hrun ho hb
            go_wp2_with (at_builtin; refine wpList_append_run rfl (.tmp 42) (.tmp 48) 51 rfl _ _ _ rfl rfl HRUN.out ?_)
            go_roundw
            case rel =>
              refine ⟨j + 1, out ++ [x] ++ [f], true, by omega, by (try simp only [List.length_append, List.length_singleton]); omega, by go_num, rfl, by first | exact HOe.out | simpa using HOe.out, SN2.out, ?_, He.out⟩
              intro g hg
              try simp only [List.mem_append, List.mem_singleton] at hg
              rcases hg with (hg | hg) | hg
              · exact HSUB.out g hg
              · exact .inl hg
              · exact .inr (hg ▸ MF.out)
            case measure => simp [intOf]; omega
    · have hlt' : ¬ (j : Int) < (n : Int) := by omega
      rw [List.take_of_length_le (by rw [List.length_map]; omega)] at hV
      have k1 : Blk wr w.heap.size 53 #[.slice A n c, .int .i64 most, .int .i64 fuse, .bool down] := K1.out.below hb (by omega)
      have kx : Blk wr (w.heap.size + 1) 130 #[.string ⟨x.nm.toArray⟩, .slice x.B x.bs.length x.c, .int .i64 (x.sf : Nat)] := KX.out.below hb (by omega)
      have k2 : Blk wr (w.heap.size + 2) 53 #[.slice none 0 0, .int .i64 0, .int .i64 0, .bool false] := K2.out.below hb (by omega)
      have INS := Lib.hid (show ∀ g ∈ out ++ [x], FOk w Y g by
        intro g hg
        rcases List.mem_append.1 hg with h1 | h1
        · rcases hsub g h1 with rfl | h2
          · exact HX.out
          · exact H.out.2.1 g h2
        · rw [List.mem_singleton.1 h1]; exact HX.out)
      cases d with
      | true =>
        have HV := Lib.hid (show out.map FR.t = withL x.t (fs.map FR.t) by unfold withL; rw [← hV]; simp)
        have f0 := (k1).frozen 0
        obtain ⟨q0, q1, q2, q3, -, -, -⟩ := blk4 (k1)
        obtain ⟨r0, r1, r2, r3, -, -, -⟩ := blk4 (k2)
        have g0 := (k2).frozen 0
        have g1 := (k2).frozen 1
        have g2 := (k2).frozen 2
        have g3 := (k2).frozen 3
        have b2 := (((((HB.out.setCell (p := ⟨w.heap.size, 0, none⟩) (show w.heap.size ≤ w.heap.size by omega) (.slice Av out.length cv)).setCell (p := ⟨w.heap.size + 2, 0, none⟩) (show w.heap.size ≤ w.heap.size + 2 by omega) (.slice Av out.length cv)).setCell (p := ⟨w.heap.size + 2, 1, none⟩) (show w.heap.size ≤ w.heap.size + 2 by omega) (.int .i64 most)).setCell (p := ⟨w.heap.size + 2, 2, none⟩) (show w.heap.size ≤ w.heap.size + 2 by omega) (.int .i64 fuse)).setCell (p := ⟨w.heap.size + 2, 3, none⟩) (show w.heap.size ≤ w.heap.size + 2 by omega) (.bool down))
        have o2 := (((((HO.out.set_ (p := ⟨w.heap.size, 0, none⟩) (show w.heap.size < w.heap.size + 3 by omega) (.slice Av out.length cv)).set_ (p := ⟨w.heap.size + 2, 0, none⟩) (show w.heap.size + 2 < w.heap.size + 3 by omega) (.slice Av out.length cv)).set_ (p := ⟨w.heap.size + 2, 1, none⟩) (show w.heap.size + 2 < w.heap.size + 3 by omega) (.int .i64 most)).set_ (p := ⟨w.heap.size + 2, 2, none⟩) (show w.heap.size + 2 < w.heap.size + 3 by omega) (.int .i64 fuse)).set_ (p := ⟨w.heap.size + 2, 3, none⟩) (show w.heap.size + 2 < w.heap.size + 3 by omega) (.bool down))
        have FIN := Lib.hid (fs_fin (most := most) (fuse := fuse) (down := down) b2 o2 (by omega) (fun g hg => INS.out g (List.mem_append_left _ hg)) hY HV.out)
        clear b2 o2
        have HK := Lib.hid (And.intro k1 k2)
        clear k1 kx k2 hV hsub hb ho
        go_wp2
        refine bodyPost_ret (v := .agg #[.slice Av out.length cv, .int .i64 most, .int .i64 fuse, .bool down]) (by simp [results, Try.results75, go_sem, *]) rfl ?_
        exact FIN.out
      | false =>
        have HV := Lib.hid (show (out ++ [x]).map FR.t = withL x.t (fs.map FR.t) by unfold withL; rw [← hV]; simp)
        obtain ⟨p0, p1, p2, p3, -, -, -⟩ := blk4 k1
        obtain ⟨x0, x1, x2, -, -, -⟩ := blk3 kx
        obtain ⟨Ae, ce, we, hrun, hoe, hbe⟩ := put_file (W := wr) 51 HO.out (by omega) x (by omega)
        have HRUN := Lib.hid hrun
        have HOe := Lib.hid hoe
        have HBe := Lib.hid (HB.out.trans (hbe.mono (by omega)))
        have m1 : Blk we w.heap.size 53 #[.slice A n c, .int .i64 most, .int .i64 fuse, .bool down] := k1.below hbe (by omega)
        have m2 : Blk we (w.heap.size + 2) 53 #[.slice none 0 0, .int .i64 0, .int .i64 0, .bool false] := k2.below hbe (by omega)
        have hle : (out ++ [x]).length = out.length + 1 := by simp
        clear hrun hoe hbe
        have f0 := (m1).frozen 0
        obtain ⟨q0, q1, q2, q3, -, -, -⟩ := blk4 (m1)
        obtain ⟨r0, r1, r2, r3, -, -, -⟩ := blk4 (m2)
        have g0 := (m2).frozen 0
        have g1 := (m2).frozen 1
        have g2 := (m2).frozen 2
        have g3 := (m2).frozen 3
        have b2 := (((((HBe.out.setCell (p := ⟨w.heap.size, 0, none⟩) (show w.heap.size ≤ w.heap.size by omega) (.slice Ae (out.length + 1) ce)).setCell (p := ⟨w.heap.size + 2, 0, none⟩) (show w.heap.size ≤ w.heap.size + 2 by omega) (.slice Ae (out.length + 1) ce)).setCell (p := ⟨w.heap.size + 2, 1, none⟩) (show w.heap.size ≤ w.heap.size + 2 by omega) (.int .i64 most)).setCell (p := ⟨w.heap.size + 2, 2, none⟩) (show w.heap.size ≤ w.heap.size + 2 by omega) (.int .i64 fuse)).setCell (p := ⟨w.heap.size + 2, 3, none⟩) (show w.heap.size ≤ w.heap.size + 2 by omega) (.bool down))
        have o2 := (((((HOe.out.set_ (p := ⟨w.heap.size, 0, none⟩) (show w.heap.size < w.heap.size + 3 by omega) (.slice Ae (out.length + 1) ce)).set_ (p := ⟨w.heap.size + 2, 0, none⟩) (show w.heap.size + 2 < w.heap.size + 3 by omega) (.slice Ae (out.length + 1) ce)).set_ (p := ⟨w.heap.size + 2, 1, none⟩) (show w.heap.size + 2 < w.heap.size + 3 by omega) (.int .i64 most)).set_ (p := ⟨w.heap.size + 2, 2, none⟩) (show w.heap.size + 2 < w.heap.size + 3 by omega) (.int .i64 fuse)).set_ (p := ⟨w.heap.size + 2, 3, none⟩) (show w.heap.size + 2 < w.heap.size + 3 by omega) (.bool down))
        have FIN := Lib.hid (fs_fin (most := most) (fuse := fuse) (down := down) b2 o2 (by omega) INS.out hY HV.out)
        clear b2 o2
        have HK := Lib.hid (And.intro m1 m2)
        clear k1 kx k2 hV hsub hb ho m1 m2 hle
        go_wp2_with (at_builtin; refine wpList_append_run rfl (.tmp 52) (.tmp 54) 51 rfl _ _ _ rfl rfl HRUN.out ?_)
        refine bodyPost_ret (v := .agg #[.slice Ae (out.length + 1) ce, .int .i64 most, .int .i64 fuse, .bool down]) (by simp [results, Try.results75, go_sem, *]) rfl ?_
        exact FIN.out
end Go.Proofs.Yteokiaeojgjpdaa
