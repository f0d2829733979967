/- sum.Totals. -/
import Derived.Test.YtplenagncmhhoaaDoorSmD
import Derived.BigRegion
namespace Go.Proofs.YtplenagncmhhoaaDoor
open Go.RowKit

theorem ResAt.rss {w : World} {A : Option Addr} {n : Nat} {rs : Rs} (h : ResAt w A n rs) : RssAt w A n (rs.map (·.2)) := by
  obtain ⟨h1, h2, _, h4⟩ := h
  refine ⟨by simpa using h1, by omega, fun h0 => ?_⟩
  obtain ⟨b, f, e, hl, hc⟩ := h4 h0
  refine ⟨b, f, e, hl, fun i v hi => ?_⟩
  rw [List.getElem?_map] at hi
  cases hr : rs[i]? with
  | none => rw [hr] at hi; cases hi
  | some r =>
    rw [hr] at hi
    simp at hi
    obtain ⟨c1, c2⟩ := hc i r hr
    exact ⟨⟨_, c1⟩, by rw [c2, hi]⟩
/-- How many results of some parts have a verdict. -/
def totV (ps : List PtB) (v : Int) : Nat := (ps.map fun p => cntL (p.2.map (·.2)) v).sum
theorem totV_take {ps : List PtB} {i : Nat} {p : PtB} (h : ps[i]? = some p) (v : Int) : totV (ps.take (i + 1)) v = totV (ps.take i) v + cntL (p.2.map (·.2)) v := by
  unfold totV
  rw [List.take_add_one, h]; simp
theorem cntL_le (vs : List Int) (v : Int) : cntL vs v ≤ vs.length := List.length_filter_le _ _
theorem totV_le : ∀ (ps : List PtB) (v : Int), totV ps v ≤ (ps.map fun p => p.2.length).sum
  | [], _ => Nat.le_refl _
  | p :: ps, v => by
    have h1 := cntL_le (p.2.map (·.2)) v
    have h2 := totV_le ps v
    rw [List.length_map] at h1
    show cntL (p.2.map (·.2)) v + totV ps v ≤ p.2.length + _
    exact Nat.add_le_add h1 h2
theorem sum_take : ∀ (ps : List PtB) (i : Nat), ((ps.take i).map fun p => p.2.length).sum ≤ (ps.map fun p => p.2.length).sum
  | [], i => by simp
  | p :: ps, 0 => by simp
  | p :: ps, i + 1 => by
    have h := sum_take ps i
    simp only [List.take_succ_cons, List.map_cons, List.sum_cons]
    exact Nat.add_le_add (Nat.le_refl _) h
def arr8 (a0 a1 a2 a3 a4 a5 a6 a7 : Nat) : Array Value := #[.int .i64 (a0 : Nat), .int .i64 (a1 : Nat), .int .i64 (a2 : Nat), .int .i64 (a3 : Nat), .int .i64 (a4 : Nat), .int .i64 (a5 : Nat), .int .i64 (a6 : Nat), .int .i64 (a7 : Nat)]
def totC (ps : List PtB) : Array Value := arr8 (totV ps 0) (totV ps 1) (totV ps 2) (totV ps 3) (totV ps 4) (totV ps 5) (totV ps 6) (totV ps 7)
set_option maxHeartbeats 4000000 in
set_option maxRecDepth 100000 in
theorem sTotals_any {w : World} (su bo : ByteArray) {A : Option Addr} {n c : Nat} {ps : List PtB} (h : PartsAt w A n ps) (hb : (ps.map fun p => p.2.length).sum ≤ 1000000) :
    Calls Tryd.prog 15 #[.agg #[.string su, .string bo, .slice A n c]] w fun e w' => e = .returned (.agg (totC ps)) ∧ Below w.heap.size w w' := by
  obtain ⟨hl, hn, hsz, hc⟩ := h
  have HC := Lib.hid hc
  have HZ1 := Lib.hid (show Blk (((w.alloc (.cells #[.string su, .string bo, .slice A n c] 24)).alloc (.cells #[.int .i64 0, .int .i64 0, .int .i64 0, .int .i64 0, .int .i64 0, .int .i64 0, .int .i64 0, .int .i64 0] 31)).alloc (.cells #[.int .i64 0, .int .i64 0, .int .i64 0, .int .i64 0, .int .i64 0, .int .i64 0, .int .i64 0, .int .i64 0] 31)) (w.heap.size + 1) 31 (arr8 0 0 0 0 0 0 0 0) by
    have h := (Blk.new (w.alloc (.cells #[.string su, .string bo, .slice A n c] 24)) 31 #[.int .i64 0, .int .i64 0, .int .i64 0, .int .i64 0, .int .i64 0, .int .i64 0, .int .i64 0, .int .i64 0]).alloc (.cells #[.int .i64 0, .int .i64 0, .int .i64 0, .int .i64 0, .int .i64 0, .int .i64 0, .int .i64 0, .int .i64 0] 31)
    simpa [arr8] using h)
  have HZ2 := Lib.hid (show Blk (((w.alloc (.cells #[.string su, .string bo, .slice A n c] 24)).alloc (.cells #[.int .i64 0, .int .i64 0, .int .i64 0, .int .i64 0, .int .i64 0, .int .i64 0, .int .i64 0, .int .i64 0] 31)).alloc (.cells #[.int .i64 0, .int .i64 0, .int .i64 0, .int .i64 0, .int .i64 0, .int .i64 0, .int .i64 0, .int .i64 0] 31)) (w.heap.size + 1 + 1) 31 (arr8 0 0 0 0 0 0 0 0) by
    have h := Blk.new ((w.alloc (.cells #[.string su, .string bo, .slice A n c] 24)).alloc (.cells #[.int .i64 0, .int .i64 0, .int .i64 0, .int .i64 0, .int .i64 0, .int .i64 0, .int .i64 0, .int .i64 0] 31)) 31 #[.int .i64 0, .int .i64 0, .int .i64 0, .int .i64 0, .int .i64 0, .int .i64 0, .int .i64 0, .int .i64 0]
    simpa [arr8] using h)
  have HZB := Lib.hid (show Below w.heap.size w (((w.alloc (.cells #[.string su, .string bo, .slice A n c] 24)).alloc (.cells #[.int .i64 0, .int .i64 0, .int .i64 0, .int .i64 0, .int .i64 0, .int .i64 0, .int .i64 0, .int .i64 0] 31)).alloc (.cells #[.int .i64 0, .int .i64 0, .int .i64 0, .int .i64 0, .int .i64 0, .int .i64 0, .int .i64 0, .int .i64 0] 31)) from (((Below.refl _ w).alloc (Nat.le_refl _) _).alloc (by simp) _).alloc (by simp; omega) _)
  clear hc hsz
  go_enter Tryd.func15, Tryd.ntmps15
  go_wp2_with fail
  go_loopw [11] (fun vi wr => ∃ i : Nat, i ≤ n ∧ vi = .int .i64 (i : Nat) ∧ Blk wr (w.heap.size + 1) 31 (arr8 0 0 0 0 0 0 0 0) ∧ Blk wr (w.heap.size + 1 + 1) 31 (totC (ps.take i)) ∧ Below w.heap.size w wr) (fun vi _ => n - (intOf vi).toNat)
  case atStart => exact ⟨0, Nat.zero_le _, rfl, HZ1.out, HZ2.out, HZB.out⟩
  case round =>
    obtain ⟨i, hi, rfl, hz1, hz2, hbw⟩ := hrel
    have Z1 := Lib.hid hz1
    have Z2 := Lib.hid hz2
    have HBW := Lib.hid hbw
    have hsw := hbw.size
    have hl2 := hz2.lt
    clear hz1 hz2 hbw
    by_cases hlt : i < n
    · have hlt' : (i : Int) < (n : Int) := by omega
      have hi0 : (0 : Int) ≤ (i : Int) := by omega
      obtain ⟨b, f, rfl, hbl, hcell⟩ := HC.out (by omega)
      obtain ⟨⟨g, rs⟩, hr⟩ : ∃ r, ps[i]? = some r := ⟨ps[i]'(by omega), List.getElem?_eq_getElem _⟩
      obtain ⟨RA, rn, rc, c1, c2, hres⟩ := hcell i _ hr
      have hbk := HBW.out.block b hbl
      replace c1 := (World.cell?_of_block (a := ⟨b, f + i * 2, none⟩) hbk).trans c1
      replace c2 := (World.cell?_of_block (a := ⟨b, f + i * 2 + 1, none⟩) hbk).trans c2
      have HR := Lib.hid hr
      have HBW2 := Lib.hid (HBW.out.alloc hsw (.cells #[.string g, .slice RA rn rc] 46))
      have HP := Lib.hid (count_any (w := wr.alloc (.cells #[.string g, .slice RA rn rc] 46)) rc (hres.below HBW2.out).rss)
      have hq : IntKind.i64.wrap ((i : Int) + 1) = (i : Int) + 1 := IntWalk.i64_in _ (by omega)
      have hsz3 := HBW2.out.size
      clear hbk hcell hr hres
      go_wp2_with fail
      refine HP.out.mono ?_
      rintro e w3 ⟨rfl, b3⟩
      have HB3 := Lib.hid (HBW2.out.trans (b3.mono hsz3))
      have Z3 := Lib.hid ((Z1.out.alloc (.cells #[.string g, .slice RA rn rc] 46)).below b3 (by simp; omega))
      have Z4 := Lib.hid ((Z2.out.alloc (.cells #[.string g, .slice RA rn rc] 46)).below b3 (by simp; omega))
      clear b3
      go_wp2_with fail
      have hbd := fun v => Nat.le_trans (Nat.le_trans (by have h := totV_take HR.out v; exact Nat.le_of_eq h.symm : totV (ps.take i) v + cntL (rs.map (·.2)) v ≤ totV (ps.take (i + 1)) v) (totV_le (ps.take (i + 1)) v)) (Nat.le_trans (sum_take ps (i + 1)) hb)
      have HTT := Lib.hid (fun v => totV_take HR.out v)
      have hvs : cntC (rs.map (·.2)) = arr8 (cntL (rs.map (·.2)) 0) (cntL (rs.map (·.2)) 1) (cntL (rs.map (·.2)) 2) (cntL (rs.map (·.2)) 3) (cntL (rs.map (·.2)) 4) (cntL (rs.map (·.2)) 5) (cntL (rs.map (·.2)) 6) (cntL (rs.map (·.2)) 7) := rfl
      rw [hvs]
      have Z5 := Lib.hid (show Blk w3 (w.heap.size + 1 + 1) 31 (arr8 (totV (ps.take i) 0) (totV (ps.take i) 1) (totV (ps.take i) 2) (totV (ps.take i) 3) (totV (ps.take i) 4) (totV (ps.take i) 5) (totV (ps.take i) 6) (totV (ps.take i) 7)) from Z4.out)
      clear hvs
      have hbd0 := hbd 0; have hbd1 := hbd 1; have hbd2 := hbd 2; have hbd3 := hbd 3; have hbd4 := hbd 4; have hbd5 := hbd 5; have hbd6 := hbd 6; have hbd7 := hbd 7
      clear hbd Z4
      generalize hT0 : totV (ps.take i) 0 = T0 at Z5 hbd0
      generalize hN0 : cntL (rs.map (·.2)) 0 = N0 at hbd0 ⊢
      generalize hT1 : totV (ps.take i) 1 = T1 at Z5 hbd1
      generalize hN1 : cntL (rs.map (·.2)) 1 = N1 at hbd1 ⊢
      generalize hT2 : totV (ps.take i) 2 = T2 at Z5 hbd2
      generalize hN2 : cntL (rs.map (·.2)) 2 = N2 at hbd2 ⊢
      generalize hT3 : totV (ps.take i) 3 = T3 at Z5 hbd3
      generalize hN3 : cntL (rs.map (·.2)) 3 = N3 at hbd3 ⊢
      generalize hT4 : totV (ps.take i) 4 = T4 at Z5 hbd4
      generalize hN4 : cntL (rs.map (·.2)) 4 = N4 at hbd4 ⊢
      generalize hT5 : totV (ps.take i) 5 = T5 at Z5 hbd5
      generalize hN5 : cntL (rs.map (·.2)) 5 = N5 at hbd5 ⊢
      generalize hT6 : totV (ps.take i) 6 = T6 at Z5 hbd6
      generalize hN6 : cntL (rs.map (·.2)) 6 = N6 at hbd6 ⊢
      generalize hT7 : totV (ps.take i) 7 = T7 at Z5 hbd7
      generalize hN7 : cntL (rs.map (·.2)) 7 = N7 at hbd7 ⊢
      have HT0 := Lib.hid hT0; have HN0 := Lib.hid hN0; have HT1 := Lib.hid hT1; have HN1 := Lib.hid hN1; have HT2 := Lib.hid hT2; have HN2 := Lib.hid hN2; have HT3 := Lib.hid hT3; have HN3 := Lib.hid hN3; have HT4 := Lib.hid hT4; have HN4 := Lib.hid hN4; have HT5 := Lib.hid hT5; have HN5 := Lib.hid hN5; have HT6 := Lib.hid hT6; have HN6 := Lib.hid hN6; have HT7 := Lib.hid hT7; have HN7 := Lib.hid hN7
      clear hT0 hN0 hT1 hN1 hT2 hN2 hT3 hN3 hT4 hN4 hT5 hN5 hT6 hN6 hT7 hN7
      have hix0 : ∀ W : World, (Instr.index 31 (.agg (arr8 N0 N1 N2 N3 N4 N5 N6 N7)) (.int .i64 0)).run Tryd.prog W = .ok (.int .i64 (N0 : Nat)) W := fun W => by kernel_rfl
      have hix1 : ∀ W : World, (Instr.index 31 (.agg (arr8 N0 N1 N2 N3 N4 N5 N6 N7)) (.int .i64 1)).run Tryd.prog W = .ok (.int .i64 (N1 : Nat)) W := fun W => by kernel_rfl
      have hix2 : ∀ W : World, (Instr.index 31 (.agg (arr8 N0 N1 N2 N3 N4 N5 N6 N7)) (.int .i64 2)).run Tryd.prog W = .ok (.int .i64 (N2 : Nat)) W := fun W => by kernel_rfl
      have hix3 : ∀ W : World, (Instr.index 31 (.agg (arr8 N0 N1 N2 N3 N4 N5 N6 N7)) (.int .i64 3)).run Tryd.prog W = .ok (.int .i64 (N3 : Nat)) W := fun W => by kernel_rfl
      have hix4 : ∀ W : World, (Instr.index 31 (.agg (arr8 N0 N1 N2 N3 N4 N5 N6 N7)) (.int .i64 4)).run Tryd.prog W = .ok (.int .i64 (N4 : Nat)) W := fun W => by kernel_rfl
      have hix5 : ∀ W : World, (Instr.index 31 (.agg (arr8 N0 N1 N2 N3 N4 N5 N6 N7)) (.int .i64 5)).run Tryd.prog W = .ok (.int .i64 (N5 : Nat)) W := fun W => by kernel_rfl
      have hix6 : ∀ W : World, (Instr.index 31 (.agg (arr8 N0 N1 N2 N3 N4 N5 N6 N7)) (.int .i64 6)).run Tryd.prog W = .ok (.int .i64 (N6 : Nat)) W := fun W => by kernel_rfl
      have hix7 : ∀ W : World, (Instr.index 31 (.agg (arr8 N0 N1 N2 N3 N4 N5 N6 N7)) (.int .i64 7)).run Tryd.prog W = .ok (.int .i64 (N7 : Nat)) W := fun W => by kernel_rfl
      go_loopw [18] (fun vi wr2 => ∃ k : Nat, k ≤ 8 ∧ vi = .int .i64 (k : Nat) ∧ Below w.heap.size w wr2 ∧ Blk wr2 (w.heap.size + 1) 31 (arr8 0 0 0 0 0 0 0 0) ∧ Blk wr2 (w.heap.size + 1 + 1) 31 (arr8 (if 0 < k then T0 + N0 else T0) (if 1 < k then T1 + N1 else T1) (if 2 < k then T2 + N2 else T2) (if 3 < k then T3 + N3 else T3) (if 4 < k then T4 + N4 else T4) (if 5 < k then T5 + N5 else T5) (if 6 < k then T6 + N6 else T6) (if 7 < k then T7 + N7 else T7))) (fun vi _ => 8 - (intOf vi).toNat)
      case atStart => exact ⟨0, Nat.zero_le _, rfl, HB3.out, Z3.out, Z5.out⟩
      case round =>
        obtain ⟨k, hk8, rfl, hb3, hz3, hz4⟩ := hrel
        have HBX := Lib.hid hb3
        have ZX := Lib.hid hz3
        have hl4 := hz4.lt
        clear hb3 hz3
        rcases (by omega : k = 0 ∨ k = 1 ∨ k = 2 ∨ k = 3 ∨ k = 4 ∨ k = 5 ∨ k = 6 ∨ k = 7 ∨ k = 8) with rfl | rfl | rfl | rfl | rfl | rfl | rfl | rfl | rfl
        · have ZY := Lib.hid (show Blk wr (w.heap.size + 1 + 1) 31 (arr8 T0 T1 T2 T3 T4 T5 T6 T7) from hz4)
          have d0 : wr.cell? ⟨w.heap.size + 1 + 1, 0, none⟩ = some (.int .i64 (T0 : Nat)) := ZY.out.cell 0
          have e0 := ZY.out.frozen 0
          have hwr : IntKind.i64.wrap ((T0 : Int) + (N0 : Int)) = (T0 : Int) + (N0 : Int) := IntWalk.i64_in _ (by omega)
          clear hz4
          go_wp2
          go_roundw
          case rel => exact ⟨1, by omega, by go_num, HBX.out.setCell (p := ⟨w.heap.size + 1 + 1, 0, none⟩) (by simp only; omega) _, ZX.out.far (p := ⟨w.heap.size + 1 + 1, 0, none⟩) (by simp only; omega) _, ZY.out.set_ 0 _⟩
          case measure => simp [intOf]
        · have ZY := Lib.hid (show Blk wr (w.heap.size + 1 + 1) 31 (arr8 (T0 + N0) T1 T2 T3 T4 T5 T6 T7) from hz4)
          have d1 : wr.cell? ⟨w.heap.size + 1 + 1, 1, none⟩ = some (.int .i64 (T1 : Nat)) := ZY.out.cell 1
          have e1 := ZY.out.frozen 1
          have hwr : IntKind.i64.wrap ((T1 : Int) + (N1 : Int)) = (T1 : Int) + (N1 : Int) := IntWalk.i64_in _ (by omega)
          clear hz4
          go_wp2
          go_roundw
          case rel => exact ⟨2, by omega, by go_num, HBX.out.setCell (p := ⟨w.heap.size + 1 + 1, 1, none⟩) (by simp only; omega) _, ZX.out.far (p := ⟨w.heap.size + 1 + 1, 1, none⟩) (by simp only; omega) _, ZY.out.set_ 1 _⟩
          case measure => simp [intOf]
        · have ZY := Lib.hid (show Blk wr (w.heap.size + 1 + 1) 31 (arr8 (T0 + N0) (T1 + N1) T2 T3 T4 T5 T6 T7) from hz4)
          have d2 : wr.cell? ⟨w.heap.size + 1 + 1, 2, none⟩ = some (.int .i64 (T2 : Nat)) := ZY.out.cell 2
          have e2 := ZY.out.frozen 2
          have hwr : IntKind.i64.wrap ((T2 : Int) + (N2 : Int)) = (T2 : Int) + (N2 : Int) := IntWalk.i64_in _ (by omega)
          clear hz4
          go_wp2
          go_roundw
          case rel => exact ⟨3, by omega, by go_num, HBX.out.setCell (p := ⟨w.heap.size + 1 + 1, 2, none⟩) (by simp only; omega) _, ZX.out.far (p := ⟨w.heap.size + 1 + 1, 2, none⟩) (by simp only; omega) _, ZY.out.set_ 2 _⟩
          case measure => simp [intOf]
        · have ZY := Lib.hid (show Blk wr (w.heap.size + 1 + 1) 31 (arr8 (T0 + N0) (T1 + N1) (T2 + N2) T3 T4 T5 T6 T7) from hz4)
          have d3 : wr.cell? ⟨w.heap.size + 1 + 1, 3, none⟩ = some (.int .i64 (T3 : Nat)) := ZY.out.cell 3
          have e3 := ZY.out.frozen 3
          have hwr : IntKind.i64.wrap ((T3 : Int) + (N3 : Int)) = (T3 : Int) + (N3 : Int) := IntWalk.i64_in _ (by omega)
          clear hz4
          go_wp2
          go_roundw
          case rel => exact ⟨4, by omega, by go_num, HBX.out.setCell (p := ⟨w.heap.size + 1 + 1, 3, none⟩) (by simp only; omega) _, ZX.out.far (p := ⟨w.heap.size + 1 + 1, 3, none⟩) (by simp only; omega) _, ZY.out.set_ 3 _⟩
          case measure => simp [intOf]
        · have ZY := Lib.hid (show Blk wr (w.heap.size + 1 + 1) 31 (arr8 (T0 + N0) (T1 + N1) (T2 + N2) (T3 + N3) T4 T5 T6 T7) from hz4)
          have d4 : wr.cell? ⟨w.heap.size + 1 + 1, 4, none⟩ = some (.int .i64 (T4 : Nat)) := ZY.out.cell 4
          have e4 := ZY.out.frozen 4
          have hwr : IntKind.i64.wrap ((T4 : Int) + (N4 : Int)) = (T4 : Int) + (N4 : Int) := IntWalk.i64_in _ (by omega)
          clear hz4
          go_wp2
          go_roundw
          case rel => exact ⟨5, by omega, by go_num, HBX.out.setCell (p := ⟨w.heap.size + 1 + 1, 4, none⟩) (by simp only; omega) _, ZX.out.far (p := ⟨w.heap.size + 1 + 1, 4, none⟩) (by simp only; omega) _, ZY.out.set_ 4 _⟩
          case measure => simp [intOf]
        · have ZY := Lib.hid (show Blk wr (w.heap.size + 1 + 1) 31 (arr8 (T0 + N0) (T1 + N1) (T2 + N2) (T3 + N3) (T4 + N4) T5 T6 T7) from hz4)
          have d5 : wr.cell? ⟨w.heap.size + 1 + 1, 5, none⟩ = some (.int .i64 (T5 : Nat)) := ZY.out.cell 5
          have e5 := ZY.out.frozen 5
          have hwr : IntKind.i64.wrap ((T5 : Int) + (N5 : Int)) = (T5 : Int) + (N5 : Int) := IntWalk.i64_in _ (by omega)
          clear hz4
          go_wp2
          go_roundw
          case rel => exact ⟨6, by omega, by go_num, HBX.out.setCell (p := ⟨w.heap.size + 1 + 1, 5, none⟩) (by simp only; omega) _, ZX.out.far (p := ⟨w.heap.size + 1 + 1, 5, none⟩) (by simp only; omega) _, ZY.out.set_ 5 _⟩
          case measure => simp [intOf]
        · have ZY := Lib.hid (show Blk wr (w.heap.size + 1 + 1) 31 (arr8 (T0 + N0) (T1 + N1) (T2 + N2) (T3 + N3) (T4 + N4) (T5 + N5) T6 T7) from hz4)
          have d6 : wr.cell? ⟨w.heap.size + 1 + 1, 6, none⟩ = some (.int .i64 (T6 : Nat)) := ZY.out.cell 6
          have e6 := ZY.out.frozen 6
          have hwr : IntKind.i64.wrap ((T6 : Int) + (N6 : Int)) = (T6 : Int) + (N6 : Int) := IntWalk.i64_in _ (by omega)
          clear hz4
          go_wp2
          go_roundw
          case rel => exact ⟨7, by omega, by go_num, HBX.out.setCell (p := ⟨w.heap.size + 1 + 1, 6, none⟩) (by simp only; omega) _, ZX.out.far (p := ⟨w.heap.size + 1 + 1, 6, none⟩) (by simp only; omega) _, ZY.out.set_ 6 _⟩
          case measure => simp [intOf]
        · have ZY := Lib.hid (show Blk wr (w.heap.size + 1 + 1) 31 (arr8 (T0 + N0) (T1 + N1) (T2 + N2) (T3 + N3) (T4 + N4) (T5 + N5) (T6 + N6) T7) from hz4)
          have d7 : wr.cell? ⟨w.heap.size + 1 + 1, 7, none⟩ = some (.int .i64 (T7 : Nat)) := ZY.out.cell 7
          have e7 := ZY.out.frozen 7
          have hwr : IntKind.i64.wrap ((T7 : Int) + (N7 : Int)) = (T7 : Int) + (N7 : Int) := IntWalk.i64_in _ (by omega)
          clear hz4
          go_wp2
          go_roundw
          case rel => exact ⟨8, by omega, by go_num, HBX.out.setCell (p := ⟨w.heap.size + 1 + 1, 7, none⟩) (by simp only; omega) _, ZX.out.far (p := ⟨w.heap.size + 1 + 1, 7, none⟩) (by simp only; omega) _, ZY.out.set_ 7 _⟩
          case measure => simp [intOf]
        · have ZY := Lib.hid (show Blk wr (w.heap.size + 1 + 1) 31 (arr8 (T0 + N0) (T1 + N1) (T2 + N2) (T3 + N3) (T4 + N4) (T5 + N5) (T6 + N6) (T7 + N7)) from hz4)
          clear hz4
          go_wp2
          go_roundw
          case rel =>
            refine ⟨i + 1, by omega, by go_num, ZX.out, ?_, HBX.out⟩
            unfold totC
            rw [HTT.out 0, HTT.out 1, HTT.out 2, HTT.out 3, HTT.out 4, HTT.out 5, HTT.out 6, HTT.out 7]
            rw [HT0.out, HN0.out, HT1.out, HN1.out, HT2.out, HN2.out, HT3.out, HN3.out, HT4.out, HN4.out, HT5.out, HN5.out, HT6.out, HN6.out, HT7.out, HN7.out]
            exact ZY.out
          case measure => simp [intOf]; omega
    · have hlt' : ¬ (i : Int) < (n : Int) := by omega
      rw [List.take_of_length_le (by omega)] at Z2
      have Z2' := Lib.hid (show Blk wr (w.heap.size + 1 + 1) 31 #[_, _, _, _, _, _, _, _] from Z2.out)
      obtain ⟨x0, x1, x2, x3, x4, x5, x6, x7⟩ := blk8 Z2'.out
      obtain ⟨y0, y1, y2, y3, y4, y5, y6, y7⟩ := blk8 (show Blk wr (w.heap.size + 1) 31 #[_, _, _, _, _, _, _, _] from Z1.out)
      have g0 := Z1.out.frozen 0; have g1 := Z1.out.frozen 1; have g2 := Z1.out.frozen 2; have g3 := Z1.out.frozen 3
      have g4 := Z1.out.frozen 4; have g5 := Z1.out.frozen 5; have g6 := Z1.out.frozen 6; have g7 := Z1.out.frozen 7
      go_wp2
      have HX := (show Blk _ (w.heap.size + 1) 31 #[_, _, _, _, _, _, _, _] from ((((((((Z1.out.set_ 0 (.int .i64 (totV ps 0 : Nat))).set_ 1 (.int .i64 (totV ps 1 : Nat))).set_ 2 (.int .i64 (totV ps 2 : Nat))).set_ 3 (.int .i64 (totV ps 3 : Nat))).set_ 4 (.int .i64 (totV ps 4 : Nat))).set_ 5 (.int .i64 (totV ps 5 : Nat))).set_ 6 (.int .i64 (totV ps 6 : Nat))).set_ 7 (.int .i64 (totV ps 7 : Nat))))
      obtain ⟨q0, q1, q2, q3, q4, q5, q6, q7⟩ := blk8 HX
      exact bodyPost_ret (v := .agg (totC ps)) (by simp [results, Tryd.results15, go_sem, q0, q1, q2, q3, q4, q5, q6, q7, totC, arr8]) rfl ⟨rfl, ((((((((HBW.out.setCell (p := ⟨w.heap.size + 1, 0, none⟩) (by simp only; omega) (.int .i64 (totV ps 0 : Nat))).setCell (p := ⟨w.heap.size + 1, 1, none⟩) (by simp only; omega) (.int .i64 (totV ps 1 : Nat))).setCell (p := ⟨w.heap.size + 1, 2, none⟩) (by simp only; omega) (.int .i64 (totV ps 2 : Nat))).setCell (p := ⟨w.heap.size + 1, 3, none⟩) (by simp only; omega) (.int .i64 (totV ps 3 : Nat))).setCell (p := ⟨w.heap.size + 1, 4, none⟩) (by simp only; omega) (.int .i64 (totV ps 4 : Nat))).setCell (p := ⟨w.heap.size + 1, 5, none⟩) (by simp only; omega) (.int .i64 (totV ps 5 : Nat))).setCell (p := ⟨w.heap.size + 1, 6, none⟩) (by simp only; omega) (.int .i64 (totV ps 6 : Nat))).setCell (p := ⟨w.heap.size + 1, 7, none⟩) (by simp only; omega) (.int .i64 (totV ps 7 : Nat)))⟩
end Go.Proofs.YtplenagncmhhoaaDoor
