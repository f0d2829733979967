/- The document's Right. The document's Total. -/
import Derived.Test.YtplenagncmhhoaaDoorSnC
namespace Go.Proofs.YtplenagncmhhoaaDoor
open Go.RowKit

theorem all_noR {ps : List PtB} {i : Nat} {p : PtB} (h : ps[i]? = some p) (hr : rightPt p = false) (su bo : ByteArray) : rightS su bo ps = false := by
  unfold rightS
  rw [all_noP h hr, Bool.and_false]
set_option maxHeartbeats 4000000 in
set_option maxRecDepth 100000 in
theorem rRight_any {w : World} (su bo : ByteArray) {A : Option Addr} {n c : Nat} {ps : List PtB} (h : PartsAt w A n ps) (hsu : su.size ≤ maxLen) (hbo : bo.size ≤ maxLen) :
    Calls Tryd.prog 18 #[.agg #[.string su, .string bo, .slice A n c]] w fun e w' => e = .returned (.bool (rightS su bo ps)) ∧ Below w.heap.size w w' := by
  have hl := h.1
  have hn := h.2.1
  have HC := Lib.hid h.2.2.2
  have HSZ := Lib.hid h.2.2.1
  have B0 := Lib.hid ((Below.refl w.heap.size w).alloc (Nat.le_refl _) (.cells #[.string su, .string bo, .slice A n c] 29))
  have Z0 := Lib.hid (Blk.new w 29 #[.string su, .string bo, .slice A n c])
  have HN1 := Lib.hid (fun W => right19 su W hsu)
  have HN2 := Lib.hid (fun W => right19 bo W hbo)
  clear h
  go_enter Tryd.func18, Tryd.ntmps18
  go_wp2_with fail
  go_loopw [3] (fun i wr => ∃ k : Nat, k ≤ n ∧ i = .int .i64 (k : Nat) ∧ (ps.take k).all rightPt = true ∧ Below w.heap.size w wr ∧ Blk wr w.heap.size 29 #[.string su, .string bo, .slice A n c]) (fun i _ => n - (intOf i).toNat)
  case atStart => exact ⟨0, Nat.zero_le _, rfl, rfl, B0.out, Z0.out⟩
  case round =>
    obtain ⟨k, hk, rfl, hall, hbw, hz⟩ := hrel
    have HALL := Lib.hid hall
    have HBW := Lib.hid hbw
    have HZ := Lib.hid hz
    have hsw := hbw.size
    have hzl := hz.lt
    obtain ⟨z0, z1, z2, f0, f1, f2⟩ := blk3 hz
    clear hall hbw hz
    by_cases hlt : k < n
    · have hlt' : (k : Int) < (n : Int) := by omega
      have hk0 : (0 : Int) ≤ (k : Int) := by omega
      obtain ⟨b, f, rfl, hbl, hcell⟩ := HC.out (by omega)
      obtain ⟨⟨g, rs⟩, hr⟩ : ∃ r, ps[k]? = some r := ⟨ps[k]'(by omega), List.getElem?_eq_getElem _⟩
      obtain ⟨RA, rn, rc, c1, c2, hres⟩ := hcell k _ hr
      replace c1 := (World.cell?_of_block (a := ⟨b, f + k * 2, none⟩) (HBW.out.block b hbl)).trans c1
      replace c2 := (World.cell?_of_block (a := ⟨b, f + k * 2 + 1, none⟩) (HBW.out.block b hbl)).trans c2
      have HR := Lib.hid hr
      have HRES := Lib.hid hres
      have hrl : rs.length = rn := hres.1
      have hrn : rn ≤ 140737488355328 := hres.2.1
      have hgs : g.size ≤ maxLen := HSZ.out _ (List.mem_of_getElem? hr)
      have HG := Lib.hid (fun W => right19 g W hgs)
      have hq : IntKind.i64.wrap ((k : Int) + 1) = (k : Int) + 1 := IntWalk.i64_in _ (by omega)
      clear hr hcell hres
      cases hgn : rightB g.size
      · have HNO := Lib.hid (all_noR HR.out (by unfold rightPt; rw [hgn, Bool.and_false]) su bo)
        rw [hgn] at HG
        go_wp2_with fail
        (with_reducible refine (HG.out _).mono ?_)
        rintro e w' ⟨rfl, rfl⟩
        go_wp2
        go_ret
        exact ⟨by rw [HNO.out]; rfl, HBW.out⟩
      · rw [hgn] at HG
        have HGN := Lib.hid hgn
        clear hgn
        obtain ⟨wo, hwo⟩ : ∃ wo, wo = wr := ⟨_, rfl⟩
        subst hwo
        go_wp2_with fail
        (with_reducible refine (HG.out _).mono ?_)
        rintro e w' ⟨rfl, rfl⟩
        go_wp2
        go_loopw [4] (fun i wq => ∃ j : Nat, j ≤ rn ∧ i = .int .i64 (j : Nat) ∧ (rs.take j).all rightR1 = true ∧ Below wo.heap.size wo wq) (fun i _ => rn - (intOf i).toNat)
        case atStart => exact ⟨0, Nat.zero_le _, rfl, rfl, Below.refl _ _⟩
        case round =>
          obtain ⟨j, hj, rfl, hallj, hbq⟩ := hrel
          have HALLJ := Lib.hid hallj
          have HBQ := Lib.hid hbq
          have hsq := hbq.size
          have d1 := (hbq.cell (p := ⟨w.heap.size, 2, none⟩) hzl).trans z2
          have d2 := (hbq.cell (p := ⟨b, f + k * 2 + 1, none⟩) (by simp only; omega)).trans c2
          clear hallj hbq
          by_cases hjt : j < rn
          · have hjt' : (j : Int) < (rn : Int) := by omega
            have hj0 : (0 : Int) ≤ (j : Int) := by omega
            obtain ⟨_, _, hsz2, hcc⟩ := HRES.out
            obtain ⟨rb, rf, rfl, hrbl, hrc⟩ := hcc (by omega)
            obtain ⟨⟨nm, v⟩, hrj⟩ : ∃ r, rs[j]? = some r := ⟨rs[j]'(by omega), List.getElem?_eq_getElem _⟩
            obtain ⟨e1, e2⟩ := hrc j _ hrj
            have hbq2 := (HBW.out.trans (HBQ.out.mono hsw)).block rb hrbl
            replace e1 := (World.cell?_of_block (a := ⟨rb, rf + j * 2, none⟩) hbq2).trans e1
            replace e2 := (World.cell?_of_block (a := ⟨rb, rf + j * 2 + 1, none⟩) hbq2).trans e2
            have HRJ := Lib.hid hrj
            have HN := Lib.hid (fun W => right19 nm W (hsz2 _ (List.mem_of_getElem? hrj)))
            have hqj : IntKind.i64.wrap ((j : Int) + 1) = (j : Int) + 1 := IntWalk.i64_in _ (by omega)
            have HNOJ := Lib.hid (fun (h : rightR1 (nm, v) = false) => all_noR HR.out (show rightPt (g, rs) = false by unfold rightPt; rw [all_no HRJ.out h]; rfl) su bo)
            clear hbq2 hrj hrc hcc hsz2
            cases hnn : rightB nm.size
            · rw [hnn] at HN
              have HNO := Lib.hid (HNOJ.out (by unfold rightR1; rw [hnn]; rfl))
              go_wp2_with fail
              (with_reducible refine (HN.out _).mono ?_)
              rintro e w' ⟨rfl, rfl⟩
              go_wp2
              go_ret
              exact ⟨by rw [HNO.out]; rfl, HBW.out.trans ((HBQ.out.alloc hsq _).mono hsw)⟩
            · rw [hnn] at HN
              have HNN := Lib.hid hnn
              clear hnn
              by_cases hv1 : v < 1
              · have HNO := Lib.hid (HNOJ.out (by unfold rightR1 rightV; simp; omega))
                go_wp2_with fail
                (with_reducible refine (HN.out _).mono ?_)
                rintro e w' ⟨rfl, rfl⟩
                go_wp2
                go_ret
                exact ⟨by rw [HNO.out]; rfl, HBW.out.trans ((HBQ.out.alloc hsq _).mono hsw)⟩
              · by_cases hv7 : 7 < v
                · have HNO := Lib.hid (HNOJ.out (by unfold rightR1 rightV; simp; omega))
                  go_wp2_with fail
                  (with_reducible refine (HN.out _).mono ?_)
                  rintro e w' ⟨rfl, rfl⟩
                  go_wp2
                  go_ret
                  exact ⟨by rw [HNO.out]; rfl, HBW.out.trans ((HBQ.out.alloc hsq _).mono hsw)⟩
                · have HY := Lib.hid (show (rs.take (j + 1)).all rightR1 = true by
                    rw [all_take HRJ.out, HALLJ.out]
                    unfold rightR1 rightV
                    rw [HNN.out]
                    simp; omega)
                  go_wp2_with fail
                  (with_reducible refine (HN.out _).mono ?_)
                  rintro e w' ⟨rfl, rfl⟩
                  go_wp2
                  go_roundw
                  case rel => exact ⟨j + 1, by omega, by go_num, HY.out, HBQ.out.alloc hsq _⟩
                  case measure => simp [intOf]; omega
          · have hjt' : ¬ (j : Int) < (rn : Int) := by omega
            have HY := Lib.hid (show (ps.take (k + 1)).all rightPt = true by
              rw [all_take HR.out, HALL.out]
              unfold rightPt rightRs
              have h := HALLJ.out
              rw [List.take_of_length_le (by omega)] at h
              simp only [h, HGN.out, Bool.true_and])
            go_wp2
            go_roundw
            case rel => exact ⟨k + 1, by omega, by go_num, HY.out, HBW.out.trans (HBQ.out.mono hsw), HZ.out.below HBQ.out hzl⟩
            case measure => simp [intOf]; omega
    · have hlt' : ¬ (k : Int) < (n : Int) := by omega
      have HY := Lib.hid (show rightS su bo ps = (rightB su.size && rightB bo.size) by
        unfold rightS rightPs
        have h := HALL.out
        rw [List.take_of_length_le (by omega)] at h
        rw [h, Bool.and_true])
      cases h1 : rightB su.size
      · rw [h1] at HN1 HY
        go_wp2_with fail
        (with_reducible refine (HN1.out _).mono ?_)
        rintro e w' ⟨rfl, rfl⟩
        go_wp2
        go_ret
        exact ⟨by rw [HY.out]; rfl, HBW.out⟩
      · rw [h1] at HN1 HY
        go_wp2_with fail
        (with_reducible refine (HN1.out _).mono ?_)
        rintro e w' ⟨rfl, rfl⟩
        go_wp2_with fail
        (with_reducible refine (HN2.out _).mono ?_)
        rintro e w' ⟨rfl, rfl⟩
        go_wp2
        go_ret
        exact ⟨by rw [HY.out]; rfl, HBW.out⟩
end Go.Proofs.YtplenagncmhhoaaDoor
namespace Go.Proofs.YtplenagncmhhoaaDoor
open Go.RowKit

set_option maxHeartbeats 4000000 in
set_option maxRecDepth 100000 in
theorem rTotal_any {w : World} (su bo : ByteArray) (v : Int) {A : Option Addr} {n c : Nat} {ps : List PtB} (h : PartsAt w A n ps) (hb : (ps.map fun p => p.2.length).sum ≤ 1000000) :
    Calls Tryd.prog 16 #[.agg #[.string su, .string bo, .slice A n c], .int .i64 v] w fun e w' => e = .returned (.int .i64 (totV ps v : Nat)) ∧ Below w.heap.size w w' := by
  have hl := h.1
  have hn := h.2.1
  have HC := Lib.hid h.2.2.2
  have B0 := Lib.hid ((Below.refl w.heap.size w).alloc (Nat.le_refl _) (.cells #[.string su, .string bo, .slice A n c] 29))
  have Z0 := Lib.hid (Blk.new w 29 #[.string su, .string bo, .slice A n c])
  obtain ⟨W, hW⟩ : ∃ W, W = w.alloc (.cells #[.string su, .string bo, .slice A n c] 29) := ⟨_, rfl⟩
  clear h
  go_enter Tryd.func16, Tryd.ntmps16
  go_wp2_with fail
  rw [← hW]
  rw [← hW] at B0 Z0
  clear hW
  obtain ⟨_, _, z2, _, _, _⟩ := blk3 Z0.out
  have hlt0 := Z0.out.lt
  go_loopw [5, 6] (fun m i wr => ∃ k : Nat, k ≤ n ∧ i = .int .i64 (k : Nat) ∧ m = .int .i64 (totV (ps.take k) v : Nat) ∧ wr = W) (fun _ i _ => n - (intOf i).toNat)
  case atStart => exact ⟨0, Nat.zero_le _, rfl, rfl, rfl⟩
  case round =>
    obtain ⟨k, hk, rfl, rfl, rfl⟩ := hrel
    have htot : totV (ps.take k) v ≤ 1000000 := Nat.le_trans (totV_le _ v) (Nat.le_trans (sum_take ps k) hb)
    by_cases hlt : k < n
    · have hlt' : (k : Int) < (n : Int) := by omega
      have hk0 : (0 : Int) ≤ (k : Int) := by omega
      obtain ⟨b, f, rfl, hbl, hcell⟩ := HC.out (by omega)
      obtain ⟨⟨g, rs⟩, hr⟩ : ∃ r, ps[k]? = some r := ⟨ps[k]'(by omega), List.getElem?_eq_getElem _⟩
      obtain ⟨RA, rn, rc, c1, c2, hres⟩ := hcell k _ hr
      replace c2 := (World.cell?_of_block (a := ⟨b, f + k * 2 + 1, none⟩) (B0.out.block b hbl)).trans c2
      have htot2 : totV (ps.take (k + 1)) v ≤ 1000000 := Nat.le_trans (totV_le _ v) (Nat.le_trans (sum_take ps (k + 1)) hb)
      have HS := Lib.hid (totV_take hr v)
      have HR := Lib.hid (rcount_any rc v (hres.below B0.out).rss)
      rw [HS.out] at htot2
      simp only at htot2 HS
      obtain ⟨T, hT⟩ : ∃ T, T = totV (ps.take k) v := ⟨_, rfl⟩
      rw [← hT] at htot2 htot HS
      rw [← hT]
      generalize cntL (rs.map (·.2)) v = C at HS HR htot2
      have hq : IntKind.i64.wrap ((k : Int) + 1) = (k : Int) + 1 := IntWalk.i64_in _ (by omega)
      have hq2 : IntKind.i64.wrap ((T : Int) + (C : Int)) = (T : Int) + (C : Int) := IntWalk.i64_in _ (by omega)
      clear hr hcell hres c1 hT
      go_wp2_with fail
      (with_reducible refine HR.out.mono ?_)
      rintro e w3 ⟨rfl, rfl⟩
      go_wp2
      go_roundw
      case rel => exact ⟨k + 1, by omega, by go_num, by rw [HS.out]; push_cast; rfl, by trivial⟩
      case measure => simp [intOf]; omega
    · have hlt' : ¬ (k : Int) < (n : Int) := by omega
      have htk : ps.take k = ps := List.take_of_length_le (by omega)
      rw [htk]
      clear htk
      go_wp2
      go_ret
      exact ⟨rfl, B0.out⟩
end Go.Proofs.YtplenagncmhhoaaDoor
