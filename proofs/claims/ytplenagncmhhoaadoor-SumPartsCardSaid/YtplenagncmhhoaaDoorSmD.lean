/- sum.Right. -/
import Derived.Test.YtplenagncmhhoaaDoorSmC
namespace Go.Proofs.YtplenagncmhhoaaDoor
open Go.RowKit

theorem all_noP {ps : List PtB} {i : Nat} {p : PtB} (h : ps[i]? = some p) (hr : rightPt p = false) : rightPs ps = false := by
  unfold rightPs
  rw [List.all_eq_false]
  exact ⟨p, List.mem_of_getElem? h, by rw [hr]; simp⟩
set_option maxHeartbeats 2000000 in
set_option maxRecDepth 100000 in
theorem sRight_loop {w : World} (su bo : ByteArray) {A : Option Addr} {n c : Nat} {ps : List PtB} (h : PartsAt w A n ps) (ht : TabAt w) (hsu : su.size ≤ maxLen) (hbo : bo.size ≤ maxLen) (h1 : rightB su.size = true) (h2 : rightB bo.size = true) :
    Calls Tryd.prog 17 #[.agg #[.string su, .string bo, .slice A n c]] w fun e w' => e = .returned (.bool (rightPs ps)) ∧ Below w.heap.size w w' := by
  obtain ⟨hl, hn, hsz, hc⟩ := h
  have HC := Lib.hid hc
  have HSZ := Lib.hid hsz
  have HT := Lib.hid ht
  have HS := Lib.hid (fun W => right18 su W hsu)
  have HO := Lib.hid (fun W => right18 bo W hbo)
  rw [h1] at HS
  rw [h2] at HO
  have hb0 : Below w.heap.size w (w.alloc (.cells #[.string su, .string bo, .slice A n c] 24)) := (Below.refl _ w).alloc (Nat.le_refl _) _
  have HB0 := Lib.hid hb0
  clear hc hsz ht hb0 h1 h2
  go_enter Tryd.func17, Tryd.ntmps17
  go_wp2_with fail
  refine (HS.out _).mono ?_
  rintro e w' ⟨rfl, rfl⟩
  go_wp2_with fail
  refine (HO.out _).mono ?_
  rintro e w' ⟨rfl, rfl⟩
  go_wp2_with fail
  go_loopw [18] (fun vi wr => ∃ i : Nat, i ≤ n ∧ vi = .int .i64 (i : Nat) ∧ (ps.take i).all rightPt = true ∧ Below w.heap.size w wr) (fun vi _ => n - (intOf vi).toNat)
  case atStart => exact ⟨0, Nat.zero_le _, rfl, rfl, HB0.out⟩
  case round =>
    obtain ⟨i, hi, rfl, hall, hbw⟩ := hrel
    have HALL := Lib.hid hall
    have HBW := Lib.hid hbw
    have hsw := hbw.size
    clear hall hbw
    by_cases hlt : i < n
    · have hlt' : (i : Int) < (n : Int) := by omega
      have hi0 : (0 : Int) ≤ (i : Int) := by omega
      obtain ⟨b, f, rfl, hbl, hcell⟩ := HC.out (by omega)
      obtain ⟨⟨g, rs⟩, hr⟩ : ∃ r, ps[i]? = some r := ⟨ps[i]'(by omega), List.getElem?_eq_getElem _⟩
      obtain ⟨RA, rn, rc, c1, c2, hres⟩ := hcell i _ hr
      have hbk := HBW.out.block b hbl
      replace c1 := (World.cell?_of_block (a := ⟨b, f + i * 2, none⟩) hbk).trans c1
      replace c2 := (World.cell?_of_block (a := ⟨b, f + i * 2 + 1, none⟩) hbk).trans c2
      have HR := Lib.hid hr
      have HBW2 := Lib.hid (HBW.out.alloc hsw (.cells #[.string g, .slice RA rn rc] 46))
      have HP := Lib.hid (rightPart_any (w := wr.alloc (.cells #[.string g, .slice RA rn rc] 46)) g (c := rc) (hres.below HBW2.out) (HT.out.below HBW2.out) (HSZ.out _ (List.mem_of_getElem? hr)))
      have hq : IntKind.i64.wrap ((i : Int) + 1) = (i : Int) + 1 := IntWalk.i64_in _ (by omega)
      have hsz3 := HBW2.out.size
      clear hbk hcell hr hres
      cases hrp : rightPt (g, rs)
      · have HNO := Lib.hid (all_noP HR.out hrp)
        rw [hrp] at HP
        go_wp2_with fail
        refine HP.out.mono ?_
        rintro e w3 ⟨rfl, b3⟩
        go_wp2
        go_ret
        exact ⟨by rw [HNO.out]; rfl, HBW2.out.trans (b3.mono hsz3)⟩
      · have HY := Lib.hid (show (ps.take (i + 1)).all rightPt = true by rw [all_take HR.out, HALL.out, hrp]; rfl)
        rw [hrp] at HP
        go_wp2_with fail
        refine HP.out.mono ?_
        rintro e w3 ⟨rfl, b3⟩
        go_wp2
        go_roundw
        case rel => exact ⟨i + 1, by omega, by go_num, HY.out, HBW2.out.trans (b3.mono hsz3)⟩
        case measure => simp [intOf]; omega
    · have hlt' : ¬ (i : Int) < (n : Int) := by omega
      have HY := Lib.hid (show rightPs ps = true by
        have h := HALL.out
        rw [List.take_of_length_le (by omega)] at h
        exact h)
      go_wp2
      go_ret
      exact ⟨by rw [HY.out]; rfl, HBW.out⟩
set_option maxHeartbeats 2000000 in
set_option maxRecDepth 100000 in
theorem sRight_any {w : World} (su bo : ByteArray) {A : Option Addr} {n c : Nat} {ps : List PtB} (h : PartsAt w A n ps) (ht : TabAt w) (hsu : su.size ≤ maxLen) (hbo : bo.size ≤ maxLen) :
    Calls Tryd.prog 17 #[.agg #[.string su, .string bo, .slice A n c]] w fun e w' => e = .returned (.bool (rightS su bo ps)) ∧ Below w.heap.size w w' := by
  have HB := Lib.hid (fun o => (Below.refl w.heap.size w).alloc (Nat.le_refl _) o)
  cases h1 : rightB su.size
  · have HN := Lib.hid (show rightS su bo ps = false by unfold rightS; rw [h1]; rfl)
    have HS := Lib.hid (fun W => right18 su W hsu)
    rw [h1] at HS
    clear h ht
    go_enter Tryd.func17, Tryd.ntmps17
    go_wp2_with fail
    refine (HS.out _).mono ?_
    rintro e w' ⟨rfl, rfl⟩
    go_wp2
    go_ret
    exact ⟨by rw [HN.out]; rfl, HB.out _⟩
  · cases h2 : rightB bo.size
    · have HN := Lib.hid (show rightS su bo ps = false by unfold rightS; rw [h1, h2]; rfl)
      have HS := Lib.hid (fun W => right18 su W hsu)
      have HO := Lib.hid (fun W => right18 bo W hbo)
      rw [h1] at HS
      rw [h2] at HO
      clear h ht
      go_enter Tryd.func17, Tryd.ntmps17
      go_wp2_with fail
      refine (HS.out _).mono ?_
      rintro e w' ⟨rfl, rfl⟩
      go_wp2_with fail
      refine (HO.out _).mono ?_
      rintro e w' ⟨rfl, rfl⟩
      go_wp2
      go_ret
      exact ⟨by rw [HN.out]; rfl, HB.out _⟩
    · have := sRight_loop su bo (c := c) h ht hsu hbo h1 h2
      unfold rightS
      rw [h1, h2]
      simpa using this
end Go.Proofs.YtplenagncmhhoaaDoor
