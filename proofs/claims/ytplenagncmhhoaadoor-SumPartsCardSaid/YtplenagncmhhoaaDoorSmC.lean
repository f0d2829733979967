/- sum.rightPart, sum.Right. -/
import Derived.Test.YtplenagncmhhoaaDoorBk
import Derived.Test.YtplenagncmhhoaaDoorEw
import Derived.Test.YtplenagncmhhoaaDoorEh
import Derived.Test.YtplenagncmhhoaaDoorNmRd
namespace Go.Proofs.YtplenagncmhhoaaDoor
open Go.RowKit

abbrev Rs := List (ByteArray × Int)
def ResAt (w : World) (A : Option Addr) (n : Nat) (rs : Rs) : Prop :=
  rs.length = n ∧ n ≤ 140737488355328 ∧ (∀ r, r ∈ rs → r.1.size ≤ maxLen) ∧ (0 < n → ∃ b f, A = some ⟨b, f, none⟩ ∧ b < w.heap.size ∧ ∀ i r, rs[i]? = some r → w.cell? ⟨b, f + i * 2, none⟩ = some (.string r.1) ∧ w.cell? ⟨b, f + i * 2 + 1, none⟩ = some (.int .i64 r.2))
theorem ResAt.up {w w' : World} {A : Option Addr} {n : Nat} {rs : Rs} (h : ResAt w A n rs) (hb : ∀ b, b < w.heap.size → w'.heap[b]? = w.heap[b]?) (hs : w.heap.size ≤ w'.heap.size) : ResAt w' A n rs := by
  obtain ⟨h1, h2, h3, h4⟩ := h
  refine ⟨h1, h2, h3, fun h0 => ?_⟩
  obtain ⟨b, f, e, hl, hc⟩ := h4 h0
  refine ⟨b, f, e, by omega, fun i r hi => ?_⟩
  obtain ⟨c1, c2⟩ := hc i r hi
  exact ⟨(World.cell?_of_block (a := ⟨b, f + i * 2, none⟩) (hb b hl)).trans c1, (World.cell?_of_block (a := ⟨b, f + i * 2 + 1, none⟩) (hb b hl)).trans c2⟩
theorem ResAt.below {w w' : World} {A : Option Addr} {n : Nat} {rs : Rs} (h : ResAt w A n rs) (hb : Below w.heap.size w w') : ResAt w' A n rs := h.up (fun b hlt => hb.block b hlt) hb.size
abbrev PtB := ByteArray × Rs
def PartsAt (w : World) (A : Option Addr) (n : Nat) (ps : List PtB) : Prop :=
  ps.length = n ∧ n ≤ 140737488355328 ∧ (∀ p, p ∈ ps → p.1.size ≤ maxLen) ∧ (0 < n → ∃ b f, A = some ⟨b, f, none⟩ ∧ b < w.heap.size ∧ ∀ i p, ps[i]? = some p → ∃ RA rn rc, w.cell? ⟨b, f + i * 2, none⟩ = some (.string p.1) ∧ w.cell? ⟨b, f + i * 2 + 1, none⟩ = some (.slice RA rn rc) ∧ ResAt w RA rn p.2)
theorem PartsAt.below {w w' : World} {A : Option Addr} {n : Nat} {ps : List PtB} (h : PartsAt w A n ps) (hb : Below w.heap.size w w') : PartsAt w' A n ps := by
  obtain ⟨h1, h2, h3, h4⟩ := h
  refine ⟨h1, h2, h3, fun h0 => ?_⟩
  obtain ⟨b, f, e, hl, hc⟩ := h4 h0
  refine ⟨b, f, e, Nat.lt_of_lt_of_le hl hb.size, fun i p hi => ?_⟩
  obtain ⟨RA, rn, rc, c1, c2, c3⟩ := hc i p hi
  exact ⟨RA, rn, rc, (World.cell?_of_block (a := ⟨b, f + i * 2, none⟩) (hb.block b hl)).trans c1, (World.cell?_of_block (a := ⟨b, f + i * 2 + 1, none⟩) (hb.block b hl)).trans c2, c3.below hb⟩
def rightV (v : Int) : Bool := decide (1 ≤ v) && decide (v ≤ 7)
def rightR1 (r : ByteArray × Int) : Bool := rightB r.1.size && rightV r.2
def rightRs (rs : Rs) : Bool := rs.all rightR1
def rightPt (p : PtB) : Bool := rightRs p.2 && rightB p.1.size
def rightPs (ps : List PtB) : Bool := ps.all rightPt
def rightS (su bo : ByteArray) (ps : List PtB) : Bool := rightB su.size && rightB bo.size && rightPs ps
theorem wordT_emp (v : Int) : (wordT v).toList.isEmpty = !rightV v := by
  rw [ByteArray.toList_eq]
  rcases nine v with rfl | rfl | rfl | rfl | rfl | rfl | rfl | rfl | hv | hv
  rotate_left 8
  · rw [wordT_out (.inl hv)]
    have : rightV v = false := by unfold rightV; simp; omega
    rw [this]; rfl
  · rw [wordT_out (.inr hv)]
    have : rightV v = false := by unfold rightV; simp; omega
    rw [this]; rfl
  all_goals decide
theorem all_no {rs : Rs} {i : Nat} {r : ByteArray × Int} (h : rs[i]? = some r) (hr : rightR1 r = false) : rightRs rs = false := by
  unfold rightRs
  rw [List.all_eq_false]
  exact ⟨r, List.mem_of_getElem? h, by rw [hr]; simp⟩
theorem all_take {α : Type} {l : List α} {P : α → Bool} {i : Nat} {x : α} (h : l[i]? = some x) : (l.take (i + 1)).all P = ((l.take i).all P && P x) := by
  rw [List.take_add_one, h]; simp
set_option maxHeartbeats 2000000 in
set_option maxRecDepth 100000 in
theorem rightPart_any {w : World} (g : ByteArray) {A : Option Addr} {n c : Nat} {rs : Rs} (h : ResAt w A n rs) (ht : TabAt w) (hg : g.size ≤ maxLen) :
    Calls Tryd.prog 38 #[.agg #[.string g, .slice A n c]] w fun e w' => e = .returned (.bool (rightPt (g, rs))) ∧ Below w.heap.size w w' := by
  obtain ⟨hl, hn, hsz, hc⟩ := h
  have HC := Lib.hid hc
  have HSZ := Lib.hid hsz
  have HT := Lib.hid ht
  have HG := Lib.hid (fun W => right18 g W hg)
  have hb0 : Below w.heap.size w (w.alloc (.cells #[.string g, .slice A n c] 46)) := (Below.refl _ w).alloc (Nat.le_refl _) _
  have HB0 := Lib.hid hb0
  have HK0 := Lib.hid (Blk.new w 46 #[.string g, .slice A n c])
  clear hc hsz ht hg hb0
  go_enter Tryd.func38, Tryd.ntmps38
  go_wp2_with fail
  go_loopw [8] (fun vi wr => ∃ i : Nat, i ≤ n ∧ vi = .int .i64 (i : Nat) ∧ (rs.take i).all rightR1 = true ∧ Below w.heap.size w wr ∧ Blk wr w.heap.size 46 #[.string g, .slice A n c]) (fun vi _ => n - (intOf vi).toNat)
  case atStart => exact ⟨0, Nat.zero_le _, rfl, rfl, HB0.out, HK0.out⟩
  case round =>
    obtain ⟨i, hi, rfl, hall, hbw, hk⟩ := hrel
    have HALL := Lib.hid hall
    have HBW := Lib.hid hbw
    have HK := Lib.hid hk
    have hsw := hbw.size
    clear hall hbw hk
    by_cases hlt : i < n
    · have hlt' : (i : Int) < (n : Int) := by omega
      have hi0 : (0 : Int) ≤ (i : Int) := by omega
      obtain ⟨b, f, rfl, hbl, hcell⟩ := HC.out (by omega)
      obtain ⟨⟨nm, v⟩, hr⟩ : ∃ r, rs[i]? = some r := ⟨rs[i]'(by omega), List.getElem?_eq_getElem _⟩
      obtain ⟨c1, c2⟩ := hcell i _ hr
      have hbk := HBW.out.block b hbl
      replace c1 := (World.cell?_of_block (a := ⟨b, f + i * 2, none⟩) hbk).trans c1
      replace c2 := (World.cell?_of_block (a := ⟨b, f + i * 2 + 1, none⟩) hbk).trans c2
      have HR := Lib.hid hr
      have HN := Lib.hid (fun W => right18 nm W (HSZ.out _ (List.mem_of_getElem? hr)))
      have HTW := Lib.hid (fun (W : World) (hW : Below w.heap.size w W) => text_any (HT.out.below hW) v)
      have hem := wordT_emp v
      have hq : IntKind.i64.wrap ((i : Int) + 1) = (i : Int) + 1 := IntWalk.i64_in _ (by omega)
      clear hbk hcell hr
      cases hrn : rightB nm.size
      · have HNO := Lib.hid (show rightPt (g, rs) = false by unfold rightPt; rw [all_no HR.out (by unfold rightR1; rw [hrn]; rfl)]; rfl)
        rw [hrn] at HN
        go_wp2_with fail
        refine (HN.out _).mono ?_
        rintro e w' ⟨rfl, rfl⟩
        go_wp2
        go_ret
        exact ⟨by rw [HNO.out]; rfl, HBW.out.alloc hsw _⟩
      · rw [hrn] at HN
        cases hrv : rightV v
        · have HNO := Lib.hid (show rightPt (g, rs) = false by unfold rightPt; rw [all_no HR.out (by unfold rightR1; rw [hrn, hrv]; rfl)]; rfl)
          rw [hrv] at hem
          simp only [Bool.not_false] at hem
          go_wp2_with fail
          refine (HN.out _).mono ?_
          rintro e w' ⟨rfl, rfl⟩
          go_wp2_with fail
          refine (HTW.out _ (HBW.out.alloc hsw _)).mono ?_
          rintro e w' ⟨rfl, rfl⟩
          go_wp2
          go_ret
          exact ⟨by rw [HNO.out]; rfl, HBW.out.alloc hsw _⟩
        · have HY := Lib.hid (show (rs.take (i + 1)).all rightR1 = true by rw [all_take HR.out, HALL.out]; unfold rightR1; rw [hrn, hrv]; rfl)
          rw [hrv] at hem
          simp only [Bool.not_true] at hem
          go_wp2_with fail
          refine (HN.out _).mono ?_
          rintro e w' ⟨rfl, rfl⟩
          go_wp2_with fail
          refine (HTW.out _ (HBW.out.alloc hsw _)).mono ?_
          rintro e w' ⟨rfl, rfl⟩
          go_wp2
          go_roundw
          case rel => exact ⟨i + 1, by omega, by go_num, HY.out, HBW.out.alloc hsw _, HK.out.alloc _⟩
          case measure => simp [intOf]; omega
    · have hlt' : ¬ (i : Int) < (n : Int) := by omega
      have HY := Lib.hid (show rightPt (g, rs) = rightB g.size by
        unfold rightPt rightRs
        have h := HALL.out
        rw [List.take_of_length_le (by omega)] at h
        simp only [h, Bool.true_and])
      have k0 := HK.out.cell 0
      go_wp2_with fail
      refine (HG.out _).mono ?_
      rintro e w' ⟨rfl, rfl⟩
      go_wp2
      go_ret
      exact ⟨by rw [HY.out]; rfl, HBW.out⟩
end Go.Proofs.YtplenagncmhhoaaDoor
