/- PackReads: the walk of the function that reads. -/
import Derived.Test.YteokiaeojgjpdaaRf
namespace Go.Proofs.Yteokiaeojgjpdaa
open Go.RowKit Go.Maps

section
variable {N0 B rp p3 p5 p6 p7 box : Nat} {X : Nat → Prop} {A : Option Addr} {m c : Nat} {calls : List Int} {s : RSt} {rf : Bool} {w : World}
theorem ClsAt.keepV (h : ClsAt N0 B rp p3 p5 p6 p7 box X A m c calls s rf w) {w' : World} (hk : Kept (· = rp) w w') {tS tE : TypeId} {p : Nat} {U : Value} {xs : List Value} (hv : VarAt w B tS tE p U xs) (h1 : tS ≠ 144) (h2 : tE ≠ 144) : VarAt w' B tS tE p U xs := by
  obtain ⟨cs, hrb⟩ := h.rdBlk
  exact hv.keep (hk.block p hv.blk.lt (apart_ty hv.blk hrb h1)) fun g hg => by
    obtain ⟨cur, hc⟩ := hv.cells hg
    exact hk.block g (Array.getElem?_eq_some_iff.1 hc).1 (apart_ty hc hrb h2)
end
theorem VarAt.drew_ {w : World} {B : Nat} {tS tE : TypeId} {p : Nat} {U : Value} {xs : List Value} (h : VarAt w B tS tE p U xs) : VarAt w.drew B tS tE p U xs := h.keep rfl fun _ _ => rfl
theorem stepC_0 (bs : List UInt8) : stepC 0 bs = if (getL bs).2 = 0 then none else some ([(getL bs).1], [], bs.drop (getL bs).2) := by simp [stepC]
theorem stepC_1 (bs : List UInt8) : stepC 1 bs = if (getL bs).2 = 0 ∨ 1000 < (getL bs).1 then none else some ([(getL bs).1], [], bs.drop (getL bs).2) := by simp [stepC]
theorem stepC_2 (bs : List UInt8) : stepC 2 bs = if (getT 40 bs).2 = 0 then none else some ([], [(getT 40 bs).1], bs.drop (getT 40 bs).2) := by simp [stepC]
theorem stepC_o {z : Int} (bs : List UInt8) (h0 : z ≠ 0) (h1 : z ≠ 1) (h2 : z ≠ 2) : stepC z bs = some ([], [], bs) := by simp [stepC, h0, h1, h2]
theorem getL_zero {bs : List UInt8} (h : (getL bs).2 = 0) : getL bs = (0, 0) := by
  rcases getL_bd bs with e | e
  · exact e
  · omega
theorem getT_zero {bs : List UInt8} (h : (getT 40 bs).2 = 0) : getT 40 bs = ([], 0) := by
  unfold getT at h ⊢
  split
  · rfl
  · rename_i hc
    rw [if_neg hc] at h
    simp only at h
    omega
/-- What the function that reads has made. -/
def RPost (N0 B rp p3 p5 p6 p7 box : Nat) (X : Nat → Prop) (A : Option Addr) (m c : Nat) (calls : List Int) (sf : RSt) (ok : Bool) (w : World) (e : Ending) (w' : World) : Prop :=
  e = (if ok then .returned (.tuple #[]) else refusE rp) ∧ ClsAt N0 B rp p3 p5 p6 p7 box X A m c calls sf (!ok) w' ∧ Below N0 w w'
set_option maxHeartbeats 20000000 in
set_option maxRecDepth 100000 in
theorem reads1_any {N0 B rp p3 p5 p6 p7 box : Nat} {X : Nat → Prop} {A : Option Addr} {m c : Nat} {calls : List Int} {bs : List UInt8} {sf : RSt} {ok : Bool} {w : World} (h : ClsAt N0 B rp p3 p5 p6 p7 box X A m c calls ⟨[], [], [], bs⟩ false w) (hm : m ≤ 2000000) (hg : goC calls ⟨[], [], [], bs⟩ = (sf, ok)) :
    Calls Try.prog 36 #[.pointer (some ⟨rp, 0, none⟩), .pointer (some ⟨p3, 0, none⟩), .pointer (some ⟨p5, 0, none⟩), .pointer (some ⟨p6, 0, none⟩), .pointer (some ⟨p7, 0, none⟩)] w (RPost N0 B rp p3 p5 p6 p7 box X A m c calls sf ok w) := by
  have mixed : Try.prog.follows .mixedOrders = true := by kernel_rfl
  have c0 : w.cell? ⟨p3, 0, none⟩ = some (.slice A m c) := h.c3.cell 0
  have H := Lib.hid h
  have HG := Lib.hid hg
  have HB := Lib.hid (Below.refl N0 w)
  clear h hg
  go_enter Try.func36, Try.ntmps36
  go_wp2_with fail
  clear c0
  go_loopw [10] (fun i wr => ∃ (j : Nat) (st : RSt), j ≤ m ∧ i = .int .i64 j ∧ goC (calls.drop j) st = (sf, ok) ∧ st.nums.length ≤ j ∧ st.texts.length ≤ j ∧ st.left.length ≤ j ∧ ClsAt N0 B rp p3 p5 p6 p7 box X A m c calls st false wr ∧ Below N0 w wr) (fun i _ => m - (intOf i).toNat)
  case atStart => exact ⟨0, ⟨[], [], [], bs⟩, Nat.zero_le _, rfl, HG.out, Nat.zero_le _, Nat.zero_le _, Nat.zero_le _, H.out, HB.out⟩
  case round =>
    clear H HG HB
    obtain ⟨j, st, hj, rfl, hgo, hn5, hn6, hn7, hcl, hb⟩ := hrel
    have hcl0 := hcl.ci.1
    by_cases hlt : j < m
    · have hlt' : (j : Int) < (m : Int) := by omega
      have hj0 : (0 : Int) ≤ (j : Int) := by omega
      obtain ⟨b, o, hA, hX, hcz⟩ := hcl.ci.2 (by omega)
      subst hA
      have hjc : j < calls.length := by omega
      have f0 := hcz j _ (List.getElem?_eq_getElem hjc)
      have hdr : calls.drop j = calls[j] :: calls.drop (j + 1) := List.drop_eq_getElem_cons hjc
      rw [hdr] at hgo
      generalize calls[j] = z at f0 hgo
      obtain ⟨U5, hU5⟩ := hcl.v5
      obtain ⟨U6, hU6⟩ := hcl.v6
      obtain ⟨U7, hU7⟩ := hcl.v7
      have HCL := Lib.hid hcl
      have HBB := Lib.hid hb
      have HU5 := Lib.hid hU5
      have HU6 := Lib.hid hU6
      have u5 : wr.cell? ⟨p5, 0, none⟩ = some U5 := hU5.blk.cell 0
      have u6 : wr.cell? ⟨p6, 0, none⟩ = some U6 := hU6.blk.cell 0
      clear hcz hdr hcl hb hU5 hU6 hU7 hX
      by_cases h0 : z = 0
      · subst h0
        rw [goC, stepC_0] at hgo
        by_cases hk : (getL st.rest).2 = 0
        · rw [if_pos hk] at hgo
          injection hgo with e1 e2
          subst e1 e2
          have HC := Lib.hid (rdNum_no HCL.out.drew.rd (getL_zero hk))
          go_wp2_with fail
          refine wp_region_held_drew (S := fun _ => True) mixed trivial (fun hS => ?_)
          refine wpAnyH_take (i := 1) (v := .pointer (some ⟨rp, 0, none⟩)) rfl (by kernel_rfl) (by kernel_rfl) (by kernel_rfl) (fun _ _ _ h => h) (Or.inl ⟨by rfl, fun W hW => by have h0 := hW; go_simp⟩) hS ?_
          refine wpAnyH_ready (rs := [0, 2]) (by kernel_rfl) (by simp) ?_
          refine AllReadyH.cons rfl (fun K hK => ?_) (AllReadyH.cons rfl (fun K hK => ?_) AllReadyH.nil)
          · skip
            go_simp
            refine hK.out _ _ trivial (fun hS => ?_)
            clear hK K
            refine wpAnyH_ready (rs := [2]) (by kernel_rfl) (by simp) ?_
            refine AllReadyH.cons rfl (fun K hK => ?_) AllReadyH.nil
            go_simp
            refine HC.out.mono ?_
            rintro e w1 ⟨rfl, hr1, hk1⟩
            unfold refusE
            refine ⟨rfl, rfl, HCL.out.drew.reader hr1 hk1, HBB.out.trans ((show Below N0 wr wr.drew from ⟨rfl, rfl, rfl, Nat.le_refl _, fun _ _ => rfl⟩).trans (HCL.out.drew.lowK hk1))⟩
          · skip
            go_simp
            refine HC.out.mono ?_
            rintro e w1 ⟨rfl, hr1, hk1⟩
            unfold refusE
            refine ⟨rfl, rfl, HCL.out.drew.reader hr1 hk1, HBB.out.trans ((show Below N0 wr wr.drew from ⟨rfl, rfl, rfl, Nat.le_refl _, fun _ _ => rfl⟩).trans (HCL.out.drew.lowK hk1))⟩
        · rw [if_neg hk] at hgo
          have HGO := Lib.hid hgo
          have HC := Lib.hid (rdNum_yes HCL.out.drew.rd (n := (getL st.rest).1) (k := (getL st.rest).2) rfl (by omega))
          generalize (getL st.rest).1 = n at HGO HC
          generalize st.rest.drop (getL st.rest).2 = rest' at HGO HC
          clear hgo hk
          go_wp2_with fail
          refine wp_region_held_drew (S := fun _ => True) mixed trivial (fun hS => ?_)
          refine wpAnyH_take (i := 1) (v := .pointer (some ⟨rp, 0, none⟩)) rfl (by kernel_rfl) (by kernel_rfl) (by kernel_rfl) (fun _ _ _ h => h) (Or.inl ⟨by rfl, fun W hW => by have h0 := hW; go_simp⟩) hS ?_
          refine wpAnyH_ready (rs := [0, 2]) (by kernel_rfl) (by simp) ?_
          refine AllReadyH.cons rfl (fun K hK => ?_) (AllReadyH.cons rfl (fun K hK => ?_) AllReadyH.nil)
          · skip
            go_simp
            refine hK.out _ _ trivial (fun hS => ?_)
            clear hK K
            refine wpAnyH_ready (rs := [2]) (by kernel_rfl) (by simp) ?_
            refine AllReadyH.cons rfl (fun K hK => ?_) AllReadyH.nil
            go_simp
            refine HC.out.mono ?_
            rintro e w1 ⟨rfl, hr1, hk1⟩
            have h1 := HCL.out.drew.reader hr1 hk1
            have hV := HCL.out.drew.keepV hk1 HU5.out.drew_ (by decide) (by decide)
            have x0 : w1.cell? ⟨p5, 0, none⟩ = some U5 := hV.blk.cell 0
            have x0l : p5 < w1.heap.size := hV.blk.lt
            obtain ⟨v3, w3, hrun, hb3, h2, hl3, a3, n3, c3, hv3⟩ := h1.put5 hV n (by simp only; omega) 73
            subst hv3
            have HRUN := Lib.hid hrun
            have H2 := Lib.hid h2
            have HB2 := Lib.hid (HBB.out.trans ((show Below N0 wr wr.drew from ⟨rfl, rfl, rfl, Nat.le_refl _, fun _ _ => rfl⟩).trans ((HCL.out.drew.lowK hk1).trans hl3)))
            have y0 : w3.cell? ⟨p5, 0, none⟩ = some U5 := hb3.cell 0
            have y1 : w3.frozen? ⟨p5, 0, none⟩ = false := hb3.frozen 0
            clear hr1 hk1 h1 hV hrun hb3 h2 hl3
            refine hK.out _ _ trivial (fun hS => ?_)
            clear hK K
            refine wpAnyH_ready (rs := [3]) (by kernel_rfl) (by simp) ?_
            refine AllReadyH.cons rfl (fun K hK => ?_) AllReadyH.nil
            go_simp
            refine hK.out _ _ trivial (fun hS => ?_)
            clear hK K
            refine wpAnyH_ready (rs := [4]) (by kernel_rfl) (by simp) ?_
            refine AllReadyH.cons rfl (fun K hK => ?_) AllReadyH.nil
            refine step_append_run rfl (.tmp 17) (.tmp 20) 73 rfl _ _ _ rfl rfl HRUN.out ?_
            refine hK.out _ _ trivial (fun hS => ?_)
            clear hK K
            refine wpAnyH_ready (rs := [5]) (by kernel_rfl) (by simp) ?_
            refine AllReadyH.cons rfl (fun K hK => ?_) AllReadyH.nil
            go_simp
            refine hK.out _ _ trivial (fun hS => ?_)
            clear hK K
            refine wpAnyH_done (by kernel_rfl) ?_ _
            clear u5 u6 x0 y0 y1 x0l
            have h9 := H2.out
            have hbA := HB2.out
            clear H2 HB2 HRUN
            go_wp2_with fail
            generalize w3.setCell ⟨p5, 0, none⟩ (.slice a3 n3 c3) = w4 at h9 hbA ⊢
            obtain ⟨U7, hU7⟩ := h9.v7
            have u7 : (w4).cell? ⟨p7, 0, none⟩ = some U7 := hU7.blk.cell 0
            have u7l : p7 < (w4).heap.size := hU7.blk.lt
            have HL := Lib.hid (left_any h9.drew.rd)
            obtain ⟨v10, w10, hr10, hb10, h10, hl10, a10, n10, c10, hv10⟩ := h9.drew.put7 hU7.drew_ rest'.length (by first | omega | (simp only; omega)) 55
            subst hv10
            have HR10 := Lib.hid hr10
            have H10 := Lib.hid h10
            have HB10 := Lib.hid (hbA.trans ((show Below N0 (w4) ((w4).drew) from ⟨rfl, rfl, rfl, Nat.le_refl _, fun _ _ => rfl⟩).trans hl10))
            have k0 : w10.cell? ⟨p7, 0, none⟩ = some U7 := hb10.cell 0
            have k1 : w10.frozen? ⟨p7, 0, none⟩ = false := hb10.frozen 0
            clear h9 hU7 hr10 hb10 h10 hl10 hbA
            refine wp_region_held_drew (S := fun _ => True) mixed trivial (fun hS => ?_)
            refine wpAnyH_take (i := 1) (v := .pointer (some ⟨rp, 0, none⟩)) rfl (by kernel_rfl) (by kernel_rfl) (by kernel_rfl) (fun _ _ _ h => h) (Or.inl ⟨by rfl, fun W hW => by have h0 := hW; go_simp⟩) hS ?_
            refine wpAnyH_ready (rs := [0, 2]) (by kernel_rfl) (by simp) ?_
            refine AllReadyH.cons rfl (fun K hK => ?_) (AllReadyH.cons rfl (fun K hK => ?_) AllReadyH.nil)
            · skip
              go_simp
              refine hK.out _ _ trivial (fun hS => ?_)
              clear hK K
              refine wpAnyH_ready (rs := [2]) (by kernel_rfl) (by simp) ?_
              refine AllReadyH.cons rfl (fun K hK => ?_) AllReadyH.nil
              go_simp
              refine HL.out.mono ?_
              rintro e wq ⟨rfl, rfl⟩
              refine hK.out _ _ trivial (fun hS => ?_)
              clear hK K
              refine wpAnyH_ready (rs := [3]) (by kernel_rfl) (by simp) ?_
              refine AllReadyH.cons rfl (fun K hK => ?_) AllReadyH.nil
              go_simp
              refine hK.out _ _ trivial (fun hS => ?_)
              clear hK K
              refine wpAnyH_ready (rs := [4]) (by kernel_rfl) (by simp) ?_
              refine AllReadyH.cons rfl (fun K hK => ?_) AllReadyH.nil
              refine step_append_run rfl (.tmp 36) (.tmp 39) 55 rfl _ _ _ rfl rfl HR10.out ?_
              refine hK.out _ _ trivial (fun hS => ?_)
              clear hK K
              refine wpAnyH_ready (rs := [5]) (by kernel_rfl) (by simp) ?_
              refine AllReadyH.cons rfl (fun K hK => ?_) AllReadyH.nil
              go_simp
              refine hK.out _ _ trivial (fun hS => ?_)
              clear hK K
              refine wpAnyH_done (by kernel_rfl) ?_ _
              go_wp2
              go_roundw
              case rel => exact ⟨j + 1, _, by omega, by go_num, HGO.out, by simp [RSt.add]; omega, by simp [RSt.add]; omega, by simp [RSt.add]; omega, by simpa [RSt.add] using H10.out, HB10.out⟩
              case measure => simp [intOf]; omega
            · skip
              go_simp
              refine HL.out.mono ?_
              rintro e wq ⟨rfl, rfl⟩
              refine hK.out _ _ trivial (fun hS => ?_)
              clear hK K
              refine wpAnyH_ready (rs := [0, 3]) (by kernel_rfl) (by simp) ?_
              refine AllReadyH.cons rfl (fun K hK => ?_) (AllReadyH.cons rfl (fun K hK => ?_) AllReadyH.nil)
              · skip
                go_simp
                refine hK.out _ _ trivial (fun hS => ?_)
                clear hK K
                refine wpAnyH_ready (rs := [3]) (by kernel_rfl) (by simp) ?_
                refine AllReadyH.cons rfl (fun K hK => ?_) AllReadyH.nil
                go_simp
                refine hK.out _ _ trivial (fun hS => ?_)
                clear hK K
                refine wpAnyH_ready (rs := [4]) (by kernel_rfl) (by simp) ?_
                refine AllReadyH.cons rfl (fun K hK => ?_) AllReadyH.nil
                refine step_append_run rfl (.tmp 36) (.tmp 39) 55 rfl _ _ _ rfl rfl HR10.out ?_
                refine hK.out _ _ trivial (fun hS => ?_)
                clear hK K
                refine wpAnyH_ready (rs := [5]) (by kernel_rfl) (by simp) ?_
                refine AllReadyH.cons rfl (fun K hK => ?_) AllReadyH.nil
                go_simp
                refine hK.out _ _ trivial (fun hS => ?_)
                clear hK K
                refine wpAnyH_done (by kernel_rfl) ?_ _
                go_wp2
                go_roundw
                case rel => exact ⟨j + 1, _, by omega, by go_num, HGO.out, by simp [RSt.add]; omega, by simp [RSt.add]; omega, by simp [RSt.add]; omega, by simpa [RSt.add] using H10.out, HB10.out⟩
                case measure => simp [intOf]; omega
              · skip
                go_simp
                refine hK.out _ _ trivial (fun hS => ?_)
                clear hK K
                refine wpAnyH_ready (rs := [0]) (by kernel_rfl) (by simp) ?_
                refine AllReadyH.cons rfl (fun K hK => ?_) AllReadyH.nil
                go_simp
                refine hK.out _ _ trivial (fun hS => ?_)
                clear hK K
                refine wpAnyH_ready (rs := [4]) (by kernel_rfl) (by simp) ?_
                refine AllReadyH.cons rfl (fun K hK => ?_) AllReadyH.nil
                refine step_append_run rfl (.tmp 36) (.tmp 39) 55 rfl _ _ _ rfl rfl HR10.out ?_
                refine hK.out _ _ trivial (fun hS => ?_)
                clear hK K
                refine wpAnyH_ready (rs := [5]) (by kernel_rfl) (by simp) ?_
                refine AllReadyH.cons rfl (fun K hK => ?_) AllReadyH.nil
                go_simp
                refine hK.out _ _ trivial (fun hS => ?_)
                clear hK K
                refine wpAnyH_done (by kernel_rfl) ?_ _
                go_wp2
                go_roundw
                case rel => exact ⟨j + 1, _, by omega, by go_num, HGO.out, by simp [RSt.add]; omega, by simp [RSt.add]; omega, by simp [RSt.add]; omega, by simpa [RSt.add] using H10.out, HB10.out⟩
                case measure => simp [intOf]; omega
          · skip
            go_simp
            refine HC.out.mono ?_
            rintro e w1 ⟨rfl, hr1, hk1⟩
            have h1 := HCL.out.drew.reader hr1 hk1
            have hV := HCL.out.drew.keepV hk1 HU5.out.drew_ (by decide) (by decide)
            have x0 : w1.cell? ⟨p5, 0, none⟩ = some U5 := hV.blk.cell 0
            have x0l : p5 < w1.heap.size := hV.blk.lt
            obtain ⟨v3, w3, hrun, hb3, h2, hl3, a3, n3, c3, hv3⟩ := h1.put5 hV n (by simp only; omega) 73
            subst hv3
            have HRUN := Lib.hid hrun
            have H2 := Lib.hid h2
            have HB2 := Lib.hid (HBB.out.trans ((show Below N0 wr wr.drew from ⟨rfl, rfl, rfl, Nat.le_refl _, fun _ _ => rfl⟩).trans ((HCL.out.drew.lowK hk1).trans hl3)))
            have y0 : w3.cell? ⟨p5, 0, none⟩ = some U5 := hb3.cell 0
            have y1 : w3.frozen? ⟨p5, 0, none⟩ = false := hb3.frozen 0
            clear hr1 hk1 h1 hV hrun hb3 h2 hl3
            refine hK.out _ _ trivial (fun hS => ?_)
            clear hK K
            refine wpAnyH_ready (rs := [0, 3]) (by kernel_rfl) (by simp) ?_
            refine AllReadyH.cons rfl (fun K hK => ?_) (AllReadyH.cons rfl (fun K hK => ?_) AllReadyH.nil)
            · skip
              go_simp
              refine hK.out _ _ trivial (fun hS => ?_)
              clear hK K
              refine wpAnyH_ready (rs := [3]) (by kernel_rfl) (by simp) ?_
              refine AllReadyH.cons rfl (fun K hK => ?_) AllReadyH.nil
              go_simp
              refine hK.out _ _ trivial (fun hS => ?_)
              clear hK K
              refine wpAnyH_ready (rs := [4]) (by kernel_rfl) (by simp) ?_
              refine AllReadyH.cons rfl (fun K hK => ?_) AllReadyH.nil
              refine step_append_run rfl (.tmp 17) (.tmp 20) 73 rfl _ _ _ rfl rfl HRUN.out ?_
              refine hK.out _ _ trivial (fun hS => ?_)
              clear hK K
              refine wpAnyH_ready (rs := [5]) (by kernel_rfl) (by simp) ?_
              refine AllReadyH.cons rfl (fun K hK => ?_) AllReadyH.nil
              go_simp
              refine hK.out _ _ trivial (fun hS => ?_)
              clear hK K
              refine wpAnyH_done (by kernel_rfl) ?_ _
              clear u5 u6 x0 y0 y1 x0l
              have h9 := H2.out
              have hbA := HB2.out
              clear H2 HB2 HRUN
              go_wp2_with fail
              generalize w3.setCell ⟨p5, 0, none⟩ (.slice a3 n3 c3) = w4 at h9 hbA ⊢
              obtain ⟨U7, hU7⟩ := h9.v7
              have u7 : (w4).cell? ⟨p7, 0, none⟩ = some U7 := hU7.blk.cell 0
              have u7l : p7 < (w4).heap.size := hU7.blk.lt
              have HL := Lib.hid (left_any h9.drew.rd)
              obtain ⟨v10, w10, hr10, hb10, h10, hl10, a10, n10, c10, hv10⟩ := h9.drew.put7 hU7.drew_ rest'.length (by first | omega | (simp only; omega)) 55
              subst hv10
              have HR10 := Lib.hid hr10
              have H10 := Lib.hid h10
              have HB10 := Lib.hid (hbA.trans ((show Below N0 (w4) ((w4).drew) from ⟨rfl, rfl, rfl, Nat.le_refl _, fun _ _ => rfl⟩).trans hl10))
              have k0 : w10.cell? ⟨p7, 0, none⟩ = some U7 := hb10.cell 0
              have k1 : w10.frozen? ⟨p7, 0, none⟩ = false := hb10.frozen 0
              clear h9 hU7 hr10 hb10 h10 hl10 hbA
              refine wp_region_held_drew (S := fun _ => True) mixed trivial (fun hS => ?_)
              refine wpAnyH_take (i := 1) (v := .pointer (some ⟨rp, 0, none⟩)) rfl (by kernel_rfl) (by kernel_rfl) (by kernel_rfl) (fun _ _ _ h => h) (Or.inl ⟨by rfl, fun W hW => by have h0 := hW; go_simp⟩) hS ?_
              refine wpAnyH_ready (rs := [0, 2]) (by kernel_rfl) (by simp) ?_
              refine AllReadyH.cons rfl (fun K hK => ?_) (AllReadyH.cons rfl (fun K hK => ?_) AllReadyH.nil)
              · skip
                go_simp
                refine hK.out _ _ trivial (fun hS => ?_)
                clear hK K
                refine wpAnyH_ready (rs := [2]) (by kernel_rfl) (by simp) ?_
                refine AllReadyH.cons rfl (fun K hK => ?_) AllReadyH.nil
                go_simp
                refine HL.out.mono ?_
                rintro e wq ⟨rfl, rfl⟩
                refine hK.out _ _ trivial (fun hS => ?_)
                clear hK K
                refine wpAnyH_ready (rs := [3]) (by kernel_rfl) (by simp) ?_
                refine AllReadyH.cons rfl (fun K hK => ?_) AllReadyH.nil
                go_simp
                refine hK.out _ _ trivial (fun hS => ?_)
                clear hK K
                refine wpAnyH_ready (rs := [4]) (by kernel_rfl) (by simp) ?_
                refine AllReadyH.cons rfl (fun K hK => ?_) AllReadyH.nil
                refine step_append_run rfl (.tmp 36) (.tmp 39) 55 rfl _ _ _ rfl rfl HR10.out ?_
                refine hK.out _ _ trivial (fun hS => ?_)
                clear hK K
                refine wpAnyH_ready (rs := [5]) (by kernel_rfl) (by simp) ?_
                refine AllReadyH.cons rfl (fun K hK => ?_) AllReadyH.nil
                go_simp
                refine hK.out _ _ trivial (fun hS => ?_)
                clear hK K
                refine wpAnyH_done (by kernel_rfl) ?_ _
                go_wp2
                go_roundw
                case rel => exact ⟨j + 1, _, by omega, by go_num, HGO.out, by simp [RSt.add]; omega, by simp [RSt.add]; omega, by simp [RSt.add]; omega, by simpa [RSt.add] using H10.out, HB10.out⟩
                case measure => simp [intOf]; omega
              · skip
                go_simp
                refine HL.out.mono ?_
                rintro e wq ⟨rfl, rfl⟩
                refine hK.out _ _ trivial (fun hS => ?_)
                clear hK K
                refine wpAnyH_ready (rs := [0, 3]) (by kernel_rfl) (by simp) ?_
                refine AllReadyH.cons rfl (fun K hK => ?_) (AllReadyH.cons rfl (fun K hK => ?_) AllReadyH.nil)
                · skip
                  go_simp
                  refine hK.out _ _ trivial (fun hS => ?_)
                  clear hK K
                  refine wpAnyH_ready (rs := [3]) (by kernel_rfl) (by simp) ?_
                  refine AllReadyH.cons rfl (fun K hK => ?_) AllReadyH.nil
                  go_simp
                  refine hK.out _ _ trivial (fun hS => ?_)
                  clear hK K
                  refine wpAnyH_ready (rs := [4]) (by kernel_rfl) (by simp) ?_
                  refine AllReadyH.cons rfl (fun K hK => ?_) AllReadyH.nil
                  refine step_append_run rfl (.tmp 36) (.tmp 39) 55 rfl _ _ _ rfl rfl HR10.out ?_
                  refine hK.out _ _ trivial (fun hS => ?_)
                  clear hK K
                  refine wpAnyH_ready (rs := [5]) (by kernel_rfl) (by simp) ?_
                  refine AllReadyH.cons rfl (fun K hK => ?_) AllReadyH.nil
                  go_simp
                  refine hK.out _ _ trivial (fun hS => ?_)
                  clear hK K
                  refine wpAnyH_done (by kernel_rfl) ?_ _
                  go_wp2
                  go_roundw
                  case rel => exact ⟨j + 1, _, by omega, by go_num, HGO.out, by simp [RSt.add]; omega, by simp [RSt.add]; omega, by simp [RSt.add]; omega, by simpa [RSt.add] using H10.out, HB10.out⟩
                  case measure => simp [intOf]; omega
                · skip
                  go_simp
                  refine hK.out _ _ trivial (fun hS => ?_)
                  clear hK K
                  refine wpAnyH_ready (rs := [0]) (by kernel_rfl) (by simp) ?_
                  refine AllReadyH.cons rfl (fun K hK => ?_) AllReadyH.nil
                  go_simp
                  refine hK.out _ _ trivial (fun hS => ?_)
                  clear hK K
                  refine wpAnyH_ready (rs := [4]) (by kernel_rfl) (by simp) ?_
                  refine AllReadyH.cons rfl (fun K hK => ?_) AllReadyH.nil
                  refine step_append_run rfl (.tmp 36) (.tmp 39) 55 rfl _ _ _ rfl rfl HR10.out ?_
                  refine hK.out _ _ trivial (fun hS => ?_)
                  clear hK K
                  refine wpAnyH_ready (rs := [5]) (by kernel_rfl) (by simp) ?_
                  refine AllReadyH.cons rfl (fun K hK => ?_) AllReadyH.nil
                  go_simp
                  refine hK.out _ _ trivial (fun hS => ?_)
                  clear hK K
                  refine wpAnyH_done (by kernel_rfl) ?_ _
                  go_wp2
                  go_roundw
                  case rel => exact ⟨j + 1, _, by omega, by go_num, HGO.out, by simp [RSt.add]; omega, by simp [RSt.add]; omega, by simp [RSt.add]; omega, by simpa [RSt.add] using H10.out, HB10.out⟩
                  case measure => simp [intOf]; omega
            · skip
              go_simp
              refine hK.out _ _ trivial (fun hS => ?_)
              clear hK K
              refine wpAnyH_ready (rs := [0]) (by kernel_rfl) (by simp) ?_
              refine AllReadyH.cons rfl (fun K hK => ?_) AllReadyH.nil
              go_simp
              refine hK.out _ _ trivial (fun hS => ?_)
              clear hK K
              refine wpAnyH_ready (rs := [4]) (by kernel_rfl) (by simp) ?_
              refine AllReadyH.cons rfl (fun K hK => ?_) AllReadyH.nil
              refine step_append_run rfl (.tmp 17) (.tmp 20) 73 rfl _ _ _ rfl rfl HRUN.out ?_
              refine hK.out _ _ trivial (fun hS => ?_)
              clear hK K
              refine wpAnyH_ready (rs := [5]) (by kernel_rfl) (by simp) ?_
              refine AllReadyH.cons rfl (fun K hK => ?_) AllReadyH.nil
              go_simp
              refine hK.out _ _ trivial (fun hS => ?_)
              clear hK K
              refine wpAnyH_done (by kernel_rfl) ?_ _
              clear u5 u6 x0 y0 y1 x0l
              have h9 := H2.out
              have hbA := HB2.out
              clear H2 HB2 HRUN
              go_wp2_with fail
              generalize w3.setCell ⟨p5, 0, none⟩ (.slice a3 n3 c3) = w4 at h9 hbA ⊢
              obtain ⟨U7, hU7⟩ := h9.v7
              have u7 : (w4).cell? ⟨p7, 0, none⟩ = some U7 := hU7.blk.cell 0
              have u7l : p7 < (w4).heap.size := hU7.blk.lt
              have HL := Lib.hid (left_any h9.drew.rd)
              obtain ⟨v10, w10, hr10, hb10, h10, hl10, a10, n10, c10, hv10⟩ := h9.drew.put7 hU7.drew_ rest'.length (by first | omega | (simp only; omega)) 55
              subst hv10
              have HR10 := Lib.hid hr10
              have H10 := Lib.hid h10
              have HB10 := Lib.hid (hbA.trans ((show Below N0 (w4) ((w4).drew) from ⟨rfl, rfl, rfl, Nat.le_refl _, fun _ _ => rfl⟩).trans hl10))
              have k0 : w10.cell? ⟨p7, 0, none⟩ = some U7 := hb10.cell 0
              have k1 : w10.frozen? ⟨p7, 0, none⟩ = false := hb10.frozen 0
              clear h9 hU7 hr10 hb10 h10 hl10 hbA
              refine wp_region_held_drew (S := fun _ => True) mixed trivial (fun hS => ?_)
              refine wpAnyH_take (i := 1) (v := .pointer (some ⟨rp, 0, none⟩)) rfl (by kernel_rfl) (by kernel_rfl) (by kernel_rfl) (fun _ _ _ h => h) (Or.inl ⟨by rfl, fun W hW => by have h0 := hW; go_simp⟩) hS ?_
              refine wpAnyH_ready (rs := [0, 2]) (by kernel_rfl) (by simp) ?_
              refine AllReadyH.cons rfl (fun K hK => ?_) (AllReadyH.cons rfl (fun K hK => ?_) AllReadyH.nil)
              · skip
                go_simp
                refine hK.out _ _ trivial (fun hS => ?_)
                clear hK K
                refine wpAnyH_ready (rs := [2]) (by kernel_rfl) (by simp) ?_
                refine AllReadyH.cons rfl (fun K hK => ?_) AllReadyH.nil
                go_simp
                refine HL.out.mono ?_
                rintro e wq ⟨rfl, rfl⟩
                refine hK.out _ _ trivial (fun hS => ?_)
                clear hK K
                refine wpAnyH_ready (rs := [3]) (by kernel_rfl) (by simp) ?_
                refine AllReadyH.cons rfl (fun K hK => ?_) AllReadyH.nil
                go_simp
                refine hK.out _ _ trivial (fun hS => ?_)
                clear hK K
                refine wpAnyH_ready (rs := [4]) (by kernel_rfl) (by simp) ?_
                refine AllReadyH.cons rfl (fun K hK => ?_) AllReadyH.nil
                refine step_append_run rfl (.tmp 36) (.tmp 39) 55 rfl _ _ _ rfl rfl HR10.out ?_
                refine hK.out _ _ trivial (fun hS => ?_)
                clear hK K
                refine wpAnyH_ready (rs := [5]) (by kernel_rfl) (by simp) ?_
                refine AllReadyH.cons rfl (fun K hK => ?_) AllReadyH.nil
                go_simp
                refine hK.out _ _ trivial (fun hS => ?_)
                clear hK K
                refine wpAnyH_done (by kernel_rfl) ?_ _
                go_wp2
                go_roundw
                case rel => exact ⟨j + 1, _, by omega, by go_num, HGO.out, by simp [RSt.add]; omega, by simp [RSt.add]; omega, by simp [RSt.add]; omega, by simpa [RSt.add] using H10.out, HB10.out⟩
                case measure => simp [intOf]; omega
              · skip
                go_simp
                refine HL.out.mono ?_
                rintro e wq ⟨rfl, rfl⟩
                refine hK.out _ _ trivial (fun hS => ?_)
                clear hK K
                refine wpAnyH_ready (rs := [0, 3]) (by kernel_rfl) (by simp) ?_
                refine AllReadyH.cons rfl (fun K hK => ?_) (AllReadyH.cons rfl (fun K hK => ?_) AllReadyH.nil)
                · skip
                  go_simp
                  refine hK.out _ _ trivial (fun hS => ?_)
                  clear hK K
                  refine wpAnyH_ready (rs := [3]) (by kernel_rfl) (by simp) ?_
                  refine AllReadyH.cons rfl (fun K hK => ?_) AllReadyH.nil
                  go_simp
                  refine hK.out _ _ trivial (fun hS => ?_)
                  clear hK K
                  refine wpAnyH_ready (rs := [4]) (by kernel_rfl) (by simp) ?_
                  refine AllReadyH.cons rfl (fun K hK => ?_) AllReadyH.nil
                  refine step_append_run rfl (.tmp 36) (.tmp 39) 55 rfl _ _ _ rfl rfl HR10.out ?_
                  refine hK.out _ _ trivial (fun hS => ?_)
                  clear hK K
                  refine wpAnyH_ready (rs := [5]) (by kernel_rfl) (by simp) ?_
                  refine AllReadyH.cons rfl (fun K hK => ?_) AllReadyH.nil
                  go_simp
                  refine hK.out _ _ trivial (fun hS => ?_)
                  clear hK K
                  refine wpAnyH_done (by kernel_rfl) ?_ _
                  go_wp2
                  go_roundw
                  case rel => exact ⟨j + 1, _, by omega, by go_num, HGO.out, by simp [RSt.add]; omega, by simp [RSt.add]; omega, by simp [RSt.add]; omega, by simpa [RSt.add] using H10.out, HB10.out⟩
                  case measure => simp [intOf]; omega
                · skip
                  go_simp
                  refine hK.out _ _ trivial (fun hS => ?_)
                  clear hK K
                  refine wpAnyH_ready (rs := [0]) (by kernel_rfl) (by simp) ?_
                  refine AllReadyH.cons rfl (fun K hK => ?_) AllReadyH.nil
                  go_simp
                  refine hK.out _ _ trivial (fun hS => ?_)
                  clear hK K
                  refine wpAnyH_ready (rs := [4]) (by kernel_rfl) (by simp) ?_
                  refine AllReadyH.cons rfl (fun K hK => ?_) AllReadyH.nil
                  refine step_append_run rfl (.tmp 36) (.tmp 39) 55 rfl _ _ _ rfl rfl HR10.out ?_
                  refine hK.out _ _ trivial (fun hS => ?_)
                  clear hK K
                  refine wpAnyH_ready (rs := [5]) (by kernel_rfl) (by simp) ?_
                  refine AllReadyH.cons rfl (fun K hK => ?_) AllReadyH.nil
                  go_simp
                  refine hK.out _ _ trivial (fun hS => ?_)
                  clear hK K
                  refine wpAnyH_done (by kernel_rfl) ?_ _
                  go_wp2
                  go_roundw
                  case rel => exact ⟨j + 1, _, by omega, by go_num, HGO.out, by simp [RSt.add]; omega, by simp [RSt.add]; omega, by simp [RSt.add]; omega, by simpa [RSt.add] using H10.out, HB10.out⟩
                  case measure => simp [intOf]; omega
      · have z0 : (z == 0) = false := by simpa using h0
        by_cases h1 : z = 1
        · subst h1
          clear h0
          rw [goC, stepC_1] at hgo
          by_cases hk : (getL st.rest).2 = 0 ∨ 1000 < (getL st.rest).1
          · rw [if_pos hk] at hgo
            injection hgo with e1 e2
            subst e1 e2
            have hc1 : Calls Try.prog 38 #[.pointer (some ⟨rp, 0, none⟩), .int .i64 1000] wr.drew (RdNot wr.drew rp X st.rest) := by
              by_cases hk0 : (getL st.rest).2 = 0
              · exact rdInt_no HCL.out.drew.rd (getL_zero hk0)
              · exact rdInt_big HCL.out.drew.rd (n := (getL st.rest).1) (k := (getL st.rest).2) rfl (by omega) (by omega)
            have HC := Lib.hid hc1
            clear hk hc1
            go_wp2_with fail
            refine wp_region_held_drew (S := fun _ => True) mixed trivial (fun hS => ?_)
            refine wpAnyH_take (i := 1) (v := .pointer (some ⟨rp, 0, none⟩)) rfl (by kernel_rfl) (by kernel_rfl) (by kernel_rfl) (fun _ _ _ h => h) (Or.inl ⟨by rfl, fun W hW => by have h0 := hW; go_simp⟩) hS ?_
            refine wpAnyH_ready (rs := [0, 2]) (by kernel_rfl) (by simp) ?_
            refine AllReadyH.cons rfl (fun K hK => ?_) (AllReadyH.cons rfl (fun K hK => ?_) AllReadyH.nil)
            · skip
              go_simp
              refine hK.out _ _ trivial (fun hS => ?_)
              clear hK K
              refine wpAnyH_ready (rs := [2]) (by kernel_rfl) (by simp) ?_
              refine AllReadyH.cons rfl (fun K hK => ?_) AllReadyH.nil
              go_simp
              refine HC.out.mono ?_
              rintro e w1 ⟨rfl, hr1, hk1⟩
              unfold refusE
              refine ⟨rfl, rfl, HCL.out.drew.reader hr1 hk1, HBB.out.trans ((show Below N0 wr wr.drew from ⟨rfl, rfl, rfl, Nat.le_refl _, fun _ _ => rfl⟩).trans (HCL.out.drew.lowK hk1))⟩
            · skip
              go_simp
              refine HC.out.mono ?_
              rintro e w1 ⟨rfl, hr1, hk1⟩
              unfold refusE
              refine ⟨rfl, rfl, HCL.out.drew.reader hr1 hk1, HBB.out.trans ((show Below N0 wr wr.drew from ⟨rfl, rfl, rfl, Nat.le_refl _, fun _ _ => rfl⟩).trans (HCL.out.drew.lowK hk1))⟩
          · rw [if_neg hk] at hgo
            have HGO := Lib.hid hgo
            have HC := Lib.hid (rdInt_yes HCL.out.drew.rd (n := (getL st.rest).1) (k := (getL st.rest).2) (most := 1000) rfl (by omega) (by omega))
            generalize (getL st.rest).1 = n at HGO HC
            generalize st.rest.drop (getL st.rest).2 = rest' at HGO HC
            clear hgo hk
            go_wp2_with fail
            refine wp_region_held_drew (S := fun _ => True) mixed trivial (fun hS => ?_)
            refine wpAnyH_take (i := 1) (v := .pointer (some ⟨rp, 0, none⟩)) rfl (by kernel_rfl) (by kernel_rfl) (by kernel_rfl) (fun _ _ _ h => h) (Or.inl ⟨by rfl, fun W hW => by have h0 := hW; go_simp⟩) hS ?_
            refine wpAnyH_ready (rs := [0, 2]) (by kernel_rfl) (by simp) ?_
            refine AllReadyH.cons rfl (fun K hK => ?_) (AllReadyH.cons rfl (fun K hK => ?_) AllReadyH.nil)
            · skip
              go_simp
              refine hK.out _ _ trivial (fun hS => ?_)
              clear hK K
              refine wpAnyH_ready (rs := [2]) (by kernel_rfl) (by simp) ?_
              refine AllReadyH.cons rfl (fun K hK => ?_) AllReadyH.nil
              go_simp
              refine HC.out.mono ?_
              rintro e w1 ⟨rfl, hr1, hk1⟩
              have h1 := HCL.out.drew.reader hr1 hk1
              have hV := HCL.out.drew.keepV hk1 HU5.out.drew_ (by decide) (by decide)
              have x0 : w1.cell? ⟨p5, 0, none⟩ = some U5 := hV.blk.cell 0
              have x0l : p5 < w1.heap.size := hV.blk.lt
              obtain ⟨v3, w3, hrun, hb3, h2, hl3, a3, n3, c3, hv3⟩ := h1.put5 hV n (by simp only; omega) 73
              subst hv3
              have HRUN := Lib.hid hrun
              have H2 := Lib.hid h2
              have HB2 := Lib.hid (HBB.out.trans ((show Below N0 wr wr.drew from ⟨rfl, rfl, rfl, Nat.le_refl _, fun _ _ => rfl⟩).trans ((HCL.out.drew.lowK hk1).trans hl3)))
              have y0 : w3.cell? ⟨p5, 0, none⟩ = some U5 := hb3.cell 0
              have y1 : w3.frozen? ⟨p5, 0, none⟩ = false := hb3.frozen 0
              clear hr1 hk1 h1 hV hrun hb3 h2 hl3
              refine hK.out _ _ trivial (fun hS => ?_)
              clear hK K
              refine wpAnyH_ready (rs := [3]) (by kernel_rfl) (by simp) ?_
              refine AllReadyH.cons rfl (fun K hK => ?_) AllReadyH.nil
              go_simp
              refine hK.out _ _ trivial (fun hS => ?_)
              clear hK K
              refine wpAnyH_ready (rs := [4]) (by kernel_rfl) (by simp) ?_
              refine AllReadyH.cons rfl (fun K hK => ?_) AllReadyH.nil
              refine step_append_run rfl (.tmp 24) (.tmp 27) 73 rfl _ _ _ rfl rfl HRUN.out ?_
              refine hK.out _ _ trivial (fun hS => ?_)
              clear hK K
              refine wpAnyH_ready (rs := [5]) (by kernel_rfl) (by simp) ?_
              refine AllReadyH.cons rfl (fun K hK => ?_) AllReadyH.nil
              go_simp
              refine hK.out _ _ trivial (fun hS => ?_)
              clear hK K
              refine wpAnyH_done (by kernel_rfl) ?_ _
              clear u5 u6 x0 y0 y1 x0l
              have h9 := H2.out
              have hbA := HB2.out
              clear H2 HB2 HRUN
              go_wp2_with fail
              generalize w3.setCell ⟨p5, 0, none⟩ (.slice a3 n3 c3) = w4 at h9 hbA ⊢
              obtain ⟨U7, hU7⟩ := h9.v7
              have u7 : (w4).cell? ⟨p7, 0, none⟩ = some U7 := hU7.blk.cell 0
              have u7l : p7 < (w4).heap.size := hU7.blk.lt
              have HL := Lib.hid (left_any h9.drew.rd)
              obtain ⟨v10, w10, hr10, hb10, h10, hl10, a10, n10, c10, hv10⟩ := h9.drew.put7 hU7.drew_ rest'.length (by first | omega | (simp only; omega)) 55
              subst hv10
              have HR10 := Lib.hid hr10
              have H10 := Lib.hid h10
              have HB10 := Lib.hid (hbA.trans ((show Below N0 (w4) ((w4).drew) from ⟨rfl, rfl, rfl, Nat.le_refl _, fun _ _ => rfl⟩).trans hl10))
              have k0 : w10.cell? ⟨p7, 0, none⟩ = some U7 := hb10.cell 0
              have k1 : w10.frozen? ⟨p7, 0, none⟩ = false := hb10.frozen 0
              clear h9 hU7 hr10 hb10 h10 hl10 hbA
              refine wp_region_held_drew (S := fun _ => True) mixed trivial (fun hS => ?_)
              refine wpAnyH_take (i := 1) (v := .pointer (some ⟨rp, 0, none⟩)) rfl (by kernel_rfl) (by kernel_rfl) (by kernel_rfl) (fun _ _ _ h => h) (Or.inl ⟨by rfl, fun W hW => by have h0 := hW; go_simp⟩) hS ?_
              refine wpAnyH_ready (rs := [0, 2]) (by kernel_rfl) (by simp) ?_
              refine AllReadyH.cons rfl (fun K hK => ?_) (AllReadyH.cons rfl (fun K hK => ?_) AllReadyH.nil)
              · skip
                go_simp
                refine hK.out _ _ trivial (fun hS => ?_)
                clear hK K
                refine wpAnyH_ready (rs := [2]) (by kernel_rfl) (by simp) ?_
                refine AllReadyH.cons rfl (fun K hK => ?_) AllReadyH.nil
                go_simp
                refine HL.out.mono ?_
                rintro e wq ⟨rfl, rfl⟩
                refine hK.out _ _ trivial (fun hS => ?_)
                clear hK K
                refine wpAnyH_ready (rs := [3]) (by kernel_rfl) (by simp) ?_
                refine AllReadyH.cons rfl (fun K hK => ?_) AllReadyH.nil
                go_simp
                refine hK.out _ _ trivial (fun hS => ?_)
                clear hK K
                refine wpAnyH_ready (rs := [4]) (by kernel_rfl) (by simp) ?_
                refine AllReadyH.cons rfl (fun K hK => ?_) AllReadyH.nil
                refine step_append_run rfl (.tmp 36) (.tmp 39) 55 rfl _ _ _ rfl rfl HR10.out ?_
                refine hK.out _ _ trivial (fun hS => ?_)
                clear hK K
                refine wpAnyH_ready (rs := [5]) (by kernel_rfl) (by simp) ?_
                refine AllReadyH.cons rfl (fun K hK => ?_) AllReadyH.nil
                go_simp
                refine hK.out _ _ trivial (fun hS => ?_)
                clear hK K
                refine wpAnyH_done (by kernel_rfl) ?_ _
                go_wp2
                go_roundw
                case rel => exact ⟨j + 1, _, by omega, by go_num, HGO.out, by simp [RSt.add]; omega, by simp [RSt.add]; omega, by simp [RSt.add]; omega, by simpa [RSt.add] using H10.out, HB10.out⟩
                case measure => simp [intOf]; omega
              · skip
                go_simp
                refine HL.out.mono ?_
                rintro e wq ⟨rfl, rfl⟩
                refine hK.out _ _ trivial (fun hS => ?_)
                clear hK K
                refine wpAnyH_ready (rs := [0, 3]) (by kernel_rfl) (by simp) ?_
                refine AllReadyH.cons rfl (fun K hK => ?_) (AllReadyH.cons rfl (fun K hK => ?_) AllReadyH.nil)
                · skip
                  go_simp
                  refine hK.out _ _ trivial (fun hS => ?_)
                  clear hK K
                  refine wpAnyH_ready (rs := [3]) (by kernel_rfl) (by simp) ?_
                  refine AllReadyH.cons rfl (fun K hK => ?_) AllReadyH.nil
                  go_simp
                  refine hK.out _ _ trivial (fun hS => ?_)
                  clear hK K
                  refine wpAnyH_ready (rs := [4]) (by kernel_rfl) (by simp) ?_
                  refine AllReadyH.cons rfl (fun K hK => ?_) AllReadyH.nil
                  refine step_append_run rfl (.tmp 36) (.tmp 39) 55 rfl _ _ _ rfl rfl HR10.out ?_
                  refine hK.out _ _ trivial (fun hS => ?_)
                  clear hK K
                  refine wpAnyH_ready (rs := [5]) (by kernel_rfl) (by simp) ?_
                  refine AllReadyH.cons rfl (fun K hK => ?_) AllReadyH.nil
                  go_simp
                  refine hK.out _ _ trivial (fun hS => ?_)
                  clear hK K
                  refine wpAnyH_done (by kernel_rfl) ?_ _
                  go_wp2
                  go_roundw
                  case rel => exact ⟨j + 1, _, by omega, by go_num, HGO.out, by simp [RSt.add]; omega, by simp [RSt.add]; omega, by simp [RSt.add]; omega, by simpa [RSt.add] using H10.out, HB10.out⟩
                  case measure => simp [intOf]; omega
                · skip
                  go_simp
                  refine hK.out _ _ trivial (fun hS => ?_)
                  clear hK K
                  refine wpAnyH_ready (rs := [0]) (by kernel_rfl) (by simp) ?_
                  refine AllReadyH.cons rfl (fun K hK => ?_) AllReadyH.nil
                  go_simp
                  refine hK.out _ _ trivial (fun hS => ?_)
                  clear hK K
                  refine wpAnyH_ready (rs := [4]) (by kernel_rfl) (by simp) ?_
                  refine AllReadyH.cons rfl (fun K hK => ?_) AllReadyH.nil
                  refine step_append_run rfl (.tmp 36) (.tmp 39) 55 rfl _ _ _ rfl rfl HR10.out ?_
                  refine hK.out _ _ trivial (fun hS => ?_)
                  clear hK K
                  refine wpAnyH_ready (rs := [5]) (by kernel_rfl) (by simp) ?_
                  refine AllReadyH.cons rfl (fun K hK => ?_) AllReadyH.nil
                  go_simp
                  refine hK.out _ _ trivial (fun hS => ?_)
                  clear hK K
                  refine wpAnyH_done (by kernel_rfl) ?_ _
                  go_wp2
                  go_roundw
                  case rel => exact ⟨j + 1, _, by omega, by go_num, HGO.out, by simp [RSt.add]; omega, by simp [RSt.add]; omega, by simp [RSt.add]; omega, by simpa [RSt.add] using H10.out, HB10.out⟩
                  case measure => simp [intOf]; omega
            · skip
              go_simp
              refine HC.out.mono ?_
              rintro e w1 ⟨rfl, hr1, hk1⟩
              have h1 := HCL.out.drew.reader hr1 hk1
              have hV := HCL.out.drew.keepV hk1 HU5.out.drew_ (by decide) (by decide)
              have x0 : w1.cell? ⟨p5, 0, none⟩ = some U5 := hV.blk.cell 0
              have x0l : p5 < w1.heap.size := hV.blk.lt
              obtain ⟨v3, w3, hrun, hb3, h2, hl3, a3, n3, c3, hv3⟩ := h1.put5 hV n (by simp only; omega) 73
              subst hv3
              have HRUN := Lib.hid hrun
              have H2 := Lib.hid h2
              have HB2 := Lib.hid (HBB.out.trans ((show Below N0 wr wr.drew from ⟨rfl, rfl, rfl, Nat.le_refl _, fun _ _ => rfl⟩).trans ((HCL.out.drew.lowK hk1).trans hl3)))
              have y0 : w3.cell? ⟨p5, 0, none⟩ = some U5 := hb3.cell 0
              have y1 : w3.frozen? ⟨p5, 0, none⟩ = false := hb3.frozen 0
              clear hr1 hk1 h1 hV hrun hb3 h2 hl3
              refine hK.out _ _ trivial (fun hS => ?_)
              clear hK K
              refine wpAnyH_ready (rs := [0, 3]) (by kernel_rfl) (by simp) ?_
              refine AllReadyH.cons rfl (fun K hK => ?_) (AllReadyH.cons rfl (fun K hK => ?_) AllReadyH.nil)
              · skip
                go_simp
                refine hK.out _ _ trivial (fun hS => ?_)
                clear hK K
                refine wpAnyH_ready (rs := [3]) (by kernel_rfl) (by simp) ?_
                refine AllReadyH.cons rfl (fun K hK => ?_) AllReadyH.nil
                go_simp
                refine hK.out _ _ trivial (fun hS => ?_)
                clear hK K
                refine wpAnyH_ready (rs := [4]) (by kernel_rfl) (by simp) ?_
                refine AllReadyH.cons rfl (fun K hK => ?_) AllReadyH.nil
                refine step_append_run rfl (.tmp 24) (.tmp 27) 73 rfl _ _ _ rfl rfl HRUN.out ?_
                refine hK.out _ _ trivial (fun hS => ?_)
                clear hK K
                refine wpAnyH_ready (rs := [5]) (by kernel_rfl) (by simp) ?_
                refine AllReadyH.cons rfl (fun K hK => ?_) AllReadyH.nil
                go_simp
                refine hK.out _ _ trivial (fun hS => ?_)
                clear hK K
                refine wpAnyH_done (by kernel_rfl) ?_ _
                clear u5 u6 x0 y0 y1 x0l
                have h9 := H2.out
                have hbA := HB2.out
                clear H2 HB2 HRUN
                go_wp2_with fail
                generalize w3.setCell ⟨p5, 0, none⟩ (.slice a3 n3 c3) = w4 at h9 hbA ⊢
                obtain ⟨U7, hU7⟩ := h9.v7
                have u7 : (w4).cell? ⟨p7, 0, none⟩ = some U7 := hU7.blk.cell 0
                have u7l : p7 < (w4).heap.size := hU7.blk.lt
                have HL := Lib.hid (left_any h9.drew.rd)
                obtain ⟨v10, w10, hr10, hb10, h10, hl10, a10, n10, c10, hv10⟩ := h9.drew.put7 hU7.drew_ rest'.length (by first | omega | (simp only; omega)) 55
                subst hv10
                have HR10 := Lib.hid hr10
                have H10 := Lib.hid h10
                have HB10 := Lib.hid (hbA.trans ((show Below N0 (w4) ((w4).drew) from ⟨rfl, rfl, rfl, Nat.le_refl _, fun _ _ => rfl⟩).trans hl10))
                have k0 : w10.cell? ⟨p7, 0, none⟩ = some U7 := hb10.cell 0
                have k1 : w10.frozen? ⟨p7, 0, none⟩ = false := hb10.frozen 0
                clear h9 hU7 hr10 hb10 h10 hl10 hbA
                refine wp_region_held_drew (S := fun _ => True) mixed trivial (fun hS => ?_)
                refine wpAnyH_take (i := 1) (v := .pointer (some ⟨rp, 0, none⟩)) rfl (by kernel_rfl) (by kernel_rfl) (by kernel_rfl) (fun _ _ _ h => h) (Or.inl ⟨by rfl, fun W hW => by have h0 := hW; go_simp⟩) hS ?_
                refine wpAnyH_ready (rs := [0, 2]) (by kernel_rfl) (by simp) ?_
                refine AllReadyH.cons rfl (fun K hK => ?_) (AllReadyH.cons rfl (fun K hK => ?_) AllReadyH.nil)
                · skip
                  go_simp
                  refine hK.out _ _ trivial (fun hS => ?_)
                  clear hK K
                  refine wpAnyH_ready (rs := [2]) (by kernel_rfl) (by simp) ?_
                  refine AllReadyH.cons rfl (fun K hK => ?_) AllReadyH.nil
                  go_simp
                  refine HL.out.mono ?_
                  rintro e wq ⟨rfl, rfl⟩
                  refine hK.out _ _ trivial (fun hS => ?_)
                  clear hK K
                  refine wpAnyH_ready (rs := [3]) (by kernel_rfl) (by simp) ?_
                  refine AllReadyH.cons rfl (fun K hK => ?_) AllReadyH.nil
                  go_simp
                  refine hK.out _ _ trivial (fun hS => ?_)
                  clear hK K
                  refine wpAnyH_ready (rs := [4]) (by kernel_rfl) (by simp) ?_
                  refine AllReadyH.cons rfl (fun K hK => ?_) AllReadyH.nil
                  refine step_append_run rfl (.tmp 36) (.tmp 39) 55 rfl _ _ _ rfl rfl HR10.out ?_
                  refine hK.out _ _ trivial (fun hS => ?_)
                  clear hK K
                  refine wpAnyH_ready (rs := [5]) (by kernel_rfl) (by simp) ?_
                  refine AllReadyH.cons rfl (fun K hK => ?_) AllReadyH.nil
                  go_simp
                  refine hK.out _ _ trivial (fun hS => ?_)
                  clear hK K
                  refine wpAnyH_done (by kernel_rfl) ?_ _
                  go_wp2
                  go_roundw
                  case rel => exact ⟨j + 1, _, by omega, by go_num, HGO.out, by simp [RSt.add]; omega, by simp [RSt.add]; omega, by simp [RSt.add]; omega, by simpa [RSt.add] using H10.out, HB10.out⟩
                  case measure => simp [intOf]; omega
                · skip
                  go_simp
                  refine HL.out.mono ?_
                  rintro e wq ⟨rfl, rfl⟩
                  refine hK.out _ _ trivial (fun hS => ?_)
                  clear hK K
                  refine wpAnyH_ready (rs := [0, 3]) (by kernel_rfl) (by simp) ?_
                  refine AllReadyH.cons rfl (fun K hK => ?_) (AllReadyH.cons rfl (fun K hK => ?_) AllReadyH.nil)
                  · skip
                    go_simp
                    refine hK.out _ _ trivial (fun hS => ?_)
                    clear hK K
                    refine wpAnyH_ready (rs := [3]) (by kernel_rfl) (by simp) ?_
                    refine AllReadyH.cons rfl (fun K hK => ?_) AllReadyH.nil
                    go_simp
                    refine hK.out _ _ trivial (fun hS => ?_)
                    clear hK K
                    refine wpAnyH_ready (rs := [4]) (by kernel_rfl) (by simp) ?_
                    refine AllReadyH.cons rfl (fun K hK => ?_) AllReadyH.nil
                    refine step_append_run rfl (.tmp 36) (.tmp 39) 55 rfl _ _ _ rfl rfl HR10.out ?_
                    refine hK.out _ _ trivial (fun hS => ?_)
                    clear hK K
                    refine wpAnyH_ready (rs := [5]) (by kernel_rfl) (by simp) ?_
                    refine AllReadyH.cons rfl (fun K hK => ?_) AllReadyH.nil
                    go_simp
                    refine hK.out _ _ trivial (fun hS => ?_)
                    clear hK K
                    refine wpAnyH_done (by kernel_rfl) ?_ _
                    go_wp2
                    go_roundw
                    case rel => exact ⟨j + 1, _, by omega, by go_num, HGO.out, by simp [RSt.add]; omega, by simp [RSt.add]; omega, by simp [RSt.add]; omega, by simpa [RSt.add] using H10.out, HB10.out⟩
                    case measure => simp [intOf]; omega
                  · skip
                    go_simp
                    refine hK.out _ _ trivial (fun hS => ?_)
                    clear hK K
                    refine wpAnyH_ready (rs := [0]) (by kernel_rfl) (by simp) ?_
                    refine AllReadyH.cons rfl (fun K hK => ?_) AllReadyH.nil
                    go_simp
                    refine hK.out _ _ trivial (fun hS => ?_)
                    clear hK K
                    refine wpAnyH_ready (rs := [4]) (by kernel_rfl) (by simp) ?_
                    refine AllReadyH.cons rfl (fun K hK => ?_) AllReadyH.nil
                    refine step_append_run rfl (.tmp 36) (.tmp 39) 55 rfl _ _ _ rfl rfl HR10.out ?_
                    refine hK.out _ _ trivial (fun hS => ?_)
                    clear hK K
                    refine wpAnyH_ready (rs := [5]) (by kernel_rfl) (by simp) ?_
                    refine AllReadyH.cons rfl (fun K hK => ?_) AllReadyH.nil
                    go_simp
                    refine hK.out _ _ trivial (fun hS => ?_)
                    clear hK K
                    refine wpAnyH_done (by kernel_rfl) ?_ _
                    go_wp2
                    go_roundw
                    case rel => exact ⟨j + 1, _, by omega, by go_num, HGO.out, by simp [RSt.add]; omega, by simp [RSt.add]; omega, by simp [RSt.add]; omega, by simpa [RSt.add] using H10.out, HB10.out⟩
                    case measure => simp [intOf]; omega
              · skip
                go_simp
                refine hK.out _ _ trivial (fun hS => ?_)
                clear hK K
                refine wpAnyH_ready (rs := [0]) (by kernel_rfl) (by simp) ?_
                refine AllReadyH.cons rfl (fun K hK => ?_) AllReadyH.nil
                go_simp
                refine hK.out _ _ trivial (fun hS => ?_)
                clear hK K
                refine wpAnyH_ready (rs := [4]) (by kernel_rfl) (by simp) ?_
                refine AllReadyH.cons rfl (fun K hK => ?_) AllReadyH.nil
                refine step_append_run rfl (.tmp 24) (.tmp 27) 73 rfl _ _ _ rfl rfl HRUN.out ?_
                refine hK.out _ _ trivial (fun hS => ?_)
                clear hK K
                refine wpAnyH_ready (rs := [5]) (by kernel_rfl) (by simp) ?_
                refine AllReadyH.cons rfl (fun K hK => ?_) AllReadyH.nil
                go_simp
                refine hK.out _ _ trivial (fun hS => ?_)
                clear hK K
                refine wpAnyH_done (by kernel_rfl) ?_ _
                clear u5 u6 x0 y0 y1 x0l
                have h9 := H2.out
                have hbA := HB2.out
                clear H2 HB2 HRUN
                go_wp2_with fail
                generalize w3.setCell ⟨p5, 0, none⟩ (.slice a3 n3 c3) = w4 at h9 hbA ⊢
                obtain ⟨U7, hU7⟩ := h9.v7
                have u7 : (w4).cell? ⟨p7, 0, none⟩ = some U7 := hU7.blk.cell 0
                have u7l : p7 < (w4).heap.size := hU7.blk.lt
                have HL := Lib.hid (left_any h9.drew.rd)
                obtain ⟨v10, w10, hr10, hb10, h10, hl10, a10, n10, c10, hv10⟩ := h9.drew.put7 hU7.drew_ rest'.length (by first | omega | (simp only; omega)) 55
                subst hv10
                have HR10 := Lib.hid hr10
                have H10 := Lib.hid h10
                have HB10 := Lib.hid (hbA.trans ((show Below N0 (w4) ((w4).drew) from ⟨rfl, rfl, rfl, Nat.le_refl _, fun _ _ => rfl⟩).trans hl10))
                have k0 : w10.cell? ⟨p7, 0, none⟩ = some U7 := hb10.cell 0
                have k1 : w10.frozen? ⟨p7, 0, none⟩ = false := hb10.frozen 0
                clear h9 hU7 hr10 hb10 h10 hl10 hbA
                refine wp_region_held_drew (S := fun _ => True) mixed trivial (fun hS => ?_)
                refine wpAnyH_take (i := 1) (v := .pointer (some ⟨rp, 0, none⟩)) rfl (by kernel_rfl) (by kernel_rfl) (by kernel_rfl) (fun _ _ _ h => h) (Or.inl ⟨by rfl, fun W hW => by have h0 := hW; go_simp⟩) hS ?_
                refine wpAnyH_ready (rs := [0, 2]) (by kernel_rfl) (by simp) ?_
                refine AllReadyH.cons rfl (fun K hK => ?_) (AllReadyH.cons rfl (fun K hK => ?_) AllReadyH.nil)
                · skip
                  go_simp
                  refine hK.out _ _ trivial (fun hS => ?_)
                  clear hK K
                  refine wpAnyH_ready (rs := [2]) (by kernel_rfl) (by simp) ?_
                  refine AllReadyH.cons rfl (fun K hK => ?_) AllReadyH.nil
                  go_simp
                  refine HL.out.mono ?_
                  rintro e wq ⟨rfl, rfl⟩
                  refine hK.out _ _ trivial (fun hS => ?_)
                  clear hK K
                  refine wpAnyH_ready (rs := [3]) (by kernel_rfl) (by simp) ?_
                  refine AllReadyH.cons rfl (fun K hK => ?_) AllReadyH.nil
                  go_simp
                  refine hK.out _ _ trivial (fun hS => ?_)
                  clear hK K
                  refine wpAnyH_ready (rs := [4]) (by kernel_rfl) (by simp) ?_
                  refine AllReadyH.cons rfl (fun K hK => ?_) AllReadyH.nil
                  refine step_append_run rfl (.tmp 36) (.tmp 39) 55 rfl _ _ _ rfl rfl HR10.out ?_
                  refine hK.out _ _ trivial (fun hS => ?_)
                  clear hK K
                  refine wpAnyH_ready (rs := [5]) (by kernel_rfl) (by simp) ?_
                  refine AllReadyH.cons rfl (fun K hK => ?_) AllReadyH.nil
                  go_simp
                  refine hK.out _ _ trivial (fun hS => ?_)
                  clear hK K
                  refine wpAnyH_done (by kernel_rfl) ?_ _
                  go_wp2
                  go_roundw
                  case rel => exact ⟨j + 1, _, by omega, by go_num, HGO.out, by simp [RSt.add]; omega, by simp [RSt.add]; omega, by simp [RSt.add]; omega, by simpa [RSt.add] using H10.out, HB10.out⟩
                  case measure => simp [intOf]; omega
                · skip
                  go_simp
                  refine HL.out.mono ?_
                  rintro e wq ⟨rfl, rfl⟩
                  refine hK.out _ _ trivial (fun hS => ?_)
                  clear hK K
                  refine wpAnyH_ready (rs := [0, 3]) (by kernel_rfl) (by simp) ?_
                  refine AllReadyH.cons rfl (fun K hK => ?_) (AllReadyH.cons rfl (fun K hK => ?_) AllReadyH.nil)
                  · skip
                    go_simp
                    refine hK.out _ _ trivial (fun hS => ?_)
                    clear hK K
                    refine wpAnyH_ready (rs := [3]) (by kernel_rfl) (by simp) ?_
                    refine AllReadyH.cons rfl (fun K hK => ?_) AllReadyH.nil
                    go_simp
                    refine hK.out _ _ trivial (fun hS => ?_)
                    clear hK K
                    refine wpAnyH_ready (rs := [4]) (by kernel_rfl) (by simp) ?_
                    refine AllReadyH.cons rfl (fun K hK => ?_) AllReadyH.nil
                    refine step_append_run rfl (.tmp 36) (.tmp 39) 55 rfl _ _ _ rfl rfl HR10.out ?_
                    refine hK.out _ _ trivial (fun hS => ?_)
                    clear hK K
                    refine wpAnyH_ready (rs := [5]) (by kernel_rfl) (by simp) ?_
                    refine AllReadyH.cons rfl (fun K hK => ?_) AllReadyH.nil
                    go_simp
                    refine hK.out _ _ trivial (fun hS => ?_)
                    clear hK K
                    refine wpAnyH_done (by kernel_rfl) ?_ _
                    go_wp2
                    go_roundw
                    case rel => exact ⟨j + 1, _, by omega, by go_num, HGO.out, by simp [RSt.add]; omega, by simp [RSt.add]; omega, by simp [RSt.add]; omega, by simpa [RSt.add] using H10.out, HB10.out⟩
                    case measure => simp [intOf]; omega
                  · skip
                    go_simp
                    refine hK.out _ _ trivial (fun hS => ?_)
                    clear hK K
                    refine wpAnyH_ready (rs := [0]) (by kernel_rfl) (by simp) ?_
                    refine AllReadyH.cons rfl (fun K hK => ?_) AllReadyH.nil
                    go_simp
                    refine hK.out _ _ trivial (fun hS => ?_)
                    clear hK K
                    refine wpAnyH_ready (rs := [4]) (by kernel_rfl) (by simp) ?_
                    refine AllReadyH.cons rfl (fun K hK => ?_) AllReadyH.nil
                    refine step_append_run rfl (.tmp 36) (.tmp 39) 55 rfl _ _ _ rfl rfl HR10.out ?_
                    refine hK.out _ _ trivial (fun hS => ?_)
                    clear hK K
                    refine wpAnyH_ready (rs := [5]) (by kernel_rfl) (by simp) ?_
                    refine AllReadyH.cons rfl (fun K hK => ?_) AllReadyH.nil
                    go_simp
                    refine hK.out _ _ trivial (fun hS => ?_)
                    clear hK K
                    refine wpAnyH_done (by kernel_rfl) ?_ _
                    go_wp2
                    go_roundw
                    case rel => exact ⟨j + 1, _, by omega, by go_num, HGO.out, by simp [RSt.add]; omega, by simp [RSt.add]; omega, by simp [RSt.add]; omega, by simpa [RSt.add] using H10.out, HB10.out⟩
                    case measure => simp [intOf]; omega
        · have z1 : (z == 1) = false := by simpa using h1
          by_cases h2 : z = 2
          · subst h2
            clear h0 h1
            rw [goC, stepC_2] at hgo
            by_cases hk : (getT 40 st.rest).2 = 0
            · rw [if_pos hk] at hgo
              injection hgo with e1 e2
              subst e1 e2
              have HC := Lib.hid (rdText_no HCL.out.drew.rd 40 (by decide) (by decide) (getT_zero hk))
              clear hk
              go_wp2_with fail
              refine wp_region_held_drew (S := fun _ => True) mixed trivial (fun hS => ?_)
              refine wpAnyH_take (i := 1) (v := .pointer (some ⟨rp, 0, none⟩)) rfl (by kernel_rfl) (by kernel_rfl) (by kernel_rfl) (fun _ _ _ h => h) (Or.inl ⟨by rfl, fun W hW => by have h0 := hW; go_simp⟩) hS ?_
              refine wpAnyH_ready (rs := [0, 2]) (by kernel_rfl) (by simp) ?_
              refine AllReadyH.cons rfl (fun K hK => ?_) (AllReadyH.cons rfl (fun K hK => ?_) AllReadyH.nil)
              · skip
                go_simp
                refine hK.out _ _ trivial (fun hS => ?_)
                clear hK K
                refine wpAnyH_ready (rs := [2]) (by kernel_rfl) (by simp) ?_
                refine AllReadyH.cons rfl (fun K hK => ?_) AllReadyH.nil
                go_simp
                refine HC.out.mono ?_
                rintro e w1 ⟨rfl, hr1, hk1⟩
                unfold refusE
                refine ⟨rfl, rfl, HCL.out.drew.reader hr1 hk1, HBB.out.trans ((show Below N0 wr wr.drew from ⟨rfl, rfl, rfl, Nat.le_refl _, fun _ _ => rfl⟩).trans (HCL.out.drew.lowK hk1))⟩
              · skip
                go_simp
                refine HC.out.mono ?_
                rintro e w1 ⟨rfl, hr1, hk1⟩
                unfold refusE
                refine ⟨rfl, rfl, HCL.out.drew.reader hr1 hk1, HBB.out.trans ((show Below N0 wr wr.drew from ⟨rfl, rfl, rfl, Nat.le_refl _, fun _ _ => rfl⟩).trans (HCL.out.drew.lowK hk1))⟩
            · rw [if_neg hk] at hgo
              have HGO := Lib.hid hgo
              have HC := Lib.hid (rdText_yes HCL.out.drew.rd 40 (by decide) (by decide) (s := (getT 40 st.rest).1) (q := (getT 40 st.rest).2) rfl (by omega))
              generalize (getT 40 st.rest).1 = n at HGO HC
              generalize st.rest.drop (getT 40 st.rest).2 = rest' at HGO HC
              clear hgo hk
              go_wp2_with fail
              refine wp_region_held_drew (S := fun _ => True) mixed trivial (fun hS => ?_)
              refine wpAnyH_take (i := 1) (v := .pointer (some ⟨rp, 0, none⟩)) rfl (by kernel_rfl) (by kernel_rfl) (by kernel_rfl) (fun _ _ _ h => h) (Or.inl ⟨by rfl, fun W hW => by have h0 := hW; go_simp⟩) hS ?_
              refine wpAnyH_ready (rs := [0, 2]) (by kernel_rfl) (by simp) ?_
              refine AllReadyH.cons rfl (fun K hK => ?_) (AllReadyH.cons rfl (fun K hK => ?_) AllReadyH.nil)
              · skip
                go_simp
                refine hK.out _ _ trivial (fun hS => ?_)
                clear hK K
                refine wpAnyH_ready (rs := [2]) (by kernel_rfl) (by simp) ?_
                refine AllReadyH.cons rfl (fun K hK => ?_) AllReadyH.nil
                go_simp
                refine HC.out.mono ?_
                rintro e w1 ⟨rfl, hr1, hk1⟩
                have h1 := HCL.out.drew.reader hr1 hk1
                have hV := HCL.out.drew.keepV hk1 HU6.out.drew_ (by decide) (by decide)
                have x0 : w1.cell? ⟨p6, 0, none⟩ = some U6 := hV.blk.cell 0
                have x0l : p6 < w1.heap.size := hV.blk.lt
                obtain ⟨v3, w3, hrun, hb3, h2, hl3, a3, n3, c3, hv3⟩ := h1.put6 hV n (by simp only; omega) 74
                subst hv3
                have HRUN := Lib.hid hrun
                have H2 := Lib.hid h2
                have HB2 := Lib.hid (HBB.out.trans ((show Below N0 wr wr.drew from ⟨rfl, rfl, rfl, Nat.le_refl _, fun _ _ => rfl⟩).trans ((HCL.out.drew.lowK hk1).trans hl3)))
                have y0 : w3.cell? ⟨p6, 0, none⟩ = some U6 := hb3.cell 0
                have y1 : w3.frozen? ⟨p6, 0, none⟩ = false := hb3.frozen 0
                clear hr1 hk1 h1 hV hrun hb3 h2 hl3
                refine hK.out _ _ trivial (fun hS => ?_)
                clear hK K
                refine wpAnyH_ready (rs := [3]) (by kernel_rfl) (by simp) ?_
                refine AllReadyH.cons rfl (fun K hK => ?_) AllReadyH.nil
                go_simp
                refine hK.out _ _ trivial (fun hS => ?_)
                clear hK K
                refine wpAnyH_ready (rs := [4]) (by kernel_rfl) (by simp) ?_
                refine AllReadyH.cons rfl (fun K hK => ?_) AllReadyH.nil
                refine step_append_run rfl (.tmp 31) (.tmp 34) 74 rfl _ _ _ rfl rfl HRUN.out ?_
                refine hK.out _ _ trivial (fun hS => ?_)
                clear hK K
                refine wpAnyH_ready (rs := [5]) (by kernel_rfl) (by simp) ?_
                refine AllReadyH.cons rfl (fun K hK => ?_) AllReadyH.nil
                go_simp
                refine hK.out _ _ trivial (fun hS => ?_)
                clear hK K
                refine wpAnyH_done (by kernel_rfl) ?_ _
                clear u5 u6 x0 y0 y1 x0l
                have h9 := H2.out
                have hbA := HB2.out
                clear H2 HB2 HRUN
                go_wp2_with fail
                generalize w3.setCell ⟨p6, 0, none⟩ (.slice a3 n3 c3) = w4 at h9 hbA ⊢
                obtain ⟨U7, hU7⟩ := h9.v7
                have u7 : (w4).cell? ⟨p7, 0, none⟩ = some U7 := hU7.blk.cell 0
                have u7l : p7 < (w4).heap.size := hU7.blk.lt
                have HL := Lib.hid (left_any h9.drew.rd)
                obtain ⟨v10, w10, hr10, hb10, h10, hl10, a10, n10, c10, hv10⟩ := h9.drew.put7 hU7.drew_ rest'.length (by first | omega | (simp only; omega)) 55
                subst hv10
                have HR10 := Lib.hid hr10
                have H10 := Lib.hid h10
                have HB10 := Lib.hid (hbA.trans ((show Below N0 (w4) ((w4).drew) from ⟨rfl, rfl, rfl, Nat.le_refl _, fun _ _ => rfl⟩).trans hl10))
                have k0 : w10.cell? ⟨p7, 0, none⟩ = some U7 := hb10.cell 0
                have k1 : w10.frozen? ⟨p7, 0, none⟩ = false := hb10.frozen 0
                clear h9 hU7 hr10 hb10 h10 hl10 hbA
                refine wp_region_held_drew (S := fun _ => True) mixed trivial (fun hS => ?_)
                refine wpAnyH_take (i := 1) (v := .pointer (some ⟨rp, 0, none⟩)) rfl (by kernel_rfl) (by kernel_rfl) (by kernel_rfl) (fun _ _ _ h => h) (Or.inl ⟨by rfl, fun W hW => by have h0 := hW; go_simp⟩) hS ?_
                refine wpAnyH_ready (rs := [0, 2]) (by kernel_rfl) (by simp) ?_
                refine AllReadyH.cons rfl (fun K hK => ?_) (AllReadyH.cons rfl (fun K hK => ?_) AllReadyH.nil)
                · skip
                  go_simp
                  refine hK.out _ _ trivial (fun hS => ?_)
                  clear hK K
                  refine wpAnyH_ready (rs := [2]) (by kernel_rfl) (by simp) ?_
                  refine AllReadyH.cons rfl (fun K hK => ?_) AllReadyH.nil
                  go_simp
                  refine HL.out.mono ?_
                  rintro e wq ⟨rfl, rfl⟩
                  refine hK.out _ _ trivial (fun hS => ?_)
                  clear hK K
                  refine wpAnyH_ready (rs := [3]) (by kernel_rfl) (by simp) ?_
                  refine AllReadyH.cons rfl (fun K hK => ?_) AllReadyH.nil
                  go_simp
                  refine hK.out _ _ trivial (fun hS => ?_)
                  clear hK K
                  refine wpAnyH_ready (rs := [4]) (by kernel_rfl) (by simp) ?_
                  refine AllReadyH.cons rfl (fun K hK => ?_) AllReadyH.nil
                  refine step_append_run rfl (.tmp 36) (.tmp 39) 55 rfl _ _ _ rfl rfl HR10.out ?_
                  refine hK.out _ _ trivial (fun hS => ?_)
                  clear hK K
                  refine wpAnyH_ready (rs := [5]) (by kernel_rfl) (by simp) ?_
                  refine AllReadyH.cons rfl (fun K hK => ?_) AllReadyH.nil
                  go_simp
                  refine hK.out _ _ trivial (fun hS => ?_)
                  clear hK K
                  refine wpAnyH_done (by kernel_rfl) ?_ _
                  go_wp2
                  go_roundw
                  case rel => exact ⟨j + 1, _, by omega, by go_num, HGO.out, by simp [RSt.add]; omega, by simp [RSt.add]; omega, by simp [RSt.add]; omega, by simpa [RSt.add] using H10.out, HB10.out⟩
                  case measure => simp [intOf]; omega
                · skip
                  go_simp
                  refine HL.out.mono ?_
                  rintro e wq ⟨rfl, rfl⟩
                  refine hK.out _ _ trivial (fun hS => ?_)
                  clear hK K
                  refine wpAnyH_ready (rs := [0, 3]) (by kernel_rfl) (by simp) ?_
                  refine AllReadyH.cons rfl (fun K hK => ?_) (AllReadyH.cons rfl (fun K hK => ?_) AllReadyH.nil)
                  · skip
                    go_simp
                    refine hK.out _ _ trivial (fun hS => ?_)
                    clear hK K
                    refine wpAnyH_ready (rs := [3]) (by kernel_rfl) (by simp) ?_
                    refine AllReadyH.cons rfl (fun K hK => ?_) AllReadyH.nil
                    go_simp
                    refine hK.out _ _ trivial (fun hS => ?_)
                    clear hK K
                    refine wpAnyH_ready (rs := [4]) (by kernel_rfl) (by simp) ?_
                    refine AllReadyH.cons rfl (fun K hK => ?_) AllReadyH.nil
                    refine step_append_run rfl (.tmp 36) (.tmp 39) 55 rfl _ _ _ rfl rfl HR10.out ?_
                    refine hK.out _ _ trivial (fun hS => ?_)
                    clear hK K
                    refine wpAnyH_ready (rs := [5]) (by kernel_rfl) (by simp) ?_
                    refine AllReadyH.cons rfl (fun K hK => ?_) AllReadyH.nil
                    go_simp
                    refine hK.out _ _ trivial (fun hS => ?_)
                    clear hK K
                    refine wpAnyH_done (by kernel_rfl) ?_ _
                    go_wp2
                    go_roundw
                    case rel => exact ⟨j + 1, _, by omega, by go_num, HGO.out, by simp [RSt.add]; omega, by simp [RSt.add]; omega, by simp [RSt.add]; omega, by simpa [RSt.add] using H10.out, HB10.out⟩
                    case measure => simp [intOf]; omega
                  · skip
                    go_simp
                    refine hK.out _ _ trivial (fun hS => ?_)
                    clear hK K
                    refine wpAnyH_ready (rs := [0]) (by kernel_rfl) (by simp) ?_
                    refine AllReadyH.cons rfl (fun K hK => ?_) AllReadyH.nil
                    go_simp
                    refine hK.out _ _ trivial (fun hS => ?_)
                    clear hK K
                    refine wpAnyH_ready (rs := [4]) (by kernel_rfl) (by simp) ?_
                    refine AllReadyH.cons rfl (fun K hK => ?_) AllReadyH.nil
                    refine step_append_run rfl (.tmp 36) (.tmp 39) 55 rfl _ _ _ rfl rfl HR10.out ?_
                    refine hK.out _ _ trivial (fun hS => ?_)
                    clear hK K
                    refine wpAnyH_ready (rs := [5]) (by kernel_rfl) (by simp) ?_
                    refine AllReadyH.cons rfl (fun K hK => ?_) AllReadyH.nil
                    go_simp
                    refine hK.out _ _ trivial (fun hS => ?_)
                    clear hK K
                    refine wpAnyH_done (by kernel_rfl) ?_ _
                    go_wp2
                    go_roundw
                    case rel => exact ⟨j + 1, _, by omega, by go_num, HGO.out, by simp [RSt.add]; omega, by simp [RSt.add]; omega, by simp [RSt.add]; omega, by simpa [RSt.add] using H10.out, HB10.out⟩
                    case measure => simp [intOf]; omega
              · skip
                go_simp
                refine HC.out.mono ?_
                rintro e w1 ⟨rfl, hr1, hk1⟩
                have h1 := HCL.out.drew.reader hr1 hk1
                have hV := HCL.out.drew.keepV hk1 HU6.out.drew_ (by decide) (by decide)
                have x0 : w1.cell? ⟨p6, 0, none⟩ = some U6 := hV.blk.cell 0
                have x0l : p6 < w1.heap.size := hV.blk.lt
                obtain ⟨v3, w3, hrun, hb3, h2, hl3, a3, n3, c3, hv3⟩ := h1.put6 hV n (by simp only; omega) 74
                subst hv3
                have HRUN := Lib.hid hrun
                have H2 := Lib.hid h2
                have HB2 := Lib.hid (HBB.out.trans ((show Below N0 wr wr.drew from ⟨rfl, rfl, rfl, Nat.le_refl _, fun _ _ => rfl⟩).trans ((HCL.out.drew.lowK hk1).trans hl3)))
                have y0 : w3.cell? ⟨p6, 0, none⟩ = some U6 := hb3.cell 0
                have y1 : w3.frozen? ⟨p6, 0, none⟩ = false := hb3.frozen 0
                clear hr1 hk1 h1 hV hrun hb3 h2 hl3
                refine hK.out _ _ trivial (fun hS => ?_)
                clear hK K
                refine wpAnyH_ready (rs := [0, 3]) (by kernel_rfl) (by simp) ?_
                refine AllReadyH.cons rfl (fun K hK => ?_) (AllReadyH.cons rfl (fun K hK => ?_) AllReadyH.nil)
                · skip
                  go_simp
                  refine hK.out _ _ trivial (fun hS => ?_)
                  clear hK K
                  refine wpAnyH_ready (rs := [3]) (by kernel_rfl) (by simp) ?_
                  refine AllReadyH.cons rfl (fun K hK => ?_) AllReadyH.nil
                  go_simp
                  refine hK.out _ _ trivial (fun hS => ?_)
                  clear hK K
                  refine wpAnyH_ready (rs := [4]) (by kernel_rfl) (by simp) ?_
                  refine AllReadyH.cons rfl (fun K hK => ?_) AllReadyH.nil
                  refine step_append_run rfl (.tmp 31) (.tmp 34) 74 rfl _ _ _ rfl rfl HRUN.out ?_
                  refine hK.out _ _ trivial (fun hS => ?_)
                  clear hK K
                  refine wpAnyH_ready (rs := [5]) (by kernel_rfl) (by simp) ?_
                  refine AllReadyH.cons rfl (fun K hK => ?_) AllReadyH.nil
                  go_simp
                  refine hK.out _ _ trivial (fun hS => ?_)
                  clear hK K
                  refine wpAnyH_done (by kernel_rfl) ?_ _
                  clear u5 u6 x0 y0 y1 x0l
                  have h9 := H2.out
                  have hbA := HB2.out
                  clear H2 HB2 HRUN
                  go_wp2_with fail
                  generalize w3.setCell ⟨p6, 0, none⟩ (.slice a3 n3 c3) = w4 at h9 hbA ⊢
                  obtain ⟨U7, hU7⟩ := h9.v7
                  have u7 : (w4).cell? ⟨p7, 0, none⟩ = some U7 := hU7.blk.cell 0
                  have u7l : p7 < (w4).heap.size := hU7.blk.lt
                  have HL := Lib.hid (left_any h9.drew.rd)
                  obtain ⟨v10, w10, hr10, hb10, h10, hl10, a10, n10, c10, hv10⟩ := h9.drew.put7 hU7.drew_ rest'.length (by first | omega | (simp only; omega)) 55
                  subst hv10
                  have HR10 := Lib.hid hr10
                  have H10 := Lib.hid h10
                  have HB10 := Lib.hid (hbA.trans ((show Below N0 (w4) ((w4).drew) from ⟨rfl, rfl, rfl, Nat.le_refl _, fun _ _ => rfl⟩).trans hl10))
                  have k0 : w10.cell? ⟨p7, 0, none⟩ = some U7 := hb10.cell 0
                  have k1 : w10.frozen? ⟨p7, 0, none⟩ = false := hb10.frozen 0
                  clear h9 hU7 hr10 hb10 h10 hl10 hbA
                  refine wp_region_held_drew (S := fun _ => True) mixed trivial (fun hS => ?_)
                  refine wpAnyH_take (i := 1) (v := .pointer (some ⟨rp, 0, none⟩)) rfl (by kernel_rfl) (by kernel_rfl) (by kernel_rfl) (fun _ _ _ h => h) (Or.inl ⟨by rfl, fun W hW => by have h0 := hW; go_simp⟩) hS ?_
                  refine wpAnyH_ready (rs := [0, 2]) (by kernel_rfl) (by simp) ?_
                  refine AllReadyH.cons rfl (fun K hK => ?_) (AllReadyH.cons rfl (fun K hK => ?_) AllReadyH.nil)
                  · skip
                    go_simp
                    refine hK.out _ _ trivial (fun hS => ?_)
                    clear hK K
                    refine wpAnyH_ready (rs := [2]) (by kernel_rfl) (by simp) ?_
                    refine AllReadyH.cons rfl (fun K hK => ?_) AllReadyH.nil
                    go_simp
                    refine HL.out.mono ?_
                    rintro e wq ⟨rfl, rfl⟩
                    refine hK.out _ _ trivial (fun hS => ?_)
                    clear hK K
                    refine wpAnyH_ready (rs := [3]) (by kernel_rfl) (by simp) ?_
                    refine AllReadyH.cons rfl (fun K hK => ?_) AllReadyH.nil
                    go_simp
                    refine hK.out _ _ trivial (fun hS => ?_)
                    clear hK K
                    refine wpAnyH_ready (rs := [4]) (by kernel_rfl) (by simp) ?_
                    refine AllReadyH.cons rfl (fun K hK => ?_) AllReadyH.nil
                    refine step_append_run rfl (.tmp 36) (.tmp 39) 55 rfl _ _ _ rfl rfl HR10.out ?_
                    refine hK.out _ _ trivial (fun hS => ?_)
                    clear hK K
                    refine wpAnyH_ready (rs := [5]) (by kernel_rfl) (by simp) ?_
                    refine AllReadyH.cons rfl (fun K hK => ?_) AllReadyH.nil
                    go_simp
                    refine hK.out _ _ trivial (fun hS => ?_)
                    clear hK K
                    refine wpAnyH_done (by kernel_rfl) ?_ _
                    go_wp2
                    go_roundw
                    case rel => exact ⟨j + 1, _, by omega, by go_num, HGO.out, by simp [RSt.add]; omega, by simp [RSt.add]; omega, by simp [RSt.add]; omega, by simpa [RSt.add] using H10.out, HB10.out⟩
                    case measure => simp [intOf]; omega
                  · skip
                    go_simp
                    refine HL.out.mono ?_
                    rintro e wq ⟨rfl, rfl⟩
                    refine hK.out _ _ trivial (fun hS => ?_)
                    clear hK K
                    refine wpAnyH_ready (rs := [0, 3]) (by kernel_rfl) (by simp) ?_
                    refine AllReadyH.cons rfl (fun K hK => ?_) (AllReadyH.cons rfl (fun K hK => ?_) AllReadyH.nil)
                    · skip
                      go_simp
                      refine hK.out _ _ trivial (fun hS => ?_)
                      clear hK K
                      refine wpAnyH_ready (rs := [3]) (by kernel_rfl) (by simp) ?_
                      refine AllReadyH.cons rfl (fun K hK => ?_) AllReadyH.nil
                      go_simp
                      refine hK.out _ _ trivial (fun hS => ?_)
                      clear hK K
                      refine wpAnyH_ready (rs := [4]) (by kernel_rfl) (by simp) ?_
                      refine AllReadyH.cons rfl (fun K hK => ?_) AllReadyH.nil
                      refine step_append_run rfl (.tmp 36) (.tmp 39) 55 rfl _ _ _ rfl rfl HR10.out ?_
                      refine hK.out _ _ trivial (fun hS => ?_)
                      clear hK K
                      refine wpAnyH_ready (rs := [5]) (by kernel_rfl) (by simp) ?_
                      refine AllReadyH.cons rfl (fun K hK => ?_) AllReadyH.nil
                      go_simp
                      refine hK.out _ _ trivial (fun hS => ?_)
                      clear hK K
                      refine wpAnyH_done (by kernel_rfl) ?_ _
                      go_wp2
                      go_roundw
                      case rel => exact ⟨j + 1, _, by omega, by go_num, HGO.out, by simp [RSt.add]; omega, by simp [RSt.add]; omega, by simp [RSt.add]; omega, by simpa [RSt.add] using H10.out, HB10.out⟩
                      case measure => simp [intOf]; omega
                    · skip
                      go_simp
                      refine hK.out _ _ trivial (fun hS => ?_)
                      clear hK K
                      refine wpAnyH_ready (rs := [0]) (by kernel_rfl) (by simp) ?_
                      refine AllReadyH.cons rfl (fun K hK => ?_) AllReadyH.nil
                      go_simp
                      refine hK.out _ _ trivial (fun hS => ?_)
                      clear hK K
                      refine wpAnyH_ready (rs := [4]) (by kernel_rfl) (by simp) ?_
                      refine AllReadyH.cons rfl (fun K hK => ?_) AllReadyH.nil
                      refine step_append_run rfl (.tmp 36) (.tmp 39) 55 rfl _ _ _ rfl rfl HR10.out ?_
                      refine hK.out _ _ trivial (fun hS => ?_)
                      clear hK K
                      refine wpAnyH_ready (rs := [5]) (by kernel_rfl) (by simp) ?_
                      refine AllReadyH.cons rfl (fun K hK => ?_) AllReadyH.nil
                      go_simp
                      refine hK.out _ _ trivial (fun hS => ?_)
                      clear hK K
                      refine wpAnyH_done (by kernel_rfl) ?_ _
                      go_wp2
                      go_roundw
                      case rel => exact ⟨j + 1, _, by omega, by go_num, HGO.out, by simp [RSt.add]; omega, by simp [RSt.add]; omega, by simp [RSt.add]; omega, by simpa [RSt.add] using H10.out, HB10.out⟩
                      case measure => simp [intOf]; omega
                · skip
                  go_simp
                  refine hK.out _ _ trivial (fun hS => ?_)
                  clear hK K
                  refine wpAnyH_ready (rs := [0]) (by kernel_rfl) (by simp) ?_
                  refine AllReadyH.cons rfl (fun K hK => ?_) AllReadyH.nil
                  go_simp
                  refine hK.out _ _ trivial (fun hS => ?_)
                  clear hK K
                  refine wpAnyH_ready (rs := [4]) (by kernel_rfl) (by simp) ?_
                  refine AllReadyH.cons rfl (fun K hK => ?_) AllReadyH.nil
                  refine step_append_run rfl (.tmp 31) (.tmp 34) 74 rfl _ _ _ rfl rfl HRUN.out ?_
                  refine hK.out _ _ trivial (fun hS => ?_)
                  clear hK K
                  refine wpAnyH_ready (rs := [5]) (by kernel_rfl) (by simp) ?_
                  refine AllReadyH.cons rfl (fun K hK => ?_) AllReadyH.nil
                  go_simp
                  refine hK.out _ _ trivial (fun hS => ?_)
                  clear hK K
                  refine wpAnyH_done (by kernel_rfl) ?_ _
                  clear u5 u6 x0 y0 y1 x0l
                  have h9 := H2.out
                  have hbA := HB2.out
                  clear H2 HB2 HRUN
                  go_wp2_with fail
                  generalize w3.setCell ⟨p6, 0, none⟩ (.slice a3 n3 c3) = w4 at h9 hbA ⊢
                  obtain ⟨U7, hU7⟩ := h9.v7
                  have u7 : (w4).cell? ⟨p7, 0, none⟩ = some U7 := hU7.blk.cell 0
                  have u7l : p7 < (w4).heap.size := hU7.blk.lt
                  have HL := Lib.hid (left_any h9.drew.rd)
                  obtain ⟨v10, w10, hr10, hb10, h10, hl10, a10, n10, c10, hv10⟩ := h9.drew.put7 hU7.drew_ rest'.length (by first | omega | (simp only; omega)) 55
                  subst hv10
                  have HR10 := Lib.hid hr10
                  have H10 := Lib.hid h10
                  have HB10 := Lib.hid (hbA.trans ((show Below N0 (w4) ((w4).drew) from ⟨rfl, rfl, rfl, Nat.le_refl _, fun _ _ => rfl⟩).trans hl10))
                  have k0 : w10.cell? ⟨p7, 0, none⟩ = some U7 := hb10.cell 0
                  have k1 : w10.frozen? ⟨p7, 0, none⟩ = false := hb10.frozen 0
                  clear h9 hU7 hr10 hb10 h10 hl10 hbA
                  refine wp_region_held_drew (S := fun _ => True) mixed trivial (fun hS => ?_)
                  refine wpAnyH_take (i := 1) (v := .pointer (some ⟨rp, 0, none⟩)) rfl (by kernel_rfl) (by kernel_rfl) (by kernel_rfl) (fun _ _ _ h => h) (Or.inl ⟨by rfl, fun W hW => by have h0 := hW; go_simp⟩) hS ?_
                  refine wpAnyH_ready (rs := [0, 2]) (by kernel_rfl) (by simp) ?_
                  refine AllReadyH.cons rfl (fun K hK => ?_) (AllReadyH.cons rfl (fun K hK => ?_) AllReadyH.nil)
                  · skip
                    go_simp
                    refine hK.out _ _ trivial (fun hS => ?_)
                    clear hK K
                    refine wpAnyH_ready (rs := [2]) (by kernel_rfl) (by simp) ?_
                    refine AllReadyH.cons rfl (fun K hK => ?_) AllReadyH.nil
                    go_simp
                    refine HL.out.mono ?_
                    rintro e wq ⟨rfl, rfl⟩
                    refine hK.out _ _ trivial (fun hS => ?_)
                    clear hK K
                    refine wpAnyH_ready (rs := [3]) (by kernel_rfl) (by simp) ?_
                    refine AllReadyH.cons rfl (fun K hK => ?_) AllReadyH.nil
                    go_simp
                    refine hK.out _ _ trivial (fun hS => ?_)
                    clear hK K
                    refine wpAnyH_ready (rs := [4]) (by kernel_rfl) (by simp) ?_
                    refine AllReadyH.cons rfl (fun K hK => ?_) AllReadyH.nil
                    refine step_append_run rfl (.tmp 36) (.tmp 39) 55 rfl _ _ _ rfl rfl HR10.out ?_
                    refine hK.out _ _ trivial (fun hS => ?_)
                    clear hK K
                    refine wpAnyH_ready (rs := [5]) (by kernel_rfl) (by simp) ?_
                    refine AllReadyH.cons rfl (fun K hK => ?_) AllReadyH.nil
                    go_simp
                    refine hK.out _ _ trivial (fun hS => ?_)
                    clear hK K
                    refine wpAnyH_done (by kernel_rfl) ?_ _
                    go_wp2
                    go_roundw
                    case rel => exact ⟨j + 1, _, by omega, by go_num, HGO.out, by simp [RSt.add]; omega, by simp [RSt.add]; omega, by simp [RSt.add]; omega, by simpa [RSt.add] using H10.out, HB10.out⟩
                    case measure => simp [intOf]; omega
                  · skip
                    go_simp
                    refine HL.out.mono ?_
                    rintro e wq ⟨rfl, rfl⟩
                    refine hK.out _ _ trivial (fun hS => ?_)
                    clear hK K
                    refine wpAnyH_ready (rs := [0, 3]) (by kernel_rfl) (by simp) ?_
                    refine AllReadyH.cons rfl (fun K hK => ?_) (AllReadyH.cons rfl (fun K hK => ?_) AllReadyH.nil)
                    · skip
                      go_simp
                      refine hK.out _ _ trivial (fun hS => ?_)
                      clear hK K
                      refine wpAnyH_ready (rs := [3]) (by kernel_rfl) (by simp) ?_
                      refine AllReadyH.cons rfl (fun K hK => ?_) AllReadyH.nil
                      go_simp
                      refine hK.out _ _ trivial (fun hS => ?_)
                      clear hK K
                      refine wpAnyH_ready (rs := [4]) (by kernel_rfl) (by simp) ?_
                      refine AllReadyH.cons rfl (fun K hK => ?_) AllReadyH.nil
                      refine step_append_run rfl (.tmp 36) (.tmp 39) 55 rfl _ _ _ rfl rfl HR10.out ?_
                      refine hK.out _ _ trivial (fun hS => ?_)
                      clear hK K
                      refine wpAnyH_ready (rs := [5]) (by kernel_rfl) (by simp) ?_
                      refine AllReadyH.cons rfl (fun K hK => ?_) AllReadyH.nil
                      go_simp
                      refine hK.out _ _ trivial (fun hS => ?_)
                      clear hK K
                      refine wpAnyH_done (by kernel_rfl) ?_ _
                      go_wp2
                      go_roundw
                      case rel => exact ⟨j + 1, _, by omega, by go_num, HGO.out, by simp [RSt.add]; omega, by simp [RSt.add]; omega, by simp [RSt.add]; omega, by simpa [RSt.add] using H10.out, HB10.out⟩
                      case measure => simp [intOf]; omega
                    · skip
                      go_simp
                      refine hK.out _ _ trivial (fun hS => ?_)
                      clear hK K
                      refine wpAnyH_ready (rs := [0]) (by kernel_rfl) (by simp) ?_
                      refine AllReadyH.cons rfl (fun K hK => ?_) AllReadyH.nil
                      go_simp
                      refine hK.out _ _ trivial (fun hS => ?_)
                      clear hK K
                      refine wpAnyH_ready (rs := [4]) (by kernel_rfl) (by simp) ?_
                      refine AllReadyH.cons rfl (fun K hK => ?_) AllReadyH.nil
                      refine step_append_run rfl (.tmp 36) (.tmp 39) 55 rfl _ _ _ rfl rfl HR10.out ?_
                      refine hK.out _ _ trivial (fun hS => ?_)
                      clear hK K
                      refine wpAnyH_ready (rs := [5]) (by kernel_rfl) (by simp) ?_
                      refine AllReadyH.cons rfl (fun K hK => ?_) AllReadyH.nil
                      go_simp
                      refine hK.out _ _ trivial (fun hS => ?_)
                      clear hK K
                      refine wpAnyH_done (by kernel_rfl) ?_ _
                      go_wp2
                      go_roundw
                      case rel => exact ⟨j + 1, _, by omega, by go_num, HGO.out, by simp [RSt.add]; omega, by simp [RSt.add]; omega, by simp [RSt.add]; omega, by simpa [RSt.add] using H10.out, HB10.out⟩
                      case measure => simp [intOf]; omega
          · have z2 : (z == 2) = false := by simpa using h2
            rw [goC, stepC_o _ h0 h1 h2] at hgo
            have HGO := Lib.hid hgo
            clear hgo h0 h1 h2 u5 u6
            have h9 := HCL.out
            have hbA := HBB.out
            go_wp2_with fail
            obtain ⟨U7, hU7⟩ := h9.v7
            have u7 : (wr).cell? ⟨p7, 0, none⟩ = some U7 := hU7.blk.cell 0
            have u7l : p7 < (wr).heap.size := hU7.blk.lt
            have HL := Lib.hid (left_any h9.drew.rd)
            obtain ⟨v10, w10, hr10, hb10, h10, hl10, a10, n10, c10, hv10⟩ := h9.drew.put7 hU7.drew_ st.rest.length (by first | omega | (simp only; omega)) 55
            subst hv10
            have HR10 := Lib.hid hr10
            have H10 := Lib.hid h10
            have HB10 := Lib.hid (hbA.trans ((show Below N0 (wr) ((wr).drew) from ⟨rfl, rfl, rfl, Nat.le_refl _, fun _ _ => rfl⟩).trans hl10))
            have k0 : w10.cell? ⟨p7, 0, none⟩ = some U7 := hb10.cell 0
            have k1 : w10.frozen? ⟨p7, 0, none⟩ = false := hb10.frozen 0
            clear h9 hU7 hr10 hb10 h10 hl10 hbA
            refine wp_region_held_drew (S := fun _ => True) mixed trivial (fun hS => ?_)
            refine wpAnyH_take (i := 1) (v := .pointer (some ⟨rp, 0, none⟩)) rfl (by kernel_rfl) (by kernel_rfl) (by kernel_rfl) (fun _ _ _ h => h) (Or.inl ⟨by rfl, fun W hW => by have h0 := hW; go_simp⟩) hS ?_
            refine wpAnyH_ready (rs := [0, 2]) (by kernel_rfl) (by simp) ?_
            refine AllReadyH.cons rfl (fun K hK => ?_) (AllReadyH.cons rfl (fun K hK => ?_) AllReadyH.nil)
            · skip
              go_simp
              refine hK.out _ _ trivial (fun hS => ?_)
              clear hK K
              refine wpAnyH_ready (rs := [2]) (by kernel_rfl) (by simp) ?_
              refine AllReadyH.cons rfl (fun K hK => ?_) AllReadyH.nil
              go_simp
              refine HL.out.mono ?_
              rintro e wq ⟨rfl, rfl⟩
              refine hK.out _ _ trivial (fun hS => ?_)
              clear hK K
              refine wpAnyH_ready (rs := [3]) (by kernel_rfl) (by simp) ?_
              refine AllReadyH.cons rfl (fun K hK => ?_) AllReadyH.nil
              go_simp
              refine hK.out _ _ trivial (fun hS => ?_)
              clear hK K
              refine wpAnyH_ready (rs := [4]) (by kernel_rfl) (by simp) ?_
              refine AllReadyH.cons rfl (fun K hK => ?_) AllReadyH.nil
              refine step_append_run rfl (.tmp 36) (.tmp 39) 55 rfl _ _ _ rfl rfl HR10.out ?_
              refine hK.out _ _ trivial (fun hS => ?_)
              clear hK K
              refine wpAnyH_ready (rs := [5]) (by kernel_rfl) (by simp) ?_
              refine AllReadyH.cons rfl (fun K hK => ?_) AllReadyH.nil
              go_simp
              refine hK.out _ _ trivial (fun hS => ?_)
              clear hK K
              refine wpAnyH_done (by kernel_rfl) ?_ _
              go_wp2
              go_roundw
              case rel => exact ⟨j + 1, _, by omega, by go_num, HGO.out, by simp [RSt.add]; omega, by simp [RSt.add]; omega, by simp [RSt.add]; omega, by simpa [RSt.add] using H10.out, HB10.out⟩
              case measure => simp [intOf]; omega
            · skip
              go_simp
              refine HL.out.mono ?_
              rintro e wq ⟨rfl, rfl⟩
              refine hK.out _ _ trivial (fun hS => ?_)
              clear hK K
              refine wpAnyH_ready (rs := [0, 3]) (by kernel_rfl) (by simp) ?_
              refine AllReadyH.cons rfl (fun K hK => ?_) (AllReadyH.cons rfl (fun K hK => ?_) AllReadyH.nil)
              · skip
                go_simp
                refine hK.out _ _ trivial (fun hS => ?_)
                clear hK K
                refine wpAnyH_ready (rs := [3]) (by kernel_rfl) (by simp) ?_
                refine AllReadyH.cons rfl (fun K hK => ?_) AllReadyH.nil
                go_simp
                refine hK.out _ _ trivial (fun hS => ?_)
                clear hK K
                refine wpAnyH_ready (rs := [4]) (by kernel_rfl) (by simp) ?_
                refine AllReadyH.cons rfl (fun K hK => ?_) AllReadyH.nil
                refine step_append_run rfl (.tmp 36) (.tmp 39) 55 rfl _ _ _ rfl rfl HR10.out ?_
                refine hK.out _ _ trivial (fun hS => ?_)
                clear hK K
                refine wpAnyH_ready (rs := [5]) (by kernel_rfl) (by simp) ?_
                refine AllReadyH.cons rfl (fun K hK => ?_) AllReadyH.nil
                go_simp
                refine hK.out _ _ trivial (fun hS => ?_)
                clear hK K
                refine wpAnyH_done (by kernel_rfl) ?_ _
                go_wp2
                go_roundw
                case rel => exact ⟨j + 1, _, by omega, by go_num, HGO.out, by simp [RSt.add]; omega, by simp [RSt.add]; omega, by simp [RSt.add]; omega, by simpa [RSt.add] using H10.out, HB10.out⟩
                case measure => simp [intOf]; omega
              · skip
                go_simp
                refine hK.out _ _ trivial (fun hS => ?_)
                clear hK K
                refine wpAnyH_ready (rs := [0]) (by kernel_rfl) (by simp) ?_
                refine AllReadyH.cons rfl (fun K hK => ?_) AllReadyH.nil
                go_simp
                refine hK.out _ _ trivial (fun hS => ?_)
                clear hK K
                refine wpAnyH_ready (rs := [4]) (by kernel_rfl) (by simp) ?_
                refine AllReadyH.cons rfl (fun K hK => ?_) AllReadyH.nil
                refine step_append_run rfl (.tmp 36) (.tmp 39) 55 rfl _ _ _ rfl rfl HR10.out ?_
                refine hK.out _ _ trivial (fun hS => ?_)
                clear hK K
                refine wpAnyH_ready (rs := [5]) (by kernel_rfl) (by simp) ?_
                refine AllReadyH.cons rfl (fun K hK => ?_) AllReadyH.nil
                go_simp
                refine hK.out _ _ trivial (fun hS => ?_)
                clear hK K
                refine wpAnyH_done (by kernel_rfl) ?_ _
                go_wp2
                go_roundw
                case rel => exact ⟨j + 1, _, by omega, by go_num, HGO.out, by simp [RSt.add]; omega, by simp [RSt.add]; omega, by simp [RSt.add]; omega, by simpa [RSt.add] using H10.out, HB10.out⟩
                case measure => simp [intOf]; omega
    · obtain rfl : j = m := by omega
      rw [List.drop_of_length_le (by omega)] at hgo
      injection hgo with e1 e2
      subst e1 e2
      have HCL := Lib.hid hcl
      clear hcl
      go_wp2
      go_end0
      exact ⟨rfl, HCL.out, hb⟩
end Go.Proofs.Yteokiaeojgjpdaa
