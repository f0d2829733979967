/- JournalFull's walk. -/
import Derived.Test.YtdhiofbimebbkaaDoorJt
import Derived.Test.YtdhiofbimebbkaaDoorLp
namespace Go.Proofs.YtdhiofbimebbkaaDoor
open Go.RowKit Go.Maps Go.Sort

def FInv (w : World) (dp jp jm n : Nat) (D : List (List UInt8)) (z : List UInt8) (R : Nat) (rv cv iv : Value) (wr : World) : Prop :=
  ∃ (j : Nat) (r : Int) (ds : List (List UInt8)) (X Y : Nat → Prop) (L : List Ent), j ≤ n ∧ j ≤ 30 ∧ ds.length ≤ j ∧ rv = .int .i64 r ∧ cv = .int .i64 (ds.length : Nat) ∧ iv = .int .i64 (j : Nat) ∧ (r = -1 ∨ 0 ≤ r ∧ r < (j : Int) ∧ ∀ d, D[r.toNat]? = some d → d.length ≤ 1000) ∧
    (∀ d ∈ ds, d.length ≤ 1000) ∧ (fileL (idxI 0 ds)).length ≤ R ∧ JB w wr dp jp jm jn X Y (stF z R ds) L ∧ itms L = idxI 0 ds
def FPost (w : World) (e : Ending) (w' : World) : Prop := e = .returned (.bool true) ∧ Below w.heap.size w w'
set_option maxHeartbeats 4000000 in
set_option maxRecDepth 100000 in
theorem journalFull_walk {w : World} {A : Option Addr} {n c : Nat} {ps : List (Option Addr × Nat × Nat × List UInt8)} (room : Int) (hp : PartsAt w A n ps) (hn : n ≤ maxLen) (ht : TabAt w) :
    Calls Tryd.prog 4 #[.int .i64 room, .slice A n c] w (FPost w) := by
  have mixed : Tryd.prog.follows .mixedOrders = true := by kernel_rfl
  have HT := Lib.hid ht
  have HP := Lib.hid hp
  obtain ⟨D, hD⟩ : ∃ D, D = ps.map fun p => p.2.2.2 := ⟨_, rfl⟩
  have HD := Lib.hid hD
  have HDL := Lib.hid (show D.length = n by rw [hD, List.length_map]; exact hp.1)
  unfold maxLen at hn
  obtain ⟨hq0, hq1⟩ := and_le room 255 255 rfl (by decide)
  obtain ⟨rr, hq⟩ : ∃ rr : Nat, bits BinOp.and IntKind.i64 room 255 = (rr : Nat) := ⟨(bits BinOp.and IntKind.i64 room 255).toNat, by omega⟩
  have hrr : rr ≤ 255 := by omega
  obtain ⟨i0, hi0, hz0, hz1, hz2⟩ := info_parts byte_info
  clear ht hp hD hq0 hq1
  go_enter Tryd.func4, Tryd.ntmps4
  go_wp2_with fail
  refine (new_disk (rr : Int) _).mono ?_
  rintro e w1 ⟨dp, X1, rfl, h1⟩
  rw [show posP (rr : Int) = rr by unfold posP; omega] at h1
  have CV := Lib.hid (jalive_any w1 (HT.out.below h1.old))
  go_wp2_with fail
  refine CV.out.mono ?_
  rintro e w1' ⟨rfl, hbv⟩
  replace h1 := h1.below hbv
  clear hbv CV
  have C1 := Lib.hid (h1.disk.create (s0_ok (by omega)) othN (by decide))
  rw [show othN.data.toList = othL from rfl, sO_create] at C1
  go_wp2_with fail
  refine C1.out.mono ?_
  rintro e w2 ⟨rfl, ha⟩
  obtain ⟨X2, h2, _, _⟩ := h1.after ha
  clear h1 ha C1
  obtain ⟨zn, hzn⟩ : ∃ zn, zn = rr / 2 := ⟨_, rfl⟩
  obtain ⟨ZC, hZC⟩ : ∃ ZC, ZC = madeCells (Value.int .u8 0).cells zn := ⟨_, rfl⟩
  have hmk : ∀ W : World, (Instr.makeSlice 30 (.int .i64 ((rr : Int) / 2)) (.int .i64 ((rr : Int) / 2))).run Tryd.prog W = .ok (.slice (some ⟨W.heap.size, 0, none⟩) zn zn) (W.alloc (.cells ZC 5)) := fun W => by
    have e : ((rr : Int) / 2) = ((zn : Nat) : Int) := by omega
    rw [e]
    have := run_make (P := Tryd.prog) W 30 5 i0 _ Tryd.underlying30 hi0 hz0 .i64 .i64 (zn : Int) (zn : Int) (by omega) (by omega) (by rw [hz2]; omega) (by omega)
    rw [this, Int.toNat_natCast, hz1, hZC, Nat.mul_one]
  have hzb := made_bytes w2 zn
  rw [← hZC] at hzb
  have h2' := h2.alloc (.cells ZC 5)
  have C2 := Lib.hid (h2'.disk.append (c := zn) (sO_ok (Nat.zero_le _) (by omega)) othN (by decide) hzb (fun _ b o e => by injection e with e; injection e with e _ _; have := h2.at_; omega) (by omega))
  rw [show othN.data.toList = othL from rfl, sO_append (by rw [List.length_replicate]; omega), List.nil_append, List.length_replicate] at C2
  have HZN := Lib.hid hzn
  clear hZC hzb hzn hi0 hz0 hz1 hz2
  go_wp2_with fail
  refine C2.out.mono ?_
  rintro e w3 ⟨rfl, ha⟩
  obtain ⟨X3, h3, _, _⟩ := h2'.after ha
  clear ha h2 h2' C2 hmk
  obtain ⟨z, hz⟩ : ∃ z : List UInt8, z = List.replicate zn 0 := ⟨_, rfl⟩
  obtain ⟨R, hR⟩ : ∃ R, R = rr - zn := ⟨_, rfl⟩
  rw [← hz, ← hR] at h3
  have HZL := Lib.hid (show z.length ≤ 255 by rw [hz, List.length_replicate]; have := HZN.out; omega)
  have HRR := Lib.hid (show R ≤ 255 by omega)
  have C3 := Lib.hid (open_sO h3 (by have := HZL.out; omega) (by have := HRR.out; omega) HT.out)
  clear h3 hz hR hq hrr
  go_wp2_with fail
  refine C3.out.mono ?_
  rintro e w4 ⟨jp, jm, X4, Y4, L4, rfl, h4, i4⟩
  have hK0 := Lib.hid (show FInv w dp jp jm n D z R (.int .i64 (-1)) (.int .i64 0) (.int .i64 0) w4 from ⟨0, -1, [], X4, Y4, L4, Nat.zero_le _, by decide, Nat.le_refl _, rfl, rfl, rfl, .inl rfl, fun d hd => by simp at hd, Nat.zero_le _, by simpa [stF, idxI, fileL] using h4, by simpa [idxI] using i4⟩)
  clear h4 i4 C3
  go_wp2_with fail
  go_loopw [8, 9, 52] (fun rv cv iv wr => FInv w dp jp jm n D z R rv cv iv wr) (fun _ _ iv _ => n - (intOf iv).toNat)
  case atStart => exact hK0.out
  case round =>
    clear hK0
    obtain ⟨j, r, ds, X, Y, L, hjn, hj30, hdj, rfl, rfl, rfl, hrr, hdl, hfR, hJ, hI⟩ := hrel
    have HJ := Lib.hid hJ
    have HI := Lib.hid hI
    have HDS := Lib.hid hdl
    have HR := Lib.hid hrr
    clear hJ hI hdl hrr
    have hRle : R ≤ 255 := HRR.out
    by_cases hlt : j < n
    · have hlt' : (j : Int) < (n : Int) := by omega
      obtain ⟨pb, po, rfl, hpb, hpc⟩ := HP.out.2.2 (by omega)
      obtain ⟨p, hpj⟩ : ∃ p, ps[j]? = some p := ⟨ps[j]'(by have := HP.out.1; omega), List.getElem?_eq_getElem _⟩
      obtain ⟨hpB, hpm⟩ := HP.out.2.1 p (List.mem_of_getElem? hpj)
      have y0 : wr.cell? ⟨pb, po + j, none⟩ = some (.slice p.1 p.2.1 p.2.2.1) := by
        rw [HJ.out.old.cell (p := ⟨pb, po + j, none⟩) hpb]; exact hpc j p hpj
      have hDj : D[j]? = some p.2.2.2 := by rw [HD.out, List.getElem?_map, hpj]; rfl
      clear hpc hpj
      obtain ⟨pA, pn, pc, bs⟩ := p
      simp only at hpB hpm y0 hDj
      have HBL := Lib.hid hpB.1
      have HPB := Lib.hid hpB
      have HDJ := Lib.hid hDj
      unfold maxLen at hpm
      clear hpB hDj
      by_cases h30 : 30 ≤ j
      · have h30' : (30 : Int) ≤ (j : Int) := by omega
        clear h30
        have hll : L.length = ds.length := by rw [← itms_len, HI.out, idxI_len]
        rcases HR.out with hr | ⟨hr0, hr1, hr2⟩
        · subst hr
          have CK := Lib.hid (keys_all HJ.out.jat (by omega))
          have HLL := Lib.hid hll
          clear hll
          go_wp2_with fail
          refine CK.out.mono ?_
          rintro e w9 ⟨v9, rfl, hr9, hb9⟩
          obtain ⟨A9, c9, rfl⟩ := keys_slice hr9
          rw [HLL.out]
          have HO := Lib.hid (HJ.out.below hb9).old
          clear hr9 hb9 CK
          go_wp2
          go_ret
          exact ⟨rfl, HO.out⟩
        · obtain ⟨rn, rfl⟩ : ∃ rn : Nat, r = (rn : Nat) := ⟨r.toNat, by omega⟩
          rw [Int.toNat_natCast] at hr2
          have hrneg : ¬ ((rn : Nat) : Int) < 0 := by omega
          have hrn : rn < n := by omega

          have hpc1 : ∀ i p, ps[i]? = some p → w.cell? ⟨pb, po + i, none⟩ = some (.slice p.1 p.2.1 p.2.2.1) := by
            obtain ⟨b1, o1, e1, _, h1⟩ := HP.out.2.2 (by omega)
            injection e1 with e1; injection e1 with e1 e2 _
            rw [e1, e2]; exact h1
          obtain ⟨p2, hpj2⟩ : ∃ p, ps[rn]? = some p := ⟨ps[rn]'(by have := HP.out.1; omega), List.getElem?_eq_getElem _⟩
          obtain ⟨hpB2, hpm2⟩ := HP.out.2.1 p2 (List.mem_of_getElem? hpj2)
          have z1 : ∀ W, Below w.heap.size w W → W.cell? ⟨pb, po + rn, none⟩ = some (.slice p2.1 p2.2.1 p2.2.2.1) := fun W hW => by
            rw [hW.cell (p := ⟨pb, po + rn, none⟩) hpb]; exact hpc1 rn p2 hpj2
          have hD2 : D[rn]? = some p2.2.2.2 := by rw [HD.out, List.getElem?_map, hpj2]; rfl
          obtain ⟨pA2, pn2, pc2, bs2⟩ := p2
          simp only at hpB2 hpm2 z1 hD2
          have hb2l := hr2 bs2 hD2
          have Z1 := Lib.hid z1
          have HPB2 := Lib.hid hpB2
          have HB2L := Lib.hid (And.intro hpB2.1 hb2l)
          have hpn2 : pn2 ≤ 1000 := by have := hpB2.1; omega
          have CR := Lib.hid (HJ.out.disk.remove (sF_ok (by omega) (by have := HZL.out; omega) (by omega)) othN (by decide))
          rw [show othN.data.toList = othL from rfl, show removeS othL (stF z R ds) = (0, sJ (fileL (idxI 0 ds)) 0 (R - (fileL (idxI 0 ds)).length + z.length)) from sF_remove _ _ _ _] at CR
          obtain ⟨fr, hfr⟩ : ∃ fr, fr = R - (fileL (idxI 0 ds)).length + z.length := ⟨_, rfl⟩
          rw [← hfr] at CR
          have hfr2 : fr ≤ 510 := by have := HZL.out; omega
          have HLL := Lib.hid hll
          clear hll hfr z1 hD2 hb2l hr2 hpc1 hpj2 hpB2 hpm2
          go_wp2_with fail
          refine CR.out.mono ?_
          rintro e w4 ⟨rfl, ha⟩
          obtain ⟨X5, h5⟩ := HJ.out.after ha
          simp only at h5
          have CK := Lib.hid (keys_all h5.jat (by have := HLL.out; omega))
          have H5 := Lib.hid h5
          clear ha h5 CR
          go_wp2_with fail
          refine CK.out.mono ?_
          rintro e w5 ⟨v9, rfl, hr9, hb9⟩
          obtain ⟨A9, c9, rfl⟩ := keys_slice hr9
          rw [HLL.out]
          have h5 := H5.out.below hb9
          have h5d := h5.below (w' := w5.drew) ⟨rfl, rfl, rfl, Nat.le_refl _, fun _ _ => rfl⟩
          have y1 := Z1.out w5.drew h5d.old
          have RM := Lib.hid h5d.disk.room
          rw [show (sJ (fileL (idxI 0 ds)) 0 fr).free = fr from rfl] at RM
          have hrnI : (rn : Int) < (n : Int) := by omega
          have hwr : IntKind.i64.wrap ((pn2 : Int) + 10) = (pn2 : Int) + 10 := by rw [IntKind.wrap_i64]; omega
          have I5 := Lib.hid HI.out
          have HH5 := Lib.hid h5d
          clear hr9 hb9 CK h5 h5d
          have HDSL := Lib.hid (show (idxI 0 ds).length ≤ 30 ∧ ds.length ≤ 30 ∧ (fileL (idxI 0 ds)).length ≤ 255 from ⟨by rw [idxI_len]; omega, by omega, by omega⟩)
          obtain ⟨q, hq⟩ : ∃ q, q = ds.length := ⟨_, rfl⟩
          have HQ := Lib.hid hq
          rw [← hq]
          have CP := Lib.hid (jb_put (c := pc2) (k := ds.length) HH5.out (sJ_ok (by have := HDSL.out; omega) (by omega)) (HPB2.out.below HH5.out.old) (by omega) (by omega) (by decide) HT.out (by rw [I5.out]; have := HDSL.out; omega))
          rw [I5.out, show jn.data.toList = [106] from rfl] at CP
          clear hq
          go_wp2_with fail
          refine wp_region_held_drew (S := fun W => W.cell? ⟨pb, po + rn, none⟩ = some (.slice pA2 pn2 pc2)) mixed y1 (fun hS => ?_)
          refine wpAnyH_take (i := 0) (v := .slice (some ⟨pb, po, none⟩) n c) rfl (by kernel_rfl) (by kernel_rfl) (by kernel_rfl) (fun _ _ _ h => h) (Or.inl ⟨by rfl, fun W hW => by have h0 := hW; go_simp⟩) hS ?_
          try simp only [Act.put, List.getElem_toArray, List.getElem_cons_zero, List.getElem_cons_succ, List.setIfInBounds_toArray, List.set_cons_zero, List.set_cons_succ]
          refine wpAnyH_take (i := 1) (v := .int .i64 (rn : Nat)) rfl (by kernel_rfl) (by kernel_rfl) (by kernel_rfl) (fun _ _ _ h => h) (Or.inl ⟨by rfl, fun W hW => by have h0 := hW; go_simp⟩) hS ?_
          try simp only [Act.put, List.getElem_toArray, List.getElem_cons_zero, List.getElem_cons_succ, List.setIfInBounds_toArray, List.set_cons_zero, List.set_cons_succ]
          refine wpAnyH_take (i := 2) (v := .pointer (some ⟨pb, po + rn, none⟩)) rfl (by kernel_rfl) (by kernel_rfl) (by kernel_rfl) (fun _ _ _ h => h) (Or.inl ⟨by rfl, fun W hW => by have h0 := hW; go_simp⟩) hS ?_
          try simp only [Act.put, List.getElem_toArray, List.getElem_cons_zero, List.getElem_cons_succ, List.setIfInBounds_toArray, List.set_cons_zero, List.set_cons_succ]
          refine wpAnyH_take (i := 3) (v := .slice pA2 pn2 pc2) rfl (by kernel_rfl) (by kernel_rfl) (by kernel_rfl) (fun _ _ _ h => h) (Or.inl ⟨by rfl, fun W hW => by have h0 := hW; go_simp⟩) hS ?_
          try simp only [Act.put, List.getElem_toArray, List.getElem_cons_zero, List.getElem_cons_succ, List.setIfInBounds_toArray, List.set_cons_zero, List.set_cons_succ]
          refine wpAnyH_take (i := 4) (v := .int .i64 (pn2 : Nat)) rfl (by kernel_rfl) (by kernel_rfl) (by kernel_rfl) (fun _ _ _ h => h) (Or.inl ⟨by rfl, fun W hW => by have h0 := hW; go_simp⟩) hS ?_
          try simp only [Act.put, List.getElem_toArray, List.getElem_cons_zero, List.getElem_cons_succ, List.setIfInBounds_toArray, List.set_cons_zero, List.set_cons_succ]
          refine wpAnyH_take (i := 5) (v := .int .i64 ((pn2 : Int) + 10)) rfl (by kernel_rfl) (by kernel_rfl) (by kernel_rfl) (fun _ _ _ h => h) (Or.inl ⟨by rfl, fun W hW => by have h0 := hW; go_simp⟩) hS ?_
          try simp only [Act.put, List.getElem_toArray, List.getElem_cons_zero, List.getElem_cons_succ, List.setIfInBounds_toArray, List.set_cons_zero, List.set_cons_succ]
          refine wpAnyH_take (i := 6) (v := .pointer (some ⟨dp, 0, none⟩)) rfl (by kernel_rfl) (by kernel_rfl) (by kernel_rfl) (fun _ _ _ h => h) (Or.inl ⟨by rfl, fun W hW => by have h0 := hW; go_simp⟩) hS ?_
          try simp only [Act.put, List.getElem_toArray, List.getElem_cons_zero, List.getElem_cons_succ, List.setIfInBounds_toArray, List.set_cons_zero, List.set_cons_succ]
          refine wpAnyH_ready (rs := [7]) (by kernel_rfl) (by simp) ?_
          refine AllReadyH.cons rfl (fun K hK => ?_) AllReadyH.nil
          go_simp
          (with_reducible refine RM.out.mono ?_)
          rintro e w6 ⟨rfl, rfl⟩
          refine hK.out _ _ y1 (fun hS => ?_)
          clear hK K
          by_cases hfit : (pn2 : Int) + 10 ≤ (fr : Int)
          · have hfit2 := hfit
            refine wpAnyH_take (i := 8) (v := .bool true) rfl (by kernel_rfl) (by kernel_rfl) (by kernel_rfl) (fun _ _ _ h => h) (Or.inl ⟨by rfl, fun W hW => by have h0 := hW; go_simp⟩) hS ?_
            try simp only [Act.put, List.getElem_toArray, List.getElem_cons_zero, List.getElem_cons_succ, List.setIfInBounds_toArray, List.set_cons_zero, List.set_cons_succ]
            refine wpAnyH_take (i := 9) (v := .bool true) rfl (by kernel_rfl) (by kernel_rfl) (by kernel_rfl) (fun _ _ _ h => h) (Or.inl ⟨by rfl, fun W hW => by have h0 := hW; go_simp⟩) hS ?_
            try simp only [Act.put, List.getElem_toArray, List.getElem_cons_zero, List.getElem_cons_succ, List.setIfInBounds_toArray, List.set_cons_zero, List.set_cons_succ]
            refine wpAnyH_take (i := 10) (v := .pointer (some ⟨jp, 0, none⟩)) rfl (by kernel_rfl) (by kernel_rfl) (by kernel_rfl) (fun _ _ _ h => h) (Or.inl ⟨by rfl, fun W hW => by have h0 := hW; go_simp⟩) hS ?_
            try simp only [Act.put, List.getElem_toArray, List.getElem_cons_zero, List.getElem_cons_succ, List.setIfInBounds_toArray, List.set_cons_zero, List.set_cons_succ]
            refine wpAnyH_take (i := 11) (v := .int .i64 (q : Nat)) rfl (by kernel_rfl) (by kernel_rfl) (by kernel_rfl) (fun _ _ _ h => h) (Or.inl ⟨by rfl, fun W hW => by have h0 := hW; go_simp⟩) hS ?_
            try simp only [Act.put, List.getElem_toArray, List.getElem_cons_zero, List.getElem_cons_succ, List.setIfInBounds_toArray, List.set_cons_zero, List.set_cons_succ]
            refine wpAnyH_take (i := 12) (v := .slice (some ⟨pb, po, none⟩) n c) rfl (by kernel_rfl) (by kernel_rfl) (by kernel_rfl) (fun _ _ _ h => h) (Or.inl ⟨by rfl, fun W hW => by have h0 := hW; go_simp⟩) hS ?_
            try simp only [Act.put, List.getElem_toArray, List.getElem_cons_zero, List.getElem_cons_succ, List.setIfInBounds_toArray, List.set_cons_zero, List.set_cons_succ]
            refine wpAnyH_take (i := 13) (v := .int .i64 (rn : Nat)) rfl (by kernel_rfl) (by kernel_rfl) (by kernel_rfl) (fun _ _ _ h => h) (Or.inl ⟨by rfl, fun W hW => by have h0 := hW; go_simp⟩) hS ?_
            try simp only [Act.put, List.getElem_toArray, List.getElem_cons_zero, List.getElem_cons_succ, List.setIfInBounds_toArray, List.set_cons_zero, List.set_cons_succ]
            refine wpAnyH_take (i := 14) (v := .pointer (some ⟨pb, po + rn, none⟩)) rfl (by kernel_rfl) (by kernel_rfl) (by kernel_rfl) (fun _ _ _ h => h) (Or.inl ⟨by rfl, fun W hW => by have h0 := hW; go_simp⟩) hS ?_
            try simp only [Act.put, List.getElem_toArray, List.getElem_cons_zero, List.getElem_cons_succ, List.setIfInBounds_toArray, List.set_cons_zero, List.set_cons_succ]
            refine wpAnyH_take (i := 15) (v := .slice pA2 pn2 pc2) rfl (by kernel_rfl) (by kernel_rfl) (by kernel_rfl) (fun _ _ _ h => h) (Or.inl ⟨by rfl, fun W hW => by have h0 := hW; go_simp⟩) hS ?_
            try simp only [Act.put, List.getElem_toArray, List.getElem_cons_zero, List.getElem_cons_succ, List.setIfInBounds_toArray, List.set_cons_zero, List.set_cons_succ]
            have hput := sJ_put (b := fileL (idxI 0 ds)) (sf := 0) (fr := fr) (its := idxI 0 ds) (k := ds.length) (d := bs2) (by rw [hasK_idx ds 0 ds.length (Nat.zero_le _)]; simp) (by rw [rec_len (by have := HDSL.out; omega)]; have := HB2L.out; omega)
            rw [hput, ← HQ.out] at CP
            have hfl : (fileL (idxI 0 (ds ++ [bs2]))).length ≤ 1300 := by rw [idxI_snoc, fileL_snoc, List.length_append, rec_len (by have := HDSL.out; omega)]; have := HDSL.out; have := HB2L.out; omega
            have hdsl : (ds ++ [bs2]).length ≤ 31 := by rw [List.length_append]; have := HDSL.out; show ds.length + 1 ≤ 31; omega
            clear hput
            refine wpAnyH_ready (rs := [16]) (by kernel_rfl) (by simp) ?_
            refine AllReadyH.cons rfl (fun K hK => ?_) AllReadyH.nil
            go_simp
            (with_reducible refine CP.out.mono ?_)
            rintro e w7 ⟨rfl, X7, Y7, L6, h7, i7⟩
            simp only at h7 i7
            have y2 := Z1.out w7 h7.old
            refine hK.out _ _ y2 (fun hS => ?_)
            clear hK K
            refine wpAnyH_take (i := 17) (v := .bool false) rfl (by kernel_rfl) (by kernel_rfl) (by kernel_rfl) (fun _ _ _ h => h) (Or.inl ⟨by rfl, fun W hW => by have h0 := hW; go_simp⟩) hS ?_
            try simp only [Act.put, List.getElem_toArray, List.getElem_cons_zero, List.getElem_cons_succ, List.setIfInBounds_toArray, List.set_cons_zero, List.set_cons_succ]
            refine wpAnyH_take (i := 18) (v := .bool false) rfl (by kernel_rfl) (by kernel_rfl) (by kernel_rfl) (fun _ _ _ h => h) (Or.inl ⟨by rfl, fun W hW => by have h0 := hW; go_simp⟩) hS ?_
            try simp only [Act.put, List.getElem_toArray, List.getElem_cons_zero, List.getElem_cons_succ, List.setIfInBounds_toArray, List.set_cons_zero, List.set_cons_succ]
            refine wpAnyH_done (by kernel_rfl) ?_ _
            have e1 : fileL (idxI 0 (ds ++ [bs2])) = fileL (idxI 0 ds) ++ recI (ds.length, bs2) := by rw [idxI_snoc, fileL_snoc]
            have H6 := Lib.hid (show JB w w7 dp jp jm jn X7 Y7 (sJ (fileL (idxI 0 (ds ++ [bs2]))) 0 (fr - (recI (ds.length, bs2)).length)) L6 by rw [e1]; rw [HQ.out] at h7; exact h7)
            have I6 := Lib.hid (show itms L6 = idxI 0 (ds ++ [bs2]) by rw [i7, HQ.out, idxI_snoc])
            have l6 : L6.length ≤ 31 := by rw [← itms_len, I6.out, idxI_len]; exact hdsl
            have HDSX := Lib.hid (show ∀ d ∈ ds ++ [bs2], d.length ≤ 1000 from fun d hd => by
              rcases List.mem_append.1 hd with hd | hd
              · exact HDS.out d hd
              · obtain rfl : d = bs2 := by simpa using hd
                exact HB2L.out.2)
            clear h7 i7 e1 y2 hS CP RM hfit hfit2
            have hgd : GoodL [] (idxI 0 (ds ++ [bs2])) := good_idx (by omega) HDSX.out
            have hO := open_full H6.out.db hgd (by omega) (by omega) (Nat.zero_le _) HT.out
            have CO := Lib.hid hO
            have HGD := Lib.hid hgd
            clear hO hgd
            go_wp2_with fail
            refine CO.out.mono ?_
            rintro e w8 ⟨⟨kp, km, X8, Y8, L8, rfl, h8, i8⟩, hk8⟩
            have j8 := H6.out.jat.kept hk8 H6.out.sep
            have l8 : L8.length = L6.length := by rw [← itms_len, i8, ← itms_len L6, I6.out]
            have CK := Lib.hid (keys_all h8.jat (by omega))
            have H8 := Lib.hid h8
            have J8 := Lib.hid j8
            have I8 := Lib.hid i8
            have HL8 := Lib.hid l8
            clear h8 j8 i8 l8 hk8 CO
            go_wp2_with fail
            refine CK.out.mono ?_
            rintro e w9 ⟨v9, rfl, hr9, hb9⟩
            obtain ⟨A9, c9, rfl⟩ := keys_slice hr9
            rw [HL8.out]
            have H9 := Lib.hid (H8.out.below hb9)
            have J9 := Lib.hid (J8.out.below hb9)
            have CJ := Lib.hid (keys_all J9.out (by omega))
            clear hr9 hb9 CK
            go_wp2_with fail
            refine CJ.out.mono ?_
            rintro e w10 ⟨v10, rfl, hr10, hb10⟩
            obtain ⟨A10, c10, rfl⟩ := keys_slice hr10
            have h10 := H9.out.below hb10
            have S10 := Lib.hid (size_any h10.jat)
            have T10 := Lib.hid (size_any (J9.out.below hb10))
            rw [I8.out] at S10
            rw [I6.out] at T10
            have HO := Lib.hid h10.old
            obtain ⟨fz, hfz⟩ : ∃ fz, fz = (fileL (idxI 0 (ds ++ [bs2]))).length := ⟨_, rfl⟩
            rw [← hfz] at S10 T10
            clear hr10 hb10 h10 hfz CJ
            go_wp2_with fail
            refine S10.out.mono ?_
            rintro e w11 ⟨rfl, rfl⟩
            go_wp2_with fail
            refine T10.out.mono ?_
            rintro e w11 ⟨rfl, rfl⟩
            go_wp2
            go_ret
            exact ⟨rfl, HO.out⟩
          · have hfit2 := hfit
            refine wpAnyH_take (i := 8) (v := .bool false) rfl (by kernel_rfl) (by kernel_rfl) (by kernel_rfl) (fun _ _ _ h => h) (Or.inl ⟨by rfl, fun W hW => by have h0 := hW; go_simp⟩) hS ?_
            try simp only [Act.put, List.getElem_toArray, List.getElem_cons_zero, List.getElem_cons_succ, List.setIfInBounds_toArray, List.set_cons_zero, List.set_cons_succ]
            refine wpAnyH_take (i := 9) (v := .bool false) rfl (by kernel_rfl) (by kernel_rfl) (by kernel_rfl) (fun _ _ _ h => h) (Or.inl ⟨by rfl, fun W hW => by have h0 := hW; go_simp⟩) hS ?_
            try simp only [Act.put, List.getElem_toArray, List.getElem_cons_zero, List.getElem_cons_succ, List.setIfInBounds_toArray, List.set_cons_zero, List.set_cons_succ]
            refine wpAnyH_take (i := 10) (v := undef) rfl (by kernel_rfl) (by kernel_rfl) (by kernel_rfl) (fun _ _ _ h => h) (Or.inr ⟨by rfl, rfl⟩) hS ?_
            try simp only [Act.put, List.getElem_toArray, List.getElem_cons_zero, List.getElem_cons_succ, List.setIfInBounds_toArray, List.set_cons_zero, List.set_cons_succ]
            refine wpAnyH_take (i := 11) (v := undef) rfl (by kernel_rfl) (by kernel_rfl) (by kernel_rfl) (fun _ _ _ h => h) (Or.inr ⟨by rfl, rfl⟩) hS ?_
            try simp only [Act.put, List.getElem_toArray, List.getElem_cons_zero, List.getElem_cons_succ, List.setIfInBounds_toArray, List.set_cons_zero, List.set_cons_succ]
            refine wpAnyH_take (i := 12) (v := undef) rfl (by kernel_rfl) (by kernel_rfl) (by kernel_rfl) (fun _ _ _ h => h) (Or.inr ⟨by rfl, rfl⟩) hS ?_
            try simp only [Act.put, List.getElem_toArray, List.getElem_cons_zero, List.getElem_cons_succ, List.setIfInBounds_toArray, List.set_cons_zero, List.set_cons_succ]
            refine wpAnyH_take (i := 13) (v := undef) rfl (by kernel_rfl) (by kernel_rfl) (by kernel_rfl) (fun _ _ _ h => h) (Or.inr ⟨by rfl, rfl⟩) hS ?_
            try simp only [Act.put, List.getElem_toArray, List.getElem_cons_zero, List.getElem_cons_succ, List.setIfInBounds_toArray, List.set_cons_zero, List.set_cons_succ]
            refine wpAnyH_take (i := 14) (v := undef) rfl (by kernel_rfl) (by kernel_rfl) (by kernel_rfl) (fun _ _ _ h => h) (Or.inr ⟨by rfl, rfl⟩) hS ?_
            try simp only [Act.put, List.getElem_toArray, List.getElem_cons_zero, List.getElem_cons_succ, List.setIfInBounds_toArray, List.set_cons_zero, List.set_cons_succ]
            refine wpAnyH_take (i := 15) (v := undef) rfl (by kernel_rfl) (by kernel_rfl) (by kernel_rfl) (fun _ _ _ h => h) (Or.inr ⟨by rfl, rfl⟩) hS ?_
            try simp only [Act.put, List.getElem_toArray, List.getElem_cons_zero, List.getElem_cons_succ, List.setIfInBounds_toArray, List.set_cons_zero, List.set_cons_succ]
            refine wpAnyH_take (i := 16) (v := undef) rfl (by kernel_rfl) (by kernel_rfl) (by kernel_rfl) (fun _ _ _ h => h) (Or.inr ⟨by rfl, rfl⟩) hS ?_
            try simp only [Act.put, List.getElem_toArray, List.getElem_cons_zero, List.getElem_cons_succ, List.setIfInBounds_toArray, List.set_cons_zero, List.set_cons_succ]
            refine wpAnyH_take (i := 17) (v := undef) rfl (by kernel_rfl) (by kernel_rfl) (by kernel_rfl) (fun _ _ _ h => h) (Or.inr ⟨by rfl, rfl⟩) hS ?_
            try simp only [Act.put, List.getElem_toArray, List.getElem_cons_zero, List.getElem_cons_succ, List.setIfInBounds_toArray, List.set_cons_zero, List.set_cons_succ]
            refine wpAnyH_take (i := 18) (v := .bool false) rfl (by kernel_rfl) (by kernel_rfl) (by kernel_rfl) (fun _ _ _ h => h) (Or.inl ⟨by rfl, fun W hW => by have h0 := hW; go_simp⟩) hS ?_
            try simp only [Act.put, List.getElem_toArray, List.getElem_cons_zero, List.getElem_cons_succ, List.setIfInBounds_toArray, List.set_cons_zero, List.set_cons_succ]
            refine wpAnyH_done (by kernel_rfl) ?_ _
            have H6 := Lib.hid HH5.out
            have I6 := Lib.hid I5.out
            obtain ⟨L6, hL6⟩ : ∃ L6, L6 = L := ⟨_, rfl⟩
            subst hL6
            have hfl : (fileL (idxI 0 ds)).length ≤ 255 := HDSL.out.2.2
            have hdsl : ds.length ≤ 30 := HDSL.out.2.1
            have l6 : L6.length ≤ 31 := by rw [← itms_len, I6.out, idxI_len]; omega
            clear hS CP RM hfit hfit2
            have hgd : GoodL [] (idxI 0 ds) := good_idx (by omega) HDS.out
            have hO := open_full H6.out.db hgd (by omega) (by omega) (Nat.zero_le _) HT.out
            have CO := Lib.hid hO
            have HGD := Lib.hid hgd
            clear hO hgd
            go_wp2_with fail
            refine CO.out.mono ?_
            rintro e w8 ⟨⟨kp, km, X8, Y8, L8, rfl, h8, i8⟩, hk8⟩
            have j8 := H6.out.jat.kept hk8 H6.out.sep
            have l8 : L8.length = L6.length := by rw [← itms_len, i8, ← itms_len L6, I6.out]
            have CK := Lib.hid (keys_all h8.jat (by omega))
            have H8 := Lib.hid h8
            have J8 := Lib.hid j8
            have I8 := Lib.hid i8
            have HL8 := Lib.hid l8
            clear h8 j8 i8 l8 hk8 CO
            go_wp2_with fail
            refine CK.out.mono ?_
            rintro e w9 ⟨v9, rfl, hr9, hb9⟩
            obtain ⟨A9, c9, rfl⟩ := keys_slice hr9
            rw [HL8.out]
            have H9 := Lib.hid (H8.out.below hb9)
            have J9 := Lib.hid (J8.out.below hb9)
            have CJ := Lib.hid (keys_all J9.out (by omega))
            clear hr9 hb9 CK
            go_wp2_with fail
            refine CJ.out.mono ?_
            rintro e w10 ⟨v10, rfl, hr10, hb10⟩
            obtain ⟨A10, c10, rfl⟩ := keys_slice hr10
            have h10 := H9.out.below hb10
            have S10 := Lib.hid (size_any h10.jat)
            have T10 := Lib.hid (size_any (J9.out.below hb10))
            rw [I8.out] at S10
            rw [I6.out] at T10
            have HO := Lib.hid h10.old
            obtain ⟨fz, hfz⟩ : ∃ fz, fz = (fileL (idxI 0 ds)).length := ⟨_, rfl⟩
            rw [← hfz] at S10 T10
            clear hr10 hb10 h10 hfz CJ
            go_wp2_with fail
            refine S10.out.mono ?_
            rintro e w11 ⟨rfl, rfl⟩
            go_wp2_with fail
            refine T10.out.mono ?_
            rintro e w11 ⟨rfl, rfl⟩
            go_wp2
            go_ret
            exact ⟨rfl, HO.out⟩
      · have h30' : ¬ (30 : Int) ≤ (j : Int) := by omega
        by_cases hbig : 1000 < pn
        · have hbig' : (1000 : Int) < (pn : Int) := by omega
          clear hbig
          have hll : L.length = ds.length := by rw [← itms_len, HI.out, idxI_len]
          rcases HR.out with hr | ⟨hr0, hr1, hr2⟩
          · subst hr
            have CK := Lib.hid (keys_all HJ.out.jat (by omega))
            have HLL := Lib.hid hll
            clear hll
            go_wp2_with fail
            refine CK.out.mono ?_
            rintro e w9 ⟨v9, rfl, hr9, hb9⟩
            obtain ⟨A9, c9, rfl⟩ := keys_slice hr9
            rw [HLL.out]
            have HO := Lib.hid (HJ.out.below hb9).old
            clear hr9 hb9 CK
            go_wp2
            go_ret
            exact ⟨rfl, HO.out⟩
          · obtain ⟨rn, rfl⟩ : ∃ rn : Nat, r = (rn : Nat) := ⟨r.toNat, by omega⟩
            rw [Int.toNat_natCast] at hr2
            have hrneg : ¬ ((rn : Nat) : Int) < 0 := by omega
            have hrn : rn < n := by omega

            have hpc1 : ∀ i p, ps[i]? = some p → w.cell? ⟨pb, po + i, none⟩ = some (.slice p.1 p.2.1 p.2.2.1) := by
              obtain ⟨b1, o1, e1, _, h1⟩ := HP.out.2.2 (by omega)
              injection e1 with e1; injection e1 with e1 e2 _
              rw [e1, e2]; exact h1
            obtain ⟨p2, hpj2⟩ : ∃ p, ps[rn]? = some p := ⟨ps[rn]'(by have := HP.out.1; omega), List.getElem?_eq_getElem _⟩
            obtain ⟨hpB2, hpm2⟩ := HP.out.2.1 p2 (List.mem_of_getElem? hpj2)
            have z1 : ∀ W, Below w.heap.size w W → W.cell? ⟨pb, po + rn, none⟩ = some (.slice p2.1 p2.2.1 p2.2.2.1) := fun W hW => by
              rw [hW.cell (p := ⟨pb, po + rn, none⟩) hpb]; exact hpc1 rn p2 hpj2
            have hD2 : D[rn]? = some p2.2.2.2 := by rw [HD.out, List.getElem?_map, hpj2]; rfl
            obtain ⟨pA2, pn2, pc2, bs2⟩ := p2
            simp only at hpB2 hpm2 z1 hD2
            have hb2l := hr2 bs2 hD2
            have Z1 := Lib.hid z1
            have HPB2 := Lib.hid hpB2
            have HB2L := Lib.hid (And.intro hpB2.1 hb2l)
            have hpn2 : pn2 ≤ 1000 := by have := hpB2.1; omega
            have CR := Lib.hid (HJ.out.disk.remove (sF_ok (by omega) (by have := HZL.out; omega) (by omega)) othN (by decide))
            rw [show othN.data.toList = othL from rfl, show removeS othL (stF z R ds) = (0, sJ (fileL (idxI 0 ds)) 0 (R - (fileL (idxI 0 ds)).length + z.length)) from sF_remove _ _ _ _] at CR
            obtain ⟨fr, hfr⟩ : ∃ fr, fr = R - (fileL (idxI 0 ds)).length + z.length := ⟨_, rfl⟩
            rw [← hfr] at CR
            have hfr2 : fr ≤ 510 := by have := HZL.out; omega
            have HLL := Lib.hid hll
            clear hll hfr z1 hD2 hb2l hr2 hpc1 hpj2 hpB2 hpm2
            go_wp2_with fail
            refine CR.out.mono ?_
            rintro e w4 ⟨rfl, ha⟩
            obtain ⟨X5, h5⟩ := HJ.out.after ha
            simp only at h5
            have CK := Lib.hid (keys_all h5.jat (by have := HLL.out; omega))
            have H5 := Lib.hid h5
            clear ha h5 CR
            go_wp2_with fail
            refine CK.out.mono ?_
            rintro e w5 ⟨v9, rfl, hr9, hb9⟩
            obtain ⟨A9, c9, rfl⟩ := keys_slice hr9
            rw [HLL.out]
            have h5 := H5.out.below hb9
            have h5d := h5.below (w' := w5.drew) ⟨rfl, rfl, rfl, Nat.le_refl _, fun _ _ => rfl⟩
            have y1 := Z1.out w5.drew h5d.old
            have RM := Lib.hid h5d.disk.room
            rw [show (sJ (fileL (idxI 0 ds)) 0 fr).free = fr from rfl] at RM
            have hrnI : (rn : Int) < (n : Int) := by omega
            have hwr : IntKind.i64.wrap ((pn2 : Int) + 10) = (pn2 : Int) + 10 := by rw [IntKind.wrap_i64]; omega
            have I5 := Lib.hid HI.out
            have HH5 := Lib.hid h5d
            clear hr9 hb9 CK h5 h5d
            have HDSL := Lib.hid (show (idxI 0 ds).length ≤ 30 ∧ ds.length ≤ 30 ∧ (fileL (idxI 0 ds)).length ≤ 255 from ⟨by rw [idxI_len]; omega, by omega, by omega⟩)
            obtain ⟨q, hq⟩ : ∃ q, q = ds.length := ⟨_, rfl⟩
            have HQ := Lib.hid hq
            rw [← hq]
            have CP := Lib.hid (jb_put (c := pc2) (k := ds.length) HH5.out (sJ_ok (by have := HDSL.out; omega) (by omega)) (HPB2.out.below HH5.out.old) (by omega) (by omega) (by decide) HT.out (by rw [I5.out]; have := HDSL.out; omega))
            rw [I5.out, show jn.data.toList = [106] from rfl] at CP
            clear hq
            go_wp2_with fail
            refine wp_region_held_drew (S := fun W => W.cell? ⟨pb, po + rn, none⟩ = some (.slice pA2 pn2 pc2)) mixed y1 (fun hS => ?_)
            refine wpAnyH_take (i := 0) (v := .slice (some ⟨pb, po, none⟩) n c) rfl (by kernel_rfl) (by kernel_rfl) (by kernel_rfl) (fun _ _ _ h => h) (Or.inl ⟨by rfl, fun W hW => by have h0 := hW; go_simp⟩) hS ?_
            try simp only [Act.put, List.getElem_toArray, List.getElem_cons_zero, List.getElem_cons_succ, List.setIfInBounds_toArray, List.set_cons_zero, List.set_cons_succ]
            refine wpAnyH_take (i := 1) (v := .int .i64 (rn : Nat)) rfl (by kernel_rfl) (by kernel_rfl) (by kernel_rfl) (fun _ _ _ h => h) (Or.inl ⟨by rfl, fun W hW => by have h0 := hW; go_simp⟩) hS ?_
            try simp only [Act.put, List.getElem_toArray, List.getElem_cons_zero, List.getElem_cons_succ, List.setIfInBounds_toArray, List.set_cons_zero, List.set_cons_succ]
            refine wpAnyH_take (i := 2) (v := .pointer (some ⟨pb, po + rn, none⟩)) rfl (by kernel_rfl) (by kernel_rfl) (by kernel_rfl) (fun _ _ _ h => h) (Or.inl ⟨by rfl, fun W hW => by have h0 := hW; go_simp⟩) hS ?_
            try simp only [Act.put, List.getElem_toArray, List.getElem_cons_zero, List.getElem_cons_succ, List.setIfInBounds_toArray, List.set_cons_zero, List.set_cons_succ]
            refine wpAnyH_take (i := 3) (v := .slice pA2 pn2 pc2) rfl (by kernel_rfl) (by kernel_rfl) (by kernel_rfl) (fun _ _ _ h => h) (Or.inl ⟨by rfl, fun W hW => by have h0 := hW; go_simp⟩) hS ?_
            try simp only [Act.put, List.getElem_toArray, List.getElem_cons_zero, List.getElem_cons_succ, List.setIfInBounds_toArray, List.set_cons_zero, List.set_cons_succ]
            refine wpAnyH_take (i := 4) (v := .int .i64 (pn2 : Nat)) rfl (by kernel_rfl) (by kernel_rfl) (by kernel_rfl) (fun _ _ _ h => h) (Or.inl ⟨by rfl, fun W hW => by have h0 := hW; go_simp⟩) hS ?_
            try simp only [Act.put, List.getElem_toArray, List.getElem_cons_zero, List.getElem_cons_succ, List.setIfInBounds_toArray, List.set_cons_zero, List.set_cons_succ]
            refine wpAnyH_take (i := 5) (v := .int .i64 ((pn2 : Int) + 10)) rfl (by kernel_rfl) (by kernel_rfl) (by kernel_rfl) (fun _ _ _ h => h) (Or.inl ⟨by rfl, fun W hW => by have h0 := hW; go_simp⟩) hS ?_
            try simp only [Act.put, List.getElem_toArray, List.getElem_cons_zero, List.getElem_cons_succ, List.setIfInBounds_toArray, List.set_cons_zero, List.set_cons_succ]
            refine wpAnyH_take (i := 6) (v := .pointer (some ⟨dp, 0, none⟩)) rfl (by kernel_rfl) (by kernel_rfl) (by kernel_rfl) (fun _ _ _ h => h) (Or.inl ⟨by rfl, fun W hW => by have h0 := hW; go_simp⟩) hS ?_
            try simp only [Act.put, List.getElem_toArray, List.getElem_cons_zero, List.getElem_cons_succ, List.setIfInBounds_toArray, List.set_cons_zero, List.set_cons_succ]
            refine wpAnyH_ready (rs := [7]) (by kernel_rfl) (by simp) ?_
            refine AllReadyH.cons rfl (fun K hK => ?_) AllReadyH.nil
            go_simp
            (with_reducible refine RM.out.mono ?_)
            rintro e w6 ⟨rfl, rfl⟩
            refine hK.out _ _ y1 (fun hS => ?_)
            clear hK K
            by_cases hfit : (pn2 : Int) + 10 ≤ (fr : Int)
            · have hfit2 := hfit
              refine wpAnyH_take (i := 8) (v := .bool true) rfl (by kernel_rfl) (by kernel_rfl) (by kernel_rfl) (fun _ _ _ h => h) (Or.inl ⟨by rfl, fun W hW => by have h0 := hW; go_simp⟩) hS ?_
              try simp only [Act.put, List.getElem_toArray, List.getElem_cons_zero, List.getElem_cons_succ, List.setIfInBounds_toArray, List.set_cons_zero, List.set_cons_succ]
              refine wpAnyH_take (i := 9) (v := .bool true) rfl (by kernel_rfl) (by kernel_rfl) (by kernel_rfl) (fun _ _ _ h => h) (Or.inl ⟨by rfl, fun W hW => by have h0 := hW; go_simp⟩) hS ?_
              try simp only [Act.put, List.getElem_toArray, List.getElem_cons_zero, List.getElem_cons_succ, List.setIfInBounds_toArray, List.set_cons_zero, List.set_cons_succ]
              refine wpAnyH_take (i := 10) (v := .pointer (some ⟨jp, 0, none⟩)) rfl (by kernel_rfl) (by kernel_rfl) (by kernel_rfl) (fun _ _ _ h => h) (Or.inl ⟨by rfl, fun W hW => by have h0 := hW; go_simp⟩) hS ?_
              try simp only [Act.put, List.getElem_toArray, List.getElem_cons_zero, List.getElem_cons_succ, List.setIfInBounds_toArray, List.set_cons_zero, List.set_cons_succ]
              refine wpAnyH_take (i := 11) (v := .int .i64 (q : Nat)) rfl (by kernel_rfl) (by kernel_rfl) (by kernel_rfl) (fun _ _ _ h => h) (Or.inl ⟨by rfl, fun W hW => by have h0 := hW; go_simp⟩) hS ?_
              try simp only [Act.put, List.getElem_toArray, List.getElem_cons_zero, List.getElem_cons_succ, List.setIfInBounds_toArray, List.set_cons_zero, List.set_cons_succ]
              refine wpAnyH_take (i := 12) (v := .slice (some ⟨pb, po, none⟩) n c) rfl (by kernel_rfl) (by kernel_rfl) (by kernel_rfl) (fun _ _ _ h => h) (Or.inl ⟨by rfl, fun W hW => by have h0 := hW; go_simp⟩) hS ?_
              try simp only [Act.put, List.getElem_toArray, List.getElem_cons_zero, List.getElem_cons_succ, List.setIfInBounds_toArray, List.set_cons_zero, List.set_cons_succ]
              refine wpAnyH_take (i := 13) (v := .int .i64 (rn : Nat)) rfl (by kernel_rfl) (by kernel_rfl) (by kernel_rfl) (fun _ _ _ h => h) (Or.inl ⟨by rfl, fun W hW => by have h0 := hW; go_simp⟩) hS ?_
              try simp only [Act.put, List.getElem_toArray, List.getElem_cons_zero, List.getElem_cons_succ, List.setIfInBounds_toArray, List.set_cons_zero, List.set_cons_succ]
              refine wpAnyH_take (i := 14) (v := .pointer (some ⟨pb, po + rn, none⟩)) rfl (by kernel_rfl) (by kernel_rfl) (by kernel_rfl) (fun _ _ _ h => h) (Or.inl ⟨by rfl, fun W hW => by have h0 := hW; go_simp⟩) hS ?_
              try simp only [Act.put, List.getElem_toArray, List.getElem_cons_zero, List.getElem_cons_succ, List.setIfInBounds_toArray, List.set_cons_zero, List.set_cons_succ]
              refine wpAnyH_take (i := 15) (v := .slice pA2 pn2 pc2) rfl (by kernel_rfl) (by kernel_rfl) (by kernel_rfl) (fun _ _ _ h => h) (Or.inl ⟨by rfl, fun W hW => by have h0 := hW; go_simp⟩) hS ?_
              try simp only [Act.put, List.getElem_toArray, List.getElem_cons_zero, List.getElem_cons_succ, List.setIfInBounds_toArray, List.set_cons_zero, List.set_cons_succ]
              have hput := sJ_put (b := fileL (idxI 0 ds)) (sf := 0) (fr := fr) (its := idxI 0 ds) (k := ds.length) (d := bs2) (by rw [hasK_idx ds 0 ds.length (Nat.zero_le _)]; simp) (by rw [rec_len (by have := HDSL.out; omega)]; have := HB2L.out; omega)
              rw [hput, ← HQ.out] at CP
              have hfl : (fileL (idxI 0 (ds ++ [bs2]))).length ≤ 1300 := by rw [idxI_snoc, fileL_snoc, List.length_append, rec_len (by have := HDSL.out; omega)]; have := HDSL.out; have := HB2L.out; omega
              have hdsl : (ds ++ [bs2]).length ≤ 31 := by rw [List.length_append]; have := HDSL.out; show ds.length + 1 ≤ 31; omega
              clear hput
              refine wpAnyH_ready (rs := [16]) (by kernel_rfl) (by simp) ?_
              refine AllReadyH.cons rfl (fun K hK => ?_) AllReadyH.nil
              go_simp
              (with_reducible refine CP.out.mono ?_)
              rintro e w7 ⟨rfl, X7, Y7, L6, h7, i7⟩
              simp only at h7 i7
              have y2 := Z1.out w7 h7.old
              refine hK.out _ _ y2 (fun hS => ?_)
              clear hK K
              refine wpAnyH_take (i := 17) (v := .bool false) rfl (by kernel_rfl) (by kernel_rfl) (by kernel_rfl) (fun _ _ _ h => h) (Or.inl ⟨by rfl, fun W hW => by have h0 := hW; go_simp⟩) hS ?_
              try simp only [Act.put, List.getElem_toArray, List.getElem_cons_zero, List.getElem_cons_succ, List.setIfInBounds_toArray, List.set_cons_zero, List.set_cons_succ]
              refine wpAnyH_take (i := 18) (v := .bool false) rfl (by kernel_rfl) (by kernel_rfl) (by kernel_rfl) (fun _ _ _ h => h) (Or.inl ⟨by rfl, fun W hW => by have h0 := hW; go_simp⟩) hS ?_
              try simp only [Act.put, List.getElem_toArray, List.getElem_cons_zero, List.getElem_cons_succ, List.setIfInBounds_toArray, List.set_cons_zero, List.set_cons_succ]
              refine wpAnyH_done (by kernel_rfl) ?_ _
              have e1 : fileL (idxI 0 (ds ++ [bs2])) = fileL (idxI 0 ds) ++ recI (ds.length, bs2) := by rw [idxI_snoc, fileL_snoc]
              have H6 := Lib.hid (show JB w w7 dp jp jm jn X7 Y7 (sJ (fileL (idxI 0 (ds ++ [bs2]))) 0 (fr - (recI (ds.length, bs2)).length)) L6 by rw [e1]; rw [HQ.out] at h7; exact h7)
              have I6 := Lib.hid (show itms L6 = idxI 0 (ds ++ [bs2]) by rw [i7, HQ.out, idxI_snoc])
              have l6 : L6.length ≤ 31 := by rw [← itms_len, I6.out, idxI_len]; exact hdsl
              have HDSX := Lib.hid (show ∀ d ∈ ds ++ [bs2], d.length ≤ 1000 from fun d hd => by
                rcases List.mem_append.1 hd with hd | hd
                · exact HDS.out d hd
                · obtain rfl : d = bs2 := by simpa using hd
                  exact HB2L.out.2)
              clear h7 i7 e1 y2 hS CP RM hfit hfit2
              have hgd : GoodL [] (idxI 0 (ds ++ [bs2])) := good_idx (by omega) HDSX.out
              have hO := open_full H6.out.db hgd (by omega) (by omega) (Nat.zero_le _) HT.out
              have CO := Lib.hid hO
              have HGD := Lib.hid hgd
              clear hO hgd
              go_wp2_with fail
              refine CO.out.mono ?_
              rintro e w8 ⟨⟨kp, km, X8, Y8, L8, rfl, h8, i8⟩, hk8⟩
              have j8 := H6.out.jat.kept hk8 H6.out.sep
              have l8 : L8.length = L6.length := by rw [← itms_len, i8, ← itms_len L6, I6.out]
              have CK := Lib.hid (keys_all h8.jat (by omega))
              have H8 := Lib.hid h8
              have J8 := Lib.hid j8
              have I8 := Lib.hid i8
              have HL8 := Lib.hid l8
              clear h8 j8 i8 l8 hk8 CO
              go_wp2_with fail
              refine CK.out.mono ?_
              rintro e w9 ⟨v9, rfl, hr9, hb9⟩
              obtain ⟨A9, c9, rfl⟩ := keys_slice hr9
              rw [HL8.out]
              have H9 := Lib.hid (H8.out.below hb9)
              have J9 := Lib.hid (J8.out.below hb9)
              have CJ := Lib.hid (keys_all J9.out (by omega))
              clear hr9 hb9 CK
              go_wp2_with fail
              refine CJ.out.mono ?_
              rintro e w10 ⟨v10, rfl, hr10, hb10⟩
              obtain ⟨A10, c10, rfl⟩ := keys_slice hr10
              have h10 := H9.out.below hb10
              have S10 := Lib.hid (size_any h10.jat)
              have T10 := Lib.hid (size_any (J9.out.below hb10))
              rw [I8.out] at S10
              rw [I6.out] at T10
              have HO := Lib.hid h10.old
              obtain ⟨fz, hfz⟩ : ∃ fz, fz = (fileL (idxI 0 (ds ++ [bs2]))).length := ⟨_, rfl⟩
              rw [← hfz] at S10 T10
              clear hr10 hb10 h10 hfz CJ
              go_wp2_with fail
              refine S10.out.mono ?_
              rintro e w11 ⟨rfl, rfl⟩
              go_wp2_with fail
              refine T10.out.mono ?_
              rintro e w11 ⟨rfl, rfl⟩
              go_wp2
              go_ret
              exact ⟨rfl, HO.out⟩
            · have hfit2 := hfit
              refine wpAnyH_take (i := 8) (v := .bool false) rfl (by kernel_rfl) (by kernel_rfl) (by kernel_rfl) (fun _ _ _ h => h) (Or.inl ⟨by rfl, fun W hW => by have h0 := hW; go_simp⟩) hS ?_
              try simp only [Act.put, List.getElem_toArray, List.getElem_cons_zero, List.getElem_cons_succ, List.setIfInBounds_toArray, List.set_cons_zero, List.set_cons_succ]
              refine wpAnyH_take (i := 9) (v := .bool false) rfl (by kernel_rfl) (by kernel_rfl) (by kernel_rfl) (fun _ _ _ h => h) (Or.inl ⟨by rfl, fun W hW => by have h0 := hW; go_simp⟩) hS ?_
              try simp only [Act.put, List.getElem_toArray, List.getElem_cons_zero, List.getElem_cons_succ, List.setIfInBounds_toArray, List.set_cons_zero, List.set_cons_succ]
              refine wpAnyH_take (i := 10) (v := undef) rfl (by kernel_rfl) (by kernel_rfl) (by kernel_rfl) (fun _ _ _ h => h) (Or.inr ⟨by rfl, rfl⟩) hS ?_
              try simp only [Act.put, List.getElem_toArray, List.getElem_cons_zero, List.getElem_cons_succ, List.setIfInBounds_toArray, List.set_cons_zero, List.set_cons_succ]
              refine wpAnyH_take (i := 11) (v := undef) rfl (by kernel_rfl) (by kernel_rfl) (by kernel_rfl) (fun _ _ _ h => h) (Or.inr ⟨by rfl, rfl⟩) hS ?_
              try simp only [Act.put, List.getElem_toArray, List.getElem_cons_zero, List.getElem_cons_succ, List.setIfInBounds_toArray, List.set_cons_zero, List.set_cons_succ]
              refine wpAnyH_take (i := 12) (v := undef) rfl (by kernel_rfl) (by kernel_rfl) (by kernel_rfl) (fun _ _ _ h => h) (Or.inr ⟨by rfl, rfl⟩) hS ?_
              try simp only [Act.put, List.getElem_toArray, List.getElem_cons_zero, List.getElem_cons_succ, List.setIfInBounds_toArray, List.set_cons_zero, List.set_cons_succ]
              refine wpAnyH_take (i := 13) (v := undef) rfl (by kernel_rfl) (by kernel_rfl) (by kernel_rfl) (fun _ _ _ h => h) (Or.inr ⟨by rfl, rfl⟩) hS ?_
              try simp only [Act.put, List.getElem_toArray, List.getElem_cons_zero, List.getElem_cons_succ, List.setIfInBounds_toArray, List.set_cons_zero, List.set_cons_succ]
              refine wpAnyH_take (i := 14) (v := undef) rfl (by kernel_rfl) (by kernel_rfl) (by kernel_rfl) (fun _ _ _ h => h) (Or.inr ⟨by rfl, rfl⟩) hS ?_
              try simp only [Act.put, List.getElem_toArray, List.getElem_cons_zero, List.getElem_cons_succ, List.setIfInBounds_toArray, List.set_cons_zero, List.set_cons_succ]
              refine wpAnyH_take (i := 15) (v := undef) rfl (by kernel_rfl) (by kernel_rfl) (by kernel_rfl) (fun _ _ _ h => h) (Or.inr ⟨by rfl, rfl⟩) hS ?_
              try simp only [Act.put, List.getElem_toArray, List.getElem_cons_zero, List.getElem_cons_succ, List.setIfInBounds_toArray, List.set_cons_zero, List.set_cons_succ]
              refine wpAnyH_take (i := 16) (v := undef) rfl (by kernel_rfl) (by kernel_rfl) (by kernel_rfl) (fun _ _ _ h => h) (Or.inr ⟨by rfl, rfl⟩) hS ?_
              try simp only [Act.put, List.getElem_toArray, List.getElem_cons_zero, List.getElem_cons_succ, List.setIfInBounds_toArray, List.set_cons_zero, List.set_cons_succ]
              refine wpAnyH_take (i := 17) (v := undef) rfl (by kernel_rfl) (by kernel_rfl) (by kernel_rfl) (fun _ _ _ h => h) (Or.inr ⟨by rfl, rfl⟩) hS ?_
              try simp only [Act.put, List.getElem_toArray, List.getElem_cons_zero, List.getElem_cons_succ, List.setIfInBounds_toArray, List.set_cons_zero, List.set_cons_succ]
              refine wpAnyH_take (i := 18) (v := .bool false) rfl (by kernel_rfl) (by kernel_rfl) (by kernel_rfl) (fun _ _ _ h => h) (Or.inl ⟨by rfl, fun W hW => by have h0 := hW; go_simp⟩) hS ?_
              try simp only [Act.put, List.getElem_toArray, List.getElem_cons_zero, List.getElem_cons_succ, List.setIfInBounds_toArray, List.set_cons_zero, List.set_cons_succ]
              refine wpAnyH_done (by kernel_rfl) ?_ _
              have H6 := Lib.hid HH5.out
              have I6 := Lib.hid I5.out
              obtain ⟨L6, hL6⟩ : ∃ L6, L6 = L := ⟨_, rfl⟩
              subst hL6
              have hfl : (fileL (idxI 0 ds)).length ≤ 255 := HDSL.out.2.2
              have hdsl : ds.length ≤ 30 := HDSL.out.2.1
              have l6 : L6.length ≤ 31 := by rw [← itms_len, I6.out, idxI_len]; omega
              clear hS CP RM hfit hfit2
              have hgd : GoodL [] (idxI 0 ds) := good_idx (by omega) HDS.out
              have hO := open_full H6.out.db hgd (by omega) (by omega) (Nat.zero_le _) HT.out
              have CO := Lib.hid hO
              have HGD := Lib.hid hgd
              clear hO hgd
              go_wp2_with fail
              refine CO.out.mono ?_
              rintro e w8 ⟨⟨kp, km, X8, Y8, L8, rfl, h8, i8⟩, hk8⟩
              have j8 := H6.out.jat.kept hk8 H6.out.sep
              have l8 : L8.length = L6.length := by rw [← itms_len, i8, ← itms_len L6, I6.out]
              have CK := Lib.hid (keys_all h8.jat (by omega))
              have H8 := Lib.hid h8
              have J8 := Lib.hid j8
              have I8 := Lib.hid i8
              have HL8 := Lib.hid l8
              clear h8 j8 i8 l8 hk8 CO
              go_wp2_with fail
              refine CK.out.mono ?_
              rintro e w9 ⟨v9, rfl, hr9, hb9⟩
              obtain ⟨A9, c9, rfl⟩ := keys_slice hr9
              rw [HL8.out]
              have H9 := Lib.hid (H8.out.below hb9)
              have J9 := Lib.hid (J8.out.below hb9)
              have CJ := Lib.hid (keys_all J9.out (by omega))
              clear hr9 hb9 CK
              go_wp2_with fail
              refine CJ.out.mono ?_
              rintro e w10 ⟨v10, rfl, hr10, hb10⟩
              obtain ⟨A10, c10, rfl⟩ := keys_slice hr10
              have h10 := H9.out.below hb10
              have S10 := Lib.hid (size_any h10.jat)
              have T10 := Lib.hid (size_any (J9.out.below hb10))
              rw [I8.out] at S10
              rw [I6.out] at T10
              have HO := Lib.hid h10.old
              obtain ⟨fz, hfz⟩ : ∃ fz, fz = (fileL (idxI 0 ds)).length := ⟨_, rfl⟩
              rw [← hfz] at S10 T10
              clear hr10 hb10 h10 hfz CJ
              go_wp2_with fail
              refine S10.out.mono ?_
              rintro e w11 ⟨rfl, rfl⟩
              go_wp2_with fail
              refine T10.out.mono ?_
              rintro e w11 ⟨rfl, rfl⟩
              go_wp2
              go_ret
              exact ⟨rfl, HO.out⟩
        · have hbig' : ¬ (1000 : Int) < (pn : Int) := by omega
          have S2 := Lib.hid (size_any HJ.out.jat)
          have C2 := Lib.hid (jb_put (c := pc) (k := ds.length) HJ.out (sF_ok (by omega) (by have := HZL.out; omega) (by omega)) (HPB.out.below HJ.out.old) (by omega) (by omega) (by decide) HT.out (by rw [HI.out]; omega))
          rw [HI.out, show jn.data.toList = [106] from rfl] at C2
          rw [HI.out] at S2
          obtain ⟨fs, hfs⟩ : ∃ fs, fs = (fileL (idxI 0 ds)).length := ⟨_, rfl⟩
          rw [← hfs] at S2 hfR
          have HFS := Lib.hid hfs
          obtain ⟨q, hq⟩ : ∃ q, q = ds.length := ⟨_, rfl⟩
          have HQ := Lib.hid hq
          rw [← hq] at hdj ⊢
          by_cases hfit : pn + 9 ≤ R - fs
          · rw [stF_put (by omega) (by rw [HBL.out, ← hfs]; exact hfit), ← hq] at C2
            have hfit2 := stF_fits (ds := ds) (d := bs) (R := R) (by omega) (by rw [HBL.out, ← hfs]; exact hfit)
            have HF2 := Lib.hid hfit2
            clear hfs hq hfit hfit2
            go_wp2_with fail
            refine S2.out.mono ?_
            rintro e w5 ⟨rfl, rfl⟩
            go_wp2_with fail
            refine C2.out.mono ?_
            rintro e w5 ⟨rfl, X5, Y5, L5, h5, i5⟩
            simp only at h5 i5
            have HE := Lib.hid (show FInv w dp jp jm n D z R (.int .i64 r) (.int .i64 ((q + 1 : Nat) : Int)) (.int .i64 ((j + 1 : Nat) : Int)) w5 from ⟨j + 1, r, ds ++ [bs], X5, Y5, L5, by omega, by omega, by rw [List.length_append, ← HQ.out]; show q + 1 ≤ j + 1; omega, rfl, by rw [List.length_append, ← HQ.out]; rfl, rfl, by
              rcases HR.out with h | ⟨h0, h1, h2⟩
              · exact .inl h
              · exact .inr ⟨h0, by omega, h2⟩, fun d hd => by
              rcases List.mem_append.1 hd with hd | hd
              · exact HDS.out d hd
              · obtain rfl : d = bs := by simpa using hd
                rw [HBL.out]; omega, HF2.out, h5, i5⟩)
            clear h5 i5 C2 S2
            go_wp2
            go_roundw
            case rel => exact HE.out
            case measure => simp [intOf]; omega
          · rw [stF_full (by omega) (by rw [HBL.out, ← hfs]; omega), ← hq] at C2
            clear hfs hq
            go_wp2_with fail
            refine S2.out.mono ?_
            rintro e w5 ⟨rfl, rfl⟩
            go_wp2_with fail
            refine C2.out.mono ?_
            rintro e w5 ⟨rfl, X5, Y5, L5, h5, i5⟩
            simp only at h5 i5
            have S5 := Lib.hid (size_any h5.jat)
            rw [i5, ← HFS.out] at S5
            have A5 := Lib.hid (has_any (k := (q : Nat)) h5.jat (wf_key (by omega)))
            rw [hasE_hasK, i5, hasK_idx ds 0 q (Nat.zero_le _), decide_eq_false (by rw [← HQ.out]; omega)] at A5
            have R5 := Lib.hid h5.disk.room
            rw [show (stF z R ds).free = R - fs by rw [HFS.out]; rfl] at R5
            have hroom : ¬ ((pn : Int) + 9 ≤ ((R - fs : Nat) : Int)) := by omega
            have hwr : IntKind.i64.wrap ((pn : Int) + 9) = (pn : Int) + 9 := by rw [IntKind.wrap_i64]; omega
            obtain ⟨fr, hfr⟩ : ∃ fr, fr = R - fs := ⟨_, rfl⟩
            rw [← hfr] at R5 hroom
            have HE := Lib.hid (show FInv w dp jp jm n D z R (.int .i64 (j : Nat)) (.int .i64 (q : Nat)) (.int .i64 ((j + 1 : Nat) : Int)) w5 from ⟨j + 1, j, ds, X5, Y5, L5, by omega, by omega, by rw [← HQ.out]; omega, rfl, by rw [HQ.out], rfl, .inr ⟨by omega, by omega, fun d hd => by
              rw [Int.toNat_natCast, HDJ.out] at hd
              injection hd with hd
              rw [← hd, HBL.out]; omega⟩, HDS.out, by rw [← HFS.out]; exact hfR, h5, i5⟩)
            clear h5 i5 C2 S2 hfr hfit
            go_wp2_with fail
            refine S5.out.mono ?_
            rintro e w6 ⟨rfl, rfl⟩
            go_wp2_with fail
            refine A5.out.mono ?_
            rintro e w6 ⟨rfl, rfl⟩
            go_wp2_with fail
            refine R5.out.mono ?_
            rintro e w6 ⟨rfl, rfl⟩
            go_wp2
            go_roundw
            case rel => exact HE.out
            case measure => simp [intOf]; omega
    · have hlt' : ¬ (j : Int) < (n : Int) := by omega
      have hll : L.length = ds.length := by rw [← itms_len, HI.out, idxI_len]
      rcases HR.out with hr | ⟨hr0, hr1, hr2⟩
      · subst hr
        have CK := Lib.hid (keys_all HJ.out.jat (by omega))
        have HLL := Lib.hid hll
        clear hll
        go_wp2_with fail
        refine CK.out.mono ?_
        rintro e w9 ⟨v9, rfl, hr9, hb9⟩
        obtain ⟨A9, c9, rfl⟩ := keys_slice hr9
        rw [HLL.out]
        have HO := Lib.hid (HJ.out.below hb9).old
        clear hr9 hb9 CK
        go_wp2
        go_ret
        exact ⟨rfl, HO.out⟩
      · obtain ⟨rn, rfl⟩ : ∃ rn : Nat, r = (rn : Nat) := ⟨r.toNat, by omega⟩
        rw [Int.toNat_natCast] at hr2
        have hrneg : ¬ ((rn : Nat) : Int) < 0 := by omega
        have hrn : rn < n := by omega
        obtain ⟨pb, po, rfl, hpb, hpc0⟩ := HP.out.2.2 (by omega)
        have hpc1 := hpc0
        obtain ⟨p2, hpj2⟩ : ∃ p, ps[rn]? = some p := ⟨ps[rn]'(by have := HP.out.1; omega), List.getElem?_eq_getElem _⟩
        obtain ⟨hpB2, hpm2⟩ := HP.out.2.1 p2 (List.mem_of_getElem? hpj2)
        have z1 : ∀ W, Below w.heap.size w W → W.cell? ⟨pb, po + rn, none⟩ = some (.slice p2.1 p2.2.1 p2.2.2.1) := fun W hW => by
          rw [hW.cell (p := ⟨pb, po + rn, none⟩) hpb]; exact hpc1 rn p2 hpj2
        have hD2 : D[rn]? = some p2.2.2.2 := by rw [HD.out, List.getElem?_map, hpj2]; rfl
        obtain ⟨pA2, pn2, pc2, bs2⟩ := p2
        simp only at hpB2 hpm2 z1 hD2
        have hb2l := hr2 bs2 hD2
        have Z1 := Lib.hid z1
        have HPB2 := Lib.hid hpB2
        have HB2L := Lib.hid (And.intro hpB2.1 hb2l)
        have hpn2 : pn2 ≤ 1000 := by have := hpB2.1; omega
        have CR := Lib.hid (HJ.out.disk.remove (sF_ok (by omega) (by have := HZL.out; omega) (by omega)) othN (by decide))
        rw [show othN.data.toList = othL from rfl, show removeS othL (stF z R ds) = (0, sJ (fileL (idxI 0 ds)) 0 (R - (fileL (idxI 0 ds)).length + z.length)) from sF_remove _ _ _ _] at CR
        obtain ⟨fr, hfr⟩ : ∃ fr, fr = R - (fileL (idxI 0 ds)).length + z.length := ⟨_, rfl⟩
        rw [← hfr] at CR
        have hfr2 : fr ≤ 510 := by have := HZL.out; omega
        have HLL := Lib.hid hll
        clear hll hfr z1 hD2 hb2l hr2 hpc1 hpj2 hpB2 hpm2 hpc0
        go_wp2_with fail
        refine CR.out.mono ?_
        rintro e w4 ⟨rfl, ha⟩
        obtain ⟨X5, h5⟩ := HJ.out.after ha
        simp only at h5
        have CK := Lib.hid (keys_all h5.jat (by have := HLL.out; omega))
        have H5 := Lib.hid h5
        clear ha h5 CR
        go_wp2_with fail
        refine CK.out.mono ?_
        rintro e w5 ⟨v9, rfl, hr9, hb9⟩
        obtain ⟨A9, c9, rfl⟩ := keys_slice hr9
        rw [HLL.out]
        have h5 := H5.out.below hb9
        have h5d := h5.below (w' := w5.drew) ⟨rfl, rfl, rfl, Nat.le_refl _, fun _ _ => rfl⟩
        have y1 := Z1.out w5.drew h5d.old
        have RM := Lib.hid h5d.disk.room
        rw [show (sJ (fileL (idxI 0 ds)) 0 fr).free = fr from rfl] at RM
        have hrnI : (rn : Int) < (n : Int) := by omega
        have hwr : IntKind.i64.wrap ((pn2 : Int) + 10) = (pn2 : Int) + 10 := by rw [IntKind.wrap_i64]; omega
        have I5 := Lib.hid HI.out
        have HH5 := Lib.hid h5d
        clear hr9 hb9 CK h5 h5d
        have HDSL := Lib.hid (show (idxI 0 ds).length ≤ 30 ∧ ds.length ≤ 30 ∧ (fileL (idxI 0 ds)).length ≤ 255 from ⟨by rw [idxI_len]; omega, by omega, by omega⟩)
        obtain ⟨q, hq⟩ : ∃ q, q = ds.length := ⟨_, rfl⟩
        have HQ := Lib.hid hq
        rw [← hq]
        have CP := Lib.hid (jb_put (c := pc2) (k := ds.length) HH5.out (sJ_ok (by have := HDSL.out; omega) (by omega)) (HPB2.out.below HH5.out.old) (by omega) (by omega) (by decide) HT.out (by rw [I5.out]; have := HDSL.out; omega))
        rw [I5.out, show jn.data.toList = [106] from rfl] at CP
        clear hq
        go_wp2_with fail
        refine wp_region_held_drew (S := fun W => W.cell? ⟨pb, po + rn, none⟩ = some (.slice pA2 pn2 pc2)) mixed y1 (fun hS => ?_)
        refine wpAnyH_take (i := 0) (v := .slice (some ⟨pb, po, none⟩) n c) rfl (by kernel_rfl) (by kernel_rfl) (by kernel_rfl) (fun _ _ _ h => h) (Or.inl ⟨by rfl, fun W hW => by have h0 := hW; go_simp⟩) hS ?_
        try simp only [Act.put, List.getElem_toArray, List.getElem_cons_zero, List.getElem_cons_succ, List.setIfInBounds_toArray, List.set_cons_zero, List.set_cons_succ]
        refine wpAnyH_take (i := 1) (v := .int .i64 (rn : Nat)) rfl (by kernel_rfl) (by kernel_rfl) (by kernel_rfl) (fun _ _ _ h => h) (Or.inl ⟨by rfl, fun W hW => by have h0 := hW; go_simp⟩) hS ?_
        try simp only [Act.put, List.getElem_toArray, List.getElem_cons_zero, List.getElem_cons_succ, List.setIfInBounds_toArray, List.set_cons_zero, List.set_cons_succ]
        refine wpAnyH_take (i := 2) (v := .pointer (some ⟨pb, po + rn, none⟩)) rfl (by kernel_rfl) (by kernel_rfl) (by kernel_rfl) (fun _ _ _ h => h) (Or.inl ⟨by rfl, fun W hW => by have h0 := hW; go_simp⟩) hS ?_
        try simp only [Act.put, List.getElem_toArray, List.getElem_cons_zero, List.getElem_cons_succ, List.setIfInBounds_toArray, List.set_cons_zero, List.set_cons_succ]
        refine wpAnyH_take (i := 3) (v := .slice pA2 pn2 pc2) rfl (by kernel_rfl) (by kernel_rfl) (by kernel_rfl) (fun _ _ _ h => h) (Or.inl ⟨by rfl, fun W hW => by have h0 := hW; go_simp⟩) hS ?_
        try simp only [Act.put, List.getElem_toArray, List.getElem_cons_zero, List.getElem_cons_succ, List.setIfInBounds_toArray, List.set_cons_zero, List.set_cons_succ]
        refine wpAnyH_take (i := 4) (v := .int .i64 (pn2 : Nat)) rfl (by kernel_rfl) (by kernel_rfl) (by kernel_rfl) (fun _ _ _ h => h) (Or.inl ⟨by rfl, fun W hW => by have h0 := hW; go_simp⟩) hS ?_
        try simp only [Act.put, List.getElem_toArray, List.getElem_cons_zero, List.getElem_cons_succ, List.setIfInBounds_toArray, List.set_cons_zero, List.set_cons_succ]
        refine wpAnyH_take (i := 5) (v := .int .i64 ((pn2 : Int) + 10)) rfl (by kernel_rfl) (by kernel_rfl) (by kernel_rfl) (fun _ _ _ h => h) (Or.inl ⟨by rfl, fun W hW => by have h0 := hW; go_simp⟩) hS ?_
        try simp only [Act.put, List.getElem_toArray, List.getElem_cons_zero, List.getElem_cons_succ, List.setIfInBounds_toArray, List.set_cons_zero, List.set_cons_succ]
        refine wpAnyH_take (i := 6) (v := .pointer (some ⟨dp, 0, none⟩)) rfl (by kernel_rfl) (by kernel_rfl) (by kernel_rfl) (fun _ _ _ h => h) (Or.inl ⟨by rfl, fun W hW => by have h0 := hW; go_simp⟩) hS ?_
        try simp only [Act.put, List.getElem_toArray, List.getElem_cons_zero, List.getElem_cons_succ, List.setIfInBounds_toArray, List.set_cons_zero, List.set_cons_succ]
        refine wpAnyH_ready (rs := [7]) (by kernel_rfl) (by simp) ?_
        refine AllReadyH.cons rfl (fun K hK => ?_) AllReadyH.nil
        go_simp
        (with_reducible refine RM.out.mono ?_)
        rintro e w6 ⟨rfl, rfl⟩
        refine hK.out _ _ y1 (fun hS => ?_)
        clear hK K
        by_cases hfit : (pn2 : Int) + 10 ≤ (fr : Int)
        · have hfit2 := hfit
          refine wpAnyH_take (i := 8) (v := .bool true) rfl (by kernel_rfl) (by kernel_rfl) (by kernel_rfl) (fun _ _ _ h => h) (Or.inl ⟨by rfl, fun W hW => by have h0 := hW; go_simp⟩) hS ?_
          try simp only [Act.put, List.getElem_toArray, List.getElem_cons_zero, List.getElem_cons_succ, List.setIfInBounds_toArray, List.set_cons_zero, List.set_cons_succ]
          refine wpAnyH_take (i := 9) (v := .bool true) rfl (by kernel_rfl) (by kernel_rfl) (by kernel_rfl) (fun _ _ _ h => h) (Or.inl ⟨by rfl, fun W hW => by have h0 := hW; go_simp⟩) hS ?_
          try simp only [Act.put, List.getElem_toArray, List.getElem_cons_zero, List.getElem_cons_succ, List.setIfInBounds_toArray, List.set_cons_zero, List.set_cons_succ]
          refine wpAnyH_take (i := 10) (v := .pointer (some ⟨jp, 0, none⟩)) rfl (by kernel_rfl) (by kernel_rfl) (by kernel_rfl) (fun _ _ _ h => h) (Or.inl ⟨by rfl, fun W hW => by have h0 := hW; go_simp⟩) hS ?_
          try simp only [Act.put, List.getElem_toArray, List.getElem_cons_zero, List.getElem_cons_succ, List.setIfInBounds_toArray, List.set_cons_zero, List.set_cons_succ]
          refine wpAnyH_take (i := 11) (v := .int .i64 (q : Nat)) rfl (by kernel_rfl) (by kernel_rfl) (by kernel_rfl) (fun _ _ _ h => h) (Or.inl ⟨by rfl, fun W hW => by have h0 := hW; go_simp⟩) hS ?_
          try simp only [Act.put, List.getElem_toArray, List.getElem_cons_zero, List.getElem_cons_succ, List.setIfInBounds_toArray, List.set_cons_zero, List.set_cons_succ]
          refine wpAnyH_take (i := 12) (v := .slice (some ⟨pb, po, none⟩) n c) rfl (by kernel_rfl) (by kernel_rfl) (by kernel_rfl) (fun _ _ _ h => h) (Or.inl ⟨by rfl, fun W hW => by have h0 := hW; go_simp⟩) hS ?_
          try simp only [Act.put, List.getElem_toArray, List.getElem_cons_zero, List.getElem_cons_succ, List.setIfInBounds_toArray, List.set_cons_zero, List.set_cons_succ]
          refine wpAnyH_take (i := 13) (v := .int .i64 (rn : Nat)) rfl (by kernel_rfl) (by kernel_rfl) (by kernel_rfl) (fun _ _ _ h => h) (Or.inl ⟨by rfl, fun W hW => by have h0 := hW; go_simp⟩) hS ?_
          try simp only [Act.put, List.getElem_toArray, List.getElem_cons_zero, List.getElem_cons_succ, List.setIfInBounds_toArray, List.set_cons_zero, List.set_cons_succ]
          refine wpAnyH_take (i := 14) (v := .pointer (some ⟨pb, po + rn, none⟩)) rfl (by kernel_rfl) (by kernel_rfl) (by kernel_rfl) (fun _ _ _ h => h) (Or.inl ⟨by rfl, fun W hW => by have h0 := hW; go_simp⟩) hS ?_
          try simp only [Act.put, List.getElem_toArray, List.getElem_cons_zero, List.getElem_cons_succ, List.setIfInBounds_toArray, List.set_cons_zero, List.set_cons_succ]
          refine wpAnyH_take (i := 15) (v := .slice pA2 pn2 pc2) rfl (by kernel_rfl) (by kernel_rfl) (by kernel_rfl) (fun _ _ _ h => h) (Or.inl ⟨by rfl, fun W hW => by have h0 := hW; go_simp⟩) hS ?_
          try simp only [Act.put, List.getElem_toArray, List.getElem_cons_zero, List.getElem_cons_succ, List.setIfInBounds_toArray, List.set_cons_zero, List.set_cons_succ]
          have hput := sJ_put (b := fileL (idxI 0 ds)) (sf := 0) (fr := fr) (its := idxI 0 ds) (k := ds.length) (d := bs2) (by rw [hasK_idx ds 0 ds.length (Nat.zero_le _)]; simp) (by rw [rec_len (by have := HDSL.out; omega)]; have := HB2L.out; omega)
          rw [hput, ← HQ.out] at CP
          have hfl : (fileL (idxI 0 (ds ++ [bs2]))).length ≤ 1300 := by rw [idxI_snoc, fileL_snoc, List.length_append, rec_len (by have := HDSL.out; omega)]; have := HDSL.out; have := HB2L.out; omega
          have hdsl : (ds ++ [bs2]).length ≤ 31 := by rw [List.length_append]; have := HDSL.out; show ds.length + 1 ≤ 31; omega
          clear hput
          refine wpAnyH_ready (rs := [16]) (by kernel_rfl) (by simp) ?_
          refine AllReadyH.cons rfl (fun K hK => ?_) AllReadyH.nil
          go_simp
          (with_reducible refine CP.out.mono ?_)
          rintro e w7 ⟨rfl, X7, Y7, L6, h7, i7⟩
          simp only at h7 i7
          have y2 := Z1.out w7 h7.old
          refine hK.out _ _ y2 (fun hS => ?_)
          clear hK K
          refine wpAnyH_take (i := 17) (v := .bool false) rfl (by kernel_rfl) (by kernel_rfl) (by kernel_rfl) (fun _ _ _ h => h) (Or.inl ⟨by rfl, fun W hW => by have h0 := hW; go_simp⟩) hS ?_
          try simp only [Act.put, List.getElem_toArray, List.getElem_cons_zero, List.getElem_cons_succ, List.setIfInBounds_toArray, List.set_cons_zero, List.set_cons_succ]
          refine wpAnyH_take (i := 18) (v := .bool false) rfl (by kernel_rfl) (by kernel_rfl) (by kernel_rfl) (fun _ _ _ h => h) (Or.inl ⟨by rfl, fun W hW => by have h0 := hW; go_simp⟩) hS ?_
          try simp only [Act.put, List.getElem_toArray, List.getElem_cons_zero, List.getElem_cons_succ, List.setIfInBounds_toArray, List.set_cons_zero, List.set_cons_succ]
          refine wpAnyH_done (by kernel_rfl) ?_ _
          have e1 : fileL (idxI 0 (ds ++ [bs2])) = fileL (idxI 0 ds) ++ recI (ds.length, bs2) := by rw [idxI_snoc, fileL_snoc]
          have H6 := Lib.hid (show JB w w7 dp jp jm jn X7 Y7 (sJ (fileL (idxI 0 (ds ++ [bs2]))) 0 (fr - (recI (ds.length, bs2)).length)) L6 by rw [e1]; rw [HQ.out] at h7; exact h7)
          have I6 := Lib.hid (show itms L6 = idxI 0 (ds ++ [bs2]) by rw [i7, HQ.out, idxI_snoc])
          have l6 : L6.length ≤ 31 := by rw [← itms_len, I6.out, idxI_len]; exact hdsl
          have HDSX := Lib.hid (show ∀ d ∈ ds ++ [bs2], d.length ≤ 1000 from fun d hd => by
            rcases List.mem_append.1 hd with hd | hd
            · exact HDS.out d hd
            · obtain rfl : d = bs2 := by simpa using hd
              exact HB2L.out.2)
          clear h7 i7 e1 y2 hS CP RM hfit hfit2
          have hgd : GoodL [] (idxI 0 (ds ++ [bs2])) := good_idx (by omega) HDSX.out
          have hO := open_full H6.out.db hgd (by omega) (by omega) (Nat.zero_le _) HT.out
          have CO := Lib.hid hO
          have HGD := Lib.hid hgd
          clear hO hgd
          go_wp2_with fail
          refine CO.out.mono ?_
          rintro e w8 ⟨⟨kp, km, X8, Y8, L8, rfl, h8, i8⟩, hk8⟩
          have j8 := H6.out.jat.kept hk8 H6.out.sep
          have l8 : L8.length = L6.length := by rw [← itms_len, i8, ← itms_len L6, I6.out]
          have CK := Lib.hid (keys_all h8.jat (by omega))
          have H8 := Lib.hid h8
          have J8 := Lib.hid j8
          have I8 := Lib.hid i8
          have HL8 := Lib.hid l8
          clear h8 j8 i8 l8 hk8 CO
          go_wp2_with fail
          refine CK.out.mono ?_
          rintro e w9 ⟨v9, rfl, hr9, hb9⟩
          obtain ⟨A9, c9, rfl⟩ := keys_slice hr9
          rw [HL8.out]
          have H9 := Lib.hid (H8.out.below hb9)
          have J9 := Lib.hid (J8.out.below hb9)
          have CJ := Lib.hid (keys_all J9.out (by omega))
          clear hr9 hb9 CK
          go_wp2_with fail
          refine CJ.out.mono ?_
          rintro e w10 ⟨v10, rfl, hr10, hb10⟩
          obtain ⟨A10, c10, rfl⟩ := keys_slice hr10
          have h10 := H9.out.below hb10
          have S10 := Lib.hid (size_any h10.jat)
          have T10 := Lib.hid (size_any (J9.out.below hb10))
          rw [I8.out] at S10
          rw [I6.out] at T10
          have HO := Lib.hid h10.old
          obtain ⟨fz, hfz⟩ : ∃ fz, fz = (fileL (idxI 0 (ds ++ [bs2]))).length := ⟨_, rfl⟩
          rw [← hfz] at S10 T10
          clear hr10 hb10 h10 hfz CJ
          go_wp2_with fail
          refine S10.out.mono ?_
          rintro e w11 ⟨rfl, rfl⟩
          go_wp2_with fail
          refine T10.out.mono ?_
          rintro e w11 ⟨rfl, rfl⟩
          go_wp2
          go_ret
          exact ⟨rfl, HO.out⟩
        · have hfit2 := hfit
          refine wpAnyH_take (i := 8) (v := .bool false) rfl (by kernel_rfl) (by kernel_rfl) (by kernel_rfl) (fun _ _ _ h => h) (Or.inl ⟨by rfl, fun W hW => by have h0 := hW; go_simp⟩) hS ?_
          try simp only [Act.put, List.getElem_toArray, List.getElem_cons_zero, List.getElem_cons_succ, List.setIfInBounds_toArray, List.set_cons_zero, List.set_cons_succ]
          refine wpAnyH_take (i := 9) (v := .bool false) rfl (by kernel_rfl) (by kernel_rfl) (by kernel_rfl) (fun _ _ _ h => h) (Or.inl ⟨by rfl, fun W hW => by have h0 := hW; go_simp⟩) hS ?_
          try simp only [Act.put, List.getElem_toArray, List.getElem_cons_zero, List.getElem_cons_succ, List.setIfInBounds_toArray, List.set_cons_zero, List.set_cons_succ]
          refine wpAnyH_take (i := 10) (v := undef) rfl (by kernel_rfl) (by kernel_rfl) (by kernel_rfl) (fun _ _ _ h => h) (Or.inr ⟨by rfl, rfl⟩) hS ?_
          try simp only [Act.put, List.getElem_toArray, List.getElem_cons_zero, List.getElem_cons_succ, List.setIfInBounds_toArray, List.set_cons_zero, List.set_cons_succ]
          refine wpAnyH_take (i := 11) (v := undef) rfl (by kernel_rfl) (by kernel_rfl) (by kernel_rfl) (fun _ _ _ h => h) (Or.inr ⟨by rfl, rfl⟩) hS ?_
          try simp only [Act.put, List.getElem_toArray, List.getElem_cons_zero, List.getElem_cons_succ, List.setIfInBounds_toArray, List.set_cons_zero, List.set_cons_succ]
          refine wpAnyH_take (i := 12) (v := undef) rfl (by kernel_rfl) (by kernel_rfl) (by kernel_rfl) (fun _ _ _ h => h) (Or.inr ⟨by rfl, rfl⟩) hS ?_
          try simp only [Act.put, List.getElem_toArray, List.getElem_cons_zero, List.getElem_cons_succ, List.setIfInBounds_toArray, List.set_cons_zero, List.set_cons_succ]
          refine wpAnyH_take (i := 13) (v := undef) rfl (by kernel_rfl) (by kernel_rfl) (by kernel_rfl) (fun _ _ _ h => h) (Or.inr ⟨by rfl, rfl⟩) hS ?_
          try simp only [Act.put, List.getElem_toArray, List.getElem_cons_zero, List.getElem_cons_succ, List.setIfInBounds_toArray, List.set_cons_zero, List.set_cons_succ]
          refine wpAnyH_take (i := 14) (v := undef) rfl (by kernel_rfl) (by kernel_rfl) (by kernel_rfl) (fun _ _ _ h => h) (Or.inr ⟨by rfl, rfl⟩) hS ?_
          try simp only [Act.put, List.getElem_toArray, List.getElem_cons_zero, List.getElem_cons_succ, List.setIfInBounds_toArray, List.set_cons_zero, List.set_cons_succ]
          refine wpAnyH_take (i := 15) (v := undef) rfl (by kernel_rfl) (by kernel_rfl) (by kernel_rfl) (fun _ _ _ h => h) (Or.inr ⟨by rfl, rfl⟩) hS ?_
          try simp only [Act.put, List.getElem_toArray, List.getElem_cons_zero, List.getElem_cons_succ, List.setIfInBounds_toArray, List.set_cons_zero, List.set_cons_succ]
          refine wpAnyH_take (i := 16) (v := undef) rfl (by kernel_rfl) (by kernel_rfl) (by kernel_rfl) (fun _ _ _ h => h) (Or.inr ⟨by rfl, rfl⟩) hS ?_
          try simp only [Act.put, List.getElem_toArray, List.getElem_cons_zero, List.getElem_cons_succ, List.setIfInBounds_toArray, List.set_cons_zero, List.set_cons_succ]
          refine wpAnyH_take (i := 17) (v := undef) rfl (by kernel_rfl) (by kernel_rfl) (by kernel_rfl) (fun _ _ _ h => h) (Or.inr ⟨by rfl, rfl⟩) hS ?_
          try simp only [Act.put, List.getElem_toArray, List.getElem_cons_zero, List.getElem_cons_succ, List.setIfInBounds_toArray, List.set_cons_zero, List.set_cons_succ]
          refine wpAnyH_take (i := 18) (v := .bool false) rfl (by kernel_rfl) (by kernel_rfl) (by kernel_rfl) (fun _ _ _ h => h) (Or.inl ⟨by rfl, fun W hW => by have h0 := hW; go_simp⟩) hS ?_
          try simp only [Act.put, List.getElem_toArray, List.getElem_cons_zero, List.getElem_cons_succ, List.setIfInBounds_toArray, List.set_cons_zero, List.set_cons_succ]
          refine wpAnyH_done (by kernel_rfl) ?_ _
          have H6 := Lib.hid HH5.out
          have I6 := Lib.hid I5.out
          obtain ⟨L6, hL6⟩ : ∃ L6, L6 = L := ⟨_, rfl⟩
          subst hL6
          have hfl : (fileL (idxI 0 ds)).length ≤ 255 := HDSL.out.2.2
          have hdsl : ds.length ≤ 30 := HDSL.out.2.1
          have l6 : L6.length ≤ 31 := by rw [← itms_len, I6.out, idxI_len]; omega
          clear hS CP RM hfit hfit2
          have hgd : GoodL [] (idxI 0 ds) := good_idx (by omega) HDS.out
          have hO := open_full H6.out.db hgd (by omega) (by omega) (Nat.zero_le _) HT.out
          have CO := Lib.hid hO
          have HGD := Lib.hid hgd
          clear hO hgd
          go_wp2_with fail
          refine CO.out.mono ?_
          rintro e w8 ⟨⟨kp, km, X8, Y8, L8, rfl, h8, i8⟩, hk8⟩
          have j8 := H6.out.jat.kept hk8 H6.out.sep
          have l8 : L8.length = L6.length := by rw [← itms_len, i8, ← itms_len L6, I6.out]
          have CK := Lib.hid (keys_all h8.jat (by omega))
          have H8 := Lib.hid h8
          have J8 := Lib.hid j8
          have I8 := Lib.hid i8
          have HL8 := Lib.hid l8
          clear h8 j8 i8 l8 hk8 CO
          go_wp2_with fail
          refine CK.out.mono ?_
          rintro e w9 ⟨v9, rfl, hr9, hb9⟩
          obtain ⟨A9, c9, rfl⟩ := keys_slice hr9
          rw [HL8.out]
          have H9 := Lib.hid (H8.out.below hb9)
          have J9 := Lib.hid (J8.out.below hb9)
          have CJ := Lib.hid (keys_all J9.out (by omega))
          clear hr9 hb9 CK
          go_wp2_with fail
          refine CJ.out.mono ?_
          rintro e w10 ⟨v10, rfl, hr10, hb10⟩
          obtain ⟨A10, c10, rfl⟩ := keys_slice hr10
          have h10 := H9.out.below hb10
          have S10 := Lib.hid (size_any h10.jat)
          have T10 := Lib.hid (size_any (J9.out.below hb10))
          rw [I8.out] at S10
          rw [I6.out] at T10
          have HO := Lib.hid h10.old
          obtain ⟨fz, hfz⟩ : ∃ fz, fz = (fileL (idxI 0 ds)).length := ⟨_, rfl⟩
          rw [← hfz] at S10 T10
          clear hr10 hb10 h10 hfz CJ
          go_wp2_with fail
          refine S10.out.mono ?_
          rintro e w11 ⟨rfl, rfl⟩
          go_wp2_with fail
          refine T10.out.mono ?_
          rintro e w11 ⟨rfl, rfl⟩
          go_wp2
          go_ret
          exact ⟨rfl, HO.out⟩
end Go.Proofs.YtdhiofbimebbkaaDoor
