/- JournalKeeps' walk. -/
import Derived.Test.YtdhiofbimebbkaaDoorJq
import Derived.Test.YtdhiofbimebbkaaDoorLp
namespace Go.Proofs.YtdhiofbimebbkaaDoor
open Go.RowKit Go.Maps Go.Sort

/-- The disk when j records were put, sf of them synced. -/
def stK (D : List (List UInt8)) (j sf : Nat) : Sta := sJ (fileL (idxI 0 (D.take j))) (fileL (idxI 0 (D.take sf))).length (1048576 - (fileL (idxI 0 (D.take j))).length)
section
variable {D : List (List UInt8)} {j sf : Nat}
theorem take_len (h : j ≤ D.length) : (D.take j).length = j := by rw [List.length_take]; omega
theorem stK_file (h : ∀ d ∈ D.take j, d.length ≤ 1000) (hj : j ≤ 30) : (fileL (idxI 0 (D.take j))).length ≤ 30510 := by
  have h1 := idx_file (D.take j) 0 h
  have h2 : (D.take j).length ≤ j := by rw [List.length_take]; omega
  omega
theorem stK_ok (h : ∀ d ∈ D.take j, d.length ≤ 1000) (hj : j ≤ 30) : Ok (stK D j sf) := by
  have := stK_file h hj
  exact sJ_ok (by omega) (by omega)
theorem take_next {d : List UInt8} (hd : D[j]? = some d) : D.take (j + 1) = D.take j ++ [d] := by rw [List.take_add_one, hd]; rfl
theorem idx_next {d : List UInt8} (hd : D[j]? = some d) : idxI 0 (D.take (j + 1)) = idxI 0 (D.take j) ++ [(j, d)] := by
  have hj := (List.getElem?_eq_some_iff.1 hd).1
  rw [take_next hd, idxI_snoc, take_len (Nat.le_of_lt hj)]
theorem stK_put {d : List UInt8} (hd : D[j]? = some d) (hdl : d.length ≤ 1000) (h : ∀ d ∈ D.take j, d.length ≤ 1000) (hj : j < 30) : putS [106] j d (stK D j sf, idxI 0 (D.take j)) = (0, stK D (j + 1) sf, idxI 0 (D.take (j + 1))) := by
  have h1 := stK_file h (Nat.le_of_lt hj)
  have h2 := recI_len (j, d)
  simp only at h2
  have hjl := (List.getElem?_eq_some_iff.1 hd).1
  unfold stK
  rw [sJ_put (by rw [hasK_idx _ 0 j (Nat.zero_le _), take_len (Nat.le_of_lt hjl)]; simp) (by omega), ← idx_next hd]
  have e : fileL (idxI 0 (D.take (j + 1))) = fileL (idxI 0 (D.take j)) ++ recI (j, d) := by rw [idx_next hd, fileL_snoc]
  rw [e, List.length_append, Nat.sub_add_eq]
theorem stK_sync : syncS [106] (stK D j sf) = (0, stK D j j) := rfl
theorem file_le (hs : sf ≤ j) : (fileL (idxI 0 (D.take sf))).length ≤ (fileL (idxI 0 (D.take j))).length := by
  have e : D.take j = D.take sf ++ (D.take j).drop sf := by
    conv => lhs; rw [← List.take_append_drop sf (D.take j)]
    rw [List.take_take, Nat.min_eq_left hs]
  rw [e, idxI_app, fileL_app, List.length_append]
  omega
/-- Behind the loss of power. -/
theorem stK_crash (h : ∀ d ∈ D.take j, d.length ≤ 1000) (hj : j ≤ 30) (hjl : j ≤ D.length) (hs : sf ≤ j) (k : Int) : ∃ m j2, m ≤ (fileL (idxI 0 (D.take j))).length ∧ crashS [k] (stK D j sf) = sJ ((fileL (idxI 0 (D.take j))).take m) m (1048576 - (fileL (idxI 0 (D.take j))).length + ((fileL (idxI 0 (D.take j))).length - m)) ∧
    sf ≤ j2 ∧ j2 ≤ j ∧ scanL [] ((fileL (idxI 0 (D.take j))).take m) = idxI 0 (D.take j2) ∧ (fileL (idxI 0 (D.take j2))).length ≤ m ∧ GoodL [] (idxI 0 (D.take j)) := by
  have hsf := file_le (D := D) hs
  have hg : GoodL [] (idxI 0 (D.take j)) := good_idx (by rw [take_len hjl]; omega) h
  obtain ⟨m, hm⟩ : ∃ m, m = (fileL (idxI 0 (D.take sf))).length + min k.toNat ((fileL (idxI 0 (D.take j))).length - (fileL (idxI 0 (D.take sf))).length) := ⟨_, rfl⟩
  have hmr := Nat.min_le_right k.toNat ((fileL (idxI 0 (D.take j))).length - (fileL (idxI 0 (D.take sf))).length)
  obtain ⟨j2, h1, h2, h3, h4, h5⟩ := clean_fits hg (m := m) (by omega)
  rw [idxI_len, take_len hjl] at h1
  rw [idxI_take, List.take_take, Nat.min_eq_left h1] at h2 h3
  refine ⟨m, j2, by omega, sJ_crash k hsf hm, ?_, h1, h2, h3, hg⟩
  refine h5 sf (by rw [idxI_len, take_len hjl]; exact hs) ?_
  rw [idxI_take, List.take_take, Nat.min_eq_left hs]
  omega
end
def KInv (w : World) (dp jp jm n : Nat) (D : List (List UInt8)) (al sf i : Value) (wr : World) : Prop :=
  ∃ j q X Y L, j ≤ n ∧ j ≤ 30 ∧ q ≤ j ∧ al = .int .i64 (j : Nat) ∧ sf = .int .i64 (q : Nat) ∧ i = .int .i64 (j : Nat) ∧ (∀ d ∈ D.take j, d.length ≤ 1000) ∧ JB w wr dp jp jm jn X Y (stK D j q) L ∧ itms L = idxI 0 (D.take j)
def KInv2 (w9 : World) (j2 : Nat) (i : Value) (wr : World) : Prop := ∃ q : Nat, q ≤ j2 ∧ i = .int .i64 (q : Nat) ∧ Below w9.heap.size w9 wr
def KPost (w : World) (e : Ending) (w' : World) : Prop := e = .returned (.bool true) ∧ Below w.heap.size w w'
set_option maxHeartbeats 4000000 in
set_option maxRecDepth 100000 in
theorem journalKeeps_walk {w : World} {A : Option Addr} {n c : Nat} {ps : List (Option Addr × Nat × Nat × List UInt8)} (sy k : Int) (hp : PartsAt w A n ps) (hn : n ≤ maxLen) (ht : TabAt w) :
    Calls Tryd.prog 3 #[.slice A n c, .int .i64 sy, .int .i64 k] w (KPost w) := by
  have HT := Lib.hid ht
  have HP := Lib.hid hp
  obtain ⟨D, hD⟩ : ∃ D, D = ps.map fun p => p.2.2.2 := ⟨_, rfl⟩
  have HD := Lib.hid hD
  have HDL := Lib.hid (show D.length = n by rw [hD, List.length_map]; exact hp.1)
  unfold maxLen at hn
  clear ht hp hD
  have hcv := conv_const
  go_enter Tryd.func3, Tryd.ntmps3
  go_wp2_with fail
  refine (new_disk 1048576 _).mono ?_
  rintro e w1 ⟨dp, X1, rfl, h1⟩
  rw [show posP 1048576 = 1048576 from rfl] at h1
  have CV := Lib.hid (jalive_any w1 (HT.out.below h1.old))
  go_wp2_with fail
  refine CV.out.mono ?_
  rintro e w1' ⟨rfl, hbv⟩
  replace h1 := h1.below hbv
  clear hbv CV
  have C1 := Lib.hid (open_s0 h1 (by decide) HT.out)
  clear h1
  go_wp2_with fail
  refine C1.out.mono ?_
  rintro e w2 ⟨jp, jm, X2, Y2, L2, rfl, h2, i2⟩
  clear C1
  have hK0 := Lib.hid (show KInv w dp jp jm n D (.int .i64 0) (.int .i64 0) (.int .i64 0) w2 from ⟨0, 0, X2, Y2, L2, Nat.zero_le _, by decide, Nat.le_refl _, rfl, rfl, rfl, fun d hd => by simp at hd, by simpa [stK, idxI, fileL] using h2, by simpa [idxI] using i2⟩)
  clear h2 i2
  go_wp2_with fail
  go_loopw [10, 11, 41] (fun al sf i wr => KInv w dp jp jm n D al sf i wr) (fun _ _ i _ => n - (intOf i).toNat)
  case atStart => exact hK0.out
  case round =>
    clear hK0
    obtain ⟨j, q, X, Y, L, hjn, hj30, hqj, rfl, rfl, rfl, hdl, hJ, hI⟩ := hrel
    have HJ := Lib.hid hJ
    have HI := Lib.hid hI
    have HDS := Lib.hid hdl
    clear hJ hI hdl
    by_cases hlt : j < n
    · have hlt' : (j : Int) < (n : Int) := by omega
      obtain ⟨pb, po, rfl, hpb, hpc⟩ := HP.out.2.2 (by omega)
      obtain ⟨p, hpj⟩ : ∃ p, ps[j]? = some p := ⟨ps[j]'(by have := HP.out.1; omega), List.getElem?_eq_getElem _⟩
      obtain ⟨hpB, hpm⟩ := HP.out.2.1 p (List.mem_of_getElem? hpj)
      have y0 : wr.cell? ⟨pb, po + j, none⟩ = some (.slice p.1 p.2.1 p.2.2.1) := by
        rw [HJ.out.old.cell (p := ⟨pb, po + j, none⟩) hpb]; exact hpc j p hpj
      have hDj : D[j]? = some p.2.2.2 := by rw [HD.out, List.getElem?_map, hpj]; rfl
      clear hpc hpj
      obtain ⟨pA, pn, pc, bs⟩ := p
      simp only at hpB hpm y0 hDj
      have HBL := Lib.hid hpB.1
      have HPB := Lib.hid hpB
      have HDJ := Lib.hid hDj
      unfold maxLen at hpm
      clear hpB hDj
      by_cases h30 : 30 ≤ j
      · have h30' : (30 : Int) ≤ (j : Int) := by omega
        clear h30
        have h6' := HJ.out.db.alloc (.cells #[.int .i64 k] 3)
        obtain ⟨m, j2, hmf, hcr, hq2, hj2, hsc, hfm, hgd⟩ := stK_crash (sf := q) HDS.out hj30 (by rw [HDL.out]; exact hjn) hqj k
        have hF := stK_file HDS.out hj30
        have C6 := Lib.hid (h6'.disk.crash (stK_ok HDS.out hj30) _ 1 1 [k] (ints_new wr k) (by decide) (fun _ b o e hx => by injection e with e; injection e with e _ _; have := HJ.out.disk.lt hx; omega))
        rw [hcr] at C6
        have H6 := Lib.hid h6'
        have HSC := Lib.hid hsc
        have HG := Lib.hid hgd
        have HFM := Lib.hid (And.intro hmf (And.intro hfm hF))
        clear h6' hcr hsc hgd hmf hfm hF
        go_wp2_with fail
        refine C6.out.mono ?_
        rintro e w7 ⟨rfl, ha⟩
        obtain ⟨X7, h7, _, _⟩ := H6.out.after ha
        have hml : ((fileL (idxI 0 (D.take j))).take m).length = m := by rw [List.length_take]; have := HFM.out; omega
        have C7 := open_sJ (its := idxI 0 (D.take j)) (n := (fileL (idxI 0 (D.take j2))).length) h7 (by rw [hml]; have := HFM.out; omega) (by rw [hml]; have := HFM.out; omega) (by rw [hml]; exact Nat.le_refl _) HT.out ⟨HG.out, m, rfl⟩ (by rw [idxI_len, List.length_take]; omega) (by rw [HSC.out]) (by rw [hml]; have := HFM.out; omega)
        rw [HSC.out, hml] at C7
        have C77 := Lib.hid C7
        have HF2 := Lib.hid (show (((fileL (idxI 0 (D.take j))).take m).take (fileL (idxI 0 (D.take j2))).length).length ≤ 30510 by rw [List.length_take, hml]; have := HFM.out; omega)
        clear ha C6 H6 h7 hml C7
        go_wp2_with fail
        refine C77.out.mono ?_
        rintro e w8 ⟨kp, km, X8, Y8, L8, rfl, h8, i8⟩
        have h8l : L8.length = j2 := by rw [← itms_len, i8, idxI_len, take_len (by rw [HDL.out]; omega)]
        have C8 := Lib.hid (keys_all h8.jat (by omega))
        rw [idx_keyL i8, take_len (by rw [HDL.out]; omega)] at C8
        have H8 := Lib.hid h8
        have I8 := Lib.hid i8
        have HL8 := Lib.hid h8l
        clear h8 i8 h8l C77
        go_wp2_with fail
        refine C8.out.mono ?_
        rintro e w9 ⟨v, rfl, hr, hb⟩
        rw [List.length_map, List.length_range] at hr
        obtain ⟨A9, c9, rfl, hc9⟩ := row_open hr
        have H9 := Lib.hid (H8.out.below hb)
        have HC9 := Lib.hid hc9
        have hlo : ¬ (j2 : Int) < (q : Int) := by omega
        have hhi : ¬ (j : Int) < (j2 : Int) := by omega
        have hk0 := Lib.hid (show KInv2 w9 j2 (.int .i64 0) w9 from ⟨0, Nat.zero_le _, rfl, Below.refl _ _⟩)
        clear hr hb hc9 C8 H8
        go_wp2_with fail
        have hd1 : decide (j2 < q) = false := decide_eq_false (by omega)
        have hd2 : decide (j < j2) = false := decide_eq_false (by omega)
        simp only [hd1, hd2, Bool.or_false]
        clear hd1 hd2
        go_loopw [97] (fun i wr => KInv2 w9 j2 i wr) (fun i _ => j2 - (intOf i).toNat)
        case atStart => exact hk0.out
        case round =>
          have HQJ := Lib.hid (And.intro hq2 hj2)
          have hj2n : j2 ≤ n := by omega
          have hj230 : j2 ≤ 30 := by omega
          clear hk0 hlo hhi hq2 hj2
          obtain ⟨i, hi2, rfl, hbw⟩ := hrel
          have HBW := Lib.hid hbw
          have hJw := H9.out.below hbw
          by_cases hlt2 : i < j2
          · have hltI : (i : Int) < (j2 : Int) := by omega
            obtain ⟨g9, rfl, _, hg9, hcells⟩ := HC9.out (by omega)
            have z0 : wr.cell? ⟨g9, i, none⟩ = some (.int .i64 (i : Nat)) := by
              rw [hbw.cell (p := ⟨g9, i, none⟩) hg9]
              refine hcells i _ ?_
              rw [List.getElem?_map, List.getElem?_map, List.getElem?_range (by omega)]; rfl
            clear hcells
            obtain ⟨en, hen, ek, ed, _⟩ := idx_ent I8.out (i := i) (by rw [take_len (by rw [HDL.out]; omega)]; exact hlt2)
            rw [List.getElem?_take, if_pos hlt2] at ed
            skip
            have hpc' : ∀ i p, ps[i]? = some p → w.cell? ⟨pb, po + i, none⟩ = some (.slice p.1 p.2.1 p.2.2.1) := by
              obtain ⟨b1, o1, e1, _, h1⟩ := HP.out.2.2 (by omega)
              injection e1 with e1; injection e1 with e1 e2 _
              rw [e1, e2]; exact h1
            obtain ⟨p', hpj'⟩ : ∃ p, ps[i]? = some p := ⟨ps[i]'(by have := HP.out.1; omega), List.getElem?_eq_getElem _⟩
            obtain ⟨hpB', hpm'⟩ := HP.out.2.1 p' (List.mem_of_getElem? hpj')
            have z1 : ∀ W, Below wr.heap.size wr W → W.cell? ⟨pb, po + i, none⟩ = some (.slice p'.1 p'.2.1 p'.2.2.1) := fun W hW => by
              rw [(hJw.old.trans (hW.mono hJw.old.size)).cell (p := ⟨pb, po + i, none⟩) hpb]; exact hpc' i p' hpj'
            have hDi : D[i]? = some p'.2.2.2 := by rw [HD.out, List.getElem?_map, hpj']; rfl
            rw [hDi] at ed
            injection ed with ed
            clear hpc' hpj'
            obtain ⟨pA', pn', pc', bs'⟩ := p'
            simp only at hpB' hpm' z1 ed
            have hbl' := hpB'.1
            have hbs : bs'.length ≤ 1000 := by
              refine HDS.out bs' (List.mem_of_getElem? (i := i) ?_)
              rw [List.getElem?_take, if_pos (by have := HQJ.out; omega)]
              exact hDi
            have C10 := get_yes hJw.jat hen (by rw [ek]; omega) (by rw [← ed]; omega)
            rw [ek, ← ed] at C10
            have C100 := Lib.hid C10
            have Z1 := Lib.hid z1
            have HBL' := Lib.hid hbl'
            have HPB' := Lib.hid (fun W (hW : Below wr.heap.size wr W) => hpB'.below (hJw.old.trans (hW.mono hJw.old.size)))
            have hpn' : pn' ≤ 1000 := by omega
            clear C10 z1 hbl' hJw hbw hen ek ed hDi hbs hpB'
            go_wp2_with fail
            refine C100.out.mono ?_
            rintro e w10 ⟨A10, c10, rfl, hy10, hb10, _⟩
            rw [HBL'.out] at hy10 ⊢
            have z2 := Z1.out w10 hb10
            have C11 := Lib.hid (sameb_yes (c := c10) (d := pc') hy10 (HPB'.out w10 hb10) (by unfold maxLen; omega))
            have HB10 := Lib.hid (HBW.out.trans (hb10.mono HBW.out.size))
            clear hy10 hb10 C100
            go_wp2_with fail
            refine C11.out.mono ?_
            rintro e w11 ⟨rfl, hb11⟩
            have HE := Lib.hid (show KInv2 w9 j2 (.int .i64 ((i + 1 : Nat) : Int)) w11 from ⟨i + 1, by omega, rfl, HB10.out.trans (hb11.mono HB10.out.size)⟩)
            clear hb11 C11 z2
            go_wp2
            go_roundw
            case rel => exact HE.out
            case measure => simp [intOf]; omega
          · have hltI : ¬ (i : Int) < (j2 : Int) := by omega
            have hJa := hJw.alloc (.cells #[.int .u8 109, .int .u8 111, .int .u8 114, .int .u8 101] 5 (4, 5))
            have hF2 := HFM.out
            have C12 := jb_put (c := 4) (k := j2) hJa (sJ_ok (by have := HF2.out; omega) (by omega)) (bytes_new wr [109, 111, 114, 101] (4, 5)) (by omega) (by decide) (by decide) HT.out (by rw [I8.out]; omega)
            have hr4 := recI_len (j2, [109, 111, 114, 101])
            simp only [List.length_cons, List.length_nil] at hr4
            rw [I8.out, show jn.data.toList = [106] from rfl, sJ_put (by rw [hasK_idx _ 0 j2 (Nat.zero_le _), take_len (by rw [HDL.out]; omega)]; simp) (by omega)] at C12
            have C122 := Lib.hid C12
            clear C12 hr4 hF2 hJa hJw hbw
            go_wp2_with fail
            refine C122.out.mono ?_
            rintro e w12 ⟨rfl, X12, Y12, L12, h12, _⟩
            have HO := Lib.hid h12.old
            clear h12 C122
            go_wp2
            go_ret
            exact ⟨rfl, HO.out⟩
      · have h30' : ¬ (30 : Int) ≤ (j : Int) := by omega
        by_cases hbig : 1000 < pn
        · have hbig' : (1000 : Int) < (pn : Int) := by omega
          clear hbig
          have h6' := HJ.out.db.alloc (.cells #[.int .i64 k] 3)
          obtain ⟨m, j2, hmf, hcr, hq2, hj2, hsc, hfm, hgd⟩ := stK_crash (sf := q) HDS.out hj30 (by rw [HDL.out]; exact hjn) hqj k
          have hF := stK_file HDS.out hj30
          have C6 := Lib.hid (h6'.disk.crash (stK_ok HDS.out hj30) _ 1 1 [k] (ints_new wr k) (by decide) (fun _ b o e hx => by injection e with e; injection e with e _ _; have := HJ.out.disk.lt hx; omega))
          rw [hcr] at C6
          have H6 := Lib.hid h6'
          have HSC := Lib.hid hsc
          have HG := Lib.hid hgd
          have HFM := Lib.hid (And.intro hmf (And.intro hfm hF))
          clear h6' hcr hsc hgd hmf hfm hF
          go_wp2_with fail
          refine C6.out.mono ?_
          rintro e w7 ⟨rfl, ha⟩
          obtain ⟨X7, h7, _, _⟩ := H6.out.after ha
          have hml : ((fileL (idxI 0 (D.take j))).take m).length = m := by rw [List.length_take]; have := HFM.out; omega
          have C7 := open_sJ (its := idxI 0 (D.take j)) (n := (fileL (idxI 0 (D.take j2))).length) h7 (by rw [hml]; have := HFM.out; omega) (by rw [hml]; have := HFM.out; omega) (by rw [hml]; exact Nat.le_refl _) HT.out ⟨HG.out, m, rfl⟩ (by rw [idxI_len, List.length_take]; omega) (by rw [HSC.out]) (by rw [hml]; have := HFM.out; omega)
          rw [HSC.out, hml] at C7
          have C77 := Lib.hid C7
          have HF2 := Lib.hid (show (((fileL (idxI 0 (D.take j))).take m).take (fileL (idxI 0 (D.take j2))).length).length ≤ 30510 by rw [List.length_take, hml]; have := HFM.out; omega)
          clear ha C6 H6 h7 hml C7
          go_wp2_with fail
          refine C77.out.mono ?_
          rintro e w8 ⟨kp, km, X8, Y8, L8, rfl, h8, i8⟩
          have h8l : L8.length = j2 := by rw [← itms_len, i8, idxI_len, take_len (by rw [HDL.out]; omega)]
          have C8 := Lib.hid (keys_all h8.jat (by omega))
          rw [idx_keyL i8, take_len (by rw [HDL.out]; omega)] at C8
          have H8 := Lib.hid h8
          have I8 := Lib.hid i8
          have HL8 := Lib.hid h8l
          clear h8 i8 h8l C77
          go_wp2_with fail
          refine C8.out.mono ?_
          rintro e w9 ⟨v, rfl, hr, hb⟩
          rw [List.length_map, List.length_range] at hr
          obtain ⟨A9, c9, rfl, hc9⟩ := row_open hr
          have H9 := Lib.hid (H8.out.below hb)
          have HC9 := Lib.hid hc9
          have hlo : ¬ (j2 : Int) < (q : Int) := by omega
          have hhi : ¬ (j : Int) < (j2 : Int) := by omega
          have hk0 := Lib.hid (show KInv2 w9 j2 (.int .i64 0) w9 from ⟨0, Nat.zero_le _, rfl, Below.refl _ _⟩)
          clear hr hb hc9 C8 H8
          go_wp2_with fail
          have hd1 : decide (j2 < q) = false := decide_eq_false (by omega)
          have hd2 : decide (j < j2) = false := decide_eq_false (by omega)
          simp only [hd1, hd2, Bool.or_false]
          clear hd1 hd2
          go_loopw [97] (fun i wr => KInv2 w9 j2 i wr) (fun i _ => j2 - (intOf i).toNat)
          case atStart => exact hk0.out
          case round =>
            have HQJ := Lib.hid (And.intro hq2 hj2)
            have hj2n : j2 ≤ n := by omega
            have hj230 : j2 ≤ 30 := by omega
            clear hk0 hlo hhi hq2 hj2
            obtain ⟨i, hi2, rfl, hbw⟩ := hrel
            have HBW := Lib.hid hbw
            have hJw := H9.out.below hbw
            by_cases hlt2 : i < j2
            · have hltI : (i : Int) < (j2 : Int) := by omega
              obtain ⟨g9, rfl, _, hg9, hcells⟩ := HC9.out (by omega)
              have z0 : wr.cell? ⟨g9, i, none⟩ = some (.int .i64 (i : Nat)) := by
                rw [hbw.cell (p := ⟨g9, i, none⟩) hg9]
                refine hcells i _ ?_
                rw [List.getElem?_map, List.getElem?_map, List.getElem?_range (by omega)]; rfl
              clear hcells
              obtain ⟨en, hen, ek, ed, _⟩ := idx_ent I8.out (i := i) (by rw [take_len (by rw [HDL.out]; omega)]; exact hlt2)
              rw [List.getElem?_take, if_pos hlt2] at ed
              skip
              have hpc' : ∀ i p, ps[i]? = some p → w.cell? ⟨pb, po + i, none⟩ = some (.slice p.1 p.2.1 p.2.2.1) := by
                obtain ⟨b1, o1, e1, _, h1⟩ := HP.out.2.2 (by omega)
                injection e1 with e1; injection e1 with e1 e2 _
                rw [e1, e2]; exact h1
              obtain ⟨p', hpj'⟩ : ∃ p, ps[i]? = some p := ⟨ps[i]'(by have := HP.out.1; omega), List.getElem?_eq_getElem _⟩
              obtain ⟨hpB', hpm'⟩ := HP.out.2.1 p' (List.mem_of_getElem? hpj')
              have z1 : ∀ W, Below wr.heap.size wr W → W.cell? ⟨pb, po + i, none⟩ = some (.slice p'.1 p'.2.1 p'.2.2.1) := fun W hW => by
                rw [(hJw.old.trans (hW.mono hJw.old.size)).cell (p := ⟨pb, po + i, none⟩) hpb]; exact hpc' i p' hpj'
              have hDi : D[i]? = some p'.2.2.2 := by rw [HD.out, List.getElem?_map, hpj']; rfl
              rw [hDi] at ed
              injection ed with ed
              clear hpc' hpj'
              obtain ⟨pA', pn', pc', bs'⟩ := p'
              simp only at hpB' hpm' z1 ed
              have hbl' := hpB'.1
              have hbs : bs'.length ≤ 1000 := by
                refine HDS.out bs' (List.mem_of_getElem? (i := i) ?_)
                rw [List.getElem?_take, if_pos (by have := HQJ.out; omega)]
                exact hDi
              have C10 := get_yes hJw.jat hen (by rw [ek]; omega) (by rw [← ed]; omega)
              rw [ek, ← ed] at C10
              have C100 := Lib.hid C10
              have Z1 := Lib.hid z1
              have HBL' := Lib.hid hbl'
              have HPB' := Lib.hid (fun W (hW : Below wr.heap.size wr W) => hpB'.below (hJw.old.trans (hW.mono hJw.old.size)))
              have hpn' : pn' ≤ 1000 := by omega
              clear C10 z1 hbl' hJw hbw hen ek ed hDi hbs hpB'
              go_wp2_with fail
              refine C100.out.mono ?_
              rintro e w10 ⟨A10, c10, rfl, hy10, hb10, _⟩
              rw [HBL'.out] at hy10 ⊢
              have z2 := Z1.out w10 hb10
              have C11 := Lib.hid (sameb_yes (c := c10) (d := pc') hy10 (HPB'.out w10 hb10) (by unfold maxLen; omega))
              have HB10 := Lib.hid (HBW.out.trans (hb10.mono HBW.out.size))
              clear hy10 hb10 C100
              go_wp2_with fail
              refine C11.out.mono ?_
              rintro e w11 ⟨rfl, hb11⟩
              have HE := Lib.hid (show KInv2 w9 j2 (.int .i64 ((i + 1 : Nat) : Int)) w11 from ⟨i + 1, by omega, rfl, HB10.out.trans (hb11.mono HB10.out.size)⟩)
              clear hb11 C11 z2
              go_wp2
              go_roundw
              case rel => exact HE.out
              case measure => simp [intOf]; omega
            · have hltI : ¬ (i : Int) < (j2 : Int) := by omega
              have hJa := hJw.alloc (.cells #[.int .u8 109, .int .u8 111, .int .u8 114, .int .u8 101] 5 (4, 5))
              have hF2 := HFM.out
              have C12 := jb_put (c := 4) (k := j2) hJa (sJ_ok (by have := HF2.out; omega) (by omega)) (bytes_new wr [109, 111, 114, 101] (4, 5)) (by omega) (by decide) (by decide) HT.out (by rw [I8.out]; omega)
              have hr4 := recI_len (j2, [109, 111, 114, 101])
              simp only [List.length_cons, List.length_nil] at hr4
              rw [I8.out, show jn.data.toList = [106] from rfl, sJ_put (by rw [hasK_idx _ 0 j2 (Nat.zero_le _), take_len (by rw [HDL.out]; omega)]; simp) (by omega)] at C12
              have C122 := Lib.hid C12
              clear C12 hr4 hF2 hJa hJw hbw
              go_wp2_with fail
              refine C122.out.mono ?_
              rintro e w12 ⟨rfl, X12, Y12, L12, h12, _⟩
              have HO := Lib.hid h12.old
              clear h12 C122
              go_wp2
              go_ret
              exact ⟨rfl, HO.out⟩
        · have hbig' : ¬ (1000 : Int) < (pn : Int) := by omega
          have C2 := Lib.hid (jb_put (c := pc) (k := j) HJ.out (stK_ok HDS.out hj30) (HPB.out.below HJ.out.old) (by omega) (by omega) (by decide) HT.out (by rw [HI.out]; have := stK_file HDS.out hj30; omega))
          rw [HI.out, show jn.data.toList = [106] from rfl, stK_put HDJ.out (by rw [HBL.out]; omega) HDS.out (by omega)] at C2
          have HDN := Lib.hid (show ∀ d ∈ D.take (j + 1), d.length ≤ 1000 from fun d hd => by
            rw [take_next HDJ.out] at hd
            rcases List.mem_append.1 hd with hd | hd
            · exact HDS.out d hd
            · obtain rfl : d = bs := by simpa using hd
              rw [HBL.out]; omega)
          go_wp2_with fail
          refine C2.out.mono ?_
          rintro e w3 ⟨rfl, X3, Y3, L3, h3, i3⟩
          simp only at h3 i3
          clear C2
          by_cases hs : (j : Int) = sy
          · subst hs
            have C3 := Lib.hid (jb_sync h3 (stK_ok HDN.out (by omega)) (by decide))
            rw [show jn.data.toList = [106] from rfl, stK_sync, i3] at C3
            clear h3 i3
            go_wp2_with fail
            refine C3.out.mono ?_
            rintro e w4 ⟨rfl, X4, Y4, L4, h4, i4⟩
            simp only at h4 i4
            have HE := Lib.hid (show KInv w dp jp jm n D (.int .i64 ((j + 1 : Nat) : Int)) (.int .i64 ((j + 1 : Nat) : Int)) (.int .i64 ((j + 1 : Nat) : Int)) w4 from ⟨j + 1, j + 1, X4, Y4, L4, by omega, by omega, Nat.le_refl _, rfl, rfl, rfl, HDN.out, h4, i4⟩)
            clear h4 i4 C3
            go_wp2
            go_roundw
            case rel => exact HE.out
            case measure => simp [intOf]; omega
          · have HE := Lib.hid (show KInv w dp jp jm n D (.int .i64 ((j + 1 : Nat) : Int)) (.int .i64 (q : Nat)) (.int .i64 ((j + 1 : Nat) : Int)) w3 from ⟨j + 1, q, X3, Y3, L3, by omega, by omega, by omega, rfl, rfl, rfl, HDN.out, h3, i3⟩)
            clear h3 i3
            go_wp2
            go_roundw
            case rel => exact HE.out
            case measure => simp [intOf]; omega
    · have hlt' : ¬ (j : Int) < (n : Int) := by omega
      have h6' := HJ.out.db.alloc (.cells #[.int .i64 k] 3)
      obtain ⟨m, j2, hmf, hcr, hq2, hj2, hsc, hfm, hgd⟩ := stK_crash (sf := q) HDS.out hj30 (by rw [HDL.out]; exact hjn) hqj k
      have hF := stK_file HDS.out hj30
      have C6 := Lib.hid (h6'.disk.crash (stK_ok HDS.out hj30) _ 1 1 [k] (ints_new wr k) (by decide) (fun _ b o e hx => by injection e with e; injection e with e _ _; have := HJ.out.disk.lt hx; omega))
      rw [hcr] at C6
      have H6 := Lib.hid h6'
      have HSC := Lib.hid hsc
      have HG := Lib.hid hgd
      have HFM := Lib.hid (And.intro hmf (And.intro hfm hF))
      clear h6' hcr hsc hgd hmf hfm hF
      go_wp2_with fail
      refine C6.out.mono ?_
      rintro e w7 ⟨rfl, ha⟩
      obtain ⟨X7, h7, _, _⟩ := H6.out.after ha
      have hml : ((fileL (idxI 0 (D.take j))).take m).length = m := by rw [List.length_take]; have := HFM.out; omega
      have C7 := open_sJ (its := idxI 0 (D.take j)) (n := (fileL (idxI 0 (D.take j2))).length) h7 (by rw [hml]; have := HFM.out; omega) (by rw [hml]; have := HFM.out; omega) (by rw [hml]; exact Nat.le_refl _) HT.out ⟨HG.out, m, rfl⟩ (by rw [idxI_len, List.length_take]; omega) (by rw [HSC.out]) (by rw [hml]; have := HFM.out; omega)
      rw [HSC.out, hml] at C7
      have C77 := Lib.hid C7
      have HF2 := Lib.hid (show (((fileL (idxI 0 (D.take j))).take m).take (fileL (idxI 0 (D.take j2))).length).length ≤ 30510 by rw [List.length_take, hml]; have := HFM.out; omega)
      clear ha C6 H6 h7 hml C7
      go_wp2_with fail
      refine C77.out.mono ?_
      rintro e w8 ⟨kp, km, X8, Y8, L8, rfl, h8, i8⟩
      have h8l : L8.length = j2 := by rw [← itms_len, i8, idxI_len, take_len (by rw [HDL.out]; omega)]
      have C8 := Lib.hid (keys_all h8.jat (by omega))
      rw [idx_keyL i8, take_len (by rw [HDL.out]; omega)] at C8
      have H8 := Lib.hid h8
      have I8 := Lib.hid i8
      have HL8 := Lib.hid h8l
      clear h8 i8 h8l C77
      go_wp2_with fail
      refine C8.out.mono ?_
      rintro e w9 ⟨v, rfl, hr, hb⟩
      rw [List.length_map, List.length_range] at hr
      obtain ⟨A9, c9, rfl, hc9⟩ := row_open hr
      have H9 := Lib.hid (H8.out.below hb)
      have HC9 := Lib.hid hc9
      have hlo : ¬ (j2 : Int) < (q : Int) := by omega
      have hhi : ¬ (j : Int) < (j2 : Int) := by omega
      have hk0 := Lib.hid (show KInv2 w9 j2 (.int .i64 0) w9 from ⟨0, Nat.zero_le _, rfl, Below.refl _ _⟩)
      clear hr hb hc9 C8 H8
      go_wp2_with fail
      have hd1 : decide (j2 < q) = false := decide_eq_false (by omega)
      have hd2 : decide (j < j2) = false := decide_eq_false (by omega)
      simp only [hd1, hd2, Bool.or_false]
      clear hd1 hd2
      go_loopw [97] (fun i wr => KInv2 w9 j2 i wr) (fun i _ => j2 - (intOf i).toNat)
      case atStart => exact hk0.out
      case round =>
        have HQJ := Lib.hid (And.intro hq2 hj2)
        have hj2n : j2 ≤ n := by omega
        have hj230 : j2 ≤ 30 := by omega
        clear hk0 hlo hhi hq2 hj2
        obtain ⟨i, hi2, rfl, hbw⟩ := hrel
        have HBW := Lib.hid hbw
        have hJw := H9.out.below hbw
        by_cases hlt2 : i < j2
        · have hltI : (i : Int) < (j2 : Int) := by omega
          obtain ⟨g9, rfl, _, hg9, hcells⟩ := HC9.out (by omega)
          have z0 : wr.cell? ⟨g9, i, none⟩ = some (.int .i64 (i : Nat)) := by
            rw [hbw.cell (p := ⟨g9, i, none⟩) hg9]
            refine hcells i _ ?_
            rw [List.getElem?_map, List.getElem?_map, List.getElem?_range (by omega)]; rfl
          clear hcells
          obtain ⟨en, hen, ek, ed, _⟩ := idx_ent I8.out (i := i) (by rw [take_len (by rw [HDL.out]; omega)]; exact hlt2)
          rw [List.getElem?_take, if_pos hlt2] at ed
          obtain ⟨pb', po', rfl, hpb', hpc'⟩ := HP.out.2.2 (by omega)
          obtain ⟨p', hpj'⟩ : ∃ p, ps[i]? = some p := ⟨ps[i]'(by have := HP.out.1; omega), List.getElem?_eq_getElem _⟩
          obtain ⟨hpB', hpm'⟩ := HP.out.2.1 p' (List.mem_of_getElem? hpj')
          have z1 : ∀ W, Below wr.heap.size wr W → W.cell? ⟨pb', po' + i, none⟩ = some (.slice p'.1 p'.2.1 p'.2.2.1) := fun W hW => by
            rw [(hJw.old.trans (hW.mono hJw.old.size)).cell (p := ⟨pb', po' + i, none⟩) hpb']; exact hpc' i p' hpj'
          have hDi : D[i]? = some p'.2.2.2 := by rw [HD.out, List.getElem?_map, hpj']; rfl
          rw [hDi] at ed
          injection ed with ed
          clear hpc' hpj'
          obtain ⟨pA', pn', pc', bs'⟩ := p'
          simp only at hpB' hpm' z1 ed
          have hbl' := hpB'.1
          have hbs : bs'.length ≤ 1000 := by
            refine HDS.out bs' (List.mem_of_getElem? (i := i) ?_)
            rw [List.getElem?_take, if_pos (by have := HQJ.out; omega)]
            exact hDi
          have C10 := get_yes hJw.jat hen (by rw [ek]; omega) (by rw [← ed]; omega)
          rw [ek, ← ed] at C10
          have C100 := Lib.hid C10
          have Z1 := Lib.hid z1
          have HBL' := Lib.hid hbl'
          have HPB' := Lib.hid (fun W (hW : Below wr.heap.size wr W) => hpB'.below (hJw.old.trans (hW.mono hJw.old.size)))
          have hpn' : pn' ≤ 1000 := by omega
          clear C10 z1 hbl' hJw hbw hen ek ed hDi hbs hpB'
          go_wp2_with fail
          refine C100.out.mono ?_
          rintro e w10 ⟨A10, c10, rfl, hy10, hb10, _⟩
          rw [HBL'.out] at hy10 ⊢
          have z2 := Z1.out w10 hb10
          have C11 := Lib.hid (sameb_yes (c := c10) (d := pc') hy10 (HPB'.out w10 hb10) (by unfold maxLen; omega))
          have HB10 := Lib.hid (HBW.out.trans (hb10.mono HBW.out.size))
          clear hy10 hb10 C100
          go_wp2_with fail
          refine C11.out.mono ?_
          rintro e w11 ⟨rfl, hb11⟩
          have HE := Lib.hid (show KInv2 w9 j2 (.int .i64 ((i + 1 : Nat) : Int)) w11 from ⟨i + 1, by omega, rfl, HB10.out.trans (hb11.mono HB10.out.size)⟩)
          clear hb11 C11 z2
          go_wp2
          go_roundw
          case rel => exact HE.out
          case measure => simp [intOf]; omega
        · have hltI : ¬ (i : Int) < (j2 : Int) := by omega
          have hJa := hJw.alloc (.cells #[.int .u8 109, .int .u8 111, .int .u8 114, .int .u8 101] 5 (4, 5))
          have hF2 := HFM.out
          have C12 := jb_put (c := 4) (k := j2) hJa (sJ_ok (by have := HF2.out; omega) (by omega)) (bytes_new wr [109, 111, 114, 101] (4, 5)) (by omega) (by decide) (by decide) HT.out (by rw [I8.out]; omega)
          have hr4 := recI_len (j2, [109, 111, 114, 101])
          simp only [List.length_cons, List.length_nil] at hr4
          rw [I8.out, show jn.data.toList = [106] from rfl, sJ_put (by rw [hasK_idx _ 0 j2 (Nat.zero_le _), take_len (by rw [HDL.out]; omega)]; simp) (by omega)] at C12
          have C122 := Lib.hid C12
          clear C12 hr4 hF2 hJa hJw hbw
          go_wp2_with fail
          refine C122.out.mono ?_
          rintro e w12 ⟨rfl, X12, Y12, L12, h12, _⟩
          have HO := Lib.hid h12.old
          clear h12 C122
          go_wp2
          go_ret
          exact ⟨rfl, HO.out⟩
end Go.Proofs.YtdhiofbimebbkaaDoor
