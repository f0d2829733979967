/- sum.Text: its walk. -/
import Derived.Test.YtplenagncmhhoaaDoorSmI
import Derived.Test.YtplenagncmhhoaaDoorNmRd
namespace Go.Proofs.YtplenagncmhhoaaDoor
open Go.RowKit

theorem head_lines {su bo v1 v2 : ByteArray} (h1 : writeL su = v1.data.toList) (h2 : writeL bo = v2.data.toList) :
    [Value.string (⟨#[84, 101, 115, 116, 32, 114, 117, 110, 32, 111, 102, 32]⟩ ++ v1), Value.string (⟨#[66, 111, 97, 114, 100, 32]⟩ ++ v2)] = [sw ++ wrN (lnB su), bw ++ wrN (lnB bo)].map lineV := by
  have e1 : wrN (lnB su) = v1.data.toList := h1
  have e2 : wrN (lnB bo) = v2.data.toList := h2
  have E1 : (⟨#[84, 101, 115, 116, 32, 114, 117, 110, 32, 111, 102, 32]⟩ ++ v1 : ByteArray) = ⟨(sw ++ v1.data.toList).toArray⟩ := by
    apply ByteArray.ext
    rw [ByteArray.data_append]; simp [sw]
  have E2 : (⟨#[66, 111, 97, 114, 100, 32]⟩ ++ v2 : ByteArray) = ⟨(bw ++ v2.data.toList).toArray⟩ := by
    apply ByteArray.ext
    rw [ByteArray.data_append]; simp [bw]
  rw [e1, e2, E1, E2]
  rfl
theorem partsL_short (ps : List PtB) (k : Nat) : (partsL wrN ((ps.take k).map ptB)).length ≤ ps.length + (ps.map fun p => p.2.length).sum := by
  rw [parts_lines, List.map_map]
  have h1 := sum_take ps k
  have h2 : ((ps.take k).map ((fun p : Pt => p.2.length) ∘ ptB)) = (ps.take k).map fun p => p.2.length := by
    apply List.map_congr_left
    intro p _
    simp [ptB]
  rw [h2, List.length_map]
  have h3 : (ps.take k).length ≤ ps.length := List.length_take_le' ..
  omega
theorem lines_cells {w : World} {B : Nat} {v : Value} {ls : List Ln} (h : LinesAt w B v ls) (h0 : 0 < ls.length) : ∃ g cap, v = .slice (some ⟨g, 0, none⟩) ls.length cap ∧ B ≤ g ∧ g < w.heap.size ∧ ls.length ≤ cap ∧ ∀ j l, ls[j]? = some l → w.cell? ⟨g, j, none⟩ = some (lineV l) := by
  have h' := h
  unfold LinesAt at h'
  rcases h'.2 with ⟨_, e⟩ | ⟨g, cap, cur, rfl, hb, hg, hc, _, _, _⟩
  · omega
  · refine ⟨g, cap, rfl, hb, (Array.getElem?_eq_some_iff.1 hg).1, hc, fun j l hj => ?_⟩
    have hlt : j < ls.length := (List.getElem?_eq_some_iff.1 hj).1
    rw [World.ownsRow.cellAt h j (by omega), List.getElem?_map, hj]; rfl
theorem joinLines {w : World} {B g cap : Nat} {ls : List Ln} (h : LinesAt w B (.slice (some ⟨g, 0, none⟩) ls.length cap) ls) (h0 : 0 < ls.length) (hN : ls.length ≤ 140737488355328) (hl : (Lib.join ls [10]).length ≤ 140737488355328) :
    Calls Tryd.prog 43 #[.slice (some ⟨g, 0, none⟩) ls.length cap, .string ⟨#[10]⟩] w fun e w' => e = .returned (.string ⟨(Lib.join ls [10]).toArray⟩) ∧ Below w.heap.size w w' := by
  obtain ⟨g', cap', e, hb, hlt, hc, hcell⟩ := lines_cells h h0
  injection e with e1 e2 e3
  injection e1 with e1
  injection e1 with e1
  subst e1 e3
  have he : (ls.map fun l => (⟨l.toArray⟩ : ByteArray)).map (·.data.toList) = ls := by
    rw [List.map_map]
    conv => rhs; rw [← List.map_id ls]
    apply List.map_congr_left
    intro l _
    simp
  have hJ := Tryd.strings_Join g 0 cap (ls.map fun l => (⟨l.toArray⟩ : ByteArray)) ⟨#[10]⟩ w (by
    intro j x hx
    rw [List.getElem?_map] at hx
    cases hq : ls[j]? with
    | none => rw [hq] at hx; cases hx
    | some l =>
      rw [hq] at hx
      simp only [Option.map_some, Option.some.injEq] at hx
      rw [Nat.zero_add, hcell j l hq, ← hx]; rfl) hlt (by rw [List.length_map]; exact hN) (by rw [List.length_map]; exact hc) (by rw [he]; exact hl)
  rw [he, List.length_map] at hJ
  exact hJ
theorem partsL_snoc (ps : List PtB) (k : Nat) (g : ByteArray) (rs : Rs) (h : ps[k]? = some (g, rs)) : partsL wrN ((ps.take (k + 1)).map ptB) = partsL wrN ((ps.take k).map ptB) ++ ((gw ++ wrN (lnB g)) :: (rs.map resB).map (resL wrN)) := by
  rw [List.take_add_one, h]
  simp [partsL, partL, ptB]
theorem grp_line {g v : ByteArray} (h : writeL g = v.data.toList) : lineV (gw ++ wrN (lnB g)) = .string (⟨#[103, 114, 111, 117, 112, 32]⟩ ++ v) := by
  have e : wrN (lnB g) = v.data.toList := h
  have E : (⟨#[103, 114, 111, 117, 112, 32]⟩ ++ v : ByteArray) = ⟨(gw ++ v.data.toList).toArray⟩ := by
    apply ByteArray.ext
    rw [ByteArray.data_append]; simp [gw]
  rw [e, E]; rfl
theorem res_line {g v u : ByteArray} {x : Int} (h : writeL g = v.data.toList) (hx : rightV x = true) (hu : u = wordT x) : lineV (resL wrN (resB (g, x))) = .string (u ++ ⟨#[58, 32]⟩ ++ v) := by
  subst hu
  have e : wrN (lnB g) = v.data.toList := h
  have e2 : wd x.toNat = (wordT x).data.toList := (wordT_wd x hx).symm
  have E : (wordT x ++ ⟨#[58, 32]⟩ ++ v : ByteArray) = ⟨(wd x.toNat ++ 58 :: 32 :: v.data.toList).toArray⟩ := by
    apply ByteArray.ext
    rw [ByteArray.data_append, ByteArray.data_append, e2]; simp
  unfold resL resB
  simp only
  rw [e, E]; rfl
theorem wordT_size (x : Int) : (wordT x).size ≤ 11 := by
  rcases nine x with rfl | rfl | rfl | rfl | rfl | rfl | rfl | rfl | hv | hv
  rotate_left 8
  · rw [wordT_out (.inl hv)]; decide
  · rw [wordT_out (.inr hv)]; decide
  all_goals decide
set_option maxHeartbeats 4000000 in
set_option maxRecDepth 100000 in
theorem sText_any {w : World} (su bo : ByteArray) {A : Option Addr} {n c : Nat} {ps : List PtB} (h : PartsAt w A n ps) (ht : TabAt w) (hp : Pow w) (hsu : su.size ≤ maxLen) (hbo : bo.size ≤ maxLen) (h1 : ps.length ≤ 1000000) (hb : (ps.map fun p => p.2.length).sum ≤ 1000000) :
    Calls Tryd.prog 19 #[.agg #[.string su, .string bo, .slice A n c]] w fun e w' => e = .returned (.string (if rightS su bo ps = true then ⟨(textB (smB su bo ps)).toArray⟩ else ⟨#[]⟩)) ∧ Below w.heap.size w w' := by
  obtain ⟨i0, hi, hz0, hz1, hz2⟩ := info_parts infS
  have HT := Lib.hid ht
  have HP := Lib.hid hp
  have HPA := Lib.hid h
  have HB0 := Lib.hid ((Below.refl w.heap.size w).alloc (Nat.le_refl _) (.cells #[.string su, .string bo, .slice A n c] 24))
  have HS0 := Lib.hid (Blk.new w 24 #[.string su, .string bo, .slice A n c])
  have HS := Lib.hid (sRight_any (c := c) su bo (h.below HB0.out) (ht.below HB0.out) hsu hbo)
  have HB := Lib.hid hb
  have H1 := Lib.hid h1
  clear h ht hp hb h1
  cases hr : rightS su bo ps
  · rw [hr] at HS
    go_enter Tryd.func19, Tryd.ntmps19
    go_wp2_with fail
    refine HS.out.mono ?_
    rintro e w2 ⟨rfl, b2⟩
    have HB2 := Lib.hid (HB0.out.trans (b2.mono (by simp)))
    clear b2
    go_wp2
    go_ret
    exact ⟨by simp, HB2.out⟩
  · rw [hr] at HS
    have HR := Lib.hid hr
    have hrs : (rightB su.size = true ∧ rightB bo.size = true) ∧ rightPs ps = true := by simpa [rightS] using hr
    obtain ⟨v1, hv1⟩ : ∃ v : ByteArray, writeL su = v.data.toList := ⟨⟨(writeL su).toArray⟩, by simp⟩
    obtain ⟨v2, hv2⟩ : ∃ v : ByteArray, writeL bo = v.data.toList := ⟨⟨(writeL bo).toArray⟩, by simp⟩
    have hw1 := writeL_len su hrs.1.1
    have hw2 := writeL_len bo hrs.1.2
    rw [hv1] at hw1
    rw [hv2] at hw2
    have hn1 : ¬ (9223372036854775807 < 12 + v1.size) := by have : v1.data.toList.length = v1.size := Array.length_toList
                                                            omega
    have hn2 : ¬ (9223372036854775807 < 6 + v2.size) := by have : v2.data.toList.length = v2.size := Array.length_toList
                                                           omega
    have HV1 := Lib.hid hv1
    have HV2 := Lib.hid hv2
    have HC1 := Lib.hid (fun W => write16_is W hsu hv1)
    have HC2 := Lib.hid (fun W => write16_is W hbo hv2)
    clear hw1 hw2 hv1 hv2
    have HRP := Lib.hid hrs.2
    clear hr hrs
    go_enter Tryd.func19, Tryd.ntmps19
    go_wp2_with fail
    refine HS.out.mono ?_
    rintro e w2 ⟨rfl, b2⟩
    have HB2 := Lib.hid (HB0.out.trans (b2.mono (by simp)))
    have Z2 := Lib.hid (HS0.out.below b2 (by simp))
    obtain ⟨q0, q1, q2, _, _, _⟩ := blk3 Z2.out
    have hlt2 := Z2.out.lt
    clear b2
    go_wp2_with fail
    go_region_held3 (fun W => W.cell? ⟨w.heap.size, 0, none⟩ = some (.string su) ∧ W.cell? ⟨w.heap.size, 1, none⟩ = some (.string bo)) (go_keep)
      (first
        | (go_at_call 40; (with_reducible refine (HC1.out _).mono ?_); rintro e w3 ⟨rfl, b3⟩
           have g0 := (b3.cell (p := ⟨w.heap.size, 0, none⟩) hlt2).trans q0
           have g1 := (b3.cell (p := ⟨w.heap.size, 1, none⟩) hlt2).trans q1
           have hlt3 := Nat.lt_of_lt_of_le hlt2 b3.size)
        | (go_at_call 40; (with_reducible refine (HC2.out _).mono ?_); rintro e w4 ⟨rfl, b4⟩
           have g2 := (b4.cell (p := ⟨w.heap.size, 0, none⟩) hlt3).trans g0
           have g3 := (b4.cell (p := ⟨w.heap.size, 1, none⟩) hlt3).trans g1))
    have b3' : Below w2.heap.size w2 w3 := ⟨b3.os, b3.tape, b3.output, b3.size, b3.block⟩
    have HB3 := Lib.hid (HB2.out.trans (b3'.mono HB2.out.size))
    have HB4 := Lib.hid (HB3.out.trans (b4.mono HB3.out.size))
    have Z4 := Lib.hid ((Z2.out.below b3' hlt2).below b4 hlt3)
    have HH := Lib.hid (head_lines (su := su) (bo := bo) HV1.out HV2.out)
    clear b3 b3' b4 g0 g1 g2 g3 q0 q1 q2 hn1 hn2
    obtain ⟨hl, hn, _, _⟩ := HPA.out
    have z4 := Z4.out.lt
    obtain ⟨W0, hW0⟩ : ∃ W0, W0 = w4.alloc (.cells #[.string (⟨#[84, 101, 115, 116, 32, 114, 117, 110, 32, 111, 102, 32]⟩ ++ v1), .string (⟨#[66, 111, 97, 114, 100, 32]⟩ ++ v2)] 9) := ⟨_, rfl⟩
    have Z5 := Lib.hid (show Blk W0 w.heap.size 24 #[.string su, .string bo, .slice A n c] by rw [hW0]; exact Z4.out.alloc _)
    have HB5 := Lib.hid (show Below w.heap.size w W0 by rw [hW0]; exact HB4.out.alloc (by omega) _)
    have HL5 := Lib.hid (show LinesAt W0 (w.heap.size + 1) (.slice (some ⟨w4.heap.size, 0, none⟩) 2 2) [sw ++ wrN (lnB su), bw ++ wrN (lnB bo)] by
      refine ⟨rfl, Or.inr ⟨w4.heap.size, 2, #[.string (⟨#[84, 101, 115, 116, 32, 114, 117, 110, 32, 111, 102, 32]⟩ ++ v1), .string (⟨#[66, 111, 97, 114, 100, 32]⟩ ++ v2)], rfl, by omega, by rw [hW0]; exact heap_alloc_new w4 _, Nat.le_refl 2, by unfold maxLen; omega, rfl, ?_⟩⟩
      exact HH.out)
    rw [← hW0]
    clear hW0
    obtain ⟨q0, q1, q2, _, _, _⟩ := blk3 Z5.out
    go_wp2_with fail
    go_loopw [3, 23] (fun v i wr => ∃ k : Nat, k ≤ n ∧ i = .int .i64 (k : Nat) ∧ LinesAt wr (w.heap.size + 1) v ((sw ++ wrN (lnB su)) :: (bw ++ wrN (lnB bo)) :: partsL wrN ((ps.take k).map ptB)) ∧ Blk wr w.heap.size 24 #[.string su, .string bo, .slice A n c] ∧ Below w.heap.size w wr) (fun _ i _ => n - (intOf i).toNat)
    case atStart => exact ⟨0, Nat.zero_le _, rfl, HL5.out, Z5.out, HB5.out⟩
    case round =>
      obtain ⟨k, hk, rfl, hlines, hz, hbw⟩ := hrel
      have HZ := Lib.hid hz
      have HBW := Lib.hid hbw
      have hsw := hbw.size
      have hzl := hz.lt
      obtain ⟨LS, hLS⟩ : ∃ LS : List Ln, LS = (sw ++ wrN (lnB su)) :: (bw ++ wrN (lnB bo)) :: partsL wrN ((ps.take k).map ptB) := ⟨_, rfl⟩
      rw [← hLS] at hlines
      have HLS := Lib.hid hLS
      have HL := Lib.hid hlines
      clear hLS
      obtain ⟨ao, cap, hv⟩ := hlines.form
      subst hv
      clear hlines hz hbw q0 q1 q2
      by_cases hlt : k < n
      · have hlt' : (k : Int) < (n : Int) := by omega
        have hk0 : (0 : Int) ≤ (k : Int) := by omega
        obtain ⟨_, _, hszs, hc⟩ := HPA.out
        obtain ⟨b, f, rfl, hbl, hcell⟩ := hc (by omega)
        obtain ⟨⟨g, rs⟩, hr⟩ : ∃ r, ps[k]? = some r := ⟨ps[k]'(by omega), List.getElem?_eq_getElem _⟩
        obtain ⟨RA, rn, rc, c1, c2, hres⟩ := hcell k _ hr
        have hbk := HBW.out.block b hbl
        replace c1 := (World.cell?_of_block (a := ⟨b, f + k * 2, none⟩) hbk).trans c1
        replace c2 := (World.cell?_of_block (a := ⟨b, f + k * 2 + 1, none⟩) hbk).trans c2
        have hgs : g.size ≤ maxLen := hszs _ (List.mem_of_getElem? hr)
        have hmem : (g, rs) ∈ ps := List.mem_of_getElem? hr
        have hrp : rightPt (g, rs) = true := List.all_eq_true.1 HRP.out _ hmem
        have hrp' : rightRs rs = true ∧ rightB g.size = true := by simpa [rightPt] using hrp
        obtain ⟨v3, hv3⟩ : ∃ v : ByteArray, writeL g = v.data.toList := ⟨⟨(writeL g).toArray⟩, by simp⟩
        have hw3 := writeL_len g hrp'.2
        rw [hv3] at hw3
        have hn3 : ¬ (9223372036854775807 < 6 + v3.size) := by
          have : v3.data.toList.length = v3.size := Array.length_toList
          omega
        have HC3 := Lib.hid (fun W => write16_is W hgs hv3)
        have HV3 := Lib.hid hv3
        have HR3 := Lib.hid hr
        have HRS := Lib.hid hrp'.1
        have HRES := Lib.hid (hres)
        have hq : IntKind.i64.wrap ((k : Int) + 1) = (k : Int) + 1 := IntWalk.i64_in _ (by omega)
        clear hbk hcell hr hres hc hszs hmem hrp hrp' hw3 hv3
        go_wp2_with fail
        (with_reducible refine (HC3.out _).mono ?_)
        rintro e w5 ⟨rfl, b5⟩
        have hbp : Below w.heap.size w (wr.alloc (.cells #[.string g, .slice RA rn rc] 46)) := HBW.out.alloc hsw _
        have HB6 := Lib.hid (hbp.trans (b5.mono hbp.size))
        have ZP := Lib.hid ((Blk.new wr 46 #[.string g, .slice RA rn rc]).below b5 (by simp))
        have ZS := Lib.hid ((HZ.out.alloc (.cells #[.string g, .slice RA rn rc] 46)).below b5 (by simp; omega))
        have hown5 := LinesAt.below (w := wr.alloc (.cells #[.string g, .slice RA rn rc] 46)) (World.ownsRow.alloc HL.out _) b5
        have hlo := World.ownsRow.lt HL.out
        have hs5 := HB6.out.size
        have hzp := ZP.out.lt
        have hlen : LS.length ≤ 2 + ps.length + (ps.map fun p => p.2.length).sum := by
          have := partsL_short ps k
          rw [HLS.out]; simp only [List.length_cons]; omega
        have hb1 := HB.out
        have hb2 := H1.out
        unfold LinesAt at hown5
        clear b5 hbp
        go_wp2_with (at_builtin; refine wpList_append_own _ rfl _ _ 74 rfl (w.heap.size + 1) 9 i0 (.string ByteArray.empty) 1 16 Tryd.underlying74 hi hz0 hz1 hz2 rfl (by decide) _ _ _ rfl (hown5.alloc _) ⟨w5.heap.size, 0, none⟩ 1 1 [.string (⟨#[103, 114, 111, 117, 112, 32]⟩ ++ v3)] rfl rfl (World.news_of_block (cs := #[.string (⟨#[103, 114, 111, 117, 112, 32]⟩ ++ v3)]) (t := 9) (fr := (0, 0)) (heap_alloc_new w5 _)) (by simp [Value.oneCell']) ?c3 ?c4 ?c5 ?_)
        case c3 => unfold maxLen; omega
        case c4 => omega
        case c5 => simp; omega
        intro v' w6 hown6 hgrow _
        have HB7 := Lib.hid ((HB6.out.alloc (by have := HB6.out.size; omega) _).grown hgrow (by have := HB6.out.size; simp; omega) (fun j hj => by have := (hown5.lt j hj).1; omega))
        have ZS7 := Lib.hid ((ZS.out.alloc _).grown hgrow (fun e => by have := (hown5.lt _ e.symm).1; omega))
        have ZP7 := Lib.hid ((ZP.out.alloc _).grown hgrow (fun e => by have := (hlo _ e.symm).2; omega))
        have HL7 := Lib.hid (show LinesAt w6 (w.heap.size + 1) v' (LS ++ [gw ++ wrN (lnB g)]) from LinesAt.snoc (by rw [grp_line HV3.out]; exact hown6))
        have hs7 := ZS7.out.lt
        clear hgrow hown6 hown5 hlo
        obtain ⟨p0, p1, _, _⟩ := blk2 ZP7.out
        go_wp2_with fail
        go_loopw [3, 37] (fun v i wq => ∃ j : Nat, j ≤ rn ∧ i = .int .i64 (j : Nat) ∧ LinesAt wq (w.heap.size + 1) v (LS ++ [gw ++ wrN (lnB g)] ++ ((rs.take j).map resB).map (resL wrN)) ∧ Blk wq w.heap.size 24 #[.string su, .string bo, .slice (some ⟨b, f, none⟩) n c] ∧ Below w.heap.size w wq) (fun _ i _ => rn - (intOf i).toNat)
        case atStart => exact ⟨0, Nat.zero_le _, rfl, by simpa using HL7.out, ZS7.out, HB7.out⟩
        case round =>
          obtain ⟨j, hj, rfl, hl2, hz2, hb2⟩ := hrel
          have HZ2 := Lib.hid hz2
          have HB8 := Lib.hid hb2
          have hs8 := hb2.size
          have hz8 := hz2.lt
          obtain ⟨L2, hL2⟩ : ∃ L2 : List Ln, L2 = LS ++ [gw ++ wrN (lnB g)] ++ ((rs.take j).map resB).map (resL wrN) := ⟨_, rfl⟩
          rw [← hL2] at hl2
          have HL2 := Lib.hid hL2
          have HR8 := Lib.hid hl2
          have hlen2 : L2.length ≤ LS.length + 1 + j := by rw [hL2]; simp; omega
          clear hL2
          obtain ⟨ao2, cap2, hv2⟩ := hl2.form
          subst hv2
          clear hl2 hz2 hb2
          obtain ⟨hrl, hrn, _, _⟩ := HRES.out
          have hrb : rs.length ≤ 1000000 := by
            have h1 := sum_take ps (k + 1)
            have h2 : rs.length ≤ ((ps.take (k + 1)).map fun p => p.2.length).sum := by
              rw [List.take_add_one, HR3.out]; simp
            omega
          by_cases hjt : j < rn
          · have hjt' : (j : Int) < (rn : Int) := by omega
            have hj0 : (0 : Int) ≤ (j : Int) := by omega
            obtain ⟨_, _, hrsz, hrc⟩ := HRES.out
            obtain ⟨b3, f3, rfl, hb3l, hrcell⟩ := hrc (by omega)
            obtain ⟨⟨nm, x⟩, hr⟩ : ∃ r, rs[j]? = some r := ⟨rs[j]'(by omega), List.getElem?_eq_getElem _⟩
            obtain ⟨d1, d2⟩ := hrcell j _ hr
            have hbk := HB8.out.block b3 hb3l
            replace d1 := (World.cell?_of_block (a := ⟨b3, f3 + j * 2, none⟩) hbk).trans d1
            replace d2 := (World.cell?_of_block (a := ⟨b3, f3 + j * 2 + 1, none⟩) hbk).trans d2
            have hnm : nm.size ≤ maxLen := hrsz _ (List.mem_of_getElem? hr)
            have hr1 : rightR1 (nm, x) = true := List.all_eq_true.1 HRS.out _ (List.mem_of_getElem? hr)
            have hr1' : rightB nm.size = true ∧ rightV x = true := by simpa [rightR1] using hr1
            obtain ⟨vn, hvn⟩ : ∃ v : ByteArray, writeL nm = v.data.toList := ⟨⟨(writeL nm).toArray⟩, by simp⟩
            have hwn := writeL_len nm hr1'.1
            rw [hvn] at hwn
            have hvs : vn.size ≤ 240 := by
              have : vn.data.toList.length = vn.size := Array.length_toList
              omega
            obtain ⟨wv, hwv⟩ : ∃ u, u = wordT x := ⟨_, rfl⟩
            have hws : wv.size ≤ 11 := by rw [hwv]; exact wordT_size x
            have HTX := Lib.hid (fun (W : World) (hW : Below w.heap.size w W) => text_any (HT.out.below hW) x)
            rw [← hwv] at HTX
            have HCN := Lib.hid (fun W => write16_is W hnm hvn)
            have HRL := Lib.hid (res_line hvn hr1'.2 hwv)
            have HE2 := Lib.hid (show LS ++ [gw ++ wrN (lnB g)] ++ ((rs.take (j + 1)).map resB).map (resL wrN) = L2 ++ [resL wrN (resB (nm, x))] by
              rw [HL2.out, List.take_add_one, hr]; simp)
            have hq2 : IntKind.i64.wrap ((j : Int) + 1) = (j : Int) + 1 := IntWalk.i64_in _ (by omega)
            have n1 : ¬ (9223372036854775807 < wv.size + 2) := by omega
            have n2 : ¬ (9223372036854775807 < wv.size + 2 + vn.size) := by omega
            clear hbk hr hrc hrsz hrcell hnm hr1 hr1' hwn hvn hwv
            go_wp2_with fail
            have HBX := Lib.hid (HB8.out.alloc hs8 (.cells #[.string nm, .int .i64 x] 49))
            have HLX := Lib.hid (World.ownsRow.alloc HR8.out (.cells #[.string nm, .int .i64 x] 49))
            have hlo2 := World.ownsRow.lt HR8.out
            have e0 : (wr.alloc (.cells #[.string nm, .int .i64 x] 49)).cell? ⟨wr.heap.size, 0, none⟩ = some (.string nm) := (Blk.new wr 49 #[.string nm, .int .i64 x]).cell 0
            have e1 : (wr.alloc (.cells #[.string nm, .int .i64 x] 49)).cell? ⟨wr.heap.size, 1, none⟩ = some (.int .i64 x) := (Blk.new wr 49 #[.string nm, .int .i64 x]).cell 1
            have hb1 := HB.out
            have hb2 := H1.out
            have hlen : LS.length ≤ 2 + ps.length + (ps.map fun p => p.2.length).sum := by
              have := partsL_short ps k
              rw [HLS.out]; simp only [List.length_cons]; omega
            have hbd : L2.length + 1 ≤ 4000000 := by omega
            clear hrb hlen hlen2
            have HBD := Lib.hid HBX.out.drew
            go_region_held3 (fun W => W.cell? ⟨wr.heap.size, 0, none⟩ = some (.string nm) ∧ W.cell? ⟨wr.heap.size, 1, none⟩ = some (.int .i64 x)) (first | exact ⟨e0, e1⟩ | exact ⟨K9.cell 0, K9.cell 1⟩ | exact ⟨KB.cell 0, KB.cell 1⟩ | exact ⟨(KB.alloc _).cell 0, (KB.alloc _).cell 1⟩)
              (first
                | (go_at_call 41; (with_reducible refine (HTX.out _ HBD.out).mono ?_); rintro e wA ⟨rfl, rfl⟩)
                | (go_at_call 40; (with_reducible refine (HCN.out _).mono ?_); rintro e wB ⟨rfl, bB⟩
                   have KB := ((Blk.new wr 49 #[.string nm, .int .i64 x]).drew).below bB (by simp)
                   have hownB := LinesAt.below (w := wr.alloc (.cells #[.string nm, .int .i64 x] 49)) HLX.out ⟨bB.os, bB.tape, bB.output, bB.size, bB.block⟩
                   unfold LinesAt at hownB
                   have hsB : wr.heap.size + 1 ≤ wB.heap.size := by have := bB.size; simpa using this)
                | (refine step_append_lies _ (by rfl) _ _ _ (by rfl) (w.heap.size + 1) 9 i0 (.string ByteArray.empty) 1 16 Tryd.underlying74 hi hz0 hz1 hz2 rfl (by omega) _ L2.length (L2.map lineV) (by rfl) (hownB.alloc _) ⟨wB.heap.size, 0, none⟩ 1 1 [.string (wv ++ ⟨#[58, 32]⟩ ++ vn)] (by rfl) (by rfl) (World.news_of_block (cs := #[.string (wv ++ ⟨#[58, 32]⟩ ++ vn)]) (t := 9) (fr := (0, 0)) (heap_alloc_new wB _)) (by simp [Value.oneCell']) (by omega) (by unfold maxLen; omega) (by omega) (by simp; omega) (wB.heap.size + 1) (by simp) ?_; intro gg cap' w9 hown9 hgrow hat hlt9
                   have K9 := (KB.alloc (.cells #[.string (wv ++ ⟨#[58, 32]⟩ ++ vn)] 9)).grown hgrow (fun e => by have := (hlo2 _ e.symm).2; omega)))
            have HBB : Below w.heap.size w wB := by
              have b' : Below (wr.heap.size + 1) (wr.alloc (.cells #[.string nm, .int .i64 x] 49)) wB := ⟨bB.os, bB.tape, bB.output, bB.size, fun i hi => bB.block i (by simpa using hi)⟩
              exact HBX.out.trans (b'.mono (by omega))
            have HB9 := Lib.hid ((HBB.alloc (by omega) (.cells #[.string (wv ++ ⟨#[58, 32]⟩ ++ vn)] 9)).grown hgrow (by simp; omega) (fun j hj => by have := (hlo2 _ hj).1; omega))
            have ZB := (HZ2.out.alloc (.cells #[.string nm, .int .i64 x] 49)).below (w' := wB) ⟨bB.os, bB.tape, bB.output, bB.size, bB.block⟩ (by simp; omega)
            have HZ9 := Lib.hid ((ZB.alloc (.cells #[.string (wv ++ ⟨#[58, 32]⟩ ++ vn)] 9)).grown hgrow (fun e => by have := (hlo2 _ e.symm).1; omega))
            have HL9 := Lib.hid (show LinesAt w9 (w.heap.size + 1) (.slice (some ⟨gg, 0, none⟩) (L2.length + 1) cap') (L2 ++ [resL wrN (resB (nm, x))]) from LinesAt.snoc (by rw [HRL.out]; exact hown9))
            clear hgrow hat hown9 K9 KB ZB bB hownB hlo2 e0 e1 n1 n2
            go_wp2
            go_roundw
            case rel => exact ⟨j + 1, by omega, by go_num, by rw [HE2.out]; exact HL9.out, HZ9.out, HB9.out⟩
            case measure => simp [intOf]; omega
          · have hjt' : ¬ (j : Int) < (rn : Int) := by omega
            have htk : rs.take j = rs := List.take_of_length_le (by omega)
            have HE3 := Lib.hid (show (sw ++ wrN (lnB su)) :: (bw ++ wrN (lnB bo)) :: partsL wrN ((ps.take (k + 1)).map ptB) = L2 by
              rw [HL2.out, HLS.out, partsL_snoc ps k g rs HR3.out, htk]
              simp)
            clear htk
            go_wp2
            go_roundw
            case rel => exact ⟨k + 1, by omega, by go_num, by rw [HE3.out]; exact HR8.out, HZ2.out, HB8.out⟩
            case measure => simp [intOf]; omega
      · have hlt' : ¬ (k : Int) < (n : Int) := by omega
        have htk : ps.take k = ps := List.take_of_length_le (by omega)
        rw [htk] at HLS
        clear htk
        obtain ⟨z0, z1, z2, _, _, _⟩ := blk3 HZ.out
        have HTL := Lib.hid (tail_any (w := wr) su bo (c := c) (HPA.out.below HBW.out) (HT.out.below HBW.out) (HP.out.below HBW.out) HB.out HRP.out)
        have hb1 := HB.out
        have hb2 := H1.out
        go_wp2_with fail
        refine HTL.out.mono ?_
        rintro e w8 ⟨v8, rfl, hl8, b8⟩
        obtain ⟨TL, hTL⟩ : ∃ TL : List Ln, TL = tailL dgN (ps.map ptB) := ⟨_, rfl⟩
        rw [← hTL] at hl8
        have ht9 : TL.length ≤ 9 := by rw [hTL]; exact tail_len _
        have ht0 : 0 < TL.length := by rw [hTL, tailL_cntLs]; simp
        obtain ⟨g8, cap8, hv8, hg8, hg8l, hc8, hcell8⟩ := lines_cells hl8 ht0
        have HTLs := Lib.hid hTL
        clear hTL
        subst hv8
        have hown8 := LinesAt.below HL.out b8
        have HB10 := Lib.hid (HBW.out.trans (b8.mono hsw))
        have hs10 := HB10.out.size
        have hlen : LS.length ≤ 2 + ps.length + (ps.map fun p => p.2.length).sum := by
          have := partsL_short ps ps.length
          rw [List.take_of_length_le (Nat.le_refl _)] at this
          rw [HLS.out]; simp only [List.length_cons]; omega
        unfold LinesAt at hown8
        have hs8' := b8.size
        clear hl8 b8
        go_wp2_with (at_builtin; refine wpList_append_own _ rfl _ _ 74 rfl (w.heap.size + 1) 9 i0 (.string ByteArray.empty) 1 16 Tryd.underlying74 hi hz0 hz1 hz2 rfl (by decide) _ _ _ rfl hown8 ⟨g8, 0, none⟩ TL.length cap8 (TL.map lineV) rfl (by simp) (fun j u hu => ?d1) (fun u hu => ?d2) ?d3 ?d4 ?d5 ?_)
        case d1 =>
          have hadd : (⟨g8, 0, none⟩ : Addr).add j = ⟨g8, j, none⟩ := by unfold Addr.add; split <;> simp_all
          rw [hadd]
          rw [List.getElem?_map] at hu
          cases hq : TL[j]? with
          | none => rw [hq] at hu; cases hu
          | some l =>
            rw [hq] at hu
            simp only [Option.map_some, Option.some.injEq] at hu
            rw [hcell8 j l hq, hu]
        case d2 =>
          obtain ⟨l, _, rfl⟩ := List.mem_map.1 hu
          rfl
        case d3 => unfold maxLen; omega
        case d4 => omega
        case d5 => omega
        intro v' w9 hown9 hgrow _
        have HB11 := Lib.hid (HB10.out.grown hgrow (by omega) (fun j hj => by have := (hown8.lt j hj).1; omega))
        obtain ⟨AL, hAL⟩ : ∃ AL : List Ln, AL = LS ++ TL := ⟨_, rfl⟩
        have hl9 : LinesAt w9 (w.heap.size + 1) v' AL := by
          rw [hAL]; unfold LinesAt
          rw [List.length_append, List.map_append]; exact hown9
        have hal : AL.length = LS.length + TL.length := by rw [hAL, List.length_append]
        have hes : AL = sumL wrN dgN (smB su bo ps) := by rw [hAL, HLS.out, HTLs.out]; simp [sumL, smB]
        have hsh := text_short (okS_of HR.out) (by show (ps.map ptB).length ≤ 1000000; rw [List.length_map]; exact hb2) (by
          show ((ps.map ptB).map fun p => p.2.length).sum ≤ 1000000
          rw [List.map_map]
          have : (ps.map ((fun p : Pt => p.2.length) ∘ ptB)) = ps.map fun p => p.2.length := by
            apply List.map_congr_left
            intro p _
            simp [ptB]
          rw [this]; exact hb1)
        unfold textB at hsh
        rw [← hes] at hsh
        have hfl : Lib.join AL [10] ++ [10] = flat AL := by
          match AL, hal with
          | [], h => simp at h; omega
          | x :: r, _ => exact join_flat x r
        have hjl : (Lib.join AL [10]).length + 1 ≤ 140737488355328 := by
          have := congrArg List.length hfl
          simp only [List.length_append, List.length_cons, List.length_nil] at this
          omega
        obtain ⟨g9, cap9, hv9, _, _, _, _⟩ := lines_cells hl9 (by omega)
        subst hv9
        have HJ := Lib.hid (joinLines hl9 (by omega) (by omega) (by omega))
        have HF := Lib.hid (show (⟨(Lib.join AL [10]).toArray⟩ ++ ⟨#[10]⟩ : ByteArray) = ⟨(textB (smB su bo ps)).toArray⟩ by
          rw [show (⟨#[10]⟩ : ByteArray) = ⟨([10] : Ln).toArray⟩ from rfl, str_app, hfl, hes]; rfl)
        obtain ⟨JS, hJS⟩ : ∃ JS : ByteArray, JS = ⟨(Lib.join AL [10]).toArray⟩ := ⟨_, rfl⟩
        have hjs : JS.size = (Lib.join AL [10]).length := by rw [hJS]; exact size_mk _
        rw [← hJS] at HJ HF
        have hn9 : ¬ (9223372036854775807 < JS.size + 1) := by omega
        clear hAL hal hJS hfl hjl hsh hes hown9 hgrow hown8 hcell8 hl9 hjs
        go_wp2_with fail
        with_reducible refine HJ.out.mono ?_
        rintro e w10 ⟨rfl, b10⟩
        have HB12 := Lib.hid (HB11.out.trans (b10.mono HB11.out.size))
        clear b10
        go_wp2
        go_ret
        exact ⟨by rw [HF.out]; simp, HB12.out⟩
end Go.Proofs.YtplenagncmhhoaaDoor
