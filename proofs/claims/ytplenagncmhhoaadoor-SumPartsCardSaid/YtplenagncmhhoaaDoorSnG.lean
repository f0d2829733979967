/- The document's lines of a sum. -/
import Derived.Test.YtplenagncmhhoaaDoorSnD
import Derived.Test.YtplenagncmhhoaaDoorSnF
namespace Go.Proofs.YtplenagncmhhoaaDoor
open Go.RowKit

theorem three {W : World} {p : Nat} {t : TypeId} {a b c : Value} (h : Blk W p t #[a, b, c]) : W.cell? ⟨p, 0, none⟩ = some a ∧ W.cell? ⟨p, 1, none⟩ = some b ∧ W.cell? ⟨p, 2, none⟩ = some c :=
  ⟨h.cell 0, h.cell 1, h.cell 2⟩
set_option maxHeartbeats 8000000 in
set_option maxRecDepth 100000 in
theorem rLines_any {w : World} (su bo : ByteArray) {A : Option Addr} {n c : Nat} {ps : List PtB} (h : PartsAt w A n ps) (hsu : su.size ≤ maxLen) (hbo : bo.size ≤ maxLen) (h1 : ps.length ≤ 1000000) (hb : (ps.map fun p => p.2.length).sum ≤ 1000000) (hr : rightS su bo ps = true) :
    Calls Tryd.prog 44 #[.agg #[.string su, .string bo, .slice A n c]] w fun e w' => ∃ v, e = .returned v ∧ LinesAt w' (w.heap.size + 1) v (sumL wrN dgN (smB su bo ps)) ∧ Below w.heap.size w w' := by
  obtain ⟨i0, hi, hz0, hz1, hz2⟩ := info_parts infS
  have HPA := Lib.hid h
  have HB2 := Lib.hid ((Below.refl w.heap.size w).alloc (Nat.le_refl _) (.cells #[.string su, .string bo, .slice A n c] 29))
  have Z2 := Lib.hid (Blk.new w 29 #[.string su, .string bo, .slice A n c])
  have HB := Lib.hid hb
  have H1 := Lib.hid h1
  have HR := Lib.hid hr
  have hrs : (rightB su.size = true ∧ rightB bo.size = true) ∧ rightPs ps = true := by simpa [rightS] using hr
  obtain ⟨v1, hv1⟩ : ∃ v : ByteArray, writeL su = v.data.toList := ⟨⟨(writeL su).toArray⟩, by simp⟩
  obtain ⟨v2, hv2⟩ : ∃ v : ByteArray, writeL bo = v.data.toList := ⟨⟨(writeL bo).toArray⟩, by simp⟩
  have hw1 := writeL_len su hrs.1.1
  have hw2 := writeL_len bo hrs.1.2
  rw [hv1] at hw1
  rw [hv2] at hw2
  have hn1 : ¬ (9223372036854775807 < 12 + v1.size) := by have : v1.data.toList.length = v1.size := Array.length_toList
                                                          omega
  have hn2 : ¬ (9223372036854775807 < 6 + v2.size) := by have : v2.data.toList.length = v2.size := Array.length_toList
                                                         omega
  have HV1 := Lib.hid hv1
  have HV2 := Lib.hid hv2
  have HC1 := Lib.hid (fun W => write17_is W hsu hv1)
  have HC2 := Lib.hid (fun W => write17_is W hbo hv2)
  have HRP := Lib.hid hrs.2
  clear hw1 hw2 hv1 hv2 h hb h1 hr hrs
  obtain ⟨w2, hW2⟩ : ∃ W, W = w.alloc (.cells #[.string su, .string bo, .slice A n c] 29) := ⟨_, rfl⟩
  go_enter Tryd.func44, Tryd.ntmps44
  go_wp2_with fail
  rw [← hW2]
  rw [← hW2] at HB2 Z2
  clear hW2
  obtain ⟨q0, q1, q2, _, _, _⟩ := blk3 Z2.out
  have hlt2 := Z2.out.lt
  go_region_held3 (fun W => W.cell? ⟨w.heap.size, 0, none⟩ = some (.string su) ∧ W.cell? ⟨w.heap.size, 1, none⟩ = some (.string bo)) (go_keep)
    (first
      | (go_at_call 78; (with_reducible refine (HC1.out _).mono ?_); rintro e w3 ⟨rfl, b3⟩
         have g0 := (b3.cell (p := ⟨w.heap.size, 0, none⟩) hlt2).trans q0
         have g1 := (b3.cell (p := ⟨w.heap.size, 1, none⟩) hlt2).trans q1
         have hlt3 := Nat.lt_of_lt_of_le hlt2 b3.size)
      | (go_at_call 78; (with_reducible refine (HC2.out _).mono ?_); rintro e w4 ⟨rfl, b4⟩
         have g2 := (b4.cell (p := ⟨w.heap.size, 0, none⟩) hlt3).trans g0
         have g3 := (b4.cell (p := ⟨w.heap.size, 1, none⟩) hlt3).trans g1))
  have b3' : Below w2.heap.size w2 w3 := ⟨b3.os, b3.tape, b3.output, b3.size, b3.block⟩
  have HB3 := Lib.hid (HB2.out.trans (b3'.mono HB2.out.size))
  have HB4 := Lib.hid (HB3.out.trans (b4.mono HB3.out.size))
  have Z4 := Lib.hid ((Z2.out.below b3' hlt2).below b4 hlt3)
  have HH := Lib.hid (head_lines (su := su) (bo := bo) HV1.out HV2.out)
  clear b3 b3' b4 g0 g1 g2 g3 q0 q1 q2 hn1 hn2
  obtain ⟨hl, hn, _, _⟩ := HPA.out
  have z4 := Z4.out.lt
  obtain ⟨W0, hW0⟩ : ∃ W0, W0 = w4.alloc (.cells #[.string (⟨#[84, 101, 115, 116, 32, 114, 117, 110, 32, 111, 102, 32]⟩ ++ v1), .string (⟨#[66, 111, 97, 114, 100, 32]⟩ ++ v2)] 9) := ⟨_, rfl⟩
  have Z5 := Lib.hid (show Blk W0 w.heap.size 29 #[.string su, .string bo, .slice A n c] by rw [hW0]; exact Z4.out.alloc _)
  have HB5 := Lib.hid (show Below w.heap.size w W0 by rw [hW0]; exact HB4.out.alloc (by omega) _)
  have HL5 := Lib.hid (show LinesAt W0 (w.heap.size + 1) (.slice (some ⟨w4.heap.size, 0, none⟩) 2 2) [sw ++ wrN (lnB su), bw ++ wrN (lnB bo)] by
    refine ⟨rfl, Or.inr ⟨w4.heap.size, 2, #[.string (⟨#[84, 101, 115, 116, 32, 114, 117, 110, 32, 111, 102, 32]⟩ ++ v1), .string (⟨#[66, 111, 97, 114, 100, 32]⟩ ++ v2)], rfl, by omega, by rw [hW0]; exact heap_alloc_new w4 _, Nat.le_refl 2, by unfold maxLen; omega, rfl, ?_⟩⟩
    exact HH.out)
  rw [← hW0]
  clear hW0
  obtain ⟨q0, q1, q2, _, _, _⟩ := blk3 Z5.out
  go_wp2_with fail
  go_loopw [3, 4] (fun v i wr => ∃ k : Nat, k ≤ n ∧ i = .int .i64 (k : Nat) ∧ LinesAt wr (w.heap.size + 1) v ((sw ++ wrN (lnB su)) :: (bw ++ wrN (lnB bo)) :: partsL wrN ((ps.take k).map ptB)) ∧ Blk wr w.heap.size 29 #[.string su, .string bo, .slice A n c] ∧ Below w.heap.size w wr) (fun _ i _ => n - (intOf i).toNat)
  case atStart => exact ⟨0, Nat.zero_le _, rfl, HL5.out, Z5.out, HB5.out⟩
  case round =>
    obtain ⟨k, hk, rfl, hlines, hz, hbw⟩ := hrel
    have HZ := Lib.hid hz
    have HBW := Lib.hid hbw
    have hsw := hbw.size
    have hzl := hz.lt
    obtain ⟨z0, z1, z2, _, _, _⟩ := blk3 hz
    obtain ⟨LS, hLS⟩ : ∃ LS : List Ln, LS = (sw ++ wrN (lnB su)) :: (bw ++ wrN (lnB bo)) :: partsL wrN ((ps.take k).map ptB) := ⟨_, rfl⟩
    rw [← hLS] at hlines
    have HLS := Lib.hid hLS
    have HL := Lib.hid hlines
    clear hLS
    obtain ⟨ao, cap, hv⟩ := hlines.form
    subst hv
    clear hlines hz hbw q0 q1 q2
    by_cases hlt : k < n
    · have hlt' : (k : Int) < (n : Int) := by omega
      have hk0 : (0 : Int) ≤ (k : Int) := by omega
      obtain ⟨_, _, hszs, hc⟩ := HPA.out
      obtain ⟨b, f, rfl, hbl, hcell⟩ := hc (by omega)
      obtain ⟨⟨g, rs⟩, hr⟩ : ∃ r, ps[k]? = some r := ⟨ps[k]'(by omega), List.getElem?_eq_getElem _⟩
      obtain ⟨RA, rn, rc, c1, c2, hres⟩ := hcell k _ hr
      have C2 := Lib.hid c2
      have hbk := HBW.out.block b hbl
      replace c1 := (World.cell?_of_block (a := ⟨b, f + k * 2, none⟩) hbk).trans c1
      clear c2
      have hgs : g.size ≤ maxLen := hszs _ (List.mem_of_getElem? hr)
      have hmem : (g, rs) ∈ ps := List.mem_of_getElem? hr
      have hrp : rightPt (g, rs) = true := List.all_eq_true.1 HRP.out _ hmem
      have hrp' : rightRs rs = true ∧ rightB g.size = true := by simpa [rightPt] using hrp
      obtain ⟨v3, hv3⟩ : ∃ v : ByteArray, writeL g = v.data.toList := ⟨⟨(writeL g).toArray⟩, by simp⟩
      have hw3 := writeL_len g hrp'.2
      rw [hv3] at hw3
      have hn3 : ¬ (9223372036854775807 < 6 + v3.size) := by
        have : v3.data.toList.length = v3.size := Array.length_toList
        omega
      have HC3 := Lib.hid (fun W => write17_is W hgs hv3)
      have HV3 := Lib.hid hv3
      have HR3 := Lib.hid hr
      have HRS := Lib.hid hrp'.1
      have HRES := Lib.hid hres
      have hq : IntKind.i64.wrap ((k : Int) + 1) = (k : Int) + 1 := IntWalk.i64_in _ (by omega)
      clear hbk hcell hr hres hc hszs hmem hrp hrp' hw3 hv3
      go_wp2_with fail
      (with_reducible refine (HC3.out _).mono ?_)
      rintro e w5 ⟨rfl, b5⟩
      have HB6 := Lib.hid (HBW.out.trans (b5.mono hsw))
      have ZS := Lib.hid (HZ.out.below b5 hzl)
      have hown5 := LinesAt.below HL.out b5
      have hs5 := HB6.out.size
      have hlen : LS.length ≤ 2 + ps.length + (ps.map fun p => p.2.length).sum := by
        have := partsL_short ps k
        rw [HLS.out]; simp only [List.length_cons]; omega
      have hb1 := HB.out
      have hb2 := H1.out
      unfold LinesAt at hown5
      have hs55 := b5.size
      clear b5
      go_wp2_with (at_builtin; refine wpList_append_own _ rfl _ _ 74 rfl (w.heap.size + 1) 9 i0 (.string ByteArray.empty) 1 16 Tryd.underlying74 hi hz0 hz1 hz2 rfl (by decide) _ _ _ rfl (hown5.alloc _) ⟨w5.heap.size, 0, none⟩ 1 1 [.string (⟨#[103, 114, 111, 117, 112, 32]⟩ ++ v3)] rfl rfl (World.news_of_block (cs := #[.string (⟨#[103, 114, 111, 117, 112, 32]⟩ ++ v3)]) (t := 9) (fr := (0, 0)) (heap_alloc_new w5 _)) (by simp [Value.oneCell']) ?c3 ?c4 ?c5 ?_)
      case c3 => unfold maxLen; omega
      case c4 => omega
      case c5 => first | omega | (simp; omega)
      intro v' w6 hown6 hgrow _
      have HB7 := Lib.hid ((HB6.out.alloc (by have := HB6.out.size; omega) _).grown hgrow (by have := HB6.out.size; simp; omega) (fun j hj => by have := (hown5.lt j hj).1; omega))
      have ZS7 := Lib.hid ((ZS.out.alloc _).grown hgrow (fun e => by have := (hown5.lt _ e.symm).1; omega))
      have HL7 := Lib.hid (show LinesAt w6 (w.heap.size + 1) v' (LS ++ [gw ++ wrN (lnB g)]) from LinesAt.snoc (by rw [grp_line HV3.out]; exact hown6))
      have hs7 := ZS7.out.lt
      clear hgrow hown6 hown5 z0 z1 z2 c1
      go_wp2_with fail
      go_loopw [3, 5] (fun v i wq => ∃ j : Nat, j ≤ rn ∧ i = .int .i64 (j : Nat) ∧ LinesAt wq (w.heap.size + 1) v (LS ++ [gw ++ wrN (lnB g)] ++ ((rs.take j).map resB).map (resL wrN)) ∧ Blk wq w.heap.size 29 #[.string su, .string bo, .slice (some ⟨b, f, none⟩) n c] ∧ Below w.heap.size w wq) (fun _ i _ => rn - (intOf i).toNat)
      case atStart => exact ⟨0, Nat.zero_le _, rfl, by simpa using HL7.out, ZS7.out, HB7.out⟩
      case round =>
        obtain ⟨j, hj, rfl, hl2, hz2, hb2⟩ := hrel
        have HZ2 := Lib.hid hz2
        have HB8 := Lib.hid hb2
        have hs8 := hb2.size
        have hz8 := hz2.lt
        obtain ⟨L2, hL2⟩ : ∃ L2 : List Ln, L2 = LS ++ [gw ++ wrN (lnB g)] ++ ((rs.take j).map resB).map (resL wrN) := ⟨_, rfl⟩
        rw [← hL2] at hl2
        have HL2 := Lib.hid hL2
        have HR8 := Lib.hid hl2
        have hlen2 : L2.length ≤ LS.length + 1 + j := by rw [hL2]; simp; omega
        clear hL2
        obtain ⟨ao2, cap2, hv2⟩ := hl2.form
        subst hv2
        obtain ⟨y0, y1, y2, _, _, _⟩ := blk3 hz2
        have c2 := (World.cell?_of_block (a := ⟨b, f + k * 2 + 1, none⟩) (HB8.out.block b hbl)).trans C2.out
        clear hl2 hz2 hb2
        obtain ⟨hrl, hrn, _, _⟩ := HRES.out
        have hrb : rs.length ≤ 1000000 := by
          have h1 := sum_take ps (k + 1)
          have h2 : rs.length ≤ ((ps.take (k + 1)).map fun p => p.2.length).sum := by
            rw [List.take_add_one, HR3.out]; simp
          omega
        by_cases hjt : j < rn
        · have hjt' : (j : Int) < (rn : Int) := by omega
          have hj0 : (0 : Int) ≤ (j : Int) := by omega
          obtain ⟨_, _, hrsz, hrc⟩ := HRES.out
          obtain ⟨b3, f3, rfl, hb3l, hrcell⟩ := hrc (by omega)
          obtain ⟨⟨nm, x⟩, hr⟩ : ∃ r, rs[j]? = some r := ⟨rs[j]'(by omega), List.getElem?_eq_getElem _⟩
          obtain ⟨d1, d2⟩ := hrcell j _ hr
          have hbk := HB8.out.block b3 hb3l
          replace d1 := (World.cell?_of_block (a := ⟨b3, f3 + j * 2, none⟩) hbk).trans d1
          replace d2 := (World.cell?_of_block (a := ⟨b3, f3 + j * 2 + 1, none⟩) hbk).trans d2
          have hnm : nm.size ≤ maxLen := hrsz _ (List.mem_of_getElem? hr)
          have hr1 : rightR1 (nm, x) = true := List.all_eq_true.1 HRS.out _ (List.mem_of_getElem? hr)
          have hr1' : rightB nm.size = true ∧ rightV x = true := by simpa [rightR1] using hr1
          obtain ⟨vn, hvn⟩ : ∃ v : ByteArray, writeL nm = v.data.toList := ⟨⟨(writeL nm).toArray⟩, by simp⟩
          have hwn := writeL_len nm hr1'.1
          rw [hvn] at hwn
          have hvs : vn.size ≤ 240 := by
            have : vn.data.toList.length = vn.size := Array.length_toList
            omega
          obtain ⟨wv, hwv⟩ : ∃ u, u = wordT x := ⟨_, rfl⟩
          have hws : wv.size ≤ 11 := by rw [hwv]; exact wordT_size x
          have HTX := Lib.hid (fun (W : World) => rtext_any x W)
          rw [← hwv] at HTX
          have HCN := Lib.hid (fun W => write17_is W hnm hvn)
          have HRL := Lib.hid (res_line hvn hr1'.2 hwv)
          have HE2 := Lib.hid (show LS ++ [gw ++ wrN (lnB g)] ++ ((rs.take (j + 1)).map resB).map (resL wrN) = L2 ++ [resL wrN (resB (nm, x))] by
            rw [HL2.out, List.take_add_one, hr]; simp)
          have hq2 : IntKind.i64.wrap ((j : Int) + 1) = (j : Int) + 1 := IntWalk.i64_in _ (by omega)
          have n1 : ¬ (9223372036854775807 < wv.size + 2) := by omega
          have n2 : ¬ (9223372036854775807 < wv.size + 2 + vn.size) := by omega
          clear hbk hr hrc hrsz hrcell hnm hr1 hr1' hwn hvn hwv
          go_wp2_with fail
          have HBX := Lib.hid (HB8.out.alloc hs8 (.cells #[.string nm, .int .i64 x] 49))
          have HLX := Lib.hid (World.ownsRow.alloc HR8.out (.cells #[.string nm, .int .i64 x] 49))
          have hlo2 := World.ownsRow.lt HR8.out
          have e0 : (wr.alloc (.cells #[.string nm, .int .i64 x] 49)).cell? ⟨wr.heap.size, 0, none⟩ = some (.string nm) := (Blk.new wr 49 #[.string nm, .int .i64 x]).cell 0
          have e1 : (wr.alloc (.cells #[.string nm, .int .i64 x] 49)).cell? ⟨wr.heap.size, 1, none⟩ = some (.int .i64 x) := (Blk.new wr 49 #[.string nm, .int .i64 x]).cell 1
          have hb1 := HB.out
          have hb2 := H1.out
          have hlen : LS.length ≤ 2 + ps.length + (ps.map fun p => p.2.length).sum := by
            have := partsL_short ps k
            rw [HLS.out]; simp only [List.length_cons]; omega
          have hbd : L2.length + 1 ≤ 4000000 := by omega
          clear hrb hlen hlen2
          have HBD := Lib.hid HBX.out.drew
          go_region_held3 (fun W => W.cell? ⟨wr.heap.size, 0, none⟩ = some (.string nm) ∧ W.cell? ⟨wr.heap.size, 1, none⟩ = some (.int .i64 x)) (first | exact ⟨e0, e1⟩ | exact ⟨K9.cell 0, K9.cell 1⟩ | exact ⟨KB.cell 0, KB.cell 1⟩ | exact ⟨(KB.alloc _).cell 0, (KB.alloc _).cell 1⟩)
            (first
              | (go_at_call 79; (with_reducible refine (HTX.out _).mono ?_); rintro e wA ⟨rfl, rfl⟩)
              | (go_at_call 78; (with_reducible refine (HCN.out _).mono ?_); rintro e wB ⟨rfl, bB⟩
                 have KB := ((Blk.new wr 49 #[.string nm, .int .i64 x]).drew).below bB (by simp)
                 have hownB := LinesAt.below (w := wr.alloc (.cells #[.string nm, .int .i64 x] 49)) HLX.out ⟨bB.os, bB.tape, bB.output, bB.size, bB.block⟩
                 unfold LinesAt at hownB
                 have hsB : wr.heap.size + 1 ≤ wB.heap.size := by have := bB.size; simpa using this)
              | (refine step_append_lies _ (by rfl) _ _ _ (by rfl) (w.heap.size + 1) 9 i0 (.string ByteArray.empty) 1 16 Tryd.underlying74 hi hz0 hz1 hz2 rfl (by omega) _ L2.length (L2.map lineV) (by rfl) (hownB.alloc _) ⟨wB.heap.size, 0, none⟩ 1 1 [.string (wv ++ ⟨#[58, 32]⟩ ++ vn)] (by rfl) (by rfl) (World.news_of_block (cs := #[.string (wv ++ ⟨#[58, 32]⟩ ++ vn)]) (t := 9) (fr := (0, 0)) (heap_alloc_new wB _)) (by simp [Value.oneCell']) (by omega) (by unfold maxLen; omega) (by omega) (by simp; omega) (wB.heap.size + 1) (by simp) ?_; intro gg cap' w9 hown9 hgrow hat hlt9
                 have K9 := (KB.alloc (.cells #[.string (wv ++ ⟨#[58, 32]⟩ ++ vn)] 9)).grown hgrow (fun e => by have := (hlo2 _ e.symm).2; omega)))
          have HBB : Below w.heap.size w wB := by
            have b' : Below (wr.heap.size + 1) (wr.alloc (.cells #[.string nm, .int .i64 x] 49)) wB := ⟨bB.os, bB.tape, bB.output, bB.size, fun i hi => bB.block i (by simpa using hi)⟩
            exact HBX.out.trans (b'.mono (by omega))
          have HB9 := Lib.hid ((HBB.alloc (by omega) (.cells #[.string (wv ++ ⟨#[58, 32]⟩ ++ vn)] 9)).grown hgrow (by simp; omega) (fun j hj => by have := (hlo2 _ hj).1; omega))
          have ZB := (HZ2.out.alloc (.cells #[.string nm, .int .i64 x] 49)).below (w' := wB) ⟨bB.os, bB.tape, bB.output, bB.size, bB.block⟩ (by simp; omega)
          have HZ9 := Lib.hid ((ZB.alloc (.cells #[.string (wv ++ ⟨#[58, 32]⟩ ++ vn)] 9)).grown hgrow (fun e => by have := (hlo2 _ e.symm).1; omega))
          have HL9 := Lib.hid (show LinesAt w9 (w.heap.size + 1) (.slice (some ⟨gg, 0, none⟩) (L2.length + 1) cap') (L2 ++ [resL wrN (resB (nm, x))]) from LinesAt.snoc (by rw [HRL.out]; exact hown9))
          clear hgrow hat hown9 K9 KB ZB bB hownB hlo2 e0 e1 n1 n2
          go_wp2
          go_roundw
          case rel => exact ⟨j + 1, by omega, by go_num, by rw [HE2.out]; exact HL9.out, HZ9.out, HB9.out⟩
          case measure => simp [intOf]; omega
        · have hjt' : ¬ (j : Int) < (rn : Int) := by omega
          have htk : rs.take j = rs := List.take_of_length_le (by omega)
          have HE3 := Lib.hid (show (sw ++ wrN (lnB su)) :: (bw ++ wrN (lnB bo)) :: partsL wrN ((ps.take (k + 1)).map ptB) = L2 by
            rw [HL2.out, HLS.out, partsL_snoc ps k g rs HR3.out, htk]
            simp)
          clear htk
          go_wp2
          go_roundw
          case rel => exact ⟨k + 1, by omega, by go_num, by rw [HE3.out]; exact HR8.out, HZ2.out, HB8.out⟩
          case measure => simp [intOf]; omega
    · have hlt' : ¬ (k : Int) < (n : Int) := by omega
      have htk : ps.take k = ps := List.take_of_length_le (by omega)
      rw [htk] at HLS
      clear htk
      have hlen : LS.length ≤ 2 + ps.length + (ps.map fun p => p.2.length).sum := by
        have := partsL_short ps ps.length
        rw [List.take_of_length_le (Nat.le_refl _)] at this
        rw [HLS.out]; simp only [List.length_cons]; omega
      have hb1 := HB.out
      have hb2 := H1.out
      have hlen2 : LS.length ≤ 2000002 := by omega
      clear hlen hb1 hb2
      go_wp2
      go_loopw [3, 7] (fun v i wq => ∃ j : Nat, 1 ≤ j ∧ j ≤ 8 ∧ i = .int .i64 (j : Nat) ∧ LinesAt wq (w.heap.size + 1) v (LS ++ cntLs (ps.map ptB) j) ∧ Blk wq w.heap.size 29 #[.string su, .string bo, .slice A n c] ∧ Below w.heap.size w wq) (fun _ i _ => 8 - (intOf i).toNat)
      case atStart => exact ⟨1, Nat.le_refl _, by omega, rfl, by simpa [cntLs] using HL.out, HZ.out, HBW.out⟩
      case round =>
        obtain ⟨j, hj1, hj8, rfl, hl2, hz2, hbq⟩ := hrel
        have HZ2 := Lib.hid hz2
        have HB8 := Lib.hid hbq
        have hs8 := hbq.size
        have hz8 := hz2.lt
        obtain ⟨L2, hL2⟩ : ∃ L2 : List Ln, L2 = LS ++ cntLs (ps.map ptB) j := ⟨_, rfl⟩
        rw [← hL2] at hl2
        have HL2 := Lib.hid hL2
        have HR8 := Lib.hid hl2
        have hlL : L2.length ≤ 2000010 := by
          have := cntLs_len (ps.map ptB) j
          rw [hL2, List.length_append]; omega
        clear hL2
        obtain ⟨ao2, cap2, hv2⟩ := hl2.form
        subst hv2
        obtain ⟨y0, y1, y2, _, _, _⟩ := blk3 hz2
        clear hl2 hz2 hbq z0 z1 z2
        by_cases hjt : j ≤ 7
        · have hjt' : (j : Int) ≤ 7 := by omega
          have HTO := Lib.hid (rTotal_any (c := c) su bo (j : Nat) (HPA.out.below HB8.out) HB.out)
          have HTO2 := Lib.hid (fun (W : World) (hW : Below w.heap.size w W) => rTotal_any (c := c) su bo (j : Nat) (HPA.out.below hW) HB.out)
          have hbd : totV ps (j : Nat) ≤ 1000000 := Nat.le_trans (totV_le ps _) HB.out
          have HC := Lib.hid (totV_cnt j hj1 hjt ps)
          have HW := Lib.hid (show wordT (j : Nat) = ⟨(wd j).toArray⟩ by
            have := wordT_wd (j : Nat) (by simp [rightV]; omega)
            rw [Int.toNat_natCast] at this
            rw [← this]; rfl)
          generalize totV ps (j : Nat) = T at HTO HTO2 hbd HC
          have hq2 : IntKind.i64.wrap ((j : Int) + 1) = (j : Int) + 1 := IntWalk.i64_in _ (by omega)
          have hj0 : ¬ j = 0 := by omega
          go_wp2_with fail
          (with_reducible refine HTO.out.mono ?_)
          rintro e w3 ⟨rfl, b3⟩
          have HB9 := Lib.hid (HB8.out.trans (b3.mono hs8))
          have HZ9 := Lib.hid (HZ2.out.below b3 hz8)
          have HR9 := Lib.hid (LinesAt.below HR8.out b3)
          have hs9 := HB9.out.size
          have hz9 := HZ9.out.lt
          clear b3 y0 y1 y2
          by_cases h0 : T = 0
          · subst h0
            have HE := Lib.hid (show LS ++ cntLs (ps.map ptB) (j + 1) = L2 by
              rw [HL2.out]
              simp only [cntLs, if_neg hj0, cntV]
              rw [← HC.out]; simp)
            go_wp2
            go_roundw
            case rel => exact ⟨j + 1, by omega, by omega, by go_num, by rw [HE.out]; exact HR9.out, HZ9.out, HB9.out⟩
            case measure => simp [intOf]; omega
          · have hpos : (0 : Int) < (T : Int) := by omega
            have HE := Lib.hid (show LS ++ cntLs (ps.map ptB) (j + 1) = L2 ++ [35 :: 32 :: (wd j ++ 32 :: dgN T)] by
              rw [HL2.out]
              simp only [cntLs, if_neg hj0, cntV]
              rw [← HC.out, if_neg h0, List.append_assoc])
            have HTX := Lib.hid (fun (W : World) => rtext_any (j : Nat) W)
            have HDE := Lib.hid (fun (W : World) => rDec_any T W hbd)
            rw [HW.out] at HTX
            obtain ⟨WV, hWV⟩ : ∃ u : ByteArray, u = ⟨(wd j).toArray⟩ := ⟨_, rfl⟩
            obtain ⟨DG, hDG⟩ : ∃ u : ByteArray, u = ⟨(dgN T).toArray⟩ := ⟨_, rfl⟩
            have HLN := Lib.hid (show (⟨#[35, 32]⟩ ++ WV ++ ⟨#[32]⟩ ++ DG : ByteArray) = ⟨(35 :: 32 :: (wd j ++ 32 :: dgN T)).toArray⟩ by
              rw [hWV, hDG]; exact line_str j T)
            have hwl : WV.size ≤ 11 := by rw [hWV, size_mk]; exact wd_len j
            have hdl : DG.size ≤ 1000001 := by
              have := dg_len T T (Nat.le_refl _)
              rw [hDG, size_mk]; omega
            rw [← hWV] at HTX
            rw [← hDG] at HDE
            clear hWV hDG h0
            have n1 : ¬ (9223372036854775807 < 2 + WV.size) := by omega
            have n2 : ¬ (9223372036854775807 < 2 + WV.size + 1) := by omega
            have n3 : ¬ (9223372036854775807 < 2 + WV.size + 1 + DG.size) := by omega
            have HBD := Lib.hid HB9.out.drew
            have hlo2 := World.ownsRow.lt HR9.out
            have three9 := three HZ9.out
            go_wp2_with fail
            go_region_held3 (fun W => W.cell? ⟨w.heap.size, 0, none⟩ = some (.string su) ∧ W.cell? ⟨w.heap.size, 1, none⟩ = some (.string bo) ∧ W.cell? ⟨w.heap.size, 2, none⟩ = some (.slice A n c)) (first | exact three9 | exact three K9 | exact three KB | exact three (KB.alloc _) | exact three KA)
              (first
                | (go_at_call 79; (with_reducible refine (HTX.out _).mono ?_); rintro e wT ⟨rfl, rfl⟩)
                | (go_at_call 16; (with_reducible refine (HTO2.out _ HBD.out).mono ?_); rintro e wA ⟨rfl, bA⟩
                   have KA := (HZ9.out.drew).below bA (by simp; omega))
                | (go_at_call 80; (with_reducible refine (HDE.out _).mono ?_); rintro e wB ⟨rfl, bB⟩
                   have KB := KA.below bB KA.lt
                   have bA' : Below w3.heap.size w3 wA := ⟨bA.os, bA.tape, bA.output, bA.size, bA.block⟩
                   have hownB := LinesAt.below (LinesAt.below HR9.out bA') bB
                   unfold LinesAt at hownB
                   have hsB : w3.heap.size ≤ wB.heap.size := Nat.le_trans bA'.size bB.size)
                | (refine step_append_lies _ (by rfl) _ _ _ (by rfl) (w.heap.size + 1) 9 i0 (.string ByteArray.empty) 1 16 Tryd.underlying74 hi hz0 hz1 hz2 rfl (by omega) _ L2.length (L2.map lineV) (by rfl) (hownB.alloc _) ⟨wB.heap.size, 0, none⟩ 1 1 [.string (⟨#[35, 32]⟩ ++ WV ++ ⟨#[32]⟩ ++ DG)] (by rfl) (by rfl) (World.news_of_block (cs := #[.string (⟨#[35, 32]⟩ ++ WV ++ ⟨#[32]⟩ ++ DG)]) (t := 9) (fr := (0, 0)) (heap_alloc_new wB _)) (by simp [Value.oneCell']) (by omega) (by unfold maxLen; omega) (by omega) (by simp; omega) (wB.heap.size + 1) (by simp) ?_; intro gg cap' w9 hown9 hgrow hat hlt9
                   have K9 := (KB.alloc (.cells #[.string (⟨#[35, 32]⟩ ++ WV ++ ⟨#[32]⟩ ++ DG)] 9)).grown hgrow (fun e => by have := (hlo2 _ e.symm).1; omega)))
            have HBA : Below w.heap.size w wA := HB9.out.trans ((show Below w3.heap.size w3 wA from ⟨bA.os, bA.tape, bA.output, bA.size, bA.block⟩).mono hs9)
            have HBB : Below w.heap.size w wB := HBA.trans (bB.mono HBA.size)
            have HB10 := Lib.hid ((HBB.alloc (by omega) (.cells #[.string (⟨#[35, 32]⟩ ++ WV ++ ⟨#[32]⟩ ++ DG)] 9)).grown hgrow (by simp; omega) (fun j hj => by have := (hlo2 _ hj).1; omega))
            have HZ10 := Lib.hid K9
            have HL10 := Lib.hid (show LinesAt w9 (w.heap.size + 1) (.slice (some ⟨gg, 0, none⟩) (L2.length + 1) cap') (L2 ++ [35 :: 32 :: (wd j ++ 32 :: dgN T)]) from LinesAt.snoc (by unfold lineV; rw [← HLN.out]; exact hown9))
            clear hgrow hat hown9 K9 KB KA bA bB hownB hlo2 n1 n2 n3
            go_wp2
            go_roundw
            case rel => exact ⟨j + 1, by omega, by omega, by go_num, by rw [HE.out]; exact HL10.out, HZ10.out, HB10.out⟩
            case measure => simp [intOf]; omega
        · have hjt' : ¬ (j : Int) ≤ 7 := by omega
          obtain rfl : j = 8 := by omega
          have HE := Lib.hid (show sumL wrN dgN (smB su bo ps) = L2 ++ [endW] by
            have h := tailL_cntLs (ps.map ptB)
            rw [HL2.out, HLS.out]
            simp [sumL, smB, h])
          have hown := HR8.out
          unfold LinesAt at hown
          go_wp2_with (at_builtin; refine wpList_append_own _ rfl _ _ 74 rfl (w.heap.size + 1) 9 i0 (.string ByteArray.empty) 1 16 Tryd.underlying74 hi hz0 hz1 hz2 rfl (by decide) _ _ _ rfl (hown.alloc _) ⟨wr.heap.size, 0, none⟩ 1 1 [.string ⟨#[35, 32, 101, 110, 100]⟩] rfl rfl (World.news_of_block (cs := #[.string ⟨#[35, 32, 101, 110, 100]⟩]) (t := 9) (fr := (0, 0)) (heap_alloc_new wr _)) (by simp [Value.oneCell']) (by unfold maxLen; omega) (by omega) (by simp; omega) ?_)
          intro v' w5 hown5 hgrow _
          go_wp2
          refine bodyPost_ret (v := v') (by simp [results, Tryd.results44, go_sem]) rfl ⟨v', rfl, ?_, (HB8.out.alloc hs8 _).grown hgrow (by simp; omega) (fun j hj => by have := (hown.lt j hj).1; omega)⟩
          rw [HE.out]
          exact LinesAt.snoc (l := endW) hown5
end Go.Proofs.YtplenagncmhhoaaDoor
