/- The law's own helpers: first, few, of; the document's Same of equal reports. -/
import Derived.Test.YtplenagncmhhoaaDoorSmR
namespace Go.Proofs.YtplenagncmhhoaaDoor
open Go.RowKit

def firstPs : List PtB := [(⟨#[103]⟩, [(⟨#[116]⟩, 1)])]
theorem firstPs_at {w : World} {rb pb : Nat} (h1 : Blk w rb 49 #[.string ⟨#[116]⟩, .int .i64 1]) (h2 : Blk w pb 46 #[.string ⟨#[103]⟩, .slice (some ⟨rb, 0, none⟩) 1 1]) : PartsAt w (some ⟨pb, 0, none⟩) 1 firstPs := by
  refine ⟨rfl, by omega, fun p hp => ?_, fun _ => ⟨pb, 0, rfl, h2.lt, fun i p hi => ?_⟩⟩
  · simp only [firstPs, List.mem_cons, List.not_mem_nil, or_false] at hp
    subst hp; decide
  · cases i with
    | succ i => simp [firstPs] at hi
    | zero =>
      simp only [firstPs, List.getElem?_cons_zero, Option.some.injEq] at hi
      subst hi
      refine ⟨some ⟨rb, 0, none⟩, 1, 1, h2.cell 0, h2.cell 1, rfl, by omega, fun r hr => ?_, fun _ => ⟨rb, 0, rfl, h1.lt, fun k r hk => ?_⟩⟩
      · simp only [List.mem_cons, List.not_mem_nil, or_false] at hr
        subst hr; decide
      · cases k with
        | succ k => simp at hk
        | zero =>
          simp only [List.getElem?_cons_zero, Option.some.injEq] at hk
          subst hk
          exact ⟨h1.cell 0, h1.cell 1⟩
set_option maxHeartbeats 1000000 in
theorem first_any (w : World) : Calls Tryd.prog 34 #[] w fun e w' => ∃ A, e = .returned (.agg #[.string ⟨#[115]⟩, .string ⟨#[98]⟩, .slice A 1 1]) ∧ PartsAt w' A 1 firstPs ∧ Below w.heap.size w w' := by
  obtain ⟨C0, hC0⟩ : ∃ C : Array Value, C = #[.string ⟨#[115]⟩, .string ⟨#[98]⟩, .slice (some ⟨w.heap.size + 1 + 1, 0, none⟩) 1 1] := ⟨_, rfl⟩
  have B1 := Lib.hid ((((Below.refl w.heap.size w).alloc (Nat.le_refl _) (.cells C0 24)).alloc (by simp) (.cells #[.string ⟨#[116]⟩, .int .i64 1] 49)).alloc (by simp; omega) (.cells #[.string ⟨#[103]⟩, .slice (some ⟨w.heap.size + 1, 0, none⟩) 1 1] 46))
  have Z0 := Lib.hid (((Blk.new w 24 C0).alloc (.cells #[.string ⟨#[116]⟩, .int .i64 1] 49)).alloc (.cells #[.string ⟨#[103]⟩, .slice (some ⟨w.heap.size + 1, 0, none⟩) 1 1] 46))
  have z1 := (Blk.new (w.alloc (.cells C0 24)) 49 #[.string ⟨#[116]⟩, .int .i64 1]).alloc (.cells #[.string ⟨#[103]⟩, .slice (some ⟨w.heap.size + 1, 0, none⟩) 1 1] 46)
  rw [show (w.alloc (.cells C0 24)).heap.size = w.heap.size + 1 by simp] at z1
  have z2 := Blk.new ((w.alloc (.cells C0 24)).alloc (.cells #[.string ⟨#[116]⟩, .int .i64 1] 49)) 46 #[.string ⟨#[103]⟩, .slice (some ⟨w.heap.size + 1, 0, none⟩) 1 1]
  rw [show ((w.alloc (.cells C0 24)).alloc (.cells #[.string ⟨#[116]⟩, .int .i64 1] 49)).heap.size = w.heap.size + 1 + 1 by simp] at z2
  have HP := Lib.hid (firstPs_at z1 z2)
  rw [hC0] at HP B1 Z0
  clear hC0 z1 z2
  go_enter Tryd.func34, Tryd.ntmps34
  go_wp2
  obtain ⟨c0, c1, c2, _, _, _⟩ := blk3 Z0.out
  exact bodyPost_ret (v := .agg #[.string ⟨#[115]⟩, .string ⟨#[98]⟩, .slice (some ⟨w.heap.size + 1 + 1, 0, none⟩) 1 1]) (by simp [results, Tryd.results34, go_sem, c0, c1, c2]) rfl ⟨_, rfl, HP.out, B1.out⟩
def lenSum (ps : List PtB) : Nat := (ps.map fun p => p.2.length).sum
theorem lenSum_take {ps : List PtB} {i : Nat} {p : PtB} (h : ps[i]? = some p) : lenSum (ps.take (i + 1)) = lenSum (ps.take i) + p.2.length := by
  unfold lenSum
  rw [List.take_add_one, h]; simp
set_option maxHeartbeats 2000000 in
set_option maxRecDepth 100000 in
theorem few_any {w : World} (su bo : ByteArray) {A : Option Addr} {n c : Nat} {ps : List PtB} (h : PartsAt w A n ps) :
    Calls Tryd.prog 13 #[.agg #[.string su, .string bo, .slice A n c]] w fun e w' => e = .returned (.bool (decide (ps.length + lenSum ps ≤ 2000))) ∧ Below w.heap.size w w' := by
  obtain ⟨hl, hn, _, hc⟩ := h
  obtain ⟨D, hD⟩ : ∃ D, D = decide (ps.length + lenSum ps ≤ 2000) := ⟨_, rfl⟩
  rw [← hD]
  have HDD := Lib.hid hD
  clear hD
  have HC := Lib.hid hc
  have HB0 := Lib.hid ((Below.refl w.heap.size w).alloc (Nat.le_refl _) (.cells #[.string su, .string bo, .slice A n c] 24))
  have Z0 := Lib.hid (Blk.new w 24 #[.string su, .string bo, .slice A n c])
  obtain ⟨_, _, z2, _, _, _⟩ := blk3 Z0.out
  have hlb : w.heap.size < (w.alloc (.cells #[.string su, .string bo, .slice A n c] 24)).heap.size := by simp
  clear hc
  obtain ⟨W, hW⟩ : ∃ W, W = w.alloc (.cells #[.string su, .string bo, .slice A n c] 24) := ⟨_, rfl⟩
  go_enter Tryd.func13, Tryd.ntmps13
  go_wp2
  rw [← hW]
  rw [← hW] at HB0 Z0 z2 hlb
  clear hW
  go_loopw [3, 4] (fun m i wr => ∃ k : Nat, k ≤ n ∧ i = .int .i64 (k : Nat) ∧ m = .int .i64 ((ps.length + lenSum (ps.take k) : Nat) : Int) ∧ wr = W ∧ (k = 0 ∨ ps.length + lenSum (ps.take (k - 1)) ≤ 2000)) (fun _ i _ => n - (intOf i).toNat)
  case atStart => exact ⟨0, Nat.zero_le _, rfl, by simp [lenSum, hl], rfl, .inl rfl⟩
  case round =>
    obtain ⟨k, hk, rfl, rfl, rfl, hpre⟩ := hrel
    have htot : lenSum (ps.take k) ≤ lenSum ps := sum_take ps k
    obtain ⟨N, hN⟩ : ∃ N, N = ps.length + lenSum (ps.take k) := ⟨_, rfl⟩
    rw [← hN]
    have HN := Lib.hid hN
    clear hN
    by_cases hlt : k < n
    · have hlt' : (k : Int) < (n : Int) := by omega
      have hk0 : (0 : Int) ≤ (k : Int) := by omega
      by_cases hle : N ≤ 2000
      · have hle' : (N : Int) ≤ 2000 := by omega
        obtain ⟨b, f, rfl, hbl, hcell⟩ := HC.out (by omega)
        obtain ⟨⟨g, rs⟩, hr⟩ : ∃ r, ps[k]? = some r := ⟨ps[k]'(by omega), List.getElem?_eq_getElem _⟩
        obtain ⟨RA, rn, rc, c1, c2, hres⟩ := hcell k _ hr
        replace c2 := (World.cell?_of_block (a := ⟨b, f + k * 2 + 1, none⟩) (HB0.out.block b hbl)).trans c2
        have hrl : rs.length = rn := hres.1
        have hrn : rn ≤ 140737488355328 := hres.2.1
        have HS := Lib.hid (lenSum_take hr)
        have hq : IntKind.i64.wrap ((k : Int) + 1) = (k : Int) + 1 := IntWalk.i64_in _ (by omega)
        have hq2 : IntKind.i64.wrap ((N : Int) + (rn : Int)) = (N : Int) + (rn : Int) := IntWalk.i64_in _ (by omega)
        clear hr hcell hres c1 hpre
        go_wp2
        go_roundw
        case rel =>
          refine ⟨k + 1, by omega, by go_num, ?_, by trivial, .inr (by rw [Nat.add_sub_cancel, ← HN.out]; exact hle)⟩
          rw [HS.out, hrl, ← Nat.add_assoc, ← HN.out]
          push_cast; rfl
        case measure => simp [intOf]; omega
      · have hle' : ¬ (N : Int) ≤ 2000 := by omega
        have HD := Lib.hid (show D = false by
          rw [HDD.out]
          have := HN.out
          simp; omega)
        go_wp2
        go_ret
        exact ⟨by rw [HD.out]; rfl, HB0.out⟩
    · have hlt' : ¬ (k : Int) < (n : Int) := by omega
      have htk : ps.take k = ps := List.take_of_length_le (by omega)
      have HD := Lib.hid (show D = decide ((N : Int) ≤ 2000) by
        rw [HDD.out]
        have h := HN.out
        rw [htk] at h
        rw [← h]
        simp; omega)
      clear htk
      go_wp2
      go_ret
      exact ⟨by rw [HD.out]; simp, HB0.out⟩
/-- The cells behind an address. -/
def cellsAt (w : World) (b f : Nat) (m : Nat) : List Value := (List.range m).map fun j => (w.cell? ⟨b, f + j, none⟩).getD undef
theorem cellsAt_len (w : World) (b f m : Nat) : (cellsAt w b f m).length = m := by simp [cellsAt]
theorem cellsAt_two (w : World) (b f i : Nat) {x y : Value} (h1 : w.cell? ⟨b, f + i * 2, none⟩ = some x) (h2 : w.cell? ⟨b, f + i * 2 + 1, none⟩ = some y) : cellsAt w b f ((i + 1) * 2) = cellsAt w b f (i * 2) ++ [x, y] := by
  unfold cellsAt
  rw [show (i + 1) * 2 = i * 2 + 1 + 1 by omega, List.range_succ, List.range_succ]
  simp only [List.map_append, List.map_cons, List.map_nil, List.append_assoc, List.cons_append, List.nil_append]
  rw [h1, show f + (i * 2 + 1) = f + i * 2 + 1 by omega, h2]; rfl
theorem cellsAt_at (w : World) (b f m j : Nat) (h : j < m) {x : Value} (hx : w.cell? ⟨b, f + j, none⟩ = some x) : (cellsAt w b f m)[j]? = some x := by
  unfold cellsAt
  rw [List.getElem?_map, List.getElem?_range h]
  simp [hx]
theorem infPartR : (Tryd.prog.info? 69).map (fun i => (i.zero, i.size, i.bytes)) = some (some (.agg #[.string ByteArray.empty, .slice none 0 0]), 2, 40) := by kernel_rfl
set_option maxHeartbeats 4000000 in
set_option maxRecDepth 100000 in
theorem of_any {w : World} (su bo : ByteArray) {A : Option Addr} {n c : Nat} {ps : List PtB} (h : PartsAt w A n ps) (hn2 : n ≤ 1000000) :
    Calls Tryd.prog 14 #[.agg #[.string su, .string bo, .slice A n c]] w fun e w' => ∃ A' c', e = .returned (.agg #[.string su, .string bo, .slice A' n c']) ∧ PartsAt w' A' n ps ∧ Below w.heap.size w w' := by
  obtain ⟨i0, hi, hz0, hz1, hz2⟩ := info_parts infPartR
  have HH := Lib.hid h
  obtain ⟨hl, hn, hsz, hc⟩ := h
  obtain ⟨b, f, hbf⟩ : ∃ b f, 0 < n → A = some ⟨b, f, none⟩ ∧ b < w.heap.size ∧ ∀ i p, ps[i]? = some p → ∃ RA rn rc, w.cell? ⟨b, f + i * 2, none⟩ = some (.string p.1) ∧ w.cell? ⟨b, f + i * 2 + 1, none⟩ = some (.slice RA rn rc) ∧ ResAt w RA rn p.2 := by
    by_cases h0 : 0 < n
    · obtain ⟨b, f, h1, h2, h3⟩ := hc h0
      exact ⟨b, f, fun _ => ⟨h1, h2, h3⟩⟩
    · exact ⟨0, 0, fun h => absurd h h0⟩
  have HC := Lib.hid hbf
  have HSZ := Lib.hid hsz
  clear hc hsz hbf
  have B0 := Lib.hid ((((Below.refl w.heap.size w).alloc (Nat.le_refl _) (.cells #[.string su, .string bo, .slice A n c] 24)).alloc (by simp) (.cells #[.string ⟨#[]⟩, .string ⟨#[]⟩, .slice none 0 0] 29)).alloc (by simp; omega) (.cells #[.string su, .string bo, .slice none 0 0] 29))
  have Z1 := Lib.hid (show Blk (((w.alloc (.cells #[.string su, .string bo, .slice A n c] 24)).alloc (.cells #[.string ⟨#[]⟩, .string ⟨#[]⟩, .slice none 0 0] 29)).alloc (.cells #[.string su, .string bo, .slice none 0 0] 29)) (w.heap.size + 1) 29 #[.string ⟨#[]⟩, .string ⟨#[]⟩, .slice none 0 0] by
    have h := (Blk.new (w.alloc (.cells #[.string su, .string bo, .slice A n c] 24)) 29 #[.string ⟨#[]⟩, .string ⟨#[]⟩, .slice none 0 0]).alloc (.cells #[.string su, .string bo, .slice none 0 0] 29)
    simpa using h)
  have Z2 := Lib.hid (show Blk (((w.alloc (.cells #[.string su, .string bo, .slice A n c] 24)).alloc (.cells #[.string ⟨#[]⟩, .string ⟨#[]⟩, .slice none 0 0] 29)).alloc (.cells #[.string su, .string bo, .slice none 0 0] 29)) (w.heap.size + 1 + 1) 29 #[.string su, .string bo, .slice none 0 0] by
    have h := Blk.new ((w.alloc (.cells #[.string su, .string bo, .slice A n c] 24)).alloc (.cells #[.string ⟨#[]⟩, .string ⟨#[]⟩, .slice none 0 0] 29)) 29 #[.string su, .string bo, .slice none 0 0]
    simpa using h)
  go_enter Tryd.func14, Tryd.ntmps14
  go_wp2
  go_loopw [14] (fun i wr => ∃ (k : Nat) (v : Value), k ≤ n ∧ i = .int .i64 (k : Nat) ∧ Blk wr (w.heap.size + 1) 29 #[.string ⟨#[]⟩, .string ⟨#[]⟩, .slice none 0 0] ∧ Blk wr (w.heap.size + 1 + 1) 29 #[.string su, .string bo, v] ∧ wr.ownsRow (w.heap.size + 1 + 1 + 1) 69 2 v k (cellsAt w b f (k * 2)) ∧ Below w.heap.size w wr) (fun i _ => n - (intOf i).toNat)
  case atStart => exact ⟨0, .slice none 0 0, Nat.zero_le _, rfl, Z1.out, Z2.out, ⟨rfl, Or.inl ⟨rfl, rfl⟩⟩, B0.out⟩
  case round =>
    obtain ⟨k, v, hk, rfl, hz1', hz2', hown, hbw⟩ := hrel
    obtain ⟨wo, hwo⟩ : ∃ wo, wo = wr := ⟨_, rfl⟩
    subst hwo
    have HZ1 := Lib.hid hz1'
    have HZ2 := Lib.hid hz2'
    have HBW := Lib.hid hbw
    have hsw := hbw.size
    have hzl := hz2'.lt
    obtain ⟨ao, cap, hv⟩ : ∃ ao cap, v = .slice ao k cap := by
      rcases hown.2 with ⟨rfl, h0⟩ | ⟨g, cap, cur, rfl, _⟩
      · exact ⟨none, 0, by rw [h0]⟩
      · exact ⟨_, _, rfl⟩
    subst hv
    have HOWN := Lib.hid hown
    have hlo := World.ownsRow.lt hown
    obtain ⟨z0, z1, z2, f0, f1, f2⟩ := blk3 hz2'
    clear hz1' hz2' hbw
    by_cases hlt : k < n
    · have hlt' : (k : Int) < (n : Int) := by omega
      have hk0 : (0 : Int) ≤ (k : Int) := by omega
      obtain ⟨rfl, hbl, hcell⟩ := HC.out (by omega)
      obtain ⟨⟨g, rs⟩, hr⟩ : ∃ r, ps[k]? = some r := ⟨ps[k]'(by omega), List.getElem?_eq_getElem _⟩
      obtain ⟨RA, rn, rc, c1, c2, hres⟩ := hcell k _ hr
      have HCA := Lib.hid (cellsAt_two w b f k c1 c2)
      have hbk := HBW.out.block b hbl
      replace c1 := (World.cell?_of_block (a := ⟨b, f + k * 2, none⟩) hbk).trans c1
      replace c2 := (World.cell?_of_block (a := ⟨b, f + k * 2 + 1, none⟩) hbk).trans c2
      have hq : IntKind.i64.wrap ((k : Int) + 1) = (k : Int) + 1 := IntWalk.i64_in _ (by omega)
      have hown2 := World.ownsRow.alloc (World.ownsRow.alloc hown (.cells #[.string g, .slice RA rn rc] 46)) (.cells #[.string g, .slice RA rn rc] 69)
      clear hbk hr hcell hres hown
      go_wp2_with (at_builtin; refine wpList_append_own _ rfl _ _ 27 rfl (w.heap.size + 1 + 1 + 1) 69 i0 (.agg #[.string ByteArray.empty, .slice none 0 0]) 2 40 Tryd.underlying27 hi hz0 hz1 hz2 rfl (by decide) _ _ _ rfl hown2 ⟨wo.heap.size + 1, 0, none⟩ 1 1 [.string g, .slice RA rn rc] rfl rfl (World.news_of_block (cs := #[.string g, .slice RA rn rc]) (t := 69) (fr := (0, 0)) (by have h := heap_alloc_new (wo.alloc (.cells #[.string g, .slice RA rn rc] 46)) (.cells #[.string g, .slice RA rn rc] 69); simpa using h)) (by simp [Value.oneCell']) ?c3 ?c4 ?c5 ?_)
      case c3 => unfold maxLen; omega
      case c4 => omega
      case c5 => first | omega | (simp; omega)
      intro v' w6 hown6 hgrow _
      obtain ⟨ao6, cap6, hv6⟩ : ∃ ao cap, v' = .slice ao (k + 1) cap := by
        rcases hown6.2 with ⟨rfl, h0⟩ | ⟨g, cap, cur, rfl, _⟩
        · exact absurd h0 (by omega)
        · exact ⟨_, _, rfl⟩
      subst hv6
      have B6 := Lib.hid (((HBW.out.alloc hsw (.cells #[.string g, .slice RA rn rc] 46)).alloc (by simp; omega) (.cells #[.string g, .slice RA rn rc] 69)).grown hgrow (by simp; omega) (fun j hj => by have := (hlo j hj).1; omega))
      have Z6 := Lib.hid (((HZ2.out.alloc (.cells #[.string g, .slice RA rn rc] 46)).alloc (.cells #[.string g, .slice RA rn rc] 69)).grown hgrow (fun e => by have := (hlo _ e.symm).1; omega))
      have Z7 := Lib.hid (((HZ1.out.alloc (.cells #[.string g, .slice RA rn rc] 46)).alloc (.cells #[.string g, .slice RA rn rc] 69)).grown hgrow (fun e => by have := (hlo _ e.symm).1; omega))
      have HO6 := Lib.hid hown6
      obtain ⟨_, _, y2, _, _, y5⟩ := blk3 Z6.out
      have hzl6 := Z6.out.lt
      have hlo6 := World.ownsRow.lt hown6
      clear hgrow hown6 hown2 hlo z0 z1 z2 f0 f1 f2 c1 c2
      go_wp2
      go_roundw
      case rel =>
        refine ⟨k + 1, .slice ao6 (k + 1) cap6, by omega, by go_num, Z7.out.far (p := ⟨w.heap.size + 1 + 1, 2, none⟩) (by simp) _, Z6.out.set_ 2 _, ?_, B6.out.setCell (p := ⟨w.heap.size + 1 + 1, 2, none⟩) (by simp only; omega) _⟩
        rw [HCA.out]
        exact own_set HO6.out (p := ⟨w.heap.size + 1 + 1, 2, none⟩) (fun e => by have := (hlo6 _ e).1; simp only at this; omega) _
      case measure => simp [intOf]; omega
    · have hlt' : ¬ (k : Int) < (n : Int) := by omega
      have hkn : k = n := by omega
      obtain ⟨x0, x1, x2, y0, y1, y2⟩ := blk3 HZ1.out
      have hzl1 := HZ1.out.lt
      have HPF := Lib.hid (show ∀ W : World, (∀ j, w.heap.size + 1 + 1 + 1 ≤ j → j < wo.heap.size → W.heap[j]? = wo.heap[j]?) → Below w.heap.size w W → PartsAt W ao n ps by
        intro W hW hBW
        have ho := own_agree HOWN.out hW
        refine ⟨hl, hn, HSZ.out, fun h0 => ?_⟩
        obtain ⟨rfl, hbl, hcell⟩ := HC.out h0
        obtain ⟨g, cap', e, _, hg⟩ := World.ownsRow.form ho (by omega)
        injection e with e1 e2 e3
        subst e1 e3
        refine ⟨g, 0, rfl, hg, fun i p hi => ?_⟩
        have hil : i < n := by rw [← hl]; exact (List.getElem?_eq_some_iff.1 hi).1
        obtain ⟨RA, rn, rc, c1, c2, hres⟩ := hcell i p hi
        refine ⟨RA, rn, rc, ?_, ?_, hres.below hBW⟩
        · rw [Nat.zero_add, World.ownsRow.cellAt ho (i * 2) (by omega)]
          exact cellsAt_at w b f (k * 2) (i * 2) (by omega) c1
        · rw [Nat.zero_add, World.ownsRow.cellAt ho (i * 2 + 1) (by omega)]
          exact cellsAt_at w b f (k * 2) (i * 2 + 1) (by omega) (by rw [← Nat.add_assoc]; exact c2))
      subst hkn
      go_wp2
      have Z14 := Blk.set3 (.string su) (.string bo) (.slice ao k cap) HZ1.out
      obtain ⟨d0, d1, d2, _, _, _⟩ := blk3 Z14
      have hBF := (((HBW.out.setCell (p := ⟨w.heap.size + 1, 0, none⟩) (by simp) (.string su)).setCell (p := ⟨w.heap.size + 1, 1, none⟩) (by simp) (.string bo)).setCell (p := ⟨w.heap.size + 1, 2, none⟩) (by simp) (.slice ao k cap))
      refine bodyPost_ret (v := .agg #[.string su, .string bo, .slice ao k cap]) (by simp [results, Tryd.results14, go_sem, d0, d1, d2]) rfl ⟨ao, ⟨cap, rfl⟩, HPF.out _ ?_ hBF, hBF⟩
      intro j hj hjl
      rw [Below.heap_setCell _ ⟨w.heap.size + 1, 2, none⟩ _ j (by simp; omega), Below.heap_setCell _ ⟨w.heap.size + 1, 1, none⟩ _ j (by simp; omega), Below.heap_setCell _ ⟨w.heap.size + 1, 0, none⟩ _ j (by simp; omega)]
end Go.Proofs.YtplenagncmhhoaaDoor
