/- CondNames' walk. -/
import Derived.Test.YtfgblmdmhgllgaaDa
import Derived.Test.YtfgblmdmhgllgaaDk
import Derived.Test.YtfgblmdmhgllgaaCx
namespace Go.Proofs.Ytfgblmdmhgllgaa
open Go.RowKit Go.Maps

theorem name_of {t : CT} (h : rightT 20 t = true) {l : List UInt8} (hl : l ∈ namesL t) : asksT ⟨l.toArray⟩ 20 t = true := by
  obtain ⟨n, hn, e⟩ := (namesL_mem h l).1 hl
  refine (asks_iff _ 20 t h).2 ?_
  have : (⟨l.toArray⟩ : ByteArray) = n := by rw [← e]
  rw [this]; exact hn
theorem less_before : ∀ x y : List UInt8, Op.bytesLess x y = bytesBefore x y
  | [], [] => rfl
  | [], _ :: _ => rfl
  | _ :: _, [] => rfl
  | a :: x, b :: y => by simp only [Op.bytesLess, bytesBefore, less_before x y]
theorem names_less {t : CT} {i j : Nat} (hij : i < j) (hj : j < (namesL t).length) : Op.bytesLess ((namesL t)[i]'(by omega)) ((namesL t)[j]) = true := by
  rw [less_before]
  exact List.pairwise_iff_getElem.1 (namesL_rise t) i j (by omega) hj hij
theorem any_take_eq {l : List (List UInt8)} {y : Nat} {cur : List UInt8} (hy : y < l.length) : (l.take (y + 1)).any (fun x => x == cur) = ((l.take y).any (fun x => x == cur) || (l[y] == cur)) := any_take (List.getElem?_eq_getElem hy)
/-- The cells of properties. -/
def propCells (ps : Props) : List Value := ps.flatMap fun p => [.string p.1, .string p.2]
theorem propCells_len (ps : Props) : (propCells ps).length = ps.length * 2 := by
  unfold propCells
  induction ps with
  | nil => rfl
  | cons p ps ih => rw [List.flatMap_cons, List.length_append, ih]; simp; omega
theorem propCells_get : ∀ {ps : Props} {i : Nat} {p : ByteArray × ByteArray}, ps[i]? = some p → (propCells ps)[i * 2]? = some (.string p.1) ∧ (propCells ps)[i * 2 + 1]? = some (.string p.2)
  | [], i, p, h => by simp at h
  | q :: ps, 0, p, h => by simp at h; subst h; simp [propCells]
  | q :: ps, i + 1, p, h => by
    have ih := propCells_get (ps := ps) (i := i) (p := p) (by simpa using h)
    have e : propCells (q :: ps) = [.string q.1, .string q.2] ++ propCells ps := rfl
    rw [e, List.getElem?_append_right (by simp; omega), List.getElem?_append_right (by simp; omega)]
    simp only [List.length_cons, List.length_nil]
    rw [show (i + 1) * 2 - (0 + 1 + 1) = i * 2 by omega, show (i + 1) * 2 + 1 - (0 + 1 + 1) = i * 2 + 1 by omega]
    exact ih
theorem propInfo : (Try.prog.info? 88).map (fun i => (i.zero, i.size, i.bytes)) = some (some (.agg #[.string ⟨#[]⟩, .string ⟨#[]⟩]), 2, 32) := by kernel_rfl
/-- append of one property to a row of its own. -/
theorem append_prop {w : World} {B q : Nat} {S : Value} {acc acc2 : Props} {n v : ByteArray} (ty : TypeId) (he : acc ++ [(n, v)] = acc2) (hown : w.ownsRow B 88 2 S acc.length (propCells acc)) (hq : Blk w q 88 #[.string n, .string v]) (hl : acc.length + 1 ≤ 1000000000) (hB : B ≤ w.heap.size) :
    ∃ A' c' w', (Builtin.append_ #[77, 77] ty #[S, .slice (some ⟨q, 0, none⟩) 1 1]).run Try.prog w = .ok (.slice A' acc2.length c') w' ∧ w'.ownsRow B 88 2 (.slice A' acc2.length c') acc2.length (propCells acc2) ∧ w.grownBy w' S.ownBlock := by
  subst he
  obtain ⟨i0, hi0, hz0, hz1, hz2⟩ := info_partsC propInfo
  obtain ⟨v', w', e1, e2, e3, _, e5⟩ := run_append_own_at (P := Try.prog) (w := w) B 77 ty 88 i0 _ 2 32 Try.underlying77 hi0 hz0 hz1 hz2 rfl (by decide) S acc.length (propCells acc) hown ⟨q, 0, none⟩ 1 1 [.string n, .string v] rfl (fun j u hj => by
    match j, hj with
    | 0, hj => simp at hj; subst hj; exact hq.cell 0
    | 1, hj => simp at hj; subst hj; exact hq.cell 1) (fun u hu => by simp at hu; rcases hu with rfl | rfl <;> rfl) (by unfold maxLen; omega) (by omega) hB
  have hpc : propCells (acc ++ [(n, v)]) = propCells acc ++ [.string n, .string v] := by unfold propCells; rw [List.flatMap_append]; rfl
  rw [show acc.length + 1 = (acc ++ [(n, v)]).length by simp, ← hpc] at e2
  have hsh : ∃ A' c', v' = .slice A' (acc ++ [(n, v)]).length c' := by
    rcases e2.2 with ⟨e, h0⟩ | ⟨g, cap, cur, e, _⟩
    · exact ⟨none, 0, by rw [e, h0]⟩
    · exact ⟨_, _, e⟩
  obtain ⟨A', c', rfl⟩ := hsh
  exact ⟨A', c', w', e1, e2, e3⟩
/-- A row of properties as a board's. -/
theorem props_row {w : World} {B m cap : Nat} {A : Option Addr} {ps : Props} (h : w.ownsRow B 88 2 (.slice A m cap) m (propCells ps)) (hl : ps.length = m) (hs : ∀ p ∈ ps, p.1.size ≤ maxLen ∧ p.2.size ≤ maxLen) : PropsAt w (· < w.heap.size) A m ps := by
  refine ⟨hl, hs, fun h0 => ?_⟩
  obtain ⟨g, c, hv, _, _⟩ := h.form h0
  injection hv with hv _ hv2
  subst hv hv2
  refine ⟨g, 0, rfl, (h.lt g rfl).2, fun i p hp => ?_⟩
  have hi : i < ps.length := (List.getElem?_eq_some_iff.1 hp).1
  obtain ⟨e0, e1⟩ := propCells_get hp
  simp only [Nat.zero_add]
  exact ⟨by rw [h.cellAt _ (by omega)]; exact e0, by rw [h.cellAt _ (by omega)]; exact e1⟩
set_option maxHeartbeats 16000000 in
set_option maxRecDepth 100000 in
theorem condNames_walk (D : Nat) (t : CT) (k : Int) (n v : ByteArray) (A : Option Addr) (m c : Nat) (nm : ByteArray) (PA : Option Addr) (pm pc : Nat) (ps : Props) (w : World) (ht : CondAt w (· < w.heap.size) D t [.int .i64 k, .string n, .string v, .slice A m c]) (hp : PropsAt w (· < w.heap.size) PA pm ps) (hpm : pm ≤ 2000000) (hnl : (namesT t).length ≤ 2000000) :
    Calls Try.prog 8 #[.agg #[.int .i64 k, .string n, .string v, .slice A m c], .agg #[.string nm, .slice PA pm pc]] w fun e w' => e = .returned (.bool true) ∧ Below w.heap.size w w' := by
  have hbW := ((Below.refl _ w).alloc (Nat.le_refl _) (.cells #[.int .i64 k, .string n, .string v, .slice A m c] 76)).alloc (by simp) (.cells #[.string nm, .slice PA pm pc] 79)
  have HA := Lib.hid (show Blk ((w.alloc (.cells #[.int .i64 k, .string n, .string v, .slice A m c] 76)).alloc (.cells #[.string nm, .slice PA pm pc] 79)) w.heap.size 76 #[.int .i64 k, .string n, .string v, .slice A m c] from (Blk.new w _ _).alloc _)
  have HQ := Lib.hid (show Blk ((w.alloc (.cells #[.int .i64 k, .string n, .string v, .slice A m c] 76)).alloc (.cells #[.string nm, .slice PA pm pc] 79)) (w.heap.size + 1) 79 #[.string nm, .slice PA pm pc] by simpa using Blk.new (w.alloc (.cells #[.int .i64 k, .string n, .string v, .slice A m c] 76)) 79 _)
  have HT := Lib.hid (ht.below hbW)
  have HPS := Lib.hid (hp.below hbW)
  have hB0 := Below.refl ((w.alloc (.cells #[.int .i64 k, .string n, .string v, .slice A m c] 76)).alloc (.cells #[.string nm, .slice PA pm pc] 79)).heap.size ((w.alloc (.cells #[.int .i64 k, .string n, .string v, .slice A m c] 76)).alloc (.cells #[.string nm, .slice PA pm pc] 79))
  clear ht hp
  go_enter Try.func8, Try.ntmps8
  go_wp2_with fail
  refine (alive_any _).mono ?_
  rintro e w1 ⟨rfl, hc⟩
  have hB1 := hB0.trans (hc.mono hB0.size)
  clear hc
  obtain ⟨p0, p1, p2, p3⟩ := blkc (HA.out.below hB1 (by simp; omega))
  have HC := Lib.hid (cNames_any D t k n v A m c w1 (HT.out.below hB1) (by omega))
  go_wp2_with fail
  refine HC.out.mono ?_
  clear HC
  rintro e w2 ⟨u, rfl, hrow, hc⟩
  have hB2 := hB1.trans (hc.mono hB1.size)
  obtain ⟨A5, c5, rfl, htx, hlm⟩ := row_texts hrow
  generalize hnl5 : (namesL t).length = nl at htx hlm
  have HNL := Lib.hid hnl5
  have HTX := Lib.hid htx
  clear hc hrow p0 p1 p2 p3 htx hnl5
  unfold maxLen at hlm
  obtain ⟨p0, p1, p2, p3⟩ := blkc (HA.out.below hB2 (by simp; omega))
  have HC := Lib.hid (rRight_any 20 D t _ _ _ _ 20 w2 (HT.out.below hB2) rfl (by omega))
  cases hr : rightT 20 t
  · rw [hr] at HC
    have hn0 : nl = 0 := by rw [← HNL.out]; unfold namesL; rw [hr]; rfl
    subst hn0
    clear hr
    go_wp2_with fail
    refine HC.out.mono ?_
    rintro e w3 ⟨rfl, hc⟩
    go_wp2
    go_ret
    exact ⟨rfl, hbW.trans ((hB2.trans (hc.mono hB2.size)).mono hbW.size)⟩
  · rw [hr] at HC
    have HR := Lib.hid hr
    clear hr
    go_wp2_with fail
    refine HC.out.mono ?_
    clear HC
    rintro e w3 ⟨rfl, hc⟩
    have hB3 := hB2.trans (hc.mono hB2.size)
    have HTX3 := Lib.hid (HTX.out.below hc)
    clear hc p0 p1 p2 p3
    obtain ⟨p0, p1, p2, p3⟩ := blkc (HA.out.below hB3 (by simp; omega))
    have HC := Lib.hid (rAll_any 20 D t _ _ _ _ w3 (HT.out.below hB3) HR.out hnl)
    go_wp2_with fail
    refine HC.out.mono ?_
    clear HC
    rintro e w4 ⟨u, rfl, hrow, hc⟩
    have hB4 := hB3.trans (hc.mono hB3.size)
    obtain ⟨A6, c6, rfl, htx, hlm6⟩ := row_texts hrow
    have HNS := Lib.hid (HTX3.out.below hc)
    generalize hal6 : (nmsL t).length = al at htx hlm6
    have HAL := Lib.hid hal6
    have HAX := Lib.hid htx
    clear hc hrow p0 p1 p2 p3 htx hal6 HTX HTX3
    unfold maxLen at hlm6
    by_cases h200 : 200 < al
    · have h200' : (200 : Int) < (al : Int) := by omega
      go_wp2_with fail
      go_ret
      exact ⟨rfl, hbW.trans (hB4.mono hbW.size)⟩
    · have h200' : ¬ (200 : Int) < (al : Int) := by omega
      have H4A := Lib.hid (HA.out.below hB4 (by simp; omega))
      have H4Q := Lib.hid (HQ.out.below hB4 (by simp))
      have H4T := Lib.hid (HT.out.below hB4)
      have H4P := Lib.hid (HPS.out.below hB4)
      have hbW4 := hbW.trans (hB4.mono hbW.size)
      have hV0 := Below.refl w4.heap.size w4
      clear HA HQ HT HPS hB0 hB1 hB2 hB3 hB4 hbW h200
      go_wp2_with fail
      go_loopw [34] (fun i wr => ∃ j : Nat, j ≤ nl ∧ i = .int .i64 j ∧ Below w4.heap.size w4 wr) (fun i _ => nl - (intOf i).toNat)
      case atStart => exact ⟨0, Nat.zero_le _, rfl, hV0⟩
      case round =>
        obtain ⟨j, hj, rfl, hb⟩ := hrel
        by_cases hlt : j < nl
        · have hlt' : (j : Int) < (nl : Int) := by omega
          have hj0 : (0 : Int) ≤ (j : Int) := by omega
          obtain ⟨b, o, hA5, hX, hcx⟩ := HNS.out.2 (by omega)
          have hA5' := hA5
          subst hA5'
          have hjs : j < (namesL t).length := by rw [HNL.out]; exact hlt
          have f0 := (hb.cell (p := ⟨b, o + j, none⟩) hX).trans (hcx j _ (List.getElem?_eq_getElem hjs))
          have hXw : b < wr.heap.size := Nat.lt_of_lt_of_le hX hb.size
          obtain ⟨p0, p1, p2, p3⟩ := blkc (H4A.out.below hb H4A.out.lt)
          have HC := Lib.hid (rAsks_any ⟨((namesL t)[j]).toArray⟩ 20 D t _ _ _ _ wr (H4T.out.below hb) HR.out)
          rw [name_of HR.out (List.getElem_mem hjs)] at HC
          rcases Nat.eq_zero_or_pos j with h0 | h0
          · subst h0
            generalize (⟨((namesL t)[0]).toArray⟩ : ByteArray) = sj at f0 HC
            rw [Nat.add_zero] at f0
            clear hcx hA5
            go_wp2_with fail
            refine HC.out.mono ?_
            rintro e w5 ⟨rfl, hc⟩
            go_wp2
            go_roundw
            case rel => exact ⟨1, by omega, by go_num, hb.trans (hc.mono hb.size)⟩
            case measure => simp [intOf]; omega
          · have f1 := (hb.cell (p := ⟨b, o + (j - 1), none⟩) hX).trans (hcx (j - 1) _ (List.getElem?_eq_getElem (show j - 1 < (namesL t).length by omega)))
            have hlt1 := names_less (t := t) (i := j - 1) (j := j) (by omega) hjs
            generalize (namesL t)[j - 1] = l1 at f1 hlt1
            generalize (namesL t)[j] = l2 at f0 HC hlt1
            clear hcx hA5
            have hj1 : (1 : Int) ≤ (j : Int) := by omega
            have h0i : (0 : Int) < (j : Int) := by omega
            have hjt : ((j : Int) - 1).toNat = j - 1 := by omega
            have hjl : (j : Int) - 1 < (nl : Int) := by omega
            go_wp2_with fail
            refine HC.out.mono ?_
            rintro e w5 ⟨rfl, hc⟩
            go_wp2
            go_roundw
            case rel => exact ⟨j + 1, by omega, by go_num, hb.trans (hc.mono hb.size)⟩
            case measure => simp [intOf]; omega
        · obtain rfl : j = nl := by omega
          clear hV0 hlt hj
          go_wp2_with fail
          go_loopw [59] (fun i wr => ∃ x : Nat, x ≤ al ∧ i = .int .i64 x ∧ Below w4.heap.size w4 wr) (fun i _ => al - (intOf i).toNat)
          case atStart => exact ⟨0, Nat.zero_le _, rfl, hb⟩
          case round =>
            clear hb
            obtain ⟨x, hx, rfl, hb⟩ := hrel
            by_cases hltx : x < al
            · have hltx' : (x : Int) < (al : Int) := by omega
              have hx0 : (0 : Int) ≤ (x : Int) := by omega
              obtain ⟨b, o, hA6, hX, hcx⟩ := HAX.out.2 (by omega)
              subst hA6
              have hxs : x < (nmsL t).length := by rw [HAL.out]; exact hltx
              have f0 := (hb.cell (p := ⟨b, o + x, none⟩) hX).trans (hcx x _ (List.getElem?_eq_getElem hxs))
              have hin : (nmsL t)[x] ∈ namesL t := by
                have h1 := List.getElem_mem hxs
                unfold nmsL at h1
                obtain ⟨n', hn', e'⟩ := List.mem_map.1 h1
                exact (namesL_mem HR.out _).2 ⟨n', hn', e'⟩
              have HIN := Lib.hid hin
              generalize (nmsL t)[x] = cur at f0 HIN
              clear hcx hin
              go_wp2_with fail
              go_loopw [11, 65] (fun fb i wr => ∃ y : Nat, y ≤ j ∧ i = .int .i64 y ∧ fb = .bool (((namesL t).take y).any (fun l => l == cur)) ∧ Below w4.heap.size w4 wr) (fun _ i _ => j - (intOf i).toNat)
              case atStart => exact ⟨0, Nat.zero_le _, rfl, rfl, hb⟩
              case round =>
                clear hb f0
                obtain ⟨y, hy, rfl, rfl, hb⟩ := hrel
                by_cases hlty : y < j
                · have hlty' : (y : Int) < (j : Int) := by omega
                  have hy0 : (0 : Int) ≤ (y : Int) := by omega
                  obtain ⟨g, og, hA5, hXg, hcy⟩ := HNS.out.2 (by omega)
                  subst hA5
                  have hys : y < (namesL t).length := by rw [HNL.out]; exact hlty
                  have f2 := (hb.cell (p := ⟨g, og + y, none⟩) hXg).trans (hcy y _ (List.getElem?_eq_getElem hys))
                  have HTK := Lib.hid (any_take_eq (cur := cur) hys)
                  generalize (namesL t)[y] = ly at f2 HTK
                  clear hcy
                  cases hfb : ((namesL t).take y).any (fun l => l == cur)
                  · rw [hfb] at HTK
                    clear hfb
                    cases hle : (ly == cur)
                    all_goals
                      rw [hle] at HTK
                      go_wp2
                      go_roundw
                      case rel => exact ⟨y + 1, by omega, by go_num, by rw [HTK.out]; rfl, hb⟩
                      case measure => simp [intOf]; omega
                  · rw [hfb] at HTK
                    clear hfb
                    go_wp2
                    go_roundw
                    case rel => exact ⟨y + 1, by omega, by go_num, by rw [HTK.out]; rfl, hb⟩
                    case measure => simp [intOf]; omega
                · obtain rfl : y = j := by omega
                  have hfb : ((namesL t).take y).any (fun l => l == cur) = true := by
                    rw [List.take_of_length_le (by rw [HNL.out]; omega)]
                    exact List.any_eq_true.2 ⟨cur, HIN.out, by simp⟩
                  rw [hfb]
                  clear hfb
                  go_wp2
                  go_roundw
                  case rel => exact ⟨x + 1, by omega, by go_num, hb⟩
                  case measure => simp [intOf]; omega
            · obtain rfl : x = al := by omega
              clear hltx hx
              have hw4 := hb.size
              have hWr := hbW4.trans (hb.mono hbW4.size)
              have hA4 := H4A.out.below hb H4A.out.lt
              have hQ4 := H4Q.out.below hb H4Q.out.lt
              have hT4 := H4T.out.below hb
              have hP4 := H4P.out.below hb
              clear hb HNS HAX HNL HAL H4A H4Q H4T H4P hbW4
              obtain ⟨q0, q1, -⟩ := blk2 hQ4
              -- the board of the properties that are asked for
              have hb5 := (Below.refl _ wr).alloc (Nat.le_refl _) (.cells #[.string ⟨#[]⟩, .slice none 0 0] 79)
              have hL0 := Blk.new wr 79 #[.string ⟨#[]⟩, .slice none 0 0]
              have hW5 := hWr.alloc hWr.size (.cells #[.string ⟨#[]⟩, .slice none 0 0] 79)
              have hqr : w.heap.size + 1 < wr.heap.size := hQ4.lt
              have har : w.heap.size < wr.heap.size := hA4.lt
              have HA5 := Lib.hid hA4
              have HQ5 := Lib.hid hQ4
              have HT5 := Lib.hid hT4
              have HP5 := Lib.hid hP4
              obtain ⟨M, hM⟩ : ∃ M, M = wr.heap.size := ⟨_, rfl⟩
              obtain ⟨wo, hwo⟩ : ∃ wo, wo = wr := ⟨_, rfl⟩
              subst hwo
              have HM := Lib.hid hM
              clear hA4 hQ4 hT4 hP4 hM hw4
              go_wp2_with fail
              clear q0 q1
              go_loopw [83] (fun i wr => ∃ (y : Nat) (Ao : Option Addr) (cap : Nat) (acc : Props), y ≤ pm ∧ i = .int .i64 y ∧ (ps.take y).filter (fun p => asksT p.1 20 t) = acc ∧ Blk wr wo.heap.size 79 #[.string ⟨#[]⟩, .slice Ao acc.length cap] ∧ wr.ownsRow (wo.heap.size + 1) 88 2 (.slice Ao acc.length cap) acc.length (propCells acc) ∧ Below wo.heap.size wo wr) (fun i _ => pm - (intOf i).toNat)
              case atStart => exact ⟨0, none, 0, [], Nat.zero_le _, rfl, rfl, hL0, World.ownsRow_nil _ _ _ _, hb5⟩
              case round =>
                clear hL0 hb5 hW5
                obtain ⟨y, Ao, cap, acc, hy, rfl, hacc, hL, ho, hb⟩ := hrel
                have hsz := hb.size
                have hLl := hL.lt
                by_cases hlty : y < pm
                · have hlty' : (y : Int) < (pm : Int) := by omega
                  have hy0 : (0 : Int) ≤ (y : Int) := by omega
                  obtain ⟨g, og, p, hPA, hXg, hpy, hp1, hp2, f0, f1⟩ := HP5.out.get hlty
                  subst hPA
                  obtain ⟨p1, p2⟩ := p
                  simp only at hp1 hp2 f0 f1
                  replace f0 := (hb.cell (p := ⟨g, og + y * 2, none⟩) hXg).trans f0
                  replace f1 := (hb.cell (p := ⟨g, og + y * 2 + 1, none⟩) hXg).trans f1
                  have hba := (Below.refl _ wr).alloc (Nat.le_refl _) (.cells #[.string p1, .string p2] 88)
                  have hbb := hb.trans (hba.mono hb.size)
                  have hpb := Blk.new wr 88 #[.string p1, .string p2]
                  obtain ⟨s0, s1, s2, s3⟩ := blkc (HA5.out.below hbb HA5.out.lt)
                  have hrl := HR
                  have HC := Lib.hid (rAsks_any p1 20 D t _ _ _ _ (wr.alloc (.cells #[.string p1, .string p2] 88)) (HT5.out.below hbb) HR.out)
                  have hacl : acc.length ≤ 2000000 := by
                    rw [← hacc]
                    have h1 := List.length_filter_le (fun p : ByteArray × ByteArray => asksT p.1 20 t) (ps.take y)
                    have h2 := List.length_take_le y ps
                    omega
                  have hsn : (ps.take (y + 1)).filter (fun p => asksT p.1 20 t) = acc ++ (if asksT p1 20 t then [(p1, p2)] else []) := by
                    rw [List.take_add_one, hpy, List.filter_append, hacc]
                    simp only [Option.toList_some, List.filter_cons, List.filter_nil]
                  have HL := Lib.hid hL
                  have HO := Lib.hid ho
                  have HSN := Lib.hid hsn
                  have hwl : w.heap.size < wr.heap.size := by omega
                  clear hL ho hacc hsn hpy
                  cases hax : asksT p1 20 t
                  · rw [hax] at HC HSN
                    clear hax
                    go_wp2_with fail
                    refine HC.out.mono ?_
                    rintro e w6 ⟨rfl, hc⟩
                    have hc9 := hba.trans (hc.mono (by simp))
                    go_wp2
                    go_roundw
                    case rel => exact ⟨y + 1, Ao, cap, acc, by omega, by go_num, by rw [HSN.out]; simp, HL.out.below hc9 hLl, own_below HO.out hc9, hb.trans (hc9.mono hb.size)⟩
                    case measure => simp [intOf]; omega
                  · rw [hax] at HC HSN
                    clear hax
                    go_wp2_with fail
                    refine HC.out.mono ?_
                    rintro e w6 ⟨rfl, hc⟩
                    have hc9 := hba.trans (hc.mono (by simp))
                    have hb6 := hb.trans (hc9.mono hb.size)
                    have hL6 := HL.out.below hc9 hLl
                    have ho6 := own_below HO.out hc9
                    obtain ⟨l0, l1, m0, m1⟩ := blk2 hL6
                    obtain ⟨g0, g1, -⟩ := blk2 (hpb.below hc (by simp))
                    have hs6 := hc.size
                    simp only [World.size_alloc] at hs6
                    obtain ⟨acc2, hacc2⟩ : ∃ l, acc ++ [(p1, p2)] = l := ⟨_, rfl⟩
                    obtain ⟨A', c1, w', hrun, ho7, hg7⟩ := append_prop 77 hacc2 (ho6.alloc (.cells #[.string p1, .string p2] 88)) (Blk.new w6 88 #[.string p1, .string p2]) (by omega) (by have := hb6.size; simp; omega)
                    have hap : some wo.heap.size ≠ (Value.slice Ao acc.length cap).ownBlock := fun e => by have := (ho6.lt _ e.symm).1; omega
                    have hL7 := (hL6.alloc (.cells #[.string p1, .string p2] 88)).grown hg7 hap
                    obtain ⟨r0, r1, x0, x1⟩ := blk2 hL7
                    have HRUN := Lib.hid hrun
                    have HA2 := Lib.hid hacc2
                    have HL8 := Lib.hid (hL7.set_ 1 (.slice A' acc2.length c1))
                    have HO8 := Lib.hid (ownsRow_setCell_below (a := ⟨wo.heap.size, 1, none⟩) ho7 (by show wo.heap.size < _; omega) (.slice A' acc2.length c1))
                    have HB8 := Lib.hid (((hb6.alloc hb6.size (.cells #[.string p1, .string p2] 88)).grown hg7 (by have := hb6.size; simp; omega) (fun z hz => by have := (ho6.lt z hz).1; omega)).setCell (p := ⟨wo.heap.size, 1, none⟩) (Nat.le_refl _) (.slice A' acc2.length c1))
                    have hwl6 : wo.heap.size < w6.heap.size := by omega
                    clear hrun ho7 hg7 hap hL7 hL6 ho6 hc hc9 hacc2
                    go_wp2_with (at_builtin; refine wpList_append_run rfl (.tmp 92) (.tmp 94) 77 rfl _ _ _ rfl rfl HRUN.out ?_)
                    go_roundw
                    case rel => exact ⟨y + 1, A', c1, acc2, by omega, by go_num, by rw [HSN.out, ← HA2.out]; rfl, HL8.out, HO8.out, HB8.out⟩
                    case measure => simp [intOf]; omega
                · obtain rfl : y = pm := by omega
                  have hpv := HP5.out.below hb
                  have hpr : PropsAt wr (· < wr.heap.size) Ao acc.length acc := props_row ho rfl fun p hp => by
                    rw [← hacc] at hp
                    exact hpv.2.1 p (List.mem_of_mem_take (List.mem_filter.1 hp).1)
                  rw [List.take_of_length_le (by rw [hpv.1]; omega)] at hacc
                  have hH : holdsT acc t = holdsT ps t := by
                    rw [← hacc]
                    exact holds_filter (fun nm => asksT nm 20 t) ps 20 t HR.out fun n' hn' => (asks_iff n' 20 t HR.out).2 hn'
                  have hacl : acc.length ≤ maxLen := by
                    have h1 := List.length_filter_le (fun p : ByteArray × ByteArray => asksT p.1 20 t) ps
                    rw [hacc, hpv.1] at h1
                    unfold maxLen; omega
                  have hpm2 : y ≤ maxLen := by unfold maxLen; omega
                  have hct := HT5.out.below hb
                  have HX := Lib.hid (cHolds_any nm PA y pc ps D t k n v A m c wr.drew hct.drewB hpv.drewB hpm2)
                  have HY := Lib.hid (fun W (h : Below wr.drew.heap.size wr.drew W) => cHolds_any ⟨#[]⟩ Ao acc.length cap acc D t k n v A m c W (hct.drewB.below h) (hpr.drewB.below h) hacl)
                  rw [hH] at HY
                  have HB1 := Lib.hid (HA5.out.below hb HA5.out.lt).drew
                  have HB2 := Lib.hid (HQ5.out.below hb HQ5.out.lt).drew
                  have HB3 := Lib.hid hL.drew
                  have hX0 := Below.refl wr.drew.heap.size wr.drew
                  have HSS := Lib.hid (show ∀ W, Below wr.drew.heap.size wr.drew W → (W.cell? ⟨w.heap.size, 0, none⟩ = some (.int .i64 k) ∧ W.cell? ⟨w.heap.size, 1, none⟩ = some (.string n) ∧ W.cell? ⟨w.heap.size, 2, none⟩ = some (.string v) ∧ W.cell? ⟨w.heap.size, 3, none⟩ = some (.slice A m c) ∧ W.cell? ⟨w.heap.size + 1, 0, none⟩ = some (.string nm) ∧ W.cell? ⟨w.heap.size + 1, 1, none⟩ = some (.slice PA y pc) ∧ W.cell? ⟨wo.heap.size, 0, none⟩ = some (.string ⟨#[]⟩) ∧ W.cell? ⟨wo.heap.size, 1, none⟩ = some (.slice Ao acc.length cap)) from fun W h => by
                    obtain ⟨a0, a1, a2, a3⟩ := blkc (HB1.out.below h HB1.out.lt)
                    obtain ⟨b0, b1, -⟩ := blk2 (HB2.out.below h HB2.out.lt)
                    obtain ⟨c0, c1, -⟩ := blk2 (HB3.out.below h HB3.out.lt)
                    exact ⟨a0, a1, a2, a3, b0, b1, c0, c1⟩)
                  have mixed : Try.prog.follows .mixedOrders = true := by kernel_rfl
                  clear hpv hpr hacc hH hct hL ho HB1 HB2 HB3
                  generalize acc.length = na at HSS HY
                  go_wp2_with fail
                  refine wp_region_held_drew (S := fun W => W.cell? ⟨w.heap.size, 0, none⟩ = some (.int .i64 k) ∧ W.cell? ⟨w.heap.size, 1, none⟩ = some (.string n) ∧ W.cell? ⟨w.heap.size, 2, none⟩ = some (.string v) ∧ W.cell? ⟨w.heap.size, 3, none⟩ = some (.slice A m c) ∧ W.cell? ⟨w.heap.size + 1, 0, none⟩ = some (.string nm) ∧ W.cell? ⟨w.heap.size + 1, 1, none⟩ = some (.slice PA y pc) ∧ W.cell? ⟨wo.heap.size, 0, none⟩ = some (.string ⟨#[]⟩) ∧ W.cell? ⟨wo.heap.size, 1, none⟩ = some (.slice Ao na cap)) mixed (HSS.out _ hX0) (fun hS => ?_)
                  refine wpAnyH_take (i := 0) (v := .agg #[.int .i64 k, .string n, .string v, .slice A m c]) rfl (by kernel_rfl) (by kernel_rfl) (by kernel_rfl) (fun _ _ _ h => h) (Or.inl ⟨by rfl, fun W hW => by obtain ⟨h0, h1, h2, h3, h4, h5, h6, h7⟩ := hW; go_simp⟩) hS ?_
                  refine wpAnyH_take (i := 1) (v := .agg #[.string nm, .slice PA y pc]) rfl (by kernel_rfl) (by kernel_rfl) (by kernel_rfl) (fun _ _ _ h => h) (Or.inl ⟨by rfl, fun W hW => by obtain ⟨h0, h1, h2, h3, h4, h5, h6, h7⟩ := hW; go_simp⟩) hS ?_
                  refine wpAnyH_take (i := 3) (v := .agg #[.int .i64 k, .string n, .string v, .slice A m c]) rfl (by kernel_rfl) (by kernel_rfl) (by kernel_rfl) (fun _ _ _ h => h) (Or.inl ⟨by rfl, fun W hW => by obtain ⟨h0, h1, h2, h3, h4, h5, h6, h7⟩ := hW; go_simp⟩) hS ?_
                  refine wpAnyH_take (i := 4) (v := .agg #[.string ⟨#[]⟩, .slice Ao na cap]) rfl (by kernel_rfl) (by kernel_rfl) (by kernel_rfl) (fun _ _ _ h => h) (Or.inl ⟨by rfl, fun W hW => by obtain ⟨h0, h1, h2, h3, h4, h5, h6, h7⟩ := hW; go_simp⟩) hS ?_
                  refine wpAnyH_ready (rs := [2]) (by kernel_rfl) (by simp) ?_
                  refine AllReadyH.cons rfl (fun K hK => ?_) AllReadyH.nil
                  go_simp
                  (with_reducible refine HX.out.mono ?_)
                  rintro e w5 ⟨rfl, hc⟩
                  have hX1 := hX0.trans (hc.mono hX0.size)
                  refine hK.out _ _ (HSS.out _ hX1) (fun hS => ?_)
                  clear hK K hc HX
                  refine wpAnyH_ready (rs := [5]) (by kernel_rfl) (by simp) ?_
                  refine AllReadyH.cons rfl (fun K hK => ?_) AllReadyH.nil
                  go_simp
                  (with_reducible refine (HY.out _ hX1).mono ?_)
                  rintro e w6 ⟨rfl, hc⟩
                  have hX2 := hX1.trans (hc.mono hX1.size)
                  refine hK.out _ _ (HSS.out _ hX2) (fun hS => ?_)
                  clear hK K hc HY
                  refine wpAnyH_ready (rs := [6]) (by kernel_rfl) (by simp) ?_
                  refine AllReadyH.cons rfl (fun K hK => ?_) AllReadyH.nil
                  go_simp
                  refine hK.out _ _ hS (fun hS => ?_)
                  clear hK K
                  refine wpAnyH_ready (rs := [7]) (by kernel_rfl) (by simp) ?_
                  refine AllReadyH.cons rfl (fun K hK => ?_) AllReadyH.nil
                  go_simp
                  refine hK.out _ _ hS (fun hS => ?_)
                  clear hK K
                  refine wpAnyH_done (by kernel_rfl) ?_ _
                  go_wp2
                  go_ret
                  exact ⟨rfl, hWr.trans ((hb.trans ((Below.undrew hX2).mono hb.size)).mono hWr.size)⟩
end Go.Proofs.Ytfgblmdmhgllgaa
