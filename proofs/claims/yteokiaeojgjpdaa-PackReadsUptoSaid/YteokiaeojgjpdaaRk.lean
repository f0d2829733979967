/- PackReads: the law's walk. -/
import Derived.Test.YteokiaeojgjpdaaRj
import Derived.Test.YteokiaeojgjpdaaRa
import Derived.Test.YteokiaeojgjpdaaRc
namespace Go.Proofs.Yteokiaeojgjpdaa
open Go.RowKit Go.Maps
theorem getT_bd (most : Int) (bs : List UInt8) : (getT most bs).2 ≤ bs.length := by
  unfold getT
  split
  · exact Nat.zero_le _
  · omega
set_option maxHeartbeats 4000000 in
set_option maxRecDepth 100000 in
theorem packReads_walk {D A : Option Addr} {n k m c : Nat} {bs : List UInt8} {calls : List Int} {w : World} (hb : BytesAt w D n bs) (hnk : n ≤ k) (hn : n ≤ 2000000) (hci : IntsAt w A m calls) (hm : m ≤ 2000000)
    (hD : ∀ b o, D = some ⟨b, o, none⟩ → b < w.heap.size) (hA : ∀ b o, A = some ⟨b, o, none⟩ → b < w.heap.size) :
    Calls Try.prog 7 #[.slice D n k, .slice A m c] w fun e w' => e = .returned (.bool true) ∧ Below w.heap.size w w' := by
  have hmf : ∀ (fn : Fn) (first cap : Array Value) (w : World), (Instr.makeFunc fn first cap).run Try.prog w = .ok (.func fn first cap) w := fun _ _ _ _ => rfl
  have hb3 := Blk.new w 55 #[.slice A m c]
  have hB := (Below.refl w.heap.size w).alloc (Nat.le_refl _) (.cells #[.slice A m c] 55)
  go_enter Try.func7, Try.ntmps7
  go_wp2_with fail
  refine (reading_any _).mono ?_
  rintro e w1 ⟨rfl, h1⟩
  have hb31 := hb3.below h1 (by simp)
  have hB1 := hB.trans (h1.mono (by simp))
  have hbd := hb.below hB1
  have hci1 := hci.keepN hB1.size fun b o e => hB1.block b (hA b o e)
  have C := Lib.hid (read_here (N0 := w.heap.size) hbd hnk (by unfold maxLen; omega) hD hb31 hci1 hA hm (Nat.le_refl _))
  obtain ⟨sf, ok, hg⟩ : ∃ sf ok, goC calls ⟨[], [], [], bs⟩ = (sf, ok) := ⟨_, _, rfl⟩
  rw [hg] at C
  have HBD := Lib.hid hbd
  have HB1 := Lib.hid (three_below hB1 (Nat.le_refl _))
  have HG := Lib.hid hg
  clear hb3 hB h1 hb31 hB1 hbd hci1 hg
  go_wp2_with fail
  refine C.out.mono ?_
  clear C
  rintro e w2 ⟨rfl, hgot, h2⟩
  have hB2 := HB1.out.trans h2
  have HB2 := Lib.hid hB2
  have HBY := Lib.hid (hb.below hB2)
  have HCI := Lib.hid (hci.keepN hB2.size fun b o e => hB2.block b (hA b o e))
  have HLC := Lib.hid hci.1
  clear hb hci hB2
  have GOT := Lib.hid hgot
  have HC3 := Lib.hid hgot.c3
  have q3 : w2.cell? ⟨w.heap.size, 0, none⟩ = some (.slice A m c) := hgot.c3.cell 0
  obtain ⟨T, hT⟩ : ∃ T : Int, T = (if (ok && sf.rest.isEmpty) = true then 0 else 80) := ⟨_, rfl⟩
  rw [← hT]
  obtain ⟨U5, hU5⟩ := hgot.v5
  obtain ⟨U6, hU6⟩ := hgot.v6
  obtain ⟨U7, hU7⟩ := hgot.v7
  obtain ⟨g5, k5, rfl, q5, r5⟩ := hU5.reads
  obtain ⟨g6, k6, rfl, q6, r6⟩ := hU6.reads
  obtain ⟨g7, k7, rfl, q7, r7⟩ := hU7.reads
  rw [List.length_map] at q5 q6 q7
  have HT := Lib.hid hT
  have HR5 := Lib.hid r5
  have HR6 := Lib.hid r6
  have HR7 := Lib.hid r7
  clear hT hgot h2 hU5 hU6 hU7 r5 r6 r7
  go_wp2_with fail
  go_loopw [9, 10, 11, 30] (fun v9 v10 v11 i wr => ∃ (j : Nat) (st : RSt) (A' : Option Addr) (m' c' : Nat), j ≤ m ∧ i = .int .i64 j ∧ goC (calls.drop j) st = (sf, ok) ∧ st.left.length = j ∧ st.nums.length ≤ j ∧ st.texts.length ≤ j ∧ v9 = .slice A' m' c' ∧ BytesAt w2 A' m' st.rest ∧ m' ≤ c' ∧ m' ≤ 2000000 ∧ v10 = .int .i64 (st.nums.length : Nat) ∧ v11 = .int .i64 (st.texts.length : Nat) ∧ wr = w2) (fun _ _ _ i _ => m - (intOf i).toNat)
  case atStart => exact ⟨0, ⟨[], [], [], bs⟩, D, n, k, Nat.zero_le _, rfl, HG.out, rfl, Nat.le_refl _, Nat.le_refl _, rfl, HBY.out, hnk, hn, rfl, rfl, rfl⟩
  case round =>
    clear HBY HG
    obtain ⟨j, st, A', m', c', hj, rfl, hgo, h7, h5, h6, rfl, hby, hmc, hm', rfl, rfl, rfl⟩ := hrel
    by_cases hlt : j < m
    · have hlt' : (j : Int) < (m : Int) := by omega
      have hj0 : (0 : Int) ≤ (j : Int) := by omega
      obtain ⟨b, o, hA', hX, hcz⟩ := HCI.out.2 (by omega)
      subst hA'
      have hjc : j < calls.length := by have := HLC.out; omega
      have f0 := hcz j _ (List.getElem?_eq_getElem hjc)
      have hdr : calls.drop j = calls[j] :: calls.drop (j + 1) := List.drop_eq_getElem_cons hjc
      rw [hdr] at hgo
      generalize calls[j] = z at f0 hgo
      clear hcz hdr hX
      by_cases h0 : z = 0
      · subst h0
        have C0 := Lib.hid (getNum_any (c := c') hby (by unfold maxLen; omega))
        have hbd := getL_bd st.rest
        obtain ⟨n1, kk, hgl⟩ : ∃ n1 kk, getL st.rest = (n1, kk) := ⟨_, _, rfl⟩
        rw [hgl] at C0 hbd
        have hbl := hby.1
        by_cases hk : kk = 0
        · subst hk
          rw [goC, stepC_0, hgl, if_pos rfl] at hgo
          injection hgo with e1 e2
          subst e1 e2
          have hT : T = 80 := by simpa using HT.out
          subst hT
          rw [h7] at q7
          clear HR5 HR6 HR7 HT hby hgl hbd
          go_wp2_with fail
          refine C0.out.mono ?_
          rintro e w' ⟨rfl, rfl⟩
          unfold numV
          go_wp2
          go_ret
          exact ⟨rfl, HB2.out⟩
        · have hst : stepC 0 st.rest = some ([n1], [], st.rest.drop kk) := by rw [stepC_0, hgl, if_neg hk]
          have e5 := goC_num (cs := calls.drop (j + 1)) hst
          have e7 := goC_len (cs := calls.drop (j + 1)) hst
          rw [goC_step hst] at hgo e5 e7
          rw [hgo] at e5 e7
          rw [h7] at e7
          simp only at e5 e7 hbd
          have l5 := (List.getElem?_eq_some_iff.1 e5).1
          have l7 := (List.getElem?_eq_some_iff.1 e7).1
          have hle : kk ≤ m' := by rcases hbd with e | e <;> simp_all
          have hk0 : 0 < kk := by omega
          obtain ⟨b', o', rfl, _⟩ := hby.2 (by omega)
          have HBN := Lib.hid (show BytesAt wr (if c' = kk then some ⟨b', o', none⟩ else some ⟨b', o' + kk, none⟩) (m' - kk) (st.rest.drop kk) from by
            split
            · exact ⟨by rw [List.length_drop]; omega, fun h => by omega⟩
            · exact hby.drop_ hle)
          have c5 : wr.cell? ⟨g5, st.nums.length, none⟩ = some (.int .i64 (n1 : Nat)) := HR5.out _ _ (by rw [List.getElem?_map, e5]; rfl)
          have c7 : wr.cell? ⟨g7, j, none⟩ = some (.int .i64 ((m' - kk : Nat) : Int)) := HR7.out _ _ (by rw [List.getElem?_map, e7]; simp [nV]; omega)
          have hkI : ¬ ((kk : Int) = 0) := by omega
          have hleI : (kk : Int) ≤ m' := by omega
          have i5 : ¬ ((sf.nums.length : Nat) : Int) ≤ ((st.nums.length : Nat) : Int) := by omega
          have i5' : ((st.nums.length : Nat) : Int) < ((sf.nums.length : Nat) : Int) := by omega
          have i7 : ¬ ((sf.left.length : Nat) : Int) ≤ (j : Int) := by omega
          have i7' : (j : Int) < ((sf.left.length : Nat) : Int) := by omega
          have HGO := Lib.hid hgo
          clear hgo hst e5 e7 hbd hby hgl
          go_wp2_with fail
          refine C0.out.mono ?_
          rintro e w' ⟨rfl, rfl⟩
          unfold numV
          go_wp2
          go_roundw
          case rel => exact ⟨j + 1, st.add ([n1], [], st.rest.drop kk), (if c' = kk then some ⟨b', o', none⟩ else some ⟨b', o' + kk, none⟩), m' - kk, c' - kk, by omega, by go_num, HGO.out, by simp [RSt.add]; omega, by simp [RSt.add]; omega, by simp [RSt.add]; omega, rfl, HBN.out, by omega, by omega, by simp [RSt.add], by simp [RSt.add], by trivial⟩
          case measure => simp [intOf]; omega
      · by_cases h1 : z = 1
        · subst h1
          have C0 := Lib.hid (getNum_any (c := c') hby (by unfold maxLen; omega))
          have hbd := getL_bd st.rest
          obtain ⟨n1, kk, hgl⟩ : ∃ n1 kk, getL st.rest = (n1, kk) := ⟨_, _, rfl⟩
          rw [hgl] at C0 hbd
          have hbl := hby.1
          by_cases hk : kk = 0
          · subst hk
            rw [goC, stepC_1, hgl, if_pos (.inl rfl)] at hgo
            injection hgo with e1 e2
            subst e1 e2
            have hT : T = 80 := by simpa using HT.out
            subst hT
            rw [h7] at q7
            clear HR5 HR6 HR7 HT hby hgl hbd
            go_wp2_with fail
            refine C0.out.mono ?_
            rintro e w' ⟨rfl, rfl⟩
            unfold numV
            go_wp2
            go_ret
            exact ⟨rfl, HB2.out⟩
          · by_cases hv : 1000 < n1
            · have hvI : (1000 : Int) < (n1 : Int) := by omega
              have hkI : ¬ ((kk : Int) = 0) := by omega
              rw [goC, stepC_1, hgl, if_pos (.inr hv)] at hgo
              injection hgo with e1 e2
              subst e1 e2
              have hT : T = 80 := by simpa using HT.out
              subst hT
              rw [h7] at q7
              clear HR5 HR6 HR7 HT hby hgl hbd
              go_wp2_with fail
              refine C0.out.mono ?_
              rintro e w' ⟨rfl, rfl⟩
              unfold numV
              go_wp2
              go_ret
              exact ⟨rfl, HB2.out⟩
            have hvI : ¬ ((1000 : Int) < (n1 : Int)) := by omega
            have hst : stepC 1 st.rest = some ([n1], [], st.rest.drop kk) := by rw [stepC_1, hgl, if_neg (by rintro (e | e) <;> simp only at e <;> omega)]
            have e5 := goC_num (cs := calls.drop (j + 1)) hst
            have e7 := goC_len (cs := calls.drop (j + 1)) hst
            rw [goC_step hst] at hgo e5 e7
            rw [hgo] at e5 e7
            rw [h7] at e7
            simp only at e5 e7 hbd
            have l5 := (List.getElem?_eq_some_iff.1 e5).1
            have l7 := (List.getElem?_eq_some_iff.1 e7).1
            have hle : kk ≤ m' := by rcases hbd with e | e <;> simp_all
            have hk0 : 0 < kk := by omega
            obtain ⟨b', o', rfl, _⟩ := hby.2 (by omega)
            have HBN := Lib.hid (show BytesAt wr (if c' = kk then some ⟨b', o', none⟩ else some ⟨b', o' + kk, none⟩) (m' - kk) (st.rest.drop kk) from by
              split
              · exact ⟨by rw [List.length_drop]; omega, fun h => by omega⟩
              · exact hby.drop_ hle)
            have c5 : wr.cell? ⟨g5, st.nums.length, none⟩ = some (.int .i64 (n1 : Nat)) := HR5.out _ _ (by rw [List.getElem?_map, e5]; rfl)
            have c7 : wr.cell? ⟨g7, j, none⟩ = some (.int .i64 ((m' - kk : Nat) : Int)) := HR7.out _ _ (by rw [List.getElem?_map, e7]; simp [nV]; omega)
            have hkI : ¬ ((kk : Int) = 0) := by omega
            have hleI : (kk : Int) ≤ m' := by omega
            have i5 : ¬ ((sf.nums.length : Nat) : Int) ≤ ((st.nums.length : Nat) : Int) := by omega
            have i5' : ((st.nums.length : Nat) : Int) < ((sf.nums.length : Nat) : Int) := by omega
            have i7 : ¬ ((sf.left.length : Nat) : Int) ≤ (j : Int) := by omega
            have i7' : (j : Int) < ((sf.left.length : Nat) : Int) := by omega
            have hkb : ((kk : Int) == 0) = false := by simpa using hk
            have hvb : decide ((1000 : Int) < (n1 : Int)) = false := decide_eq_false hvI
            have HGO := Lib.hid hgo
            clear hgo hst e5 e7 hbd hby hgl
            go_wp2_with fail
            refine C0.out.mono ?_
            rintro e w' ⟨rfl, rfl⟩
            unfold numV
            go_wp2
            go_roundw
            case rel => exact ⟨j + 1, st.add ([n1], [], st.rest.drop kk), (if c' = kk then some ⟨b', o', none⟩ else some ⟨b', o' + kk, none⟩), m' - kk, c' - kk, by omega, by go_num, HGO.out, by simp [RSt.add]; omega, by simp [RSt.add]; omega, by simp [RSt.add]; omega, rfl, HBN.out, by omega, by omega, by simp [RSt.add], by simp [RSt.add], by trivial⟩
            case measure => simp [intOf]; omega
        · by_cases h2 : z = 2
          · subst h2
            have C0 := Lib.hid (getText_any (c := c') (most := 40) hby (by unfold maxLen; omega) hmc)
            have hbd := getT_bd 40 st.rest
            obtain ⟨s1, kk, hgl⟩ : ∃ s1 kk, getT 40 st.rest = (s1, kk) := ⟨_, _, rfl⟩
            rw [hgl] at C0 hbd
            have hbl := hby.1
            by_cases hk : kk = 0
            · subst hk
              rw [goC, stepC_2, hgl, if_pos rfl] at hgo
              injection hgo with e1 e2
              subst e1 e2
              have hT : T = 80 := by simpa using HT.out
              subst hT
              rw [h7] at q7
              clear HR5 HR6 HR7 HT hby hgl hbd
              go_wp2_with fail
              refine C0.out.mono ?_
              rintro e w' ⟨rfl, rfl⟩
              unfold txtV
              go_wp2
              go_ret
              exact ⟨rfl, HB2.out⟩
            · have hst : stepC 2 st.rest = some ([], [s1], st.rest.drop kk) := by rw [stepC_2, hgl, if_neg hk]
              have e5 := goC_text (cs := calls.drop (j + 1)) hst
              have e7 := goC_len (cs := calls.drop (j + 1)) hst
              rw [goC_step hst] at hgo e5 e7
              rw [hgo] at e5 e7
              rw [h7] at e7
              simp only at e5 e7 hbd
              have l5 := (List.getElem?_eq_some_iff.1 e5).1
              have l7 := (List.getElem?_eq_some_iff.1 e7).1
              have hle : kk ≤ m' := by omega
              have hk0 : 0 < kk := by omega
              obtain ⟨b', o', rfl, _⟩ := hby.2 (by omega)
              have HBN := Lib.hid (show BytesAt wr (if c' = kk then some ⟨b', o', none⟩ else some ⟨b', o' + kk, none⟩) (m' - kk) (st.rest.drop kk) from by
                split
                · exact ⟨by rw [List.length_drop]; omega, fun h => by omega⟩
                · exact hby.drop_ hle)
              have c5 : wr.cell? ⟨g6, st.texts.length, none⟩ = some (.string ⟨s1.toArray⟩) := HR6.out _ _ (by rw [List.getElem?_map, e5]; rfl)
              have c7 : wr.cell? ⟨g7, j, none⟩ = some (.int .i64 ((m' - kk : Nat) : Int)) := HR7.out _ _ (by rw [List.getElem?_map, e7]; simp [nV]; omega)
              have hkI : ¬ ((kk : Int) = 0) := by omega
              have hleI : (kk : Int) ≤ m' := by omega
              have i5 : ¬ ((sf.texts.length : Nat) : Int) ≤ ((st.texts.length : Nat) : Int) := by omega
              have i5' : ((st.texts.length : Nat) : Int) < ((sf.texts.length : Nat) : Int) := by omega
              have i7 : ¬ ((sf.left.length : Nat) : Int) ≤ (j : Int) := by omega
              have i7' : (j : Int) < ((sf.left.length : Nat) : Int) := by omega
              have HGO := Lib.hid hgo
              clear hgo hst e5 e7 hbd hby hgl
              go_wp2_with fail
              refine C0.out.mono ?_
              rintro e w' ⟨rfl, rfl⟩
              unfold txtV
              go_wp2
              go_roundw
              case rel => exact ⟨j + 1, st.add ([], [s1], st.rest.drop kk), (if c' = kk then some ⟨b', o', none⟩ else some ⟨b', o' + kk, none⟩), m' - kk, c' - kk, by omega, by go_num, HGO.out, by simp [RSt.add]; omega, by simp [RSt.add]; omega, by simp [RSt.add]; omega, rfl, HBN.out, by omega, by omega, by simp [RSt.add], by simp [RSt.add], by trivial⟩
              case measure => simp [intOf]; omega
          · have z0 : (z == 0) = false := by simpa using h0
            have z1 : (z == 1) = false := by simpa using h1
            have z2 : (z == 2) = false := by simpa using h2
            have hst : stepC z st.rest = some ([], [], st.rest) := stepC_o _ h0 h1 h2
            have e7 := goC_len (cs := calls.drop (j + 1)) hst
            rw [goC_step hst] at hgo e7
            rw [hgo] at e7
            rw [h7] at e7
            simp only at e7
            have l7 := (List.getElem?_eq_some_iff.1 e7).1
            have hbl := hby.1
            have c7 : wr.cell? ⟨g7, j, none⟩ = some (.int .i64 ((m' : Nat) : Int)) := HR7.out _ _ (by rw [List.getElem?_map, e7]; simp [nV]; omega)
            have i7 : ¬ ((sf.left.length : Nat) : Int) ≤ (j : Int) := by omega
            have i7' : (j : Int) < ((sf.left.length : Nat) : Int) := by omega
            have HGO := Lib.hid hgo
            have HBN := Lib.hid hby
            clear hgo hst e7 hby
            go_wp2
            go_roundw
            case rel => exact ⟨j + 1, st.add ([], [], st.rest), _, m', c', by omega, by go_num, HGO.out, by simp [RSt.add]; omega, by simp [RSt.add]; omega, by simp [RSt.add]; omega, rfl, HBN.out, by omega, by omega, by simp [RSt.add], by simp [RSt.add], by trivial⟩
            case measure => simp [intOf]; omega
    · obtain rfl : j = m := by omega
      rw [List.drop_of_length_le (by have := HLC.out; omega), goC_nil] at hgo
      injection hgo with e1 e2
      subst e1 e2
      have hbl := hby.1
      clear HR5 HR6 HR7 hby
      by_cases hm0 : m' = 0
      · have hT : T = 0 := by rw [HT.out, List.eq_nil_of_length_eq_zero (by omega : st.rest.length = 0)]; rfl
        subst hT hm0
        clear HT
        go_wp2
        go_ret
        exact ⟨rfl, HB2.out⟩
      · have hT : T = 80 := by
          rw [HT.out]
          cases hr : st.rest with
          | nil => rw [hr] at hbl; simp at hbl; omega
          | cons x r => rfl
        subst hT
        have hmI : ¬ ((m' : Int) = 0) := by omega
        clear HT
        go_wp2
        go_ret
        rw [show ((m' : Int) == 0) = false from by simpa using hmI]
        exact ⟨rfl, HB2.out⟩
end Go.Proofs.Yteokiaeojgjpdaa
