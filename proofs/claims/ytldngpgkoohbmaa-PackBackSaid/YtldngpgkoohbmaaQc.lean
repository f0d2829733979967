/- PackBack's function reads what was written. -/
import Derived.Test.YtldngpgkoohbmaaQb
namespace Go.Proofs.Ytldngpgkoohbmaa
open Go.RowKit

/-- The texts that are written: up to the 50th, up to the first that is too long. -/
def tsOf (ss : List ByteArray) : List ByteArray := (ss.take 50).takeWhile fun s => decide (s.size ≤ 500)
def tl (ss : List ByteArray) : List (List UInt8) := ss.map fun s => s.data.toList
/-- What f leaves: all read, or refused. -/
def BP (w : World) (rp ob : Nat) (X : Nat → Prop) (q : Option (List UInt8)) (e : Ending) (w' : World) : Prop :=
  (match q with | some r => e = .returned (.tuple #[]) ∧ RdAt w' rp X r false | none => e = refusE rp ∧ ∃ bs', RdAt w' rp X bs' true) ∧ Blk w' ob 4 #[.bool true] ∧ Kept (fun j => j = rp ∨ j = ob) w w'
def BInv (w : World) (rp ob : Nat) (X : Nat → Prop) (q : Option (List UInt8)) (ns : List Int) (ts : List (List UInt8)) (i : Value) (wr : World) : Prop := ∃ j : Nat, j ≤ ns.length ∧ i = .int .i64 (j : Nat) ∧ RdAt wr rp X (rsQ q (encN (ns.drop j) ++ encT ts)) false ∧ Blk wr ob 4 #[.bool true] ∧ Kept (fun j => j = rp ∨ j = ob) w wr ∧ (q = none → encN (ns.drop j) ++ encT ts ≠ [])
def BInv2 (w : World) (rp ob : Nat) (X : Nat → Prop) (q : Option (List UInt8)) (ts : List (List UInt8)) (i : Value) (wr : World) : Prop := ∃ j : Nat, j ≤ ts.length ∧ i = .int .i64 (j : Nat) ∧ RdAt wr rp X (rsQ q (encT (ts.drop j))) false ∧ Blk wr ob 4 #[.bool true] ∧ Kept (fun j => j = rp ∨ j = ob) w wr ∧ (q = none → encT (ts.drop j) ≠ [])
theorem encN_drop {ns : List Int} {j : Nat} {n : Int} (h : ns[j]? = some n) : encN (ns.drop j) = numL (numC n) ++ encN (ns.drop (j + 1)) := by
  obtain ⟨hl, rfl⟩ := List.getElem?_eq_some_iff.1 h
  rw [List.drop_eq_getElem_cons hl]; rfl
theorem encT_drop {ts : List (List UInt8)} {j : Nat} {s : List UInt8} (h : ts[j]? = some s) : encT (ts.drop j) = textL s ++ encT (ts.drop (j + 1)) := by
  obtain ⟨hl, rfl⟩ := List.getElem?_eq_some_iff.1 h
  rw [List.drop_eq_getElem_cons hl]; rfl
theorem mem_tw (p : ByteArray → Bool) : ∀ (l : List ByteArray) {x : ByteArray}, x ∈ l.takeWhile p → p x = true
  | [], _, h => by simp at h
  | y :: r, x, h => by
    by_cases hp : p y = true
    · rw [List.takeWhile_cons_of_pos hp] at h
      rcases List.mem_cons.1 h with e | h
      · rw [e]; exact hp
      · exact mem_tw p r h
    · rw [List.takeWhile_cons_of_neg hp] at h
      cases h
theorem tsOf_get {ss : List ByteArray} {i : Nat} {s : ByteArray} (h : (tsOf ss)[i]? = some s) : ss[i]? = some s ∧ i < 50 ∧ s.size ≤ 500 := by
  have hp : tsOf ss <+: ss := (List.takeWhile_prefix _).trans (List.take_prefix _ _)
  have hp2 : tsOf ss <+: ss.take 50 := List.takeWhile_prefix _
  have hl := (List.getElem?_eq_some_iff.1 h).1
  refine ⟨?_, ?_, ?_⟩
  · obtain ⟨r, e⟩ := hp
    rw [← h, ← e, List.getElem?_append_left hl]
    rw [e]
  · have := hp2.length_le; rw [List.length_take] at this; omega
  · have hm := List.mem_of_getElem? h
    have := mem_tw _ _ hm
    simpa using this
/-- Where the texts that are written end. -/
theorem tsOf_end {ss : List ByteArray} : (tsOf ss).length = ss.length ∨ (tsOf ss).length = 50 ∨ ∃ s, ss[(tsOf ss).length]? = some s ∧ 500 < s.size := by
  have key : ∀ l : List ByteArray, (l.takeWhile fun s => decide (s.size ≤ 500)).length = l.length ∨ ∃ s, l[(l.takeWhile fun s => decide (s.size ≤ 500)).length]? = some s ∧ 500 < s.size := by
    intro l
    induction l with
    | nil => exact .inl rfl
    | cons x r ih =>
      by_cases h : x.size ≤ 500
      · rw [List.takeWhile_cons_of_pos (by simpa using h)]
        rcases ih with ih | ⟨s, h1, h2⟩
        · exact .inl (by simp [ih])
        · exact .inr ⟨s, by simpa using h1, h2⟩
      · rw [List.takeWhile_cons_of_neg (by simpa using h)]
        exact .inr ⟨x, rfl, by omega⟩
  rcases key (ss.take 50) with h | ⟨s, h1, h2⟩
  · have : (tsOf ss).length = min 50 ss.length := by unfold tsOf; rw [h, List.length_take]
    omega
  · right; right
    refine ⟨s, ?_, h2⟩
    have hl := (List.getElem?_eq_some_iff.1 h1).1
    rw [List.length_take] at hl
    have h3 : (ss.take 50)[(tsOf ss).length]? = some s := h1
    have h4 : (tsOf ss).length < min 50 ss.length := hl
    rw [List.getElem?_take_of_lt (by omega)] at h3
    exact h3
set_option maxHeartbeats 8000000 in
set_option maxRecDepth 100000 in
theorem back1_any {w : World} {rp nb ob tb : Nat} {X : Nat → Prop} {A B : Option Addr} {n c m d : Nat} {ns : List Int} {ss : List ByteArray} (q : Option (List UInt8)) (h : RdAt w rp X (rsQ q (encN (ns.take 50) ++ encT (tl (tsOf ss)))) false)
    (hn : Blk w nb 64 #[.slice A n c]) (ho : Blk w ob 4 #[.bool true]) (ht : Blk w tb 55 #[.slice B m d]) (hN : IntsAt w A n ns) (hS : StrsAt w B m ss) (hnl : n ≤ maxLen) (hml : m ≤ maxLen)
    (h1 : nb ≠ rp) (h2 : ob ≠ rp) (h3 : tb ≠ rp) (h4 : nb ≠ ob) (h5 : tb ≠ ob) (hX : ¬ X ob) (hA : 0 < n → ∀ b o, A = some ⟨b, o, none⟩ → b ≠ rp ∧ b ≠ ob) (hB : 0 < m → ∀ b o, B = some ⟨b, o, none⟩ → b ≠ rp ∧ b ≠ ob) (hq : q = none → encN (ns.take 50) ++ encT (tl (tsOf ss)) ≠ []) :
    Calls Try.prog 42 #[.pointer (some ⟨rp, 0, none⟩), .pointer (some ⟨nb, 0, none⟩), .pointer (some ⟨ob, 0, none⟩), .pointer (some ⟨tb, 0, none⟩)] w (BP w rp ob X q) := by
  have hNl := hN.1
  have hSl := hS.1
  unfold maxLen at hnl hml
  obtain ⟨us, hus⟩ : ∃ us, us = ns.take 50 := ⟨_, rfl⟩
  obtain ⟨ts, hts⟩ : ∃ ts, ts = tl (tsOf ss) := ⟨_, rfl⟩
  rw [← hus, ← hts] at h hq
  have hul : us.length = min 50 n := by rw [hus, List.length_take, hNl]
  have HUS := Lib.hid hus
  have HTS := Lib.hid hts
  have HUL := Lib.hid hul
  have q0 : w.cell? ⟨nb, 0, none⟩ = some (.slice A n c) := hn.cell 0
  have HT := Lib.hid ht
  have HO := Lib.hid ho
  have HH := Lib.hid h
  have HQ := Lib.hid hq
  have HN := Lib.hid hN
  have HS := Lib.hid hS
  have NY := Lib.hid (fun (b : Nat) (h : b ≠ rp ∧ b ≠ ob) => show ¬ (fun j => j = rp ∨ j = ob) b by rintro (e | e); exact h.1 e; exact h.2 e)
  clear hn ht ho h hq hN hS hus hts hul
  go_enter Try.func42, Try.ntmps42
  go_wp2_with fail
  go_loopw [11] (fun i wr => BInv w rp ob X q us ts i wr) (fun i _ => 50 - (intOf i).toNat)
  case atStart => exact ⟨0, Nat.zero_le _, rfl, HH.out, HO.out, Kept.refl _ _, HQ.out⟩
  case round =>
    obtain ⟨j, hj, rfl, hr, hob, kp, hqn⟩ := hrel
    have hjn : j ≤ n := by have := HUL.out; omega
    have hj50 : j ≤ 50 := by have := HUL.out; omega
    by_cases hlt : j < us.length
    · have hltn : j < n := by have := HUL.out; omega
      have hlt' : (j : Int) < (n : Int) := by omega
      have h50 : ¬ (50 : Int) ≤ (j : Int) := by have := HUL.out; omega
      obtain ⟨b, o, rfl, hbw, hcells⟩ := HN.out.2 (by omega)
      obtain ⟨z, hz⟩ : ∃ z, us[j]? = some z := ⟨us[j], List.getElem?_eq_getElem _⟩
      have hz2 : ns[j]? = some z := by rw [← hz, HUS.out, List.getElem?_take_of_lt (by omega)]
      have hbne := hA (by omega) b o rfl
      have y1 : wr.cell? ⟨b, o + j, none⟩ = some (.int .i64 z) := by
        rw [World.cell?_of_block (a := ⟨b, o + j, none⟩) (kp.block b hbw (NY.out b hbne))]; exact hcells j z hz2
      have o0 : wr.cell? ⟨ob, 0, none⟩ = some (.bool true) := hob.cell 0
      have o1 : wr.frozen? ⟨ob, 0, none⟩ = false := hob.frozen 0
      have hed := encN_drop hz
      have hzc := numC_le z
      have HZE := Lib.hid (numC_eq z)
      have HOB := Lib.hid hob
      have KP := Lib.hid kp
      rw [hed, List.append_assoc] at hr hqn
      have HRES := Lib.hid (fun (w1 w2 : World) (hr1 : RdAt w1 rp X (rsQ q (encN (us.drop (j + 1)) ++ encT ts)) false) (k1 : Kept (· = rp) wr w1) (hl : q = none → encN (us.drop (j + 1)) ++ encT ts ≠ []) (e2 : w2 = w1.setCell ⟨ob, 0, none⟩ (.bool true)) => show BInv w rp ob X q us ts (.int .i64 ((j + 1 : Nat) : Int)) w2 from by
        subst e2
        exact ⟨j + 1, by omega, rfl, hr1.set_ (p := ⟨ob, 0, none⟩) h2 hX _, (hob.kept k1 h2).set_ 0 (.bool true), (kp.trans k1 (fun j hj => .inl (.inl hj))).set_ (p := ⟨ob, 0, none⟩) (.inl (.inr rfl)) _, hl⟩)
      by_cases hlast : q = none ∧ encN (us.drop (j + 1)) ++ encT ts = []
      · obtain ⟨rfl, hl2⟩ := hlast
        have e0 : rsQ none (numL (numC z) ++ (encN (us.drop (j + 1)) ++ encT ts)) = (numL (numC z)).dropLast := by
          rw [hl2, List.append_nil]; rfl
        rw [e0] at hr
        have C := Lib.hid (rdNum_no hr (getL_drop hzc))
        clear hcells hz hz2 hed hr hob kp hqn HRES HZE hl2 e0
        go_wp2_with fail
        refine C.out.mono ?_
        rintro e w1 ⟨rfl, hr1, k1⟩
        have HR1 := Lib.hid hr1
        have HO1 := Lib.hid (HOB.out.kept k1 h2)
        have K1 := Lib.hid (KP.out.trans k1 (fun j hj => .inl (.inl hj)))
        clear hr1 k1
        unfold refusE
        go_wp2
        exact ⟨rfl, ⟨rfl, _, HR1.out⟩, HO1.out, K1.out⟩
      · have hl2 : q = none → encN (us.drop (j + 1)) ++ encT ts ≠ [] := fun e e2 => hlast ⟨e, e2⟩
        have HL2 := Lib.hid hl2
        rw [rsQ_app hl2] at hr
        have C := Lib.hid (rdNum_yes hr (getL_num hzc _) (by have := numL_len (numC z); omega))
        rw [List.drop_left' rfl] at C
        have hcases : (z < 0 ∧ ((numC z : Nat) : Int) = 0) ∨ (0 ≤ z ∧ 4611686018427387904 < z ∧ ((numC z : Nat) : Int) = 4611686018427387904) ∨ (0 ≤ z ∧ z ≤ 4611686018427387904 ∧ ((numC z : Nat) : Int) = z) := by have := HZE.out; omega
        clear hcells hz hz2 hed hr hob kp hqn HZE hl2 hlast hzc
        rcases hcases with ⟨z1, z2⟩ | ⟨z1, z3, z2⟩ | ⟨z1, z3, z2⟩
        all_goals
          rw [z2] at C
          clear z2
          go_wp2_with fail
          refine C.out.mono ?_
          rintro e w1 ⟨rfl, hr1, k1⟩
          have ob1 := HOB.out.kept k1 h2
          have p0 : w1.cell? ⟨ob, 0, none⟩ = some (.bool true) := ob1.cell 0
          have p1 : w1.frozen? ⟨ob, 0, none⟩ = false := ob1.frozen 0
          have HB2 := Lib.hid (HRES.out w1 _ hr1 k1 HL2.out rfl)
          clear hr1 k1 ob1 HRES
          go_wp2
          go_roundw
          case rel =>
            have := HB2.out
            rw [show (((j + 1 : Nat)) : Int) = (j : Int) + 1 by omega] at this
            exact this
          case measure => simp [intOf]; omega
    · have hje : us.drop j = [] := List.drop_of_length_le (by omega)
      rw [hje] at hr hqn
      have hen : encN [] ++ encT ts = encT ts := rfl
      rw [hen] at hr hqn
      have HOB := Lib.hid hob
      have KP := Lib.hid kp
      have HR := Lib.hid hr
      have HQN := Lib.hid hqn
      have t0 : wr.cell? ⟨tb, 0, none⟩ = some (.slice B m d) := (HT.out.kept kp (NY.out tb ⟨h3, h5⟩)).cell 0
      have hways : (j < n ∧ 50 ≤ j) ∨ ¬ j < n := by have := HUL.out; omega
      have hcell : j < n → ∃ b o z, A = some ⟨b, o, none⟩ ∧ wr.cell? ⟨b, o + j, none⟩ = some (.int .i64 z) := fun hl => by
        obtain ⟨b, o, e, hbw, hcells⟩ := HN.out.2 (by omega)
        obtain ⟨z, hz⟩ : ∃ z, ns[j]? = some z := ⟨ns[j]'(by omega), List.getElem?_eq_getElem _⟩
        exact ⟨b, o, z, e, (World.cell?_of_block (a := ⟨b, o + j, none⟩) (kp.block b hbw (NY.out b (hA (by omega) b o e)))).trans (hcells j z hz)⟩
      have htl : ts.length = (tsOf ss).length := by rw [HTS.out]; unfold tl; rw [List.length_map]
      have HTL := Lib.hid htl
      have HEND := Lib.hid (tsOf_end (ss := ss))
      have hpre : (tsOf ss).length ≤ m ∧ (tsOf ss).length ≤ 50 := by
        have hp : tsOf ss <+: ss := (List.takeWhile_prefix _).trans (List.take_prefix _ _)
        have hp2 : tsOf ss <+: ss.take 50 := List.takeWhile_prefix _
        have l1 := hp.length_le
        have l2 := hp2.length_le
        rw [List.length_take] at l2
        omega
      have HPRE := Lib.hid hpre
      clear hr hqn hob hje hen htl hpre hlt
      have hstart : (∃ b o z, A = some ⟨b, o, none⟩ ∧ wr.cell? ⟨b, o + j, none⟩ = some (.int .i64 z) ∧ (j : Int) < (n : Int) ∧ (50 : Int) ≤ (j : Int)) ∨ ¬ (j : Int) < (n : Int) := by
        rcases hways with ⟨h6, h7⟩ | h6
        · obtain ⟨b, o, z, e, hc⟩ := hcell h6
          exact .inl ⟨b, o, z, e, hc, by omega, by omega⟩
        · exact .inr (by omega)
      clear hways hcell kp
      rcases hstart with ⟨b, o, z, rfl, y1, hlt', h50⟩ | hlt'
      all_goals
        go_wp2_with fail
        go_loopw [30] (fun i wr => BInv2 w rp ob X q ts i wr) (fun i _ => 50 - (intOf i).toNat)
        case atStart => exact ⟨0, Nat.zero_le _, rfl, HR.out, HOB.out, KP.out, HQN.out⟩
        case round =>
          clear HR HOB KP HQN t0
          obtain ⟨i, hi, rfl, hr, hob, kp, hqn⟩ := hrel
          have him : i ≤ m := by have := HTL.out; have := HPRE.out; omega
          have hi50 : i ≤ 50 := by have := HTL.out; have := HPRE.out; omega
          by_cases hlt : i < ts.length
          · obtain ⟨s, hs0⟩ : ∃ s, (tsOf ss)[i]? = some s := ⟨(tsOf ss)[i]'(by have := HTL.out; omega), List.getElem?_eq_getElem _⟩
            obtain ⟨hs1, hs50, hs500⟩ := tsOf_get hs0
            have hsl : s.data.toList.length = s.size := rfl
            have hti : ts[i]? = some s.data.toList := by rw [HTS.out]; unfold tl; rw [List.getElem?_map, hs0]; rfl
            have hlt2 : (i : Int) < (m : Int) := by have := HTL.out; have := HPRE.out; omega
            have hi50' : ¬ (50 : Int) ≤ (i : Int) := by omega
            have hs5 : ¬ (500 : Int) < (s.size : Int) := by omega
            obtain ⟨b2, o2, rfl, hbw, hcells⟩ := HS.out.2 (by omega)
            have hbne := hB (by omega) b2 o2 rfl
            have y2 : wr.cell? ⟨b2, o2 + i, none⟩ = some (.string s) := by
              rw [World.cell?_of_block (a := ⟨b2, o2 + i, none⟩) (kp.block b2 hbw (NY.out b2 hbne))]; exact hcells i s hs1
            have o0 : wr.cell? ⟨ob, 0, none⟩ = some (.bool true) := hob.cell 0
            have o1 : wr.frozen? ⟨ob, 0, none⟩ = false := hob.frozen 0
            have hed := encT_drop hti
            have HOB := Lib.hid hob
            have KP := Lib.hid kp
            rw [hed] at hr hqn
            have HRES := Lib.hid (fun (w1 w2 : World) (hr1 : RdAt w1 rp X (rsQ q (encT (ts.drop (i + 1)))) false) (k1 : Kept (· = rp) wr w1) (hl : q = none → encT (ts.drop (i + 1)) ≠ []) (e2 : w2 = w1.setCell ⟨ob, 0, none⟩ (.bool true)) => show BInv2 w rp ob X q ts (.int .i64 ((i + 1 : Nat) : Int)) w2 from by
              subst e2
              exact ⟨i + 1, by omega, rfl, hr1.set_ (p := ⟨ob, 0, none⟩) h2 hX _, (hob.kept k1 h2).set_ 0 (.bool true), (kp.trans k1 (fun j hj => .inl (.inl hj))).set_ (p := ⟨ob, 0, none⟩) (.inl (.inr rfl)) _, hl⟩)
            by_cases hlast : q = none ∧ encT (ts.drop (i + 1)) = []
            · obtain ⟨rfl, hl2⟩ := hlast
              have e0 : rsQ none (textL s.data.toList ++ encT (ts.drop (i + 1))) = (textL s.data.toList).dropLast := by
                rw [hl2, List.append_nil]; rfl
              rw [e0] at hr
              have C := Lib.hid (rdText_no hr 500 (by decide) (by decide) (getT_drop (by rw [hsl]; omega)))
              clear hcells hs0 hs1 hti hed hr hob kp hqn HRES hl2 e0 hsl
              go_wp2_with fail
              refine C.out.mono ?_
              rintro e w1 ⟨rfl, hr1, k1⟩
              have HR1 := Lib.hid hr1
              have HO1 := Lib.hid (HOB.out.kept k1 h2)
              have K1 := Lib.hid (KP.out.trans k1 (fun j hj => .inl (.inl hj)))
              clear hr1 k1
              unfold refusE
              go_wp2
              exact ⟨rfl, ⟨rfl, _, HR1.out⟩, HO1.out, K1.out⟩
            · have hl2 : q = none → encT (ts.drop (i + 1)) ≠ [] := fun e e2 => hlast ⟨e, e2⟩
              have HL2 := Lib.hid hl2
              rw [rsQ_app hl2] at hr
              have C := Lib.hid (rdText_yes hr 500 (by decide) (by decide) (getT_text (by rw [hsl]; omega) (by rw [hsl]; omega)) (by have := numL_len s.data.toList.length; unfold textL; rw [List.length_append]; omega))
              rw [List.drop_left' rfl, show (⟨s.data.toList.toArray⟩ : ByteArray) = s by cases s; simp] at C
              clear hcells hs0 hs1 hti hed hr hob kp hqn hl2 hlast hsl
              go_wp2_with fail
              refine C.out.mono ?_
              rintro e w1 ⟨rfl, hr1, k1⟩
              have ob1 := HOB.out.kept k1 h2
              have p0 : w1.cell? ⟨ob, 0, none⟩ = some (.bool true) := ob1.cell 0
              have p1 : w1.frozen? ⟨ob, 0, none⟩ = false := ob1.frozen 0
              have HB2 := Lib.hid (HRES.out w1 _ hr1 k1 HL2.out rfl)
              clear hr1 k1 ob1 HRES
              go_wp2
              go_roundw
              case rel =>
                have := HB2.out
                rw [show (((i + 1 : Nat)) : Int) = (i : Int) + 1 by omega] at this
                exact this
              case measure => simp [intOf]; omega
          · have hie : ts.drop i = [] := List.drop_of_length_le (by omega)
            rw [hie] at hr hqn
            obtain ⟨r, rfl⟩ : ∃ r, q = some r := by
              cases q with
              | none => exact absurd rfl (hqn rfl)
              | some r => exact ⟨r, rfl⟩
            have hr' : RdAt wr rp X r false := hr
            have HR := Lib.hid hr'
            have HOB := Lib.hid hob
            have KP := Lib.hid kp
            have hil : i = (tsOf ss).length := by have := HTL.out; omega
            have hend := HEND.out
            rw [← hil] at hend
            have hw3 : ¬ (i : Int) < (m : Int) ∨ (∃ b2 o2 s, B = some ⟨b2, o2, none⟩ ∧ wr.cell? ⟨b2, o2 + i, none⟩ = some (.string s) ∧ (i : Int) < (m : Int) ∧ ((50 : Int) ≤ (i : Int) ∨ (¬ (50 : Int) ≤ (i : Int) ∧ (500 : Int) < (s.size : Int)))) := by
              by_cases h6 : i < m
              · right
                obtain ⟨b2, o2, e, hbw, hcells⟩ := HS.out.2 (by omega)
                obtain ⟨s, hs⟩ : ∃ s, ss[i]? = some s := ⟨ss[i]'(by omega), List.getElem?_eq_getElem _⟩
                refine ⟨b2, o2, s, e, (World.cell?_of_block (a := ⟨b2, o2 + i, none⟩) (kp.block b2 hbw (NY.out b2 (hB (by omega) b2 o2 e)))).trans (hcells i s hs), by omega, ?_⟩
                rcases hend with h7 | h7 | ⟨s', h7, h8⟩
                · omega
                · left; omega
                · rw [hs] at h7; injection h7 with h7; subst h7
                  by_cases h9 : 50 ≤ i
                  · left; omega
                  · right; omega
              · left; omega
            clear hr hr' hob kp hqn hie hil hend
            rcases hw3 with hx | ⟨b2, o2, s, rfl, y2, hx, hx2 | ⟨hx2, hx3⟩⟩
            all_goals
              go_wp2
              go_end0
              exact ⟨⟨rfl, HR.out⟩, HOB.out, KP.out⟩
end Go.Proofs.Ytldngpgkoohbmaa
