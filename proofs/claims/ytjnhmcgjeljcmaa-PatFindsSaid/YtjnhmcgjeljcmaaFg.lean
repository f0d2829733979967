/- NfaFinds answers true. Bytes copied, and put together, in new memory. The document's Find. PatCompiles' walk. PatGrows' walk. -/
import Derived.Test.YtjnhmcgjeljcmaaOzj
import Derived.Test.YtjnhmcgjeljcmaaBt
import Derived.Deep.MidRow
import Derived.Test.YtjnhmcgjeljcmaaIk
import Derived.Test.YtjnhmcgjeljcmaaFh
import Derived.IntWalk
namespace Go.Proofs.Ytjnhmcgjeljcmaa
open Go.RowKit Go.Maps

def RfPost (w : World) (d : Nat) (t : Tr) (s : List UInt8) (e : Ending) (w' : World) : Prop := ∃ (a b : Int) (ok : Bool), e = .returned (.tuple #[.int .i64 a, .int .i64 b, .bool ok]) ∧ findR s d t a b ok ∧ Below w.heap.size w w'
set_option maxHeartbeats 1000000 in
set_option maxRecDepth 100000 in
theorem rfind_any {d : Nat} {t : Tr} {v0 v1 v2 : Value} {w : World} (h : TreeAt w (· < w.heap.size) d t [v0, v1, v2]) (hg : GoodT d t) (s : ByteArray) (hs : s.size ≤ 99000) : Calls Try.prog 45 #[.agg #[v0, v1, v2], .string s] w (RfPost w d t s.data.toList) := by
  obtain ⟨k, A, n, c, A', n', c', rfl, rfl, rfl⟩ := tree_shape h
  have hb0 : Below w.heap.size w (w.alloc (.cells #[.int .i64 k, .slice A n c, .slice A' n' c'] 26)) := (Below.refl _ w).alloc (Nat.le_refl _) _
  have HTB := Lib.hid (table_any d t _ _ _ s _ (tree_below h hb0) hg hs)
  have HB0 := Lib.hid hb0
  have HSL := Lib.hid (show s.data.toList.length = s.size from rfl)
  clear hb0 h hg
  go_enter Try.func45, Try.ntmps45
  go_wp2_with fail
  refine HTB.out.mono ?_
  rintro e w2 ⟨g, rb, cc, rfl, hcc, ht, b2⟩
  have HB2 := Lib.hid (HB0.out.trans (b2.mono HB0.out.size))
  have HTA := Lib.hid ht
  clear b2 ht HTB HB0
  go_wp2_with fail
  go_loopw [8, 9] (fun vi _ wr => ∃ i : Nat, i ≤ s.size + 1 ∧ vi = .int .i64 (i : Nat) ∧ (∀ g, g < i → ∀ k, k ≤ s.data.toList.length → ¬ Mt s.data.toList d t g k) ∧ Below w2.heap.size w2 wr) (fun vi _ _ => s.size + 1 - (intOf vi).toNat)
  case atStart => exact ⟨0, by omega, rfl, (fun g hg => absurd hg (by omega)), Below.refl _ _⟩
  case round =>
    obtain ⟨i, hi, rfl, hno, hb⟩ := hrel
    have HNO := Lib.hid hno
    have HB := Lib.hid hb
    by_cases hle : i ≤ s.size
    · have hle' : (i : Int) ≤ (s.size : Int) := by omega
      have HL := Lib.hid (show Calls Try.prog 77 #[.slice (some ⟨g, 0, none⟩) (s.size + 1) cc, .int .i64 (i : Nat)] wr (LaPost wr (tabT s.data.toList d t) (s.size + 1) i) from last_any (HTA.out.below hb) (by omega) (by omega) hcc)
      clear hno hb
      go_wp2_with fail
      refine HL.out.mono ?_
      rintro e w7 ⟨r7, rfl, hr7, hb7⟩
      have HB7 := Lib.hid (HB.out.trans (hb7.mono HB.out.size))
      have hR : (r7 = -1 ∧ ∀ k, k ≤ s.data.toList.length → ¬ Mt s.data.toList d t i k) ∨ ∃ u : Nat, r7 = (u : Nat) ∧ findR s.data.toList d t (i : Nat) (u : Nat) true := by
        have hsl := HSL.out
        rcases hr7 with ⟨e, hn⟩ | ⟨u, e, hu, hm, hl⟩
        · exact .inl ⟨e, fun k hk hm => by
            have := (tab_Mt d t i k (by omega) hk).2 hm
            rw [hn k (by omega)] at this; cases this⟩
        · exact .inr ⟨u, e, .inr ⟨rfl, i, u, rfl, rfl, by omega, by omega, (tab_Mt d t i u (by omega) (by omega)).1 hm, (fun k h1 h2 h3 => by
            have := (tab_Mt d t i k (by omega) h2).2 h3
            rw [hl k h1 (by omega)] at this; cases this), HNO.out⟩⟩
      clear hr7 hb7 HL
      rcases hR with ⟨rfl, hn⟩ | ⟨u, rfl, hfr⟩
      · have HN7 := Lib.hid hn
        clear hn
        go_wp2_with fail
        go_roundw
        case rel => exact ⟨i + 1, by omega, by go_num, (fun g hg => by
          rcases Nat.lt_or_ge g i with h' | h'
          · exact HNO.out g h'
          · obtain rfl : g = i := by omega
            exact HN7.out), HB7.out⟩
        case measure => simp [intOf]; omega
      · have HFR := Lib.hid hfr
        have hu0 : (0 : Int) ≤ (u : Int) := by omega
        clear hfr
        go_wp2_with fail
        go_ret3
        exact ⟨_, _, _, rfl, HFR.out, HB2.out.trans (HB7.out.mono HB2.out.size)⟩
    · have hle' : ¬ (i : Int) ≤ (s.size : Int) := by omega
      have HFR := Lib.hid (show findR s.data.toList d t 0 0 false from .inl ⟨rfl, rfl, rfl, fun f k hf hk => hno f (by have := HSL.out; omega) k hk⟩)
      clear hno hb
      go_wp2_with fail
      go_ret3
      exact ⟨_, _, _, rfl, HFR.out, HB2.out.trans (HB.out.mono HB2.out.size)⟩
end Go.Proofs.Ytjnhmcgjeljcmaa
namespace Go.Proofs.Ytjnhmcgjeljcmaa
open Go.RowKit Go.Maps

theorem rowB_empty (w : World) : (w.alloc (.cells #[] 5)).ownsRow 0 5 1 (.slice (some ⟨w.heap.size, 0, none⟩) 0 0) ([] : List UInt8).length (([] : List UInt8).map u8V) :=
  ⟨rfl, .inr ⟨w.heap.size, 0, _, rfl, Nat.zero_le _, heap_alloc_new w _, Nat.le_refl _, by decide, rfl, rfl⟩⟩
theorem row_slice {w : World} {A : Option Addr} {n c : Nat} {xs : List UInt8} (h : w.ownsRow 0 5 1 (.slice A n c) n (xs.map u8V)) (hx : xs.length = n) : BytesAt w A n xs ∧ ∀ b o, A = some ⟨b, o, none⟩ → (Value.slice A n c).ownBlock = some b := by
  subst hx
  obtain ⟨A', c', e, hb, _⟩ := row_bytes h
  injection e with e1 _ _
  subst e1
  exact ⟨hb, fun b o e => by subst e; rfl⟩
theorem app1 {w : World} {A : Option Addr} {n c : Nat} {xs : List UInt8} (hx : BytesAt w A n xs) (hl : n ≤ 1000000) : ∃ A1 c1 w1,
    (Builtin.append_ #[51, 51] 51 #[.slice (some ⟨w.heap.size, 0, none⟩) 0 0, .slice A n c]).run Try.prog (w.alloc (.cells #[] 5)) = .ok (.slice A1 n c1) w1 ∧
    w1.ownsRow 0 5 1 (.slice A1 n c1) n (xs.map u8V) ∧ BytesAt w1 A1 n xs ∧ Below w.heap.size w w1 ∧ (∀ i, (Value.slice A1 n c1).ownBlock = some i → w.heap.size ≤ i) ∧ ∀ b o, A1 = some ⟨b, o, none⟩ → w.heap.size ≤ b := by
  have hs : (w.alloc (.cells #[] 5)).heap.size = w.heap.size + 1 := by simp
  have a4 := (Below.refl w.heap.size w).alloc (Nat.le_refl _) (.cells #[] 5)
  obtain ⟨A1, c1, w1, r, o, g, k⟩ := append_bytes (c := c) 51 (rowB_empty w) (hx.below a4) (by simp; omega)
  simp only [List.length_nil, Nat.zero_add, List.nil_append] at r o g k
  have hxl := hx.1
  rw [hxl] at o
  obtain ⟨hb, ho⟩ := row_slice o hxl
  have hbel : Below w.heap.size w w1 := a4.trans ⟨g.os, g.tape, g.output, by have := g.size; omega, fun i hi => g.block i (by omega) (by
    intro e
    have e : i = w.heap.size := Option.some.inj e
    omega)⟩
  have hk : ∀ i, (Value.slice A1 n c1).ownBlock = some i → w.heap.size ≤ i := fun i hi => by
    rcases k with k | k
    · rw [k] at hi
      have : w.heap.size = i := Option.some.inj hi
      omega
    · rw [k] at hi
      have := Option.some.inj hi
      omega
  exact ⟨A1, c1, w1, r, o, hb, hbel, hk, fun b o e => hk b (ho b o e)⟩
theorem app2 {w : World} {A B : Option Addr} {n m c d : Nat} {xs ys : List UInt8} (hx : BytesAt w A n xs) (hy : BytesAt w B m ys) (hl : n + m ≤ 1000000) : ∃ A1 c1 w1 A2 c2 w2,
    (Builtin.append_ #[51, 51] 51 #[.slice (some ⟨w.heap.size, 0, none⟩) 0 0, .slice A n c]).run Try.prog (w.alloc (.cells #[] 5)) = .ok (.slice A1 n c1) w1 ∧
    (Builtin.append_ #[51, 51] 51 #[.slice A1 n c1, .slice B m d]).run Try.prog w1 = .ok (.slice A2 (n + m) c2) w2 ∧
    BytesAt w2 A2 (n + m) (xs ++ ys) ∧ Below w.heap.size w w2 ∧ ∀ b o, A2 = some ⟨b, o, none⟩ → w.heap.size ≤ b := by
  obtain ⟨A1, c1, w1, r1, o1, _, b1, k1, _⟩ := app1 (c := c) hx (by omega)
  have hxl := hx.1
  have hyl := hy.1
  rw [← hxl] at o1
  obtain ⟨A2, c2, w2, r2, o2, g2, k2⟩ := append_bytes (c := d) 51 o1 (hy.below b1) (by omega)
  rw [List.length_append, hxl, hyl] at o2
  rw [hxl] at r2 k2 g2
  obtain ⟨hb, ho⟩ := row_slice o2 (by rw [List.length_append, hxl, hyl])
  refine ⟨A1, c1, w1, A2, c2, w2, r1, r2, hb, b1.trans ⟨g2.os, g2.tape, g2.output, by have := g2.size; have := b1.size; omega, fun i hi => g2.block i (by have := b1.size; omega) (by
    intro e
    have := k1 i e.symm
    omega)⟩, fun b o e => ?_⟩
  have hob := ho b o e
  rcases k2 with k | k
  · rw [k] at hob; exact k1 b hob
  · rw [k] at hob
    have := Option.some.inj hob
    have := b1.size
    omega
def behind (A : Option Addr) (c k : Nat) : Option Addr := if c = k then A else Option.map (fun x => x.add k) A
theorem BytesAt.behind_ {w : World} {A : Option Addr} {m c k : Nat} {bs : List UInt8} (h : BytesAt w A m bs) (hk : k ≤ m) (hc : m ≤ c) : BytesAt w (behind A c k) (m - k) (bs.drop k) :=
  ⟨by rw [List.length_drop, h.1], fun hm => by
    obtain ⟨b, o, rfl, hlt, hcell⟩ := h.2 (by omega)
    refine ⟨b, o + k, ?_, hlt, fun i z hi => ?_⟩
    · unfold behind
      rw [if_neg (by omega)]
      simp [Addr.add_mid]
    · rw [List.getElem?_drop] at hi
      rw [Nat.add_assoc]
      exact hcell _ z hi⟩
end Go.Proofs.Ytjnhmcgjeljcmaa
namespace Go.Proofs.Ytjnhmcgjeljcmaa
open Go.RowKit Go.Maps

set_option maxHeartbeats 4000000 in
set_option maxRecDepth 100000 in
theorem rpfind_tree {w : World} {kind : Int} (hk : kind ≠ 1) (s : ByteArray) {d : Nat} {t : Tr} {kk : Int} {A1 A2 : Option Addr} {n1 c1 n2 c2 : Nat} (ht : TreeAt w (· < w.heap.size) d t [.int .i64 kk, .slice A1 n1 c1, .slice A2 n2 c2]) (hg : GoodT d t) {A : Option Addr} {m c : Nat} {bs : List UInt8} (hb : BytesAt w A m bs) (hm : m ≤ 99000) :
    Calls Try.prog 25 #[.agg #[.int .i64 kind, .string s, .int .i64 kk, .slice A1 n1 c1, .slice A2 n2 c2], .slice A m c] w (RfPost w d t bs) := by
  have hkf : (kind != 1) = true := by simpa using hk
  have hbl := hb.1
  have hb0 : Below w.heap.size w (w.alloc (.cells #[.int .i64 kind, .string s, .int .i64 kk, .slice A1 n1 c1, .slice A2 n2 c2] 45)) := (Below.refl _ w).alloc (Nat.le_refl _) _
  have hcv := conv_str (hb.below hb0) c
  have HF := Lib.hid (rfind_any (ht.keep (w' := (w.alloc (.cells #[.int .i64 kind, .string s, .int .i64 kk, .slice A1 n1 c1, .slice A2 n2 c2] 45))) (fun b hx => Below.heap_alloc _ _ _ hx) |>.mono fun b hx => by simp; omega) hg ⟨bs.toArray⟩ (by show bs.toArray.size ≤ 99000; simp; omega))
  have HB0 := Lib.hid hb0
  clear ht hb hg hk hb0 hbl
  go_enter Try.func25, Try.ntmps25
  go_wp2_with fail
  refine HF.out.mono ?_
  rintro e w3 ⟨a, b, ok, rfl, hf, b3⟩
  have HB3 := Lib.hid (HB0.out.trans (b3.mono HB0.out.size))
  have HFR := Lib.hid hf
  clear hf b3
  go_wp2
  exact bodyPost_ret (v := .tuple #[.int .i64 a, .int .i64 b, .bool ok]) (by simp [results, Try.results25, go_sem]) rfl ⟨a, b, ok, rfl, by simpa using HFR.out, HB3.out⟩
set_option maxHeartbeats 4000000 in
set_option maxRecDepth 100000 in
theorem rpfind_exact {w : World} (s : ByteArray) {kk : Int} {A1 A2 : Option Addr} {n1 c1 n2 c2 d : Nat} (hg : GoodT d (exactT s.data.toList)) {A : Option Addr} {m c : Nat} {bs : List UInt8} (hb : BytesAt w A m bs) (hm : m ≤ 99000) (hs : s.size ≤ 256) (hc : m ≤ c) :
    Calls Try.prog 25 #[.agg #[.int .i64 1, .string s, .int .i64 kk, .slice A1 n1 c1, .slice A2 n2 c2], .slice A m c] w (RfPost w d (exactT s.data.toList) bs) := by
  have hbl := hb.1
  have hb0 : Below w.heap.size w (w.alloc (.cells #[.int .i64 1, .string s, .int .i64 kk, .slice A1 n1 c1, .slice A2 n2 c2] 45)) := (Below.refl _ w).alloc (Nat.le_refl _) _
  have hk0 := Blk.new w 45 #[.int .i64 1, .string s, .int .i64 kk, .slice A1 n1 c1, .slice A2 n2 c2]
  have q1 := hk0.cell 1
  have HBB := Lib.hid (hb.below hb0)
  have HG := Lib.hid hg
  have HB0 := Lib.hid hb0
  have HL := Lib.hid (show s.data.toList.length = s.size from rfl)
  have HBL := Lib.hid hbl
  generalize hW : (w.alloc (.cells #[.int .i64 1, .string s, .int .i64 kk, .slice A1 n1 c1, .slice A2 n2 c2] 45)) = W at q1 HBB HB0
  have HW := Lib.hid hW
  clear hb hg hb0 hk0 hbl hW
  go_enter Try.func25, Try.ntmps25
  go_wp2_with fail
  rw [HW.out]
  go_loopw [7] (fun vi wr => (wr.cell? ⟨w.heap.size, 1, none⟩ = some (.string s) ∧ BytesAt wr A m bs ∧ Below w.heap.size w wr) ∧ ∃ i : Nat, i ≤ m + 1 ∧ vi = .int .i64 (i : Nat) ∧ ∀ f, f < i → ¬ ((f + s.size ≤ m) ∧ (bs.drop f).take s.size = s.data.toList)) (fun vi _ => m + 1 - (intOf vi).toNat)
  case atStart => exact ⟨⟨q1, HBB.out, HB0.out⟩, 0, by omega, rfl, fun f hf => by omega⟩
  case round =>
    obtain ⟨⟨q1', hbw, hbe⟩, i, hi, rfl, hno⟩ := hrel
    have HBW := Lib.hid hbw
    have HBE := Lib.hid hbe
    clear hbw hbe
    have HNO := Lib.hid hno
    have hsum : IntKind.i64.wrap ((i : Int) + (s.size : Int)) = (i : Int) + (s.size : Int) := IntWalk.i64_in _ (by omega)
    clear hno
    by_cases hle : i + s.size ≤ m
    · have hle' : (i : Int) + (s.size : Int) ≤ (m : Int) := by omega
      have l1 : (i : Int) ≤ (i : Int) + (s.size : Int) := by omega
      have l2 : (i : Int) + (s.size : Int) ≤ (c : Int) := by omega
      obtain ⟨Q, hQ⟩ : ∃ Q, Q = behind A c i := ⟨_, rfl⟩
      have hQ2 : (if c = i then A else Option.map (fun x => x.add i) A) = Q := hQ.symm
      have hpc : BytesAt wr Q s.size ((bs.drop i).take s.size) := by
        rw [hQ]
        exact (HBW.out.behind_ (c := c) (k := i) (by omega) hc).cut (k := s.size) (by omega)
      have hcv := conv_str hpc (c - i)
      have hcv2 := fun n => conv_str (w := wr.drewN n) (show BytesAt (wr.drewN n) Q s.size ((bs.drop i).take s.size) from hpc) (c - i)
      clear hQ hpc
      go_wp2_with fail
      cases hmt : (List.take s.size (List.drop i bs) == s.toList) with
      | true =>
        have HEQ := Lib.hid (show (bs.drop i).take s.size = s.data.toList by rw [ByteArray.toList_eq] at hmt; exact eq_of_beq hmt)
        go_quiet (fail)
        go_wp2
        go_region
        go_wp2
        refine bodyPost_ret (v := .tuple #[.int .i64 (i : Nat), .int .i64 ((i : Int) + (s.size : Int)), .bool true]) (by simp [results, Try.results25, go_sem]) rfl ⟨(i : Nat), ((i : Int) + (s.size : Int)), true, rfl, .inr ⟨rfl, i, i + s.size, rfl, by omega, by rw [HBL.out]; omega, by rw [HBL.out]; omega, (exact_Mt _ d i (i + s.size) HG.out (by rw [HBL.out]; omega)).2 ⟨by rw [HL.out], by rw [HBL.out]; omega, by rw [HL.out]; exact HEQ.out⟩, fun k hk1 hk2 hm2 => ?_, fun g hg2 k hk2 hm2 => ?_⟩, ⟨HBE.out.os, HBE.out.tape, HBE.out.output, HBE.out.size, HBE.out.block⟩⟩
        · obtain ⟨e1, e2, e3⟩ := (exact_Mt _ d i k HG.out (by rw [HBL.out]; omega)).1 hm2
          rw [HL.out] at e1
          omega
        · obtain ⟨e1, e2, e3⟩ := (exact_Mt _ d g k HG.out (by rw [HBL.out]; omega)).1 hm2
          rw [HL.out] at e1 e3
          rw [HBL.out] at e2
          exact HNO.out g hg2 ⟨by omega, e3⟩
      | false =>
        have HEQ := Lib.hid (show (bs.drop i).take s.size ≠ s.data.toList by rw [ByteArray.toList_eq] at hmt; intro e; rw [e] at hmt; simp at hmt)
        go_quiet (fail)
        go_wp2
        refine ⟨⟨⟨q1', HBW.out, ⟨HBE.out.os, HBE.out.tape, HBE.out.output, HBE.out.size, HBE.out.block⟩⟩, i + 1, by omega, by go_num, fun f hf => ?_⟩, by simp [intOf]; omega⟩
        rcases Nat.lt_or_ge f i with h | h
        · exact HNO.out f h
        · obtain rfl : f = i := by omega
          exact fun h2 => HEQ.out h2.2
    · have hle' : ¬ (i : Int) + (s.size : Int) ≤ (m : Int) := by omega
      go_wp2
      refine bodyPost_ret (v := .tuple #[.int .i64 0, .int .i64 0, .bool false]) (by simp [results, Try.results25, go_sem]) rfl ⟨0, 0, false, rfl, .inl ⟨rfl, rfl, rfl, fun f k hf hk hm2 => ?_⟩, HBE.out⟩
      obtain ⟨e1, e2, e3⟩ := (exact_Mt _ d f k HG.out hf).1 hm2
      rw [HL.out] at e1 e3
      rw [HBL.out] at e2
      rcases Nat.lt_or_ge f i with h | h
      · exact HNO.out f h ⟨by omega, e3⟩
      · omega
end Go.Proofs.Ytjnhmcgjeljcmaa
namespace Go.Proofs.Ytjnhmcgjeljcmaa
open Go.RowKit Go.Maps

set_option maxHeartbeats 4000000 in
set_option maxRecDepth 100000 in
theorem patCompiles_walk {w : World} (kind : Int) (s : ByteArray) (hs0 : s.size ≤ maxLen) :
    Calls Try.prog 8 #[.int .i64 kind, .string s] w (AlivePost w) := by
  have HRC := Lib.hid (fun W => rcomp_any kind s W hs0)
  go_enter Try.func8, Try.ntmps8
  go_wp2_with fail
  refine (palive_any _).mono ?_
  rintro e w1 ⟨rfl, b1⟩
  have B1 := Lib.hid b1
  clear b1
  go_wp2_with fail
  refine (pcomp_any kind s _).mono ?_
  rintro e w2 (⟨h0, p, X, pp, dd, rfl, hP, hx, hb2⟩ | ⟨h0, rfl, hb2⟩)
  · have P2 := Lib.hid hP
    have H0 := Lib.hid h0
    have B2 := Lib.hid (B1.out.trans (hb2.mono B1.out.size))
    clear hP hx hb2 h0
    go_wp2_with fail
    refine (HRC.out _).mono ?_
    rintro e w3 (⟨_, d, k, A, m, c, A', m', c', rfl, _, b3⟩ | ⟨h1, _⟩)
    rotate_left
    · exact absurd H0.out h1
    have P3 := Lib.hid ((P2.out.below b3).below ((Below.refl _ w3).alloc (Nat.le_refl _) (.cells #[.int .i64 kind, .string s, .int .i64 k, .slice A m c, .slice A' m' c'] 45)))
    have B3 := Lib.hid ((B2.out.trans (b3.mono B2.out.size)).alloc (Nat.le_trans B2.out.size b3.size) (.cells #[.int .i64 kind, .string s, .int .i64 k, .slice A m c, .slice A' m' c'] 45))
    clear b3
    go_wp2_with fail
    refine (pkind_any P3.out).mono ?_
    rintro e w4 ⟨rfl, rfl⟩
    go_wp2_with fail
    refine (ptext_any P3.out).mono ?_
    rintro e w4 ⟨rfl, rfl⟩
    go_wp2
    go_ret
    exact ⟨rfl, B3.out⟩
  · have B2 := Lib.hid (B1.out.trans (hb2.mono B1.out.size))
    have hc2 : ((patP kind s.data.toList).2.1 == 0) = false := by simpa using h0
    have H0 := Lib.hid h0
    clear hb2 h0
    obtain ⟨cc, hcc⟩ : ∃ cc, cc = (patP kind s.data.toList).2.1 := ⟨_, rfl⟩
    obtain ⟨oo, hoo⟩ : ∃ oo, oo = (patP kind s.data.toList).2.2 := ⟨_, rfl⟩
    have HRD := Lib.hid (fun W => (HRC.out W).mono fun e w' h => (show (e = .returned (.tuple #[.agg #[.int .i64 0, .string ⟨#[]⟩, .int .i64 0, .slice none 0 0, .slice none 0 0], .int .i64 cc, .int .i64 (oo : Nat)])) ∧ Below W.heap.size W w' by
      rcases h with ⟨h1, _⟩ | ⟨_, h1, h2⟩
      · exact absurd h1 H0.out
      · rw [hcc, hoo]; exact ⟨h1, h2⟩))
    rw [← hcc] at hc2
    rw [← hcc, ← hoo]
    clear HRC H0 hcc hoo
    go_wp2_with fail
    refine (HRD.out _).mono ?_
    rintro e w3 ⟨rfl, b3⟩
    have B3 := Lib.hid (B2.out.trans (b3.mono B2.out.size))
    have hB3 := B3.out.size
    clear b3
    go_wp2
    go_ret
    exact ⟨rfl, B3.out.alloc hB3 _⟩
end Go.Proofs.Ytjnhmcgjeljcmaa
namespace Go.Proofs.Ytjnhmcgjeljcmaa
open Go.RowKit Go.Maps

theorem bytes_old {w : World} {A : Option Addr} {m : Nat} {bs : List UInt8} {X : Nat → Prop} (h : BytesAt w A m bs) (hX : ∀ j, X j → w.heap.size ≤ j) : 0 < m → ∀ b o, A = some ⟨b, o, none⟩ → ¬ X b := fun hm b o e hx => by
  obtain ⟨b', o', e', hlt, _⟩ := h.2 hm
  rw [e] at e'
  have e' := Option.some.inj e'
  injection e' with e1 _ _
  subst e1
  have := hX b hx
  omega
theorem PatAt.old {w : World} {X : Nat → Prop} {p pp d : Nat} {kind : Int} {s : ByteArray} {t : Tr} (h : PatAt w X p kind s pp d t) {j : Nat} (hj : X j) : j < w.heap.size := by obtain ⟨st, hm⟩ := h.mach; exact hm.old hj
set_option maxHeartbeats 4000000 in
set_option maxRecDepth 100000 in
theorem patGrows_walk {w : World} (kind : Int) (s : ByteArray) {A B : Option Addr} {n m c d : Nat} {bs ms : List UInt8} (hs0 : s.size ≤ maxLen) (hb : BytesAt w A n bs) (hm : BytesAt w B m ms) (hc : n ≤ c) (hn : n ≤ 140737488355328) (hmm : m ≤ 140737488355328) :
    Calls Try.prog 10 #[.int .i64 kind, .string s, .slice A n c, .slice B m d] w (AlivePost w) := by
  have HBS := Lib.hid hb
  have HMS := Lib.hid hm
  unfold maxLen at hs0
  have hsum : IntKind.i64.wrap ((n : Int) + (m : Int)) = (n : Int) + (m : Int) := IntWalk.i64_in _ (by omega)
  clear hb hm
  rcases Nat.lt_or_ge 60 s.size with h60 | h60
  · have h60' : (60 : Int) < (s.size : Int) := by omega
    go_enter Try.func10, Try.ntmps10
    go_wp2_with fail
    refine (palive_any _).mono ?_
    rintro e w1 ⟨rfl, b1⟩
    go_wp2
    go_ret
    exact ⟨rfl, b1⟩
  have h60' : ¬ (60 : Int) < (s.size : Int) := by omega
  rcases Nat.lt_or_ge 200 (n + m) with h200 | h200
  · have h200' : (200 : Int) < (n : Int) + (m : Int) := by omega
    go_enter Try.func10, Try.ntmps10
    go_wp2_with fail
    refine (palive_any _).mono ?_
    rintro e w1 ⟨rfl, b1⟩
    go_wp2
    go_ret
    exact ⟨rfl, b1⟩
  have h200' : ¬ (200 : Int) < (n : Int) + (m : Int) := by omega
  go_enter Try.func10, Try.ntmps10
  go_wp2_with fail
  refine (palive_any _).mono ?_
  rintro e w1 ⟨rfl, b1⟩
  have B1 := Lib.hid b1
  have H1 := Lib.hid (HBS.out.below b1)
  have M1 := Lib.hid (HMS.out.below b1)
  clear b1
  go_wp2_with fail
  refine (pcomp_any kind s _).mono ?_
  rintro e w2 (⟨_, p, X, pp, dd, rfl, hP, hx, hb2⟩ | ⟨h0, rfl, hb2⟩)
  rotate_right
  · have hc' : ((patP kind s.data.toList).2.1 != 0) = true := by simpa using h0
    have hc2 : ((patP kind s.data.toList).2.1 == 0) = false := by simpa using h0
    have HB := Lib.hid (B1.out.trans (hb2.mono B1.out.size))
    clear h0 hb2
    generalize (patP kind s.data.toList).2.1 = cc at *
    generalize (patP kind s.data.toList).2.2 = oo at *
    go_wp2
    go_ret
    exact ⟨rfl, HB.out⟩
  generalize (patP kind s.data.toList).1 = t at hP
  have P2 := Lib.hid hP
  have X2 := Lib.hid hx
  have H2 := Lib.hid (H1.out.below hb2)
  have M2 := Lib.hid (M1.out.below hb2)
  have B2 := Lib.hid (B1.out.trans (hb2.mono B1.out.size))
  have HA := Lib.hid (bytes_old (X := fun j => X j ∨ j = p) H1.out hx)
  have HMA := Lib.hid (bytes_old (X := fun j => X j ∨ j = p) M1.out hx)
  have PW := Lib.hid (fun j (hj : j = pp) => show w.heap.size ≤ j from Nat.le_trans B1.out.size (hx j (.inl (hj ▸ hP.in_))))
  clear hP hx hb2
  go_wp2_with fail
  refine (pfind_any P2.out H2.out (fun h b o e hb => HA.out h b o e (.inl hb)) (by omega)).mono ?_
  rintro e w3 ⟨a, z, ok, rfl, hf3, hP3, hk3⟩
  have F3 := Lib.hid hf3
  have P3 := Lib.hid hP3
  have H3 := Lib.hid (BytesAt.keep (w' := w3) H2.out (fun hm b o e hl => hk3.block b hl (fun hb => HA.out hm b o e (.inl (hb ▸ P2.out.in_)))) hk3.size)
  have M3 := Lib.hid (BytesAt.keep (w' := w3) M2.out (fun hm b o e hl => hk3.block b hl (fun hb => HMA.out hm b o e (.inl (hb ▸ P2.out.in_)))) hk3.size)
  have B3 := Lib.hid (B2.out.trans (hk3.below B2.out.size PW.out))
  clear hf3 hP3 hk3
  obtain ⟨A1, c1, w4, A2, c2, w5, r4, r5, hall, b5, k5⟩ := app2 (c := c) (d := d) H3.out M3.out (by omega)
  have R4 := Lib.hid r4
  have R5 := Lib.hid r5
  have P5 := Lib.hid (P3.out.below b5)
  have N5 := Lib.hid hall
  have NA := Lib.hid (fun (_ : 0 < n + m) b o (e : A2 = some ⟨b, o, none⟩) => show ¬ X b from fun hb => Nat.lt_irrefl _ (Nat.lt_of_lt_of_le (P3.out.old hb) (k5 b o e)))
  have H5 := Lib.hid (H3.out.below b5)
  have B5 := Lib.hid (B3.out.trans (b5.mono B3.out.size))
  have S5 := Lib.hid b5.size
  clear r4 r5 hall b5 k5
  go_wp2_with (at_builtin; first | refine wpList_append_run rfl (.tmp 61) (.tmp 62) 51 rfl _ _ _ rfl rfl R4.out ?_ | refine wpList_append_run rfl (.tmp 63) (.tmp 64) 51 rfl _ _ _ rfl rfl R5.out ?_)
  clear R4 R5
  refine (pfind_any P5.out N5.out NA.out (by omega)).mono ?_
  rintro e w6 ⟨i, k, is, rfl, hf6, hP6, hk6⟩
  have hgr := find_grows F3.out hf6
  have hlen := H3.out.1
  rw [hlen] at hgr
  have P6 := Lib.hid hP6
  have H6 := Lib.hid (BytesAt.keep (w' := w6) H5.out (fun hm b o e hl => hk6.block b hl (fun hb => HA.out hm b o e (.inl (hb ▸ P2.out.in_)))) hk6.size)
  have B6 := Lib.hid (B5.out.trans (hk6.below B5.out.size PW.out))
  clear hf6 hP6 hk6 hlen
  rcases ok with _ | _
  · have h1 := hgr.1 rfl
    clear hgr
    rcases is with _ | _
    · clear h1
      go_wp2
      go_ret
      exact ⟨rfl, B6.out⟩
    · have h2 : (n : Int) < k := by
        rcases h1 with h1 | h1
        · cases h1
        · exact h1
      clear h1
      go_wp2
      go_ret
      exact ⟨rfl, B6.out⟩
  obtain ⟨g0, g1, g2, rfl, g4, g5⟩ := hgr.2 rfl
  clear hgr
  obtain ⟨f, rfl⟩ : ∃ f : Nat, a = (f : Nat) := ⟨a.toNat, by omega⟩
  obtain ⟨u, rfl⟩ : ∃ u : Nat, z = (u : Nat) := ⟨z.toNat, by omega⟩
  have hfu : f ≤ u := by omega
  have hun : u ≤ n := by omega
  have huc : u ≤ c := by omega
  obtain ⟨Q, hQ⟩ : ∃ Q, Q = behind A c f := ⟨_, rfl⟩
  have hQ2 : (if c = f then A else Option.map (fun x => x.add f) A) = Q := hQ.symm
  have hpc : BytesAt w6 Q (u - f) ((bs.drop f).take (u - f)) := by
    rw [hQ]
    have := (H6.out.behind_ (c := c) (k := f) (by omega) hc).cut (k := u - f) (by omega)
    exact this
  obtain ⟨A7, c7, w7, r7, _, hb7, b7, _, k7⟩ := app1 (c := c - f) hpc (by omega)
  have R7 := Lib.hid r7
  have P7 := Lib.hid (P6.out.below b7)
  have N7 := Lib.hid hb7
  have NA7 := Lib.hid (fun (_ : 0 < u - f) b o (e : A7 = some ⟨b, o, none⟩) => show ¬ X b from fun hb => Nat.lt_irrefl _ (Nat.lt_of_lt_of_le (P6.out.old hb) (k7 b o e)))
  have B7 := Lib.hid (B6.out.trans (b7.mono B6.out.size))
  clear hQ hpc r7 hb7 b7 k7
  go_wp2_with (at_builtin; refine wpList_append_run rfl (.tmp 85) (.tmp 89) 51 rfl _ _ _ rfl rfl R7.out ?_)
  refine (pfind_any P7.out N7.out NA7.out (by omega)).mono ?_
  rintro e w8 ⟨x, y, zz, rfl, hf8, hP8, hk8⟩
  obtain ⟨rfl, rfl, rfl⟩ := find_piece F3.out hf8
  have B8 := Lib.hid (B7.out.trans (hk8.below B7.out.size PW.out))
  have hw8 : IntKind.i64.wrap ((u : Int) - (f : Int)) = (u : Int) - (f : Int) := IntWalk.i64_in _ (by omega)
  have l1 : (f : Int) ≤ (u : Int) := by omega
  have l2 : (u : Int) ≤ (n : Int) := by omega
  clear hf8 hP8 hk8
  rcases (by omega : i < (f : Int) ∨ (¬ i < (f : Int) ∧ (u : Int) ≤ k)) with l3 | ⟨l3, l4⟩
  all_goals
    clear g5
    go_wp2
    go_ret
    exact ⟨rfl, B8.out⟩
end Go.Proofs.Ytjnhmcgjeljcmaa
