/- glob.holds, onlyStars. glob.matches and Match. -/
import Derived.Test.YtponepcgokfiiaaRr
import Derived.Test.YtponepcgokfiiaaTw
import Derived.Test.YtponepcgokfiiaaGm
namespace Go.Proofs.Ytponepcgokfiiaa
open Go.RowKit

/-- A slice of nodes that reads as these trees. -/
def KdAt (w : World) (X : Nat → Prop) (d : Nat) (A : Option Addr) (n : Nat) (ts : List Tr) : Prop :=
  ts.length = n ∧ (0 < n → ∃ b o, A = some ⟨b, o, none⟩ ∧ X b ∧ ∀ i t, ts[i]? = some t → ∃ v0 v1 v2, w.cell? ⟨b, o + i * 3, none⟩ = some v0 ∧ w.cell? ⟨b, o + i * 3 + 1, none⟩ = some v1 ∧ w.cell? ⟨b, o + i * 3 + 2, none⟩ = some v2 ∧ TreeAt w X d t [v0, v1, v2])
theorem KdAt.keep {w w' : World} {X : Nat → Prop} {d n : Nat} {A : Option Addr} {ts : List Tr} (h : KdAt w X d A n ts) (hk : ∀ b, X b → w'.heap[b]? = w.heap[b]?) : KdAt w' X d A n ts :=
  ⟨h.1, fun hn => by
    obtain ⟨b, o, hA, hX, hc⟩ := h.2 hn
    refine ⟨b, o, hA, hX, fun i t ht => ?_⟩
    obtain ⟨v0, v1, v2, e0, e1, e2, ht'⟩ := hc i t ht
    have e := hk b hX
    exact ⟨v0, v1, v2, (World.cell?_of_block (a := ⟨b, o + i * 3, none⟩) e).trans e0, (World.cell?_of_block (a := ⟨b, o + i * 3 + 1, none⟩) e).trans e1, (World.cell?_of_block (a := ⟨b, o + i * 3 + 2, none⟩) e).trans e2, ht'.keep hk⟩⟩
theorem KdAt.mono {w : World} {X Y : Nat → Prop} {d n : Nat} {A : Option Addr} {ts : List Tr} (h : KdAt w X d A n ts) (hXY : ∀ b, X b → Y b) : KdAt w Y d A n ts :=
  ⟨h.1, fun hn => by
    obtain ⟨b, o, hA, hX, hc⟩ := h.2 hn
    refine ⟨b, o, hA, hXY b hX, fun i t ht => ?_⟩
    obtain ⟨v0, v1, v2, e0, e1, e2, ht'⟩ := hc i t ht
    exact ⟨v0, v1, v2, e0, e1, e2, ht'.mono hXY⟩⟩
/-- What a node is: its kind, its ranges, its kids. -/
theorem TreeAt.parts {w : World} {X : Nat → Prop} {d : Nat} {k : Int} {rs : List (UInt8 × UInt8)} {kids : List Tr} {v0 v1 v2 : Value} (h : TreeAt w X (d + 1) (.mk k rs kids) [v0, v1, v2]) :
    ∃ A n c A' n' c', v0 = .int .i64 k ∧ v1 = .slice A n c ∧ v2 = .slice A' n' c' ∧ n ≤ maxLen ∧ (n' ≤ maxLen ∧ n' ≤ c') ∧ RgAt w X A n rs ∧ KdAt w X d A' n' kids := by
  obtain ⟨A, n, c, A', n', c', h1, h2, h3, h4, h5, h6⟩ := h
  simp only [List.cons.injEq, and_true] at h1
  obtain ⟨rfl, rfl, rfl⟩ := h1
  exact ⟨A, n, c, A', n', c', rfl, rfl, rfl, h2, h3, h4, h5, h6⟩
theorem TreeAt.kind {w : World} {X : Nat → Prop} {d : Nat} {t : Tr} {v0 v1 v2 : Value} (h : TreeAt w X d t [v0, v1, v2]) : ∃ k rs ks A n c A' n' c', t = .mk k rs ks ∧ v0 = .int .i64 k ∧ v1 = .slice A n c ∧ v2 = .slice A' n' c' ∧ n ≤ maxLen ∧ RgAt w X A n rs := by
  match d, t, h with
  | d + 1, .mk k rs ks, h =>
    obtain ⟨A, n, c, A', n', c', h1, h2, h3, h4, _, h5, _⟩ := h.parts
    exact ⟨k, rs, ks, A, n, c, A', n', c', rfl, h1, h2, h3, h4, h5⟩

set_option maxHeartbeats 400000 in
set_option maxRecDepth 100000 in
theorem holds_any (A : Option Addr) (n cp : Nat) (rs : List (UInt8 × UInt8)) (c : UInt8) (w : World) (hr : RgAt w (· < w.heap.size) A n rs) (hn : n ≤ maxLen) :
    Calls Try.prog 82 #[.slice A n cp, .int .u8 (c.toNat : Nat)] w fun e w' => e = .returned (.bool (inR rs c.toNat)) ∧ Below w.heap.size w w' := by
  unfold maxLen at hn
  go_enter Try.func82, Try.ntmps82
  go_wp2_with fail
  go_loopw [9] (fun i wr => ∃ k : Nat, k ≤ n ∧ i = .int .i64 k ∧ inR (rs.take k) c.toNat = false ∧ Below w.heap.size w wr) (fun i _ => n - (intOf i).toNat)
  case atStart => exact ⟨0, Nat.zero_le _, rfl, by simp [inR], Below.refl _ _⟩
  case round =>
    obtain ⟨k, hk, rfl, hno, hbw⟩ := hrel
    have HN := Lib.hid hno
    clear hno
    have hB := hbw.size
    by_cases hlt : k < n
    · have hlt' : (k : Int) < (n : Int) := by omega
      have hkr : k < rs.length := by have := hr.1; omega
      obtain ⟨b, o, rfl, hX, hcells⟩ := hr.2 (by omega)
      obtain ⟨e1, e2⟩ := hcells k (rs[k]) (List.getElem?_eq_getElem hkr)
      replace e1 := (hbw.cell (p := ⟨b, o + k * 2, none⟩) hX).trans e1
      replace e2 := (hbw.cell (p := ⟨b, o + k * 2 + 1, none⟩) hX).trans e2
      clear hcells
      have HS := Lib.hid (inR_take_succ rs k hkr c.toNat)
      have HO := Lib.hid (inR_of rs k hkr c.toNat)
      generalize rs[k] = r at *
      obtain ⟨lo, hi⟩ := r
      simp only at e1 e2
      by_cases h1 : lo.toNat ≤ c.toNat
      · by_cases h2 : c.toNat ≤ hi.toNat
        · have HR := Lib.hid (HO.out h1 h2)
          have h1' : (lo.toNat : Int) ≤ (c.toNat : Int) := by omega
          have h2' : (c.toNat : Int) ≤ (hi.toNat : Int) := by omega
          go_wp2
          go_ret
          exact ⟨ret_bool HR.out.symm, hbw.alloc hB _⟩
        · have h1' : (lo.toNat : Int) ≤ (c.toNat : Int) := by omega
          have h2' : ¬ (c.toNat : Int) ≤ (hi.toNat : Int) := by omega
          go_wp2
          go_roundw
          case rel => exact ⟨k + 1, by omega, by go_num, by rw [HS.out, HN.out]; simp [h2], hbw.alloc hB _⟩
          case measure => simp [intOf]; omega
      · have h1' : ¬ (lo.toNat : Int) ≤ (c.toNat : Int) := by omega
        go_wp2
        go_roundw
        case rel => exact ⟨k + 1, by omega, by go_num, by rw [HS.out, HN.out]; simp [h1], hbw.alloc hB _⟩
        case measure => simp [intOf]; omega
    · obtain rfl : n = k := by omega
      have HR := Lib.hid (show inR rs c.toNat = false by rw [← HN.out, List.take_of_length_le (by have := hr.1; omega)])
      go_wp2
      go_ret
      exact ⟨ret_bool HR.out.symm, hbw⟩

theorem pcOf_star {k : Int} {rs : List (UInt8 × UInt8)} {ks : List Tr} : isSet (pcOf (.mk k rs ks)) = (k != 4) := by
  unfold pcOf
  by_cases h : k = 4
  · simp [h, isSet]
  · simp [h, isSet]
set_option maxHeartbeats 400000 in
set_option maxRecDepth 100000 in
theorem only_any (A : Option Addr) (n cp d : Nat) (ts : List Tr) (w : World) (hr : KdAt w (· < w.heap.size) d A n ts) (hn : n ≤ maxLen) :
    Calls Try.prog 83 #[.slice A n cp] w fun e w' => e = .returned (.bool (onlyS (ts.map pcOf))) ∧ Below w.heap.size w w' := by
  unfold maxLen at hn
  go_enter Try.func83, Try.ntmps83
  go_wp2_with fail
  go_loopw [7] (fun i wr => ∃ k : Nat, k ≤ n ∧ i = .int .i64 k ∧ onlyS ((ts.take k).map pcOf) = true ∧ Below w.heap.size w wr) (fun i _ => n - (intOf i).toNat)
  case atStart => exact ⟨0, Nat.zero_le _, rfl, by simp [onlyS], Below.refl _ _⟩
  case round =>
    obtain ⟨k, hk, rfl, hno, hbw⟩ := hrel
    have HN := Lib.hid hno
    clear hno
    have hB := hbw.size
    by_cases hlt : k < n
    · have hlt' : (k : Int) < (n : Int) := by omega
      have hkr : k < ts.length := by have := hr.1; omega
      obtain ⟨b, o, rfl, hX, hcells⟩ := hr.2 (by omega)
      obtain ⟨v0, v1, v2, e0, e1, e2, ht⟩ := hcells k (ts[k]) (List.getElem?_eq_getElem hkr)
      replace e0 := (hbw.cell (p := ⟨b, o + k * 3, none⟩) hX).trans e0
      replace e1 := (hbw.cell (p := ⟨b, o + k * 3 + 1, none⟩) hX).trans e1
      replace e2 := (hbw.cell (p := ⟨b, o + k * 3 + 2, none⟩) hX).trans e2
      obtain ⟨kd, rs, ks, A1, n1, c1, A2, n2, c2, htk, rfl, rfl, rfl, _, _⟩ := ht.kind
      have HS := Lib.hid (show onlyS ((ts.take (k + 1)).map pcOf) = (onlyS ((ts.take k).map pcOf) && !(kd != 4)) by
        rw [List.take_succ_eq_append_getElem hkr, htk, List.map_append]
        simp only [onlyS, List.all_append, List.map_cons, List.map_nil, List.all_cons, List.all_nil, Bool.and_true, pcOf_star])
      have HF := Lib.hid (show (kd != 4) = true → onlyS (ts.map pcOf) = false by
        intro h
        rw [Bool.eq_false_iff]
        intro h2
        have := List.all_eq_true.1 h2 (pcOf ts[k]) (List.mem_map_of_mem (List.getElem_mem hkr))
        rw [htk, pcOf_star, h] at this
        simp at this)
      clear hcells ht htk
      cases hkd : (kd != 4)
      · go_wp2
        go_roundw
        case rel => exact ⟨k + 1, by omega, by go_num, by rw [HS.out, HN.out, hkd]; rfl, hbw.alloc hB _⟩
        case measure => simp [intOf]; omega
      · have HR := Lib.hid (HF.out hkd)
        go_wp2
        go_ret
        exact ⟨ret_bool HR.out.symm, hbw.alloc hB _⟩
    · obtain rfl : n = k := by omega
      have HR := Lib.hid (show onlyS (ts.map pcOf) = true by rw [← HN.out, List.take_of_length_le (by have := hr.1; omega)])
      go_wp2
      go_ret
      exact ⟨ret_bool HR.out.symm, hbw⟩
end Go.Proofs.Ytponepcgokfiiaa
namespace Go.Proofs.Ytponepcgokfiiaa
open Go.RowKit

def mMeas (n L : Nat) (kid frm : Value) : Nat := (L + 1 - (intOf frm).toNat) * (n + 2) + (n + 1 - (intOf kid).toNat)
theorem mMeas_fwd {n L kid kid' frm frm' : Nat} (hk : kid < kid') (hk2 : kid < n + 1) (hf : frm ≤ frm') : (L + 1 - frm') * (n + 2) + (n + 1 - kid') < (L + 1 - frm) * (n + 2) + (n + 1 - kid) := by
  have h : (L + 1 - frm') * (n + 2) ≤ (L + 1 - frm) * (n + 2) := Nat.mul_le_mul_right _ (by omega)
  omega
theorem mMeas_back {n L kid b frm : Nat} (hb : b ≤ kid) (hk : kid ≤ n) (hf : frm < L + 1) : (L + 1 - (frm + 1)) * (n + 2) + (n + 1 - b) < (L + 1 - frm) * (n + 2) + (n + 1 - kid) := by
  rw [show L + 1 - frm = (L + 1 - (frm + 1)) + 1 by omega, Nat.add_mul]
  omega
theorem txt_get (s : ByteArray) (k : Nat) (h : k < s.size) : s.data.toList[k]? = some (byteAt s k) := by
  have h' : k < s.data.toList.length := h
  rw [List.getElem?_eq_getElem h', ← byteAt_eq s k h]; rfl
theorem pc_get {ts : List Tr} {k : Nat} {t : Tr} (h : ts[k]? = some t) : (ts.map pcOf)[k]? = some (pcOf t) := by rw [List.getElem?_map, h]; rfl

theorem KdAt.cut {w : World} {X : Nat → Prop} {d n k : Nat} {A : Option Addr} {ts : List Tr} (h : KdAt w X d A n ts) (hk : k ≤ n) : KdAt w X d (A.map fun x => x.add (k * 3)) (n - k) (ts.drop k) := by
  refine ⟨by rw [List.length_drop, h.1], fun h0 => ?_⟩
  obtain ⟨b, o, rfl, hX, hc⟩ := h.2 (by omega)
  refine ⟨b, o + k * 3, by simp [Addr.add_mid], hX, fun i t ht => ?_⟩
  rw [List.getElem?_drop] at ht
  obtain ⟨v0, v1, v2, e0, e1, e2, ht'⟩ := hc (k + i) t ht
  refine ⟨v0, v1, v2, ?_, ?_, ?_, ht'⟩
  · rw [show o + k * 3 + i * 3 = o + (k + i) * 3 by omega]; exact e0
  · rw [show o + k * 3 + i * 3 + 1 = o + (k + i) * 3 + 1 by omega]; exact e1
  · rw [show o + k * 3 + i * 3 + 2 = o + (k + i) * 3 + 2 by omega]; exact e2
/-- glob.Match. -/
def matchG (p t : List UInt8) : Bool := match parseG p with
  | (.mk _ _ ts, code, _) => decide (code = 0) && gm (ts.map pcOf) t
theorem piecesP_len : ∀ (f : Nat) (l : List UInt8), l.length < f → ∀ ts, piecesP f l = .ok ts → ts.length ≤ l.length
  | 0, _, h => by omega
  | f + 1, l, h => by
    intro ts e
    unfold piecesP at e
    split at e
    · injection e with e; subst e; simp
    · split at e
      · cases e
      · rename_i t n hp
        have hn := (pieceG_bd l).1 t n hp
        have ih := piecesP_len f (l.drop n) (by rw [List.length_drop]; omega)
        cases hk : piecesP f (l.drop n) with
        | ok ts' =>
          have := ih ts' hk
          rw [List.length_drop] at this
          rw [hk] at e
          simp only [Ks.pre] at e
          injection e with e
          subst e
          simp; omega
        | err c' o' => rw [hk] at e; simp [Ks.pre] at e
theorem parseG_len (l : List UInt8) : (match (parseG l).1 with | .mk _ _ ts => ts.length) ≤ 256 := by
  unfold parseG
  by_cases h : 256 < l.length
  · rw [if_pos h]; exact Nat.zero_le _
  · rw [if_neg h]
    cases hp : piecesF l with
    | ok ts =>
      have := piecesP_len (l.length + 1) l (by omega) ts hp
      show ts.length ≤ 256
      omega
    | err c o => exact Nat.zero_le _
set_option maxHeartbeats 1000000 in
set_option maxRecDepth 100000 in
theorem matches_any (A : Option Addr) (n cp d : Nat) (ts : List Tr) (s : ByteArray) (w : World) (hr : KdAt w (· < w.heap.size) d A n ts) (hn : n ≤ 65536) (hcp : n ≤ cp) (hs : s.size ≤ maxLen) :
    Calls Try.prog 51 #[.slice A n cp, .string s] w fun e w' => e = .returned (.bool (gm (ts.map pcOf) s.data.toList)) ∧ Below w.heap.size w w' := by
  have hs' := hs
  unfold maxLen at hs'
  have hlen : s.data.toList.length = s.size := rfl
  have hln : (ts.map pcOf).length = n := by rw [List.length_map]; exact hr.1
  have HLEN := Lib.hid hlen
  have HLN := Lib.hid hln
  clear hlen hln
  go_enter Try.func51, Try.ntmps51
  go_wp2_with fail
  go_loopw [5, 6, 7, 8] (fun vk va vb vf wr => ∃ (kid at_ frm : Nat) (beh : Int), vk = .int .i64 kid ∧ va = .int .i64 at_ ∧ vb = .int .i64 beh ∧ vf = .int .i64 frm ∧ MInv (ts.map pcOf) s.data.toList kid at_ beh frm ∧ Below w.heap.size w wr) (fun vk _ _ vf _ => mMeas n s.size vk vf)
  case atStart => exact ⟨0, 0, 0, -1, rfl, rfl, rfl, rfl, MInv.start _ _, Below.refl _ _⟩
  case round =>
    obtain ⟨kid, at_, frm, beh, rfl, rfl, rfl, rfl, hI, hbw⟩ := hrel
    have i1 := hI.kidLe
    have i2 := hI.atLe
    have i3 := hI.frmLe
    rw [HLN.out] at i1
    rw [HLEN.out] at i2
    have HI := Lib.hid hI
    clear hI
    have hB := hbw.size
    by_cases hat : at_ < s.size
    · have hat' : (at_ : Int) < (s.size : Int) := by omega
      have hbt := byteAt_eq s at_ hat
      by_cases hk : kid < n
      · have hk' : (kid : Int) < (n : Int) := by omega
        have hkr : kid < ts.length := by have := hr.1; omega
        obtain ⟨b, o, rfl, hX, hcells⟩ := hr.2 (by omega)
        obtain ⟨v0, v1, v2, e0, e1, e2, ht⟩ := hcells kid (ts[kid]) (List.getElem?_eq_getElem hkr)
        replace e0 := (hbw.cell (p := ⟨b, o + kid * 3, none⟩) hX).trans e0
        replace e1 := (hbw.cell (p := ⟨b, o + kid * 3 + 1, none⟩) hX).trans e1
        obtain ⟨kd, rs, ks, A1, n1, c1, A2, n2, c2, htk, rfl, rfl, rfl, hn1, hrg⟩ := ht.kind
        have hpc : (ts.map pcOf)[kid]? = some (pcOf (.mk kd rs ks)) := pc_get (by rw [← htk]; exact List.getElem?_eq_getElem hkr)
        clear hcells ht htk e2
        cases hkd : (kd == 4)
        · -- a set
          have hpc' : (ts.map pcOf)[kid]? = some (.set rs) := by rw [hpc]; simp at hkd; simp [pcOf, hkd]
          have HPC := Lib.hid hpc'
          clear hpc hpc'
          have hrg2 : RgAt wr.drew (· < wr.drew.heap.size) A1 n1 rs := (hrg.keep (w' := wr.drew) (fun i hi => hbw.block i hi)).mono fun i hi => Nat.lt_of_lt_of_le hi hB
          have HH := Lib.hid (holds_any A1 n1 c1 rs (byteAt s at_) wr.drew hrg2 hn1)
          clear hrg hrg2
          have hXw : b < wr.heap.size := Nat.lt_of_lt_of_le hX hB
          have z1 : (0 : Int) ≤ (kid : Int) := by omega
          have z2 : (0 : Int) ≤ (at_ : Int) := by omega
          go_wp2
          go_region_held3 (fun W => W.cell? ⟨b, o + kid * 3 + 1, none⟩ = some (.slice A1 n1 c1)) (go_keep)
            ((go_at_call 82; refine HH.out.mono ?_; rintro e w3 ⟨rfl, hb3⟩; have g3 := (hb3.cell (p := ⟨b, o + kid * 3 + 1, none⟩) hXw).trans e1))
          have hb4 : Below w.heap.size w w3 := hbw.trans (Below.mono (w := wr) ⟨hb3.os, hb3.tape, hb3.output, hb3.size, hb3.block⟩ hB)
          cases hin : inR rs (byteAt s at_).toNat
          · have HST := Lib.hid (MInv.stuck (ps := ts.map pcOf) (kid := kid) (txt := s.data.toList) (at_ := at_) (by rw [HLEN.out]; exact hat) (Or.inr ⟨rs, HPC.out, fun c hc => by
              rw [txt_get s at_ hat] at hc; injection hc with hc; rw [← hc]; exact hin⟩))
            by_cases hbeh : (0 : Int) ≤ beh
            · obtain ⟨bb, rfl⟩ := Int.eq_ofNat_of_zero_le hbeh
              have HB := Lib.hid (HI.out.back (by rw [HLEN.out]; exact hat) HST.out)
              go_wp2
              go_roundw
              case rel => exact ⟨bb, frm + 1, frm + 1, (bb : Int), rfl, by go_num, rfl, by go_num, HB.out.1, hb4⟩
              case measure => simp only [mMeas, intOf]; exact mMeas_back HB.out.2 i1 (by omega)
            · have hbeh' : beh < 0 := by omega
              have HF := Lib.hid (HI.out.fail hbeh' HST.out)
              go_wp2
              go_ret
              exact ⟨ret_bool HF.out.symm, hb4⟩
          · have HSTEP := Lib.hid (HI.out.step HPC.out (txt_get s at_ hat) hin)
            go_wp2
            go_roundw
            case rel => exact ⟨kid + 1, at_ + 1, frm, beh, by go_num, by go_num, rfl, rfl, HSTEP.out, hb4⟩
            case measure => simp only [mMeas, intOf]; exact mMeas_fwd (by omega) (by omega) (Nat.le_refl _)
        · have hpc' : (ts.map pcOf)[kid]? = some .star := by rw [hpc]; simp at hkd; simp [pcOf, hkd]
          have HSTAR := Lib.hid (HI.out.star hpc')
          clear hpc hpc'
          go_wp2
          go_roundw
          case rel => exact ⟨kid + 1, at_, at_, ((kid + 1 : Nat) : Int), by go_num, rfl, by go_num, rfl, HSTAR.out, hbw⟩
          case measure => simp only [mMeas, intOf]; exact mMeas_fwd (by omega) (by omega) i3
      · have hk0 : decide ((kid : Int) < (n : Int)) = false := by simp; omega
        have HST := Lib.hid (MInv.stuck (ps := ts.map pcOf) (kid := kid) (txt := s.data.toList) (at_ := at_) (by rw [HLEN.out]; exact hat) (Or.inl (by rw [HLN.out]; omega)))
        have hk1 : ¬ (kid : Int) < (n : Int) := by omega
        go_wp2
        go_quiet (fail)
        by_cases hbeh : (0 : Int) ≤ beh
        · obtain ⟨bb, rfl⟩ := Int.eq_ofNat_of_zero_le hbeh
          have HB := Lib.hid (HI.out.back (by rw [HLEN.out]; exact hat) HST.out)
          go_wp2
          go_roundw
          case rel => exact ⟨bb, frm + 1, frm + 1, (bb : Int), rfl, by go_num, rfl, by go_num, HB.out.1, ⟨hbw.os, hbw.tape, hbw.output, hbw.size, hbw.block⟩⟩
          case measure => simp only [mMeas, intOf]; exact mMeas_back HB.out.2 i1 (by omega)
        · have hbeh' : beh < 0 := by omega
          have HF := Lib.hid (HI.out.fail hbeh' HST.out)
          go_wp2
          go_ret
          exact ⟨ret_bool HF.out.symm, ⟨hbw.os, hbw.tape, hbw.output, hbw.size, hbw.block⟩⟩
    · obtain rfl : at_ = s.size := by omega
      have HOV := Lib.hid (show gm (ts.map pcOf) s.data.toList = onlyS ((ts.map pcOf).drop kid) by exact HI.out.over)
      have hkd0 : KdAt wr (· < wr.heap.size) d A n ts := (hr.keep (fun i hi => hbw.block i hi)).mono fun i hi => Nat.lt_of_lt_of_le hi hB
      have HK0 := Lib.hid hkd0
      clear hkd0
      go_wp2_with fail
      · refine (only_any _ _ _ d (ts.drop kid) wr ⟨by rw [List.length_drop, hr.1], fun h => absurd h (by omega)⟩ (by unfold maxLen; omega)).mono ?_
        rintro e w3 ⟨rfl, hb3⟩
        go_wp2
        go_ret
        exact ⟨ret_bool HOV.out.symm, hbw.trans (hb3.mono hB)⟩
      · refine (only_any _ _ _ d (ts.drop kid) wr (HK0.out.cut i1) (by unfold maxLen; omega)).mono ?_
        rintro e w3 ⟨rfl, hb3⟩
        go_wp2
        go_ret
        exact ⟨ret_bool HOV.out.symm, hbw.trans (hb3.mono hB)⟩
set_option maxHeartbeats 1000000 in
set_option maxRecDepth 100000 in
theorem match_any (p s : ByteArray) (w : World) (hs : s.size ≤ maxLen) :
    Calls Try.prog 31 #[.string p, .string s] w fun e w' => e = .returned (.bool (matchG p.data.toList s.data.toList)) ∧ Below w.heap.size w w' := by
  unfold matchG
  have hr := parse_any p w
  have HP := Lib.hid hr
  clear hr
  generalize hR : parseG p.data.toList = R
  rw [hR] at HP
  have hlen := parseG_len p.data.toList
  rw [hR] at hlen
  clear hR
  obtain ⟨⟨k0, rs0, ts⟩, code, at_⟩ := R
  simp only at hlen ⊢
  by_cases hc : code = 0
  · have hc' : ((code : Int) == 0) = true := by simp [hc]
    have HC := Lib.hid hc
    clear hc
    go_enter Try.func31, Try.ntmps31
    go_wp2_with fail
    refine HP.out.mono ?_
    rintro e w1 ⟨d, k, A, n, c, A', n', c', rfl, ht, hb⟩
    match d, ht with
    | d + 1, ht =>
      obtain ⟨A1, n1, c1, A2, n2, c2, e0, e1, e2, _, hcp, _, hkd⟩ := ht.parts
      injection e2 with e2 e3 e4
      subst e2 e3 e4
      have hn' : n' ≤ 256 := by rw [← hkd.1]; exact hlen
      have HK := Lib.hid ((hkd.keep (w' := w1.alloc (.cells #[.int .i64 k, .slice A n c, .slice A' n' c'] 30)) fun b hb => Below.heap_alloc _ _ _ hb.2).mono (Y := fun b => b < (w1.alloc (.cells #[.int .i64 k, .slice A n c, .slice A' n' c'] 30)).heap.size) fun b hb => by have := hb.2; simp; omega)
      clear hkd ht
      replace hcp := hcp.2
      go_wp2_with fail
      refine (matches_any A' n' c' d ts s _ HK.out (by omega) hcp hs).mono ?_
      rintro e w2 ⟨rfl, hb2⟩
      go_wp2
      go_ret
      exact ⟨ret_bool (by rw [HC.out]; simp), (hb.alloc hb.size _).trans (hb2.mono (by have := hb.size; simp; omega))⟩
  · have hc' : ((code : Int) == 0) = false := by simp [hc]
    have HC := Lib.hid hc
    clear hc
    go_enter Try.func31, Try.ntmps31
    go_wp2_with fail
    refine HP.out.mono ?_
    rintro e w1 ⟨d, k, A, n, c, A', n', c', rfl, ht, hb⟩
    clear ht
    go_wp2
    go_ret
    exact ⟨ret_bool (by simp [HC.out]), hb.alloc hb.size _⟩
end Go.Proofs.Ytponepcgokfiiaa
