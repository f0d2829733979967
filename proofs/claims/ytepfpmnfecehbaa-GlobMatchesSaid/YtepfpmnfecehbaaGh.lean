/- glob.holds, onlyStars. -/
import Derived.Test.YtepfpmnfecehbaaRr
import Derived.Test.YtepfpmnfecehbaaTw
import Derived.Test.YtepfpmnfecehbaaGm
namespace Go.Proofs.Ytepfpmnfecehbaa
open Go.RowKit

/-- A slice of nodes that reads as these trees. -/
def KdAt (w : World) (X : Nat → Prop) (d : Nat) (A : Option Addr) (n : Nat) (ts : List Tr) : Prop :=
  ts.length = n ∧ (0 < n → ∃ b o, A = some ⟨b, o, none⟩ ∧ X b ∧ ∀ i t, ts[i]? = some t → ∃ v0 v1 v2, w.cell? ⟨b, o + i * 3, none⟩ = some v0 ∧ w.cell? ⟨b, o + i * 3 + 1, none⟩ = some v1 ∧ w.cell? ⟨b, o + i * 3 + 2, none⟩ = some v2 ∧ TreeAt w X d t [v0, v1, v2])
theorem KdAt.keep {w w' : World} {X : Nat → Prop} {d n : Nat} {A : Option Addr} {ts : List Tr} (h : KdAt w X d A n ts) (hk : ∀ b, X b → w'.heap[b]? = w.heap[b]?) : KdAt w' X d A n ts :=
  ⟨h.1, fun hn => by
    obtain ⟨b, o, hA, hX, hc⟩ := h.2 hn
    refine ⟨b, o, hA, hX, fun i t ht => ?_⟩
    obtain ⟨v0, v1, v2, e0, e1, e2, ht'⟩ := hc i t ht
    have e := hk b hX
    exact ⟨v0, v1, v2, (World.cell?_of_block (a := ⟨b, o + i * 3, none⟩) e).trans e0, (World.cell?_of_block (a := ⟨b, o + i * 3 + 1, none⟩) e).trans e1, (World.cell?_of_block (a := ⟨b, o + i * 3 + 2, none⟩) e).trans e2, ht'.keep hk⟩⟩
theorem KdAt.mono {w : World} {X Y : Nat → Prop} {d n : Nat} {A : Option Addr} {ts : List Tr} (h : KdAt w X d A n ts) (hXY : ∀ b, X b → Y b) : KdAt w Y d A n ts :=
  ⟨h.1, fun hn => by
    obtain ⟨b, o, hA, hX, hc⟩ := h.2 hn
    refine ⟨b, o, hA, hXY b hX, fun i t ht => ?_⟩
    obtain ⟨v0, v1, v2, e0, e1, e2, ht'⟩ := hc i t ht
    exact ⟨v0, v1, v2, e0, e1, e2, ht'.mono hXY⟩⟩
/-- What a node is: its kind, its ranges, its kids. -/
theorem TreeAt.parts {w : World} {X : Nat → Prop} {d : Nat} {k : Int} {rs : List (UInt8 × UInt8)} {kids : List Tr} {v0 v1 v2 : Value} (h : TreeAt w X (d + 1) (.mk k rs kids) [v0, v1, v2]) :
    ∃ A n c A' n' c', v0 = .int .i64 k ∧ v1 = .slice A n c ∧ v2 = .slice A' n' c' ∧ n ≤ maxLen ∧ (n' ≤ maxLen ∧ n' ≤ c') ∧ RgAt w X A n rs ∧ KdAt w X d A' n' kids := by
  obtain ⟨A, n, c, A', n', c', h1, h2, h3, h4, h5, h6⟩ := h
  simp only [List.cons.injEq, and_true] at h1
  obtain ⟨rfl, rfl, rfl⟩ := h1
  exact ⟨A, n, c, A', n', c', rfl, rfl, rfl, h2, h3, h4, h5, h6⟩
theorem TreeAt.kind {w : World} {X : Nat → Prop} {d : Nat} {t : Tr} {v0 v1 v2 : Value} (h : TreeAt w X d t [v0, v1, v2]) : ∃ k rs ks A n c A' n' c', t = .mk k rs ks ∧ v0 = .int .i64 k ∧ v1 = .slice A n c ∧ v2 = .slice A' n' c' ∧ n ≤ maxLen ∧ RgAt w X A n rs := by
  match d, t, h with
  | d + 1, .mk k rs ks, h =>
    obtain ⟨A, n, c, A', n', c', h1, h2, h3, h4, _, h5, _⟩ := h.parts
    exact ⟨k, rs, ks, A, n, c, A', n', c', rfl, h1, h2, h3, h4, h5⟩

set_option maxHeartbeats 400000 in
set_option maxRecDepth 100000 in
theorem holds_any (A : Option Addr) (n cp : Nat) (rs : List (UInt8 × UInt8)) (c : UInt8) (w : World) (hr : RgAt w (· < w.heap.size) A n rs) (hn : n ≤ maxLen) :
    Calls Try.prog 70 #[.slice A n cp, .int .u8 (c.toNat : Nat)] w fun e w' => e = .returned (.bool (inR rs c.toNat)) ∧ Below w.heap.size w w' := by
  unfold maxLen at hn
  go_enter Try.func70, Try.ntmps70
  go_wp2_with fail
  go_loopw [9] (fun i wr => ∃ k : Nat, k ≤ n ∧ i = .int .i64 k ∧ inR (rs.take k) c.toNat = false ∧ Below w.heap.size w wr) (fun i _ => n - (intOf i).toNat)
  case atStart => exact ⟨0, Nat.zero_le _, rfl, by simp [inR], Below.refl _ _⟩
  case round =>
    obtain ⟨k, hk, rfl, hno, hbw⟩ := hrel
    have HN := Lib.hid hno
    clear hno
    have hB := hbw.size
    by_cases hlt : k < n
    · have hlt' : (k : Int) < (n : Int) := by omega
      have hkr : k < rs.length := by have := hr.1; omega
      obtain ⟨b, o, rfl, hX, hcells⟩ := hr.2 (by omega)
      obtain ⟨e1, e2⟩ := hcells k (rs[k]) (List.getElem?_eq_getElem hkr)
      replace e1 := (hbw.cell (p := ⟨b, o + k * 2, none⟩) hX).trans e1
      replace e2 := (hbw.cell (p := ⟨b, o + k * 2 + 1, none⟩) hX).trans e2
      clear hcells
      have HS := Lib.hid (inR_take_succ rs k hkr c.toNat)
      have HO := Lib.hid (inR_of rs k hkr c.toNat)
      generalize rs[k] = r at *
      obtain ⟨lo, hi⟩ := r
      simp only at e1 e2
      by_cases h1 : lo.toNat ≤ c.toNat
      · by_cases h2 : c.toNat ≤ hi.toNat
        · have HR := Lib.hid (HO.out h1 h2)
          have h1' : (lo.toNat : Int) ≤ (c.toNat : Int) := by omega
          have h2' : (c.toNat : Int) ≤ (hi.toNat : Int) := by omega
          go_wp2
          go_ret
          exact ⟨ret_bool HR.out.symm, hbw.alloc hB _⟩
        · have h1' : (lo.toNat : Int) ≤ (c.toNat : Int) := by omega
          have h2' : ¬ (c.toNat : Int) ≤ (hi.toNat : Int) := by omega
          go_wp2
          go_roundw
          case rel => exact ⟨k + 1, by omega, by go_num, by rw [HS.out, HN.out]; simp [h2], hbw.alloc hB _⟩
          case measure => simp [intOf]; omega
      · have h1' : ¬ (lo.toNat : Int) ≤ (c.toNat : Int) := by omega
        go_wp2
        go_roundw
        case rel => exact ⟨k + 1, by omega, by go_num, by rw [HS.out, HN.out]; simp [h1], hbw.alloc hB _⟩
        case measure => simp [intOf]; omega
    · obtain rfl : n = k := by omega
      have HR := Lib.hid (show inR rs c.toNat = false by rw [← HN.out, List.take_of_length_le (by have := hr.1; omega)])
      go_wp2
      go_ret
      exact ⟨ret_bool HR.out.symm, hbw⟩

theorem pcOf_star {k : Int} {rs : List (UInt8 × UInt8)} {ks : List Tr} : isSet (pcOf (.mk k rs ks)) = (k != 4) := by
  unfold pcOf
  by_cases h : k = 4
  · simp [h, isSet]
  · simp [h, isSet]
set_option maxHeartbeats 400000 in
set_option maxRecDepth 100000 in
theorem only_any (A : Option Addr) (n cp d : Nat) (ts : List Tr) (w : World) (hr : KdAt w (· < w.heap.size) d A n ts) (hn : n ≤ maxLen) :
    Calls Try.prog 71 #[.slice A n cp] w fun e w' => e = .returned (.bool (onlyS (ts.map pcOf))) ∧ Below w.heap.size w w' := by
  unfold maxLen at hn
  go_enter Try.func71, Try.ntmps71
  go_wp2_with fail
  go_loopw [7] (fun i wr => ∃ k : Nat, k ≤ n ∧ i = .int .i64 k ∧ onlyS ((ts.take k).map pcOf) = true ∧ Below w.heap.size w wr) (fun i _ => n - (intOf i).toNat)
  case atStart => exact ⟨0, Nat.zero_le _, rfl, by simp [onlyS], Below.refl _ _⟩
  case round =>
    obtain ⟨k, hk, rfl, hno, hbw⟩ := hrel
    have HN := Lib.hid hno
    clear hno
    have hB := hbw.size
    by_cases hlt : k < n
    · have hlt' : (k : Int) < (n : Int) := by omega
      have hkr : k < ts.length := by have := hr.1; omega
      obtain ⟨b, o, rfl, hX, hcells⟩ := hr.2 (by omega)
      obtain ⟨v0, v1, v2, e0, e1, e2, ht⟩ := hcells k (ts[k]) (List.getElem?_eq_getElem hkr)
      replace e0 := (hbw.cell (p := ⟨b, o + k * 3, none⟩) hX).trans e0
      replace e1 := (hbw.cell (p := ⟨b, o + k * 3 + 1, none⟩) hX).trans e1
      replace e2 := (hbw.cell (p := ⟨b, o + k * 3 + 2, none⟩) hX).trans e2
      obtain ⟨kd, rs, ks, A1, n1, c1, A2, n2, c2, htk, rfl, rfl, rfl, _, _⟩ := ht.kind
      have HS := Lib.hid (show onlyS ((ts.take (k + 1)).map pcOf) = (onlyS ((ts.take k).map pcOf) && !(kd != 4)) by
        rw [List.take_succ_eq_append_getElem hkr, htk, List.map_append]
        simp only [onlyS, List.all_append, List.map_cons, List.map_nil, List.all_cons, List.all_nil, Bool.and_true, pcOf_star])
      have HF := Lib.hid (show (kd != 4) = true → onlyS (ts.map pcOf) = false by
        intro h
        rw [Bool.eq_false_iff]
        intro h2
        have := List.all_eq_true.1 h2 (pcOf ts[k]) (List.mem_map_of_mem (List.getElem_mem hkr))
        rw [htk, pcOf_star, h] at this
        simp at this)
      clear hcells ht htk
      cases hkd : (kd != 4)
      · go_wp2
        go_roundw
        case rel => exact ⟨k + 1, by omega, by go_num, by rw [HS.out, HN.out, hkd]; rfl, hbw.alloc hB _⟩
        case measure => simp [intOf]; omega
      · have HR := Lib.hid (HF.out hkd)
        go_wp2
        go_ret
        exact ⟨ret_bool HR.out.symm, hbw.alloc hB _⟩
    · obtain rfl : n = k := by omega
      have HR := Lib.hid (show onlyS (ts.map pcOf) = true by rw [← HN.out, List.take_of_length_le (by have := hr.1; omega)])
      go_wp2
      go_ret
      exact ⟨ret_bool HR.out.symm, hbw⟩
end Go.Proofs.Ytepfpmnfecehbaa
