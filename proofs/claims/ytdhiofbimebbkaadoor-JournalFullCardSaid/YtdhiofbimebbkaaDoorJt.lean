/- JournalFull: the states of a disk that has another file beside the journal's. -/
import Derived.Test.YtdhiofbimebbkaaDoorJq
import Derived.Deep.OwnRows
namespace Go.Proofs.YtdhiofbimebbkaaDoor
open Go.RowKit Go.Maps Go.Sort

def othL : List UInt8 := [111, 116, 104, 101, 114]
def othN : ByteArray := ⟨#[111, 116, 104, 101, 114]⟩
def sO (z : List UInt8) (fr : Nat) : Sta := ⟨[(othL, z, 0)], fr, 0, false⟩
def sF (b : List UInt8) (sb : Nat) (z : List UInt8) (fr : Nat) : Sta := ⟨[([106], b, sb), (othL, z, 0)], fr, 0, false⟩
theorem sO_create (fr : Nat) : createS othL ⟨[], fr, 0, false⟩ = (0, sO [] fr) := rfl
theorem sO_append {z y : List UInt8} {fr : Nat} (h : y.length ≤ fr) : appendS othL y (sO z fr) = (0, sO (z ++ y) (fr - y.length)) := by
  have e : appendS othL y (sO z fr) = if fr < y.length then (71, sO z fr) else (0, sO (z ++ y) (fr - y.length)) := rfl
  rw [e, if_neg (by omega)]
theorem sF_load (z : List UInt8) (fr : Nat) : loadS [106] (sO z fr) = (0, [], sF [] 0 z fr) := rfl
theorem sF_open (z : List UInt8) (fr : Nat) : openS [106] (sO z fr) = (0, sF [] 0 z fr, []) := rfl
theorem sF_append (b y : List UInt8) (sb : Nat) (z : List UInt8) (fr : Nat) : appendS [106] y (sF b sb z fr) = if fr < y.length then (71, sF b sb z fr) else (0, sF (b ++ y) sb z (fr - y.length)) := rfl
theorem sF_remove (b : List UInt8) (sb : Nat) (z : List UInt8) (fr : Nat) : removeS othL (sF b sb z fr) = (0, sJ b sb (fr + z.length)) := rfl
theorem sO_ok {z : List UInt8} {fr : Nat} (hz : z.length ≤ 100000000) (hf : fr ≤ 100000000) : Ok (sO z fr) := by
  have e : tot (sO z fr).V = z.length := by simp [sO, tot]
  refine ⟨by simp [sO], by rw [e]; omega, ?_, by show 0 ≤ _; omega, fun t ht => ?_⟩
  · rw [e]; show fr + _ ≤ _; omega
  · obtain rfl : t = (othL, z, 0) := by simpa [sO] using ht
    show 5 ≤ 40; decide
theorem sF_ok {b z : List UInt8} {sb fr : Nat} (hb : b.length ≤ 100000000) (hz : z.length ≤ 100000000) (hf : fr ≤ 100000000) : Ok (sF b sb z fr) := by
  have e : tot (sF b sb z fr).V = b.length + z.length := by simp [sF, tot]
  refine ⟨by simp [sF], by rw [e]; omega, ?_, by show 0 ≤ _; omega, fun t ht => ?_⟩
  · rw [e]; show fr + _ ≤ _; omega
  · have h : t = ([106], b, sb) ∨ t = (othL, z, 0) := by simpa [sF] using ht
    rcases h with rfl | rfl
    · show 1 ≤ 40; decide
    · show 5 ≤ 40; decide
/-- Open on the disk with the other file alone. -/
theorem open_sO {w0 w : World} {dp : Nat} {X : Nat → Prop} {z : List UInt8} {fr : Nat} (h : DB w0 w dp X (sO z fr)) (hz : z.length ≤ 100000000) (hf : fr ≤ 100000000) (ht : TabAt w0) :
    Calls Tryd.prog 8 #[.pointer (some ⟨dp, 0, none⟩), .string jn] w fun e w' => ∃ jp jm X Y L, e = .returned (.tuple #[.pointer (some ⟨jp, 0, none⟩), .int .i64 0]) ∧ JB w0 w' dp jp jm jn X Y (sF [] 0 z fr) L ∧ itms L = [] := by
  have h1 := open_any (nm := jn) (its := []) h (sO_ok hz hf) (by show Ok (loadS [106] _).2.2; rw [sF_load]; exact sF_ok (Nat.zero_le _) hz hf) (by show Ok (keptS [106] (loadS [106] _).2.1 (loadS [106] _).2.2).2; rw [sF_load]; exact sF_ok (Nat.zero_le _) hz hf) (by decide) ht (by show CleanB [] (loadS [106] _).2.1; rw [sF_load]; exact clean_nil) (by decide) (by show (loadS [106] _).2.1.length ≤ _; rw [sF_load]; exact Nat.zero_le _)
  rw [show jn.data.toList = [106] from rfl, sF_open] at h1
  refine h1.mono ?_
  intro e w' hp
  unfold OpenPost at hp
  rw [if_pos rfl] at hp
  exact hp
theorem numL_one {q : Nat} (h : q < 128) : (numL q).length = 1 := by
  show (if q < 128 then [UInt8.ofNat q] else _).length = 1
  rw [if_pos h]; rfl
theorem rec_len {q : Nat} {d : List UInt8} (h : q < 128) : (recI (q, d)).length = d.length + 9 := by
  unfold recI payI
  rw [recL_len, List.length_append, numL_one h]
  show 1 + d.length + 8 = d.length + 9
  omega
/-- The disk when the data ds were put, R the room at first. -/
def stF (z : List UInt8) (R : Nat) (ds : List (List UInt8)) : Sta := sF (fileL (idxI 0 ds)) 0 z (R - (fileL (idxI 0 ds)).length)
theorem stF_put {z : List UInt8} {R : Nat} {ds : List (List UInt8)} {d : List UInt8} (hl : ds.length < 128) (h : d.length + 9 ≤ R - (fileL (idxI 0 ds)).length) :
    putS [106] ds.length d (stF z R ds, idxI 0 ds) = (0, stF z R (ds ++ [d]), idxI 0 (ds ++ [d])) := by
  unfold putS stF
  rw [sF_append, if_neg (by simp [hasK_idx ds 0 ds.length (Nat.zero_le _)]), rec_len hl, if_neg (by omega), idxI_snoc, fileL_snoc, List.length_append, rec_len hl, show R - (fileL (idxI 0 ds)).length - (d.length + 9) = R - ((fileL (idxI 0 ds)).length + (d.length + 9)) by omega]
  rfl
theorem stF_full {z : List UInt8} {R : Nat} {ds : List (List UInt8)} {d : List UInt8} (hl : ds.length < 128) (h : R - (fileL (idxI 0 ds)).length < d.length + 9) :
    putS [106] ds.length d (stF z R ds, idxI 0 ds) = (71, stF z R ds, idxI 0 ds) := by
  unfold putS stF
  rw [sF_append, if_neg (by simp [hasK_idx ds 0 ds.length (Nat.zero_le _)]), rec_len hl, if_pos (by omega)]
  rfl
theorem stF_fits {R : Nat} {ds : List (List UInt8)} {d : List UInt8} (hl : ds.length < 128) (h : d.length + 9 ≤ R - (fileL (idxI 0 ds)).length) : (fileL (idxI 0 (ds ++ [d]))).length ≤ R := by
  rw [idxI_snoc, fileL_snoc, List.length_append, rec_len hl]; omega
theorem made_bytes (w : World) (n : Nat) : BytesAt (w.alloc (.cells (madeCells (Value.int .u8 0).cells n) 5)) (some ⟨w.heap.size, 0, none⟩) n (List.replicate n 0) := by
  have h := World.rowIs_made w (.int .u8 0) n 5
  refine ⟨by simp, fun _ => ⟨w.heap.size, 0, rfl, by simp, fun i c hi => ?_⟩⟩
  have hlt : i < n := by
    have := (List.getElem?_eq_some_iff.1 hi).1
    simpa using this
  have hc : c = 0 := by
    rw [List.getElem?_replicate, if_pos hlt] at hi
    injection hi with hi; exact hi.symm
  rw [Nat.zero_add, hc]
  exact h.cell hlt
/-- Open on a disk with the journal's file alone, all whose bytes are items'. -/
theorem open_full {w0 w : World} {dp : Nat} {X : Nat → Prop} {its : List Itm} {sf fr : Nat} (h : DB w0 w dp X (sJ (fileL its) sf fr)) (hg : GoodL [] its) (hb : (fileL its).length ≤ 10000000) (hf : fr ≤ 10000000) (hs : sf ≤ (fileL its).length) (ht : TabAt w0) :
    Calls Tryd.prog 8 #[.pointer (some ⟨dp, 0, none⟩), .string jn] w fun e w' => (∃ jp jm X Y L, e = .returned (.tuple #[.pointer (some ⟨jp, 0, none⟩), .int .i64 0]) ∧ JB w0 w' dp jp jm jn X Y (sJ (fileL its) (fileL its).length fr) L ∧ itms L = its) ∧ Kept X w w' := by
  have hsc : scanL [] (fileL its) = its := by rw [scan_all hg]; rfl
  have hil := fileL_len its
  have hn : (fileL its).length = (fileL (scanL [] (fileL its))).length := by rw [hsc]
  have h1 := open_kept (nm := jn) (its := its) h (sJ_ok (by omega) (by omega)) (by show Ok (loadS [106] _).2.2; rw [sJ_load]; exact sJ_ok (by omega) (by omega)) (by show Ok (keptS [106] (loadS [106] _).2.1 (loadS [106] _).2.2).2; rw [sJ_load, sJ_kept hn (Nat.le_refl _) hs]; exact sJ_ok (by rw [List.length_take]; omega) (by omega)) (by decide) ht (by show CleanB its (loadS [106] _).2.1; rw [sJ_load]; exact ⟨hg, (fileL its).length, by rw [List.take_length]⟩) (by omega) (by show (loadS [106] _).2.1.length ≤ _; rw [sJ_load]; simp only; omega)
  rw [show jn.data.toList = [106] from rfl, sJ_open hn (Nat.le_refl _) hs, List.take_length, Nat.sub_self, Nat.add_zero, hsc] at h1
  refine h1.mono ?_
  rintro e w' ⟨hp, hk⟩
  unfold OpenPost at hp
  rw [if_pos rfl] at hp
  exact ⟨hp, hk⟩
theorem keys_slice {w : World} {B : Nat} {v : Value} {L : List Ent} (hr : w.ownsRow B 2 1 v (keyL L).length ((keyL L).map encZ)) : ∃ A c, v = .slice A L.length c := by
  have hl : (keyL L).length = L.length := by unfold keyL; rw [List.length_mergeSort, List.length_map]
  rw [hl] at hr
  obtain ⟨A, c, e, _⟩ := row_open hr
  exact ⟨A, c, e⟩
end Go.Proofs.YtdhiofbimebbkaaDoor
