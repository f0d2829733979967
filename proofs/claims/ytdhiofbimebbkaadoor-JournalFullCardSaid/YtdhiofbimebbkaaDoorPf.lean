/- The document's example of Read (reading). -/
import Derived.Test.YtdhiofbimebbkaaDoorPe
namespace Go.Proofs.YtdhiofbimebbkaaDoor
open Go.RowKit

theorem rd_new (w : World) {A : Option Addr} {m c : Nat} {bs : List UInt8} {X : Nat → Prop} (hb : BytesAt w A m bs) (hc : m ≤ c) (hm : m ≤ maxLen) (hX : ∀ b o, A = some ⟨b, o, none⟩ → X b) (hn : ¬ X w.heap.size) :
    RdAt ((w.alloc (.cells #[.slice A m c, .bool true, .bool false] 101)).alloc (.cells #[.pointer (some ⟨w.heap.size, 0, none⟩)] 90)) w.heap.size X bs false :=
  ⟨⟨A, m, c, (Blk.new w _ _).alloc _, hb.below (((Below.refl _ w).alloc (Nat.le_refl _) _).alloc (by simp) _), hc, hm, hX⟩, hn⟩
theorem box_new (w : World) (A : Option Addr) (m c : Nat) : Blk ((w.alloc (.cells #[.slice A m c, .bool true, .bool false] 101)).alloc (.cells #[.pointer (some ⟨w.heap.size, 0, none⟩)] 90)) (w.heap.size + 1) 90 #[.pointer (some ⟨w.heap.size, 0, none⟩)] := by
  simpa using Blk.new (w.alloc (.cells #[.slice A m c, .bool true, .bool false] 101)) 90 #[.pointer (some ⟨w.heap.size, 0, none⟩)]
theorem Blk.kept {w w' : World} {g : Nat} {t : TypeId} {cs : Array Value} {Y : Nat → Prop} (h : Blk w g t cs) (k : Kept Y w w') (hn : ¬ Y g) : Blk w' g t cs := (k.block g h.lt hn).trans h
theorem RdAt.set_ {w : World} {rp : Nat} {X : Nat → Prop} {bs : List UInt8} {rf : Bool} (h : RdAt w rp X bs rf) {p : Addr} (h0 : p.block ≠ rp) (h1 : ¬ X p.block) (u : Value) : RdAt (w.setCell p u) rp X bs rf :=
  h.keep (Below.heap_setCell _ _ _ _ (fun e => h0 e.symm)) (fun b hb _ => Below.heap_setCell _ _ _ _ (fun e => h1 (by rw [← e]; exact hb))) (by simp [World.setCell])
end Go.Proofs.YtdhiofbimebbkaaDoor
