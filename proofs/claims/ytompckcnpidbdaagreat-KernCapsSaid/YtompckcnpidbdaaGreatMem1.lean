/- The contracts of package mem in the form that a walk uses: arguments by equations. -/
import Derived.Test.YtompckcnpidbdaaGreatMem
namespace Go.Proofs.YtompckcnpidbdaaGreat
open Go.RowKit
set_option linter.unusedVariables false
set_option linter.unusedSimpArgs false
theorem new_is (n : Int) (k : Nat) (hk : (min (max n 0) 256).toNat = k) (w : World) : Calls Tryz.prog 27 #[.int .i64 n] w (Made k w) := by
  subst hk
  exact new_any n w
theorem store_is (a : Int) (p r at' n cap : Nat) (ha : a = at') (A : Option Addr) (xs bs ys : List UInt8) (w : World) (h : IsMem w p r xs) (hn : bs.length = n) (hb : Reads w A n (bytes bs)) (h1 : at' + n ≤ xs.length) (hy : splice xs at' bs = ys) :
    Calls Tryz.prog 61 #[.pointer (some ⟨p, 0, none⟩), .int .i64 a, .slice A n cap] w fun e w' => e = .returned (.int .i64 0) ∧ IsMem w' p r ys ∧ Keep (· = r) w w' ∧ w'.heap.size = w.heap.size := by
  subst hy ha
  exact store_yes p r at' n cap A xs bs w h hn hb h1
theorem size_is (n : Int) (p r : Nat) (xs : List UInt8) (w : World) (h : IsMem w p r xs) (hn : (xs.length : Int) = n) :
    Calls Tryz.prog 79 #[.pointer (some ⟨p, 0, none⟩)] w fun e w' => e = .returned (.int .i64 n) ∧ w = w' := by
  subst hn
  exact size_any p r xs w h
theorem load_is (a m : Int) (p r at' n : Nat) (ha : a = at') (hm : m = n) (xs ys : List UInt8) (w : World) (h : IsMem w p r xs) (h1 : at' + n ≤ xs.length) (hy : (xs.drop at').take n = ys) :
    Calls Tryz.prog 60 #[.pointer (some ⟨p, 0, none⟩), .int .i64 a, .int .i64 m] w (GotBytes ys w) := by
  subst hy ha hm
  exact load_yes p r at' n xs w h h1
theorem reads_new (w : World) (t : TypeId) (g : Nat) (hg : g = w.heap.size) (bs : List UInt8) (cs : Array Value) (hc : cs = (bytes bs).toArray) : Reads (w.alloc (.cells cs t)) (some ⟨g, 0, none⟩) bs.length (bytes bs) := by
  subst hg hc
  have R := Reads.of_blk (A := some ⟨w.heap.size, 0, none⟩) (off := 0) (n := bs.length) (Blk.new w t (bytes bs)) (fun _ => rfl) (by simp)
  rwa [List.drop_zero, List.take_of_length_le (by simp)] at R
theorem reads_rep {w : World} {g n : Nat} (h : Blk w g 5 (List.replicate n (Value.int .u8 0))) : Reads w (some ⟨g, 0, none⟩) n (bytes (List.replicate n 0)) := by
  have R := Reads.of_blk (A := some ⟨g, 0, none⟩) (off := 0) (n := n) h (fun _ => rfl) (by simp)
  rw [List.drop_zero, List.take_of_length_le (by simp)] at R
  rw [bytes_replicate]
  exact R
theorem IsMem.nob {w w' : World} {p r : Nat} {xs : List UInt8} (h : IsMem w p r xs) (k : Keep Nob w w') : IsMem w' p r xs := h.keep k (fun f => f) (fun f => f)
end Go.Proofs.YtompckcnpidbdaaGreat
