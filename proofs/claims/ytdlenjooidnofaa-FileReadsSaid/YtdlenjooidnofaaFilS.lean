/- The document's FileBytes. -/
import Derived.Test.YtdlenjooidnofaaFil1
import Derived.Test.YtdlenjooidnofaaFilQ
namespace Go.Proofs.Ytdlenjooidnofaa.Fi
open Go.RowKit
set_option linter.unusedVariables false
set_option linter.unusedSimpArgs false
set_option maxHeartbeats 4000000 in
theorem filebytes_is (p : List Int) (hl : p.length = 4) (w : World) :
    Calls Try.prog 10 #[pv p] w fun e w' => e = .returned (.string (str (enc p))) ∧ Keep Nob w w' := by
  have hen : enc p = pre p ++ [sumb (pre p), 0, 0] := rfl
  have hpl := pre_len p
  obtain ⟨a0, a1, a2, a3, rfl⟩ := split4 hl
  obtain ⟨y0, hy0⟩ : ∃ y, IntKind.u8.wrap a0 = y := ⟨_, rfl⟩
  obtain ⟨y1, hy1⟩ : ∃ y, IntKind.u8.wrap a1 = y := ⟨_, rfl⟩
  obtain ⟨y2, hy2⟩ : ∃ y, IntKind.u8.wrap a2 = y := ⟨_, rfl⟩
  obtain ⟨y3, hy3⟩ : ∃ y, IntKind.u8.wrap a3 = y := ⟨_, rfl⟩
  have hcv := fun (W : World) c => conv_new W (pre [a0, a1, a2, a3]) [.int .u8 y0, .int .u8 y1, .int .u8 y2, .int .u8 y3, .int .u8 179] 5 c (by subst hy0 hy1 hy2 hy3; simp only [wrap_byt]; rfl) rfl
  generalize hE : enc [a0, a1, a2, a3] = E at *
  generalize hQ : pre [a0, a1, a2, a3] = Q0 at *
  have sb := fun W => str_add Q0 [sumb Q0, 0, 0] (by rw [hpl]; exact (by decide : 5 + 3 ≤ 100000)) W
  rw [← hen] at sb
  have hq : (((sumb Q0).toNat : Nat) : Int) = ((tot Q0 % 256 : Nat) : Int) := by
    rw [sumb, UInt8.toNat_ofNat', Nat.mod_mod]
  have HR := Lib.hid (fun W => rsum_is (l := Q0) (w := W) (by omega) ((tot Q0 % 256 : Nat) : Int) rfl)
  generalize ((tot Q0 % 256 : Nat) : Int) = q at *
  have HCW := Lib.hid (fun (W : World) c => conv_new W [sumb Q0, 0, 0] [.int .u8 q, .int .u8 0, .int .u8 0] 3 c (by rw [← hq]; rfl) rfl)
  have HCV := Lib.hid hcv
  clear hen hpl hE hQ hl hcv hq
  generalize str [sumb Q0, 0, 0] = z at *
  generalize str Q0 = S0 at *
  simp only [pv, ints, List.map_cons, List.map_nil]
  go_enter Try.func10, Try.ntmps10
  go_wp2_with (refine wpList_box rfl 23 _ rfl _ rfl ?_; intro w1 hb hk hs; clear hs; have hb : Blk w1 w.heap.size 23 (ints [a0, a1, a2, a3]) := hb; have hcv := HCV.out w1; obtain ⟨c0, c1, c2, c3⟩ := cells4 hb)
  have hk2 := hk.alloc (.cells #[.int .u8 y0, .int .u8 y1, .int .u8 y2, .int .u8 y3, .int .u8 179] 5)
  clear hb hk hcv HCV c0 c1 c2 c3 hy0 hy1 hy2 hy3
  generalize w1.alloc (.cells #[.int .u8 y0, .int .u8 y1, .int .u8 y2, .int .u8 y3, .int .u8 179] 5) = w2 at *
  refine (HR.out _).mono ?_; rintro e w9 ⟨rfl, rfl⟩
  have cv := HCW.out w2
  have hk9 := hk2.alloc (.cells #[.int .u8 q, .int .u8 0, .int .u8 0] 5)
  clear hk2 HCW
  go_wp2
  go_ret
  exact ⟨rfl, hk9⟩
end Go.Proofs.Ytdlenjooidnofaa.Fi
