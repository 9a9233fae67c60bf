/- Regions that a call has made, with their Mem and Space: the calls one behind the other. -/
import Derived.Test.YtompckcnpidbdaaGreatReg0
import Derived.Test.YtompckcnpidbdaaGreatMem1
import Derived.Test.YtompckcnpidbdaaGreatSp0
namespace Go.Proofs.YtompckcnpidbdaaGreat
open Go.RowKit
set_option linter.unusedVariables false
set_option linter.unusedSimpArgs false
structure Rg0 (w0 w : World) (q m mr s B n : Nat) (p r : Nat → Nat) (A : Option Addr) (cap : Nat) (xs : List UInt8) (T : St) (L : List Rf) : Prop where
  g : Reg w q m mr s B n p r A cap xs T L
  lom : w0.heap.size ≤ mr
  lor : ∀ i, i < n → w0.heap.size ≤ r i
  loq : w0.heap.size ≤ q
  loA : ∀ g, Own A g → w0.heap.size ≤ g
  keep : Keep (From w0.heap.size) w0 w
section
variable {w0 w w' : World} {q m mr s B n : Nat} {p r : Nat → Nat} {A : Option Addr} {cap : Nat} {xs : List UInt8} {T : St} {L : List Rf}
theorem Rg0.nob (h : Rg0 w0 w q m mr s B n p r A cap xs T L) (k : Keep Nob w w') : Rg0 w0 w' q m mr s B n p r A cap xs T L := ⟨h.g.nob k, h.lom, h.lor, h.loq, h.loA, h.keep.nob k⟩
theorem Rg0.sp0 (h : Rg0 w0 w q m mr s B n p r A cap xs T L) : Sp0 w0 w s B n p r T := ⟨h.g.sp, h.g.inv, h.lor, h.keep⟩
theorem Rg0.of_sp (h : Rg0 w0 w q m mr s B n p r A cap xs T L) {T' : St} (hs : Sp0 w0 w' s B n p r T') (k : Keep (Rows_ n r) w w') : Rg0 w0 w' q m mr s B n p r A cap xs T' L := ⟨h.g.space hs.sp hs.inv k, h.lom, h.lor, h.loq, h.loA, hs.keep⟩
theorem Rg0.of_bytes (h : Rg0 w0 w q m mr s B n p r A cap xs T L) {ys : List UInt8} (hg : Reg w' q m mr s B n p r A cap ys T L) (k : Keep (· = mr) w w') : Rg0 w0 w' q m mr s B n p r A cap ys T L := ⟨hg, h.lom, h.lor, h.loq, h.loA, h.keep.at_ k h.lom⟩
theorem rg_new (hm : IsMem w m mr xs) (hs : Sp0 w0 w s B n p r T) (lom : w0.heap.size ≤ mr) :
    Calls Tryz.prog 26 #[.pointer (some ⟨m, 0, none⟩), .pointer (some ⟨s, 0, none⟩)] w fun e w' => ∃ q, e = .returned (.pointer (some ⟨q, 0, none⟩)) ∧ Rg0 w0 w' q m mr s B n p r none 0 xs T [] ∧ Keep Nob w w' :=
  (rnew_is hm hs.sp hs.inv).mono fun e w' ⟨q, he, hr, hq, k⟩ => ⟨q, he, ⟨hr, lom, hs.lor, Nat.le_trans hs.keep.size hq, fun g ⟨a, ha, _⟩ => (by cases ha), hs.keep.nob k⟩, k⟩
theorem Rg0.put (h : Rg0 w0 w q m mr s B n p r A cap xs T L) (e : Nat) (he : e < n) (c : Cp) (h1 : 0 ≤ c.rights ∧ c.rights ≤ 7) (h2 : 0 ≤ c.lo ∧ c.lo ≤ 65536) (h3 : 0 ≤ c.n ∧ c.n ≤ 65536) :
    Calls Tryz.prog 58 #[.pointer (some ⟨s, 0, none⟩), .int .i64 e, cval c] w fun e' w' => ∃ nm er T', e' = .returned (.tuple #[.int .i64 nm, .int .i64 er]) ∧ Added T n e ⟨c.obj, c.rights, c.lo, c.n, (0, 0)⟩ nm er T' ∧ Rg0 w0 w' q m mr s B n p r A cap xs T' L ∧ Keep (Rows_ n r) w w' :=
  (h.sp0.put e he c h1 h2 h3).mono fun _ _ ⟨nm, er, T', he, hA, hS, hk⟩ => ⟨nm, er, T', he, hA, h.of_sp hS hk, hk⟩
theorem Rg0.grant (h : Rg0 w0 w q m mr s B n p r A cap xs T L) {a b rights lo k : Int} (f : Nat) (hf : f < n) (c : Cp) (hc : Has T n (a, b) c) (h4 : sub 4 c.rights = true) (h5 : sub rights c.rights = true) (h6 : 0 ≤ rights ∧ rights ≤ 7) (h7 : 0 ≤ lo ∧ 0 ≤ k ∧ lo + k ≤ c.n) :
    Calls Tryz.prog 35 #[.pointer (some ⟨s, 0, none⟩), .int .i64 a, .int .i64 b, .int .i64 f, .int .i64 rights, .int .i64 lo, .int .i64 k] w fun e' w' => ∃ nm er T', e' = .returned (.tuple #[.int .i64 nm, .int .i64 er]) ∧
      Added T n f ⟨c.obj, rights, c.lo + lo, k, (a, b)⟩ nm er T' ∧ Rg0 w0 w' q m mr s B n p r A cap xs T' L ∧ Keep (Rows_ n r) w w' :=
  (h.sp0.grant f hf c hc h4 h5 h6 h7).mono fun _ _ ⟨nm, er, T', he, hA, hS, hk⟩ => ⟨nm, er, T', he, hA, h.of_sp hS hk, hk⟩
theorem Rg0.revoke (h : Rg0 w0 w q m mr s B n p r A cap xs T L) {a b : Int} (c : Cp) (hc : Has T n (a, b) c) :
    Calls Tryz.prog 36 #[.pointer (some ⟨s, 0, none⟩), .int .i64 a, .int .i64 b] w fun e w' => ∃ U : List Rf, e = .returned (.tuple #[.int .i64 (1 + (U.length : Int)), .int .i64 0]) ∧ U.Nodup ∧ (∀ ρ, ρ ∈ U ↔ Desc T n (a, b) ρ) ∧
      Rg0 w0 w' q m mr s B n p r A cap xs (gone T ((a, b) :: U)) L ∧ Keep (Rows_ n r) w w' :=
  (h.sp0.revoke c hc).mono fun _ _ ⟨U, he, h1, h2, hS, hk⟩ => ⟨U, he, h1, h2, h.of_sp hS hk, hk⟩
theorem Rg0.add (h : Rg0 w0 w q m mr s B n p r A cap xs T L) {lo k : Int} (hok : 0 ≤ lo ∧ 0 ≤ k ∧ lo + k ≤ xs.length) (hl : L.length < 32) (i : Int) (hi : (L.length : Int) = i) (L' : List Rf) (hL : L ++ [(lo, k)] = L') :
    Calls Tryz.prog 56 #[.pointer (some ⟨q, 0, none⟩), .int .i64 lo, .int .i64 k] w fun e w' => ∃ A' cap', e = .returned (.tuple #[.int .i64 i, .int .i64 0]) ∧ Rg0 w0 w' q m mr s B n p r A' cap' xs T L' ∧ Keep (fun b => b = q ∨ Own A b) w w' := by
  subst hi hL
  exact (radd_yes h.g hok hl).mono fun _ _ ⟨A', cap', he, hR, hk, ho⟩ => ⟨A', cap', he, ⟨hR, h.lom, h.lor, h.loq, fun g hg => (ho g hg).elim (h.loA g) (fun e => Nat.le_trans h.keep.size e), h.keep.from_ hk (fun b hb => hb.elim (fun e => e ▸ h.loq) (h.loA b))⟩, hk⟩
theorem Rg0.read (h : Rg0 w0 w q m mr s B n p r A cap xs T L) {env name at_ : Int} (k a : Nat) (hv : Reach T n L env name 1 at_ k a 0) (ys : List UInt8) (hy : (xs.drop a).take k = ys) :
    Calls Tryz.prog 31 #[.pointer (some ⟨q, 0, none⟩), .int .i64 env, .int .i64 name, .int .i64 at_, .int .i64 k] w fun e w' => ∃ g, e = .returned (.tuple #[.slice (some ⟨g, 0, none⟩) k k, .int .i64 0]) ∧ Blk w' g 5 (bytes ys) ∧ ys.length = k ∧ w.heap.size ≤ g ∧ Rg0 w0 w' q m mr s B n p r A cap xs T L ∧ Keep Nob w w' := by
  have hr := hv.range h.g
  have hl : ys.length = k := by rw [← hy]; simp; omega
  refine (read_yes h.g hv).mono ?_
  rintro e w' ⟨g, rfl, hb, hg, hk⟩
  rw [hy] at hb ⊢
  rw [hl]
  exact ⟨g, rfl, hb, rfl, hg, h.nob hk, hk⟩
theorem Rg0.read_no (h : Rg0 w0 w q m mr s B n p r A cap xs T L) {env name at_ k v : Int} (er : Int) (hv : Reach T n L env name 1 at_ k v er) (he : er ≠ 0) :
    Calls Tryz.prog 31 #[.pointer (some ⟨q, 0, none⟩), .int .i64 env, .int .i64 name, .int .i64 at_, .int .i64 k] w fun e w' => e = .returned (.tuple #[.slice none 0 0, .int .i64 er]) ∧ Rg0 w0 w' q m mr s B n p r A cap xs T L ∧ Keep Nob w w' :=
  (YtompckcnpidbdaaGreat.read_no h.g hv he).mono fun _ _ ⟨he, k⟩ => ⟨he, h.nob k, k⟩
theorem Rg0.write (h : Rg0 w0 w q m mr s B n p r A cap xs T L) {env name at_ : Int} {k c : Nat} (a : Nat) {A' : Option Addr} (bs : List UInt8) (hv : Reach T n L env name 2 at_ k a 0) (hb : Reads w A' k (bytes bs)) (ys : List UInt8) (hy : splice xs a bs = ys) :
    Calls Tryz.prog 32 #[.pointer (some ⟨q, 0, none⟩), .int .i64 env, .int .i64 name, .int .i64 at_, .slice A' k c] w fun e w' => e = .returned (.int .i64 0) ∧ Rg0 w0 w' q m mr s B n p r A cap ys T L ∧ Keep (· = mr) w w' := by
  subst hy
  exact (write_yes h.g hv hb).mono fun _ _ ⟨he, hR, k⟩ => ⟨he, h.of_bytes hR k, k⟩
theorem Rg0.write_no (h : Rg0 w0 w q m mr s B n p r A cap xs T L) {env name at_ v : Int} {k c : Nat} {A' : Option Addr} (er : Int) (hv : Reach T n L env name 2 at_ k v er) (he : er ≠ 0) :
    Calls Tryz.prog 32 #[.pointer (some ⟨q, 0, none⟩), .int .i64 env, .int .i64 name, .int .i64 at_, .slice A' k c] w fun e w' => e = .returned (.int .i64 er) ∧ Rg0 w0 w' q m mr s B n p r A cap xs T L ∧ Keep Nob w w' :=
  (YtompckcnpidbdaaGreat.write_no h.g hv he).mono fun _ _ ⟨he, k⟩ => ⟨he, h.nob k, k⟩
theorem Rg0.load (h : Rg0 w0 w q m mr s B n p r A cap xs T L) (a' k' : Int) (a k : Nat) (ha : a' = a) (hk : k' = k) (h1 : a + k ≤ xs.length) (ys : List UInt8) (hy : (xs.drop a).take k = ys) :
    Calls Tryz.prog 60 #[.pointer (some ⟨m, 0, none⟩), .int .i64 a', .int .i64 k'] w fun e w' => ∃ g, e = .returned (.tuple #[.slice (some ⟨g, 0, none⟩) k k, .int .i64 0]) ∧ Blk w' g 5 (bytes ys) ∧ ys.length = k ∧ w.heap.size ≤ g ∧ Rg0 w0 w' q m mr s B n p r A cap xs T L ∧ Keep Nob w w' := by
  subst ha hk
  have hl : ys.length = k := by rw [← hy]; simp; omega
  refine (load_is _ _ m mr a k rfl rfl xs ys w h.g.mem h1 hy).mono ?_
  rintro e w' ⟨g, rfl, hb, hg, hk⟩
  rw [hl]
  exact ⟨g, rfl, hb, rfl, hg, h.nob hk, hk⟩
theorem Rg0.store (h : Rg0 w0 w q m mr s B n p r A cap xs T L) {a' : Int} {k c : Nat} (a : Nat) (ha : a' = a) {A' : Option Addr} (bs : List UInt8) (hb : Reads w A' k (bytes bs)) (h1 : a + k ≤ xs.length) (ys : List UInt8) (hy : splice xs a bs = ys) :
    Calls Tryz.prog 61 #[.pointer (some ⟨m, 0, none⟩), .int .i64 a', .slice A' k c] w fun e w' => e = .returned (.int .i64 0) ∧ Rg0 w0 w' q m mr s B n p r A cap ys T L ∧ Keep (· = mr) w w' := by
  have hbl : bs.length = k := by have := hb.1; simpa using this
  refine (store_is _ m mr a k c ha _ xs bs ys w h.g.mem hbl hb h1 hy).mono ?_
  rintro e w' ⟨rfl, hm, hk, _⟩
  exact ⟨rfl, h.of_bytes (h.g.bytes_ hm hk (by rw [← hy]; exact splice_len _ _ _ (by omega))) hk, hk⟩
theorem Rg0.copy (h : Rg0 w0 w q m mr s B n p r A cap xs T L) {env x at_ y on : Int} {k : Nat} (a b : Nat) (hv : Reach T n L env x 1 at_ k a 0) (hv2 : Reach T n L env y 2 on k b 0) (ys : List UInt8) (hy : splice xs b ((xs.drop a).take k) = ys) :
    Calls Tryz.prog 33 #[.pointer (some ⟨q, 0, none⟩), .int .i64 env, .int .i64 x, .int .i64 at_, .int .i64 y, .int .i64 on, .int .i64 k] w fun e w' => e = .returned (.int .i64 0) ∧ Rg0 w0 w' q m mr s B n p r A cap ys T L ∧ Keep (· = mr) w w' := by
  subst hy
  exact (rcopy_yes h.g hv hv2).mono fun _ _ ⟨he, hR, k⟩ => ⟨he, h.of_bytes hR k, k⟩
theorem Rg0.copy_no1 (h : Rg0 w0 w q m mr s B n p r A cap xs T L) {env x at_ y on k v : Int} (er : Int) (hv : Reach T n L env x 1 at_ k v er) (he : er ≠ 0) :
    Calls Tryz.prog 33 #[.pointer (some ⟨q, 0, none⟩), .int .i64 env, .int .i64 x, .int .i64 at_, .int .i64 y, .int .i64 on, .int .i64 k] w fun e w' => e = .returned (.int .i64 er) ∧ Rg0 w0 w' q m mr s B n p r A cap xs T L ∧ Keep Nob w w' :=
  (rcopy_no1 h.g hv he).mono fun _ _ ⟨he, k⟩ => ⟨he, h.nob k, k⟩
theorem Rg0.copy_no2 (h : Rg0 w0 w q m mr s B n p r A cap xs T L) {env x at_ y on v : Int} {k : Nat} (a : Nat) (er : Int) (hv : Reach T n L env x 1 at_ k a 0) (hv2 : Reach T n L env y 2 on k v er) (he : er ≠ 0) :
    Calls Tryz.prog 33 #[.pointer (some ⟨q, 0, none⟩), .int .i64 env, .int .i64 x, .int .i64 at_, .int .i64 y, .int .i64 on, .int .i64 k] w fun e w' => e = .returned (.int .i64 er) ∧ Rg0 w0 w' q m mr s B n p r A cap xs T L ∧ Keep Nob w w' :=
  (rcopy_no2 h.g hv hv2 he).mono fun _ _ ⟨he, k⟩ => ⟨he, h.nob k, k⟩
/-- What lies in a block of another type a Space's calls leave as it is. -/
theorem Rg0.off {g : Nat} {t : TypeId} {cs : List Value} (h : Rg0 w0 w q m mr s B n p r A cap xs T L) (hb : Blk w g t cs) (ht : t ≠ 144) (k : Keep (Rows_ n r) w w') : Blk w' g t cs := h.sp0.off hb ht k
/-- What lies in another block the Mem's calls leave as it is. -/
theorem Rg0.offm {g : Nat} {t : TypeId} {cs : List Value} (_ : Rg0 w0 w q m mr s B n p r A cap xs T L) (hb : Blk w g t cs) (hg : g ≠ mr) (k : Keep (· = mr) w w') : Blk w' g t cs := hb.keep k hg
/-- What was there ahead of the call. -/
theorem Rg0.old {A' : Option Addr} {k : Nat} {cs : List Value} (h : Rg0 w0 w q m mr s B n p r A cap xs T L) (hb : Reads w0 A' k cs) : Reads w A' k cs := hb.from_ h.keep
/-- A block of another type, of the call's own, is written. -/
theorem Rg0.farT {g : Nat} {t : TypeId} {cs : List Value} (h : Rg0 w0 w q m mr s B n p r A cap xs T L) (hb : Blk w g t cs) (ht : t ∉ [126, 149, 128, 5, 109, 106, 142, 144]) (hlo : w0.heap.size ≤ g) (k : Keep (· = g) w w') : Rg0 w0 w' q m mr s B n p r A cap xs T L := by
  have off : ∀ {x : Nat} {u : TypeId} {cs : List Value}, Blk w x u cs → u ≠ t → x ≠ g := fun hc hu => hc.ne_ hb hu
  simp only [List.mem_cons, List.not_mem_nil, or_false, not_or] at ht
  obtain ⟨h1, h2, h3, h4, h5, h6, h7, h8⟩ := ht
  exact ⟨h.g.keep k (off h.g.obj (Ne.symm h1)) (off h.g.mem.obj (Ne.symm h3)) (off h.g.mem.row (Ne.symm h4)) (off h.g.sp.obj (Ne.symm h5)) (off h.g.sp.row (Ne.symm h6)) (fun i hi => ⟨off (h.g.sp.tab i hi).obj (Ne.symm h7), off (h.g.sp.tab i hi).row (Ne.symm h8)⟩) (fun x hx => by obtain ⟨cur, hc⟩ := h.g.row.blk hx; exact off hc (Ne.symm h2)),
    h.lom, h.lor, h.loq, h.loA, h.keep.at_ k hlo⟩
/-- A row of bytes of the call's own is written. -/
theorem Rg0.far {g : Nat} {cs : List Value} (h : Rg0 w0 w q m mr s B n p r A cap xs T L) (hb : Blk w g 5 cs) (hg : g ≠ mr) (hlo : w0.heap.size ≤ g) (k : Keep (· = g) w w') : Rg0 w0 w' q m mr s B n p r A cap xs T L := by
  have off : ∀ {x : Nat} {t : TypeId} {cs : List Value}, Blk w x t cs → t ≠ 5 → x ≠ g := fun hc ht => hc.ne_ hb ht
  exact ⟨h.g.keep k (off h.g.obj (by decide)) (off h.g.mem.obj (by decide)) (fun e => hg e.symm) (off h.g.sp.obj (by decide)) (off h.g.sp.row (by decide)) (fun i hi => ⟨off (h.g.sp.tab i hi).obj (by decide), off (h.g.sp.tab i hi).row (by decide)⟩) (fun x hx => by obtain ⟨cur, hc⟩ := h.g.row.blk hx; exact off hc (by decide)),
    h.lom, h.lor, h.loq, h.loA, h.keep.at_ k hlo⟩
theorem Rg0.nob_ (h : Rg0 w w' q m mr s B n p r A cap xs T L) : Keep Nob w w' := h.keep.mono (fun k hk m => by have : w.heap.size ≤ k := m; omega)
end
end Go.Proofs.YtompckcnpidbdaaGreat
