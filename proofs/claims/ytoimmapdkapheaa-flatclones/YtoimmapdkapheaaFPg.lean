/- Pages of a space, as the program has them. -/
import Derived.Test.YtoimmapdkapheaaZSep
import Derived.Test.YtoimmapdkapheaaFRow
import Derived.Test.YtoimmapdkapheaaFClo
namespace Go.Proofs.Ytoimmapdkapheaa
set_option maxRecDepth 4000
open Go.RowKit

theorem intKeyed : Maps.Keyed Try.prog 3 := Maps.int_keyed Try.underlying3
def okI (k : Int) : Prop := -9223372036854775808 ≤ k ∧ k ≤ 9223372036854775807
theorem i_inj {a b : Int} (h : Value.int .i64 a = Value.int .i64 b) : a = b := by simpa using h
theorem i_reads {a : Int} (h : okI a) : ∃ l, keyOf Try.prog 3 (.int .i64 a) = some l := by
  have w1 : (Lit.int .i64 a).wf = true := WalkArith.wf_i64 (by have := h.1; have := h.2; omega)
  exact ⟨.int .i64 a, by simp [keyOf, Try.underlying3, mapKey, w1]⟩
def w8arr (x : Nat → Nat) : Array Value := #[.int .u64 (x 0), .int .u64 (x 1), .int .u64 (x 2), .int .u64 (x 3), .int .u64 (x 4), .int .u64 (x 5), .int .u64 (x 6), .int .u64 (x 7)]
def wv (x : Nat → Nat) : Value := .agg (w8arr x)
def zw : Nat → Nat := fun _ => 0
/-- Pages' words. -/
def wordM : Mk Try.prog Int (Nat → Nat) := { t := 83, k := 3, e := 77, key := fun k => .int .i64 k, val := wv, ok := okI, law := intKeyed, ht := Try.underlying83, inj := i_inj, reads := i_reads }
theorem zero_w8 (w : World) : (zeroValue 77).run Try.prog w = .ok (wv zw) w := by
  obtain ⟨i0, hi, hz0, hz1, hz2⟩ := info_parts (P := Try.prog) (e := 77) (z := wv zw) (size := 8) (bytes := 64) (by kernel_rfl)
  simp [zeroValue, typeInfo, hi, hz0]
abbrev Wds := List (Int × (Nat → Nat))
/-- What a page's words are. -/
def wdOf (es : Wds) (k : Int) : Nat → Nat := match getL es k with | some x => x | none => zw
theorem get_wd {w : World} {b : Nat} {es : Wds} (h : Mp wordM w b es) {k : Int} (hk : okI k) : (Instr.lookup 83 (.map (some b)) (.int .i64 k) false).run Try.prog w = .ok (wv (wdOf es k)) w := by
  have := h.get hk (zero_w8 w)
  unfold wdOf
  cases e : getL es k <;> rw [e] at this <;> exact this
/-- How pages lie. -/
structure PgL where
  v : Value
  M : List AAr
  wb : Nat
  es : Wds
structure PgL.fits (d : PgL) (s : Sp) : Prop where
  ok : s.ok
  can : CanA s.f d.M
  few : d.M.length ≤ 64
  wds : ∀ k : Nat, k < 4096 → s.f k ≠ none → ∀ j, j < 8 → wdOf d.es k j = s.wd k j
def pgC (v : Value) (wb : Nat) : Array Value := #[v, .map (some wb)]
def PgX (g : Nat) (d : PgL) : Th := (Th.box g 85 (pgC d.v d.wb)).and ((Th.row rAAr d.v d.M).and (Th.mp wordM d.wb d.es))
/-- The pages of a space. -/
def PgT (g : Nat) (s : Sp) : Th := Th.ex fun d : PgL => Th.when (d.fits s) (PgX g d)
theorem pgx_in {F : Nat → Prop} {w : World} {g : Nat} {d : PgL} (h : (PgX g d).In F w) : Laid w g 85 (pgC d.v d.wb) ∧ Row rAAr 0 w d.v d.M ∧ Mp wordM w d.wb d.es := by
  obtain ⟨A, B, _, _, h1, C, D, _, _, h2, h3⟩ := h
  exact ⟨h1.2, h2.2, h3.2⟩

set_option maxHeartbeats 400000 in
theorem become_ok (g : Nat) (v m : Value) (ao : Option Addr) (n c : Nat) (w : World) (h : Laid w g 85 #[v, m]) : Calls Try.prog 38 #[.pointer (some ⟨g, 0, none⟩), .slice ao n c, .nilIface] w fun e w' => e = .returned .nilIface ∧ w' = w.setCell ⟨g, 0, none⟩ (.slice ao n c) := by
  have c0 : w.cell? ⟨g, 0, none⟩ = some v := by rw [h.cell]; rfl
  have f0 : w.frozen? ⟨g, 0, none⟩ = false := frozen_of_row w g 0 _ _ h
  clear h
  go_enter Try.func38, Try.ntmps38
  go_wp2
  go_ret
  exact ⟨rfl, rfl⟩
set_option maxHeartbeats 400000 in
theorem become_no (p v' : Value) (n : Int) (w : World) : Calls Try.prog 38 #[p, v', .iface 48 (.int .i64 n)] w fun e w' => e = .returned (.iface 48 (.int .i64 n)) ∧ w' = w := by
  go_enter Try.func38, Try.ntmps38
  go_wp2
  go_ret
  exact ⟨rfl, rfl⟩
end Go.Proofs.Ytoimmapdkapheaa
