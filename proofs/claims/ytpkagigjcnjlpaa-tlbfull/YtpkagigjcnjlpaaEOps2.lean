/- tlb.Evict, letGo, Page, Space, All. -/
import Derived.Test.YtpkagigjcnjlpaaEOps
namespace Go.Proofs.Ytpkagigjcnjlpaa
open Go.RowKit

theorem own_slice_ne {B : Nat} {w : World} {p g : Nat} {v : Value} {l : List Ent} {k : Bool} (b : Buf B w p v l k) (h : v.ownBlock = some g) : p ≠ g := fun e => b.apart (by rw [h, e])

/-- The entries' value is written anew. -/
theorem Buf.store {B : Nat} {w w1 : World} {p : Nat} {v v' : Value} {l l' : List Ent} {k : Bool} (b : Buf B w p v l k) (hg : w.grownBy w1 v.ownBlock) (h1 : Own B w1 v' l') (he : v'.ownBlock = v.ownBlock) (hl : l'.length ≤ 64) (hm : ∀ x ∈ l', mayB x = true ∧ x.base ≤ 9223372036854775807) :
    Buf B (w1.setCell ⟨p, 0, none⟩ v') p v' l' k ∧ Step w (w1.setCell ⟨p, 0, none⟩ v') p v v' := by
  have hp : Laid w1 p 62 #[v, .bool k] := b.ptr.kept hg b.apart
  refine ⟨⟨b.base, ?_, ?_, hl, hm⟩, ?_⟩
  · have := heap_setCell_same w1 p 0 _ _ v' hp
    simpa [Laid] using this
  · exact h1.kept (grown_set w1 p 0 v') (by right; rw [he]; exact fun e => b.apart e.symm)
  · have h2 := grown_set w1 p 0 v'
    exact ⟨h2.os.trans hg.os, h2.tape.trans hg.tape, h2.output.trans hg.output, Nat.le_trans hg.size h2.size, fun q hq hp' hv => (h2.block q (Nat.lt_of_lt_of_le hq hg.size) (by simpa using hp')).trans (hg.block q hq hv), Or.inl he⟩

def errNone : Value := .iface 31 (.int .i64 3)
def errArg : Value := .iface 31 (.int .i64 1)

set_option maxHeartbeats 1000000 in
theorem evict_no {B : Nat} {w : World} {p : Nat} {v : Value} {l : List Ent} {k : Bool} (b : Buf B w p v l k) (n : Int) (hn : ¬ (0 ≤ n ∧ n < l.length)) :
    Calls Try.prog 19 #[.pointer (some ⟨p, 0, none⟩), .int .i64 n] w fun e w' => e = .returned errNone ∧ w' = w := by
  obtain ⟨b0, -⟩ := b.cells
  obtain ⟨ao, c, rfl⟩ := b.row.form
  have hl := b.len
  clear b
  by_cases h0 : n < 0
  · go_enter Try.func19, Try.ntmps19
    go_wp2
    go_ret
    exact ⟨rfl, rfl⟩
  · have h1 : (l.length : Int) ≤ n := by omega
    go_enter Try.func19, Try.ntmps19
    go_wp2
    go_ret
    exact ⟨rfl, rfl⟩

def LetPost (B : Nat) (w : World) (p : Nat) (v : Value) (l' : List Ent) (k : Bool) (r : Value) (e : Ending) (w' : World) : Prop := e = .returned r ∧ ∃ v', Buf B w' p v' l' k ∧ Step w w' p v v'

theorem without_mem {l : List Ent} {i : Nat} {x : Ent} (h : x ∈ without l i) : x ∈ l := by
  unfold without at h
  rcases List.mem_append.1 h with h | h
  · exact List.mem_of_mem_take h
  · exact List.mem_of_mem_drop h

set_option maxRecDepth 100000 in
set_option maxHeartbeats 2000000 in
theorem evict_yes {B : Nat} {w : World} {p : Nat} {v : Value} {l : List Ent} {k : Bool} (b : Buf B w p v l k) (n : Nat) (hn : n < l.length) :
    Calls Try.prog 19 #[.pointer (some ⟨p, 0, none⟩), .int .i64 n] w (LetPost B w p v (without l n) k .nilIface) := by
  obtain ⟨b0, -⟩ := b.cells
  rcases b.row.cases' with ⟨rfl, rfl⟩ | ⟨g, c, cur, rfl, hB, hg0, hg, hlc, hcm, hs, hh⟩
  · simp at hn
  have hD := delete_any b.row n hn b.len
  have hl := b.len
  have hz : w.frozen? ⟨p, 0, none⟩ = false := b.ptr.frozen 0
  have hne : p ≠ g := own_slice_ne b rfl
  have hnz : (n : Int) < (l.length : Int) := by omega
  have HB : Hid (Buf B w p (.slice (some ⟨g, 0, none⟩) l.length c) l k) := b
  have hpl := b.ptr.lt
  clear b hg hh hs
  have hwl := without_len l n hn
  go_enter Try.func19, Try.ntmps19
  go_wp2_with fail
  refine hD.mono ?_
  rintro e w1 ⟨rfl, hO, hgr⟩
  have c0 : w1.cell? ⟨p, 0, none⟩ = some (.slice (some ⟨g, 0, none⟩) l.length c) := hgr.cell b0 (by simpa using hne)
  have z0 : w1.frozen? ⟨p, 0, none⟩ = false := (hgr.frozen_far ⟨p, 0, none⟩ hpl (by simpa using hne)).trans hz
  have X := HB.out.store hgr hO rfl (by omega) (fun x hx => HB.out.may x (without_mem hx))
  have HX : Hid (Buf B (w1.setCell ⟨p, 0, none⟩ (.slice (some ⟨g, 0, none⟩) (without l n).length c)) p (.slice (some ⟨g, 0, none⟩) (without l n).length c) (without l n) k ∧ Step w (w1.setCell ⟨p, 0, none⟩ (.slice (some ⟨g, 0, none⟩) (without l n).length c)) p (.slice (some ⟨g, 0, none⟩) l.length c) (.slice (some ⟨g, 0, none⟩) (without l n).length c)) := X
  clear X hO hgr b0 hz hD hwl
  go_wp2
  go_ret
  exact ⟨rfl, _, HX.out.1, HX.out.2⟩

set_option maxRecDepth 100000 in
set_option maxHeartbeats 2000000 in
theorem letGo_any {B : Nat} {w : World} {p : Nat} {v : Value} {l : List Ent} {k : Bool} (b : Buf B w p v l k) (f : Nat) (lb : Array Value) (q : Ent → Bool) (Inv : World → Prop) (hI : Inv w) (hS : ∀ W W', Inv W → Below W.heap.size W W' → Inv W') (hS' : ∀ g, v.ownBlock = some g → Stable g Inv) (hG : Goes f lb q l Inv) :
    Calls Try.prog 35 #[.pointer (some ⟨p, 0, none⟩), .func (.func f) #[] lb] w (LetPost B w p v (stay q l) k (.tuple #[])) := by
  have hD := deleteFunc_any b.row b.len f lb q Inv hI hS hS' hG
  obtain ⟨b0, -⟩ := b.cells
  have hz : w.frozen? ⟨p, 0, none⟩ = false := b.ptr.frozen 0
  have hne := b.apart
  have hpl := b.ptr.lt
  have HB : Hid (Buf B w p v l k) := b
  clear b hI hS hS' hG
  go_enter Try.func35, Try.ntmps35
  go_wp2_with fail
  refine hD.mono ?_
  rintro e w1 ⟨v', rfl, hO, he, hgr⟩
  have c0 : w1.cell? ⟨p, 0, none⟩ = some v := hgr.cell b0 hne
  have z0 : w1.frozen? ⟨p, 0, none⟩ = false := (hgr.frozen_far ⟨p, 0, none⟩ hpl hne).trans hz
  have X := HB.out.store hgr hO he (Nat.le_trans (stay_len q l) HB.out.len) (fun x hx => HB.out.may x (List.mem_filter.1 hx).1)
  obtain ⟨ao, c, rfl⟩ := hO.form
  have HX : Hid (Buf B (w1.setCell ⟨p, 0, none⟩ (.slice ao (stay q l).length c)) p (.slice ao (stay q l).length c) (stay q l) k ∧ Step w (w1.setCell ⟨p, 0, none⟩ (.slice ao (stay q l).length c)) p v (.slice ao (stay q l).length c)) := X
  clear X hO hgr b0 hz hD he
  go_wp2
  go_end0
  exact ⟨rfl, _, HX.out.1, HX.out.2⟩
end Go.Proofs.Ytpkagigjcnjlpaa
