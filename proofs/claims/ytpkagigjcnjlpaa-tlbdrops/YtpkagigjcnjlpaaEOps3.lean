/- tlb.Page, Space, All. -/
import Derived.Test.YtpkagigjcnjlpaaEOps2
namespace Go.Proofs.Ytpkagigjcnjlpaa
open Go.RowKit

set_option maxHeartbeats 1000000 in
theorem pageFn (x : Ent) (asid page : Int) (a b : Nat) (W : World) (hm : mayB x = true) (h1 : Laid W a 3 #[.int .i64 asid]) (h2 : Laid W b 3 #[.int .i64 page]) :
    Calls Try.prog 36 #[ev x, .pointer (some ⟨a, 0, none⟩), .pointer (some ⟨b, 0, none⟩)] W fun e w' => e = .returned (.bool (isB x asid page)) ∧ Below W.heap.size W w' := by
  have hI := fun w => isOf_any x asid page w hm
  have B1 : Below W.heap.size W (W.alloc (.cells (ecells x) 26)) := (Below.refl _ _).alloc (Nat.le_refl _) _
  have hlt := h1.lt
  have hne : a ≠ W.heap.size := by omega
  have hlt' := h2.lt
  have hne' : b ≠ W.heap.size := by omega
  have c1 : W.cell? ⟨a, 0, none⟩ = some (.int .i64 asid) := h1.cell 0
  have c2 : W.cell? ⟨b, 0, none⟩ = some (.int .i64 page) := h2.cell 0
  generalize isB x asid page = r at hI ⊢
  have HB : Hid (Below W.heap.size W (W.alloc (.cells (ecells x) 26))) := B1
  clear h1 h2 hm B1
  unfold ev at *
  go_enter Try.func36, Try.ntmps36
  go_wp2_with (go_at_call 37; refine (hI _).mono ?_; rintro e w1 ⟨rfl, hb⟩)
  go_ret
  exact ⟨rfl, below_call HB.out (by simp) hb⟩

set_option maxHeartbeats 1000000 in
theorem spaceFn (x : Ent) (asid : Int) (a : Nat) (W : World) (h1 : Laid W a 3 #[.int .i64 asid]) :
    Calls Try.prog 38 #[ev x, .pointer (some ⟨a, 0, none⟩)] W fun e w' => e = .returned (.bool (x.asid == asid)) ∧ Below W.heap.size W w' := by
  have B1 : Below W.heap.size W (W.alloc (.cells (ecells x) 26)) := (Below.refl _ _).alloc (Nat.le_refl _) _
  have hlt := h1.lt
  have hne : a ≠ W.heap.size := by omega
  have c1 : W.cell? ⟨a, 0, none⟩ = some (.int .i64 asid) := h1.cell 0
  have HB : Hid (Below W.heap.size W (W.alloc (.cells (ecells x) 26))) := B1
  clear h1 B1
  unfold ev at *
  go_enter Try.func38, Try.ntmps38
  go_wp2
  go_ret
  exact ⟨rfl, HB.out⟩

set_option maxHeartbeats 1000000 in
theorem allFn (x : Ent) (W : World) :
    Calls Try.prog 39 #[ev x] W fun e w' => e = .returned (.bool true) ∧ Below W.heap.size W w' := by
  unfold ev
  go_enter Try.func39, Try.ntmps39
  go_wp2
  go_ret
  exact ⟨rfl, (Below.refl _ _).alloc (Nat.le_refl _) _⟩

theorem Laid.stable {w w' : World} {a g : Nat} {t : TypeId} {cs : Array Value} (h : Laid w a t cs) (hne : a ≠ g) (hg : w.grownBy w' (some g)) : Laid w' a t cs := h.kept hg (by simpa using hne)
theorem own_int {B : Nat} {w : World} {a g : Nat} {v : Value} {l : List Ent} {cs : Array Value} (h : Own B w v l) (hv : v.ownBlock = some g) (ha : Laid w a 3 cs) : a ≠ g := by
  rcases h.cases' with ⟨rfl, _⟩ | ⟨g', c, cur, rfl, _, _, hg, _⟩
  · simp [Value.ownBlock] at hv
  · simp [Value.ownBlock] at hv
    subst hv
    exact ne_of_tag ha hg (by decide)

def pgB (asid page : Int) (x : Ent) : Bool := isB x asid page
def spB (asid : Int) (x : Ent) : Bool := x.asid == asid
def yesB (_ : Ent) : Bool := true

theorem LetPost.pre {B : Nat} {w w1 : World} {p : Nat} {v : Value} {l' : List Ent} {k : Bool} {r : Value} {e : Ending} {w' : World} (h : LetPost B w1 p v l' k r e w') (hb : Below w.heap.size w w1) : LetPost B w p v l' k r e w' := by
  obtain ⟨he, v', h1, h2⟩ := h
  exact ⟨he, v', h1, (Step.of_below hb p v).trans h2⟩

set_option maxRecDepth 100000 in
set_option maxHeartbeats 1000000 in
theorem page_any {B : Nat} {w : World} {p : Nat} {v : Value} {l : List Ent} {k : Bool} (b : Buf B w p v l k) (asid page : Int) :
    Calls Try.prog 20 #[.pointer (some ⟨p, 0, none⟩), .int .i64 asid, .int .i64 page] w (LetPost B w p v (stay (pgB asid page) l) k (.tuple #[])) := by
  have B1 : Below w.heap.size w ((w.alloc (.cells #[.int .i64 asid] 3)).alloc (.cells #[.int .i64 page] 3)) := ((Below.refl _ _).alloc (Nat.le_refl _) _).alloc (by simp) _
  have A1 := (Laid.new w 3 #[.int .i64 asid]).below ((Below.refl _ _).alloc (Nat.le_refl _) (.cells #[.int .i64 page] 3))
  have A2 := Laid.new (w.alloc (.cells #[.int .i64 asid] 3)) 3 #[.int .i64 page]
  rw [show (w.alloc (.cells #[.int .i64 asid] 3)).heap.size = w.heap.size + 1 by simp] at A2
  have b1 := b.below B1
  have hL := letGo_any b1 36 #[.pointer (some ⟨w.heap.size, 0, none⟩), .pointer (some ⟨w.heap.size + 1, 0, none⟩)] (pgB asid page) (fun W => Laid W w.heap.size 3 #[.int .i64 asid] ∧ Laid W (w.heap.size + 1) 3 #[.int .i64 page]) ⟨A1, A2⟩ (fun W W' h hb => ⟨h.1.below hb, h.2.below hb⟩) (fun g hg W W' h hgr => ⟨h.1.stable (own_int b1.row hg A1) hgr, h.2.stable (own_int b1.row hg A2) hgr⟩)
    ⟨enters_of Try.func36 (by kernel_rfl) rfl, fun W h x hx => pageFn x asid page _ _ W (b.may x hx).1 h.1 h.2⟩
  have HB : Hid (Below w.heap.size w ((w.alloc (.cells #[.int .i64 asid] 3)).alloc (.cells #[.int .i64 page] 3))) := B1
  clear b1 A1 A2 B1 b
  go_enter Try.func20, Try.ntmps20
  go_wp2_with fail
  refine hL.mono ?_
  rintro e w1 ⟨rfl, hv⟩
  go_wp2
  go_end0
  exact LetPost.pre ⟨rfl, hv⟩ HB.out

set_option maxRecDepth 100000 in
set_option maxHeartbeats 1000000 in
theorem space_any {B : Nat} {w : World} {p : Nat} {v : Value} {l : List Ent} {k : Bool} (b : Buf B w p v l k) (asid : Int) :
    Calls Try.prog 22 #[.pointer (some ⟨p, 0, none⟩), .int .i64 asid] w (LetPost B w p v (stay (spB asid) l) k (.tuple #[])) := by
  have B1 : Below w.heap.size w (w.alloc (.cells #[.int .i64 asid] 3)) := (Below.refl _ _).alloc (Nat.le_refl _) _
  have A1 := Laid.new w 3 #[.int .i64 asid]
  have b1 := b.below B1
  have hL := letGo_any b1 38 #[.pointer (some ⟨w.heap.size, 0, none⟩)] (spB asid) (fun W => Laid W w.heap.size 3 #[.int .i64 asid]) A1 (fun W W' h hb => h.below hb) (fun g hg W W' h hgr => h.stable (own_int b1.row hg A1) hgr)
    ⟨enters_of Try.func38 (by kernel_rfl) rfl, fun W h x _ => spaceFn x asid _ W h⟩
  have HB : Hid (Below w.heap.size w (w.alloc (.cells #[.int .i64 asid] 3))) := B1
  clear b1 A1 B1 b
  go_enter Try.func22, Try.ntmps22
  go_wp2_with fail
  refine hL.mono ?_
  rintro e w1 ⟨rfl, hv⟩
  go_wp2
  go_end0
  exact LetPost.pre ⟨rfl, hv⟩ HB.out

set_option maxRecDepth 100000 in
set_option maxHeartbeats 1000000 in
theorem all_any {B : Nat} {w : World} {p : Nat} {v : Value} {l : List Ent} {k : Bool} (b : Buf B w p v l k) :
    Calls Try.prog 23 #[.pointer (some ⟨p, 0, none⟩)] w (LetPost B w p v (stay yesB l) k (.tuple #[])) := by
  have hL := letGo_any b 39 #[] yesB (fun _ => True) trivial (fun _ _ _ _ => trivial) (fun _ _ _ _ _ _ => trivial)
    ⟨enters_of Try.func39 (by kernel_rfl) rfl, fun W _ x _ => allFn x W⟩
  clear b
  go_enter Try.func23, Try.ntmps23
  go_wp2_with fail
  refine hL.mono ?_
  rintro e w1 ⟨rfl, hv⟩
  go_wp2
  go_end0
  exact ⟨rfl, hv⟩
theorem stay_yes (l : List Ent) : stay yesB l = [] := by simp [stay, yesB]
end Go.Proofs.Ytpkagigjcnjlpaa
