/- A deed done to both worlds of spaces, whatever it is. -/
import Derived.Test.YtoimmapdkapheaaFDo3
import Derived.Test.YtoimmapdkapheaaFSame
namespace Go.Proofs.Ytoimmapdkapheaa
set_option maxRecDepth 4000
open Go.RowKit

theorem do_any {F : Nat → Prop} {w : World} {p q : Nat} {A : Wd} {d : FDd} (h : ((FlT p A).and (FmT q A)).In F w) (hok : d.ok) :
    ∃ A', Calls Try.prog 10 #[.pointer (some ⟨p, 0, none⟩), .pointer (some ⟨q, 0, none⟩), .agg d.arr] w (DoP F w p q A') := by
  have hk := pickN_lt d.what 11 (by omega)
  generalize hn : pickN d.what 11 = n at hk
  match n, hk with
  | 0, _ =>
    obtain ⟨c, A', hd⟩ := make_ex A d.space
    exact ⟨A', do_make h hok hn hd⟩
  | 1, _ =>
    obtain ⟨c, A', hd⟩ := fork_ex A d.space d.other
    exact ⟨A', do_fork h hok hn hd⟩
  | 2, _ =>
    obtain ⟨c, A', hd⟩ := end_ex A d.space
    exact ⟨A', do_end h hok hn hd⟩
  | 3, _ =>
    obtain ⟨c, A', hd⟩ := lay_ex A d.space d.from_ d.to_ (some (d.rt.w, d.rt.x, false))
    exact ⟨A', do_map h hok hn hd⟩
  | 4, _ =>
    obtain ⟨c, A', hd⟩ := lay_ex A d.space d.from_ d.to_ (some (d.rt.w, d.rt.x, false))
    exact ⟨A', do_map4 h hok hn hd⟩
  | 5, _ =>
    obtain ⟨c, A', hd⟩ := lay_ex A d.space d.from_ d.to_ none
    exact ⟨A', do_unmap h hok hn hd⟩
  | 6, _ =>
    obtain ⟨c, A', hd⟩ := chg_ex A d.space d.from_ d.to_ (fun p => (d.rt.w, d.rt.x, p.2.2))
    exact ⟨A', do_protect h hok hn hd⟩
  | 7, _ =>
    obtain ⟨c, A', hd⟩ := chg_ex A d.space d.from_ d.to_ (fun p => (p.1, p.2.1, d.huge))
    exact ⟨A', do_advise h hok hn hd⟩
  | 8, _ =>
    obtain ⟨c, hd⟩ := run_ex' A d.space d.from_
    exact ⟨A, do_run h hok hn hd⟩
  | 9, _ =>
    obtain ⟨c, A', hd⟩ := store_ex A d.space d.from_ d.i d.v
    exact ⟨A', do_store h hok hn (Or.inl rfl) hd⟩
  | 10, _ =>
    obtain ⟨c, A', hd⟩ := store_ex A d.space d.from_ d.i d.v
    exact ⟨A', do_store h hok hn (Or.inr rfl) hd⟩
/-- Both worlds, at their start. -/
theorem model_new (w : World) : Bec (fun _ => False) w (FmT w.heap.size (fun _ => none)) (w.alloc (.cells #[.slice none 0 0] 29)) := by
  have b := box_new w 29 #[.slice none 0 0]
  have hb := new_below w (.cells #[.slice none 0 0] 29)
  have r : Bec (fun _ => False) (w.alloc (.cells #[.slice none 0 0] 29)) (.row rSp (.slice none 0 0) (heads [])) (w.alloc (.cells #[.slice none 0 0] 29)) := row_new (Row.nil rSp _ _) (Below.refl _ _)
  have e := emp_new (w.alloc (.cells #[.slice none 0 0] 29))
  have h := ((b.new r).new e)
  refine h.imp fun {G W} h => ?_
  refine ⟨(.slice none 0 0, []), ⟨rfl, fun n s h => (by cases h), ?_⟩, ?_⟩
  · unfold nodT
    simp
  · exact and_left _ _ _ (and_assoc _ _ _ (and_comm _ _ h))
theorem both_new {w w1 : World} {p : Nat} (h : Bec (fun _ => False) w (FlT p (fun _ => none)) w1) :
    Bec (fun _ => False) w ((FlT p (fun _ => none)).and (FmT w1.heap.size (fun _ => none))) (w1.alloc (.cells #[.slice none 0 0] 29)) :=
  (h.new (model_new w1)).imp (and_comm _ _)
/-- Both worlds are there, since w. -/
def Plays (w : World) (p q : Nat) (W : World) : Prop := ∃ A, Bec (fun _ => False) w ((FlT p A).and (FmT q A)) W
theorem Plays.new {w w1 : World} {p : Nat} (h : Bec (fun _ => False) w (FlT p (fun _ => none)) w1) : Plays w p w1.heap.size (w1.alloc (.cells #[.slice none 0 0] 29)) := ⟨_, both_new h⟩
theorem Plays.next {w W W' : World} {p q : Nat} (h : Plays w p q W) (hb : Below W.heap.size W W') : Plays w p q W' := by
  obtain ⟨A, h⟩ := h
  exact ⟨A, h.below hb⟩
theorem Plays.base {w w1 W : World} {p q : Nat} (hb : Below w.heap.size w w1) (h : Plays w1 p q W) : Plays w p q W := by
  obtain ⟨A, h⟩ := h
  exact ⟨A, h.base hb⟩
theorem Plays.frame {w W : World} {p q : Nat} (h : Plays w p q W) : Below w.heap.size w W := by
  obtain ⟨A, h⟩ := h
  exact h.frame
def PlP (w : World) (p q : Nat) (e : Ending) (W : World) : Prop := e = .returned (.bool true) ∧ Hid (Plays w p q W)
theorem Plays.deed {w W : World} {p q : Nat} (h : Plays w p q W) {d : FDd} (hok : d.ok) :
    Calls Try.prog 10 #[.pointer (some ⟨p, 0, none⟩), .pointer (some ⟨q, 0, none⟩), .agg d.arr] W (PlP w p q) := by
  obtain ⟨A, h⟩ := h
  obtain ⟨G, h1, cl⟩ := h.next
  obtain ⟨A', hd⟩ := do_any h1 hok
  exact hd.mono fun e w' hp => ⟨hp.1, A', cl hp.2⟩
/-- How many spaces the document's world lists. -/
theorem Plays.list {w W : World} {p q : Nat} (h : Plays w p q W) : ∃ ao len c, len ≤ 255 ∧ W.cell? ⟨q, 0, none⟩ = some (.slice ao len c) := by
  obtain ⟨A, h⟩ := h
  obtain ⟨G, h1, -⟩ := h.next
  obtain ⟨T, v, h2⟩ := two_of h1
  obtain ⟨G2, hm⟩ := h2.fm
  obtain ⟨ao, cT, rfl⟩ := (FmX.row hm).form
  rw [heads_len] at hm
  exact ⟨ao, _, cT, h2.ok.few, by rw [(FmX.box hm).cell]; rfl⟩
end Go.Proofs.Ytoimmapdkapheaa
