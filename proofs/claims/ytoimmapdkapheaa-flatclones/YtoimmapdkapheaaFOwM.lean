/- What deeds leave of a word. -/
import Derived.Test.YtoimmapdkapheaaJJ
import Derived.Test.YtoimmapdkapheaaJH
namespace Go.Proofs.Ytoimmapdkapheaa
set_option maxRecDepth 4000
open Go.RowKit

/-- A page of a space has something, and a word of it is v. -/
def OwnS (A : Wd) (n pg i : Int) (v : Nat) : Prop := ∃ s, A n = some s ∧ s.f pg ≠ none ∧ s.wd pg.toNat i.toNat = v
section
variable {A A' : Wd} {n m pg i a b c : Int} {v u : Nat}
theorem own_store (h : StoreD A n pg i v 0 A') : OwnS A' n pg i v ∧ 0 ≤ i ∧ i < 8 := by
  rcases h with ⟨_, h, _⟩ | ⟨s, t, hs, hat, ht, ⟨_, h, _⟩ | ⟨_, _, rfl⟩⟩
  · exact absurd rfl h
  · cases h
  · obtain ⟨s', t', _, i0, i8, _⟩ := hat.some
    exact ⟨⟨_, Wd.set_at _ _ _, by simp [ht], by simp [wdS]⟩, i0, i8⟩
theorem own_protect (h : OwnS A n pg i v) (hp : 0 ≤ pg ∧ pg < 4096) {g : Pg → Pg} (hd : ChgD A n pg (pg + 1) g c A') : (c = 0 ∨ c = 5) ∧ OwnS A' n pg i v := by
  obtain ⟨s, hs, hf, hw⟩ := h
  rcases hd with ⟨h1, _⟩ | ⟨s', hs', ⟨h1, _⟩ | ⟨_, ⟨p, h1, h2, h3⟩, _⟩ | ⟨_, _, M, hM, ⟨_, rfl, rfl⟩ | ⟨_, rfl, rfl⟩⟩⟩
  · rw [hs] at h1
    cases h1
  · exact absurd ⟨hp.1, by omega, by omega⟩ h1
  · obtain rfl : p = pg := by omega
    rw [hs] at hs'
    cases hs'
    exact absurd h3 hf
  · exact ⟨Or.inr rfl, s, hs, hf, hw⟩
  · rw [hs] at hs'
    cases hs'
    refine ⟨Or.inl rfl, _, Wd.set_at _ _ _, ?_, hw⟩
    show mapA s.f pg (pg + 1) g pg ≠ none
    unfold mapA
    rw [if_pos ⟨by omega, by omega⟩]
    simpa using hf
theorem own_ne (h : OwnS A n pg i v) (hn : n ≠ m) (s : Option Sp) : OwnS (A.set m s) n pg i v := by
  obtain ⟨t, h1, h2, h3⟩ := h
  exact ⟨t, by rw [Wd.set_ne _ _ hn]; exact h1, h2, h3⟩
theorem own_fork (h : OwnS A n pg i v) (hd : ForkD A n m c A') : (c = 0 ∧ n ≠ m ∧ OwnS A' n pg i v) ∨ (c ≠ 0 ∧ A' = A) := by
  rcases hd with ⟨_, rfl, rfl⟩ | ⟨_, _, rfl, rfl⟩ | ⟨_, _, _, rfl, rfl⟩ | ⟨s, _, h1, h2, rfl, rfl⟩
  · exact Or.inr ⟨by decide, rfl⟩
  · exact Or.inr ⟨by decide, rfl⟩
  · exact Or.inr ⟨by decide, rfl⟩
  · have hn : n ≠ m := by
      rintro rfl
      rw [h1] at h2
      cases h2
    exact Or.inl ⟨rfl, hn, own_ne h hn _⟩
theorem own_other (h : OwnS A n pg i v) (hn : n ≠ m) (hd : StoreD A m a b u c A') : OwnS A' n pg i v := by
  rcases hd with ⟨_, _, rfl⟩ | ⟨s, t, _, _, _, ⟨_, _, rfl⟩ | ⟨_, _, rfl⟩⟩
  · exact h
  · exact h
  · exact own_ne h hn _
theorem own_end (h : OwnS A n pg i v) (hn : n ≠ m) (hd : EndD A m c A') : OwnS A' n pg i v := by
  rcases hd with ⟨_, _, rfl⟩ | ⟨_, _, rfl⟩
  · exact h
  · exact own_ne h hn _
theorem own_at (h : OwnS A n pg i v) (h0 : 0 ≤ i) (h8 : i < 8) : AtD A n pg i 0 := by
  obtain ⟨s, hs, hf, -⟩ := h
  exact Or.inr ⟨s, hs, Or.inr (Or.inr ⟨h0, h8, hf, rfl⟩)⟩
theorem own_ld (h : OwnS A n pg i v) : ldV A n pg i 0 = v := by
  obtain ⟨s, hs, -, hw⟩ := h
  unfold ldV wdA
  rw [if_pos rfl, hs]
  exact congrArg _ hw
theorem own_map (h : OwnS A n pg i v) (hp : 0 ≤ pg ∧ pg < 4096) {t : Pg} (hd : LayD A n pg (pg + 1) (some t) c A') : (c = 5 ∧ OwnS A' n pg i v) ∨ (c = 0 ∧ OwnS A' n pg i 0) := by
  obtain ⟨s, hs, hf, hw⟩ := h
  rcases hd with ⟨h1, _⟩ | ⟨s', hs', ⟨h1, _⟩ | ⟨_, M, hM, ⟨_, rfl, rfl⟩ | ⟨_, rfl, rfl⟩⟩⟩
  · rw [hs] at h1
    cases h1
  · exact absurd ⟨hp.1, by omega, by omega⟩ h1
  · exact Or.inl ⟨rfl, s, hs, hf, hw⟩
  · refine Or.inr ⟨rfl, _, Wd.set_at _ _ _, ?_, ?_⟩
    · show layA s'.f pg (pg + 1) (some t) pg ≠ none
      unfold layA
      rw [if_pos ⟨by omega, by omega⟩]
      simp
    · show wdZ s'.wd pg (pg + 1) pg.toNat i.toNat = 0
      unfold wdZ
      rw [if_pos ⟨by omega, by omega⟩]
/-- Two spaces that are one tell one. -/
theorem two_at {B : Wd} {s : Sp} (h1 : A n = some s) (h2 : B m = some s) (hd : AtD A n pg i c) : AtD B m pg i c ∧ ldV B m pg i c = ldV A n pg i c := by
  refine ⟨?_, by unfold ldV wdA; rw [h1, h2]⟩
  rcases hd with ⟨h, _⟩ | ⟨s', hs', h⟩
  · rw [h1] at h
    cases h
  · rw [h1] at hs'
    cases hs'
    exact Or.inr ⟨s, h2, h⟩
theorem fork_two (hd : ForkD A n m 0 A') : ∃ s, n ≠ m ∧ A' n = some s ∧ A' m = some s := by
  rcases hd with ⟨_, h, _⟩ | ⟨_, _, h, _⟩ | ⟨_, _, _, h, _⟩ | ⟨s, _, h1, h2, _, rfl⟩
  · cases h
  · cases h
  · cases h
  · have hn : n ≠ m := by
      rintro rfl
      rw [h1] at h2
      cases h2
    exact ⟨s, hn, by rw [Wd.set_ne _ _ hn]; exact h1, Wd.set_at _ _ _⟩
theorem lay_ne {s t : Sp} {z : Option Pg} (h1 : A n = some s) (h2 : A m = some t) (hn : n ≠ m) (hd : LayD A m a b z c A') : A' n = some s ∧ A' m ≠ none := by
  rcases hd with ⟨_, _, rfl⟩ | ⟨s', hs', ⟨_, _, rfl⟩ | ⟨_, M, hM, ⟨_, _, rfl⟩ | ⟨_, _, rfl⟩⟩⟩
  · exact ⟨h1, by rw [h2]; simp⟩
  · exact ⟨h1, by rw [h2]; simp⟩
  · exact ⟨h1, by rw [h2]; simp⟩
  · exact ⟨by rw [Wd.set_ne _ _ hn]; exact h1, by rw [Wd.set_at]; simp⟩
theorem end_ne {s : Sp} (h1 : A n = some s) (h2 : A m ≠ none) (hn : n ≠ m) : EndD A m 0 (A.set m none) ∧ A.set m none n = some s ∧ A.set m none m = none :=
  ⟨Or.inr ⟨h2, rfl, rfl⟩, by rw [Wd.set_ne _ _ hn]; exact h1, Wd.set_at _ _ _⟩
end
theorem Bec.fok {w W : World} {p : Nat} {A : Wd} (h : Bec (fun _ => False) w (FlT p A) W) : A.ok := by
  obtain ⟨_, ⟨_, ⟨_, hA⟩, _⟩, -⟩ := h.next
  exact hA
theorem Bec.fareas {w W : World} {p : Nat} {A : Wd} {n : Int} (h : Bec (fun _ => False) w (FlT p A) W) (hn : okI n) :
    Calls Try.prog 20 #[.pointer (some ⟨p, 0, none⟩), .int .i64 n] W fun e W' => ArP W (A n) e W' ∧ Hid (Bec (fun _ => False) w (FlT p A) W') := by
  obtain ⟨G, h1, -⟩ := h.next
  refine (areas_any h1 hn).mono fun e w' hp => ⟨hp, ?_⟩
  unfold ArP at hp
  cases e : A n with
  | none =>
    rw [e] at hp
    exact h.below hp.2.out
  | some s =>
    rw [e] at hp
    obtain ⟨_, _, _, _, _, _, _, hb⟩ := hp
    exact h.below hb.out
/-- A row of areas beside the program's world. -/
def RowF (v : Value) (M : List AAr) (p : Nat) (A : Wd) : Th := (Th.row rAAr v M).and (FlT p A)
section
variable {w W W' : World} {v : Value} {M : List AAr} {p f : Nat} {A A' : Wd} {n pg i code : Int} {args : Array Value}
theorem Bec.rnew (h : Bec (fun _ => False) w (FlT p A) W) (hr : Row rAAr W.heap.size W' v M) (hb : Below W.heap.size W W') : Bec (fun _ => False) w (RowF v M p A) W' := h.new (row_new hr hb)
theorem Bec.rsn {ao : Option Addr} {k c : Nat} (h : Bec (fun _ => False) w (RowF (.slice ao k c) M p A) W) : Sn rAAr W ao M := by
  obtain ⟨_, ⟨_, _, _, _, h1, _⟩, -⟩ := h.next
  exact h1.2.sn
theorem Bec.rcall (h : Bec (fun _ => False) w (RowF v M p A) W) (k : ∀ F, (FlT p A).In F W → Calls Try.prog f args W (FlP F W p A' code)) :
    Calls Try.prog f args W fun e W' => e = .returned (errV code) ∧ Hid (Bec (fun _ => False) w (RowF v M p A') W') := by
  obtain ⟨G, h1, cl⟩ := (h.imp (and_comm _ _)).open
  exact (k G h1).mono fun e w' hp => ⟨hp.1, (cl hp.2).imp (and_comm _ _)⟩
theorem Bec.rload (h : Bec (fun _ => False) w (RowF v M p A) W) (hn : okI n) (hd : AtD A n pg i code) :
    Calls Try.prog 16 #[.pointer (some ⟨p, 0, none⟩), .int .i64 n, .int .i64 pg, .int .i64 i] W fun e W' => e = .returned (.tuple #[.int .u64 (ldV A n pg i code), errV code]) ∧ Hid (Bec (fun _ => False) w (RowF v M p A) W') ∧ Hid (Below W.heap.size W W') := by
  obtain ⟨G, h1, -⟩ := (show Bec _ _ (FlT p A) _ from h.right).next
  exact (load_any h1 hn hd).mono fun e w' hp => ⟨hp.1, h.below hp.2.out, hp.2⟩
theorem Bec.rareas (h : Bec (fun _ => False) w (RowF v M p A) W) (hn : okI n) :
    Calls Try.prog 20 #[.pointer (some ⟨p, 0, none⟩), .int .i64 n] W fun e W' => ArP W (A n) e W' ∧ Hid (Bec (fun _ => False) w (RowF v M p A) W') := by
  obtain ⟨G, h1, -⟩ := (show Bec _ _ (FlT p A) _ from h.right).next
  refine (areas_any h1 hn).mono fun e w' hp => ⟨hp, ?_⟩
  unfold ArP at hp
  cases e : A n with
  | none =>
    rw [e] at hp
    exact h.below hp.2.out
  | some s =>
    rw [e] at hp
    obtain ⟨_, _, _, _, _, _, _, hb⟩ := hp
    exact h.below hb.out
end
theorem Plays.fl {w W : World} {p q : Nat} (h : Plays w p q W) : ∃ A, Bec (fun _ => False) w (FlT p A) W := by
  obtain ⟨A, h⟩ := h
  exact ⟨A, h.left⟩
end Go.Proofs.Ytoimmapdkapheaa
