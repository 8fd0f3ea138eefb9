/- Own texts, joined: USto, YMath, USrch, USrch2, UAli, UBlk, ZRow4, USli, UIns. -/
import Derived.Test.YtmmbfgkfidconaaDoorJA
import Derived.Lib.Walk
import Derived.Shelf.Abstract
import Derived.Laws.StructEq
import Derived.Laws.AppendOwn
import Derived.Lib.Slices
import Derived.Deep.RegionLaw
import Derived.Lib.Overlaps
import Derived.Lib.JoinLaws
import Derived.Laws.Externs
/- A store as it lies; where a frame is found in it. -/
namespace Go.Proofs.YtmmbfgkfidconaaDoor
open Go.RowKit

/-- A store at block p; F: its own blocks. -/
structure Sto (F : Nat → Prop) (w : World) (p n : Nat) (v : Value) (L : List Bk) : Prop where
  laid : Laid w p 79 #[.int .i64 n, v]
  row : Row rB 0 w v L
  fp : F p
  fv : ∀ g, v.ownBlock = some g → F g
  lt : ∀ c, F c → c < w.heap.size
/-- What its blocks are. -/
structure Okl (n : Nat) (L : List Bk) : Prop where
  good : Good L
  top : ∀ b ∈ L, bend b ≤ n
  max : n ≤ 512
section
variable {F : Nat → Prop} {w w' : World} {p n : Nat} {v : Value} {L : List Bk}
theorem Sto.keeps {s : Nat → Prop} (h : Sto F w p n v L) (hk : Keeps w w' s) (hs : ∀ c, F c → ¬ s c) : Sto F w' p n v L :=
  ⟨(hk.block p (h.lt p h.fp) (hs p h.fp)).trans h.laid, hk.row h.row fun g hg => hs g (h.fv g hg), h.fp, h.fv, fun c hc => Nat.lt_of_lt_of_le (h.lt c hc) hk.size⟩
theorem Sto.below (h : Sto F w p n v L) (hb : Below w.heap.size w w') : Sto F w' p n v L := h.keeps (Keeps.of_below hb (fun _ => False)) fun _ _ e => e
theorem Okl.len (h : Okl n L) : L.length ≤ 512 := by
  have := sorted_len L 0 n h.good.sorted fun b hb => ⟨Nat.zero_le _, h.top b hb⟩
  have := h.max
  omega
theorem Okl.blk (h : Okl n L) {b : Bk} (hb : b ∈ L) : b.1 ≤ 512 ∧ b.2 ≤ 5 ∧ bend b ≤ 512 := by
  have := h.top b hb
  have := bend_pos b
  have := h.max
  have := (h.good.al b hb).1
  omega
theorem Okl.get (_h : Okl n L) {i : Nat} (hi : i < L.length) : L.getD i (0, 0) ∈ L := by
  rw [List.getD_eq_getElem?_getD, List.getElem?_eq_getElem hi]
  exact List.getElem_mem hi
end

set_option maxHeartbeats 2000000 in
/-- The function that is handed to sort.Search. -/
theorem ends1_any {F : Nat → Prop} {w : World} {p n : Nat} {v : Value} {L : List Bk} (hs : Sto F w p n v L) (ho : Okl n L) (bs bf : Nat) (z : Int) (i : Nat) (hi : i < L.length)
    (h1 : w.cell? ⟨bs, 0, none⟩ = some (.pointer (some ⟨p, 0, none⟩))) (h2 : w.cell? ⟨bf, 0, none⟩ = some (.int .i64 z)) :
    Calls Tryd.prog 61 #[.int .i64 i, .pointer (some ⟨bs, 0, none⟩), .pointer (some ⟨bf, 0, none⟩)] w fun e w' => e = .returned (.bool (decide (z < (bend (L.getD i (0, 0)) : Nat)))) ∧ Below w.heap.size w w' := by
  obtain ⟨ao, c, rfl⟩ := hs.row.form
  obtain ⟨g, rfl, _, _, hg, hlc, hcm, hat⟩ := hs.row.at hi
  obtain ⟨c0, c1⟩ := rB.at hat
  simp only [show rB.n = 2 from rfl, show rB.zero = (0, 0) from rfl] at c0 c1
  have hc := hs.laid.cell 1
  simp at hc
  have hb := ho.blk (ho.get hi)
  obtain ⟨b, hbe⟩ : ∃ b, b = L.getD i (0, 0) := ⟨_, rfl⟩
  rw [← hbe] at c0 c1 hb ⊢
  have E := fun w => end_any b w (by omega) (by omega)
  unfold bval at E
  have l1 := World.block_lt_of_cell? w _ h1
  have l2 := World.block_lt_of_cell? w _ h2
  have l3 := hs.laid.lt
  have hil : (i : Int) < L.length := by omega
  clear hat hbe hb hcm hlc hs ho
  go_enter Tryd.func61, Tryd.ntmps61
  go_wp2
  go_region_held3 (fun w' => w'.cell? ⟨bs, 0, none⟩ = some (.pointer (some ⟨p, 0, none⟩)) ∧ w'.cell? ⟨bf, 0, none⟩ = some (.int .i64 z) ∧ w'.cell? ⟨p, 1, none⟩ = some (.slice (some ⟨g, 0, none⟩) L.length c) ∧ w'.cell? ⟨g, i * 2, none⟩ = some (.int .i64 b.1) ∧ w'.cell? ⟨g, i * 2 + 1, none⟩ = some (.int .i64 b.2)) (go_keep) (first | (go_at_call 53; refine (E _).mono ?_; rintro e w2 ⟨rfl, hb2⟩; have hc2 : ∀ q o, q < w.heap.size → w2.cell? ⟨q, o, none⟩ = w.cell? ⟨q, o, none⟩ := fun q o hq => (bcell hb2).1 _ _ hq))
  go_wp2
  go_ret
  exact ⟨rfl, (Below.refl _ _).drew.trans hb2⟩
end Go.Proofs.YtmmbfgkfidconaaDoor
/- Rooms of groups; which of many is the best. No word of the program. -/
namespace Go.Proofs.YtmmbfgkfidconaaDoor

/-- A group: its sort, whether it is closed. -/
abbrev Gp := Int × Bool

/-- A room r of the groups, by the blocks L. -/
def Rm (L : List Bk) (r : Bk) : Prop := ∃ b ∈ L, (b.2 ≤ 3 ∧ r = b) ∨ (3 < b.2 ∧ r.2 = 3 ∧ 8 ∣ r.1 ∧ b.1 ≤ r.1 ∧ r.1 < bend b)

theorem pow_gt3 {o : Nat} (h : 3 < o) : ∃ k, 2 ^ o = 8 * (2 * k) := by
  obtain ⟨d, rfl⟩ : ∃ d, o = 4 + d := ⟨o - 4, by omega⟩
  exact ⟨2 ^ d, by rw [Nat.pow_add]; omega⟩
theorem pow_le3 {o : Nat} (h : o ≤ 3) : ∃ m, 8 = 2 ^ o * m := by
  obtain ⟨d, hd⟩ : ∃ d, 3 = o + d := ⟨3 - o, by omega⟩
  exact ⟨2 ^ d, by rw [← Nat.pow_add, ← hd]⟩
/-- The block in which a room lies. -/
theorem rm_in {n : Nat} {L : List Bk} (ho : Okl n L) {r : Bk} {b : Bk} (hb : b ∈ L) (h : (b.2 ≤ 3 ∧ r = b) ∨ (3 < b.2 ∧ r.2 = 3 ∧ 8 ∣ r.1 ∧ b.1 ≤ r.1 ∧ r.1 < bend b)) : b.1 ≤ r.1 ∧ bend r ≤ bend b ∧ r.2 ≤ 3 ∧ 2 ^ r.2 ∣ r.1 := by
  have hal := ho.good.al b hb
  rcases h with ⟨h1, rfl⟩ | ⟨h1, h2, h3, h4, h5⟩
  · exact ⟨Nat.le_refl _, Nat.le_refl _, h1, hal.2⟩
  · obtain ⟨k, hk⟩ := pow_gt3 h1
    obtain ⟨i, hi⟩ := hal.2
    obtain ⟨j, hj⟩ := h3
    have e : bend b = b.1 + 2 ^ b.2 := rfl
    have e2 : bend r = r.1 + 2 ^ r.2 := rfl
    have e3 : 8 * (2 * k * i) = 8 * (2 * k) * i := by simp only [Nat.mul_assoc]
    rw [h2] at e2
    rw [h2]
    refine ⟨h4, ?_, Nat.le_refl _, ⟨j, hj⟩⟩
    rw [hk] at hi e
    rw [← e3] at hi
    generalize 2 * k * i = y at *
    omega
theorem Rm.facts {n : Nat} {L : List Bk} (ho : Okl n L) {r : Bk} (h : Rm L r) : r.2 ≤ 3 ∧ 2 ^ r.2 ∣ r.1 ∧ bend r ≤ n ∧ ∀ x, inB r x → cov L x := by
  obtain ⟨b, hb, h⟩ := h
  obtain ⟨h1, h2, h3, h4⟩ := rm_in ho hb h
  exact ⟨h3, h4, Nat.le_trans h2 (ho.top b hb), fun x hx => ⟨b, hb, Nat.le_trans h1 hx.1, Nat.lt_of_lt_of_le hx.2 h2⟩⟩
/-- A room lies in one group. -/
theorem grp_of {r : Bk} (h3 : r.2 ≤ 3) (hd : 2 ^ r.2 ∣ r.1) {x : Nat} (hx : inB r x) : x / 8 = r.1 / 8 := by
  obtain ⟨m, hm⟩ := pow_le3 h3
  obtain ⟨i, hi⟩ := hd
  have e : bend r = r.1 + 2 ^ r.2 := rfl
  obtain ⟨h1, h2⟩ := hx
  rw [e] at h2
  generalize 2 ^ r.2 = p at *
  have hdv := Nat.div_add_mod r.1 8
  have hml := Nat.mod_lt r.1 (show 0 < 8 by decide)
  have hle : r.1 % 8 + p ≤ 8 := by
    have h8 : p * (m * (r.1 / 8)) = 8 * (r.1 / 8) := by rw [← Nat.mul_assoc, ← hm]
    have hx1 : r.1 % 8 = p * i - p * (m * (r.1 / 8)) := by omega
    rw [← Nat.mul_sub] at hx1
    have : i - m * (r.1 / 8) + 1 ≤ m := mul_lt_of (m := p) (by rw [← hx1, ← hm]; exact hml)
    have := Nat.mul_le_mul_left p this
    rw [Nat.mul_add] at this
    omega
  omega
theorem Rm.inj {n : Nat} {L : List Bk} (ho : Okl n L) {r r' : Bk} (h : Rm L r) (h' : Rm L r') (e : r.1 = r'.1) : r = r' := by
  obtain ⟨b, hb, h⟩ := h
  obtain ⟨b', hb', h'⟩ := h'
  have k := rm_in ho hb h
  have k' := rm_in ho hb' h'
  have p := bend_pos r
  have p' := bend_pos r'
  have hbb : b = b' := by
    obtain ⟨i, hi, rfl⟩ := List.getElem_of_mem hb
    obtain ⟨j, hj, rfl⟩ := List.getElem_of_mem hb'
    rcases Nat.lt_trichotomy i j with c | c | c
    · have := List.pairwise_iff_getElem.1 ho.good.sorted i j hi hj c
      omega
    · subst c; rfl
    · have := List.pairwise_iff_getElem.1 ho.good.sorted j i hj hi c
      omega
  subst hbb
  rcases h with ⟨h1, rfl⟩ | ⟨h1, h2, _⟩ <;> rcases h' with ⟨h1', rfl⟩ | ⟨h1', h2', _⟩
  · rfl
  · omega
  · omega
  · exact Prod.ext e (h2.trans h2'.symm)
/-- What is free and lies in a group lies in one of its rooms. -/
theorem Rm.of_free {n : Nat} {L : List Bk} (ho : Okl n L) {c : Bk} (h3 : c.2 ≤ 3) (hd : 2 ^ c.2 ∣ c.1) (h : ∀ x, inB c x → cov L x) : ∃ r, Rm L r ∧ c.2 ≤ r.2 ∧ r.1 / 8 = c.1 / 8 := by
  obtain ⟨b, hb, h1, h2, h4⟩ := ho.good.within hd (by omega) h
  rcases Nat.lt_or_ge 3 b.2 with c3 | c3
  · refine ⟨(8 * (c.1 / 8), 3), ⟨b, hb, Or.inr ⟨c3, rfl, ⟨_, rfl⟩, ?_, ?_⟩⟩, h3, by simp⟩
    · have hal := ho.good.al b hb
      obtain ⟨k, hk⟩ := pow_gt3 c3
      obtain ⟨i, hi⟩ := hal.2
      rw [hk, Nat.mul_assoc] at hi
      generalize 2 * k * i = y at *
      show b.1 ≤ 8 * (c.1 / 8)
      omega
    · have := bend_pos c
      show 8 * (c.1 / 8) < bend b
      omega
  · refine ⟨b, ⟨b, hb, Or.inl ⟨c3, rfl⟩⟩, h4, ?_⟩
    have := grp_of c3 (ho.good.al b hb).2 (x := c.1) ⟨h1, by have := bend_pos c; omega⟩
    exact this.symm

/-- Of the rooms of S the best: of the least order (or of the greatest), and of these the one of the lowest frames. -/
def bet (lo : Bool) (r m : Bk) : Bool := if lo then decide (r.2 < m.2) else decide (m.2 < r.2)
def Bst (lo : Bool) (S : Bk → Prop) : Option Bk → Prop
  | none => ∀ r, ¬ S r
  | some m => S m ∧ ∀ r, S r → bet lo m r = true ∨ (m.2 = r.2 ∧ m.1 ≤ r.1)
theorem bet_true {lo : Bool} {r m : Bk} : bet lo r m = true ↔ (lo = true ∧ r.2 < m.2) ∨ (lo = false ∧ m.2 < r.2) := by cases lo <;> simp [bet]
theorem bet_false {lo : Bool} {r m : Bk} : bet lo r m = false ↔ (lo = true ∧ m.2 ≤ r.2) ∨ (lo = false ∧ r.2 ≤ m.2) := by cases lo <;> simp [bet]
theorem Bst.unique {lo : Bool} {S S' : Bk → Prop} {a b : Option Bk} (ha : Bst lo S a) (hb : Bst lo S' b) (h : ∀ r, S r ↔ S' r) (hinj : ∀ r r', S r → S r' → r.1 = r'.1 → r = r') : a = b := by
  cases a with
  | none =>
    cases b with
    | none => rfl
    | some m => exact absurd ((h m).2 hb.1) (ha m)
  | some a =>
    cases b with
    | none => exact absurd ((h a).1 ha.1) (hb a)
    | some b =>
      have h1 := ha.2 b ((h b).2 hb.1)
      have h2 := hb.2 a ((h a).1 ha.1)
      rw [bet_true] at h1 h2
      have e : a.1 = b.1 := by cases lo <;> simp at h1 h2 <;> omega
      rw [hinj a b ha.1 ((h b).2 hb.1) e]
theorem Bst.congr {lo : Bool} {S S' : Bk → Prop} {a : Option Bk} (ha : Bst lo S a) (h : ∀ r, S' r ↔ S r) : Bst lo S' a := by
  cases a with
  | none => exact fun r hr => ha r ((h r).1 hr)
  | some m => exact ⟨(h m).2 ha.1, fun r hr => ha.2 r ((h r).1 hr)⟩
/-- One more, behind all of them. -/
def nxt (lo : Bool) (r : Bk) : Option Bk → Option Bk
  | none => some r
  | some m => if bet lo r m then some r else some m
theorem Bst.step {lo : Bool} {S S' : Bk → Prop} {a : Option Bk} (ha : Bst lo S a) (r : Bk) (hl : ∀ x, S x → x.1 ≤ r.1) (h : ∀ x, S' x ↔ S x ∨ x = r) : Bst lo S' (nxt lo r a) := by
  cases a with
  | none =>
    refine ⟨(h r).2 (Or.inr rfl), fun x hx => ?_⟩
    rcases (h x).1 hx with hx | rfl
    · exact absurd hx (ha x)
    · exact Or.inr ⟨rfl, Nat.le_refl _⟩
  | some m =>
    obtain ⟨h1, h2⟩ := ha
    cases hb : bet lo r m with
    | true =>
      rw [show nxt lo r (some m) = some r by simp [nxt, hb]]
      refine ⟨(h r).2 (Or.inr rfl), fun x hx => ?_⟩
      rcases (h x).1 hx with hx | rfl
      · have := h2 x hx
        rw [bet_true] at hb this ⊢
        cases lo <;> simp at * <;> omega
      · exact Or.inr ⟨rfl, Nat.le_refl _⟩
    | false =>
      rw [show nxt lo r (some m) = some m by simp [nxt, hb]]
      refine ⟨(h m).2 (Or.inl h1), fun x hx => ?_⟩
      rcases (h x).1 hx with hx | rfl
      · exact h2 x hx
      · have := hl m h1
        rw [bet_false] at hb
        rw [bet_true]
        cases lo <;> simp at * <;> omega
/-- There is a best one of any rooms below any frame. -/
theorem bst_ex (lo : Bool) (S : Bk → Prop) (hinj : ∀ r r', S r → S r' → r.1 = r'.1 → r = r') : ∀ n, ∃ a, Bst lo (fun r => S r ∧ r.1 < n) a
  | 0 => ⟨none, fun r h => by omega⟩
  | n + 1 => by
    obtain ⟨a, ha⟩ := bst_ex lo S hinj n
    by_cases h : ∃ r, S r ∧ r.1 = n
    · obtain ⟨r, hr, rfl⟩ := h
      refine ⟨_, ha.step r (fun x hx => by omega) fun x => ⟨fun hx => ?_, fun hx => ?_⟩⟩
      · rcases Nat.lt_or_ge x.1 r.1 with c | c
        · exact Or.inl ⟨hx.1, c⟩
        · exact Or.inr (hinj x r hx.1 hr (by omega))
      · rcases hx with hx | rfl
        · exact ⟨hx.1, by omega⟩
        · exact ⟨hr, by omega⟩
    · refine ⟨a, ha.congr fun x => ⟨fun hx => ⟨hx.1, ?_⟩, fun hx => ⟨hx.1, by omega⟩⟩⟩
      rcases Nat.lt_or_ge x.1 n with c | c
      · exact c
      · exact absurd ⟨x, hx.1, by omega⟩ h

/-- A group that is open, and of a sort (of any: none). -/
def gok (gs : List Gp) (s : Option Int) (g : Nat) : Prop := ∃ x, gs[g]? = some x ∧ x.2 = false ∧ ∀ t, s = some t → x.1 = t
/-- The rooms of such groups that are enough. -/
def Cn (gs : List Gp) (L : List Bk) (s : Option Int) (o : Nat) (r : Bk) : Prop := Rm L r ∧ o ≤ r.2 ∧ gok gs s (r.1 / 8)
theorem Cn.inj {n : Nat} {gs : List Gp} {L : List Bk} {s : Option Int} {o : Nat} (ho : Okl n L) (r r' : Bk) (h : Cn gs L s o r) (h' : Cn gs L s o r') (e : r.1 = r'.1) : r = r' := h.1.inj ho h'.1 e
theorem Cn.lt {n : Nat} {gs : List Gp} {L : List Bk} {s : Option Int} {o : Nat} (ho : Okl n L) {r : Bk} (h : Cn gs L s o r) : r.1 < n := by
  have := (h.1.facts ho).2.2.1
  have := bend_pos r
  omega
theorem cn_ex {n : Nat} {gs : List Gp} {L : List Bk} (ho : Okl n L) (lo : Bool) (s : Option Int) (o : Nat) : ∃ a, Bst lo (Cn gs L s o) a := by
  obtain ⟨a, ha⟩ := bst_ex lo (Cn gs L s o) (fun r r' h h' e => Cn.inj ho r r' h h' e) n
  exact ⟨a, ha.congr fun r => ⟨fun h => ⟨h, h.lt ho⟩, fun h => h.1⟩⟩
/-- The room to be taken from, if any. -/
def Zp (gs : List Gp) (L : List Bk) (s : Int) (o : Nat) (res : Option Bk) : Prop :=
  (∃ r, res = some r ∧ Bst true (Cn gs L (some s) o) (some r)) ∨ (Bst true (Cn gs L (some s) o) none ∧ Bst false (Cn gs L none o) res)
theorem zp_ex {n : Nat} {gs : List Gp} {L : List Bk} (ho : Okl n L) (s : Int) (o : Nat) : ∃ res, Zp gs L s o res := by
  obtain ⟨a, ha⟩ := cn_ex (gs := gs) ho true (some s) o
  cases a with
  | some r => exact ⟨_, Or.inl ⟨r, rfl, ha⟩⟩
  | none =>
    obtain ⟨b, hb⟩ := cn_ex (gs := gs) ho false none o
    exact ⟨b, Or.inr ⟨ha, hb⟩⟩
theorem Zp.unique {n : Nat} {gs : List Gp} {L : List Bk} (ho : Okl n L) {s : Int} {o : Nat} {a b : Option Bk} (ha : Zp gs L s o a) (hb : Zp gs L s o b) : a = b := by
  have inj := fun s => Cn.inj (gs := gs) (s := s) (o := o) ho
  rcases ha with ⟨r, rfl, ha⟩ | ⟨ha, ha'⟩ <;> rcases hb with ⟨r', rfl, hb⟩ | ⟨hb, hb'⟩
  · exact ha.unique hb (fun _ => Iff.rfl) (inj _)
  · cases ha.unique hb (fun _ => Iff.rfl) (inj _)
  · cases ha.unique hb (fun _ => Iff.rfl) (inj _)
  · exact ha'.unique hb' (fun _ => Iff.rfl) (inj _)
/-- What it tells. -/
theorem Zp.cn {gs : List Gp} {L : List Bk} {s : Int} {o : Nat} {r : Bk} (h : Zp gs L s o (some r)) : Cn gs L none o r := by
  rcases h with ⟨r', e, h⟩ | ⟨_, h⟩
  · cases e
    obtain ⟨h1, h2, x, h3, h4, _⟩ := h.1
    exact ⟨h1, h2, x, h3, h4, fun t e => by cases e⟩
  · exact h.1
theorem Zp.sort {gs : List Gp} {L : List Bk} {s : Int} {o : Nat} {res : Option Bk} (h : Zp gs L s o res) (hr : ∃ r, Cn gs L (some s) o r) : ∃ r, res = some r ∧ Cn gs L (some s) o r := by
  rcases h with ⟨r', e, h⟩ | ⟨h, _⟩
  · exact ⟨r', e, h.1⟩
  · obtain ⟨r, hr⟩ := hr
    exact absurd hr (h r)
end Go.Proofs.YtmmbfgkfidconaaDoor
/- sort.Search as layer 7 asks it: the first block that ends behind a frame. -/
namespace Go.Proofs.YtmmbfgkfidconaaDoor
open Go.RowKit

theorem lt_bend (z : Int) (b : Bk) : z < (bend b : Nat) ↔ z.toNat < bend b := by
  have := bend_pos b
  omega
theorem mid_behind {n : Nat} {L : List Bk} (ho : Okl n L) (z : Int) {i : Nat} (hi : i < L.length) : decide (z < (bend (L.getD i (0, 0)) : Nat)) = decide (behind L z.toNat ≤ i) := by
  have h := behind_mono ho.good.sorted z.toNat i (L.getD i (0, 0)) (by rw [List.getD_eq_getElem?_getD, List.getElem?_eq_getElem hi]; rfl)
  rw [decide_eq_decide, lt_bend]
  exact h

set_option maxHeartbeats 2000000 in
theorem search_any {F : Nat → Prop} {w : World} {p n : Nat} {v : Value} {L : List Bk} (hs : Sto F w p n v L) (ho : Okl n L) (bs bf : Nat) (z : Int)
    (h1 : w.cell? ⟨bs, 0, none⟩ = some (.pointer (some ⟨p, 0, none⟩))) (h2 : w.cell? ⟨bf, 0, none⟩ = some (.int .i64 z)) :
    Calls Tryd.prog 60 #[.int .i64 L.length, .func (.func 61) #[] #[.pointer (some ⟨bs, 0, none⟩), .pointer (some ⟨bf, 0, none⟩)]] w fun e w' => e = .returned (.int .i64 (behind L z.toNat)) ∧ Below w.heap.size w w' := by
  have hle := behind_le L z.toNat
  have hlen := ho.len
  have l1 := World.block_lt_of_cell? w _ h1
  have l2 := World.block_lt_of_cell? w _ h2
  obtain ⟨lb, hlb⟩ : ∃ lb : Array Value, lb = #[.pointer (some ⟨bs, 0, none⟩), .pointer (some ⟨bf, 0, none⟩)] := ⟨_, rfl⟩
  rw [← hlb]
  have H : Hid (∀ (wr : World) (i : Nat), Below w.heap.size w wr → i < L.length → Calls Tryd.prog 61 (#[.int .i64 i] ++ lb) wr fun e w' => e = .returned (.bool (decide (behind L z.toNat ≤ i))) ∧ Below w.heap.size w w') := by
    intro wr i hb hi
    have e1 := (bcell hb).1 bs 0 l1
    have e2 := (bcell hb).1 bf 0 l2
    rw [hlb]
    refine (show Calls Tryd.prog 61 (#[.int .i64 (i : Int)] ++ #[.pointer (some ⟨bs, 0, none⟩), .pointer (some ⟨bf, 0, none⟩)]) wr _ from ends1_any (hs.below hb) ho bs bf z i hi (e1.trans h1) (e2.trans h2)).mono ?_
    rintro e w1 ⟨rfl, hb1⟩
    rw [mid_behind ho z hi]
    exact ⟨rfl, below_call' hb hb1⟩
  clear hs ho h1 h2 l1 l2 hlb
  have eg : ∀ args w, (callFunc 61 args).run Tryd.prog w = .ok (.enter 61 args) w := enters_of Tryd.func61 (by kernel_rfl) rfl
  generalize behind L z.toNat = m at *
  generalize L.length = len at *
  go_enter Tryd.func60, Tryd.ntmps60
  go_wp2
  go_loopw [5, 6] (fun a b wr => ∃ lo hi : Nat, a = .int .i64 lo ∧ b = .int .i64 hi ∧ Hid (lo ≤ m ∧ m ≤ hi) ∧ lo ≤ hi ∧ hi ≤ len ∧ Hid (Below w.heap.size w wr)) (fun a b _ => (intOf b).toNat - (intOf a).toNat)
  case atStart => exact ⟨0, len, rfl, rfl, ⟨Nat.zero_le _, hle⟩, Nat.zero_le _, Nat.le_refl _, Below.refl _ _⟩
  case round =>
    obtain ⟨lo, hi, rfl, rfl, g1, g2, g3, hb⟩ := hrel
    have HL : Hid (m ≤ len) := hle
    clear hle
    by_cases hlt : lo < hi
    · have hc := H.out wr ((lo + hi) / 2) hb.out (by omega)
      rw [show (((lo + hi) / 2 : Nat) : Int) = ((lo : Int) + (hi : Int)) / 2 by omega] at hc
      by_cases hm : m ≤ (lo + hi) / 2
      · rw [decide_eq_true hm] at hc
        have hm' : Hid (m ≤ (lo + hi) / 2) := hm
        clear hm
        go_wp2_with (go_at_fn 61; refine hc.mono ?_; rintro e w1 ⟨rfl, hb1⟩)
        go_roundw
        case rel => exact ⟨lo, (lo + hi) / 2, rfl, by go_num, ⟨g1.out.1, hm'.out⟩, by omega, by omega, hb1⟩
        case measure => simp only [intOf]; omega
      · rw [decide_eq_false hm] at hc
        have hm' : Hid (¬ m ≤ (lo + hi) / 2) := hm
        clear hm
        go_wp2_with (go_at_fn 61; refine hc.mono ?_; rintro e w1 ⟨rfl, hb1⟩)
        go_roundw
        case rel => exact ⟨(lo + hi) / 2 + 1, hi, by go_num, rfl, ⟨by have := hm'.out; omega, g1.out.2⟩, by omega, g3, hb1⟩
        case measure => simp only [intOf]; omega
    · obtain rfl : lo = m := by have := g1.out; omega
      go_wp2
      go_ret
      exact ⟨rfl, hb.out⟩

end Go.Proofs.YtmmbfgkfidconaaDoor
/- Where a frame is found in a store. -/
namespace Go.Proofs.YtmmbfgkfidconaaDoor
open Go.RowKit

set_option maxHeartbeats 1000000 in
theorem endsBehind_any {F : Nat → Prop} {w : World} {p n : Nat} {v : Value} {L : List Bk} (hs : Sto F w p n v L) (ho : Okl n L) (z : Int) :
    Calls Tryd.prog 49 #[.pointer (some ⟨p, 0, none⟩), .int .i64 z] w fun e w' => e = .returned (.int .i64 (behind L z.toNat)) ∧ Below w.heap.size w w' := by
  have hb0 : Below w.heap.size w ((w.alloc (.cells #[.pointer (some ⟨p, 0, none⟩)] 59)).alloc (.cells #[.int .i64 z] 3)) := ((Below.refl _ _).alloc (Nat.le_refl _) _).alloc (by simp) _
  have hc := search_any (hs.below hb0) ho w.heap.size (w.heap.size + 1) z (by rw [cell_alloc_old (by simp)]; simp) (by simp)
  obtain ⟨ao, c, rfl⟩ := hs.row.form
  have h1 := hs.laid.cell 1
  simp at h1
  have l := hs.laid.lt
  have HB : Hid _ := hb0
  clear hb0 hs ho
  go_enter Tryd.func49, Tryd.ntmps49
  go_wp2_with fail
  refine hc.mono ?_
  rintro e w1 ⟨rfl, hb1⟩
  go_wp2
  go_ret
  exact ⟨rfl, HB.out.trans (hb1.mono (by simp; omega))⟩

/-- Whether the i-th begins at that frame or ahead of it. -/
def upTo (L : List Bk) (i : Nat) (z : Int) : Bool := match L[i]? with | some b => decide ((b.1 : Int) ≤ z) | none => false
set_option maxHeartbeats 1000000 in
theorem beginsUpTo_any {F : Nat → Prop} {w : World} {p n : Nat} {v : Value} {L : List Bk} (hs : Sto F w p n v L) (i : Nat) (z : Int) :
    Calls Tryd.prog 50 #[.pointer (some ⟨p, 0, none⟩), .int .i64 i, .int .i64 z] w fun e w' => e = .returned (.bool (upTo L i z)) ∧ w' = w := by
  by_cases hi : i < L.length
  · obtain ⟨ao, c, rfl⟩ := hs.row.form
    obtain ⟨g, rfl, _, _, hg, hlc, hcm, hat⟩ := hs.row.at hi
    obtain ⟨c0, c1⟩ := rB.at hat
    simp only [show rB.n = 2 from rfl, show rB.zero = (0, 0) from rfl] at c0 c1
    have hc := hs.laid.cell 1
    simp at hc
    have hil : (i : Int) < L.length := by omega
    obtain ⟨b, hb⟩ : ∃ b, b = L.getD i (0, 0) := ⟨_, rfl⟩
    have e : upTo L i z = decide ((b.1 : Int) ≤ z) := by
      unfold upTo
      rw [hb, List.getD_eq_getElem?_getD, List.getElem?_eq_getElem hi]
      rfl
    rw [← hb] at c0 c1
    rw [e]
    clear hat hcm hlc hs hb e
    go_enter Tryd.func50, Tryd.ntmps50
    go_wp2
    go_ret
    exact ⟨rfl, rfl⟩
  · obtain ⟨ao, c, rfl⟩ := hs.row.form
    have hc := hs.laid.cell 1
    simp at hc
    have hil : ¬ (i : Int) < L.length := by omega
    have e : upTo L i z = false := by
      unfold upTo
      rw [List.getElem?_eq_none (by omega)]
    rw [e]
    clear hs e
    go_enter Tryd.func50, Tryd.ntmps50
    go_wp2
    go_ret
    exact ⟨rfl, rfl⟩
end Go.Proofs.YtmmbfgkfidconaaDoor
/- Whether there is a block; its buddy. -/
namespace Go.Proofs.YtmmbfgkfidconaaDoor
open Go.RowKit

set_option maxHeartbeats 400000 in
theorem down_noU (n o : Int) (w : World) (h : alignB n o = false) :
    Calls Tryd.prog 68 #[.int .i64 n, .int .i64 o] w fun e w' => e = .returned (.tuple #[.int .i64 0, .iface 28 (.int .i64 1)]) ∧ w' = w := by
  have hA := mayAlign_any n o
  rw [h] at hA
  go_enter Tryd.func68, Tryd.ntmps68
  go_wp2_with (go_at_call 73; refine (hA _).mono ?_; rintro e w1 ⟨rfl, hw⟩; obtain rfl := hw.symm; clear hw)
  go_ret2
  exact ⟨rfl, rfl⟩

theorem down_eq (f k : Nat) : ((f : Int) / 2 ^ k * 2 ^ k = f) ↔ f % 2 ^ k = 0 := by
  have e : ((2 : Int) ^ k) = ((2 ^ k : Nat) : Int) := by simp
  rw [e]
  have h := Nat.div_add_mod f (2 ^ k)
  rw [Nat.mul_comm] at h
  have e2 : (f : Int) / ((2 ^ k : Nat) : Int) * ((2 ^ k : Nat) : Int) = ((f / 2 ^ k * 2 ^ k : Nat) : Int) := by simp
  rw [e2]
  omega

set_option maxHeartbeats 400000 in
theorem isAligned_any (z : Int) (k : Nat) (w : World) (hz : z ≤ 1048576) (hk : k ≤ 20) :
    Calls Tryd.prog 59 #[.int .i64 z, .int .i64 k] w fun e w' => e = .returned (.bool (decide (0 ≤ z ∧ z.toNat % 2 ^ k = 0))) ∧ w' = w := by
  by_cases h : 0 ≤ z
  · have hc := down_yes z k w (by simp [alignB]; omega)
    obtain ⟨f, rfl⟩ : ∃ f : Nat, z = f := ⟨z.toNat, by omega⟩
    rw [Int.toNat_natCast] at hc
    have he := down_eq f k
    generalize (f : Int) / 2 ^ k * 2 ^ k = y at hc he
    go_enter Tryd.func59, Tryd.ntmps59
    go_wp2_with (go_at_call 68; refine hc.mono ?_; rintro e w1 ⟨rfl, hw⟩; obtain rfl := hw.symm; clear hw)
    go_ret
    refine ⟨ret_bool ?_, rfl⟩
    rw [Int.toNat_natCast, Bool.eq_iff_iff]
    simp only [beq_iff_eq, decide_eq_true_eq]
    rw [he]
    omega
  · have hc := down_noU z k w (by simp [alignB]; omega)
    rw [show decide (0 ≤ z ∧ z.toNat % 2 ^ k = 0) = false by simp; omega]
    clear h
    go_enter Tryd.func59, Tryd.ntmps59
    go_wp2_with (go_at_call 68; refine hc.mono ?_; rintro e w1 ⟨rfl, hw⟩; obtain rfl := hw.symm; clear hw)
    go_ret
    exact ⟨rfl, rfl⟩

/-- There is a block. -/
def hasB (n : Nat) (z o : Int) : Bool := decide (0 ≤ o ∧ o ≤ 5 ∧ 0 ≤ z ∧ z.toNat % 2 ^ o.toNat = 0 ∧ z + (2 ^ o.toNat : Nat) ≤ n)
theorem hasB_nat {n : Nat} {z o : Int} (h : hasB n z o = true) : ∃ f k : Nat, z = f ∧ o = k ∧ alB (f, k) ∧ bend (f, k) ≤ n := by
  simp only [hasB, decide_eq_true_eq] at h
  obtain ⟨h1, h2, h3, h4, h5⟩ := h
  refine ⟨z.toNat, o.toNat, by omega, by omega, ⟨by show o.toNat ≤ 5; omega, Nat.dvd_of_mod_eq_zero h4⟩, ?_⟩
  unfold bend
  simp only
  omega
theorem hasB_of {n f k : Nat} (h : alB (f, k)) (hb : bend (f, k) ≤ n) : hasB n f k = true := by
  simp only [hasB, decide_eq_true_eq]
  have h5 : k ≤ 5 := h.1
  have h4 : 2 ^ k ∣ f := h.2
  have hb' : f + 2 ^ k ≤ n := hb
  refine ⟨by omega, by omega, by omega, ?_, ?_⟩
  · simpa using Nat.mod_eq_zero_of_dvd h4
  · rw [Int.toNat_natCast]
    omega

set_option maxHeartbeats 1000000 in
theorem hasBlock_any {F : Nat → Prop} {w : World} {p n : Nat} {v : Value} {L : List Bk} (hs : Sto F w p n v L) (hn : n ≤ 512) (z o : Int) (hz : -9223372036854775808 ≤ z ∧ z ≤ 9223372036854775807) :
    Calls Tryd.prog 48 #[.pointer (some ⟨p, 0, none⟩), .int .i64 z, .int .i64 o] w fun e w' => e = .returned (.bool (hasB n z o)) ∧ Below w.heap.size w w' := by
  have hM := fun w => mayOrder_any o w
  by_cases ho : 0 ≤ o ∧ o ≤ 5
  · obtain ⟨k, rfl⟩ : ∃ k : Nat, o = k := ⟨o.toNat, by omega⟩
    rw [show decide (0 ≤ (k : Int) ∧ (k : Int) ≤ 5) = true by simp; omega] at hM
    have hk : k ≤ 5 := by omega
    have hp : (2 : Nat) ^ k ≤ 32 := Nat.pow_le_pow_right (show 0 < 2 by decide) hk
    have e : ((2 ^ k : Nat) : Int) = 2 ^ k := by simp
    have hp0 : (0 : Int) ≤ 2 ^ k := Int.le_of_lt (Int.pow_pos (by decide))
    have hp1 : (2 : Int) ^ k ≤ 32 := by omega
    have h0 := hs.laid.cell 0
    simp at h0
    by_cases hle : z ≤ (n : Int) - 2 ^ k
    · have hA := fun w => isAligned_any z k w (by omega) (by omega)
      have he : decide (0 ≤ z ∧ z.toNat % 2 ^ k = 0) = hasB n z k := by
        unfold hasB
        rw [decide_eq_decide, Int.toNat_natCast]
        omega
      rw [he] at hA
      generalize hasB n z k = r at *
      clear hs ho e hp
      go_enter Tryd.func48, Tryd.ntmps48
      go_wp2
      go_quiet (first | (go_at_call 58; exact Calls.quiet_of_same (hM _)) | (go_at_call 59; exact Calls.quiet_of_same (hA _)))
      go_wp2
      go_ret
      exact ⟨rfl, below_drewN (Below.refl _ _) _⟩
    · have he : hasB n z k = false := by
        unfold hasB
        rw [decide_eq_false_iff_not, Int.toNat_natCast]
        omega
      rw [he]
      have hle' : decide (z ≤ (n : Int) - 2 ^ k) = false := decide_eq_false hle
      clear hs ho e hp he hle
      go_enter Tryd.func48, Tryd.ntmps48
      go_wp2
      go_quiet ((go_at_call 58; exact Calls.quiet_of_same (hM _)))
      go_wp2
      go_ret
      exact ⟨rfl, below_drewN (Below.refl _ _) _⟩
  · rw [decide_eq_false ho] at hM
    have he : hasB n z o = false := by
      unfold hasB
      rw [decide_eq_false_iff_not]
      omega
    rw [he]
    clear ho he hs
    go_enter Tryd.func48, Tryd.ntmps48
    go_wp2
    go_quiet ((go_at_call 58; exact Calls.quiet_of_same (hM _)))
    go_wp2
    go_ret
    exact ⟨rfl, below_drewN (Below.refl _ _) _⟩

theorem i64_xor_nat (x y : Nat) (hx : x < 9223372036854775808) (hy : y < 9223372036854775808) : bits .xor .i64 (x : Int) (y : Int) = ((x ^^^ y : Nat) : Int) := by
  have hlt : x ^^^ y < 2 ^ 63 := Nat.xor_lt_two_pow (by simpa using hx) (by simpa using hy)
  show IntKind.i64.wrap ((BitVec.ofInt 64 (x : Int) ^^^ BitVec.ofInt 64 (y : Int)).toNat : Int) = _
  rw [BitVec.toNat_xor, ofInt_u64 x (by omega), ofInt_u64 y (by omega)]
  simp only [IntKind.wrap, IntKind.signed, IntKind.bits]
  simp
  omega

set_option maxHeartbeats 1000000 in
theorem buddy_any (b : Bk) (w : World) (h1 : b.1 ≤ 1048576) (h5 : b.2 ≤ 20) :
    Calls Tryd.prog 63 #[bval b] w fun e w' => e = .returned (bval (bud b)) ∧ Below w.heap.size w w' := by
  have hp : (2 : Nat) ^ b.2 ≤ 1048576 := Nat.pow_le_pow_right (show 0 < 2 by decide) h5
  have e : ((2 ^ b.2 : Nat) : Int) = 2 ^ b.2 := by simp
  have hp0 : (0 : Int) ≤ 2 ^ b.2 := Int.le_of_lt (Int.pow_pos (by decide))
  have hp1 : (2 : Int) ^ b.2 ≤ 1048576 := by omega
  have hx := i64_xor_nat b.1 (2 ^ b.2) (by omega) (by omega)
  rw [e] at hx
  have hE : Hid (((2 ^ b.2 : Nat) : Int) = 2 ^ b.2) := e
  clear e hp
  unfold bval
  go_enter Tryd.func63, Tryd.ntmps63
  go_wp2
  go_region
  go_wp2
  refine bodyPost_ret (v := .agg #[.int .i64 (b.1 ^^^ 2 ^ b.2 : Nat), .int .i64 b.2]) ?_ rfl ⟨rfl, ?_⟩
  · simp [results, Tryd.results63, go_sem]
  · trace_state
    repeat' (first | exact Below.refl _ _ | (refine Below.alloc ?_ ?_ _) | (refine below_drewN ?_ _) | (refine Below.setCell ?_ ?_ _) | (simp; done) | (simp; omega))
end Go.Proofs.YtmmbfgkfidconaaDoor
/- What buddy.blocks lays; condition: the table of math/bits lies as its text lays it. -/
namespace Go.Proofs.YtmmbfgkfidconaaDoor
open Go.RowKit

/-- The first j blocks of a run. -/
def splK (r : Bk) (j : Nat) : List Bk := (List.range j).map fun k => (r.1 + k * 2 ^ min r.2 5, min r.2 5)
theorem splK_succ (r : Bk) (j : Nat) : splK r (j + 1) = splK r j ++ [(r.1 + j * 2 ^ min r.2 5, min r.2 5)] := by
  unfold splK
  rw [List.range_succ, List.map_append]
  rfl
theorem splK_all (r : Bk) : splK r (2 ^ (r.2 - min r.2 5)) = spl r := rfl
theorem splK_len (r : Bk) (j : Nat) : (splK r j).length = j := by simp [splK]
theorem cut_in : ∀ (n f t : Nat), t - f ≤ n → t ≤ 1048576 → ∀ r ∈ cutL f t, r.2 ≤ 20 ∧ r.1 + 2 ^ r.2 ≤ t := by
  intro n
  induction n with
  | zero =>
    intro f t h ht r hr
    rw [cutL_ge f t (by omega)] at hr
    simp at hr
  | succ n ih =>
    intro f t h ht r hr
    rcases Nat.lt_or_ge f t with hlt | hlt
    · rw [cutL_lt f t hlt] at hr
      have ho := ordN_fits f t hlt ht
      have hp := Nat.two_pow_pos (ordN f t)
      rcases List.mem_cons.1 hr with rfl | hr
      · exact ⟨ordN_le f t, ho.2⟩
      · exact ih _ t (by omega) ht r hr
    · rw [cutL_ge f t hlt] at hr
      simp at hr
theorem flat_take (CL : List Bk) (k : Nat) (hk : k < CL.length) : (CL.take (k + 1)).flatMap spl = (CL.take k).flatMap spl ++ spl (CL.getD k (0, 0)) := by
  rw [List.take_succ_eq_append_getElem hk, List.flatMap_append, List.getD_eq_getElem?_getD, List.getElem?_eq_getElem hk]
  simp
theorem flat_len {f t : Nat} (h : f ≤ t) (ht : t ≤ 1048576) (k : Nat) : (((cutL f t).take k).flatMap spl).length ≤ t - f := by
  have h1 := (blk_cvr h ht).len
  unfold blkL at h1
  rw [← List.take_append_drop k (cutL f t), List.flatMap_append, List.length_append] at h1
  omega

theorem tag_ne {α : Type} {R : Rec α} {w : World} {B b : Nat} {t : TypeId} {cs : Array Value} {v : Value} {l : List α} (hl : Laid w b t cs) (hr : Row R B w v l) (ht : t ≠ R.t) : some b ≠ v.ownBlock := by
  intro e
  obtain ⟨cur, hcur⟩ := hr.tag e.symm
  exact ne_of_tag hl hcur ht rfl
theorem laid_grow {α : Type} {R : Rec α} {w w' : World} {B b : Nat} {t : TypeId} {cs : Array Value} {v : Value} {l : List α} (hl : Laid w b t cs) (hr : Row R B w v l) (ht : t ≠ R.t) (hg : w.grownBy w' v.ownBlock) : Laid w' b t cs :=
  hl.kept hg (tag_ne hl hr ht)

set_option maxRecDepth 100000 in
set_option maxHeartbeats 4000000 in
theorem blocks_any (f0 t : Nat) (w : World) (hT : Tab w) (hf : f0 ≤ t) (ht : t ≤ 1024) :
    Calls Tryd.prog 46 #[.int .i64 f0, .int .i64 t] w fun e w' => ∃ v, e = .returned v ∧ Row rB w.heap.size w' v (blkL f0 t) ∧ Below w.heap.size w w' ∧ (blkL f0 t = [] → v = .slice none 0 0) := by
  have hC := cut_yes f0 t w hT hf (by omega)
  go_enter Tryd.func46, Tryd.ntmps46
  go_wp2_with fail
  refine hC.mono ?_
  rintro e w1 ⟨u, rfl, ho, hb1⟩
  have hR : Row rC w.heap.size w1 u (cutL f0 t) := ho
  obtain ⟨ao, c, rfl⟩ := hR.form
  have HR : Hid (Row rC w.heap.size w1 (.slice ao (cutL f0 t).length c) (cutL f0 t)) := hR
  have HB1 : Hid (Below w.heap.size w w1) := hb1
  have hin := cut_in t f0 t (by omega) (by omega)
  have HIN : Hid (∀ r ∈ cutL f0 t, r.2 ≤ 20 ∧ r.1 + 2 ^ r.2 ≤ t) := hin
  have HFL : Hid (∀ k, (((cutL f0 t).take k).flatMap spl).length ≤ t) := fun k => by have := flat_len hf (show t ≤ 1048576 by omega) k; omega
  have hcl : (cutL f0 t).length ≤ 1024 := by have := cutL_length (t - f0) f0 t (Nat.le_refl _); omega
  have HBL : Hid (blkL f0 t = (cutL f0 t).flatMap spl) := rfl
  clear hR ho hb1 hC hT hin
  generalize cutL f0 t = CL at *
  go_wp2
  go_loopw [7, 20] (fun v i wr => ∃ k : Nat, k ≤ CL.length ∧ i = .int .i64 k ∧ Hid (Row rB w1.heap.size wr v ((CL.take k).flatMap spl)) ∧ Hid (Below w1.heap.size w1 wr) ∧ Hid ((CL.take k).flatMap spl = [] → v = .slice none 0 0)) (fun _ i _ => CL.length - (intOf i).toNat)
  case atStart => exact ⟨0, Nat.zero_le _, rfl, Row.nil _ _ _, Below.refl _ _, fun _ => rfl⟩
  case round =>
    obtain ⟨k, hk, rfl, HV, HB, HN⟩ := hrel
    by_cases hlt : k < CL.length
    · have hltz : (k : Int) < (CL.length : Int) := by omega
      obtain ⟨g, rfl, _, _, hg, _, _, hat⟩ := (HR.out.below HB.out).at hlt
      have c0 := hat 0 (by decide)
      have c1 := hat 1 (by decide)
      simp only [show rC.n = 2 from rfl, show rC.zero = (0, 0) from rfl] at c0 c1
      have hr := HIN.out (CL.getD k (0, 0)) (by rw [List.getD_eq_getElem?_getD, List.getElem?_eq_getElem hlt]; exact List.getElem_mem hlt)
      have HF : Hid ((CL.take (k + 1)).flatMap spl = (CL.take k).flatMap spl ++ spl (CL.getD k (0, 0))) := flat_take CL k hlt
      have hln := HFL.out (k + 1)
      rw [HF.out, List.length_append] at hln
      generalize CL.getD k (0, 0) = r at *
      obtain ⟨a, q⟩ := r
      obtain ⟨o, ho⟩ : ∃ o, o = min q 5 := ⟨_, rfl⟩
      obtain ⟨m, hm⟩ : ∃ m, m = 2 ^ (q - o) := ⟨_, rfl⟩
      have hq : 2 ^ q = m * 2 ^ o := by rw [hm, ← Nat.pow_add]; congr 1; omega
      have hm1 : m ≤ 1024 := by have := Nat.two_pow_pos o; have : m * 1 ≤ m * 2 ^ o := Nat.mul_le_mul_left _ this; simp only at hr; omega
      simp only [bcells, rC, List.getElem?_cons_zero, List.getElem?_cons_succ, Nat.add_zero] at c0 c1 hr
      have ho5 : o ≤ 5 := by omega
      have HOM : Hid (o = min q 5) := ho
      have hoz : min (q : Int) 5 = (o : Int) := by omega
      have hS : spl (a, q) = splK (a, q) m := by rw [hm, ho]; rfl
      have HSP : Hid (∀ j, splK (a, q) (j + 1) = splK (a, q) j ++ [(a + j * 2 ^ o, o)]) := fun j => by rw [splK_succ, ← HOM.out]
      have hP : (0 : Int) < 2 ^ o := Int.pow_pos (by decide)
      have hPn : ((2 ^ o : Nat) : Int) = 2 ^ o := by simp
      have hQn : ((2 ^ q : Nat) : Int) = 2 ^ q := by simp
      rw [hS] at HF hln
      rw [splK_len] at hln
      have HLN : Hid (((CL.take k).flatMap spl).length + m ≤ t) := hln
      have HQ : Hid (2 ^ q = m * 2 ^ o) := hq
      have HPN : Hid (((2 ^ o : Nat) : Int) = 2 ^ o) := hPn
      have HQN : Hid (((2 ^ q : Nat) : Int) = 2 ^ q) := hQn
      have hP2 : (2 : Int) ^ o ≤ 32 := by have : 2 ^ o ≤ 2 ^ 5 := Nat.pow_le_pow_right (by omega) ho5; omega
      have hQ0 : (0 : Int) ≤ 2 ^ q := Int.le_of_lt (Int.pow_pos (by decide))
      have hQ2 : (a : Int) + 2 ^ q ≤ t := by omega
      clear hat hlt hS hln hq hPn hQn hk HR HIN HFL HBL ho hm
      generalize (CL.take k).flatMap spl = PL at *
      have HB0 : Hid (Below w1.heap.size w1 (wr.alloc (.cells #[.int .i64 a, .int .i64 q] 89))) := HB.out.alloc HB.out.size _
      have HV0 : Hid (Row rB w1.heap.size (wr.alloc (.cells #[.int .i64 a, .int .i64 q] 89)) u7 PL) := HV.out.below ((Below.refl _ _).alloc (Nat.le_refl _) _)
      have HL0 : Hid (Laid (wr.alloc (.cells #[.int .i64 a, .int .i64 q] 89)) wr.heap.size 89 #[.int .i64 a, .int .i64 q]) := Laid.new _ _ _
      clear HV HB
      go_wp2
      clear hoz c0 c1
      go_loopw [7, 11] (fun v fi W => ∃ j y : Nat, j ≤ m ∧ fi = .int .i64 y ∧ Hid (y = a + j * 2 ^ o) ∧ Hid (Row rB w1.heap.size W v (PL ++ splK (a, q) j)) ∧ Hid (PL ++ splK (a, q) j = [] → v = .slice none 0 0) ∧ Hid (Laid W wr.heap.size 89 #[.int .i64 a, .int .i64 q]) ∧ Hid (Below w1.heap.size w1 W)) (fun _ fi _ => (a + 2 ^ q) - (intOf fi).toNat)
      case atStart => exact ⟨0, a, Nat.zero_le _, rfl, (by simp : a = a + 0 * 2 ^ o), (by simpa [splK] using HV0.out : Row rB w1.heap.size _ u7 (PL ++ splK (a, q) 0)), (by simpa [splK] using HN.out : PL ++ splK (a, q) 0 = [] → u7 = .slice none 0 0), HL0, HB0⟩
      case round =>
        obtain ⟨j, y, hj, rfl, HY, HV, HN, HL, HB⟩ := hrel
        clear HV0 HL0 HB0
        have c0 := HL.out.cell 0
        have c1 := HL.out.cell 1
        simp at c0 c1
        by_cases hjm : j < m
        · have h1 : (j + 1) * 2 ^ o ≤ m * 2 ^ o := Nat.mul_le_mul_right _ hjm
          rw [Nat.add_mul] at h1
          have hlt2 : (y : Int) < (a : Int) + 2 ^ q := by have := HQ.out; have := HY.out; have := HQN.out; have := HPN.out; omega
          have hbnd : (y : Int) + 2 ^ o ≤ 1024 := by have := HQ.out; have := HY.out; have := HQN.out; have := HPN.out; omega
          clear h1
          have HO := HSP.out j
          have HO' : Hid (splK (a, q) (j + 1) = splK (a, q) j ++ [(y, o)]) := (by rw [HO, ← HY.out] : splK (a, q) (j + 1) = splK (a, q) j ++ [(y, o)])
          have HYS : Hid (((y : Int) + 2 ^ o = ((y + 2 ^ o : Nat) : Int)) ∧ y + 2 ^ o = a + (j + 1) * 2 ^ o) := (⟨by have := HPN.out; omega, by rw [HY.out, Nat.add_mul]; omega⟩ : ((y : Int) + 2 ^ o = ((y + 2 ^ o : Nat) : Int)) ∧ y + 2 ^ o = a + (j + 1) * 2 ^ o)
          have hlp : (PL ++ splK (a, q) j).length + 1 ≤ 1024 := by have := HLN.out; rw [List.length_append, splK_len]; omega
          generalize splK (a, q) j = SJ at *
          clear HO HY HSP hg HLN
          have hv := fun n ob => HV.out.below ((below_drewN (Below.refl wr.heap.size wr) n).alloc (Nat.le_refl _) ob)
          have HVV : Hid (∀ n ob, Row rB w1.heap.size ((wr.drewN n).alloc ob) u7 (PL ++ SJ)) := hv
          have hv2 := fun n ob => HL.out.below ((below_drewN (Below.refl wr.heap.size wr) n).alloc (Nat.le_refl _) ob)
          have HLV : Hid (∀ n ob, Laid ((wr.drewN n).alloc ob) _ 89 #[.int .i64 a, .int .i64 q]) := hv2
          have HSZ : Hid (w1.heap.size ≤ wr.heap.size) := HB.out.size
          clear hv hv2
          go_wp2
          go_quiet (fail)
          go_wp2_with (at_builtin; refine list_app rB.kin rfl _ _ rfl w1.heap.size _ (PL ++ SJ) [(y, o)] rfl (HVV.out _ _) (some ⟨wr.heap.size, 0, none⟩) 1 1 rfl rfl ?a2 ?a3 ?a4 ?a5 ?_)
          case a2 => exact Seen.one (by simp) (At.new (R := rB) _ (y, o) _ rfl) 1
          case a3 => simp only [List.length_cons, List.length_nil]; unfold maxLen; omega
          case a4 => simp only [List.length_cons, List.length_nil, show rB.bytes = 16 from rfl]; omega
          case a5 => have := HSZ.out; simp; omega
          intro v' w2 hrow hgrow
          have HR2 : Hid (Row rB w1.heap.size w2 v' (PL ++ (SJ ++ [(y, o)]))) := hrow
          have HL2 : Hid (Laid w2 _ 89 #[.int .i64 a, .int .i64 q]) := laid_grow (HLV.out _ _) (HVV.out _ _) (by decide) hgrow
          have HB2 : Hid (Below w1.heap.size w1 w2) := ((below_drewN HB.out _).alloc HSZ.out _).grown hgrow (by have := HSZ.out; simp; omega) (fun k hk => (HV.out.lt k hk).1)
          clear hrow hgrow HV HL HB HVV HSZ HLV
          go_wp2
          go_roundw
          case rel => exact ⟨j + 1, y + 2 ^ o, by omega, by rw [← HYS.out.1], HYS.out.2, (by rw [HO'.out]; exact HR2.out : Row rB w1.heap.size _ _ (PL ++ splK (a, q) (j + 1))), (by rw [HO'.out]; intro h; simp at h : PL ++ splK (a, q) (j + 1) = [] → _ = Value.slice none 0 0), HL2, HB2⟩
          case measure => simp only [intOf]; have := HYS.out; have := HPN.out; have := HQN.out; omega
        · obtain rfl : j = m := by omega
          have hlt2 : ¬ (y : Int) < (a : Int) + 2 ^ q := by have := HQ.out; have := HY.out; have := HQN.out; have := HPN.out; omega
          go_wp2
          go_quiet (fail)
          go_wp2
          go_roundw
          case rel => exact ⟨k + 1, by omega, by go_num, by rw [HF.out]; exact HV.out.below (below_drewN (Below.refl _ _) _), below_drewN HB.out _, by rw [HF.out]; exact HN⟩
          case measure => simp only [intOf]; omega
    · obtain rfl : k = CL.length := by omega
      have HV' := HV.out
      rw [List.take_length, ← HBL.out] at HV'
      have HV2 : Hid (Row rB w1.heap.size wr u7 (blkL f0 t)) := HV'
      have HN' := HN.out
      rw [List.take_length, ← HBL.out] at HN'
      have HN2 : Hid (blkL f0 t = [] → u7 = .slice none 0 0) := HN'
      clear HV HV' HN HN'
      go_wp2
      go_ret
      exact ⟨u7, rfl, HV2.out.lower HB1.out.size, below_call' HB1.out HB.out, HN2.out⟩
end Go.Proofs.YtmmbfgkfidconaaDoor
/- Rows of records: a part of one is replaced. No word of the program. -/
namespace Go.Proofs.YtmmbfgkfidconaaDoor
open Go.RowKit

theorem getD_repl {α : Type} (z : α) (l M : List α) (i j k : Nat) (hi : i ≤ l.length) : (l.take i ++ (M ++ l.drop j)).getD k z = if k < i then l.getD k z else if k < i + M.length then M.getD (k - i) z else l.getD (j + (k - (i + M.length))) z := by
  simp only [List.getD_eq_getElem?_getD]
  by_cases h1 : k < i
  · rw [if_pos h1, List.getElem?_append_left (by simp; omega), List.getElem?_take_of_lt h1]
  · rw [if_neg h1, List.getElem?_append_right (by simp; omega), List.length_take, Nat.min_eq_left hi]
    by_cases h2 : k < i + M.length
    · rw [if_pos h2, List.getElem?_append_left (by omega)]
    · rw [if_neg h2, List.getElem?_append_right (by omega), List.getElem?_drop, show k - i - M.length = k - (i + M.length) by omega]
theorem len_repl {α : Type} (l M : List α) (i j : Nat) (hi : i ≤ l.length) : (l.take i ++ (M ++ l.drop j)).length = i + M.length + (l.length - j) := by
  simp only [List.length_append, List.length_take, List.length_drop]
  omega
section
variable {α : Type} (R : Rec α)
theorem getD_drop (l : List α) (j k : Nat) : (l.drop j).getD k R.zero = l.getD (j + k) R.zero := by simp only [List.getD_eq_getElem?_getD, List.getElem?_drop]
/-- The tail first, then what is new. -/
theorem repl_cells (cur : Array Value) (c i j : Nat) (l M : List α) (hs : cur.size = c * R.n) (hfit : i + M.length + (l.length - j) ≤ c) (hi : i ≤ l.length)
    (hcur : ∀ k, k < i → ∀ t, t < R.n → cur[k * R.n + t]? = (R.cells (l.getD k R.zero))[t]?) :
    ∀ k, k < (l.take i ++ (M ++ l.drop j)).length → ∀ t, t < R.n → (wrs (wrs cur ((i + M.length) * R.n) (R.all (l.drop j))) (i * R.n) (R.all M))[k * R.n + t]? = (R.cells ((l.take i ++ (M ++ l.drop j)).getD k R.zero))[t]? := by
  intro k hk t ht
  rw [len_repl l M i j hi] at hk
  rw [getD_repl R.zero l M i j k hi, wrs_at R _ i c M (by rw [wrs_size]; exact hs) (by omega) k t ht]
  by_cases h1 : k < i
  · rw [if_neg (by omega), if_pos h1, wrs_at R _ _ c _ hs (by simp; omega) k t ht, if_neg (by omega)]
    exact hcur k h1 t ht
  · rw [if_neg h1]
    by_cases h2 : k < i + M.length
    · rw [if_pos ⟨by omega, h2⟩, if_pos h2]
    · rw [if_neg (by omega), if_neg h2, wrs_at R _ _ c _ hs (by simp; omega) k t ht, if_pos (by simp; omega), getD_drop]
/-- What is new first, then the tail. -/
theorem repl_cells' (cur : Array Value) (c i j : Nat) (l M : List α) (hs : cur.size = c * R.n) (hfit : i + M.length + (l.length - j) ≤ c) (hi : i ≤ l.length)
    (hcur : ∀ k, k < i → ∀ t, t < R.n → cur[k * R.n + t]? = (R.cells (l.getD k R.zero))[t]?) :
    ∀ k, k < (l.take i ++ (M ++ l.drop j)).length → ∀ t, t < R.n → (wrs (wrs cur (i * R.n) (R.all M)) ((i + M.length) * R.n) (R.all (l.drop j)))[k * R.n + t]? = (R.cells ((l.take i ++ (M ++ l.drop j)).getD k R.zero))[t]? := by
  intro k hk t ht
  rw [len_repl l M i j hi] at hk
  rw [getD_repl R.zero l M i j k hi, wrs_at R _ _ c (l.drop j) (by rw [wrs_size]; exact hs) (by simp; omega) k t ht]
  by_cases h1 : k < i
  · rw [if_neg (by omega), if_pos h1, wrs_at R _ _ c _ hs (by omega) k t ht, if_neg (by omega)]
    exact hcur k h1 t ht
  · rw [if_neg h1]
    by_cases h2 : k < i + M.length
    · rw [if_neg (by omega), if_pos h2, wrs_at R _ _ c _ hs (by omega) k t ht, if_pos ⟨by omega, h2⟩]
    · rw [if_pos (by simp; omega), if_neg h2, getD_drop]
end
section
variable {α : Type} {R : Rec α} {B : Nat} {w : World} {l : List α}
theorem keeps_sets2 (w : World) (g o o' : Nat) (vs vs' : List Value) : Keeps w ((w.setCells g o vs).setCells g o' vs') (fun b => b = g) := (Keeps.sets vs w g o).trans (Keeps.sets vs' _ g o') fun _ _ h => h
/-- A row's part from i up to j is M, the tail being moved first. -/
theorem Row.repl {g n c : Nat} (h : Row R B w (.slice (some ⟨g, 0, none⟩) n c) l) (i j : Nat) (M : List α) (hi : i ≤ l.length) (hfit : i + M.length + (l.length - j) ≤ c) {nn : Nat} (hnn : nn = i + M.length + (l.length - j)) :
    Row R B ((w.setCells g ((i + M.length) * R.n) (R.all (l.drop j))).setCells g (i * R.n) (R.all M)) (.slice (some ⟨g, 0, none⟩) nn c) (l.take i ++ (M ++ l.drop j)) := by
  obtain ⟨rfl, hB, hlt, cur, hg, hlc, hcm, hs, hc⟩ := h.cur
  have hl := len_repl l M i j hi
  have := Row.of_cells (R := R) (B := B) (l' := l.take i ++ (M ++ l.drop j)) (c := c) hB (heap_sets (R.all M) _ g (i * R.n) _ R.t (heap_sets (R.all (l.drop j)) w g ((i + M.length) * R.n) cur R.t hg)) (by omega) hcm (by rw [wrs_size, wrs_size]; exact hs) (repl_cells R cur c i j l M hs hfit hi fun k hk => hc k (by omega))
  rwa [hl, ← hnn] at this
/-- .. the tail being moved last. -/
theorem Row.repl' {g n c : Nat} (h : Row R B w (.slice (some ⟨g, 0, none⟩) n c) l) (i j : Nat) (M : List α) (hi : i ≤ l.length) (hfit : i + M.length + (l.length - j) ≤ c) {nn : Nat} (hnn : nn = i + M.length + (l.length - j)) :
    Row R B ((w.setCells g (i * R.n) (R.all M)).setCells g ((i + M.length) * R.n) (R.all (l.drop j))) (.slice (some ⟨g, 0, none⟩) nn c) (l.take i ++ (M ++ l.drop j)) := by
  obtain ⟨rfl, hB, hlt, cur, hg, hlc, hcm, hs, hc⟩ := h.cur
  have hl := len_repl l M i j hi
  have := Row.of_cells (R := R) (B := B) (l' := l.take i ++ (M ++ l.drop j)) (c := c) hB (heap_sets (R.all (l.drop j)) _ g ((i + M.length) * R.n) _ R.t (heap_sets (R.all M) w g (i * R.n) cur R.t hg)) (by omega) hcm (by rw [wrs_size, wrs_size]; exact hs) (repl_cells' R cur c i j l M hs hfit hi fun k hk => hc k (by omega))
  rwa [hl, ← hnn] at this
/-- A new row of the same. -/
theorem Row.fresh {g c j : Nat} {cur : Array Value} (hB : B ≤ g) (hg : w.heap[g]? = some (.cells cur R.t (0, 0))) (hcm : c ≤ maxLen) (hs : cur.size = c * R.n) (i : Nat) (M : List α) (hi : i ≤ l.length) (hfit : i + M.length + (l.length - j) ≤ c)
    (hc : ∀ (t : Nat) (u : Value), (R.all (l.take i))[t]? = some u → cur[t]? = some u) {nn : Nat} (hnn : nn = i + M.length + (l.length - j)) :
    Row R B ((w.setCells g (i * R.n) (R.all M)).setCells g ((i + M.length) * R.n) (R.all (l.drop j))) (.slice (some ⟨g, 0, none⟩) nn c) (l.take i ++ (M ++ l.drop j)) := by
  have hl := len_repl l M i j hi
  have := Row.of_cells (R := R) (B := B) (l' := l.take i ++ (M ++ l.drop j)) (c := c) hB (heap_sets (R.all (l.drop j)) _ g ((i + M.length) * R.n) _ R.t (heap_sets (R.all M) w g (i * R.n) cur R.t hg)) (by omega) hcm (by rw [wrs_size, wrs_size]; exact hs) (repl_cells' R cur c i j l M hs hfit hi fun k hk t ht => by
    have e := R.all_at (l.take i) k t (by simp; omega) ht
    have e2 : (l.take i).getD k R.zero = l.getD k R.zero := by simp only [List.getD_eq_getElem?_getD]; rw [List.getElem?_take_of_lt hk]
    rw [e2] at e
    obtain ⟨u, hu⟩ := R.cell_some (l.getD k R.zero) ht
    rw [hu] at e ⊢
    exact hc _ u e)
  rwa [hl, ← hnn] at this
/-- What is written behind its end. -/
theorem Row.tail {g n c : Nat} (h : Row R B w (.slice (some ⟨g, 0, none⟩) n c) l) (o : Nat) (vs : List Value) (ho : l.length * R.n ≤ o) : Row R B (w.setCells g o vs) (.slice (some ⟨g, 0, none⟩) n c) l := by
  obtain ⟨rfl, hB, hlt, cur, hg, hlc, hcm, hs, hc⟩ := h.cur
  refine Row.of_cells (R := R) (B := B) (l' := l) (c := c) hB (heap_sets vs w g o cur R.t hg) hlc hcm (by rw [wrs_size]; exact hs) fun k hk j hj => ?_
  have : (k + 1) * R.n ≤ l.length * R.n := Nat.mul_le_mul_right _ hk
  rw [Nat.add_mul] at this
  rw [wrs_out _ _ _ _ (Or.inl (by omega))]
  exact hc k hk j hj
/-- Its cells, the spare ones too. -/
theorem Row.spare {g n c : Nat} (h : Row R B w (.slice (some ⟨g, 0, none⟩) n c) l) (j : Nat) (hj : j < c * R.n) : (w.cell? ⟨g, j, none⟩).isSome = true ∧ w.frozen? ⟨g, j, none⟩ = false := by
  obtain ⟨rfl, hB, hlt, cur, hg, hlc, hcm, hs, hc⟩ := h.cur
  refine ⟨?_, frozen_of_row w g _ cur _ hg⟩
  rw [cell_of_row w g _ cur _ _ hg, Array.getElem?_eq_getElem (by omega)]
  rfl
theorem Row.news {g n c : Nat} (h : Row R B w (.slice (some ⟨g, 0, none⟩) n c) l) (m : Nat) : ∀ (j : Nat) (u : Value), (R.all (l.drop m))[j]? = some u → w.cell? ⟨g, m * R.n + j, none⟩ = some u := by
  intro j u hj
  have hjl : j < (l.drop m).length * R.n := by
    have := (List.getElem?_eq_some_iff.1 hj).1
    rwa [R.all_len] at this
  obtain ⟨h1, h2, h3⟩ := R.div_lt hjl
  rw [List.length_drop] at h1
  obtain ⟨rfl, hB, hlt, cur, hg, hlc, hcm, hs, hc⟩ := h.cur
  rw [h3, R.all_at _ _ _ (by rw [List.length_drop]; exact h1) h2, getD_drop] at hj
  have := hc (m + j / R.n) (Nat.lt_sub_iff_add_lt'.1 h1) (j % R.n) h2
  rw [cell_of_row w g _ cur _ _ hg, ← hj, ← this, Nat.add_mul, Nat.add_assoc, ← h3]
theorem Row.shape {g n c : Nat} (h : Row R B w (.slice (some ⟨g, 0, none⟩) n c) l) (hl : 0 < l.length) : ∃ k, w.shape? g = some (R.t, k + 1) := by
  obtain ⟨rfl, hB, hlt, cur, hg, hlc, hcm, hs, hc⟩ := h.cur
  have : 1 * R.n ≤ c * R.n := Nat.mul_le_mul_right _ (by omega)
  have hn := R.npos
  refine ⟨cur.size - 1, ?_⟩
  unfold World.shape?
  rw [hg]
  simp
  omega
theorem blk_spare {w : World} {g : Nat} {cur : Array Value} {t : TypeId} (hg : w.heap[g]? = some (.cells cur t (0, 0))) {j : Nat} (hj : j < cur.size) : (w.cell? ⟨g, j, none⟩).isSome = true ∧ w.frozen? ⟨g, j, none⟩ = false := by
  refine ⟨?_, frozen_of_row w g _ cur _ hg⟩
  rw [cell_of_row w g _ cur _ _ hg, Array.getElem?_eq_getElem hj]
  rfl
/-- 'copy(d, x)', the records of x being X. -/
theorem copy_row {P : Program} {s : TypeId} (k : Kin P R s) {W : World} {b o dLen dc q p sLen sc : Nat} (X : List α) (hn : X.length = Nat.min sLen dLen) (hd : ∀ j, j < X.length * R.n → (W.cell? ⟨b, o + j, none⟩).isSome = true ∧ W.frozen? ⟨b, o + j, none⟩ = false)
    (hs : ∀ (j : Nat) (u : Value), (R.all X)[j]? = some u → W.cell? ⟨q, p + j, none⟩ = some u) (ty : TypeId) :
    (Builtin.copy_ #[s, s] ty #[.slice (some ⟨b, o, none⟩) dLen dc, .slice (some ⟨q, p, none⟩) sLen sc]).run P W = .ok (goInt X.length) (W.setCells b o (R.all X)) :=
  run_copyR k W ty b o dLen dc ⟨q, p, none⟩ sLen sc X.length (R.all X) hn (R.all_len X) (fun j u hj => by rw [Addr.add_lit]; exact hs j u hj) (fun j hj => (hd j (by rwa [R.all_len] at hj)).1) (fun j hj => (hd j (by rwa [R.all_len] at hj)).2) (R.all_oneCell X)
end
section
variable {P : Program} {α : Type} {R : Rec α} {s : TypeId}
/-- 'append(xs, ys...)': in place, or a new row. -/
theorem run_app' (k : Kin P R s) (w : World) (ty : TypeId) (B : Nat) (v : Value) (l1 l2 : List α) (h : Row R B w v l1) (ao : Option Addr) (c : Nat) (hs : Seen R w ao c l2) (hm : l1.length + l2.length ≤ maxLen) (hb : (l1.length + l2.length) * R.bytes ≤ 140737488355328) (hB : B ≤ w.heap.size) :
    ∃ v' w', (Builtin.append_ #[s, s] ty #[v, .slice ao l2.length c]).run P w = .ok v' w' ∧ Row R B w' v' (l1 ++ l2) ∧ w.grownBy w' v.ownBlock ∧ (∀ g, v'.ownBlock = some g → v.ownBlock = some g ∨ w.heap.size ≤ g) ∧ (v = .slice none 0 0 → l2 = [] → v' = .slice none 0 0) := by
  obtain ⟨v', w', hr, h1, h2⟩ := run_app k w ty B v l1 l2 h ao c hs hm hb hB
  refine ⟨v', w', hr, h1, h2, ?_⟩
  obtain ⟨i, z, hi, hz0, hz1, hz2, hzs⟩ := k.inf
  cases ao with
  | none =>
    obtain ⟨rfl, rfl⟩ := hs.1 rfl
    have hr2 := run_append_owned_none (P := P) w B s ty R.t i R.n k.und hi _ _ _ h
    have e := hr.symm.trans hr2
    cases e
    exact ⟨fun g hg => Or.inl hg, fun hv _ => hv⟩
  | some ad =>
    rcases h.cases with ⟨rfl, rfl⟩ | ⟨g, c1, cur, rfl, hB1, hlt, hg, hlc, hcm, hs1, ht⟩
    · by_cases h0 : l2.length = 0
      · have hl2 := List.eq_nil_of_length_eq_zero h0
        subst hl2
        have hr2 : (Builtin.append_ #[s, s] ty #[.slice none 0 0, .slice (some ad) 0 c]).run P w = .ok (.slice none 0 0) w := by
          simp [Builtin.append_, run_underlying k.und, sizeOf, typeInfo, hi, Builtin.lenOf, Builtin.firstCells, loadCells, loadCellsFrom]
        have e := hr.symm.trans hr2
        cases e
        exact ⟨fun g hg => Or.inl hg, fun _ _ => rfl⟩
      · have hr2 := run_append_nil (P := P) w s ty R.t i z k.und hi hz0 ad l2.length c (R.all l2) (by rw [hz1]; exact R.all_len l2) (hs.news ad rfl) (by omega) (by unfold maxLen at hm; simp at hm; omega) (by rw [hz2]; simp at hb; omega)
        have e := hr.symm.trans hr2
        cases e
        refine ⟨fun g hg => ?_, fun _ h => absurd (by rw [h]; rfl) h0⟩
        simp [Value.ownBlock] at hg
        omega
    · by_cases hroom : l1.length + l2.length ≤ c1
      · have hr2 := run_append_room (P := P) w s ty R.t i k.und hi g l1.length c1 cur hg ad l2.length c (R.all l2) (by rw [hz1]; exact R.all_len l2) (hs.news ad rfl) (R.all_oneCell l2) hroom (by rw [hz1, R.all_len, hs1, ← Nat.add_mul]; exact Nat.mul_le_mul_right _ hroom)
        have e := hr.symm.trans hr2
        cases e
        exact ⟨fun g hg => Or.inl hg, fun h => by cases h⟩
      · have hr2 := run_append_grow (P := P) w s ty R.t i z k.und hi hz0 ⟨g, 0, none⟩ l1.length c1 (R.all l1) (by rw [hz1]; exact R.all_len l1) (World.ownsRow.cells (g := g) h rfl) ad l2.length c (R.all l2) (by rw [hz1]; exact R.all_len l2) (hs.news ad rfl) (by omega) (by unfold maxLen at hm; omega) (by rw [hz2]; exact growslice_fits (by omega) hb)
        have e := hr.symm.trans hr2
        cases e
        refine ⟨fun g hg => ?_, fun h => by cases h⟩
        simp [Value.ownBlock] at hg
        omega
theorem wp_app' (k : Kin P R s) {o : Oper} {a : Act} {w : World} {K : Act → World → Prop} {Q : Exit → Act → World → Prop} (x y : Operand) (ho : o.op = .call { callee := .builtin .append, args := #[x, y], argTypes := #[s, s] })
    (B : Nat) (v : Value) (l1 l2 : List α) (hv : a.eval x = v) (h : Row R B w v l1) (ao : Option Addr) (n c : Nat) (hy : a.eval y = .slice ao n c) (hn : n = l2.length) (hs : Seen R w ao c l2) (hm : l1.length + l2.length ≤ maxLen) (hb : (l1.length + l2.length) * R.bytes ≤ 140737488355328) (hB : B ≤ w.heap.size)
    (hK : ∀ v' w', Row R B w' v' (l1 ++ l2) → w.grownBy w' v.ownBlock → (∀ g, v'.ownBlock = some g → v.ownBlock = some g ∨ w.heap.size ≤ g) → (v = .slice none 0 0 → l2 = [] → v' = .slice none 0 0) → K (a.put o.dst v') w') : Oper.wp P o a w K Q := by
  subst hn
  obtain ⟨v', w', hr, h2, h3, h4, h5⟩ := run_app' k w o.type B v l1 l2 h ao c hs hm hb hB
  unfold Oper.wp execOp
  simp only [ho, resolve, invoke, builtin, Sem.run_bind, Sem.run_pure, Result.andThen_ok, List.map_toArray, List.map_cons, List.map_nil, hv, hy, hr]
  exact hK v' w' h2 h3 h4 h5
theorem step_app' (k : Kin P R s) {ops : Array Oper} {o : Oper} {a : Act} {w : World} {K : Act → World → Prop} {Q : Exit → Act → World → Prop} {E : Prop} (hg : o.guard = none) (x y : Operand) (ho : o.op = .call { callee := .builtin .append, args := #[x, y], argTypes := #[s, s] })
    (B : Nat) (v : Value) (l1 l2 : List α) (hv : a.eval x = v) (h : Row R B w v l1) (ao : Option Addr) (n c : Nat) (hy : a.eval y = .slice ao n c) (hn : n = l2.length) (hs : Seen R w ao c l2) (hm : l1.length + l2.length ≤ maxLen) (hb : (l1.length + l2.length) * R.bytes ≤ 140737488355328) (hB : B ≤ w.heap.size)
    (hK : ∀ v' w', Row R B w' v' (l1 ++ l2) → w.grownBy w' v.ownBlock → (∀ g, v'.ownBlock = some g → v.ownBlock = some g ∨ w.heap.size ≤ g) → (v = .slice none 0 0 → l2 = [] → v' = .slice none 0 0) → K (a.put o.dst v') w') : if Region.wanted o (yielded ops a.tmps) = true then Oper.wp P o a w K Q else E := by
  rw [if_pos (show Region.wanted o (yielded ops a.tmps) = true by simp [Region.wanted, hg])]
  exact wp_app' k x y ho B v l1 l2 hv h ao n c hy hn hs hm hb hB hK
theorem list_app' (k : Kin P R s) {ops : Array Oper} {rest : List Oper} {o : Oper} {a : Act} {w : World} {Q : Exit → Act → World → Prop} (hg : o.guard = none) (x y : Operand) (ho : o.op = .call { callee := .builtin .append, args := #[x, y], argTypes := #[s, s] })
    (B : Nat) (v : Value) (l1 l2 : List α) (hv : a.eval x = v) (h : Row R B w v l1) (ao : Option Addr) (n c : Nat) (hy : a.eval y = .slice ao n c) (hn : n = l2.length) (hs : Seen R w ao c l2) (hm : l1.length + l2.length ≤ maxLen) (hb : (l1.length + l2.length) * R.bytes ≤ 140737488355328) (hB : B ≤ w.heap.size)
    (hK : ∀ v' w', Row R B w' v' (l1 ++ l2) → w.grownBy w' v.ownBlock → (∀ g, v'.ownBlock = some g → v.ownBlock = some g ∨ w.heap.size ≤ g) → (v = .slice none 0 0 → l2 = [] → v' = .slice none 0 0) → wpList P ops Q rest (a.put o.dst v') w') : wpList P ops Q (o :: rest) a w :=
  wpList_plain hg fun _ hK' => wp_app' k x y ho B v l1 l2 hv h ao n c hy hn hs hm hb hB fun v' w' h2 h3 h4 h5 => hK' _ _ (hK v' w' h2 h3 h4 h5)
/-- 'append(s[:i], xs...)' of nothing. -/
theorem run_app0 (k : Kin P R s) (w : World) (ty : TypeId) (g i c : Nat) (hic : i ≤ c) : (Builtin.append_ #[s, s] ty #[.slice (some ⟨g, 0, none⟩) i c, .slice none 0 0]).run P w = .ok (.slice (some ⟨g, 0, none⟩) i c) w := by
  obtain ⟨i0, z, hi, hz0, hz1, hz2, hzs⟩ := k.inf
  have h0 := run_storeCells_cells (P := P) g (0 + i * i0.size) [] 0 w (by simp) (by simp) (by simp)
  simp only [Nat.add_zero] at h0
  rw [← Addr.add_lit] at h0
  simp [Builtin.append_, run_underlying k.und, sizeOf, typeInfo, hi, Builtin.lenOf, Builtin.firstCells, hic, h0, World.setCells]
/-- The head of a row. -/
theorem Row.head {B : Nat} {w : World} {g n c : Nat} {l : List α} (h : Row R B w (.slice (some ⟨g, 0, none⟩) n c) l) (i : Nat) (hi : i ≤ l.length) : Row R B w (.slice (some ⟨g, 0, none⟩) i c) (l.take i) := by
  obtain ⟨rfl, hB, hlt, cur, hg, hlc, hcm, hs, hc⟩ := h.cur
  have hl : (l.take i).length = i := by simp; omega
  have := Row.of_cells (R := R) (B := B) (l' := l.take i) (c := c) hB hg (by omega) hcm hs (fun k hk j hj => by
    have e2 : (l.take i).getD k R.zero = l.getD k R.zero := by simp only [List.getD_eq_getElem?_getD]; rw [List.getElem?_take_of_lt (by omega)]
    rw [e2]
    exact hc k (by omega) j hj)
  rwa [hl] at this
end
end Go.Proofs.YtmmbfgkfidconaaDoor
/- slices.Clone and slices.Delete over rows of one kind of record. -/
namespace Go.Proofs.YtmmbfgkfidconaaDoor
open Go.RowKit

theorem heap_alloc2_rB (w : World) (o : Obj) : (w.alloc o).heap.size = w.heap.size + 1 := by simp

/-- What Clone tells: a row of its own. -/
def ClonePrB (w : World) (l : List Bk) (e : Ending) (w' : World) : Prop := ∃ v', e = .returned v' ∧ Row rB w.heap.size w' v' l ∧ Below w.heap.size w w'
set_option maxRecDepth 100000 in
set_option maxHeartbeats 2000000 in
theorem clone_rB {B : Nat} {w : World} {v : Value} {l : List Bk} (hown : Row rB B w v l) (hm : l.length ≤ 4096) :
    Calls Tryd.prog 56 #[v] w (ClonePrB w l) := by
  have q22 : ∀ (w : World) (a : Option Addr) (n c n' c' : Nat), (binOp .eql 53 (.slice a n c) (.slice none n' c')).run Tryd.prog w = .ok (.bool a.isNone) w := fun w a n c n' c' => Lib.run_eql_slice_nil w _ _ a n c n' c' Tryd.underlying53
  rcases hown.cases with ⟨rfl, rfl⟩ | ⟨g, c, cur, rfl, hB, hg0, hg, hlc, hcm, hs, hh⟩
  · go_enter Tryd.func56, Tryd.ntmps56
    go_wp2
    go_ret
    exact ⟨_, rfl, Row.nil _ _ _, Below.refl _ _⟩
  · have hcm' : c ≤ 9223372036854775807 := by unfold maxLen at hcm; omega
    have HS : Hid (Seen rB (w.alloc (.cells #[] 56)) (some ⟨g, 0, none⟩) c l) := hown.seen.2.below ((Below.refl _ _).alloc (Nat.le_refl _) _)
    have HR0 : Hid (Row rB w.heap.size (w.alloc (.cells #[] 56)) (.slice (some ⟨w.heap.size, 0, none⟩) 0 0) []) := World.ownsRow_made w #[] 0 (Nat.le_refl _) (Nat.zero_le _) (by simp)
    clear hown hh hs hcm hB
    go_enter Tryd.func56, Tryd.ntmps56
    go_wp2_with (at_builtin; refine list_app rB.kin rfl _ _ rfl w.heap.size _ [] l rfl HR0.out (some ⟨g, 0, none⟩) l.length c rfl rfl HS.out ?c3 ?c4 ?c5 ?_)
    case c3 => simp [maxLen]; omega
    case c4 => simp [rB]; omega
    case c5 => simp
    intro v' w1 ho hgrow
    have HO : Hid (Row rB w.heap.size w1 v' l) := ho
    clear ho
    go_wp2
    go_ret
    exact ⟨v', rfl, HO.out, ((Below.refl _ w).alloc (Nat.le_refl _) _).grown hgrow (by simp) (by intro k hk; simp [Value.ownBlock] at hk; omega)⟩

/-- What Delete, Insert and Replace tell: the row that was, turned, or a new one. -/
def TurnPrB (w : World) (B : Nat) (v : Value) (l : List Bk) (e : Ending) (w' : World) : Prop := ∃ v', e = .returned v' ∧ Row rB B w' v' l ∧ Keeps w w' (fun b => v.ownBlock = some b) ∧ ∀ g, v'.ownBlock = some g → v.ownBlock = some g ∨ w.heap.size ≤ g
/-- What Delete tells, to the block. -/
def DelPrB (w : World) (B g c : Nat) (l : List Bk) (e : Ending) (w' : World) : Prop := e = .returned (.slice (some ⟨g, 0, none⟩) l.length c) ∧ Row rB B w' (.slice (some ⟨g, 0, none⟩) l.length c) l ∧ Keeps w w' (fun b => b = g)
theorem keeps_own {w w' : World} {g n c : Nat} (h : Keeps w w' (fun b => b = g)) : Keeps w w' (fun b => (Value.slice (some ⟨g, 0, none⟩) n c).ownBlock = some b) := h.mono fun b _ e => by
  subst e
  rfl
theorem keeps_drew {w w' : World} {s : Nat → Prop} (h : Keeps w.drew w' s) : Keeps w w' s := ⟨h.os, h.tape, h.output, h.size, h.block⟩

set_option maxRecDepth 100000 in
set_option maxHeartbeats 4000000 in
theorem deleteI_rB {B : Nat} {w : World} {g c : Nat} {l : List Bk} (hown : Row rB B w (.slice (some ⟨g, 0, none⟩) l.length c) l) (i : Nat) (hi : i < l.length) :
    Calls Tryd.prog 64 #[.slice (some ⟨g, 0, none⟩) l.length c, .int .i64 i, .int .i64 ((i + 1 : Nat) : Int)] w (DelPrB w B g c (l.take i ++ l.drop (i + 1))) := by
  obtain ⟨i0, z0, hi0, hz0, hz1, hz2, hzs⟩ := rB.kin.inf
  obtain ⟨_, hB, hlt, cur, hg, hlc, hcm, hs, hc⟩ := hown.cur
  have hcm' : c ≤ 9223372036854775807 := by unfold maxLen at hcm; omega
  obtain ⟨news, hnews⟩ : ∃ news, news = rB.all (l.drop (i + 1)) := ⟨_, rfl⟩
  have hlen : news.length = (l.length - (i + 1)) * 2 := by rw [hnews, Rec.all_len, List.length_drop]; rfl
  have hnw := hown.news (i + 1)
  rw [← hnews] at hnw
  simp only [show rB.n = 2 from rfl] at hnw
  obtain ⟨A, hA, hsrc⟩ : ∃ A : Addr, (if c = i + 1 then some (⟨g, 0, none⟩ : Addr) else some ⟨g, (i + 1) * 2, none⟩) = some A ∧ Hid (∀ t u, news[t]? = some u → w.drew.cell? (A.add t) = some u) := by
    by_cases h : c = i + 1
    · refine ⟨⟨g, 0, none⟩, by simp [h], fun t u hu => ?_⟩
      have h0 : news.length = 0 := by rw [hlen]; omega
      rw [List.length_eq_zero_iff.1 h0] at hu
      simp at hu
    · refine ⟨⟨g, (i + 1) * 2, none⟩, by simp [h], fun t u hu => ?_⟩
      rw [Addr.add_lit]
      exact hnw t u hu
  have s1 : Hid (news.length = (l.length - (i + 1)) * 2) := hlen
  have s2 : Hid (∀ u ∈ news, u.oneCell' = true) := by rw [hnews]; exact rB.all_oneCell _
  have s3 : Hid (∀ t, t < news.length → (w.drew.cell? ⟨g, 0 + i * 2 + t, none⟩).isSome = true ∧ w.drew.frozen? ⟨g, 0 + i * 2 + t, none⟩ = false) := by
    intro t ht
    rw [hlen] at ht
    exact hown.spare (0 + i * 2 + t) (by show _ < c * 2; omega)
  obtain ⟨W1, hW1⟩ : ∃ W1, W1 = w.drew.setCells g (0 + i * 2) news := ⟨_, rfl⟩
  have hk1 : Keeps w W1 (fun b => b = g) := by rw [hW1]; exact keeps_drew (Keeps.sets news w.drew g _)
  have hr1 : Row rB B W1 (.slice (some ⟨g, 0, none⟩) (i + (l.length - (i + 1))) c) (l.take i ++ l.drop (i + 1)) := by
    have h1 : Row rB B w.drew (.slice (some ⟨g, 0, none⟩) l.length c) l := hown.below (Below.refl _ _).drew
    have h2 := h1.repl i (i + 1) [] (by omega) (by simp; omega) (nn := i + (l.length - (i + 1))) (by simp)
    rw [hW1, hnews, Nat.zero_add]
    simpa [Rec.all, World.setCells, show rB.n = 2 from rfl] using h2
  have hle : (l.take i ++ l.drop (i + 1)).length = i + (l.length - (i + 1)) := by simp; omega
  obtain ⟨vs, hvl, hcl⟩ := run_clearR rB.kin rB.zone W1 g ((i + (l.length - (i + 1))) * 2) (l.length - (i + (l.length - (i + 1)))) (c - (i + (l.length - (i + 1)))) (fun j hj => (hr1.spare _ (by
    have hj' : j < (l.length - (i + (l.length - (i + 1)))) * 2 := hj
    show _ < c * 2
    omega)).1) (fun j => hr1.frozen j)
  have X : Hid (DelPrB w B g c (l.take i ++ l.drop (i + 1)) (.returned (.slice (some ⟨g, 0, none⟩) (i + (l.length - (i + 1))) c)) (W1.setCells g ((i + (l.length - (i + 1))) * 2) vs)) := by
    refine ⟨by rw [hle], ?_, hk1.trans (Keeps.sets vs W1 g _) fun _ _ h => h⟩
    rw [hle]
    exact hr1.tail _ vs (by rw [hle]; exact Nat.le_refl _)
  have hW : Hid (W1 = w.drew.setCells g (0 + i * 2) news) := hW1
  clear hW1 hg hs hc hown hnews hlen hB hvl hr1 hk1 hnw hle hlt
  have hic : i ≤ c := by omega
  have hjc : i + 1 ≤ c := by omega
  have q1 : (0 : Int) ≤ (i : Int) + 1 ∧ (i : Int) + 1 ≤ (l.length : Int) := by omega
  go_enter Tryd.func64, Tryd.ntmps64
  go_wp2_with fail
  go_region_law (refine step_append_room rfl (.tmp 22) (.tmp 25) 53 rfl 56 i0 2 Tryd.underlying53 hi0 hz1 g 0 i c (by simp [Act.eval, Act.put]) A (l.length - (i + 1)) (c - (i + 1)) news (by simp [Act.eval, Act.put]) s1.out hsrc.out s2.out (by omega) s3.out ?_; rw [← hW.out])
  go_wp2
  go_ret
  exact X.out
theorem delete_rB {B : Nat} {w : World} {g c : Nat} {l : List Bk} (hown : Row rB B w (.slice (some ⟨g, 0, none⟩) l.length c) l) (i : Nat) (hi : i < l.length) :
    Calls Tryd.prog 64 #[.slice (some ⟨g, 0, none⟩) l.length c, .int .i64 i, .int .i64 ((i + 1 : Nat) : Int)] w (TurnPrB w B (.slice (some ⟨g, 0, none⟩) l.length c) (l.take i ++ l.drop (i + 1))) :=
  (deleteI_rB hown i hi).mono fun _ _ h => ⟨_, h.1, h.2.1, keeps_own h.2.2, fun _ hg' => Or.inl hg'⟩
end Go.Proofs.YtmmbfgkfidconaaDoor
/- slices.Insert over rows of one kind of record. -/
namespace Go.Proofs.YtmmbfgkfidconaaDoor
open Go.RowKit

set_option maxRecDepth 100000 in
set_option maxHeartbeats 4000000 in
/-- At the end. -/
theorem insertE_rB {B : Nat} {w : World} {v : Value} {q cq : Nat} {l M : List Bk} (hown : Row rB B w v l) (hsrc : Row rB 0 w (.slice (some ⟨q, 0, none⟩) M.length cq) M) (hM : 0 < M.length) (hm : l.length + M.length ≤ 4096) (hB : B ≤ w.heap.size) :
    Calls Tryd.prog 55 #[v, .int .i64 l.length, .slice (some ⟨q, 0, none⟩) M.length cq] w (TurnPrB w B v (l ++ M)) := by
  have hz1 : ¬ ((M.length : Int) = 0) := by omega
  have HS : Hid (Seen rB w (some ⟨q, 0, none⟩) cq M) := hsrc.seen.2
  have HO : Hid (Row rB B w v l) := hown
  have hcase : (v = .slice none 0 0 ∧ l.length = 0) ∨ ∃ g c, v = .slice (some ⟨g, 0, none⟩) l.length c ∧ l.length ≤ c ∧ c ≤ 9223372036854775807 := by
    rcases hown.cases with ⟨rfl, rfl⟩ | ⟨g, c, cur, rfl, _, _, _, h1, h2, _⟩
    · exact Or.inl ⟨rfl, rfl⟩
    · exact Or.inr ⟨g, c, rfl, h1, by unfold maxLen at h2; omega⟩
  clear hown hsrc
  rcases hcase with ⟨rfl, h0⟩ | ⟨g, c, rfl, hlc, hcm⟩
  · rw [h0]
    go_enter Tryd.func55, Tryd.ntmps55
    go_wp2_with (at_builtin; refine list_app' rB.kin rfl _ _ rfl B _ l M rfl HO.out (some ⟨q, 0, none⟩) M.length cq rfl rfl HS.out ?c3 ?c4 hB ?_)
    case c3 => unfold maxLen; omega
    case c4 => show _ * 16 ≤ _; omega
    intro v' w1 ho hgrow hw _
    have HR : Hid (Row rB B w1 v' (l ++ M)) := ho
    have HG : Hid (w.grownBy w1 (Value.slice none 0 0).ownBlock) := hgrow
    have HW : Hid (∀ g, v'.ownBlock = some g → _ ∨ w.heap.size ≤ g) := hw
    clear ho hgrow hw
    go_wp2
    go_ret
    refine ⟨v', rfl, HR.out, (Keeps.of_grown HG.out).mono fun _ _ e => e.symm ▸ rfl, HW.out⟩
  · obtain ⟨A, hA⟩ : ∃ A : Addr, (if c = l.length then some (⟨g, 0, none⟩ : Addr) else some ⟨g, l.length * 2, none⟩) = some A := by
      split
      · exact ⟨_, rfl⟩
      · exact ⟨_, rfl⟩
    go_enter Tryd.func55, Tryd.ntmps55
    go_wp2_with (at_builtin; refine list_app' rB.kin rfl _ _ rfl B _ l M rfl HO.out (some ⟨q, 0, none⟩) M.length cq rfl rfl HS.out ?c3 ?c4 hB ?_)
    case c3 => unfold maxLen; omega
    case c4 => show _ * 16 ≤ _; omega
    intro v' w1 ho hgrow hw
    have HR : Hid (Row rB B w1 v' (l ++ M)) := ho
    have HG : Hid (w.grownBy w1 (Value.slice (some ⟨g, 0, none⟩) l.length c).ownBlock) := hgrow
    have HW : Hid (∀ g, v'.ownBlock = some g → _ ∨ w.heap.size ≤ g) := hw
    clear ho hgrow hw
    go_wp2
    go_ret
    refine ⟨v', rfl, HR.out, (Keeps.of_grown HG.out).mono fun _ _ e => e.symm ▸ rfl, HW.out⟩

theorem info_rB : (Tryd.prog.info? 56).map (fun i => i.size) = some 2 := by kernel_rfl

set_option maxRecDepth 100000 in
set_option maxHeartbeats 4000000 in
/-- No room: a new row. -/
theorem insertN_rB {B : Nat} {w : World} {g c q cq : Nat} {l M : List Bk} (hown : Row rB B w (.slice (some ⟨g, 0, none⟩) l.length c) l) (hsrc : Row rB 0 w (.slice (some ⟨q, 0, none⟩) M.length cq) M) (hM : 0 < M.length) (hm : l.length + M.length ≤ 4096) (hB : B ≤ w.heap.size)
    (i : Nat) (hi : i < l.length) (hroom : c < l.length + M.length) :
    Calls Tryd.prog 55 #[.slice (some ⟨g, 0, none⟩) l.length c, .int .i64 i, .slice (some ⟨q, 0, none⟩) M.length cq] w (TurnPrB w B (.slice (some ⟨g, 0, none⟩) l.length c) (l.take i ++ (M ++ l.drop i))) := by
  obtain ⟨_, _, hlt, cur0, hg0, hlc, hcm, hs0, hc0⟩ := hown.cur
  obtain ⟨_, _, hltq, _⟩ := hsrc.cur
  have hz1 : ¬ ((M.length : Int) = 0) := by omega
  have hz2 : ¬ ((i : Int) = (l.length : Int)) := by omega
  have hic : i ≤ c := by omega
  have hcm' : c ≤ 9223372036854775807 := by unfold maxLen at hcm; omega
  have hci : ¬ (c = i) := by omega
  obtain ⟨k, hk⟩ : ∃ k, k = l.length + M.length - i := ⟨_, rfl⟩
  obtain ⟨G, cur, hG1, hG2, hcs, hold, hz⟩ := run_zerosR rB.kin 3 Tryd.underlying3 w g i c k (l.take i) (by simp; omega) (by omega) (by omega) (by show _ * 16 ≤ _; omega) (by unfold maxLen; omega) (fun j u hj => by
    have h0 := hown.news 0
    rw [List.drop_zero] at h0
    have h1 := h0 j u (by
      rw [← List.take_append_drop i l, Rec.all_append, List.getElem?_append_left (List.getElem?_eq_some_iff.1 hj).1]
      exact hj)
    simpa using h1)
  obtain ⟨W1, hW1⟩ : ∃ W1, W1 = w.drew.alloc (.cells cur rB.t (0, 0)) := ⟨_, rfl⟩
  have hb1 : Below w.heap.size w W1 := by rw [hW1]; exact (Below.refl _ _).drew.alloc (Nat.le_refl _) _
  have hg1 : W1.heap[w.heap.size]? = some (.cells cur rB.t (0, 0)) := by rw [hW1]; exact heap_alloc_new w.drew _
  have hkz : ((k : Nat) : Int) = (l.length : Int) + (M.length : Int) - (i : Int) := by omega
  obtain ⟨T, hT⟩ : ∃ T, T = i + k := ⟨_, rfl⟩
  rw [hkz] at hz
  rw [← hT, ← hW1] at hz
  have hcp1 : ∀ dc ty, (Builtin.copy_ #[53, 53] ty #[.slice (some ⟨w.heap.size, i * 2, none⟩) (T - i) dc, .slice (some ⟨q, 0, none⟩) M.length cq]).run Tryd.prog W1 = .ok (goInt M.length) (W1.setCells w.heap.size (i * 2) (rB.all M)) := fun dc ty =>
    copy_row rB.kin M (by simp only [Nat.min_def]; split <;> omega) (fun j hj => blk_spare hg1 (by have hj' : j < M.length * 2 := hj; have hcs' : cur.size = G * 2 := hcs; omega)) (fun j u hj => by
      have := (hsrc.below hb1).news 0 j u (by simpa using hj)
      simpa using this) ty
  obtain ⟨W2, hW2⟩ : ∃ W2, W2 = W1.setCells w.heap.size (i * 2) (rB.all M) := ⟨_, rfl⟩
  have hg2 : W2.heap[w.heap.size]? = some (.cells (wrs cur (i * 2) (rB.all M)) rB.t (0, 0)) := by rw [hW2]; exact heap_sets _ W1 _ _ cur _ hg1
  have hk2 : Keeps W1 W2 (fun b => b = w.heap.size) := by rw [hW2]; exact Keeps.sets _ _ _ _
  have hr2 : Row rB B W2 (.slice (some ⟨g, 0, none⟩) l.length c) l := hk2.row (hown.below hb1) (fun g' hg' e => by simp [Value.ownBlock] at hg'; omega)
  have hcp2 : ∀ dc sc ty, (Builtin.copy_ #[53, 53] ty #[.slice (some ⟨w.heap.size, (i + M.length) * 2, none⟩) (T - (i + M.length)) dc, .slice (some ⟨g, i * 2, none⟩) (l.length - i) sc]).run Tryd.prog W2.drew = .ok (goInt (l.drop i).length) (W2.drew.setCells w.heap.size ((i + M.length) * 2) (rB.all (l.drop i))) := fun dc sc ty =>
    copy_row rB.kin (l.drop i) (by simp only [Nat.min_def, List.length_drop]; split <;> omega) (fun j hj => blk_spare (w := W2.drew) hg2 (by have hj' : j < (l.drop i).length * 2 := hj; have hcs' : cur.size = G * 2 := hcs; rw [List.length_drop] at hj'; rw [wrs_size]; omega)) (fun j u hj => hr2.news i j u hj) ty
  have X : Hid (TurnPrB w B (.slice (some ⟨g, 0, none⟩) l.length c) (l.take i ++ (M ++ l.drop i)) (.returned (.slice (some ⟨w.heap.size, 0, none⟩) T G)) (W2.drew.setCells w.heap.size ((i + M.length) * 2) (rB.all (l.drop i)))) := by
    refine ⟨_, rfl, ?_, ?_, fun g' hg' => Or.inr (by simp [Value.ownBlock] at hg'; omega)⟩
    · have h1 := Row.fresh (R := rB) (l := l) (w := W1) (j := i) hB hg1 hG2 hcs i M (by omega) (by omega) hold (nn := T) (by omega)
      rw [show rB.n = 2 from rfl, ← hW2] at h1
      refine h1.same fun g' hg' => ?_
      simp [Value.ownBlock] at hg'
      subst hg'
      have a1 := heap_sets (rB.all (l.drop i)) W2 w.heap.size ((i + M.length) * 2) _ _ hg2
      have a2 := heap_sets (rB.all (l.drop i)) W2.drew w.heap.size ((i + M.length) * 2) _ _ hg2
      exact a2.trans a1.symm
    · have k3 : Keeps W1 (W2.drew.setCells w.heap.size ((i + M.length) * 2) (rB.all (l.drop i))) (fun b => b = w.heap.size) := hk2.trans (keeps_drew (Keeps.sets _ W2.drew _ _)) fun _ _ h => h
      exact Keeps.of_below (hb1.trans (k3.below (by rw [hW1]; simp) fun b _ e => by omega)) _
  have hcp1' : Hid (∀ dc ty, (Builtin.copy_ #[53, 53] ty #[.slice (some ⟨w.heap.size, i * 2, none⟩) (T - i) dc, .slice (some ⟨q, 0, none⟩) M.length cq]).run Tryd.prog W1 = .ok (goInt M.length) W2) := by rw [hW2]; exact hcp1
  have hcp2' : Hid (∀ dc sc ty, (Builtin.copy_ #[53, 53] ty #[.slice (some ⟨w.heap.size, (i + M.length) * 2, none⟩) (T - (i + M.length)) dc, .slice (some ⟨g, i * 2, none⟩) (l.length - i) sc]).run Tryd.prog W2.drew = .ok (goInt (l.drop i).length) (W2.drew.setCells w.heap.size ((i + M.length) * 2) (rB.all (l.drop i)))) := hcp2
  have hZ : Hid (∀ ty, (Builtin.append_ #[53, 3] ty #[.slice (some ⟨g, 0, none⟩) i c, .int .i64 ((l.length : Int) + (M.length : Int) - (i : Int))]).run Tryd.prog w = .ok (.slice (some ⟨w.heap.size, 0, none⟩) T G) W1) := hz
  have hq1 : ¬ (G = i) := by omega
  have hq2 : ¬ (G = i + M.length) := by omega
  have hq3 : i + M.length ≤ G := by omega
  have hq4 : i ≤ T := by omega
  have hq5 : i + M.length ≤ T := by omega
  have hq6 : T ≤ G := by omega
  have hw1 : IntKind.i64.wrap ((i : Int) + (M.length : Int)) = (i : Int) + (M.length : Int) := by rw [IntKind.wrap_i64]; omega
  have hb1' : (0 : Int) ≤ (i : Int) + (M.length : Int) := by omega
  have hb2' : (i : Int) + (M.length : Int) ≤ (T : Int) := by omega
  have hb3' : (i : Int) ≤ (l.length : Int) := by omega
  have htn : ((i : Int) + (M.length : Int)).toNat = i + M.length := by omega
  have hG3 : G ≤ 9223372036854775807 := by unfold maxLen at hG2; omega
  clear hk hkz hT hcp1 hcp2 hz hW1 hW2 hg1 hg2 hk2 hr2 hb1 hown hsrc hc0 hg0 hs0 hold hcs hG2 hcm hlt hltq
  go_enter Tryd.func55, Tryd.ntmps55
  go_wp2_with (first | (at_builtin; refine Lib.wpList_append_run _ rfl _ _ _ _ rfl _ _ rfl rfl _ _ (hZ.out _) ?_) | (refine list_copyR _ rfl _ _ rfl _ _ rfl rfl (hcp1'.out _) ?_))
  go_region_law (refine step_copyR rfl _ _ rfl (.slice (some ⟨w.heap.size, (i + M.length) * 2, none⟩) (T - (i + M.length)) (G - (i + M.length))) (.slice (some ⟨g, i * 2, none⟩) (l.length - i) (c - i)) (by simp [Act.eval, Act.put]) (by simp [Act.eval, Act.put]) (hcp2'.out _ _) ?_)
  go_wp2
  go_ret
  exact X.out

set_option maxRecDepth 100000 in
set_option maxHeartbeats 4000000 in
/-- There is room: in place. -/
theorem insertR_rB {B : Nat} {w : World} {g c q cq : Nat} {l M : List Bk} (hown : Row rB B w (.slice (some ⟨g, 0, none⟩) l.length c) l) (hsrc : Row rB 0 w (.slice (some ⟨q, 0, none⟩) M.length cq) M) (hqg : q ≠ g) (hM : 0 < M.length) (hm : l.length + M.length ≤ 4096)
    (i : Nat) (hi : i < l.length) (hroom : l.length + M.length ≤ c) :
    Calls Tryd.prog 55 #[.slice (some ⟨g, 0, none⟩) l.length c, .int .i64 i, .slice (some ⟨q, 0, none⟩) M.length cq] w (TurnPrB w B (.slice (some ⟨g, 0, none⟩) l.length c) (l.take i ++ (M ++ l.drop i))) := by
  obtain ⟨_, _, hlt, cur0, hg0, hlc, hcm, hs0, hc0⟩ := hown.cur
  obtain ⟨_, _, hltq, _⟩ := hsrc.cur
  have hz1 : ¬ ((M.length : Int) = 0) := by omega
  have hz2 : ¬ ((i : Int) = (l.length : Int)) := by omega
  have hcm' : c ≤ 9223372036854775807 := by unfold maxLen at hcm; omega
  have hci : ¬ (c = i) := by omega
  obtain ⟨kA, hsa⟩ := hsrc.shape (by omega)
  obtain ⟨kB, hsb⟩ := hown.shape (by omega)
  have hsz : ∀ w, (sizeOf 56).run Tryd.prog w = .ok 2 w := fun w => by
    obtain ⟨i0, z0, hi0, hz0, hz1, _⟩ := rB.kin.inf
    have hi0' : Tryd.prog.info? 56 = some i0 := hi0
    have hz1' : i0.size = 2 := hz1
    simp [sizeOf, typeInfo, hi0', hz1']
  have hov : ∀ lb cb, (callFunc 65 #[.slice (some ⟨q, 0, none⟩) M.length cq, .slice (some ⟨g, (i + M.length) * 2, none⟩) lb cb]).run Tryd.prog w = .ok (.value (.bool false)) w := fun lb cb => by
    rw [run_callFunc_extern Tryd.func65 (by kernel_rfl) (by kernel_rfl) (by kernel_rfl) (e := Extern.SlicesOverlaps.overlaps #[53, 53] #[4]) (by kernel_rfl),
      Lib.run_overlaps_apart w 53 4 56 Tryd.underlying53 2 hsz ⟨q, 0, none⟩ ⟨g, (i + M.length) * 2, none⟩ M.length cq lb cb hqg _ _ _ _ hsa hsb (by omega) (hsrc.frozen 0) (hsrc.frozen _)]
    rfl
  obtain ⟨W1, hW1⟩ : ∃ W1, W1 = w.drew.setCells g ((i + M.length) * 2) (rB.all (l.drop i)) := ⟨_, rfl⟩
  have hcp1 : ∀ dc sc ty, (Builtin.copy_ #[53, 53] ty #[.slice (some ⟨g, (i + M.length) * 2, none⟩) (l.length + M.length - (i + M.length)) dc, .slice (some ⟨g, i * 2, none⟩) (l.length + M.length - i) sc]).run Tryd.prog w.drew = .ok (goInt (l.drop i).length) W1 := fun dc sc ty => by
    rw [hW1]
    exact copy_row (W := w.drew) rB.kin (l.drop i) (by simp only [Nat.min_def, List.length_drop]; split <;> omega) (fun j hj => (hown.below (Below.refl _ _).drew).spare ((i + M.length) * 2 + j) (by have hj' : j < (l.drop i).length * 2 := hj; rw [List.length_drop] at hj'; show _ < c * 2; omega)) (fun j u hj => hown.news i j u hj) ty
  have hk1 : Keeps w W1 (fun b => b = g) := by rw [hW1]; exact keeps_drew (Keeps.sets _ _ _ _)
  have hg1 : W1.heap[g]? = some (.cells (wrs cur0 ((i + M.length) * 2) (rB.all (l.drop i))) rB.t (0, 0)) := by rw [hW1]; exact heap_sets _ w.drew _ _ cur0 _ hg0
  have hcp2 : ∀ dc ty, (Builtin.copy_ #[53, 53] ty #[.slice (some ⟨g, i * 2, none⟩) (l.length + M.length - i) dc, .slice (some ⟨q, 0, none⟩) M.length cq]).run Tryd.prog W1 = .ok (goInt M.length) (W1.setCells g (i * 2) (rB.all M)) := fun dc ty =>
    copy_row rB.kin M (by simp only [Nat.min_def]; split <;> omega) (fun j hj => blk_spare hg1 (by have hj' : j < M.length * 2 := hj; have hcs' : cur0.size = c * 2 := hs0; rw [wrs_size]; omega)) (fun j u hj => by
      have := (hk1.row hsrc (fun g' hg' e => by simp [Value.ownBlock] at hg'; omega)).news 0 j u (by simpa using hj)
      simpa using this) ty
  have X : Hid (TurnPrB w B (.slice (some ⟨g, 0, none⟩) l.length c) (l.take i ++ (M ++ l.drop i)) (.returned (.slice (some ⟨g, 0, none⟩) (l.length + M.length) c)) (W1.setCells g (i * 2) (rB.all M))) := by
    refine ⟨_, rfl, ?_, keeps_own (hk1.trans (Keeps.sets _ W1 _ _) fun _ _ h => h), fun g' hg' => Or.inl hg'⟩
    rw [hW1]
    exact Row.repl (R := rB) (w := w.drew) (hown.below (Below.refl _ _).drew) i i M (by omega) (by omega) (by omega)
  have hcp1' : Hid (∀ dc sc ty, (Builtin.copy_ #[53, 53] ty #[.slice (some ⟨g, (i + M.length) * 2, none⟩) (l.length + M.length - (i + M.length)) dc, .slice (some ⟨g, i * 2, none⟩) (l.length + M.length - i) sc]).run Tryd.prog w.drew = .ok (goInt (l.drop i).length) W1) := hcp1
  have hcp2' : Hid (∀ dc ty, (Builtin.copy_ #[53, 53] ty #[.slice (some ⟨g, i * 2, none⟩) (l.length + M.length - i) dc, .slice (some ⟨q, 0, none⟩) M.length cq]).run Tryd.prog W1 = .ok (goInt M.length) (W1.setCells g (i * 2) (rB.all M))) := hcp2
  have hw1 : IntKind.i64.wrap ((i : Int) + (M.length : Int)) = (i : Int) + (M.length : Int) := by rw [IntKind.wrap_i64]; omega
  have hb1 : (0 : Int) ≤ (i : Int) + (M.length : Int) := by omega
  have hin : i ≤ l.length := by omega
  have htn : ((i : Int) + (M.length : Int)).toNat = i + M.length := by omega
  have hb2 : ¬ (c = i + M.length) := by omega
  have hb3 : (i : Int) ≤ (l.length : Int) + (M.length : Int) := by omega
  have hb4 : ¬ (c = i) := by omega
  clear hcp1 hcp2 hW1 hg1 hk1 hown hsrc hc0 hg0 hs0 hcm hlt hltq hsa hsb hsz
  go_enter Tryd.func55, Tryd.ntmps55
  go_wp2_with (simp only [hov])
  go_region_law (refine step_copyR rfl _ _ rfl (.slice (some ⟨g, (i + M.length) * 2, none⟩) (l.length + M.length - (i + M.length)) (c - (i + M.length))) (.slice (some ⟨g, i * 2, none⟩) (l.length + M.length - i) (c - i)) (by simp [Act.eval, Act.put]) (by simp [Act.eval, Act.put]) (hcp1'.out _ _) ?_)
  go_wp2_with (refine list_copyR _ rfl _ _ rfl _ _ rfl rfl (hcp2'.out _) ?_)
  go_ret
  exact X.out

/-- Insert, all its ways. -/
theorem insert_rB {B : Nat} {w : World} {v : Value} {q cq : Nat} {l M : List Bk} (hown : Row rB B w v l) (hsrc : Row rB 0 w (.slice (some ⟨q, 0, none⟩) M.length cq) M) (hq : v.ownBlock ≠ some q) (hM : 0 < M.length) (hm : l.length + M.length ≤ 4096) (hB : B ≤ w.heap.size)
    (i : Nat) (hi : i ≤ l.length) :
    Calls Tryd.prog 55 #[v, .int .i64 i, .slice (some ⟨q, 0, none⟩) M.length cq] w (TurnPrB w B v (l.take i ++ (M ++ l.drop i))) := by
  by_cases h : i = l.length
  · subst h
    have := insertE_rB hown hsrc hM hm hB
    simpa using this
  · rcases hown.cases with ⟨rfl, rfl⟩ | ⟨g, c, cur, rfl, _, _, _, h1, h2, _⟩
    · simp at hi
      simp [hi] at h
    · rcases Nat.lt_or_ge c (l.length + M.length) with hc | hc
      · exact insertN_rB hown hsrc hM hm hB i (by omega) hc
      · exact insertR_rB hown hsrc (fun e => hq (by rw [e]; rfl)) hM hm i (by omega) hc
end Go.Proofs.YtmmbfgkfidconaaDoor
