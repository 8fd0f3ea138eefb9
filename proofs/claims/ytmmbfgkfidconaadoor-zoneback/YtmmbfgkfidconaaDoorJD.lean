/- Own texts, joined: YBest, YRoomsW, YLeast, YGreat, UCarve, UTake, UJoin, ZReg. -/
import Derived.Test.YtmmbfgkfidconaaDoorJC
import Derived.Lib.ItoaWalk
import Derived.Test.YtmmbfgkfidconaaDoorJA
import Derived.Deep.RegionHeld3
/- The best room, as the frames are gone through one by one. -/
namespace Go.Proofs.YtmmbfgkfidconaaDoor
open Go.RowKit

/-- The best one of those below t. -/
def In (lo : Bool) (gs : List Gp) (L : List Bk) (s : Option Int) (o t : Nat) (a : Option Bk) : Prop := Bst lo (fun r => Cn gs L s o r ∧ r.1 < t) a
section
variable {lo : Bool} {gs : List Gp} {L : List Bk} {s : Option Int} {o t n : Nat} {a : Option Bk}
theorem In.zero : In lo gs L s o 0 none := fun r h => by omega
theorem In.up {t' : Nat} (h : In lo gs L s o t a) (ht : t ≤ t') (hn : ∀ r, Cn gs L s o r → t ≤ r.1 → r.1 < t' → False) : In lo gs L s o t' a := by
  refine h.congr fun r => ⟨fun hr => ⟨hr.1, ?_⟩, fun hr => ⟨hr.1, by omega⟩⟩
  rcases Nat.lt_or_ge r.1 t with c | c
  · exact c
  · exact (hn r hr.1 c hr.2).elim
theorem In.skip {k : Nat} (h : In lo gs L s o (k * 8) a) (hk : ¬ gok gs s k) : In lo gs L s o ((k + 1) * 8) a := by
  refine h.up (by omega) fun r hr h1 h2 => hk ?_
  rw [← show r.1 / 8 = k by omega]
  exact hr.2.2
theorem In.end {k : Nat} (ho : Okl n L) (h : In lo gs L s o (min ((k + 1) * 8) n) a) : In lo gs L s o ((k + 1) * 8) a := by
  refine h.up (by omega) fun r hr h1 h2 => ?_
  have := hr.lt ho
  omega
theorem In.all (ho : Okl n L) (h : In lo gs L s o t a) (ht : n ≤ t) : Bst lo (Cn gs L s o) a := by
  refine h.congr fun r => ⟨fun hr => ⟨hr, ?_⟩, fun hr => hr.1⟩
  have := hr.lt ho
  omega
theorem In.none_at (ho : Okl n L) (h : In lo gs L s o t a) (hn : rmS L t < o) : In lo gs L s o (t + 1) a := by
  refine h.up (by omega) fun r hr h1 h2 => ?_
  have e : r.1 = t := by omega
  have := (rmS_iff ho t r.2).2 (by rw [← e]; exact hr.1)
  have := hr.2.1
  omega
theorem In.some_at {v : Nat} (ho : Okl n L) (h : In lo gs L s o t a) (hv : rmS L t = v) (hov : o ≤ v) (hg : gok gs s (t / 8)) : In lo gs L s o (t + 1) (nxt lo (t, v) a) := by
  have hc : Cn gs L s o (t, v) := ⟨(rmS_iff ho t v).1 hv, hov, hg⟩
  refine Bst.step h (t, v) (fun x hx => by have := hx.2; show x.1 ≤ t; omega) fun x => ⟨fun hx => ?_, fun hx => ?_⟩
  · rcases Nat.lt_or_ge x.1 t with c | c
    · exact Or.inl ⟨hx.1, c⟩
    · exact Or.inr (Cn.inj ho x (t, v) hx.1 hc (by show x.1 = t; omega))
  · rcases hx with hx | rfl
    · exact ⟨hx.1, by omega⟩
    · exact ⟨hc, by show t < t + 1; omega⟩
end
def fsA : Option Bk → Nat
  | none => 0
  | some r => r.1
def lsA : Option Bk → Nat
  | none => 4
  | some r => r.2
def msA : Option Bk → Int
  | none => -1
  | some r => (r.2 : Int)
/-- What leastOf has found below t: its first frame x, its order y. -/
def Lin (gs : List Gp) (L : List Bk) (s : Int) (o t x y : Nat) : Prop := ∃ a, In true gs L (some s) o t a ∧ x = fsA a ∧ y = lsA a
/-- What greatest has. -/
def Gin (gs : List Gp) (L : List Bk) (t x : Nat) (y : Int) : Prop := ∃ a, In false gs L none 0 t a ∧ x = fsA a ∧ y = msA a
section
variable {gs : List Gp} {L : List Bk} {s : Int} {o t n x y k : Nat} {yi : Int}
theorem Lin.zero : Lin gs L s o 0 0 4 := ⟨none, In.zero, rfl, rfl⟩
theorem Lin.skip (h : Lin gs L s o (k * 8) x y) (hk : ¬ gok gs (some s) k) : Lin gs L s o ((k + 1) * 8) x y := by
  obtain ⟨a, h, e1, e2⟩ := h
  exact ⟨a, h.skip hk, e1, e2⟩
theorem Lin.end (ho : Okl n L) (h : Lin gs L s o (min ((k + 1) * 8) n) x y) : Lin gs L s o ((k + 1) * 8) x y := by
  obtain ⟨a, h, e1, e2⟩ := h
  exact ⟨a, h.end ho, e1, e2⟩
theorem Lin.none_at (ho : Okl n L) (h : Lin gs L s o t x y) (hn : rmS L t < o) : Lin gs L s o (t + 1) x y := by
  obtain ⟨a, h, e1, e2⟩ := h
  exact ⟨a, h.none_at ho hn, e1, e2⟩
theorem Lin.more {v : Nat} (ho : Okl n L) (h : Lin gs L s o t x y) (hv : rmS L t = v) (hov : o ≤ v) (hg : gok gs (some s) (t / 8)) (hy : v < y) : Lin gs L s o (t + 1) t v := by
  obtain ⟨a, h, e1, e2⟩ := h
  refine ⟨some (t, v), ?_, rfl, rfl⟩
  have := h.some_at ho hv hov hg
  cases a with
  | none => exact this
  | some m =>
    rw [show nxt true (t, v) (some m) = some (t, v) by simp [nxt, bet, show v < m.2 by simp only [lsA] at e2; omega]] at this
    exact this
theorem Lin.less {v : Nat} (ho : Okl n L) (h : Lin gs L s o t x y) (hv : rmS L t = v) (hv3 : v ≤ 3) (hov : o ≤ v) (hg : gok gs (some s) (t / 8)) (hy : y ≤ v) : Lin gs L s o (t + 1) x y := by
  obtain ⟨a, h, e1, e2⟩ := h
  refine ⟨a, ?_, e1, e2⟩
  have := h.some_at ho hv hov hg
  cases a with
  | none => simp only [lsA] at e2; omega
  | some m =>
    rw [show nxt true (t, v) (some m) = some m by simp [nxt, bet, show ¬ v < m.2 by simp only [lsA] at e2; omega]] at this
    exact this
theorem Lin.done (ho : Okl n L) (h : Lin gs L s o t x y) (ht : n ≤ t) {m : Option Bk} (hm : Bst true (Cn gs L (some s) o) m) : x = fsA m ∧ (decide ((y : Int) ≤ 3)) = m.isSome ∧ y ≤ 4 := by
  obtain ⟨a, h, e1, e2⟩ := h
  have e := (h.all ho ht).unique hm (fun _ => Iff.rfl) (Cn.inj ho)
  subst e
  refine ⟨e1, ?_⟩
  cases a with
  | none => simp only [lsA] at e2; subst e2; exact ⟨rfl, by omega⟩
  | some r =>
    have := (hm.1.1.facts ho).1
    simp only [lsA] at e2
    exact ⟨by simp; omega, by omega⟩
theorem Gin.zero : Gin gs L 0 0 (-1) := ⟨none, In.zero, rfl, rfl⟩
theorem Gin.skip (h : Gin gs L (k * 8) x yi) (hk : ¬ gok gs none k) : Gin gs L ((k + 1) * 8) x yi := by
  obtain ⟨a, h, e1, e2⟩ := h
  exact ⟨a, h.skip hk, e1, e2⟩
theorem Gin.end (ho : Okl n L) (h : Gin gs L (min ((k + 1) * 8) n) x yi) : Gin gs L ((k + 1) * 8) x yi := by
  obtain ⟨a, h, e1, e2⟩ := h
  exact ⟨a, h.end ho, e1, e2⟩
theorem Gin.more (ho : Okl n L) (h : Gin gs L t x yi) (hg : gok gs none (t / 8)) (hy : yi < rmS L t) : Gin gs L (t + 1) t (rmS L t) := by
  obtain ⟨a, h, e1, e2⟩ := h
  have hm : -1 ≤ msA a := by cases a <;> simp only [msA] <;> omega
  obtain ⟨v, hv3, hv⟩ : ∃ v : Nat, v ≤ 3 ∧ rmS L t = v := by
    rcases rmS_lt (L := L) t with h | h
    · omega
    · exact h
  refine ⟨some (t, v), ?_, rfl, hv⟩
  have := h.some_at ho hv (Nat.zero_le _) hg
  cases a with
  | none => exact this
  | some m =>
    rw [show nxt false (t, v) (some m) = some (t, v) by simp [nxt, bet, show m.2 < v by simp only [msA] at e2; omega]] at this
    exact this
theorem Gin.less (ho : Okl n L) (h : Gin gs L t x yi) (hg : gok gs none (t / 8)) (hy : rmS L t ≤ yi) : Gin gs L (t + 1) x yi := by
  obtain ⟨a, h, e1, e2⟩ := h
  refine ⟨a, ?_, e1, e2⟩
  rcases rmS_lt (L := L) t with hv | ⟨v, hv3, hv⟩
  · exact h.none_at ho (by omega)
  · have := h.some_at ho hv (Nat.zero_le _) hg
    cases a with
    | none => simp only [msA] at e2; omega
    | some m =>
      rw [show nxt false (t, v) (some m) = some m by simp [nxt, bet, show ¬ m.2 < v by simp only [msA] at e2; omega]] at this
      exact this
theorem Gin.done (ho : Okl n L) (h : Gin gs L t x yi) (ht : n ≤ t) {m : Option Bk} (hm : Bst false (Cn gs L none o) m) : (m.isSome = true → x = fsA m) ∧ (decide ((o : Int) ≤ yi)) = m.isSome ∧ -1 ≤ yi ∧ yi ≤ 3 := by
  obtain ⟨a, h, e1, e2⟩ := h
  have h := h.all ho ht
  cases a with
  | none =>
    cases m with
    | none => simp only [msA] at e2; subst e2; exact ⟨fun e => (by cases e), (by simp; omega), by omega, by omega⟩
    | some r => exact (h r ⟨hm.1.1, Nat.zero_le _, hm.1.2.2⟩).elim
  | some a =>
    have ha3 := (h.1.1.facts ho).1
    simp only [msA] at e2
    rcases Nat.lt_or_ge a.2 o with c | c
    · cases m with
      | none => exact ⟨fun e => (by cases e), (by simp; omega), by omega, by omega⟩
      | some r =>
        have := h.2 r ⟨hm.1.1, Nat.zero_le _, hm.1.2.2⟩
        rw [bet_true] at this
        have := hm.1.2.1
        exfalso
        simp at *
        omega
    · have hb : Bst false (Cn gs L none o) (some a) := ⟨⟨h.1.1, c, h.1.2.2⟩, fun r hr => h.2 r ⟨hr.1, Nat.zero_le _, hr.2.2⟩⟩
      have e := hb.unique hm (fun _ => Iff.rfl) (Cn.inj ho)
      subst e
      exact ⟨fun _ => e1, by simp; omega, by omega, by omega⟩
end
/-- Whether a group is one of those. -/
theorem gok_iff {gs : List Gp} {k : Nat} (hk : k < gs.length) (s : Int) : gok gs (some s) k ↔ (gs.getD k (0, false)).2 = false ∧ (gs.getD k (0, false)).1 = s := by
  rw [List.getD_eq_getElem?_getD, List.getElem?_eq_getElem hk, Option.getD_some]
  unfold gok
  rw [List.getElem?_eq_getElem hk]
  constructor
  · rintro ⟨x, e, h1, h2⟩
    cases e
    exact ⟨h1, h2 s rfl⟩
  · rintro ⟨h1, h2⟩
    exact ⟨_, rfl, h1, fun t e => by cases e; exact h2⟩
theorem gok_any {gs : List Gp} {k : Nat} (hk : k < gs.length) : gok gs none k ↔ (gs.getD k (0, false)).2 = false := by
  rw [List.getD_eq_getElem?_getD, List.getElem?_eq_getElem hk, Option.getD_some]
  unfold gok
  rw [List.getElem?_eq_getElem hk]
  constructor
  · rintro ⟨x, e, h1, _⟩
    cases e
    exact h1
  · rintro h1
    exact ⟨_, rfl, h1, fun t e => by cases e⟩
end Go.Proofs.YtmmbfgkfidconaaDoor
/- The orders of all rooms: walked. -/
namespace Go.Proofs.YtmmbfgkfidconaaDoor
open Go.RowKit

theorem rI.zone : ∀ i z, Tryd.prog.info? rI.t = some i → i.zero = some z → z.cells = (rI.cells rI.zero).toArray := by
  intro i z hi hz
  have h : (Tryd.prog.info? 3).map (fun i => i.zero) = some (some (.int .i64 0)) := by kernel_rfl
  rw [show Tryd.prog.info? 3 = some i from hi, Option.map_some, hz] at h
  simp at h
  subst h
  rfl
/-- What rooms tells. -/
def RoomsP (w : World) (n : Nat) (L : List Bk) (e : Ending) (w' : World) : Prop := ∃ v, e = .returned v ∧ Row rI w.heap.size w' v (ofF n (rmS L)) ∧ Below w.heap.size w w'
set_option maxRecDepth 100000 in
set_option maxHeartbeats 4000000 in
theorem rooms_any {F FZ : Nat → Prop} {w : World} {z p g c n : Nat} {v : Value} {L : List Bk} {gs : List Gp} (h : ZB F FZ w z p g c n v L gs) :
    Calls Tryd.prog 34 #[.pointer (some ⟨z, 0, none⟩)] w (RoomsP w n L) := by
  have hmx := h.ok.max
  have hlen := h.ok.len
  obtain ⟨c0, c1, c2⟩ := h.cells
  obtain ⟨cs, hmk, hrow⟩ := run_makeR rI.kin rI.zone w n (by unfold maxLen; omega) (by show 8 * n ≤ _; omega)
  have HZ : Hid (ZB F FZ w z p g c n v L gs) := h
  obtain ⟨q, hq⟩ : ∃ q, w.heap.size = q := ⟨_, rfl⟩
  have HQ : Hid (w.heap.size = q) := hq
  have HR : Hid (Row rI q (w.alloc (.cells cs 3)) (.slice (some ⟨q, 0, none⟩) n n) (ofF n (fun x => if x < 0 then (-1 : Int) else 0))) := by
    have e : ofF n (fun x => if x < 0 then (-1 : Int) else 0) = List.replicate n rI.zero := by
      apply List.ext_getElem?
      intro x
      unfold ofF
      by_cases hx : x < n
      · rw [List.getElem?_map, List.getElem?_range hx, List.getElem?_replicate, if_pos hx]
        rfl
      · rw [List.getElem?_eq_none (by simp; omega), List.getElem?_eq_none (by simp; omega)]
    rw [e, ← hq]
    exact hrow
  clear h hrow c2 c0
  have hnz : ∀ k : Nat, (k : Int) < (n : Int) ↔ k < n := fun k => by omega
  rw [hq] at hmk
  clear hq
  go_enter Tryd.func34, Tryd.ntmps34
  go_wp2_with fail
  clear hmk c1
  have HB0 : Hid (Below w.heap.size w (w.alloc (.cells cs 3))) := (Below.refl _ _).alloc (Nat.le_refl _) _
  go_loopw [4] (fun iv W => ∃ k : Nat, k ≤ n ∧ iv = .int .i64 k ∧ Hid (Row rI q W (.slice (some ⟨q, 0, none⟩) n n) (ofF n (fun x => if x < k then (-1 : Int) else 0))) ∧ Hid (Below w.heap.size w W)) (fun iv _ => n - (intOf iv).toNat)
  case atStart => exact ⟨0, Nat.zero_le _, rfl, HR, HB0⟩
  case round =>
    obtain ⟨k, hk, rfl, HI, HB⟩ := hrel
    clear HB0 HR
    by_cases hkn : k < n
    · have hkz : (k : Int) < (n : Int) := by omega
      have hl := ofF_len n (fun x => if x < k then (-1 : Int) else 0)
      obtain ⟨g', e', -, -, hg', -, -, hat⟩ := HI.out.at (show k < _ by rw [hl]; exact hkn)
      cases e'
      have d0 := rI.at hat
      simp only [show rI.n = 1 from rfl, Nat.mul_one] at d0
      have hfz := HI.out.frozen k
      have HN : Hid (Row rI q (wr.setCell ⟨q, k, none⟩ (.int .i64 (-1))) (.slice (some ⟨q, 0, none⟩) n n) (ofF n (fun x => if x < k + 1 then (-1 : Int) else 0))) := by
        have e : ofF n (fun x => if x < k + 1 then (-1 : Int) else 0) = (ofF n (fun x => if x < k then (-1 : Int) else 0)).set k (-1) := by
          rw [ofF_set]
          apply ofF_congr
          intro x _
          by_cases h1 : x = k
          · rw [if_pos h1, if_pos (by omega)]
          · rw [if_neg h1]
            by_cases h2 : x < k
            · rw [if_pos h2, if_pos (by omega)]
            · rw [if_neg h2, if_neg (by omega)]
        rw [e]
        have := HI.out.put1 k 0 (.int .i64 (-1)) (-1) (by rw [hl]; exact hkn) (by decide) rfl
        simp only [show rI.n = 1 from rfl, Nat.mul_one, Nat.add_zero] at this
        exact this
      have HB2 : Hid (Below w.heap.size w (wr.setCell ⟨q, k, none⟩ (.int .i64 (-1)))) := HB.out.trans ((Keeps.set wr q k _).below HB.out.size fun c _ e => by rw [e, ← HQ.out]; exact Nat.le_refl _)
      clear hat hl HI HB
      go_wp2
      go_roundw
      case rel => exact ⟨k + 1, by omega, by go_num, HN, HB2⟩
      case measure => simp only [intOf]; omega
    · obtain rfl : k = n := by omega
      have Z1 := HZ.out.below HB.out
      have hF := free_any Z1.sto Z1.ok
      obtain ⟨c0, c1, -⟩ := Z1.cells
      have HR1 : Hid (Row rI q wr (.slice (some ⟨q, 0, none⟩) k k) (ofF k (rmS (L.take 0)))) := by
        have e : ofF k (rmS (L.take 0)) = ofF k (fun x => if x < k then (-1 : Int) else 0) := by
          apply ofF_congr
          intro x hx
          rw [if_pos hx, List.take_zero]
          rfl
        rw [e]
        exact HI.out
      clear HI Z1
      go_wp2_with fail
      refine hF.mono ?_
      rintro e w2 ⟨vl, rfl, R2, hb2⟩
      obtain ⟨al, cl, rfl⟩ := R2.form
      have HR2 : Hid (Row rI q w2 (.slice (some ⟨q, 0, none⟩) k k) (ofF k (rmS (L.take 0)))) := HR1.out.below hb2
      obtain ⟨q2, hq2⟩ : ∃ q2, wr.heap.size = q2 := ⟨_, rfl⟩
      have HL2 : Hid (Row rB q2 w2 (.slice al L.length cl) L) := by rw [← hq2]; exact R2
      have HB2 : Hid (Below w.heap.size w w2) := below_call' HB.out hb2
      have HQ2 : Hid (q < q2) := by rw [← hq2]; exact (HR1.out.lt q rfl).2
      have HOK : Hid (Okl k L) := HZ.out.ok
      clear hF R2 hb2 HR1 HB c0 c1 hq2
      go_wp2_with fail
      go_loopw [6] (fun iv W => ∃ i : Nat, i ≤ L.length ∧ iv = .int .i64 i ∧ Hid (Row rI q W (.slice (some ⟨q, 0, none⟩) k k) (ofF k (rmS (L.take i)))) ∧ Hid (Keeps w2 W (fun b => b = q)) ∧ Hid (Below w.heap.size w W)) (fun iv _ => L.length - (intOf iv).toNat)
      case atStart => exact ⟨0, Nat.zero_le _, rfl, HR2, Keeps.refl _ _, HB2⟩
      case round =>
        obtain ⟨i, hi, rfl, HI, HK, HB⟩ := hrel
        clear HR2 HB2
        by_cases hil : i < L.length
        · have hiz : (i : Int) < (L.length : Int) := by omega
          have HLr : Hid (Row rB q2 wr (.slice al L.length cl) L) := HK.out.row HL2.out fun g' hg' e => by
            have := (HL2.out.lt g' hg').1
            have := HQ2.out
            omega
          obtain ⟨gl, rfl, _, _, hgl, _, _, hat⟩ := HLr.out.at hil
          obtain ⟨x0, x1⟩ := rB.at hat
          simp only [show rB.n = 2 from rfl, show rB.zero = (0, 0) from rfl] at x0 x1
          have hbk := HOK.out.blk (HOK.out.get hil)
          have htp := HOK.out.top _ (HOK.out.get hil)
          have HTS : Hid (L.take (i + 1) = L.take i ++ [L.getD i (0, 0)]) := take_snoc L i hil
          obtain ⟨b, hb⟩ : ∃ b, L.getD i (0, 0) = b := ⟨_, rfl⟩
          rw [hb] at hbk htp HTS x0 x1
          obtain ⟨a, r⟩ := b
          have HLG : Hid (L.getD i (0, 0) = (a, r)) := hb
          clear hb
          simp only at *
          obtain ⟨o, hom⟩ : ∃ o, o = min r 3 := ⟨_, rfl⟩
          obtain ⟨m, hm⟩ : ∃ m, m = 2 ^ (r - o) := ⟨_, rfl⟩
          have hq : 2 ^ r = m * 2 ^ o := by rw [hm, ← Nat.pow_add]; congr 1; omega
          have hoz : min (r : Int) 3 = (o : Int) := by omega
          have hP : (0 : Int) < 2 ^ o := Int.pow_pos (by decide)
          have hP0 := Nat.two_pow_pos o
          have HOM : Hid (o = min r 3) := hom
          have HMQ : Hid (2 ^ r = m * 2 ^ o) := hq
          have HPN : Hid (((2 ^ o : Nat) : Int) = 2 ^ o) := by show ((2 ^ o : Nat) : Int) = 2 ^ o; simp
          have HQN : Hid (((2 ^ r : Nat) : Int) = 2 ^ r) := by show ((2 ^ r : Nat) : Int) = 2 ^ r; simp
          have hr2 : (2 : Int) ^ r ≤ 32 := by have : 2 ^ r ≤ 2 ^ 5 := Nat.pow_le_pow_right (by omega) hbk.2.1; have := HQN.out; omega
          have ho2 : (2 : Int) ^ o ≤ 8 := by have : 2 ^ o ≤ 2 ^ 3 := Nat.pow_le_pow_right (by omega) (by omega); have := HPN.out; omega
          have hr0 : (0 : Int) ≤ 2 ^ r := Int.le_of_lt (Int.pow_pos (by decide))
          have ho3 : o ≤ 3 := by omega
          have hr5 : r ≤ 5 := by omega
          have hae : a + 2 ^ r ≤ k := htp
          have HAE : Hid (a + 2 ^ r ≤ k) := hae
          have HR3 : Hid (Row rI q wr (.slice (some ⟨q, 0, none⟩) k k) (ofF k (rmJ (L.take i) (a, r) 0))) := by rw [rmJ_zero]; exact HI.out
          have hak : a ≤ 512 := by omega
          clear hat HI hom hm hq hbk htp hae
          go_wp2
          clear hoz
          go_loopw [8] (fun fi W => ∃ j y : Nat, j ≤ m ∧ y ≤ 512 ∧ fi = .int .i64 y ∧ Hid (y = a + j * 2 ^ o) ∧ Hid (Row rI q W (.slice (some ⟨q, 0, none⟩) k k) (ofF k (rmJ (L.take i) (a, r) j))) ∧ Hid (Keeps w2 W (fun b => b = q)) ∧ Hid (Below w.heap.size w W)) (fun fi _ => (a + 2 ^ r) - (intOf fi).toNat)
          case atStart => exact ⟨0, a, Nat.zero_le _, hak, rfl, (by simp : a = a + 0 * 2 ^ o), HR3, HK, HB⟩
          case round =>
            obtain ⟨j, y, hj, hy5, rfl, HY, HV, HK2, HB2⟩ := hrel
            clear HR3 HK HB
            have HLr2 : Row rB q2 wr (.slice (some ⟨gl, 0, none⟩) L.length cl) L := HK2.out.row HL2.out fun g' hg' e => by
              have := (HL2.out.lt g' hg').1
              have := HQ2.out
              omega
            obtain ⟨g3, e3, _, _, hgl2, _, _, hat⟩ := HLr2.at hil
            cases e3
            obtain ⟨x0, x1⟩ := rB.at hat
            simp only [show rB.n = 2 from rfl, show rB.zero = (0, 0) from rfl] at x0 x1
            rw [HLG.out] at x0 x1
            clear hat HLr2
            by_cases hjm : j < m
            · have h1 : (j + 1) * 2 ^ o ≤ m * 2 ^ o := Nat.mul_le_mul_right _ hjm
              rw [Nat.add_mul] at h1
              have hlt2 : (y : Int) < (a : Int) + 2 ^ r := by have := HMQ.out; have := HY.out; have := HQN.out; have := HPN.out; omega
              have hyk : y < k := by have := HMQ.out; have := HY.out; have := HAE.out; omega
              have hykz : (y : Int) < (k : Int) := by omega
              have hy2 : y + 2 ^ o ≤ 512 := by have := HMQ.out; have := HY.out; have := HAE.out; omega
              have hfz := HV.out.frozen y
              have hl := ofF_len k (rmJ (L.take i) (a, r) j)
              obtain ⟨g4, e4, -, -, hgq, -, -, hatq⟩ := HV.out.at (show y < _ by rw [hl]; exact hyk)
              cases e4
              have d0 := rI.at hatq
              simp only [show rI.n = 1 from rfl, Nat.mul_one] at d0
              have HN : Hid (∀ W, Below wr.heap.size wr W → Row rI q (W.setCell ⟨q, y, none⟩ (.int .i64 o)) (.slice (some ⟨q, 0, none⟩) k k) (ofF k (rmJ (L.take i) (a, r) (j + 1))) ∧ Keeps w2 (W.setCell ⟨q, y, none⟩ (.int .i64 o)) (fun b => b = q) ∧ Below w.heap.size w (W.setCell ⟨q, y, none⟩ (.int .i64 o))) := fun W hbW => by
                have hvW := HV.out.below hbW
                have := hvW.put1 y 0 (.int .i64 o) (o : Int) (by rw [hl]; exact hyk) (by decide) rfl
                simp only [show rI.n = 1 from rfl, Nat.mul_one, Nat.add_zero] at this
                have e := rmJ_succ (L.take i) (a, r) j k
                simp only at e
                rw [← HOM.out, ← HY.out] at e
                rw [e] at this
                have hB3 := below_call' HB2.out hbW
                exact ⟨this, (HK2.out.trans (Keeps.of_below hbW (fun _ => False)) fun _ _ e => e.elim).trans (Keeps.set W q y _) fun _ _ h => h, hB3.trans ((Keeps.set W q y _).below hB3.size fun c _ e => by rw [e, ← HQ.out]; exact Nat.le_refl _)⟩
              clear hatq hl HV HK2 HB2
              go_wp2
              go_quiet (fail)
              go_wp2
              go_roundw
              case rel => exact ⟨j + 1, y + 2 ^ o, by omega, hy2, by have := HPN.out; go_num, (by have := HY.out; rw [Nat.add_mul]; omega : y + 2 ^ o = a + (j + 1) * 2 ^ o), (HN.out _ (below_drewN (Below.refl _ _) _)).1, (HN.out _ (below_drewN (Below.refl _ _) _)).2.1, (HN.out _ (below_drewN (Below.refl _ _) _)).2.2⟩
              case measure => simp only [intOf]; have := HY.out; have := HPN.out; have := HQN.out; omega
            · obtain rfl : j = m := by omega
              have hlt2 : ¬ (y : Int) < (a : Int) + 2 ^ r := by have := HMQ.out; have := HY.out; have := HQN.out; have := HPN.out; omega
              have HV2 : Hid (Row rI q wr (.slice (some ⟨q, 0, none⟩) k k) (ofF k (rmS (L.take (i + 1))))) := by
                have e := rmJ_all (L.take i) (a, r) j k (by rw [← HOM.out]; exact HMQ.out.symm)
                rw [HTS.out, ← e]
                exact HV.out
              clear HV
              go_wp2
              go_quiet (fail)
              go_wp2
              go_roundw
              case rel => exact ⟨i + 1, by omega, by go_num, HV2.out.below (below_drewN (Below.refl _ _) _), HK2.out.trans (Keeps.of_below (below_drewN (Below.refl _ _) _) (fun _ => False)) fun _ _ e => e.elim, below_drewN HB2.out _⟩
              case measure => simp only [intOf]; omega
        · obtain rfl : i = L.length := by omega
          rw [List.take_length] at HI
          go_wp2
          go_ret
          exact ⟨_, rfl, by rw [HQ.out]; exact HI.out, HB.out⟩
end Go.Proofs.YtmmbfgkfidconaaDoor
/- leastOf and greatest, walked. -/
namespace Go.Proofs.YtmmbfgkfidconaaDoor
open Go.RowKit

def LR1 (gs : List Gp) (L : List Bk) (s : Int) (o G : Nat) (w : World) (xv yv iv : Value) (W : World) : Prop := ∃ k x y : Nat, k ≤ G ∧ y ≤ 4 ∧ xv = .int .i64 x ∧ yv = .int .i64 y ∧ iv = .int .i64 k ∧ Hid (Lin gs L s o (k * 8) x y) ∧ Hid (Below w.heap.size w W)
def LR2 (gs : List Gp) (L : List Bk) (s : Int) (o k t : Nat) (w : World) (xv yv fv : Value) (W : World) : Prop := ∃ f x y : Nat, k * 8 ≤ f ∧ f ≤ t ∧ y ≤ 4 ∧ xv = .int .i64 x ∧ yv = .int .i64 y ∧ fv = .int .i64 f ∧ Hid (Lin gs L s o f x y) ∧ Hid (Below w.heap.size w W)
set_option maxRecDepth 100000 in
set_option maxHeartbeats 4000000 in
theorem leastOf_any {F FZ : Nat → Prop} {w : World} {z p g c n : Nat} {v : Value} {L : List Bk} {gs : List Gp} (h : ZB F FZ w z p g c n v L gs) {B q cq : Nat} (hr : Row rI B w (.slice (some ⟨q, 0, none⟩) n cq) (ofF n (rmS L))) (s : Int) (o : Nat) {m : Option Bk} (hm : Bst true (Cn gs L (some s) o) m) :
    Calls Tryd.prog 35 #[.pointer (some ⟨z, 0, none⟩), .slice (some ⟨q, 0, none⟩) n cq, .int .i64 s, .int .i64 o] w fun e w' => e = .returned (.tuple #[.int .i64 (fsA m), .bool m.isSome]) ∧ Below w.heap.size w w' := by
  have hmx := h.ok.max
  have hln := h.len
  have HZ : Hid (ZB F FZ w z p g c n v L gs) := h
  have HR : Hid (Row rI B w (.slice (some ⟨q, 0, none⟩) n cq) (ofF n (rmS L))) := hr
  have HM : Hid (Bst true (Cn gs L (some s) o) m) := hm
  have hg64 : gs.length ≤ 64 := by omega
  obtain ⟨G, hG⟩ : ∃ G, gs.length = G := ⟨_, rfl⟩
  rw [hG] at hln hg64
  have HLN : Hid (G = (n + 7) / 8) := hln
  have hnG : n ≤ G * 8 := by omega
  clear hln
  have HG : Hid (gs.length = G) := hG
  clear h hr hm hG
  go_enter Tryd.func35, Tryd.ntmps35
  go_wp2
  go_loopw [10, 11, 12] (fun xv yv iv W => LR1 gs L s o G w xv yv iv W) (fun _ _ iv _ => G - (intOf iv).toNat)
  case atStart => exact ⟨0, 0, 4, Nat.zero_le _, Nat.le_refl _, rfl, rfl, rfl, Lin.zero, Below.refl _ _⟩
  case round =>
    obtain ⟨k, x, y, hk, hy4, rfl, rfl, rfl, HI, HB⟩ := hrel
    have Z1 := HZ.out.below HB.out
    obtain ⟨c0, c1, c2⟩ := Z1.cells
    rw [HG.out] at c2
    by_cases hkg : k < G
    · have hkz : (k : Int) < (G : Int) := by omega
      obtain ⟨g0, g1, -⟩ := Z1.grp (show k < gs.length by rw [HG.out]; exact hkg)
      have hok := gok_iff (show k < gs.length by rw [HG.out]; exact hkg) s
      have hgl := (Z1.lt g Z1.fg)
      generalize gs.getD k (0, false) = gk at *
      obtain ⟨gt, gc⟩ := gk
      simp only at g0 g1 hok
      clear Z1 c0 c1
      by_cases hgk : gc = false ∧ gt = s
      · obtain ⟨rfl, rfl⟩ := hgk
        have HOK : Hid (gok gs (some gt) k) := hok.2 ⟨rfl, rfl⟩
        have hne : (gt != gt) = false := by simp
        clear hok
        obtain ⟨t, ht⟩ : ∃ t, t = min ((k + 1) * 8) n := ⟨_, rfl⟩
        have htk : k * 8 ≤ t := by have := HLN.out; omega
        have ht2 : t ≤ n := by omega
        have ht3 : t ≤ (k + 1) * 8 := by omega
        have HT : Hid (t = min ((k + 1) * 8) n) := ht
        have HE : Hid (∀ w', Below w.heap.size w w' → Calls Tryd.prog 47 #[.pointer (some ⟨z, 0, none⟩), .int .i64 k] w' fun e w5 => e = .returned (.int .i64 t) ∧ w5 = w') := fun w' hb => by
          rw [ht]
          exact zend_any (HZ.out.below hb) k (by omega)
        clear ht
        go_wp2
        clear g0 g1 c2
        go_loopw [10, 11, 13] (fun xv yv fv W => LR2 gs L gt o k t w xv yv fv W) (fun _ _ fv _ => t - (intOf fv).toNat)
        case atStart => exact ⟨k * 8, x, y, Nat.le_refl _, htk, hy4, rfl, rfl, by go_num, HI, HB⟩
        case round =>
          clear HI HB hy4
          obtain ⟨f, x, y, hf, hft, hy4, rfl, rfl, rfl, HI, HB⟩ := hrel
          have hE := HE.out wr HB.out
          by_cases hlt : f < t
          · have hltz : (f : Int) < (t : Int) := by omega
            have hfn : f < n := by omega
            have hfz : (f : Int) < (n : Int) := by omega
            have hl := ofF_len n (rmS L)
            obtain ⟨g', e', -, -, hg', -, -, hat⟩ := (HR.out.below HB.out).at (show f < _ by rw [hl]; exact hfn)
            cases e'
            have d0 := rI.at hat
            simp only [show rI.n = 1 from rfl, show rI.zero = 0 from rfl, Nat.mul_one] at d0
            rw [ofF_get n (rmS L) 0 hfn] at d0
            have hg8 : f / 8 = k := by omega
            have HO : Hid (Okl n L) := HZ.out.ok
            have hrm := rmS_lt (L := L) f
            obtain ⟨u, hu⟩ : ∃ u, rmS L f = u := ⟨_, rfl⟩
            have HU : Hid (rmS L f = u) := hu
            have HG8 : Hid (f / 8 = k) := hg8
            rw [hu] at d0 hrm
            clear hat hl hu hg8
            rcases (show (u < (o : Int)) ∨ ((o : Int) ≤ u ∧ u < (y : Int)) ∨ ((o : Int) ≤ u ∧ ¬ u < (y : Int)) by omega) with h1 | ⟨h1, h2⟩ | ⟨h1, h2⟩
            · have HN : Hid (Lin gs L gt o (f + 1) x y) := HI.out.none_at HO.out (by rw [HU.out]; exact h1)
              have h1' : ¬ (o : Int) ≤ u := by omega
              clear hrm HI
              go_wp2_with (go_at_call 47; refine hE.mono ?_; rintro e w5 ⟨rfl, hw⟩; obtain rfl := hw.symm; clear hw)
              go_roundw
              case rel => exact ⟨f + 1, x, y, by omega, by omega, hy4, rfl, rfl, by go_num, HN, HB⟩
              case measure => simp only [intOf]; omega
            · obtain ⟨a, rfl⟩ : ∃ a : Nat, u = a := ⟨u.toNat, by omega⟩
              have HN : Hid (Lin gs L gt o (f + 1) f a) := HI.out.more HO.out HU.out (by omega) (by rw [HG8.out]; exact HOK.out) (by omega)
              have ha4 : a ≤ 4 := by omega
              clear hrm HI
              go_wp2_with (go_at_call 47; refine hE.mono ?_; rintro e w5 ⟨rfl, hw⟩; obtain rfl := hw.symm; clear hw)
              go_quiet (fail)
              go_wp2
              go_roundw
              case rel => exact ⟨f + 1, f, a, by omega, by omega, ha4, rfl, rfl, by go_num, HN, below_drewN HB.out _⟩
              case measure => simp only [intOf]; omega
            · obtain ⟨a, rfl⟩ : ∃ a : Nat, u = a := ⟨u.toNat, by omega⟩
              have HN : Hid (Lin gs L gt o (f + 1) x y) := HI.out.less HO.out HU.out (by omega) (by omega) (by rw [HG8.out]; exact HOK.out) (by omega)
              clear hrm HI
              go_wp2_with (go_at_call 47; refine hE.mono ?_; rintro e w5 ⟨rfl, hw⟩; obtain rfl := hw.symm; clear hw)
              go_roundw
              case rel => exact ⟨f + 1, x, y, by omega, by omega, hy4, rfl, rfl, by go_num, HN, HB⟩
              case measure => simp only [intOf]; omega
          · obtain rfl : f = t := by omega
            have hltz : ¬ (f : Int) < (f : Int) := by omega
            have HN : Hid (Lin gs L gt o ((k + 1) * 8) x y) := Lin.end HZ.out.ok (by rw [← HT.out]; exact HI.out)
            clear HI
            go_wp2_with (go_at_call 47; refine hE.mono ?_; rintro e w5 ⟨rfl, hw⟩; obtain rfl := hw.symm; clear hw)
            go_roundw
            case rel => exact ⟨k + 1, x, y, by omega, hy4, rfl, rfl, by go_num, HN, HB⟩
            case measure => simp only [intOf]; omega
      · have HN : Hid (Lin gs L s o ((k + 1) * 8) x y) := HI.out.skip fun h => hgk (hok.1 h)
        rcases (show gc = true ∨ (gc = false ∧ gt ≠ s) by cases gc <;> simp at * ; exact hgk) with rfl | ⟨rfl, h1⟩
        · clear hok hgk HI
          go_wp2
          go_roundw
          case rel => exact ⟨k + 1, x, y, by omega, hy4, rfl, rfl, by go_num, HN, HB⟩
          case measure => simp only [intOf]; omega
        · have h2 : (gt != s) = true := by simp [h1]
          clear hok hgk HI h1
          go_wp2
          go_roundw
          case rel => exact ⟨k + 1, x, y, by omega, hy4, rfl, rfl, by go_num, HN, HB⟩
          case measure => simp only [intOf]; omega
    · obtain rfl : k = G := by omega
      obtain ⟨e1, e2, e3⟩ := HI.out.done HZ.out.ok (by omega) HM.out
      have HE1 : Hid (x = fsA m) := e1
      have HE2 : Hid (decide ((y : Int) ≤ 3) = m.isSome) := e2
      clear HI e1 e2 c0 c1 Z1
      go_wp2
      go_ret2
      rw [← HE1.out, ← HE2.out]
      exact ⟨rfl, HB.out⟩
end Go.Proofs.YtmmbfgkfidconaaDoor
/- greatest, walked. -/
namespace Go.Proofs.YtmmbfgkfidconaaDoor
open Go.RowKit

/-- What greatest tells. -/
def GreatP (w : World) (m : Option Bk) (e : Ending) (w' : World) : Prop :=
  match m with
  | none => (∃ x : Nat, e = .returned (.tuple #[.int .i64 x, .bool false])) ∧ Below w.heap.size w w'
  | some r => e = .returned (.tuple #[.int .i64 r.1, .bool true]) ∧ Below w.heap.size w w'
def GR1 (gs : List Gp) (L : List Bk) (G : Nat) (w : World) (xv yv iv : Value) (W : World) : Prop := ∃ (k x : Nat) (y : Int), k ≤ G ∧ (-1 ≤ y ∧ y ≤ 3) ∧ xv = .int .i64 x ∧ yv = .int .i64 y ∧ iv = .int .i64 k ∧ Hid (Gin gs L (k * 8) x y) ∧ Hid (Below w.heap.size w W)
def GR2 (gs : List Gp) (L : List Bk) (k t : Nat) (w : World) (xv yv fv : Value) (W : World) : Prop := ∃ (f x : Nat) (y : Int), k * 8 ≤ f ∧ f ≤ t ∧ (-1 ≤ y ∧ y ≤ 3) ∧ xv = .int .i64 x ∧ yv = .int .i64 y ∧ fv = .int .i64 f ∧ Hid (Gin gs L f x y) ∧ Hid (Below w.heap.size w W)
set_option maxRecDepth 100000 in
set_option maxHeartbeats 4000000 in
theorem greatest_any {F FZ : Nat → Prop} {w : World} {z p g c n : Nat} {v : Value} {L : List Bk} {gs : List Gp} (h : ZB F FZ w z p g c n v L gs) {B q cq : Nat} (hr : Row rI B w (.slice (some ⟨q, 0, none⟩) n cq) (ofF n (rmS L))) (o : Nat) {m : Option Bk} (hm : Bst false (Cn gs L none o) m) :
    Calls Tryd.prog 36 #[.pointer (some ⟨z, 0, none⟩), .slice (some ⟨q, 0, none⟩) n cq, .int .i64 o] w (GreatP w m) := by
  have hmx := h.ok.max
  have hln := h.len
  have HZ : Hid (ZB F FZ w z p g c n v L gs) := h
  have HR : Hid (Row rI B w (.slice (some ⟨q, 0, none⟩) n cq) (ofF n (rmS L))) := hr
  have HM : Hid (Bst false (Cn gs L none o) m) := hm
  have hg64 : gs.length ≤ 64 := by omega
  obtain ⟨G, hG⟩ : ∃ G, gs.length = G := ⟨_, rfl⟩
  rw [hG] at hln hg64
  have HLN : Hid (G = (n + 7) / 8) := hln
  have hnG : n ≤ G * 8 := by omega
  clear hln
  have HG : Hid (gs.length = G) := hG
  clear h hr hm hG
  go_enter Tryd.func36, Tryd.ntmps36
  go_wp2
  go_loopw [8, 9, 10] (fun xv yv iv W => GR1 gs L G w xv yv iv W) (fun _ _ iv _ => G - (intOf iv).toNat)
  case atStart => exact ⟨0, 0, -1, Nat.zero_le _, by omega, rfl, rfl, rfl, Gin.zero, Below.refl _ _⟩
  case round =>
    obtain ⟨k, x, y, hk, hy4, rfl, rfl, rfl, HI, HB⟩ := hrel
    have Z1 := HZ.out.below HB.out
    obtain ⟨c0, c1, c2⟩ := Z1.cells
    rw [HG.out] at c2
    by_cases hkg : k < G
    · have hkz : (k : Int) < (G : Int) := by omega
      obtain ⟨g0, g1, -⟩ := Z1.grp (show k < gs.length by rw [HG.out]; exact hkg)
      have hok := gok_any (show k < gs.length by rw [HG.out]; exact hkg)
      have hgl := (Z1.lt g Z1.fg)
      generalize gs.getD k (0, false) = gk at *
      obtain ⟨gt, gc⟩ := gk
      simp only at g0 g1 hok
      clear Z1 c0 c1
      cases gc with
      | false =>
        have HOK : Hid (gok gs none k) := hok.2 rfl
        clear hok
        obtain ⟨t, ht⟩ : ∃ t, t = min ((k + 1) * 8) n := ⟨_, rfl⟩
        have htk : k * 8 ≤ t := by have := HLN.out; omega
        have ht2 : t ≤ n := by omega
        have ht3 : t ≤ (k + 1) * 8 := by omega
        have HT : Hid (t = min ((k + 1) * 8) n) := ht
        have HE : Hid (∀ w', Below w.heap.size w w' → Calls Tryd.prog 47 #[.pointer (some ⟨z, 0, none⟩), .int .i64 k] w' fun e w5 => e = .returned (.int .i64 t) ∧ w5 = w') := fun w' hb => by
          rw [ht]
          exact zend_any (HZ.out.below hb) k (by omega)
        clear ht
        go_wp2
        clear g0 g1 c2
        go_loopw [8, 9, 11] (fun xv yv fv W => GR2 gs L k t w xv yv fv W) (fun _ _ fv _ => t - (intOf fv).toNat)
        case atStart => exact ⟨k * 8, x, y, Nat.le_refl _, htk, hy4, rfl, rfl, by go_num, HI, HB⟩
        case round =>
          clear HI HB hy4
          obtain ⟨f, x, y, hf, hft, hy4, rfl, rfl, rfl, HI, HB⟩ := hrel
          have hE := HE.out wr HB.out
          by_cases hlt : f < t
          · have hltz : (f : Int) < (t : Int) := by omega
            have hfn : f < n := by omega
            have hfz : (f : Int) < (n : Int) := by omega
            have hl := ofF_len n (rmS L)
            obtain ⟨g', e', -, -, hg', -, -, hat⟩ := (HR.out.below HB.out).at (show f < _ by rw [hl]; exact hfn)
            cases e'
            have d0 := rI.at hat
            simp only [show rI.n = 1 from rfl, show rI.zero = 0 from rfl, Nat.mul_one] at d0
            rw [ofF_get n (rmS L) 0 hfn] at d0
            have hg8 : f / 8 = k := by omega
            have HO : Hid (Okl n L) := HZ.out.ok
            have hrm := rmS_lt (L := L) f
            obtain ⟨u, hu⟩ : ∃ u, rmS L f = u := ⟨_, rfl⟩
            have HU : Hid (rmS L f = u) := hu
            have HG8 : Hid (f / 8 = k) := hg8
            rw [hu] at d0 hrm
            clear hat hl hu hg8
            have hg1 : -1 ≤ u ∧ u ≤ 3 := by
              rcases hrm with h | ⟨a, h1, h2⟩ <;> omega
            by_cases h1 : y < u
            · have HN : Hid (Gin gs L (f + 1) f u) := by
                have := HI.out.more HO.out (by rw [HG8.out]; exact HOK.out) (by rw [HU.out]; exact h1)
                rw [HU.out] at this
                exact this
              clear hrm HI
              go_wp2_with (go_at_call 47; refine hE.mono ?_; rintro e w5 ⟨rfl, hw⟩; obtain rfl := hw.symm; clear hw)
              go_quiet (fail)
              go_wp2
              go_roundw
              case rel => exact ⟨f + 1, f, u, by omega, by omega, hg1, rfl, rfl, by go_num, HN, below_drewN HB.out _⟩
              case measure => simp only [intOf]; omega
            · have HN : Hid (Gin gs L (f + 1) x y) := HI.out.less HO.out (by rw [HG8.out]; exact HOK.out) (by rw [HU.out]; omega)
              clear hrm HI
              go_wp2_with (go_at_call 47; refine hE.mono ?_; rintro e w5 ⟨rfl, hw⟩; obtain rfl := hw.symm; clear hw)
              go_roundw
              case rel => exact ⟨f + 1, x, y, by omega, by omega, hy4, rfl, rfl, by go_num, HN, HB⟩
              case measure => simp only [intOf]; omega
          · obtain rfl : f = t := by omega
            have hltz : ¬ (f : Int) < (f : Int) := by omega
            have HN : Hid (Gin gs L ((k + 1) * 8) x y) := Gin.end HZ.out.ok (by rw [← HT.out]; exact HI.out)
            clear HI
            go_wp2_with (go_at_call 47; refine hE.mono ?_; rintro e w5 ⟨rfl, hw⟩; obtain rfl := hw.symm; clear hw)
            go_roundw
            case rel => exact ⟨k + 1, x, y, by omega, hy4, rfl, rfl, by go_num, HN, HB⟩
            case measure => simp only [intOf]; omega
      | true =>
        have HN : Hid (Gin gs L ((k + 1) * 8) x y) := HI.out.skip fun h => by cases hok.1 h
        clear hok HI
        go_wp2
        go_roundw
        case rel => exact ⟨k + 1, x, y, by omega, hy4, rfl, rfl, by go_num, HN, HB⟩
        case measure => simp only [intOf]; omega
    · obtain rfl : k = G := by omega
      obtain ⟨e1, e2, e3⟩ := HI.out.done HZ.out.ok (by omega) HM.out
      have HE1 : Hid (m.isSome = true → x = fsA m) := e1
      have HE2 : Hid (decide ((o : Int) ≤ y) = m.isSome) := e2
      clear HI e1 e2 c0 c1 Z1
      cases m with
      | none =>
        have e2 : ¬ (o : Int) ≤ y := by simpa using HE2.out
        go_wp2
        go_ret2
        exact ⟨⟨x, rfl⟩, HB.out⟩
      | some r =>
        have e2 : (o : Int) ≤ y := by simpa using HE2.out
        have e1 : x = r.1 := HE1.out rfl
        subst e1
        go_wp2
        go_ret2
        exact ⟨rfl, HB.out⟩
end Go.Proofs.YtmmbfgkfidconaaDoor
/- What (*buddy.Store).carve does; condition: the table of math/bits lies as its text lays it. -/
namespace Go.Proofs.YtmmbfgkfidconaaDoor
open Go.RowKit

def CarveP (F : Nat → Prop) (w : World) (p n : Nat) (L : List Bk) (e : Ending) (w' : World) : Prop := e = .returned (.tuple #[]) ∧ SP F w p n L w'


set_option maxRecDepth 100000 in
set_option maxHeartbeats 4000000 in
theorem carve_core {F : Nat → Prop} {w : World} {p n : Nat} {v : Value} {L : List Bk} (hs : Sto F w p n v L) (ho : Okl n L) (hT : Tab w) (i : Nat) (hi : i < L.length) (pc b : Bk) (hbe : L.getD i (0, 0) = b) (h1 : b.1 ≤ pc.1) (h2 : bend pc ≤ bend b) (h5 : pc.2 ≤ 5)
    (l1 l2 L' : List Bk) (hl1 : l1 = blkL b.1 pc.1) (hl2 : l2 = blkL (bend pc) (bend b)) (hL' : L' = L.take i ++ ((l1 ++ l2) ++ L.drop (i + 1))) :
    Calls Tryd.prog 51 #[.pointer (some ⟨p, 0, none⟩), .int .i64 i, bval pc] w (CarveP F w p n L') := by
  have hlen := ho.len
  have hbb := ho.blk (ho.get hi)
  rw [hbe] at hbb
  have hpp := bend_pos pc
  have hL1 := (blk_cvr h1 (show pc.1 ≤ 1048576 by omega)).len
  have hL2 := (blk_cvr h2 (show bend b ≤ 1048576 by omega)).len
  rw [← hl1] at hL1
  rw [← hl2] at hL2
  obtain ⟨ao, c, rfl⟩ := hs.row.form
  obtain ⟨g, rfl, _, _, hg, hlc, hcm, hat⟩ := hs.row.at hi
  obtain ⟨c0, c1⟩ := rB.at hat
  simp only [show rB.n = 2 from rfl, show rB.zero = (0, 0) from rfl, hbe] at c0 c1
  obtain ⟨q0, q1, q2, q3⟩ := hs.p0
  have hil : (i : Int) < L.length := by omega
  have hil2 : i < L.length := hi
  have E1 := fun w => end_any pc w (by omega) (by omega)
  have E2 := fun w => end_any b w (by omega) (by omega)
  have K1 := fun w (hT : Tab w) => blocks_any b.1 pc.1 w hT h1 (by omega)
  have K2 := fun w (hT : Tab w) => blocks_any (bend pc) (bend b) w hT h2 (by omega)
  rw [← hl1] at K1
  rw [← hl2] at K2
  have hb1 : l1.length ≤ 512 := by omega
  have hb2 : l2.length ≤ 512 := by omega
  unfold bval at E1 E2 ⊢
  have HW : Hid (Below w.heap.size w (((w.alloc (.cells #[.int .i64 pc.1, .int .i64 pc.2] 56)).alloc (.cells #[.int .i64 b.1, .int .i64 b.2] 56)))) := ((Below.refl _ _).alloc (Nat.le_refl _) _).alloc (by simp) _
  have HS : Hid (Sto F w p n (.slice (some ⟨g, 0, none⟩) L.length c) L) := hs
  have HT : Hid (Tab w) := hT
  have HL : Hid (L' = L.take i ++ ((l1 ++ l2) ++ L.drop (i + 1))) := hL'
  generalize bend pc = ep at *
  generalize bend b = eb at *
  obtain ⟨p1, p2⟩ := pc
  obtain ⟨b1, b2⟩ := b
  simp only at *
  clear hat hcm hs ho hT hbe hl1 hl2 hL1 hL2 hL' hbb hpp
  go_enter Tryd.func51, Tryd.ntmps51
  go_wp2
  go_name_world W hW
  have hm0 : W.cell? ⟨w.heap.size, 0, none⟩ = some (.int .i64 p1) := by rw [← hW, cell_alloc_old (by simp)]; simp
  have hm1 : W.cell? ⟨w.heap.size, 1, none⟩ = some (.int .i64 p2) := by rw [← hW, cell_alloc_old (by simp)]; simp
  have hm2 : W.cell? ⟨w.heap.size + 1, 0, none⟩ = some (.int .i64 b1) := by rw [← hW]; simp
  have hm3 : W.cell? ⟨w.heap.size + 1, 1, none⟩ = some (.int .i64 b2) := by rw [← hW]; simp
  have hz0 : w.heap.size < W.heap.size := by rw [← hW]; simp; omega
  have hz1 : w.heap.size + 1 < W.heap.size := by rw [← hW]; simp
  have BW : Below w.heap.size w W := by rw [← hW]; exact HW.out
  have TW : Tab W.drew := (HT.out.below BW (Nat.le_refl _)).below (Below.refl _ _).drew (Nat.le_refl _)
  have HBW : Hid (Below w.heap.size w W) := BW
  have HTW : Hid (Tab W.drew) := TW
  clear hW HW BW TW HT
  generalize hA : w.heap.size = A at *
  have HA : Hid (w.heap.size = A) := hA
  clear hA
  have F1 : True := trivial
  have F2 : True := trivial
  go_region_held3 (fun w' => w'.cell? ⟨A, 0, none⟩ = some (.int .i64 p1) ∧ w'.cell? ⟨A, 1, none⟩ = some (.int .i64 p2) ∧ w'.cell? ⟨A + 1, 0, none⟩ = some (.int .i64 b1) ∧ w'.cell? ⟨A + 1, 1, none⟩ = some (.int .i64 b2)) (go_keep)
    (first
    | (go_at_call 46; clear F1; refine (K1 _ HTW.out).mono ?_; rintro e w1 ⟨u1, rfl, hr1, hb1, hn1⟩; have hx1 : ∀ q o, q < W.heap.size → w1.cell? ⟨q, o, none⟩ = W.cell? ⟨q, o, none⟩ := (fun q o hq => (bcell hb1).1 q o hq))
    | (go_at_call 53; clear F2; refine (E1 _).mono ?_; rintro e w2 ⟨rfl, hb2⟩; have hx2 : ∀ q o, q < W.heap.size → w2.cell? ⟨q, o, none⟩ = W.cell? ⟨q, o, none⟩ := (fun q o hq => ((bcell hb2).1 q o (Nat.lt_of_lt_of_le hq hb1.size)).trans (hx1 q o hq)))
    | (go_at_call 53; refine (E2 _).mono ?_; rintro e w3 ⟨rfl, hb3⟩; have hx3 : ∀ q o, q < W.heap.size → w3.cell? ⟨q, o, none⟩ = W.cell? ⟨q, o, none⟩ := (fun q o hq => ((bcell hb3).1 q o (Nat.lt_of_lt_of_le (Nat.lt_of_lt_of_le hq hb1.size) hb2.size)).trans (hx2 q o hq)))
    | (go_at_call 46; refine (K2 _ (((HTW.out.below hb1 (Nat.le_refl _)).below hb2 (Nat.le_refl _)).below hb3 (Nat.le_refl _))).mono ?_; rintro e w4 ⟨u2, rfl, hr2, hb4, hn2⟩; obtain ⟨ao2, c2, rfl⟩ := hr2.form; have hx4 : ∀ q o, q < W.heap.size → w4.cell? ⟨q, o, none⟩ = W.cell? ⟨q, o, none⟩ := (fun q o hq => ((bcell hb4).1 q o (Nat.lt_of_lt_of_le (Nat.lt_of_lt_of_le (Nat.lt_of_lt_of_le hq hb1.size) hb2.size) hb3.size)).trans (hx3 q o hq)))
    | (refine step_app' rB.kin rfl _ _ rfl W.heap.size u1 l1 l2 (by simp [Act.eval]) (((hr1.below hb2).below hb3).below hb4) ao2 l2.length c2 (by simp [Act.eval]) rfl hr2.seen.2 (by unfold maxLen; omega) (by show _ * 16 ≤ _; omega) (Nat.le_trans hb1.size (Nat.le_trans hb2.size (Nat.le_trans hb3.size hb4.size))) ?_; intro u5 w5 hr5 hg5 hw5 hn5; have hx5 : ∀ q o, q < W.heap.size → w5.cell? ⟨q, o, none⟩ = W.cell? ⟨q, o, none⟩ := (fun q o hq => (World.cell?_of_block (a := ⟨q, o, none⟩) (hg5.block q (Nat.lt_of_lt_of_le (Nat.lt_of_lt_of_le (Nat.lt_of_lt_of_le (Nat.lt_of_lt_of_le hq hb1.size) hb2.size) hb3.size) hb4.size) (fun e => Nat.lt_irrefl _ (Nat.lt_of_lt_of_le hq (hr1.lt q e.symm).1)))).trans (hx4 q o hq))))
  have hAe := HA.out
  subst hAe
  have X1 : Below W.heap.size W w1 := (Below.refl _ _).drew.trans hb1
  have X4 : Below W.heap.size W w4 := below_call' (below_call' (below_call' X1 hb2) hb3) hb4
  have X5 : Below W.heap.size W w5 := X4.grown hg5 X4.size (fun k hk => (hr1.lt k hk).1)
  have B5 : Below w.heap.size w w5 := below_call' HBW.out X5
  have S5 := HS.out.below B5
  obtain ⟨-, r1, r2, r3⟩ := S5.p0
  have hR := replace_rB (B := 0) (w := w5) (i := i) S5.row (hr5.lower (Nat.zero_le _)) (fun h => by rw [List.append_eq_nil_iff] at h; exact hn5 (hn1 h.1) h.2) (fun g' hg' e => by
    simp [Value.ownBlock] at hg'
    have := (hr5.lt g' e).1
    omega) (by rw [List.length_append]; omega) (Nat.zero_le _) hil2
  rw [← HL.out] at hR
  have HB5 : Hid (Below w.heap.size w w5) := B5
  clear hr1 hb1 hn1 hx1 hb2 hx2 hb3 hx3 hb4 hr2 hn2 hx4 hr5 hg5 hw5 hn5 hx5 X1 X4 X5 B5 S5 hm0 hm1 hm2 hm3 HBW HTW K1 K2 E1 E2
  go_wp2_with fail
  refine hR.mono ?_
  rintro e w6 ⟨v', rfl, hrow, hkeep, hwhere⟩
  obtain ⟨ao', c', rfl⟩ := hrow.form
  obtain ⟨y1, y2, y3⟩ := HS.out.turn HB5.out hrow hkeep hwhere
  generalize L'.length = n' at *
  have HY : Hid (SP F w p n L' (w6.setCell ⟨p, 1, none⟩ (.slice ao' n' c'))) := y3
  clear hR y3 hrow hkeep hwhere HS HB5
  go_wp2
  go_end0
  exact ⟨rfl, HY.out⟩
/-- A piece is carved out of a block. -/
theorem carve_any {F : Nat → Prop} {w : World} {p n : Nat} {v : Value} {L : List Bk} (hs : Sto F w p n v L) (ho : Okl n L) (hT : Tab w) (i : Nat) (hi : i < L.length) (pc b : Bk) (hbe : L.getD i (0, 0) = b) (h1 : b.1 ≤ pc.1) (h2 : bend pc ≤ bend b) (h5 : pc.2 ≤ 5) :
    Calls Tryd.prog 51 #[.pointer (some ⟨p, 0, none⟩), .int .i64 i, bval pc] w (fun e w' => ∃ L', CarveP F w p n L' e w' ∧ Okl n L' ∧ ∀ x, cov L' x ↔ cov L x ∧ ¬ inB pc x) := by
  refine (carve_core hs ho hT i hi pc b hbe h1 h2 h5 _ _ _ rfl rfl rfl).mono ?_
  intro e w' h
  have hsp : L = L.take i ++ b :: L.drop (i + 1) := by
    have := List.getElem_cons_drop hi
    rw [← hbe, List.getD_eq_getElem?_getD, List.getElem?_eq_getElem hi, Option.getD_some, this, List.take_append_drop]
  have hbm : b ∈ L := by rw [hsp]; simp
  have hbb := ho.blk hbm
  have hpp := bend_pos pc
  have hg := ho.good
  rw [hsp] at hg
  obtain ⟨g1, g2⟩ := hg.carve h1 h2 (blk_cvr h1 (show pc.1 ≤ 1048576 by omega)) (blk_cvr h2 (show bend b ≤ 1048576 by omega))
  rw [← hsp] at g2
  refine ⟨_, h, ⟨g1, fun y hy => ?_, ho.max⟩, g2⟩
  have hy1 := bend_pos y
  have hc : cov (L.take i ++ ((blkL b.1 pc.1 ++ blkL (bend pc) (bend b)) ++ L.drop (i + 1))) (bend y - 1) := ⟨y, hy, by omega, by omega⟩
  obtain ⟨z, hz, hz1, hz2⟩ := ((g2 _).1 hc).1
  have := ho.top z hz
  omega
end Go.Proofs.YtmmbfgkfidconaaDoor
/- New, Take, TakeAt; condition: the table of math/bits lies as its text lays it. -/
namespace Go.Proofs.YtmmbfgkfidconaaDoor
open Go.RowKit

theorem new_okl {n : Nat} (h : n ≤ 512) : Okl n (blkL 0 n) := by
  have hc := blk_cvr (Nat.zero_le n) (show n ≤ 1048576 by omega)
  exact ⟨hc.good, fun b hb => (hc.al b hb).2.2, h⟩
theorem new_cov {n : Nat} (h : n ≤ 512) (x : Nat) : cov (blkL 0 n) x ↔ x < n := by
  rw [(blk_cvr (Nat.zero_le n) (show n ≤ 1048576 by omega)).iff]
  omega
set_option maxHeartbeats 2000000 in
theorem new_yes (n : Nat) (w : World) (hT : Tab w) (h1 : 1 ≤ n) (h2 : n ≤ 512) :
    Calls Tryd.prog 29 #[.int .i64 n] w fun e w' => ∃ q, e = .returned (.tuple #[.pointer (some ⟨q, 0, none⟩), .nilIface]) ∧ NewS w n (blkL 0 n) q w' ∧ Below w.heap.size w w' := by
  have hB := blocks_any 0 n w hT (Nat.zero_le _) (by omega)
  generalize blkL 0 n = L at *
  go_enter Tryd.func29, Tryd.ntmps29
  go_wp2_with fail
  refine hB.mono ?_
  rintro e w1 ⟨v', rfl, hr, hb1, -⟩
  obtain ⟨ao', c', rfl⟩ := hr.form
  have HN : Hid (NewS w n L w1.heap.size (w1.alloc (.cells #[.int .i64 n, .slice ao' L.length c'] 79))) := by
    refine ⟨_, Laid.new _ _ _, (hr.lower (Nat.zero_le _)).below ((Below.refl _ _).alloc (Nat.le_refl _) _), ⟨hb1.size, by simp⟩, fun g hg => ?_, fun c hc => hc.2⟩
    have := hr.lt g hg
    exact ⟨this.1, by simp; omega⟩
  have HB : Hid (Below w.heap.size w (w1.alloc (.cells #[.int .i64 n, .slice ao' L.length c'] 79))) := hb1.alloc hb1.size _
  clear hr hb1 hB
  go_wp2
  go_ret2
  exact ⟨_, rfl, HN.out, HB.out⟩
theorem new_no (z : Int) (w : World) (h : ¬ (1 ≤ z ∧ z ≤ 512)) :
    Calls Tryd.prog 29 #[.int .i64 z] w fun e w' => e = .returned (.tuple #[.pointer none, .iface 28 (.int .i64 1)]) ∧ w' = w := by
  by_cases h1 : 1 ≤ z
  · have h2 : ¬ z ≤ 512 := by omega
    clear h
    go_enter Tryd.func29, Tryd.ntmps29
    go_wp2
    go_ret2
    exact ⟨rfl, rfl⟩
  · clear h
    go_enter Tryd.func29, Tryd.ntmps29
    go_wp2
    go_ret2
    exact ⟨rfl, rfl⟩

/-- Take's answers. -/
def TakeP (F : Nat → Prop) (w : World) (p n : Nat) (L : List Bk) (o : Nat) (e : Ending) (w' : World) : Prop :=
  match lst o L L.length with
  | none => e = .returned (.tuple #[.int .i64 0, .iface 28 (.int .i64 5)]) ∧ Below w.heap.size w w'
  | some m => e = .returned (.tuple #[.int .i64 (L.getD m (0, 0)).1, .nilIface]) ∧ ∃ L', SP F w p n L' w' ∧ Okl n L' ∧ ∀ x, cov L' x ↔ cov L x ∧ ¬ inB ((L.getD m (0, 0)).1, o) x
/-- All frames of a block are free. -/
def allB (L : List Bk) (b : Bk) (f : Bool) : Prop := ∀ x, inB b x → covB L x = f
theorem Good.at_iff {n : Nat} {L : List Bk} (ho : Okl n L) {b : Bk} (hb : alB b) : (∃ c, L[behind L b.1]? = some c ∧ c.1 ≤ b.1 ∧ b.2 ≤ c.2) ↔ allB L b true := by
  constructor
  · rintro ⟨c, hc, h1, h2⟩ x hx
    have hcm := List.mem_of_getElem? hc
    have hal := ho.good.al c hcm
    have h3 := (behind_split L b.1).2 c hc
    have hn := nest (a := b) (b := c) hb.2 hal.2 h2 ⟨Nat.le_refl _, bend_pos b⟩ ⟨h1, h3⟩
    exact (covB_iff _ _).2 ⟨c, hcm, by have := hx.1; omega, by have := hx.2; omega⟩
  · intro h
    obtain ⟨c, hc, h1, h2, h3⟩ := ho.good.within hb.2 hb.1 fun x hx => (covB_iff _ _).1 (h x hx)
    obtain ⟨i, hi⟩ := List.getElem?_of_mem hc
    have hbp := bend_pos b
    have hm := (behind_mono ho.good.sorted b.1 i c hi).1 (by omega)
    rcases Nat.lt_or_ge (behind L b.1) i with c' | c'
    · exfalso
      have hlt : behind L b.1 < L.length := Nat.lt_trans c' (List.getElem?_eq_some_iff.1 hi).1
      have h4 := List.pairwise_iff_getElem.1 ho.good.sorted _ _ hlt (List.getElem?_eq_some_iff.1 hi).1 c'
      rw [(List.getElem?_eq_some_iff.1 hi).2] at h4
      have h5 := (behind_split L b.1).2 _ (List.getElem?_eq_getElem hlt)
      omega
    · have e : behind L b.1 = i := by omega
      rw [e]
      exact ⟨c, hi, h1, h3⟩

/-- TakeAt's answers. -/
def TakeAtP (F : Nat → Prop) (w : World) (p n : Nat) (L : List Bk) (b : Bk) (e : Ending) (w' : World) : Prop :=
  (allB L b true → e = .returned .nilIface ∧ ∃ L', SP F w p n L' w' ∧ Okl n L' ∧ ∀ x, cov L' x ↔ cov L x ∧ ¬ inB b x) ∧ (¬ allB L b true → e = .returned (.iface 28 (.int .i64 7)) ∧ Below w.heap.size w w')
set_option maxHeartbeats 2000000 in
theorem takeAt_no {F : Nat → Prop} {w : World} {p n : Nat} {v : Value} {L : List Bk} (hs : Sto F w p n v L) (ho : Okl n L) (z o : Int) (hz : -9223372036854775808 ≤ z ∧ z ≤ 9223372036854775807) (h : hasB n z o = false) :
    Calls Tryd.prog 37 #[.pointer (some ⟨p, 0, none⟩), .int .i64 z, .int .i64 o] w fun e w' => e = .returned (.iface 28 (.int .i64 1)) ∧ Below w.heap.size w w' := by
  have hH := hasBlock_any hs ho.max z o hz
  rw [h] at hH
  clear hs ho h
  go_enter Tryd.func37, Tryd.ntmps37
  go_wp2_with fail
  refine hH.mono ?_
  rintro e w1 ⟨rfl, hb⟩
  go_wp2
  go_ret
  exact ⟨rfl, hb⟩
set_option maxHeartbeats 2000000 in
theorem takeAt_any {F : Nat → Prop} {w : World} {p n : Nat} {v : Value} {L : List Bk} (hs : Sto F w p n v L) (ho : Okl n L) (hT : Tab w) (b : Bk) (hb : alB b) (hbn : bend b ≤ n) :
    Calls Tryd.prog 37 #[.pointer (some ⟨p, 0, none⟩), .int .i64 b.1, .int .i64 b.2] w (TakeAtP F w p n L b) := by
  have hmx := ho.max
  have hbp := bend_pos b
  have hH := hasBlock_any hs ho.max b.1 b.2 (by omega)
  rw [hasB_of hb hbn] at hH
  have hE := fun w (hs : Sto F w p n v L) => endsBehind_any hs ho b.1
  have hU := fun w (hs : Sto F w p n v L) => beginsUpTo_any hs (behind L b.1) b.1
  simp only [Int.toNat_natCast] at hE
  have HA : Hid ((∃ c, L[behind L b.1]? = some c ∧ c.1 ≤ b.1 ∧ b.2 ≤ c.2) ↔ allB L b true) := Good.at_iff ho hb
  have hC := fun w (hs : Sto F w p n v L) (hT : Tab w) => carve_any hs ho hT (behind L b.1)
  obtain ⟨ao, c, rfl⟩ := hs.row.form
  have HS : Hid (Sto F w p n (.slice ao L.length c) L) := hs
  have HT : Hid (Tab w) := hT
  have hL := ho.len
  have hnest : ∀ c, L[behind L b.1]? = some c → c.1 ≤ b.1 → b.2 ≤ c.2 → bend b ≤ bend c := fun c hc h1 h2 =>
    (nest (a := b) (b := c) hb.2 (ho.good.al c (List.mem_of_getElem? hc)).2 h2 ⟨Nat.le_refl _, hbp⟩ ⟨h1, (behind_split L b.1).2 c hc⟩).2
  have h5 := hb.1
  clear hs ho hT
  obtain ⟨i, hie⟩ : ∃ i, i = behind L b.1 := ⟨_, rfl⟩
  rw [← hie] at hE hU HA hC hnest
  clear hie
  cases hc : L[i]? with
  | none =>
    have hna : ¬ allB L b true := fun h => by
      obtain ⟨c, h1, _⟩ := HA.out.2 h
      rw [hc] at h1
      cases h1
    have hu : upTo L i b.1 = false := by unfold upTo; rw [hc]
    rw [hu] at hU
    have HN : Hid (¬ allB L b true) := hna
    clear hna HA hC hnest hc hu
    go_enter Tryd.func37, Tryd.ntmps37
    go_wp2_with fail
    refine hH.mono ?_
    rintro e w1 ⟨rfl, hb1⟩
    have hE1 := hE w1 (HS.out.below hb1)
    clear hH hE
    go_wp2_with fail
    refine hE1.mono ?_
    rintro e w2 ⟨rfl, hb2⟩
    have hb3 := below_call' hb1 hb2
    have hU1 := hU w2 (HS.out.below hb3)
    clear hE1 hU hb1 hb2
    go_wp2_with (go_at_call 50; refine hU1.mono ?_; rintro e w3 ⟨rfl, hw⟩; obtain rfl := hw.symm; clear hw)
    go_ret
    exact ⟨fun h => absurd h HN.out, fun _ => ⟨rfl, hb3⟩⟩
  | some c' =>
    have hil := (List.getElem?_eq_some_iff.1 hc).1
    have hilz : (i : Int) < (L.length : Int) := by omega
    have hgd : L.getD i (0, 0) = c' := by rw [List.getD_eq_getElem?_getD, hc]; rfl
    have hu : upTo L i b.1 = decide (c'.1 ≤ b.1) := by unfold upTo; rw [hc]; simp
    rw [hu] at hU
    have hiff : allB L b true ↔ c'.1 ≤ b.1 ∧ b.2 ≤ c'.2 := by
      rw [← HA.out]
      constructor
      · rintro ⟨c, h1, h2⟩
        rw [hc] at h1
        cases h1
        exact h2
      · intro h
        exact ⟨c', hc, h⟩
    have HI : Hid (allB L b true ↔ c'.1 ≤ b.1 ∧ b.2 ≤ c'.2) := hiff
    have HN : Hid (c'.1 ≤ b.1 → b.2 ≤ c'.2 → bend b ≤ bend c') := hnest c' hc
    clear hiff HA hnest hc hu
    go_enter Tryd.func37, Tryd.ntmps37
    go_wp2_with fail
    refine hH.mono ?_
    rintro e w1 ⟨rfl, hb1⟩
    have hE1 := hE w1 (HS.out.below hb1)
    clear hH hE
    go_wp2_with fail
    refine hE1.mono ?_
    rintro e w2 ⟨rfl, hb2⟩
    have hb3 := below_call' hb1 hb2
    have S2 := HS.out.below hb3
    have hU1 := hU w2 S2
    have T2 := HT.out.below hb3 (Nat.le_refl _)
    obtain ⟨q0, q1, q2, q3⟩ := S2.p0
    obtain ⟨g, rfl, _, _, hg, _, _, hat⟩ := S2.row.at hil
    obtain ⟨c0, c1⟩ := rB.at hat
    simp only [show rB.n = 2 from rfl, show rB.zero = (0, 0) from rfl, hgd] at c0 c1
    have HB : Hid (Below w.heap.size w w2) := hb3
    clear hE1 hU hb1 hb2 hat hb3
    by_cases h1 : c'.1 ≤ b.1
    · rw [decide_eq_true h1] at hU1
      by_cases h2 : b.2 ≤ c'.2
      · have hC2 := hC w2 S2 T2 hil b c' hgd h1 (HN.out h1 h2) h5
        have hn2 : ¬ (c'.2 : Int) < b.2 := by omega
        unfold bval at hC2
        clear hC S2 T2
        go_wp2_with (go_at_call 50; refine hU1.mono ?_; rintro e w3 ⟨rfl, hw⟩; obtain rfl := hw.symm; clear hw)
        refine hC2.mono ?_
        rintro e w3 ⟨L', ⟨rfl, hsp⟩, hok, hcv⟩
        have HX : Hid (∃ L', SP F w p n L' w3 ∧ Okl n L' ∧ ∀ x, cov L' x ↔ cov L x ∧ ¬ inB b x) := ⟨L', hsp.after HS.out.lt HB.out, hok, hcv⟩
        clear hsp hok hcv hC2
        go_wp2
        go_ret
        exact ⟨fun _ => ⟨rfl, HX.out⟩, fun h => absurd (HI.out.2 ⟨h1, h2⟩) h⟩
      · have hn2 : (c'.2 : Int) < b.2 := by omega
        clear hC S2 T2
        go_wp2_with (go_at_call 50; refine hU1.mono ?_; rintro e w3 ⟨rfl, hw⟩; obtain rfl := hw.symm; clear hw)
        go_ret
        exact ⟨fun h => absurd (HI.out.1 h).2 h2, fun _ => ⟨rfl, HB.out⟩⟩
    · rw [decide_eq_false h1] at hU1
      clear hC S2 T2
      go_wp2_with (go_at_call 50; refine hU1.mono ?_; rintro e w3 ⟨rfl, hw⟩; obtain rfl := hw.symm; clear hw)
      go_ret
      exact ⟨fun h => absurd (HI.out.1 h).1 h1, fun _ => ⟨rfl, HB.out⟩⟩
end Go.Proofs.YtmmbfgkfidconaaDoor
/- What (*buddy.Store).joined does. -/
namespace Go.Proofs.YtmmbfgkfidconaaDoor
open Go.RowKit

theorem eqR_run (a b : Bk) (w : World) : (Op.equalIn 10000 56 (bval a) (bval b)).run Tryd.prog w = .ok (decide (a = b)) w := by
  have hi : ∀ (n : Nat) (x y : Int) (w : World), (Op.equalIn (n + 1) 3 (.int .i64 x) (.int .i64 y)).run Tryd.prog w = .ok (x == y) w := fun n x y w => run_equalIn_int w n 3 .i64 .i64 x y Tryd.underlying3
  unfold bval
  rw [run_equalIn_agg w 9999 _ _ _ (by kernel_rfl) (by kernel_rfl)]
  obtain ⟨a1, a2⟩ := a
  obtain ⟨b1, b2⟩ := b
  simp [go_sem, Program.fieldsOf, Tryd.underlying56, Op.eqFields, hi]
  refine dite (a1 = b1) (fun h1 => ?_) (fun h1 => by simp [h1]; omega)
  by_cases h2 : a2 = b2
  · simp [h1, h2]
  · simp [h1, h2]
    omega
theorem eql_run (a b : Bk) (w : World) : (binOp .eql 56 (bval a) (bval b)).run Tryd.prog w = .ok (.bool (decide (a = b))) w := by
  have := eqR_run a b w
  unfold bval at *
  rw [run_eql_struct, this]
  rfl
theorem neq_run (a b : Bk) (w : World) : (binOp .neq 56 (bval a) (bval b)).run Tryd.prog w = .ok (.bool (!decide (a = b))) w := by
  have := eqR_run a b w
  unfold bval at *
  rw [run_neq_struct, this]
  rfl

/-- One of the list is left out. -/
theorem Good.without {L : List Bk} (g : Good L) {i : Nat} {o : Bk} (h : L[i]? = some o) : Good (L.take i ++ L.drop (i + 1)) ∧ ∀ x, cov L x ↔ cov (L.take i ++ L.drop (i + 1)) x ∨ inB o x := by
  have hi := (List.getElem?_eq_some_iff.1 h).1
  have hsp : L = L.take i ++ o :: L.drop (i + 1) := by
    have h1 := List.getElem_cons_drop hi
    rw [(List.getElem?_eq_some_iff.1 h).2] at h1
    rw [h1, List.take_append_drop]
  refine ⟨g.sub ?_, fun x => ?_⟩
  · have : (L.take i ++ L.drop (i + 1)).Sublist (L.take i ++ o :: L.drop (i + 1)) := List.Sublist.append_left (List.sublist_cons_self _ _) _
    rwa [← hsp] at this
  · have := cov_insert (A := L.take i) (C := L.drop (i + 1)) (b := o) x
    rwa [← hsp] at this
theorem Good.once {L : List Bk} (g : Good L) {i : Nat} {o : Bk} (h : L[i]? = some o) {x : Nat} (hx : inB o x) : ¬ cov (L.take i ++ L.drop (i + 1)) x := by
  have hi := (List.getElem?_eq_some_iff.1 h).1
  have hsp : L = L.take i ++ o :: L.drop (i + 1) := by
    have h1 := List.getElem_cons_drop hi
    rw [(List.getElem?_eq_some_iff.1 h).2] at h1
    rw [h1, List.take_append_drop]
  have hs := g.sorted
  rw [hsp, List.pairwise_append, List.pairwise_cons] at hs
  obtain ⟨_, ⟨s2, _⟩, s4⟩ := hs
  rintro ⟨c, hc, h1, h2⟩
  rcases List.mem_append.1 hc with hc | hc
  · have := s4 c hc o (by simp)
    have := hx.1
    omega
  · have := s2 c hc
    have := hx.2
    omega

/-- What joining keeps: a block apart from a list, both covering what was. -/
structure Jn (n : Nat) (L0 : List Bk) (b0 : Bk) (L : List Bk) (b : Bk) : Prop where
  ok : Okl n L
  al : alB b
  top : bend b ≤ n
  apart : ∀ x, inB b x → ¬ cov L x
  all : ∀ x, cov L x ∨ inB b x ↔ cov L0 x ∨ inB b0 x
theorem Jn.step {n : Nat} {L0 L : List Bk} {b0 b : Bk} (h : Jn n L0 b0 L b) (h5 : b.2 < 5) {i : Nat} (hi : L[i]? = some (bud b)) : Jn n L0 b0 (L.take i ++ L.drop (i + 1)) (par b) := by
  obtain ⟨g1, g2⟩ := h.ok.good.without hi
  have hmem := List.mem_of_getElem? hi
  refine ⟨⟨g1, fun y hy => h.ok.top y ?_, h.ok.max⟩, par_al h.al h5, ?_, fun x hx hc => ?_, fun x => ?_⟩
  · rcases List.mem_append.1 hy with hy | hy
    · exact List.mem_of_mem_take hy
    · exact List.mem_of_mem_drop hy
  · have t1 := h.top
    have t2 := h.ok.top _ hmem
    rcases par_cases h.al.2 with ⟨_, e1, e2⟩ | ⟨_, h1, _, e1, e2⟩
    · rw [e1] at t2
      rw [e2]
      unfold bend at *
      simp only [Nat.pow_succ] at *
      omega
    · rw [e2]
      unfold bend at *
      simp only [Nat.pow_succ] at *
      omega
  · rcases (par_in h.al.2 x).1 hx with h1 | h1
    · exact h.apart x h1 ((g2 x).2 (Or.inl hc))
    · exact h.ok.good.once hi h1 hc
  · rw [← h.all x, g2 x, par_in h.al.2 x]
    constructor
    · rintro (h1 | h1 | h1)
      · exact Or.inl (Or.inl h1)
      · exact Or.inr h1
      · exact Or.inl (Or.inr h1)
    · rintro ((h1 | h1) | h1)
      · exact Or.inl h1
      · exact Or.inr (Or.inr h1)
      · exact Or.inr (Or.inl h1)
/-- Joined to the end: put in its place, it is a list of blocks. -/
theorem Jn.done {n : Nat} {L0 L : List Bk} {b0 b : Bk} (h : Jn n L0 b0 L b) (hj : b.2 < 5 → bud b ∉ L) : Okl n (L.take (behind L b.1) ++ ([b] ++ L.drop (behind L b.1))) ∧ ∀ x, cov (L.take (behind L b.1) ++ ([b] ++ L.drop (behind L b.1))) x ↔ cov L0 x ∨ inB b0 x := by
  obtain ⟨i, hi⟩ : ∃ i, i = behind L b.1 := ⟨_, rfl⟩
  rw [← hi]
  have hap := h.apart
  have hbp := bend_pos b
  have hc : ∀ c ∈ L.drop i, bend b ≤ c.1 := by
    intro c hc
    obtain ⟨k, hk⟩ := List.getElem?_of_mem hc
    rw [List.getElem?_drop] at hk
    have h1 := (behind_mono h.ok.good.sorted b.1 (i + k) c hk).2 (by omega)
    have hcm := List.mem_of_getElem? hk
    have h2 : ¬ c.1 ≤ b.1 := fun e => hap b.1 ⟨Nat.le_refl _, hbp⟩ ⟨c, hcm, e, h1⟩
    have h3 : ¬ c.1 < bend b := fun e => hap c.1 ⟨by omega, e⟩ ⟨c, hcm, Nat.le_refl _, bend_pos c⟩
    omega
  have ha : ∀ a ∈ L.take i, bend a ≤ b.1 := by rw [hi]; exact (behind_split L b.1).1
  have hg := h.ok.good
  rw [← List.take_append_drop i L] at hg hj
  have hG := hg.insert h.al ha hc hj
  refine ⟨⟨hG, fun y hy => ?_, h.ok.max⟩, fun x => ?_⟩
  · rcases List.mem_append.1 hy with hy | hy
    · exact h.ok.top y (List.mem_of_mem_take hy)
    · rcases List.mem_cons.1 hy with rfl | hy
      · exact h.top
      · exact h.ok.top y (List.mem_of_mem_drop hy)
  · have h1 := cov_insert (A := L.take i) (C := L.drop i) (b := b) x
    rw [List.take_append_drop] at h1
    exact h1.trans (h.all x)

/-- What joined tells. -/
def JoinP (F : Nat → Prop) (w : World) (p n : Nat) (L0 : List Bk) (b0 : Bk) (e : Ending) (w' : World) : Prop := ∃ L b, e = .returned (bval b) ∧ SP F w p n L w' ∧ Jn n L0 b0 L b ∧ (b.2 < 5 → bud b ∉ L)

/-- What holds at the head of its loop. -/
structure JI (F : Nat → Prop) (w : World) (p n : Nat) (ao : Option Addr) (c : Nat) (L0 : List Bk) (b0 : Bk) (W : World) (L : List Bk) (b : Bk) : Prop where
  sto : Sto F W p n (.slice ao L.length c) L
  jn : Jn n L0 b0 L b
  blk : Laid W w.heap.size 56 #[.int .i64 b.1, .int .i64 b.2]
  res : Laid W (w.heap.size + 1) 56 #[.int .i64 0, .int .i64 0]
  keep : Keeps w W F
theorem JI.below {F : Nat → Prop} {w : World} {p n : Nat} {ao : Option Addr} {c : Nat} {L0 : List Bk} {b0 : Bk} {W W' : World} {L : List Bk} {b : Bk} (h : JI F w p n ao c L0 b0 W L b) (hb : Below W.heap.size W W') : JI F w p n ao c L0 b0 W' L b :=
  ⟨h.sto.below hb, h.jn, h.blk.below hb, h.res.below hb, h.keep.trans (Keeps.of_below hb F) fun _ _ e => e⟩
/-- The result is written. -/
theorem JI.out {F : Nat → Prop} {w : World} {p n : Nat} {ao : Option Addr} {c : Nat} {L0 : List Bk} {b0 : Bk} {W W' : World} {L : List Bk} {b : Bk} (h : JI F w p n ao c L0 b0 W L b) (hF : ∀ c, F c → c < w.heap.size) (hk : Keeps W W' (fun b => b = w.heap.size + 1)) : SP F w p n L W' := by
  have hs := h.sto.keeps hk fun c hc e => by have := hF c hc; omega
  exact ⟨_, ⟨hs.laid, hs.row, Or.inl hs.fp, fun g hg => Or.inl (hs.fv g hg), fun c hc => hc.elim (hs.lt c) fun e => e.2⟩, h.keep.trans hk fun c hc e => by omega⟩
/-- The buddy is left out, the block is both. -/
theorem JI.next {F : Nat → Prop} {w : World} {p n g : Nat} {c : Nat} {L0 L L' : List Bk} {b0 b pb : Bk} {W W4 : World} (h : JI F w p n (some ⟨g, 0, none⟩) c L0 b0 W L b) (hF : ∀ c, F c → c < w.heap.size) (hr : Row rB 0 W4 (.slice (some ⟨g, 0, none⟩) L'.length c) L') (hk : Keeps W W4 (fun b => b = g)) (hj : Jn n L0 b0 L' pb) :
    Laid W4 p 79 #[.int .i64 n, .slice (some ⟨g, 0, none⟩) L.length c] ∧ Laid W4 w.heap.size 56 #[.int .i64 b.1, .int .i64 b.2] ∧ p < w.heap.size ∧ g < w.heap.size ∧ JI F w p n (some ⟨g, 0, none⟩) c L0 b0 (((W4.setCell ⟨p, 1, none⟩ (.slice (some ⟨g, 0, none⟩) L'.length c)).setCell ⟨w.heap.size, 0, none⟩ (.int .i64 pb.1)).setCell ⟨w.heap.size, 1, none⟩ (.int .i64 pb.2)) L' pb := by
  have hp := hF p h.sto.fp
  have hg := hF g (h.sto.fv g rfl)
  have hpg : p ≠ g := fun e => h.sto.ne (by rw [e]; rfl)
  have hl4 : Laid W4 p 79 #[.int .i64 n, .slice (some ⟨g, 0, none⟩) L.length c] := (hk.block p h.sto.laid.lt hpg).trans h.sto.laid
  have hb4 : Laid W4 w.heap.size 56 #[.int .i64 b.1, .int .i64 b.2] := (hk.block _ h.blk.lt (by omega)).trans h.blk
  have hr4 : Laid W4 (w.heap.size + 1) 56 #[.int .i64 0, .int .i64 0] := (hk.block _ h.res.lt (by omega)).trans h.res
  refine ⟨hl4, hb4, hp, hg, ?_⟩
  obtain ⟨W5, hW5⟩ : ∃ W5, W5 = W4.setCell ⟨p, 1, none⟩ (.slice (some ⟨g, 0, none⟩) L'.length c) := ⟨_, rfl⟩
  obtain ⟨W6, hW6⟩ : ∃ W6, W6 = (W5.setCell ⟨w.heap.size, 0, none⟩ (.int .i64 pb.1)).setCell ⟨w.heap.size, 1, none⟩ (.int .i64 pb.2) := ⟨_, rfl⟩
  rw [← hW5, ← hW6]
  have k5 : Keeps W4 W5 (fun b => b = p) := by rw [hW5]; exact Keeps.set _ _ _ _
  have k6 : Keeps W5 W6 (fun b => b = w.heap.size) := by rw [hW6]; exact (Keeps.set _ _ _ _).trans (Keeps.set _ _ _ _) fun _ _ h => h
  have hl5 : Laid W5 p 79 #[.int .i64 n, .slice (some ⟨g, 0, none⟩) L'.length c] := by rw [hW5]; exact heap_setCell_same W4 p 1 _ _ _ hl4
  have hb5 : Laid W5 w.heap.size 56 #[.int .i64 b.1, .int .i64 b.2] := (k5.block _ hb4.lt (by omega)).trans hb4
  have hb6 : Laid W6 w.heap.size 56 #[.int .i64 pb.1, .int .i64 pb.2] := by
    rw [hW6]
    exact heap_setCell_same _ _ 1 _ _ _ (heap_setCell_same W5 _ 0 _ _ _ hb5)
  have k46 : Keeps W4 W6 (fun b => b = p ∨ b = w.heap.size) := (k5.mono fun _ _ e => Or.inl e).trans (k6.mono fun _ _ e => Or.inr e) fun _ _ e => e
  refine ⟨⟨(k6.block p hl5.lt (by omega)).trans hl5, k46.row hr fun g' hg' e => ?_, h.sto.fp, fun g' hg' => ?_, fun c hc => ?_⟩, hj, hb6, ?_, ?_⟩
  · simp [Value.ownBlock] at hg'
    omega
  · simp [Value.ownBlock] at hg'
    subst hg'
    exact h.sto.fv _ rfl
  · have := h.sto.lt c hc
    have := hk.size
    have := k46.size
    omega
  · exact (k46.block _ hr4.lt (by omega)).trans hr4
  · refine (h.keep.trans (hk.mono (s' := F) fun b _ e => ?_) fun _ _ e => e).trans k46 fun b hb e => ?_
    · rw [e]; exact h.sto.fv g rfl
    · rcases e with e | e
      · rw [e]; exact h.sto.fp
      · omega

set_option maxRecDepth 100000 in
set_option maxHeartbeats 4000000 in
theorem joined_any {F : Nat → Prop} {w : World} {p n : Nat} {v : Value} {L0 : List Bk} (hs : Sto F w p n v L0) (b0 : Bk) (hj : Jn n L0 b0 L0 b0) :
    Calls Tryd.prog 54 #[.pointer (some ⟨p, 0, none⟩), bval b0] w (JoinP F w p n L0 b0) := by
  obtain ⟨ao, c, rfl⟩ := hs.row.form
  have HF : Hid (∀ c, F c → c < w.heap.size) := hs.lt
  have HI0 : Hid (JI F w p n ao c L0 b0 ((w.alloc (.cells #[.int .i64 b0.1, .int .i64 b0.2] 56)).alloc (.cells #[.int .i64 0, .int .i64 0] 56)) L0 b0) := by
    have hb : Below w.heap.size w ((w.alloc (.cells #[.int .i64 b0.1, .int .i64 b0.2] 56)).alloc (.cells #[.int .i64 0, .int .i64 0] 56)) := ((Below.refl _ _).alloc (Nat.le_refl _) _).alloc (by simp) _
    refine ⟨hs.below hb, hj, (Laid.new w _ _).below ((Below.refl _ _).alloc (Nat.le_refl _) _), ?_, Keeps.of_below hb F⟩
    have := Laid.new (w.alloc (.cells #[.int .i64 b0.1, .int .i64 b0.2] 56)) 56 #[.int .i64 0, .int .i64 0]
    simpa using this
  clear hs hj
  unfold bval
  go_enter Tryd.func54, Tryd.ntmps54
  go_wp2
  go_loopw [5, 6] (fun _ _ W => ∃ (L : List Bk) (b : Bk) (d : Nat), W.cell? ⟨w.heap.size, 1, none⟩ = some (.int .i64 d) ∧ Hid (d = b.2) ∧ Hid (JI F w p n ao c L0 b0 W L b)) (fun _ _ W => 5 - (match W.cell? ⟨w.heap.size, 1, none⟩ with | some (.int _ z) => z.toNat | _ => 0))
  case atStart => exact ⟨L0, b0, b0.2, by rw [HI0.out.blk.cell]; rfl, rfl, HI0⟩
  case round =>
    obtain ⟨L, b, d, hcell, HD, HI⟩ := hrel
    clear HI0
    have hd := HD.out
    subst hd
    have hI := HI.out
    have h5 := hI.jn.al.1
    have c0 := hI.blk.cell 0
    have c1 := hI.blk.cell 1
    have r0 := hI.res.cell 0
    have r1 := hI.res.cell 1
    have fz := hI.blk.frozen
    have rz := hI.res.frozen
    have lz := hI.res.lt
    simp at c0 c1 r0 r1
    by_cases hlt : b.2 < 5
    · have hltz : (b.2 : Int) < 5 := by omega
      have ht := hI.jn.top
      have hmx := hI.jn.ok.max
      have hbp := bend_pos b
      have HCW : Hid (wr.cell? ⟨w.heap.size, 1, none⟩ = some (.int .i64 b.2)) := hcell
      have hB := buddy_any b wr (by omega) (by omega)
      unfold bval at hB
      clear hI
      go_wp2_with fail
      refine hB.mono ?_
      rintro e w1 ⟨rfl, hb1⟩
      obtain ⟨ob, hob⟩ : ∃ ob, ob = bud b := ⟨_, rfl⟩
      rw [← hob]
      have hb2 : Below wr.heap.size wr (w1.alloc (.cells #[.int .i64 ob.1, .int .i64 ob.2] 56)) := hb1.alloc hb1.size _
      have I2 := HI.out.below hb2
      have hE := endsBehind_any I2.sto I2.jn.ok ob.1
      rw [Int.toNat_natCast] at hE
      have HOB : Hid (ob = bud b) := hob
      have HB2 : Hid (Below wr.heap.size wr (w1.alloc (.cells #[.int .i64 ob.1, .int .i64 ob.2] 56))) := hb2
      have HL1 : Hid (Laid (w1.alloc (.cells #[.int .i64 ob.1, .int .i64 ob.2] 56)) w1.heap.size 56 #[.int .i64 ob.1, .int .i64 ob.2]) := Laid.new _ _ _
      have hz1 : wr.heap.size ≤ w1.heap.size := hb1.size
      have HF1 : Hid (L[behind L ob.1]? = some ob ↔ ob ∈ L) := (I2.jn.ok.good.find_iff ob).symm
      have hlen := I2.jn.ok.len
      clear hb1 hb2 I2 hob hB hcell
      go_wp2_with fail
      refine hE.mono ?_
      rintro e w2 ⟨rfl, hb3⟩
      have I3 := (HI.out.below HB2.out).below hb3
      have hol := HL1.out.below hb3
      have o0 := hol.cell 0
      have o1 := hol.cell 1
      have c0 := I3.blk.cell 0
      have c1 := I3.blk.cell 1
      have r0 := I3.res.cell 0
      have r1 := I3.res.cell 1
      have fz := I3.blk.frozen
      have rz := I3.res.frozen
      have lz := I3.res.lt
      simp at c0 c1 r0 r1 o0 o1
      obtain ⟨q0, q1, q2, q3⟩ := I3.sto.p0
      have HI3 : Hid (JI F w p n ao c L0 b0 w2 L b) := I3
      obtain ⟨i, hie⟩ : ∃ i, i = behind L ob.1 := ⟨_, rfl⟩
      rw [← hie] at HF1 ⊢
      have hile : i ≤ L.length := by rw [hie]; exact behind_le _ _
      have HOL : Hid (Laid w2 w1.heap.size 56 #[.int .i64 ob.1, .int .i64 ob.2]) := hol
      clear hE HB2 HL1 HI hie hol hb3
      cases hc : L[i]? with
      | none =>
        have hil : (i : Int) = (L.length : Int) := by have := List.getElem?_eq_none_iff.1 hc; omega
        have hil' : ((i : Int) == (L.length : Int)) = true := by simp [hil]
        have hno : bud b ∉ L := by
          rw [← HOB.out, ← HF1.out, hc]
          simp
        have HN : Hid (bud b ∉ L) := hno
        clear hno hc I3 HF1 hil
        go_wp2
        go_quiet (fail)
        go_wp2
        refine bodyPost_ret (v := .agg #[.int .i64 b.1, .int .i64 b.2]) ?_ rfl ⟨L, b, rfl, ?_, HI3.out.jn, fun _ => HN.out⟩
        · simp [results, Tryd.results54, go_sem, r0, r1]
        · exact (HI3.out.below (below_drewN (Below.refl _ _) _)).out HF.out ((Keeps.set _ _ _ _).trans (Keeps.set _ _ _ _) fun _ _ h => h)
      | some cb =>
        have hil := (List.getElem?_eq_some_iff.1 hc).1
        have hilz : (i : Int) < (L.length : Int) := by omega
        have hil' : ((i : Int) == (L.length : Int)) = false := by simp; omega
        have hgd : L.getD i (0, 0) = cb := by rw [List.getD_eq_getElem?_getD, hc]; rfl
        obtain ⟨g, rfl, _, _, hg, _, _, hat⟩ := I3.sto.row.at hil
        obtain ⟨d0, d1⟩ := rB.at hat
        simp only [show rB.n = 2 from rfl, show rB.zero = (0, 0) from rfl, hgd] at d0 d1
        have hne := fun w => neq_run cb ob w
        unfold bval at hne
        by_cases heq : cb = ob
        · subst heq
          rw [show (!decide (cb = cb)) = false by simp] at hne
          have hjn := I3.jn.step hlt (i := i) (by rw [← HOB.out]; exact hc)
          obtain ⟨pb, hpb⟩ : ∃ pb, pb = par b := ⟨_, rfl⟩
          rw [← hpb] at hjn
          have hm1 : min (b.1 : Int) (cb.1 : Int) = (pb.1 : Int) := by rw [hpb, HOB.out]; unfold par; simp only; omega
          have hm2 : (b.2 : Int) + 1 = (pb.2 : Int) := by rw [hpb]; unfold par; simp
          have HM2 : Hid (b.2 + 1 = pb.2) := (by omega : b.2 + 1 = pb.2)
          have HD := fun nq => deleteI_rB (I3.sto.row.below (below_drewN (Below.refl _ _) nq)) i hil
          have HJ : Hid (Jn n L0 b0 (L.take i ++ L.drop (i + 1)) pb) := hjn
          have HD' : Hid _ := HD
          have hw1w : w.heap.size + 1 < w1.heap.size := by omega
          clear hjn hc I3 HF1 hgd hat HD hpb
          go_wp2
          go_quiet (fail)
          have hD := HD'.out nq
          generalize L.take i ++ L.drop (i + 1) = L' at *
          go_wp2_with fail
          refine hD.mono ?_
          rintro e w4 ⟨rfl, hr4, hk4⟩
          have HI5 := HI3.out.below (below_drewN (Below.refl w2.heap.size w2) nq)
          obtain ⟨y1, y2, y3, y4, y5⟩ := HI5.next HF.out hr4 hk4 HJ.out
          have u0 := y1.cell 1
          have u1 := y1.frozen 1
          have u2 := y2.cell 0
          have u3 := y2.cell 1
          have u4 := y2.frozen
          have u7 := y1.lt
          have u8 := y2.lt
          have hol4 : Laid w4 w1.heap.size 56 #[.int .i64 cb.1, .int .i64 cb.2] := (hk4.block _ (HOL.out.lt) (by omega)).trans (HOL.out.below (below_drewN (Below.refl _ _) nq))
          have u5 := hol4.cell 0
          have u6 := hol4.lt
          simp at u0 u2 u3 u5
          have hne1 : ¬ (p = w.heap.size) := by omega
          have hne2 : ¬ (p = w1.heap.size) := by omega
          have hne3 : ¬ (w.heap.size = w1.heap.size) := by omega
          have HY : Hid _ := y5
          clear y1 y2 y5 HI5 hr4 hk4 hol4 HD' hD HI3 HOL HJ c0 c1 r0 r1 o0 o1 d0 d1 fz rz lz q0 q1 q2 q3
          go_wp2
          go_roundw
          case rel => exact ⟨L', pb, pb.2, by rw [HY.out.blk.cell]; rfl, rfl, HY⟩
          case measure =>
            rw [HY.out.blk.cell, HCW.out]
            have := HM2.out
            simp
            omega
        · rw [show (!decide (cb = ob)) = true by simp [heq]] at hne
          have hno : bud b ∉ L := by
            rw [← HOB.out, ← HF1.out, hc]
            simpa using heq
          have HN : Hid (bud b ∉ L) := hno
          clear hno hc I3 HF1 heq hgd hat
          go_wp2
          go_quiet (fail)
          go_wp2
          refine bodyPost_ret (v := .agg #[.int .i64 b.1, .int .i64 b.2]) ?_ rfl ⟨L, b, rfl, ?_, HI3.out.jn, fun _ => HN.out⟩
          · simp [results, Tryd.results54, go_sem, r0, r1]
          · exact (HI3.out.below (below_drewN (Below.refl _ _) _)).out HF.out ((Keeps.set _ _ _ _).trans (Keeps.set _ _ _ _) fun _ _ h => h)
    · have hltz : ¬ (b.2 : Int) < 5 := by omega
      clear hI
      go_wp2
      refine bodyPost_ret (v := .agg #[.int .i64 b.1, .int .i64 b.2]) ?_ rfl ⟨L, b, rfl, ?_, HI.out.jn, fun h => absurd h hlt⟩
      · simp [results, Tryd.results54, go_sem, r0, r1]
      · refine HI.out.out HF.out ?_
        exact (Keeps.set _ _ _ _).trans (Keeps.set _ _ _ _) fun _ _ h => h
end Go.Proofs.YtmmbfgkfidconaaDoor
/- A region that draws its order: what is loaded is loaded first, where the operations that spoil it wait for it. -/
namespace Go.Proofs.YtmmbfgkfidconaaDoor
open Go.RowKit

section
variable {P : Program} {ops : Array Oper} {Q : Exit → Act → World → Prop} {md : Region.Mode} {S : World → Prop} {X : List Nat}

/-- Whatever order is picked from here on; behind every operation but those of X there holds S. -/
def wpAnyX (P : Program) (md : Region.Mode) (ops : Array Oper) (Q : Exit → Act → World → Prop) (S : World → Prop) (X : List Nat) : Nat → Array Bool → Act → World → Prop
  | 0, listed, a, w => Region.ready md ops listed = [] ∧ Q .normal a w
  | fuel + 1, listed, a, w =>
    (Region.ready md ops listed = [] → Q .normal a w) ∧
    ∀ i ∈ Region.ready md ops listed, wpOp P ops Q i (fun a' w' => (i ∉ X → S w') ∧ wpAnyX P md ops Q S X fuel (listed.setIfInBounds i true) a' w') a w
theorem wpAny_of_X : ∀ (fuel : Nat) (listed : Array Bool) (a : Act) (w : World), wpAnyX P md ops Q S X fuel listed a w → wpAny P md ops Q fuel listed a w
  | 0, _, _, _, h => h
  | fuel + 1, _, _, _, h => ⟨h.1, fun i hi => wpOp_mono (fun a' w' h' => wpAny_of_X fuel _ a' w' h'.2) (h.2 i hi)⟩

/-- What has come up came up behind what it waits for. -/
def closedX (md : Region.Mode) (ops : Array Oper) (listed : Array Bool) : Prop := ∀ j o, ops[j]? = some o → listed.getD j false = true → ∀ e ∈ o.after, Region.binds md e = true → listed.getD e.on false = true
def closedB (md : Region.Mode) (ops : Array Oper) (listed : Array Bool) : Bool :=
  (List.range ops.size).all fun j => !listed.getD j false || ((ops[j]?).map (·.after.all fun e => !Region.binds md e || listed.getD e.on false)).getD true
theorem closedB_spec {listed : Array Bool} (h : closedB md ops listed = true) : closedX md ops listed := by
  intro j o ho hj e he hb
  have hlt : j < ops.size := (Array.getElem?_eq_some_iff.1 ho).1
  have h1 := List.all_eq_true.1 h j (List.mem_range.2 hlt)
  rw [ho] at h1
  simp only [Option.map_some, Option.getD_some] at h1
  rw [hj] at h1
  simp only [Bool.not_true, Bool.false_or] at h1
  have h2 := Array.all_eq_true'.1 h1 e he
  rw [hb] at h2
  simpa using h2
theorem getD_set_cases {listed : Array Bool} {i j : Nat} (h : (listed.setIfInBounds i true).getD j false = true) : j = i ∨ listed.getD j false = true := by
  by_cases hij : i = j
  · exact Or.inl hij.symm
  · rw [getD_set_ne false hij] at h
    exact Or.inr h
theorem closedX_step {listed : Array Bool} {i : Nat} (hc : closedX md ops listed) (hi : i ∈ Region.ready md ops listed) : closedX md ops (listed.setIfInBounds i true) := by
  intro j o ho hj e he hb
  apply getD_set_true
  rcases getD_set_cases hj with rfl | h
  · obtain ⟨_, o', ho', hall⟩ := mem_ready.1 hi
    rw [ho] at ho'
    cases ho'
    exact hall e he hb
  · exact hc j o ho h e he hb
/-- k waits for i, if by way of others. -/
def waitsB (md : Region.Mode) (ops : Array Oper) (i : Nat) : Nat → Nat → Bool
  | 0, _ => false
  | f + 1, k => ((ops[k]?).map (·.after.any fun e => Region.binds md e && (e.on == i || waitsB md ops i f e.on))).getD false
theorem waits_listed {listed : Array Bool} {i : Nat} (hc : closedX md ops listed) : ∀ (f k : Nat) (o : Oper), ops[k]? = some o → (∀ e ∈ o.after, Region.binds md e = true → listed.getD e.on false = true) → waitsB md ops i f k = true → listed.getD i false = true
  | 0, _, _, _, _, h => by simp [waitsB] at h
  | f + 1, k, o, ho, hall, h => by
    simp only [waitsB, ho, Option.map_some, Option.getD_some] at h
    obtain ⟨e, he, hb⟩ := Array.any_eq_true'.1 h
    simp only [Bool.and_eq_true, Bool.or_eq_true, beq_iff_eq] at hb
    rcases hb.2 with h2 | h2
    · rw [← h2]
      exact hall e he hb.1
    · have hl := hall e he hb.1
      cases hoe : ops[e.on]? with
      | none => cases f <;> simp [waitsB, hoe] at h2
      | some o2 => exact waits_listed hc f e.on o2 hoe (fun e2 he2 hb2 => hc e.on o2 hoe hl e2 he2 hb2) h2
theorem not_ready {listed : Array Bool} {i k : Nat} (hc : closedX md ops listed) (hi : i ∈ Region.ready md ops listed) (hw : waitsB md ops i ops.size k = true) : k ∉ Region.ready md ops listed := by
  intro hk
  obtain ⟨_, o, ho, hall⟩ := mem_ready.1 hk
  have h := waits_listed hc ops.size k o ho hall hw
  have h0 := (mem_ready.1 hi).1
  rcases Nat.lt_or_ge i listed.size with h' | h'
  · simp [h'] at h h0
    rw [h0] at h
    cases h
  · simp [Array.getElem?_eq_none h'] at h

theorem wpAnyX_first {i : Nat} {oi : Oper} {v : Value} (hi : ops[i]? = some oi) (hsel : ∀ (j : Nat) (o : Oper) cs b, ops[j]? = some o → o.op ≠ .select cs b)
    (hQ : ∀ c a w, Q (.panic c) (a.put oi.dst v) w → Q (.panic c) a w) (hX : ∀ k ∈ X, waitsB md ops i ops.size k = true) :
    ∀ (fuel : Nat) (listed : Array Bool) (a : Act) (w : World), closedX md ops listed →
      (∀ j oj, ops[j]? = some oj → j ≠ i → listed.getD j true = false → (∀ e ∈ oj.after, Region.binds md e = true → e.on ≠ i) → oi.apart ops oj = true) →
      i ∈ Region.ready md ops listed → YieldsIf P ops S oi v a → S w →
      wpAnyX P md ops Q S X fuel (listed.setIfInBounds i true) (a.put oi.dst v) w → wpAnyX P md ops Q S X (fuel + 1) listed a w := by
  intro fuel
  induction fuel with
  | zero =>
    intro listed a w hc _ hr hy hS H
    refine ⟨fun h => (by rw [h] at hr; cases hr), fun j hj => ?_⟩
    by_cases hji : j = i
    · subst hji; exact hy.wpOp hi hS ⟨fun _ => hS, H⟩
    · have := ready_mono hj hji
      rw [H.1] at this
      cases this
  | succ fuel ih =>
    intro listed a w hc hfree hr hy hS H
    refine ⟨fun h => (by rw [h] at hr; cases hr), fun j hj => ?_⟩
    by_cases hji : j = i
    · subst hji; exact hy.wpOp hi hS ⟨fun _ => hS, H⟩
    · have h1 := H.2 j (ready_mono hj hji)
      have hjX : j ∉ X := fun hjx => not_ready hc hr (hX j hjx) hj
      obtain ⟨hjun, oj, hoj, hall⟩ := mem_ready.1 hj
      have hnot : ∀ e ∈ oj.after, Region.binds md e = true → e.on ≠ i := fun e he hb heq => by
        have h1 := hall e he hb
        have h0 := (mem_ready.1 hr).1
        rw [heq] at h1
        rcases Nat.lt_or_ge i listed.size with h' | h'
        · simp [h'] at h0 h1; rw [h0] at h1; cases h1
        · simp [Array.getElem?_eq_none h'] at h1
      have h2 := wpOp_putIf hoj (hfree j oj hoj hji hjun hnot) (fun cs b => hsel i oi cs b hi) (fun cs b => hsel j oj cs b hoj) hQ hy h1
      have hfree' : ∀ k ok, ops[k]? = some ok → k ≠ i → (listed.setIfInBounds j true).getD k true = false →
          (∀ e ∈ ok.after, Region.binds md e = true → e.on ≠ i) → oi.apart ops ok = true := fun k ok hk hki hun hno => by
        refine hfree k ok hk hki ?_ hno
        by_cases hjk : j = k
        · subst hjk; exact hjun
        · rw [getD_set_ne true hjk] at hun; exact hun
      refine wpOp_mono (fun a' w' h3 => ⟨h3.2.1, ih (listed.setIfInBounds j true) a' w' (closedX_step hc hj) hfree' (ready_mono hr (Ne.symm hji)) h3.1 (h3.2.1 hjX) ?_⟩) h2
      rw [Array.setIfInBounds_comm _ _ hji]
      exact h3.2.2

theorem wpAnyX_take {i : Nat} {oi : Oper} {v : Value} {fuel : Nat} {listed : Array Bool} {a : Act} {w : World} (hi : ops[i]? = some oi)
    (hs : Region.noSelect ops = true) (hf : Region.free md ops listed i = true) (hr : (Region.ready md ops listed).contains i = true) (hc : closedB md ops listed = true) (hX : (X.all fun k => waitsB md ops i ops.size k) = true)
    (hQ : ∀ c a w, Q (.panic c) (a.put oi.dst v) w → Q (.panic c) a w) (hy : YieldsIf P ops S oi v a) (hS : S w)
    (h : wpAnyX P md ops Q S X fuel (listed.setIfInBounds i true) (a.put oi.dst v) w) : wpAnyX P md ops Q S X (fuel + 1) listed a w :=
  wpAnyX_first hi (Region.noSelect_spec hs) hQ (fun k hk => List.all_eq_true.1 hX k hk) fuel listed a w (closedB_spec hc) (Region.free_spec hi hf) (by simpa using hr) hy hS h
/-- The one that may come up comes up; behind it there holds S. -/
theorem wpAnyX_one {i : Nat} {o : Oper} {fuel : Nat} {listed : Array Bool} {a : Act} {w : World} (hr : Region.ready md ops listed = [i]) (ho : ops[i]? = some o)
    (h : ∀ K' : Act → World → Prop, Shut (∀ a w, S w → wpAnyX P md ops Q S X fuel (listed.setIfInBounds i true) a w → K' a w) → if Region.wanted o (yielded ops a.tmps) = true then Oper.wp P o a w K' Q else K' (a.put o.dst undef) w) : wpAnyX P md ops Q S X (fuel + 1) listed a w := by
  refine ⟨fun h0 => (by rw [hr] at h0; cases h0), fun j hj => ?_⟩
  rw [hr] at hj
  obtain rfl : j = i := by simpa using hj
  exact wpOp_step ho fun K' hK => h K' (fun a w hS hW => hK a w ⟨fun _ => hS, hW⟩)
/-- One of two that may come up comes up; behind it there holds S. -/
theorem wpAnyX_two {i j : Nat} {oi oj : Oper} {fuel : Nat} {listed : Array Bool} {a : Act} {w : World} (hr : Region.ready md ops listed = [i, j]) (hoi : ops[i]? = some oi) (hoj : ops[j]? = some oj)
    (h1 : ∀ K' : Act → World → Prop, Shut (∀ a w, S w → wpAnyX P md ops Q S X fuel (listed.setIfInBounds i true) a w → K' a w) → if Region.wanted oi (yielded ops a.tmps) = true then Oper.wp P oi a w K' Q else K' (a.put oi.dst undef) w)
    (h2 : ∀ K' : Act → World → Prop, Shut (∀ a w, S w → wpAnyX P md ops Q S X fuel (listed.setIfInBounds j true) a w → K' a w) → if Region.wanted oj (yielded ops a.tmps) = true then Oper.wp P oj a w K' Q else K' (a.put oj.dst undef) w) : wpAnyX P md ops Q S X (fuel + 1) listed a w := by
  refine ⟨fun h0 => (by rw [hr] at h0; cases h0), fun k hk => ?_⟩
  rw [hr] at hk
  rcases List.mem_cons.1 hk with rfl | hk
  · exact wpOp_step hoi fun K' hK => h1 K' (fun a w hS hW => hK a w ⟨fun _ => hS, hW⟩)
  · obtain rfl : k = j := by simpa using hk
    exact wpOp_step hoj fun K' hK => h2 K' (fun a w hS hW => hK a w ⟨fun _ => hS, hW⟩)
/-- .. one of X. -/
theorem wpAnyX_last {i : Nat} {o : Oper} {fuel : Nat} {listed : Array Bool} {a : Act} {w : World} (hr : Region.ready md ops listed = [i]) (ho : ops[i]? = some o) (hX : X.contains i = true)
    (h : ∀ K' : Act → World → Prop, Shut (∀ a w, wpAnyX P md ops Q S X fuel (listed.setIfInBounds i true) a w → K' a w) → if Region.wanted o (yielded ops a.tmps) = true then Oper.wp P o a w K' Q else K' (a.put o.dst undef) w) : wpAnyX P md ops Q S X (fuel + 1) listed a w := by
  refine ⟨fun h0 => (by rw [hr] at h0; cases h0), fun j hj => ?_⟩
  rw [hr] at hj
  obtain rfl : j = i := by simpa using hj
  exact wpOp_step ho fun K' hK => h K' (fun a w hW => hK a w ⟨fun hn => absurd (by simpa using hX) hn, hW⟩)
theorem wpAnyX_done {listed : Array Bool} {a : Act} {w : World} (hr : Region.ready md ops listed = []) (h : Q .normal a w) : ∀ fuel, wpAnyX P md ops Q S X fuel listed a w
  | 0 => ⟨hr, h⟩
  | _ + 1 => ⟨fun _ => h, by rw [hr]; simp⟩
theorem wp_region_X {id : Nat} {a : Act} {w : World} (S : World → Prop) (X : List Nat) (hm : P.follows .mixedOrders = true)
    (h : wpAnyX P .any ops Q S X ops.size (Array.replicate ops.size false) a w.drew) : (Code.region id ops true).wp P Q a w := wp_region_any hm (wpAny_of_X _ _ _ _ h)
end
end Go.Proofs.YtmmbfgkfidconaaDoor
