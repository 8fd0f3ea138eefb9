/- What New of package phys answers, and the memory that it makes. -/
import Derived.Test.YteoblaopbhdneaaMOps
import Derived.OwnWalk
import Derived.Lib.SliceRun
namespace Go.Proofs.Yteoblaopbhdneaa
open Go.RowKit

theorem info_words : (Try.prog.info? 75).map (fun i => (i.zero, i.size, i.bytes)) = some (some (.agg #[.int .u64 0, .int .u64 0, .int .u64 0, .int .u64 0, .int .u64 0, .int .u64 0, .int .u64 0, .int .u64 0]), 8, 64) := by kernel_rfl

theorem made_zero (n j : Nat) (h : j < n) : (madeCells #[.int .u64 0, .int .u64 0, .int .u64 0, .int .u64 0, .int .u64 0, .int .u64 0, .int .u64 0, .int .u64 0] n)[j]? = some (.int .u64 0) := by
  unfold madeCells
  rw [Array.getElem?_map, Array.getElem?_range]
  rw [if_pos h]
  have : j % 8 = 0 ∨ j % 8 = 1 ∨ j % 8 = 2 ∨ j % 8 = 3 ∨ j % 8 = 4 ∨ j % 8 = 5 ∨ j % 8 = 6 ∨ j % 8 = 7 := by omega
  rcases this with q | q | q | q | q | q | q | q <;> simp [q]

set_option maxHeartbeats 400000 in
theorem new_no (n : Int) (w : World) (h : n < 1 ∨ 512 < n) :
    Calls Try.prog 23 #[.int .i64 n] w fun e w' => e = .returned (.tuple #[.pointer none, errA]) ∧ w' = w := by
  rcases h with h | h
  · go_enter Try.func23, Try.ntmps23
    go_wp2
    go_ret2
    exact ⟨rfl, rfl⟩
  · have h' : ¬ n < 1 := by omega
    go_enter Try.func23, Try.ntmps23
    go_wp2
    go_ret2
    exact ⟨rfl, rfl⟩

def NewPost (w : World) (n : Nat) (e : Ending) (w' : World) : Prop := ∃ b s, e = .returned (.tuple #[.pointer (some ⟨b, 0, none⟩), .nilIface]) ∧ Mem w.heap.size w' b s n (fun _ => 0) ∧ Below w.heap.size w w'
set_option maxHeartbeats 400000 in
theorem new_yes (n : Nat) (w : World) (h1 : 1 ≤ n) (h2 : n ≤ 512) :
    Calls Try.prog 23 #[.int .i64 n] w (NewPost w n) := by
  obtain ⟨i, hi, hz0, hz1, hz2⟩ := info_parts info_words
  have hmk := run_make (P := Try.prog) w 76 75 i _ Try.underlying76 hi hz0 .i64 .i64 n n (by omega) (by omega) (by rw [hz2]; omega) (by omega)
  rw [hz1] at hmk
  simp only [Int.toNat_natCast, Value.cells] at hmk
  have hc := made_zero (n * 8)
  generalize madeCells #[.int .u64 0, .int .u64 0, .int .u64 0, .int .u64 0, .int .u64 0, .int .u64 0, .int .u64 0, .int .u64 0] (n * 8) = c at hmk hc
  clear hi hz0 hz1 hz2
  have HC : Hid (∀ j, j < n * 8 → c[j]? = some (.int .u64 0)) := hc
  clear hc
  have t1 : ¬ ((n : Int) < 1) := by omega
  have t2 : ¬ (512 < (n : Int)) := by omega
  go_enter Try.func23, Try.ntmps23
  go_wp2
  go_ret2
  refine ⟨_, _, rfl, ⟨by omega, Nat.le_refl _, by omega, ⟨n, Nat.le_refl _, ?_⟩, ⟨c, ?_, fun j hj => HC.out j (by omega)⟩⟩, ((Below.refl _ _).alloc (Nat.le_refl _) _).alloc (by simp) _⟩
  · exact heap_alloc2_new _ _ _
  · exact heap_alloc2_old _ _ _

theorem Mem.base {B B' : Nat} {w : World} {b s n : Nat} {f : Nat → Nat} (h : Mem B w b s n f) (hB : B' ≤ B) : Mem B' w b s n f := ⟨Nat.le_trans hB h.hb, Nat.le_trans hB h.hs, h.ne, h.ptr, h.row⟩
theorem Mem.below {B : Nat} {w w' : World} {b s n : Nat} {f : Nat → Nat} (h : Mem B w b s n f) (hb : Below w.heap.size w w') : Mem B w' b s n f := by
  obtain ⟨lb, ls⟩ := h.lt
  refine ⟨h.hb, h.hs, h.ne, ?_, ?_⟩
  · rw [hb.block b lb]; exact h.ptr
  · rw [hb.block s ls]; exact h.row

/-- append onto an empty slice without capacity: a new row, whatever its capacity. -/
theorem run_app0 {P : Program} (w : World) (t ty e : TypeId) (i : TypeInfo) (z : Value) (ht : P.underlying t = some (.slice e)) (hi : P.info? e = some i) (hz : i.zero = some z) (a0 a : Addr) (n c : Nat) (news : List Value)
    (hl : news.length = n * i.size) (hnews : ∀ j u, news[j]? = some u → w.cell? (a.add j) = some u) (h0 : 0 < n) (hb : n * i.bytes ≤ 140737488355328) (h63 : n ≤ 1000000) :
    ∃ (cap : Nat) (cs : Array Value), (Builtin.append_ #[t, t] ty #[.slice (some a0) 0 0, .slice (some a) n c]).run P w = .ok (.slice (some ⟨w.heap.size, 0, none⟩) n cap) (w.drew.alloc (.cells cs e)) ∧ n ≤ cap ∧ (∀ (j : Nat) (u : Value), news[j]? = some u → cs[j]? = some u) := by
  have hr := run_append_grow (P := P) w t ty e i z ht hi hz a0 0 0 [] (by simp) (by simp) a n c news hl hnews (by omega) (by omega) (growslice_fits (by omega) (by simpa using hb))
  simp only [Nat.zero_add] at hr
  refine ⟨_, _, hr, grownCap_ge w n 0 e, fun j u hj => ?_⟩
  obtain ⟨hlt, rfl⟩ := List.getElem?_eq_some_iff.1 hj
  rw [Array.getElem?_append_left (by simp; omega)]
  simp [hj]

theorem wpList_app0 {P : Program} (w : World) {ops : Array Oper} {rest : List Oper} {o : Oper} {a : Act} {Q : Exit → Act → World → Prop} (hgd : o.guard = none) (s x : Operand) (t : TypeId)
    (ho : o.op = .call { callee := .builtin .append, args := #[s, x], argTypes := #[t, t] }) (e : TypeId) (i : TypeInfo) (z : Value) (ht : P.underlying t = some (.slice e)) (hi : P.info? e = some i) (hz : i.zero = some z)
    (a0 ad : Addr) (n c : Nat) (news : List Value) (hs : a.eval s = .slice (some a0) 0 0) (hx : a.eval x = .slice (some ad) n c)
    (hl : news.length = n * i.size) (hnews : ∀ j u, news[j]? = some u → w.cell? (ad.add j) = some u) (h0 : 0 < n) (hb : n * i.bytes ≤ 140737488355328) (h63 : n ≤ 1000000)
    (h : ∀ (cap : Nat) (cs : Array Value), n ≤ cap → (∀ (j : Nat) (u : Value), news[j]? = some u → cs[j]? = some u) → wpList P ops Q rest (a.put o.dst (.slice (some ⟨w.heap.size, 0, none⟩) n cap)) (w.drew.alloc (.cells cs e))) : wpList P ops Q (o :: rest) a w := by
  refine wpList_plain hgd fun K hK => ?_
  obtain ⟨cap, cs, hr, h1, h2⟩ := run_app0 (P := P) w t o.type e i z ht hi hz a0 ad n c news hl hnews h0 hb h63
  unfold Oper.wp execOp
  simp only [ho, resolve, invoke, builtin, Sem.run_bind, Sem.run_pure, Result.andThen_ok, List.map_toArray, List.map_cons, List.map_nil, hs, hx, hr]
  exact hK _ _ (h cap cs h1 h2)

theorem words_cells {B : Nat} {w : World} {b s n : Nat} {f : Nat → Nat} (h : Mem B w b s n f) : ∀ (j : Nat) (u : Value), ((List.range (n * 8)).map fun j => Value.int .u64 (f j))[j]? = some u → w.cell? ((⟨s, 0, none⟩ : Addr).add j) = some u := by
  intro j u hj
  obtain ⟨_, hc, _⟩ := h.rules
  obtain ⟨hlt, e⟩ := List.getElem?_eq_some_iff.1 hj
  simp at hlt e
  have hadd : (⟨s, 0, none⟩ : Addr).add j = ⟨s, j, none⟩ := by unfold Addr.add; split <;> simp_all
  rw [hadd, hc j (by omega), ← e]

theorem not_nil (W : World) (a : Addr) (n c : Nat) : (binOp .eql 76 (.slice (some a) n c) (.slice none 0 0)).run Try.prog W = .ok (.bool false) W := by
  have := Lib.run_eql_slice_nil (P := Try.prog) W 76 75 (some a) n c 0 0 Try.underlying76
  simpa using this
def ClonePost (w : World) (n : Nat) (f : Nat → Nat) (e : Ending) (w' : World) : Prop := ∃ (s' cap' : Nat) (c' : Array Value), e = .returned (.slice (some ⟨s', 0, none⟩) n cap') ∧ n ≤ cap' ∧ w.heap.size ≤ s' ∧
  w'.heap[s']? = some (.cells c' 75 (0, 0)) ∧ (∀ j, j < 8 * n → c'[j]? = some (.int .u64 (f j))) ∧ Below w.heap.size w w'
set_option maxHeartbeats 400000 in
theorem sclone_any {B : Nat} {w : World} {b s n : Nat} {f : Nat → Nat} (h : Mem B w b s n f) (cap : Nat) (h1 : 1 ≤ n) (h2 : n ≤ 512) :
    Calls Try.prog 35 #[.slice (some ⟨s, 0, none⟩) n cap] w (ClonePost w n f) := by
  obtain ⟨i, hi, hz0, hz1, hz2⟩ := info_parts info_words
  have hq := not_nil w ⟨s, 0, none⟩ n cap
  go_enter Try.func35, Try.ntmps35
  go_wp2_with (at_builtin; go_loud (refine wpList_app0 _ rfl (.tmp 5) (.tmp 6) 76 rfl 75 i _ Try.underlying76 hi hz0 ⟨w.heap.size, 0, none⟩ ⟨s, 0, none⟩ n cap ((List.range (n * 8)).map fun j => Value.int .u64 (f j)) rfl rfl (by simp [hz1]) (fun j u hj => words_cells (h.below ((Below.refl _ _).alloc (Nat.le_refl _) _)) j u hj) h1 (by rw [hz2]; omega) (by omega) ?_))
  intro cap' cs hc hcs
  have HC : Hid (∀ j, j < 8 * n → cs[j]? = some (.int .u64 (f j))) := fun j hj => hcs j _ (by rw [List.getElem?_range (by omega)])
  clear hcs h hi hz0 hz1 hz2
  go_wp2
  go_ret
  refine ⟨_, cap', cs, rfl, hc, ?_, ?_, HC.out, ?_⟩
  · simp
  · exact heap_alloc2_new w _ _
  · exact (((Below.refl _ _).alloc (Nat.le_refl _) _).alloc (by simp) _).drew

def ClonesPost (w : World) (n : Nat) (f : Nat → Nat) (e : Ending) (w' : World) : Prop := ∃ b s, e = .returned (.pointer (some ⟨b, 0, none⟩)) ∧ Mem w.heap.size w' b s n f ∧ Below w.heap.size w w'
set_option maxHeartbeats 400000 in
theorem clone_any {B : Nat} {w : World} {b s n : Nat} {f : Nat → Nat} (h : Mem B w b s n f) (h1 : 1 ≤ n) (h2 : n ≤ 512) :
    Calls Try.prog 20 #[.pointer (some ⟨b, 0, none⟩)] w (ClonesPost w n f) := by
  obtain ⟨⟨cap, hp, _⟩, _, _⟩ := h.rules
  have hC := sclone_any h cap h1 h2
  clear h
  go_enter Try.func20, Try.ntmps20
  go_wp2_with fail
  refine hC.mono ?_
  rintro e w1 ⟨s', cap', c', rfl, q1, q2, q3, q4, q5⟩
  have hl := (Array.getElem?_eq_some_iff.1 q3).1
  have Q3 : Hid _ := q3
  have Q4 : Hid _ := q4
  clear q3 q4 hC
  go_wp2
  go_ret
  refine ⟨_, s', rfl, ⟨q5.size, q2, by omega, ⟨cap', q1, heap_alloc_new _ _⟩, ⟨c', (Below.heap_alloc _ _ _ hl).trans Q3.out, Q4.out⟩⟩, q5.alloc q5.size _⟩
end Go.Proofs.Yteoblaopbhdneaa
