/- Maps that the call itself makes: the entries as a list, whatever the keys and the elements; ranging over one. No word of the program. -/
import Derived.Test.YtoimmapdkapheaaZRow2
import Derived.DeepKeys4
import Derived.Maps.OwnOps
import Derived.Maps.Keyed
import Derived.Maps.RangeWalk
namespace Go.Proofs.Ytoimmapdkapheaa
set_option maxRecDepth 4000
open Go.RowKit Go.ChangeMaps Go.MapKept

theorem pw_mono {α : Type} {R S : α → α → Prop} (h : ∀ a b, R a b → S a b) : ∀ {l : List α}, l.Pairwise R → l.Pairwise S
  | [], _ => List.Pairwise.nil
  | a :: r, hp => by
    obtain ⟨h1, h2⟩ := List.pairwise_cons.1 hp
    exact List.pairwise_cons.2 ⟨fun b hb => h a b (h1 b hb), pw_mono h h2⟩
/-- How the keys and the elements of a map lie. -/
structure Mk (P : Program) (α β : Type) where
  t : TypeId
  k : TypeId
  e : TypeId
  key : α → Value
  val : β → Value
  ok : α → Prop
  law : Maps.Keyed P k
  ht : P.underlying t = some (.map k e)
  inj : ∀ {a b : α}, key a = key b → a = b
  reads : ∀ {a : α}, ok a → ∃ l, keyOf P k (key a) = some l

section
variable {α β : Type}
/-- What stands at a key. -/
def getL [DecidableEq α] (l : List (α × β)) (a : α) : Option β := (l.find? fun p => decide (p.1 = a)).map (·.2)
def putL [DecidableEq α] (l : List (α × β)) (a : α) (x : β) : List (α × β) := if l.any (fun p => decide (p.1 = a)) then l.map (fun p => if p.1 = a then (a, x) else p) else l ++ [(a, x)]
def delL [DecidableEq α] (l : List (α × β)) (a : α) : List (α × β) := l.filter fun p => !decide (p.1 = a)

theorem getL_none [DecidableEq α] {l : List (α × β)} {a : α} (h : ∀ p ∈ l, p.1 ≠ a) : getL l a = none := by
  unfold getL
  rw [List.find?_eq_none.2 (fun p hp => by simpa using h p hp)]
  rfl
theorem getL_at [DecidableEq α] : ∀ {l : List (α × β)} {j : Nat} {p : α × β}, l.Pairwise (fun p q => p.1 ≠ q.1) → l[j]? = some p → getL l p.1 = some p.2
  | [], j, p, _, h => by simp at h
  | q :: r, 0, p, _, h => by
    simp at h
    subst h
    simp [getL]
  | q :: r, j + 1, p, hd, h => by
    obtain ⟨h1, h2⟩ := List.pairwise_cons.1 hd
    simp at h
    have hne : q.1 ≠ p.1 := h1 p (List.mem_of_getElem? h)
    have ih := getL_at h2 h
    unfold getL at ih ⊢
    rw [List.find?_cons_of_neg (by simpa using hne)]
    exact ih
theorem putL_new [DecidableEq α] {l : List (α × β)} {a : α} (h : ∀ p ∈ l, p.1 ≠ a) (x : β) : putL l a x = l ++ [(a, x)] := by
  unfold putL
  rw [if_neg]
  simp only [List.any_eq_true, decide_eq_true_eq, not_exists, not_and]
  exact h
theorem map_at [DecidableEq α] : ∀ {l : List (α × β)} {j : Nat} {p : α × β} (x : β), l.Pairwise (fun p q => p.1 ≠ q.1) → l[j]? = some p → l.map (fun q => if q.1 = p.1 then (p.1, x) else q) = l.set j (p.1, x)
  | [], j, p, _, _, h => by simp at h
  | q :: r, 0, p, x, hd, h => by
    simp at h
    subst h
    obtain ⟨h1, h2⟩ := List.pairwise_cons.1 hd
    simp only [List.map_cons, if_true, List.set_cons_zero, List.cons.injEq, true_and]
    conv => rhs; rw [← List.map_id r]
    refine List.map_congr_left fun y hy => ?_
    rw [if_neg (h1 y hy).symm]
    rfl
  | q :: r, j + 1, p, x, hd, h => by
    obtain ⟨h1, h2⟩ := List.pairwise_cons.1 hd
    simp at h
    have hne : q.1 ≠ p.1 := h1 p (List.mem_of_getElem? h)
    simp only [List.map_cons, if_neg hne, List.set_cons_succ, map_at x h2 h]
theorem putL_at [DecidableEq α] {l : List (α × β)} {j : Nat} {p : α × β} (hd : l.Pairwise (fun p q => p.1 ≠ q.1)) (h : l[j]? = some p) (x : β) : putL l p.1 x = l.set j (p.1, x) := by
  unfold putL
  rw [if_pos (by simp only [List.any_eq_true, decide_eq_true_eq]; exact ⟨p, List.mem_of_getElem? h, rfl⟩)]
  exact map_at x hd h
theorem delL_none [DecidableEq α] {l : List (α × β)} {a : α} (h : ∀ p ∈ l, p.1 ≠ a) : delL l a = l := by
  unfold delL
  rw [List.filter_eq_self]
  intro p hp
  simpa using h p hp
theorem delL_at [DecidableEq α] {l : List (α × β)} {j : Nat} {p : α × β} (hd : l.Pairwise (fun p q => p.1 ≠ q.1)) (h : l[j]? = some p) : delL l p.1 = l.eraseIdx j := by
  unfold delL
  exact filter_eq_eraseIdx (fun q : α × β => decide (q.1 = p.1)) l j p h (by simp) (pw_mono (fun _ _ hne ⟨h1, h2⟩ => hne ((of_decide_eq_true h1).trans (of_decide_eq_true h2).symm)) hd)

variable {P : Program} {M : Mk P α β} {w w' : World} {b r : Nat} {l : List (α × β)}

/-- The entries of es are those of l, one by one. -/
def Ents (M : Mk P α β) (es : Array MapEntry) (l : List (α × β)) : Prop := es.toList.map (fun e => (e.key, e.val)) = l.map fun p => (M.key p.1, M.val p.2)
/-- Block b is a map of these entries. -/
def Mp (M : Mk P α β) (w : World) (b : Nat) (l : List (α × β)) : Prop :=
  ∃ es clock, w.heap[b]? = some (.map es clock) ∧ Stamped es clock ∧ Ents M es l ∧ ∀ p ∈ l, M.ok p.1

theorem Ents.at {es : Array MapEntry} (h : Ents M es l) (j : Nat) : (es.toList[j]?).map (fun e => (e.key, e.val)) = (l[j]?).map fun p => (M.key p.1, M.val p.2) := by
  rw [← List.getElem?_map, ← List.getElem?_map, h]
theorem Ents.mem {es : Array MapEntry} (h : Ents M es l) {x : MapEntry} (hx : x ∈ es.toList) : ∃ p ∈ l, x.key = M.key p.1 ∧ x.val = M.val p.2 := by
  have : (x.key, x.val) ∈ es.toList.map (fun e => (e.key, e.val)) := List.mem_map.2 ⟨x, hx, rfl⟩
  rw [h] at this
  obtain ⟨p, hp, e⟩ := List.mem_map.1 this
  exact ⟨p, hp, (congrArg Prod.fst e).symm, (congrArg Prod.snd e).symm⟩
theorem Ents.mem' {es : Array MapEntry} (h : Ents M es l) {p : α × β} (hp : p ∈ l) : ∃ x ∈ es.toList, x.key = M.key p.1 ∧ x.val = M.val p.2 := by
  have : (M.key p.1, M.val p.2) ∈ l.map fun p => (M.key p.1, M.val p.2) := List.mem_map.2 ⟨p, hp, rfl⟩
  rw [← h] at this
  obtain ⟨x, hx, e⟩ := List.mem_map.1 this
  exact ⟨x, hx, congrArg Prod.fst e, congrArg Prod.snd e⟩
theorem Ents.apart {es : Array MapEntry} {clock : Nat} (h : Ents M es l) (hs : Stamped es clock) : l.Pairwise fun p q => p.1 ≠ q.1 := by
  have h1 : (es.toList.map (·.key)).Nodup := hs.2.2
  have h2 : es.toList.map (·.key) = l.map fun p => M.key p.1 := by
    have := congrArg (List.map Prod.fst) h
    simpa [List.map_map, Function.comp_def] using this
  rw [h2, List.Nodup, List.pairwise_map] at h1
  exact pw_mono (fun _ _ hne e => hne (by rw [e])) h1
theorem Ents.len {es : Array MapEntry} (h : Ents M es l) : es.size = l.length := by
  have := congrArg List.length h
  simpa using this

theorem Mp.lt (h : Mp M w b l) : b < w.heap.size := by
  obtain ⟨es, clock, hb, _⟩ := h
  exact (Array.getElem?_eq_some_iff.1 hb).1
theorem Mp.same (h : Mp M w b l) (e : w'.heap[b]? = w.heap[b]?) : Mp M w' b l := by
  obtain ⟨es, clock, hb, r⟩ := h
  exact ⟨es, clock, e.trans hb, r⟩
theorem Mp.apart (h : Mp M w b l) : l.Pairwise fun p q => p.1 ≠ q.1 := by
  obtain ⟨es, clock, hb, hs, he, _⟩ := h
  exact he.apart hs
theorem Mp.made (M : Mk P α β) (w : World) : Mp M (w.alloc (.map #[] 0)) w.heap.size [] :=
  ⟨#[], 0, (MapKept.heap_alloc w _).1, stamped_empty 0, rfl, by simp⟩
theorem Mp.ne {c : Array Value} {t : TypeId} {fr : Nat × Nat} {g : Nat} (h : Mp M w b l) (hg : w.heap[g]? = some (.cells c t fr)) : b ≠ g := by
  obtain ⟨es, clock, hb, _⟩ := h
  intro e
  rw [e, hg] at hb
  cases hb

theorem find_ents {es : Array MapEntry} (he : Ents M es l) (hok : ∀ p ∈ l, M.ok p.1) {a : α} (ha : M.ok a) (w : World) :
    ((Instr.findKey M.k (M.key a) es.toList).run P w = .ok none w ∧ (∀ p ∈ l, p.1 ≠ a) ∧ ∀ x ∈ es.toList, x.key ≠ M.key a) ∨
    ∃ j e p, (Instr.findKey M.k (M.key a) es.toList).run P w = .ok (some (j, M.val p.2)) w ∧ es.toList[j]? = some e ∧ e.key = M.key a ∧ l[j]? = some p ∧ p.1 = a := by
  obtain ⟨lx, hlx⟩ := M.reads ha
  rcases M.law.find w hlx es.toList (fun e hm => by
    obtain ⟨p, hp, e1, _⟩ := he.mem hm
    rw [e1]
    exact M.reads (hok p hp)) with ⟨h1, h2⟩ | ⟨j, e, h1, h2, h3⟩
  · refine Or.inl ⟨h1, fun p hp e => ?_, h2⟩
    obtain ⟨x, hx, e1, _⟩ := he.mem' hp
    exact h2 x hx (by rw [e1, e])
  · have h4 := he.at j
    rw [h2] at h4
    cases hl : l[j]? with
    | none => rw [hl] at h4; simp at h4
    | some p =>
      rw [hl] at h4
      simp at h4
      have hpa : p.1 = a := M.inj (by rw [← h4.1, h3])
      exact Or.inr ⟨j, e, p, by rw [← h4.2]; exact h1, h2, h3, hl, hpa⟩

/-- 'v, ok := m[k]'. -/
theorem Mp.look [DecidableEq α] (h : Mp M w b l) {a : α} (ha : M.ok a) {z : Value} (hz : (zeroValue M.e).run P w = .ok z w) :
    (Instr.lookup M.t (.map (some b)) (M.key a) true).run P w = .ok (match getL l a with | some x => .tuple #[M.val x, .bool true] | none => .tuple #[z, .bool false]) w := by
  obtain ⟨es, clock, hb, hs, he, hok⟩ := h
  obtain ⟨lx, hlx⟩ := M.reads ha
  rcases find_ents he hok ha w with ⟨h1, h2, _⟩ | ⟨j, e, p, h1, h2, h3, h4, rfl⟩
  · rw [getL_none h2]
    simp [Instr.lookup, run_underlying M.ht, MapKept.run_getObj_map hb, M.law.check w _ hlx, h1, hz, Result.andThen]
  · rw [getL_at (he.apart hs) h4]
    simp [Instr.lookup, run_underlying M.ht, MapKept.run_getObj_map hb, M.law.check w _ hlx, h1, Result.andThen]

/-- 'm[k]', the zero value where nothing is. -/
theorem Mp.get [DecidableEq α] (h : Mp M w b l) {a : α} (ha : M.ok a) {z : Value} (hz : (zeroValue M.e).run P w = .ok z w) :
    (Instr.lookup M.t (.map (some b)) (M.key a) false).run P w = .ok (match getL l a with | some x => M.val x | none => z) w := by
  obtain ⟨es, clock, hb, hs, he, hok⟩ := h
  obtain ⟨lx, hlx⟩ := M.reads ha
  rcases find_ents he hok ha w with ⟨h1, h2, _⟩ | ⟨j, e, p, h1, h2, h3, h4, rfl⟩
  · rw [getL_none h2]
    simp [Instr.lookup, run_underlying M.ht, MapKept.run_getObj_map hb, M.law.check w _ hlx, h1, hz, Result.andThen]
  · rw [getL_at (he.apart hs) h4]
    simp [Instr.lookup, run_underlying M.ht, MapKept.run_getObj_map hb, M.law.check w _ hlx, h1, Result.andThen]
/-- Entries that look alike. -/
theorem Mp.turn {l' : List (α × β)} (h : Mp M w b l) (e : l.map (fun q => (M.key q.1, M.val q.2)) = l'.map fun q => (M.key q.1, M.val q.2)) : Mp M w b l' := by
  obtain ⟨es, clock, hb, hs, he, hok⟩ := h
  refine ⟨es, clock, hb, hs, Eq.trans he e, fun p hp => ?_⟩
  have : (M.key p.1, M.val p.2) ∈ l'.map fun q => (M.key q.1, M.val q.2) := List.mem_map.2 ⟨p, hp, rfl⟩
  rw [← e] at this
  obtain ⟨q, hq, e1⟩ := List.mem_map.1 this
  rw [← M.inj (congrArg Prod.fst e1)]
  exact hok q hq
theorem Mp.oks (h : Mp M w b l) : ∀ p ∈ l, M.ok p.1 := by
  obtain ⟨es, clock, hb, hs, he, hok⟩ := h
  exact hok
/-- The same entries in a new block. -/
theorem Mp.copy (h : Mp M w b l) : ∃ es clock, w.heap[b]? = some (.map es clock) ∧ Mp M (w.alloc (.map es clock)) w.heap.size l := by
  obtain ⟨es, clock, hb, hs, he, hok⟩ := h
  exact ⟨es, clock, hb, es, clock, (MapKept.heap_alloc w _).1, hs, he, hok⟩

/-- 'm[k] = v'. -/
theorem Mp.store [DecidableEq α] (h : Mp M w b l) {a : α} (ha : M.ok a) (x : β) :
    ∃ w', (Instr.mapUpdate M.t (.map (some b)) (M.key a) (M.val x)).run P w = .ok () w' ∧ Mp M w' b (putL l a x) ∧ w.mapTurned w' b := by
  obtain ⟨es, clock, hb, hs, he, hok⟩ := h
  obtain ⟨lx, hlx⟩ := M.reads ha
  rcases find_ents he hok ha w with ⟨h1, h2, h3⟩ | ⟨j, e, p, h1, h2, h3, h4, rfl⟩
  · refine ⟨setBlock w b (.map (es.push ⟨M.key a, M.val x, clock⟩) (clock + 1)), ?_, ⟨_, _, heap_setBlock_same hb _, stamped_push hs h3, ?_, ?_⟩, ⟨es, clock, _, _, hb, rfl⟩⟩
    · simp [Instr.mapUpdate, run_underlying M.ht, MapKept.run_getObj_map hb, M.law.check w false hlx, h1, MapKept.run_setObj_map _ hb, Result.andThen, setBlock]
    · rw [putL_new h2]
      unfold Ents at he ⊢
      simp [he]
    · rw [putL_new h2]
      intro p hp
      rcases List.mem_append.1 hp with hp | hp
      · exact hok p hp
      · simp at hp
        rw [hp]
        exact ha
  · have hj : es[j]? = some e := by simpa using h2
    have hkeyf : ∀ e', es[j]? = some e' → ({ e' with key := M.key p.1, val := M.val x } : MapEntry).key = e'.key := fun e' he' => by rw [hj] at he'; cases he'; exact h3.symm
    have hlist : (es.modify j (fun e' => { e' with key := M.key p.1, val := M.val x })).toList = es.toList.set j { e with key := M.key p.1, val := M.val x } := by rw [Array.toList_modify, modify_eq_set _ _ _ _ h2]
    refine ⟨setBlock w b (.map (es.modify j fun e' => { e' with key := M.key p.1, val := M.val x }) clock), ?_, ⟨_, _, heap_setBlock_same hb _, stamped_modify hs _ _ (fun _ _ => rfl) (fun e' _ he' => hkeyf e' he'), ?_, ?_⟩, ⟨es, clock, _, _, hb, rfl⟩⟩
    · simp [Instr.mapUpdate, run_underlying M.ht, MapKept.run_getObj_map hb, M.law.check w false hlx, h1, hj, h3, M.law.stays w hlx, MapKept.run_setObj_map _ hb, Result.andThen, setBlock]
    · rw [putL_at (he.apart hs) h4]
      unfold Ents at he ⊢
      rw [hlist, List.map_set, List.map_set, he]
    · rw [putL_at (he.apart hs) h4]
      intro q hq
      rcases List.mem_or_eq_of_mem_set hq with hq | hq
      · exact hok q hq
      · rw [hq]
        exact ha

theorem toList_erase {es : Array MapEntry} {j : Nat} (hj : j < es.toList.length) : (es.eraseIdxIfInBounds j).toList = es.toList.eraseIdx j := by
  unfold Array.eraseIdxIfInBounds
  rw [dif_pos (by simpa using hj)]
  simp

/-- 'delete(m, k)'. -/
theorem drop_ents [DecidableEq α] {es : Array MapEntry} {clock : Nat} (hb : w.heap[b]? = some (.map es clock)) (hs : Stamped es clock) (he : Ents M es l) (hok : ∀ p ∈ l, M.ok p.1) {a : α} (ha : M.ok a) (ty : TypeId) :
    ∃ es', (Builtin.delete_ #[M.t, M.k] ty #[.map (some b), M.key a]).run P w = .ok (.tuple #[]) (setBlock w b (.map es' clock)) ∧ Stamped es' clock ∧ Ents M es' (delL l a) ∧ es'.toList.Sublist es.toList := by
  obtain ⟨lx, hlx⟩ := M.reads ha
  rcases find_ents he hok ha w with ⟨h1, h2, h3⟩ | ⟨j, e, p, h1, h2, h3, h4, rfl⟩
  · refine ⟨es, ?_, hs, by rw [delL_none h2]; exact he, List.Sublist.refl _⟩
    simp [Builtin.delete_, run_underlying M.ht, MapKept.run_getObj_map hb, M.law.check w _ hlx, h1, MapKept.run_setObj_map _ hb, Result.andThen, setBlock]
  · have hsub := toList_erase (List.getElem?_eq_some_iff.1 h2).1
    refine ⟨es.eraseIdxIfInBounds j, ?_, stamped_erase hs j, ?_, by rw [hsub]; exact List.eraseIdx_sublist _ _⟩
    · simp [Builtin.delete_, run_underlying M.ht, MapKept.run_getObj_map hb, M.law.check w _ hlx, h1, MapKept.run_setObj_map _ hb, Result.andThen, setBlock]
    · rw [delL_at (he.apart hs) h4]
      unfold Ents at he ⊢
      rw [hsub, map_eraseIdx, map_eraseIdx, he]
theorem mem_delL [DecidableEq α] {a : α} {p : α × β} (h : p ∈ delL l a) : p ∈ l ∧ p.1 ≠ a := by
  have := List.mem_filter.1 h
  exact ⟨this.1, by simpa using this.2⟩
theorem Mp.drop [DecidableEq α] (h : Mp M w b l) {a : α} (ha : M.ok a) (ty : TypeId) :
    ∃ w', (Builtin.delete_ #[M.t, M.k] ty #[.map (some b), M.key a]).run P w = .ok (.tuple #[]) w' ∧ Mp M w' b (delL l a) ∧ w.mapTurned w' b := by
  obtain ⟨es, clock, hb, hs, he, hok⟩ := h
  obtain ⟨es', hrun, hs', he', _⟩ := drop_ents hb hs he hok ha ty
  exact ⟨_, hrun, ⟨es', clock, heap_setBlock_same hb _, hs', he', fun p hp => hok p (mem_delL hp).1⟩, ⟨es, clock, es', clock, hb, rfl⟩⟩
/-- 'len(m)'. -/
theorem Mp.len (h : Mp M w b l) (ty : TypeId) : (Builtin.len_ #[M.t] ty #[.map (some b)]).run P w = .ok (.int .i64 l.length) w := by
  obtain ⟨es, clock, hb, hs, he, hok⟩ := h
  have := he.len
  simp [Builtin.len_, run_underlying M.ht, MapKept.run_getObj_map hb, goInt, Result.andThen, this]

/-- A loop over the map in block b, by the iterator in block r: 'dn a': the entry at a has come. -/
def Rg (M : Mk P α β) (w : World) (b r : Nat) (l : List (α × β)) (dn : α → Bool) : Prop :=
  ∃ es clock since seen c0, w.heap[b]? = some (.map es clock) ∧ Stamped es clock ∧ Ents M es l ∧ (∀ p ∈ l, M.ok p.1) ∧ w.heap[r]? = some (.mapIter (some b) since seen c0) ∧ (∀ x ∈ es.toList, x.born < since) ∧
    (∀ x ∈ es.toList, ∀ a, x.key = M.key a → dn a = seen.contains x.born) ∧ since ≤ c0 ∧ since ≤ clock

variable {dn : α → Bool}
theorem Rg.mp (h : Rg M w b r l dn) : Mp M w b l := by
  obtain ⟨es, clock, _, _, _, hb, hs, he, hok, _⟩ := h
  exact ⟨es, clock, hb, hs, he, hok⟩
theorem Rg.lt (h : Rg M w b r l dn) : r < w.heap.size := by
  obtain ⟨es, clock, _, _, _, _, _, _, _, hr, _⟩ := h
  exact (Array.getElem?_eq_some_iff.1 hr).1
theorem Rg.ne (h : Rg M w b r l dn) : r ≠ b := by
  obtain ⟨es, clock, _, _, _, hb, _, _, _, hr, _⟩ := h
  intro e
  rw [e, hb] at hr
  cases hr
theorem Rg.same (h : Rg M w b r l dn) (e : w'.heap[b]? = w.heap[b]?) (e' : w'.heap[r]? = w.heap[r]?) : Rg M w' b r l dn := by
  obtain ⟨es, clock, since, seen, c0, hb, hs, he, hok, hr, rest⟩ := h
  exact ⟨es, clock, since, seen, c0, e.trans hb, hs, he, hok, e'.trans hr, rest⟩
theorem left_count {M : Mk P α β} {seen : Array Nat} : ∀ (es : List MapEntry) (l : List (α × β)), es.map (fun e => (e.key, e.val)) = l.map (fun p => (M.key p.1, M.val p.2)) → (∀ x ∈ es, ∀ a, x.key = M.key a → dn a = seen.contains x.born) →
    (es.filter fun e => !seen.contains e.born).length = (l.filter fun p => !dn p.1).length
  | [], [], _, _ => rfl
  | [], p :: l, h, _ => by simp at h
  | e :: es, [], h, _ => by simp at h
  | e :: es, p :: l, h, hd => by
    simp only [List.map_cons, List.cons.injEq, Prod.mk.injEq] at h
    have ih := left_count es l h.2 (fun x hx => hd x (by simp [hx]))
    have h1 := hd e (by simp) p.1 h.1.1
    simp only [List.filter_cons, h1]
    split
    · rw [List.length_cons, List.length_cons, ih]
    · exact ih
theorem Rg.left_eq (h : Rg M w b r l dn) : w.rangeLeft b r = (l.filter fun p => !dn p.1).length := by
  obtain ⟨es, clock, since, seen, c0, hb, hs, he, hok, hr, _, hd, _⟩ := h
  simp only [World.rangeLeft, hb, hr]
  unfold leftOf
  rw [← left_count es.toList l he hd, ← Array.toList_filter, Array.length_toList]
/-- 'range m'. -/
theorem Mp.range (h : Mp M w b l) :
    ∃ w', (Instr.range M.t (.map (some b))).run P w = .ok (.pointer (some ⟨w.heap.size, 0, none⟩)) w' ∧ Rg M w' b w.heap.size l (fun _ => false) ∧ w.grownBy w' none ∧ w'.heap.size = w.heap.size + 1 := by
  have hlt := h.lt
  obtain ⟨es, clock, hb, hs, he, hok⟩ := h
  exact ⟨_, run_range_map w M.t M.k M.e b es clock M.ht hb, ⟨es, clock, clock, #[], clock, ((MapKept.heap_alloc w _).2 b hlt).trans hb, hs, he, hok, (MapKept.heap_alloc w _).1, hs.1, fun x _ a _ => by simp, Nat.le_refl _, Nat.le_refl _⟩, World.grownBy_alloc w _ none, by simp⟩
/-- THE STEP. -/
theorem Rg.next [DecidableEq α] (h : Rg M w b r l dn) (ty : TypeId) :
    ((∀ p ∈ l, dn p.1 = true) ∧ (Instr.next (.pointer (some ⟨r, 0, none⟩)) false ty).run P w = .ok (.tuple #[.bool false]) w) ∨
    ∃ p w', p ∈ l ∧ dn p.1 = false ∧ (Instr.next (.pointer (some ⟨r, 0, none⟩)) false ty).run P w = .ok (.tuple #[.bool true, M.key p.1, M.val p.2]) w' ∧
      Rg M w' b r l (fun a => dn a || decide (a = p.1)) ∧ w.grownBy w' (some r) ∧ w'.heap.size = w.heap.size ∧ (Instr.entry (.pointer (some ⟨r, 0, none⟩))).run P w' = .ok (.tuple #[M.key p.1, M.val p.2]) w' := by
  have hne := h.ne
  obtain ⟨es, clock, since, seen, c0, hb, hs, he, hok, hr, hold, hd, hsc, hsk⟩ := h
  rcases run_next_at (P := P) w ty r b since c0 seen es clock hr hb hold hsc with ⟨h0, hrun⟩ | ⟨e, hmem, w1, hal, hrun⟩
  · refine Or.inl ⟨fun p hp => ?_, hrun⟩
    obtain ⟨x, hx, e1, _⟩ := he.mem' hp
    rw [hd x hx _ e1]
    exact all_seen es seen h0 x hx
  · obtain ⟨hem, hes⟩ := Go.mem_left hmem
    obtain ⟨p, hp, ek, ev⟩ := he.mem hem
    have hr1 : w1.heap[r]? = some (.mapIter (some b) since seen c0) := by rcases hal with rfl | rfl <;> exact hr
    have hb1 : w1.heap[b]? = some (.map es clock) := by rcases hal with rfl | rfl <;> exact hb
    have hset := heap_set (o' := .mapIter (some b) since (seen.push e.born) clock) hr1
    have hrun' := hrun
    rw [ek, ev] at hrun
    have hrb : (setBlock w1 r (.mapIter (some b) since (seen.push e.born) clock)).heap[b]? = some (.map es clock) := (hset.2 b (Ne.symm hne)).trans hb1
    have hgr : w.grownBy (setBlock w1 r (.mapIter (some b) since (seen.push e.born) clock)) (some r) := by
      rcases hal with rfl | rfl
      · exact ⟨rfl, rfl, rfl, by simp [setBlock], fun i _ hi => hset.2 i (fun e => hi (by rw [e]))⟩
      · exact ⟨rfl, rfl, rfl, by simp [setBlock], fun i _ hi => hset.2 i (fun e => hi (by rw [e]))⟩
    refine Or.inr ⟨p, _, hp, by rw [hd e hem _ ek]; exact hes, hrun, ⟨es, clock, since, seen.push e.born, clock, hrb, hs, he, hok, hset.1, hold, fun x hx a ea => ?_, hsk, hsk⟩, hgr, ?_, ?_⟩
    · show (dn a || decide (a = p.1)) = _
      rw [hd x hx a ea]
      by_cases hbe : x.born = e.born
      · obtain rfl := born_inj hs.2.1 hx hem hbe
        have : a = p.1 := M.inj (by rw [← ea, ek])
        simp [this]
      · have : ¬ a = p.1 := fun e1 => hbe (by
          have := entry_eq_of_key ((stamped_iff es clock).1 hs).2.2 hx hem (by rw [ea, ek, e1])
          rw [this])
        simp [this, hbe]
    · rcases hal with rfl | rfl <;> simp [setBlock]
    · have := run_entry_at (P := P) (setBlock w1 r (.mapIter (some b) since (seen.push e.born) clock)) r b since seen es clock e hset.1 hrb hem hs.2.1
      rw [ek, ev] at this
      exact this
/-- 'delete(m, k)' IN THE ROUND. -/
theorem Rg.drop [DecidableEq α] (h : Rg M w b r l dn) {a : α} (ha : M.ok a) (ty : TypeId) :
    ∃ w', (Builtin.delete_ #[M.t, M.k] ty #[.map (some b), M.key a]).run P w = .ok (.tuple #[]) w' ∧ Rg M w' b r (delL l a) dn ∧ w.mapTurned w' b := by
  have hne := h.ne
  obtain ⟨es, clock, since, seen, c0, hb, hs, he, hok, hr, hold, hd, hsc, hsk⟩ := h
  obtain ⟨es', hrun, hs', he', hsub⟩ := drop_ents hb hs he hok ha ty
  exact ⟨_, hrun, ⟨es', clock, since, seen, c0, heap_setBlock_same hb _, hs', he', fun p hp => hok p (mem_delL hp).1, (heap_setBlock_other hb _ hne).trans hr, fun x hx => hold x (hsub.subset hx), fun x hx => hd x (hsub.subset hx), hsc, hsk⟩, ⟨es, clock, es', clock, hb, rfl⟩⟩

/-! ### at the operations, for the walk -/
variable {ops : Array Oper} {rest : List Oper} {o : Oper} {a : Act} {Q : Exit → Act → World → Prop}
theorem wpList_range_M (w : World) (hg : o.guard = none) (m : Operand) (hop : o.op = Op.range M.t m) (b : Nat) (l : List (α × β)) (hm : a.eval m = .map (some b)) (h : Mp M w b l)
    (hK : ∀ w', Rg M w' b w.heap.size l (fun _ => false) → w.grownBy w' none → w'.heap.size = w.heap.size + 1 → wpList P ops Q rest (a.put o.dst (.pointer (some ⟨w.heap.size, 0, none⟩))) w') :
    wpList P ops Q (o :: rest) a w := by
  refine wpList_plain hg fun K' hK' => ?_
  obtain ⟨w', hrun, r1, r2, r3⟩ := h.range
  unfold Oper.wp
  simp [execOp, hop, hm, hrun, Result.andThen]
  exact hK' _ _ (hK w' r1 r2 r3)
theorem wpList_next_M [DecidableEq α] (w : World) (hg : o.guard = none) (it : Operand) (hop : o.op = Op.next it false) (b r : Nat) (l : List (α × β)) (dn : α → Bool) (hit : a.eval it = .pointer (some ⟨r, 0, none⟩)) (h : Rg M w b r l dn)
    (hDone : (∀ p ∈ l, dn p.1 = true) → wpList P ops Q rest (a.put o.dst (.tuple #[.bool false])) w)
    (hMore : ∀ (p : α × β) (w' : World), p ∈ l → dn p.1 = false → Rg M w' b r l (fun a => dn a || decide (a = p.1)) → w.grownBy w' (some r) → w'.heap.size = w.heap.size →
      (Instr.entry (.pointer (some ⟨r, 0, none⟩))).run P w' = .ok (.tuple #[M.key p.1, M.val p.2]) w' → wpList P ops Q rest (a.put o.dst (.tuple #[.bool true, M.key p.1, M.val p.2])) w') :
    wpList P ops Q (o :: rest) a w := by
  refine wpList_plain hg fun K' hK' => ?_
  unfold Oper.wp
  rcases h.next o.type with ⟨h0, hrun⟩ | ⟨p, w', hp, hd, hrun, hrg, hgr, hsz, hen⟩
  · simp [execOp, hop, hit, hrun, Result.andThen]
    exact hK' _ _ (hDone h0)
  · simp [execOp, hop, hit, hrun, Result.andThen]
    exact hK' _ _ (hMore p w' hp hd hrg hgr hsz hen)
theorem wpList_delete_R [DecidableEq α] (w : World) (hg : o.guard = none) (m x : Operand) (hop : o.op = Op.call { callee := Callee.builtin Builtin.delete, args := #[m, x], argTypes := #[M.t, M.k] }) (b r : Nat) (l : List (α × β)) (dn : α → Bool)
    (hm : a.eval m = .map (some b)) (h : Rg M w b r l dn) (c : α) (hc : M.ok c) (hx : a.eval x = M.key c)
    (hK : ∀ w', Rg M w' b r (delL l c) dn → w.mapTurned w' b → wpList P ops Q rest (a.put o.dst (.tuple #[])) w') :
    wpList P ops Q (o :: rest) a w := by
  refine wpList_plain hg fun K' hK' => ?_
  obtain ⟨w', hrun, r1, r2⟩ := h.drop hc o.type
  unfold Oper.wp
  simp [execOp, hop, resolve, invoke, builtin, hm, hx, hrun, Result.andThen]
  exact hK' _ _ (hK w' r1 r2)
theorem wpList_delete_M [DecidableEq α] (w : World) (hg : o.guard = none) (m x : Operand) (hop : o.op = Op.call { callee := Callee.builtin Builtin.delete, args := #[m, x], argTypes := #[M.t, M.k] }) (b : Nat) (l : List (α × β))
    (hm : a.eval m = .map (some b)) (h : Mp M w b l) (c : α) (hc : M.ok c) (hx : a.eval x = M.key c)
    (hK : ∀ w', Mp M w' b (delL l c) → w.mapTurned w' b → wpList P ops Q rest (a.put o.dst (.tuple #[])) w') :
    wpList P ops Q (o :: rest) a w := by
  refine wpList_plain hg fun K' hK' => ?_
  obtain ⟨w', hrun, r1, r2⟩ := h.drop hc o.type
  unfold Oper.wp
  simp [execOp, hop, resolve, invoke, builtin, hm, hx, hrun, Result.andThen]
  exact hK' _ _ (hK w' r1 r2)
end
end Go.Proofs.Ytoimmapdkapheaa
