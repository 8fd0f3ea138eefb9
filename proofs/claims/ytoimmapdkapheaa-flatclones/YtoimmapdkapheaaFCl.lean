/- Pages cloned; Fork. -/
import Derived.Test.YtoimmapdkapheaaFMk
import Derived.Shelf.SlMaps.Clone
namespace Go.Proofs.Ytoimmapdkapheaa
set_option maxRecDepth 4000
open Go.RowKit

set_option maxHeartbeats 2000000 in
theorem mclone_any {w : World} {b : Nat} {es : Array MapEntry} {clock : Nat} (hb : w.heap[b]? = some (.map es clock)) :
    Calls Try.prog 57 #[.map (some b)] w fun e w' => e = .returned (.map (some w.heap.size)) ∧ w' = w.alloc (.map es clock) := by
  have hq := fun w => run_eql_map_nil_sl (P := Try.prog) w 83 _ _ (some b) Try.underlying83
  go_enter Try.func57, Try.ntmps57
  go_wp2
  rw [run_callFunc_extern Try.func71 (by kernel_rfl) (by kernel_rfl) (by kernel_rfl) (e := Extern.MapsClone.clone) (by kernel_rfl), run_maps_clone_sl w 83 hb]
  simp only [Result.andThen]
  rw [Oper.upon_value]
  go_wp2
  rw [run_typeAssert_map_sl _ 83 20 _ _ _ Try.underlying83]
  simp only [Result.andThen]
  rw [Oper.upon_value]
  go_wp2
  go_ret
  exact ⟨rfl, rfl⟩
theorem pg_copy {w W : World} {v v' : Value} {M : List AAr} {wb : Nat} {l : Wds} {s : Sp} {es : Array MapEntry} {clock : Nat} (hf : (PgL.mk v M wb l).fits s) (hb : Below w.heap.size w W) (hr : Row rAAr w.heap.size W v' M) (hm : Mp wordM (W.alloc (.map es clock)) W.heap.size l) :
    Bec (fun _ => False) w (PgT (W.heap.size + 1) s) ((W.alloc (.map es clock)).alloc (.cells (pgC v' W.heap.size) 85)) := by
  have a : Bec (fun _ => False) w (.row rAAr v' M) W := row_new hr hb
  have b := a.new (mp_new hm (Nat.le_refl _) (new_below _ _))
  have c := box_new (W.alloc (.map es clock)) 85 (pgC v' W.heap.size)
  rw [heap_alloc2_rAAr] at c
  exact (b.new c).imp fun {F' w'} k => ⟨⟨v', M, W.heap.size, l⟩, ⟨hf.ok, hf.can, hf.few, hf.wds⟩, and_mono (Th.le.refl _) (and_comm _ _) k⟩
def PClP (w : World) (s : Sp) (e : Ending) (w' : World) : Prop := ∃ g, e = .returned (.pointer (some ⟨g, 0, none⟩)) ∧ Bec (fun _ => False) w (PgT g s) w'
/-- Behind the areas' clone: the words' map, and what will lie there. -/
def ClOp (w : World) (g wb : Nat) (v : Value) (s : Sp) (e : Ending) (w2 : World) : Prop :=
  ∃ ao n c es clock, e = .returned (.slice ao n c) ∧ w2.heap[wb]? = some (.map es clock) ∧ (w2.cell? ⟨g, 0, none⟩ = some v ∧ w2.cell? ⟨g, 1, none⟩ = some (.map (some wb))) ∧ g < w2.heap.size ∧
    Hid (Bec (fun _ => False) w (PgT (w2.heap.size + 1) s) ((w2.alloc (.map es clock)).alloc (.cells #[.slice ao n c, .map (some w2.heap.size)] 85)))
set_option maxRecDepth 100000 in
set_option maxHeartbeats 4000000 in
theorem pclone_any {F : Nat → Prop} {w : World} {g : Nat} {s : Sp} (h : (PgT g s).In F w) : Calls Try.prog 42 #[.pointer (some ⟨g, 0, none⟩)] w (PClP w s) := by
  obtain ⟨⟨v, M, wb, l⟩, hf, h⟩ := h
  obtain ⟨h1, h2, h3⟩ := pgx_in h
  simp only at h1 h2 h3
  have c0 : w.cell? ⟨g, 0, none⟩ = some v := by rw [h1.cell]; rfl
  have c1 : w.cell? ⟨g, 1, none⟩ = some (.map (some wb)) := by rw [h1.cell]; rfl
  have lg := h1.lt
  have hcl : ∀ W, Below w.heap.size w W → Calls Try.prog 47 #[v] W (ClOp w g wb v s) := fun W hb => (clone_rAAr (h2.below hb) (by have := hf.few; simp only at this; omega)).mono fun e w2 hp => by
    obtain ⟨v', rfl, hrow, hb2⟩ := hp
    have hB : Below w.heap.size w w2 := below_call' hb hb2
    obtain ⟨ao, c, rfl⟩ := hrow.form
    obtain ⟨es, clock, k1, k2⟩ := (h3.same (hB.block _ h3.lt)).copy
    refine ⟨ao, M.length, c, es, clock, rfl, k1, ⟨?_, ?_⟩, Nat.lt_of_lt_of_le lg hB.size, pg_copy hf hB (hrow.lower hb.size) k2⟩
    · rw [World.cell?_of_block (w := w) (a := ⟨g, 0, none⟩) (hB.block g lg)]; exact c0
    · rw [World.cell?_of_block (w := w) (a := ⟨g, 1, none⟩) (hB.block g lg)]; exact c1
  obtain ⟨ao, cc, rfl⟩ := h2.form
  clear h1 h2 h3 h hf
  go_enter Try.func42, Try.ntmps42
  go_wp2_with fail
  go_region_held3 (fun w' => w'.cell? ⟨g, 0, none⟩ = some (.slice ao M.length cc) ∧ w'.cell? ⟨g, 1, none⟩ = some (.map (some wb))) (go_keep) (first | (go_at_call 47; refine (hcl _ ?q1).mono ?_; (case q1 => first | exact Below.refl _ _ | exact (Below.refl _ _).drew); rintro e w2 ⟨ao2, n2, cc2, es, clock, rfl, hwb, ⟨x0, x1⟩, hlg, HB⟩; have hc2 : ∀ o v, (w2.alloc v).cell? ⟨g, o, none⟩ = w2.cell? ⟨g, o, none⟩ := fun o v => cell_alloc_old hlg o v) | (go_at_call 57; refine (mclone_any hwb).mono ?_; rintro e w3 ⟨rfl, rfl⟩))
  go_wp2
  go_ret
  exact ⟨_, rfl, HB.out⟩
end Go.Proofs.Ytoimmapdkapheaa
