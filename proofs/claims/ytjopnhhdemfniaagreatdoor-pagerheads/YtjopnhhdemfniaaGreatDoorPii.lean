import Derived.Test.YtjopnhhdemfniaaGreatDoorPih
namespace Go.Proofs.YtjopnhhdemfniaaGreatDoor
open Go.RowKit
set_option maxHeartbeats 8000000
set_option maxRecDepth 8000
theorem wp_appU {ops : Array Oper} {rest : List Oper} {o : Oper} {a : Act} {Q : Exit → Act → World → Prop} {w : World} (hgd : o.guard = none) (s x : Operand) (ho : o.op = .call { callee := .builtin .append, args := #[s, x], argTypes := #[168, 168] })
    (v : Value) (hs : a.eval s = v) (hown : w.ownsRow 0 5 1 v 0 []) (g m c : Nat) (u : Us) (hm : u.length = m) (hx : a.eval x = .slice (some ⟨g, 0, none⟩) m c) (hsrc : ∀ j z, (u.map B)[j]? = some z → w.cell? ⟨g, j, none⟩ = some z) (hl : m ≤ 1000000)
    (h : ∀ p cap w', w'.ownsRow 0 5 1 (.slice p m cap) m (u.map B) → Only (fun k => v.ownBlock = some k) w w' → (∀ k, (Value.slice p m cap).ownBlock = some k → v.ownBlock = some k ∨ w.heap.size ≤ k) → wpList Tryz.prog ops Q rest (a.put o.dst (.slice p m cap)) w') :
    wpList Tryz.prog ops Q (o :: rest) a w := by
  obtain ⟨i0, hi, hz0, hz1, hz2⟩ := info_parts info5
  obtain ⟨v', w', hr, h2, h3, _, h5⟩ := run_append_own_at (P := Tryz.prog) w 0 168 o.type 5 i0 (.int .u8 0) 1 1 Tryz.underlying168 hi hz0 hz1 hz2 rfl (by decide) v 0 [] hown ⟨g, 0, none⟩ m c (u.map B) (by rw [List.length_map, hm]; omega) (fun j z hj => by rw [add_at]; exact hsrc j z hj) (by intro z hz; obtain ⟨y, _, rfl⟩ := List.mem_map.1 hz; rfl) (by unfold maxLen; omega) (by omega) (Nat.zero_le _)
  rw [Nat.zero_add, List.nil_append] at h2
  obtain ⟨p, cap, rfl⟩ := owns_form h2
  refine wpList_plain hgd fun K hK => ?_
  unfold Oper.wp execOp
  simp only [ho, resolve, invoke, builtin, Sem.run_bind, Sem.run_pure, Result.andThen_ok, List.map_toArray, List.map_cons, List.map_nil, hs, hx, hr]
  refine hK _ _ (h p cap w' h2 (Only.of_grown h3) ?_)
  intro k hk
  rcases h5 with h5 | h5
  · left; rw [← h5]; exact hk
  · right; rw [hk] at h5; have := Option.some.inj h5; omega
theorem cloneU_any {v : Value} {u : Us} {w : World} (h : Uls w v u) (h0 : 0 < u.length) (hl : u.length ≤ 1000000) : Calls Tryz.prog 191 #[v] w fun e w' => ∃ V, e = .returned V ∧ Uls w' V u ∧ (∀ k, V.ownBlock = some k → w.heap.size ≤ k) ∧ Below w.heap.size w w' := by
  obtain ⟨g, cap, cur, rfl, hg, _⟩ := owns_at h h0
  have hsrc := fun j z (hj : (u.map B)[j]? = some z) => owns_cell h j z hj
  have bA := (Below.refl w.heap.size w).alloc (Nat.le_refl _) (.cells #[] 5)
  have hgn := heap_alloc_new w (.cells #[] 5)
  have hown : (w.alloc (.cells #[] 5)).ownsRow 0 5 1 (.slice (some ⟨w.heap.size, 0, none⟩) 0 0) 0 [] := ⟨rfl, .inr ⟨w.heap.size, 0, #[], rfl, Nat.zero_le _, hgn, Nat.le_refl _, by unfold maxLen; omega, rfl, rfl⟩⟩
  have hsrc2 : ∀ j z, (u.map B)[j]? = some z → (w.alloc (.cells #[] 5)).cell? ⟨g, j, none⟩ = some z := fun j z hj => (bA.cell (lt_of_row hg)).trans (hsrc j z hj)
  have HS := hide hsrc2
  have HO := hide hown
  have HB := hide bA
  have hlg := lt_of_row hg
  clear hsrc hsrc2 hown bA hgn h hg
  generalize hm : u.length = m at *
  have HM := hide hm
  clear hm
  have hnil : ∀ W : World, (binOp BinOp.eql 168 (Value.slice (some ⟨g, 0, none⟩) m cap) (Value.slice none 0 0)).run Tryz.prog W = .ok (.bool false) W := fun W => by
    first | rfl | simp [binOp, go_sem, Tryz.underlying168] | (unfold binOp; simp [go_sem, Tryz.underlying168])
  go_enter Tryz.func191, Tryz.ntmps191
  go_wp2_with (at_builtin; refine wp_appU rfl (.tmp 5) (.tmp 6) rfl (.slice (some ⟨w.heap.size, 0, none⟩) 0 0) (by rfl) (unhide HO) g m cap u (unhide HM) (by rfl) (unhide HS) hl ?_; intro p3 c3 w3 r3 o3 n3; have HR3 := hide r3; have HO3 := hide o3; have HN3 := hide n3; clear r3 o3 n3)
  go_ret
  refine ⟨_, rfl, ?_, fun k hk => ?_, ?_⟩
  · unfold Uls
    rw [unhide HM]
    exact unhide HR3
  · rcases unhide HN3 k hk with e | e
    · cases e
      exact Nat.le_refl _
    · exact Nat.le_trans (unhide HB).size e
  · exact (unhide HO3).below (unhide HB) (unhide HB).size (fun k hk => by cases hk; exact Nat.le_refl _)
end Go.Proofs.YtjopnhhdemfniaaGreatDoor
