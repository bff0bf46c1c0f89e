import Derived.Test.YteejnfkbjdpccaaLbf
namespace Go.Proofs.Yteejnfkbjdpccaa
open Go.RowKit Fl
attribute [local go_sem] run_storeF
set_option maxHeartbeats 4000000
set_option maxRecDepth 8000
/-- What came out so far: a row of its own, above a place. -/
structure Nm (g : Nat) (w0 : World) (l : List Bs) (V : Value) (w : World) : Prop where
  own : w.ownsRow 0 9 1 V l.length (l.map S)
  lo : ∀ k, V.ownBlock = some k → g ≤ k
  b : Below g w0 w
theorem Nm.keep {g : Nat} {w0 w w' : World} {l : List Bs} {V : Value} (h : Nm g w0 l V w) (hg : g ≤ w.heap.size) (hb : Below w.heap.size w w') : Nm g w0 l V w' := ⟨owns_below h.own hb, h.lo, h.b.trans (hb.mono hg)⟩
theorem Nm.form {g : Nat} {w0 w : World} {l : List Bs} {V : Value} (h : Nm g w0 l V w) : ∃ a cap, V = .slice a l.length cap := owns_form h.own
theorem Nm.push {g : Nat} {w0 w w1 : World} {l : List Bs} {V V' : Value} {q : Bs} (h : Nm g w0 l V w) (hg : g ≤ w.heap.size) (ho : w1.ownsRow 0 9 1 V' (l.length + 1) (l.map S ++ [S q])) (hn : Only (fun k => V.ownBlock = some k) w w1) (hf : ∀ k, V'.ownBlock = some k → V.ownBlock = some k ∨ w.heap.size ≤ k) : Nm g w0 (l ++ [q]) V' w1 := by
  refine ⟨?_, fun k hk => ?_, hn.below h.b hg h.lo⟩
  · rw [List.map_append, List.length_append]
    exact ho
  · rcases hf k hk with e | e
    · exact h.lo k e
    · omega
theorem nms_next (l : List Bk) (k : Nat) (h : k < l.length) : (l.take (k + 1)).map (·.nm) = (l.take k).map (·.nm) ++ [(l.getD k bk0).nm] := by
  rw [take_snoc l k h, List.map_append]
  simp [h]
theorem names_any {p : Nat} {x : Li} {w : World} (h : LAt 57 65 p x w) (hx : x.Ok) :
    Calls Try.prog 19 #[ptr p] w fun e w' => ∃ V, e = .returned V ∧ Nm w.heap.size w (x.ks.map (·.nm)) V w' := by
  obtain ⟨a, cap, h1, h2⟩ := h
  have hl := lt_of_row h1
  have c2 : w.cell? ⟨p, 2, none⟩ = some (.slice a x.ks.length cap) := by rw [cell_of_row w p 2 _ 57 (0, 0) h1]; rfl
  have HP := hide (Bks.of h2)
  have hfew := hx.few
  have HNL := hide (fun k hk => (hx.k k hk).2.2.2)
  clear h1 h2 hx
  go_enter Try.func19, Try.ntmps19
  go_wp2
  go_loopw [3, 11] (fun v i wr => ∃ k : Nat, k ≤ x.ks.length ∧ i = .int .i64 k ∧ Nm w.heap.size w ((x.ks.take k).map (·.nm)) v wr) (fun _ i _ => x.ks.length - (Go.RowKit.intOf i).toNat)
  case atStart => exact ⟨0, by omega, rfl, ⟨owns_nil 9 1 w, (fun k hk => by cases hk), Below.refl _ _⟩⟩
  case round =>
    obtain ⟨k, hk, rfl, hnm⟩ := hrel
    have HK := hide hnm
    by_cases hlt : k < x.ks.length
    · obtain ⟨g, o, rfl, hpl, hc0, hc1, hc2⟩ := ((unhide HP).below hnm.b).at hlt
      have hlt' : (k : Int) < (x.ks.length : Int) := by omega
      have HI := hide (nms_next x.ks k hlt)
      have hql : (x.ks.getD k bk0).nm.length ≤ 16 := unhide HNL _ (by rw [List.getD_eq_getElem?_getD, List.getElem?_eq_getElem hlt]; exact List.getElem_mem hlt)
      have hlen : ((x.ks.take k).map (·.nm)).length = k := by simp; omega
      have HSZ := hide hnm.b.size
      obtain ⟨va, vc, rfl⟩ := hnm.form
      rw [hlen] at HK ⊢
      obtain ⟨K, hK⟩ : ∃ K, (x.ks.take k).map (·.nm) = K := ⟨_, rfl⟩
      rw [hK] at HI HK hlen
      generalize x.ks.getD k bk0 = q at *
      obtain ⟨q0, q1, q2⟩ := q
      simp only at hc0 hc1 hc2 HI hql
      have HA := hide ((unhide HK).keep (unhide HSZ) ((Below.refl wr.heap.size wr).alloc (Nat.le_refl _) (.cells #[S q0, fl q1, I q2] 65)))
      have HC := hide (fun W => clone_any q0 W (by omega))
      have HSA := hide (show wr.heap.size < (wr.alloc (.cells #[S q0, fl q1, I q2] 65)).heap.size by simp)
      clear hnm hK
      go_wp2_with fail
      refine (unhide HC _).mono ?_
      rintro e w2 ⟨rfl, b2⟩
      have HD := hide ((unhide HA).keep (Nat.le_trans (unhide HSZ) (Nat.le_of_lt (unhide HSA))) b2)
      have HSD := hide (Nat.le_trans (Nat.le_trans (unhide HSZ) (Nat.le_of_lt (unhide HSA))) b2.size)
      clear b2 hc0 hc1 hc2
      go_wp2_with (at_builtin; refine push_own 52 9 _ 1 16 Try.underlying52 info9 rfl (by decide) rfl (.tmp 15) (.tmp 19) rfl (.slice va k vc) k (K.map S) (by rfl) w2 (by have := (unhide HD).own; rw [hlen] at this; exact this) [S q0] rfl (by intro u hu; obtain rfl := List.mem_singleton.1 hu; rfl) (by rfl) (by omega) (by omega) ?_; intro p1 cap1 w3 ho1 hn1 hf1; have HO1 := hide ho1; have HN1 := hide hn1; have HF1 := hide hf1; clear ho1 hn1 hf1)
      go_roundw
      case rel =>
        refine ⟨k + 1, by omega, by go_num, ?_⟩
        rw [unhide HI]
        exact (unhide HD).push (unhide HSD) (by rw [hlen]; exact unhide HO1) (unhide HN1) (unhide HF1)
      case measure => simp [intOf]; omega
    · obtain rfl : k = x.ks.length := by omega
      have hlt' : ¬ ((x.ks.length : Nat) : Int) < (x.ks.length : Int) := by omega
      clear hnm
      go_wp2
      go_ret
      refine ⟨_, rfl, ?_⟩
      have := unhide HK
      rw [List.take_length] at this
      exact this
end Go.Proofs.Yteejnfkbjdpccaa
