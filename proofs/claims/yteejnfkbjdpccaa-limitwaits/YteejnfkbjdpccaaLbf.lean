import Derived.Test.YteejnfkbjdpccaaLbe
import Derived.Test.YteejnfkbjdpccaaLsh
namespace Go.Proofs.Yteejnfkbjdpccaa
open Go.RowKit Fl
attribute [local go_sem] run_storeF
set_option maxHeartbeats 4000000
set_option maxRecDepth 8000
theorem clone_any (s : Bs) (w : World) (hs : s.length ≤ 281474976710656) : Calls Try.prog 29 #[S s] w fun e w' => e = .returned (S s) ∧ Below w.heap.size w w' := by
  have H := hide (fun W => Try.stringslite_Clone ⟨s.toArray⟩ W (by simpa [ByteArray.size] using hs))
  go_enter Try.func29, Try.ntmps29
  go_wp2_with (refine (unhide H _).mono ?_; rintro e w1 ⟨rfl, b1⟩)
  go_ret
  exact ⟨rfl, b1⟩
theorem info65 : (Try.prog.info? 65).map (fun i => (i.zero, i.size, i.bytes)) = some (some (.agg #[.string ⟨#[]⟩, .float .f32 0, .int .i64 0]), 3, 32) := by kernel_rfl
theorem info72 : (Try.prog.info? 72).map (fun i => (i.zero, i.size, i.bytes)) = some (some (.agg #[.string ⟨#[]⟩, .float .f32 0, .int .i64 0]), 3, 32) := by kernel_rfl
/-- Of the first k others what is kept. -/
def kpd (l : List Bk) (s : Bs) (k : Nat) : List Bk := ((l.take k).filter (fun o => o.nm != s)).take 15
theorem kpd_all (l : List Bk) (b : Bk) : b :: kpd l b.nm l.length = keep l b := by unfold kpd keep; rw [List.take_length]
theorem kpd_in {l : List Bk} {s : Bs} {k : Nat} (hk : k < l.length) (h : (l.getD k bk0).nm ≠ s) (hn : (kpd l s k).length < 15) : kpd l s (k + 1) = kpd l s k ++ [l.getD k bk0] := by
  have e : l.getD k bk0 = l[k] := by simp [hk]
  rw [e] at h ⊢
  unfold kpd at *
  have hlen : ((l.take k).filter (fun o => o.nm != s)).length < 15 := by rw [List.length_take] at hn; omega
  rw [take_snoc l k hk, List.filter_append, List.take_of_length_le (l := (l.take k).filter (fun o => o.nm != s)) (by omega)]
  have : List.filter (fun o => o.nm != s) [l[k]] = [l[k]] := by simp [h]
  rw [this, List.take_of_length_le (by simp; omega)]
theorem kpd_out {l : List Bk} {s : Bs} {k : Nat} (hk : k < l.length) (h : (l.getD k bk0).nm = s ∨ 15 ≤ (kpd l s k).length) : kpd l s (k + 1) = kpd l s k := by
  have e : l.getD k bk0 = l[k] := by simp [hk]
  rw [e] at h
  unfold kpd at *
  rw [take_snoc l k hk, List.filter_append]
  rcases h with h | h
  · have : List.filter (fun o => o.nm != s) [l[k]] = [] := by simp [h]
    rw [this, List.append_nil]
  · rw [List.length_take] at h
    rw [List.take_append_of_le_length (by omega)]
/-- What is kept so far: a row of its own, above a place. -/
structure Kp (g : Nat) (w0 : World) (l : List Bk) (V : Value) (w : World) : Prop where
  own : w.ownsRow 0 65 3 V l.length (cellsB l)
  lo : ∀ k, V.ownBlock = some k → g ≤ k
  b : Below g w0 w
theorem Kp.alloc {g : Nat} {w0 w : World} {l : List Bk} {V : Value} (h : Kp g w0 l V w) (o : Obj) (hg : g ≤ w.heap.size) : Kp g w0 l V (w.alloc o) := ⟨owns_alloc h.own o, h.lo, h.b.alloc hg o⟩
theorem Kp.form {g : Nat} {w0 w : World} {l : List Bk} {V : Value} (h : Kp g w0 l V w) : ∃ a cap, V = .slice a l.length cap := owns_form h.own
theorem Kp.push {g : Nat} {w0 w w1 : World} {l : List Bk} {V V' : Value} {q : Bk} (h : Kp g w0 l V w) (hg : g ≤ w.heap.size) (ho : w1.ownsRow 0 65 3 V' (l.length + 1) (cellsB l ++ cB q)) (hn : Only (fun k => V.ownBlock = some k) w w1) (hf : ∀ k, V'.ownBlock = some k → V.ownBlock = some k ∨ w.heap.size ≤ k) : Kp g w0 (l ++ [q]) V' w1 := by
  refine ⟨?_, fun k hk => ?_, hn.below h.b hg h.lo⟩
  · have e : cellsB [q] = cB q := by simp [cellsB]
    rw [cellsB_app, e, List.length_append]
    exact ho
  · rcases hf k hk with e | e
    · exact h.lo k e
    · omega
theorem kpd_len (l : List Bk) (s : Bs) (k : Nat) : (kpd l s k).length ≤ 15 := by unfold kpd; rw [List.length_take]; omega
theorem keep_any {p : Nat} {x : Li} {w : World} (h : LAt 57 65 p x w) (hx : x.Ok) (b : Bk) :
    Calls Try.prog 28 #[ptr p, vB b] w fun e w' => e = .returned (.tuple #[]) ∧ LAt 57 65 p ⟨x.r, x.b, keep x.ks b⟩ w' ∧ Only (fun k => k = p) w w' := by
  have HLA := hide h
  obtain ⟨a, cap, h1, h2⟩ := h
  have hl := lt_of_row h1
  have c2 : w.cell? ⟨p, 2, none⟩ = some (.slice a x.ks.length cap) := by rw [cell_of_row w p 2 _ 57 (0, 0) h1]; rfl
  have HP := hide (Bks.of h2)
  have hfew := hx.few
  have ZB := hide ((Below.refl w.heap.size w).alloc (Nat.le_refl _) (.cells #[S b.nm, fl b.lv, I b.tm] 65))
  have HALL := hide (kpd_all x.ks b)
  obtain ⟨b0, b1, b2⟩ := b
  simp only at *
  have H1 := hide h1
  clear h1 h2
  go_enter Try.func28, Try.ntmps28
  go_wp2
  go_loopw [4, 14] (fun v i wr => ∃ k : Nat, k ≤ x.ks.length ∧ i = .int .i64 k ∧ Kp (w.heap.size + 1) (w.alloc (.cells #[S b0, fl b1, I b2] 65)) (⟨b0, b1, b2⟩ :: kpd x.ks b0 k) v wr) (fun _ i _ => x.ks.length - (Go.RowKit.intOf i).toNat)
  case atStart =>
    have hn := heap_alloc_new (w.alloc (.cells #[S b0, fl b1, I b2] 65)) (.cells #[S b0, fl b1, I b2] 65)
    have hsz : (w.alloc (.cells #[S b0, fl b1, I b2] 65)).heap.size = w.heap.size + 1 := by simp
    rw [hsz] at hn
    refine ⟨0, by omega, rfl, owns_full (m := 1) hn rfl (by decide), fun k hk => ?_, (Below.refl _ _).alloc (by omega) _⟩
    cases hk
    exact Nat.le_refl _
  case round =>
    obtain ⟨k, hk, rfl, hkp⟩ := hrel
    have HK := hide hkp
    obtain ⟨z0, z1, z2, zl⟩ := box_cells hkp.b
    by_cases hlt : k < x.ks.length
    · have hbw := (unhide ZB).trans (hkp.b.mono (by omega))
      obtain ⟨g, o, rfl, hpl, hc0, hc1, hc2⟩ := ((unhide HP).below hbw).at hlt
      have hlt' : (k : Int) < (x.ks.length : Int) := by omega
      have HI := hide (fun e f => kpd_in (s := b0) hlt e f)
      have HO := hide (fun e => kpd_out (s := b0) hlt e)
      have hkl := kpd_len x.ks b0 k
      obtain ⟨va, vc, rfl⟩ := hkp.form
      simp only [List.length_cons] at HK ⊢
      have HSZ := hide (show w.heap.size + 1 ≤ wr.heap.size by omega)
      obtain ⟨q, hq⟩ : ∃ q, x.ks.getD k bk0 = q := ⟨_, rfl⟩
      rw [hq] at hc0 hc1 hc2 HI HO
      obtain ⟨K, hK⟩ : ∃ K, kpd x.ks b0 k = K := ⟨_, rfl⟩
      rw [hK] at HI HO HK hkl ⊢
      obtain ⟨q0, q1, q2⟩ := q
      simp only at hc0 hc1 hc2 HI HO
      clear hkp hbw hq hK
      by_cases hq : q0 = b0
      · have hqb : (q0 == b0) = true := by simpa using hq
        have HO2 := hide (unhide HO (Or.inl hq))
        clear hq
        go_wp2
        go_roundw
        case rel => exact ⟨k + 1, by omega, by go_num, by rw [unhide HO2]; exact (unhide HK).alloc _ (unhide HSZ)⟩
        case measure => simp [intOf]; omega
      · have hqb : (q0 == b0) = false := by simpa using hq
        by_cases hfull : K.length < 15
        · have hkn : (K.length : Int) + 1 < 16 := by omega
          have HI2 := hide (unhide HI hq hfull)
          have HA := hide ((unhide HK).alloc (.cells #[S q0, fl q1, I q2] 65) (unhide HSZ))
          have HSA := hide (show (wr.alloc (.cells #[S q0, fl q1, I q2] 65)).heap.size = wr.heap.size + 1 by simp)
          clear hq
          go_wp2_with (at_builtin; refine push_own 55 65 _ 3 32 Try.underlying55 info65 rfl (by decide) rfl (.tmp 28) (.tmp 30) rfl (.slice va (K.length + 1) vc) (K.length + 1) (cellsB (⟨b0, b1, b2⟩ :: K)) (by rfl) (wr.alloc (.cells #[S q0, fl q1, I q2] 65)) (unhide HA).own [S q0, fl q1, I q2] rfl (by intro u hu; simp at hu; rcases hu with rfl | rfl | rfl <;> rfl) (by rw [unhide HSA]; rfl) (by omega) (by omega) ?_; intro p1 cap1 w1 ho1 hn1 hf1; have HO1 := hide ho1; have HN1 := hide hn1; have HF1 := hide hf1; clear ho1 hn1 hf1)
          go_roundw
          case rel => exact ⟨k + 1, by omega, by go_num, by rw [unhide HI2]; exact (unhide HA).push (Nat.le_trans (unhide HSZ) (by simp)) (unhide HO1) (unhide HN1) (unhide HF1)⟩
          case measure => simp [intOf]; omega
        · have hkn : ¬ (K.length : Int) + 1 < 16 := by omega
          have HO2 := hide (unhide HO (Or.inr (by omega)))
          clear hq
          go_wp2
          go_roundw
          case rel => exact ⟨k + 1, by omega, by go_num, by rw [unhide HO2]; exact (unhide HK).alloc _ (unhide HSZ)⟩
          case measure => simp [intOf]; omega
    · obtain rfl : k = x.ks.length := by omega
      have hlt' : ¬ ((x.ks.length : Nat) : Int) < (x.ks.length : Int) := by omega
      obtain ⟨va, vc, rfl⟩ := hkp.form
      rw [unhide HALL] at HK ⊢
      have hbw := (unhide ZB).trans (hkp.b.mono (by omega))
      have h1r := (hbw.block p hl).trans (unhide H1)
      have HH1 := hide h1r
      have hlr := lt_of_row h1r
      have zc2 : wr.cell? ⟨p, 2, none⟩ = some (.slice a x.ks.length cap) := by rw [cell_of_row wr p 2 _ 57 (0, 0) h1r]; rfl
      have zf2 := frz h1r 2
      have HBW := hide hbw
      clear hkp hbw h1r
      go_wp2
      go_end0
      have hne : ∀ k, (Value.slice va (keep x.ks ⟨b0, b1, b2⟩).length vc).ownBlock = some k → ¬ k = p := fun k hk e => by
        have := (unhide HK).lo k hk
        omega
      refine ⟨rfl, ⟨va, vc, ?_, owns_only (unhide HK).own (Only.setCell wr ⟨p, 2, none⟩ _) hne⟩, (Only.of_below (unhide HBW)).put ⟨p, 2, none⟩ _ (Or.inl rfl)⟩
      rw [heap_setCell_same wr p 2 _ 57 _ (unhide HH1)]
      rfl
end Go.Proofs.Yteejnfkbjdpccaa
