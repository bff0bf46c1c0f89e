import Derived.Test.YtpidmpefodnffaaGreatDoorZfda
import Derived.Test.YtpidmpefodnffaaGreatDoorZsch
namespace Go.Proofs.YtpidmpefodnffaaGreatDoor
open Go.RowKit
set_option maxHeartbeats 4000000
set_option maxRecDepth 8000
theorem cell_new (w : World) (vs : Array Value) (t : TypeId) (j : Nat) (v : Value) (h : vs[j]? = some v) : (w.alloc (.cells vs t)).cell? ⟨w.heap.size, j, none⟩ = some v := by
  have e : (w.alloc (.cells vs t)).heap[w.heap.size]? = some (.cells vs t (0, 0)) := by
    show (w.heap.push _)[w.heap.size]? = _
    simp
  unfold World.cell?
  rw [e]
  exact h
theorem lns_right {u : List Bs} (hr : right u = true) : Lns u := by
  intro j
  by_cases hj : j < u.length
  · have h1 := (right_iff.1 hr).1 u[j] (List.getElem_mem hj)
    have : u.getD j [] = u[j] := by simp [hj]
    rw [this]
    simp [nm] at h1
    omega
  · simp [hj]
theorem Sts.bel {w0 w : World} {a : Option Addr} {n : Nat} {l : List Bs} (h : Sts w0 a n l) (hb : Below w0.heap.size w0 w) : Sts w a n l := h.below hb
theorem putN {w0 w : World} {b : Nat} {Y : Bs} (h : Wt w0 b Y w) (p : Addr) (n : Nat) (a : Option Addr) (cap : Nat) (u : List Bs) (hp : w0.cell? p = some (.slice a u.length cap)) (hu : Sts w0 a u.length u) (hr : right u = true) (hn : n ≤ 255) (h60 : 60 ≤ n) (hY : Y.length ≤ 1000000000) :
    Calls Tryz.prog 209 #[.agg #[PT p, I n, FN 137, FN 138], ptr b] w fun e w' => e = .returned (.tuple #[]) ∧ Wt w0 b (Y ++ (be 1 (tx u).length ++ tx u)) w' := by
  have hsm := right_small hr
  have hpr := print_right hr
  have hA := h.more (.cells #[PT p, I n, FN 137, FN 138] 200)
  have hc : (w.alloc (.cells #[PT p, I n, FN 137, FN 138] 200)).cell? p = some (.slice a u.length cap) := cell_below hp hA.below (cell_lt hp)
  have HP : Hid (Calls Tryz.prog 211 #[.slice a u.length cap] (w.alloc (.cells #[PT p, I n, FN 137, FN 138] 200)) fun e w' => e = .returned (.tuple #[S (tx u), I 0]) ∧ Below (w.alloc (.cells #[PT p, I n, FN 137, FN 138] 200)).heap.size (w.alloc (.cells #[PT p, I n, FN 137, FN 138] 200)) w') := hide (by
    have q := Print_any a u.length cap u (w.alloc (.cells #[PT p, I n, FN 137, FN 138] 200)) (Sts.bel hu hA.below) (by omega) (lns_right hr)
    rw [hpr] at q
    exact q)
  have HA := hide hA
  have HT := hide (fun (W : World) (q : Wt w0 b Y W) => q.text n (tx u) hn (by omega) hY)
  have hq : ∀ j v, (#[PT p, I n, FN 137, FN 138] : Array Value)[j]? = some v → (w.alloc (.cells #[PT p, I n, FN 137, FN 138] 200)).cell? ⟨w.heap.size, j, none⟩ = some v := fun j v e => cell_new _ _ _ _ _ e
  have HQ := hide hq
  clear hA hu hr hn h60 hY h hp hq
  generalize hZ : Y ++ (be 1 (tx u).length ++ tx u) = Z at *
  clear hZ
  generalize tx u = x at *
  generalize u.length = m at *
  go_enter Tryz.func209, Tryz.ntmps209
  go_wp2_with fail
  refine (unhide HP).mono ?_
  rintro e w2 ⟨rfl, hw2⟩
  have hlt : w.heap.size < (w.alloc (.cells #[PT p, I n, FN 137, FN 138] 200)).heap.size := by simp
  have c1 : w2.cell? ⟨w.heap.size, 1, none⟩ = some (I n) := cell_below (unhide HQ 1 _ rfl) hw2 hlt
  have c2 : w2.cell? ⟨w.heap.size, 2, none⟩ = some (FN 137) := cell_below (unhide HQ 2 _ rfl) hw2 hlt
  have HT2 := hide (unhide HT _ ((unhide HA).keep hw2))
  clear hw2 HQ HT HA HP hc hsm hpr hlt
  generalize w.heap.size = X at *
  go_wp2_with fail
  refine (unhide HT2).mono ?_
  rintro e w3 ⟨rfl, hw3⟩
  have HW3 := hide hw3
  clear hw3 HT2 c1 c2
  go_wp2
  go_end0
  exact ⟨rfl, unhide HW3⟩
theorem Pf.N {w0 : World} (p : Addr) (n : Nat) (a : Option Addr) (cap : Nat) (u : List Bs) (hp : w0.cell? p = some (.slice a u.length cap)) (hu : Sts w0 a u.length u) (hr : right u = true) (hn : n ≤ 255) (h60 : 60 ≤ n) : Pf w0 (.iface 200 (.agg #[PT p, .int .i64 n, FN 137, FN 138])) (be 1 (tx u).length ++ tx u) :=
  ⟨200, _, 209, rfl, mp200 _, cf Tryz.func209 (by kernel_rfl) rfl, fun _ _ _ h hY => putN h p n a cap u hp hu hr hn h60 (by omega)⟩
end Go.Proofs.YtpidmpefodnffaaGreatDoor
namespace Go.Proofs.YtpidmpefodnffaaGreatDoor
open Go.RowKit
set_option maxHeartbeats 4000000
set_option maxRecDepth 8000
theorem tv_len (n : Nat) (s : Bs × Nat) : (tv n s).length ≤ n := by
  unfold tv
  split
  · rename_i h
    simp [fine] at h
    obtain ⟨_, h⟩ := h
    unfold rTextE at h
    split at h
    · split at h
      · cases h
      · split at h
        · cases h
        · rename_i q1 q2 q3
          unfold rTextS
          rw [List.length_take]
          omega
    · cases h
  · simp
/-- Between two operations of names' take. -/
def Tn (w : World) (b g : Nat) (s s' : Bs × Nat) (p : Addr) (u : List Bs) (x : Nat) (vs : Array Value) (t : TypeId) (c : Cnm) (L : Nat → Bool) (W : World) : Prop :=
  W.heap[x]? = some (.cells vs t (0, 0)) ∧ (L 10 = true → L 9 = true) ∧ (L 9 = true → L 8 = true) ∧ (L 8 = true → L 7 = true) ∧ (L 13 = true → L 10 = true) ∧ (L 7 = false → Ra b g s W ∧ Only (fun k => k = b) w W) ∧ (L 7 = true → L 13 = false → Ra b g s' W ∧ Only (fun k => k = b) w W) ∧
  (L 8 = true → L 13 = false → OwnS w.heap.size W (.slice c.va c.vn c.vc) u ∧ c.vn = u.length) ∧
  (L 13 = true → ∃ W2, Ra b g s' W2 ∧ Only (fun k => k = b) w W2 ∧ OwnS w.heap.size W2 (.slice c.va c.vn c.vc) u ∧ c.vn = u.length ∧ W = W2.setCell p (.slice c.va c.vn c.vc))
theorem upd_or {L : Nat → Bool} {i k : Nat} (h : upd L i k = true) : k = i ∨ L k = true := by
  by_cases q : k = i
  · exact .inl q
  · rw [upd_ne q] at h; exact .inr h
theorem upd_tr {L : Nat → Bool} {i k : Nat} (h : L k = true) : upd L i k = true := by
  by_cases q : k = i
  · subst q; simp [upd]
  · rw [upd_ne q]; exact h
section
variable {w : World} {b g : Nat} {s s' : Bs × Nat} {p : Addr} {u : List Bs} {x : Nat} {vs : Array Value} {t : TypeId} {c : Cnm} {L : Nat → Bool} {W : World}
theorem Tn.pure (h : Tn w b g s s' p u x vs t c L W) (i : Nat) (h7 : i ≠ 7) (h8 : i ≠ 8) (h9 : i = 9 → L 8 = true) (h10 : i = 10 → L 9 = true) (h13 : i ≠ 13) : Tn w b g s s' p u x vs t c (upd L i) W := by
  obtain ⟨a1, a2, a3, a4, a5, a6, a7, a8, a9⟩ := h
  have e7 : upd L i 7 = L 7 := upd_ne (fun e => h7 e.symm)
  have e8 : upd L i 8 = L 8 := upd_ne (fun e => h8 e.symm)
  have e13 : upd L i 13 = L 13 := upd_ne (fun e => h13 e.symm)
  refine ⟨a1, fun q => ?_, fun q => ?_, by rw [e7, e8]; exact a4, fun q => upd_tr (a5 (by rw [e13] at q; exact q)), by rw [e7]; exact a6, by rw [e7, e13]; exact a7, by rw [e8, e13]; exact a8, by rw [e13]; exact a9⟩
  · rcases upd_or q with q | q
    · exact upd_tr (h10 q.symm)
    · exact upd_tr (a2 q)
  · rw [e8]
    rcases upd_or q with q | q
    · exact h9 q.symm
    · exact a3 q
theorem Tn.ld (h : Tn w b g s s' p u x vs t c L W) (j : Nat) (y : Value) (hv : vs[j]? = some y) : W.cell? ⟨x, j, none⟩ = some y := by
  simp [World.cell?, h.1, hv]
end
theorem takeN {w : World} {b g : Nat} {s : Bs × Nat} (h : Ra b g s w) (p : Addr) (n : Nat) {old : Value} {cs : Array Value} {ty : TypeId} (hp : w.heap[p.block]? = some (.cells cs ty (0, 0))) (ho : w.cell? p = some old) (hb : p.block ≠ b) (hs : s.1.length ≤ 9223372036854775807) (hn : n ≤ 255) :
    Calls Tryz.prog 210 #[.agg #[PT p, I n, FN 137, FN 138], ptr b] w fun e w' => e = .returned (.tuple #[]) ∧ ∃ W2 va vc, Ra b g (ts n s) W2 ∧ Only (fun k => k = b) w W2 ∧ OwnS w.heap.size W2 (.slice va (parse (tv n s)).1.length vc) (parse (tv n s)).1 ∧ w' = W2.setCell p (.slice va (parse (tv n s)).1.length vc) := by
  have hbl : b < w.heap.size := by
    obtain ⟨o, c, q⟩ := h
    exact lt_of_row q.row
  have hgl : g < w.heap.size := by
    obtain ⟨o, c, q⟩ := h
    exact q.bys.lt
  have hpl := lt_of_row hp
  have htl := tv_len n s
  have hq := fun W => Parse_any (tv n s) W (by omega)
  generalize hU : parse (tv n s) = U at *
  generalize hX : tv n s = x at *
  have o1 : Only (fun _ => False) w (w.alloc (.cells #[PT p, I n, FN 137, FN 138] 200)).drew := (Only.alloc _ w _).trans (Only.drew (fun _ => False) _) (fun _ _ q => q)
  go_enter Tryz.func210, Tryz.ntmps210
  go_wp2_with fail
  refine rt210 w.heap.size b p n (S x) (U.2 : Int) rfl (by rfl) (by rfl) _ _ (by simp) rfl rfl (Tn w b g s (ts n s) p U.1 w.heap.size #[PT p, I n, FN 137, FN 138] 200) ?h0 (fun i hi c L W hW => hW.pure i (fun e => hi (by simp [e])) (fun e => hi (by simp [e])) (fun e => (hi (by simp [e])).elim) (fun e => (hi (by simp [e])).elim) (fun e => hi (by simp [e])))
    (fun c L W hW _ _ => s_ld (T := 198) (fun _ => by kernel_rfl) (hW.ld 0 _ rfl)) (fun c L W hW _ _ => s_ld (T := 176) (fun _ => by kernel_rfl) (hW.ld 3 _ rfl)) (fun c L W hW _ _ => s_ld (T := 3) (fun _ => by kernel_rfl) (hW.ld 1 _ rfl)) ?r7 ?r8 ?r9 ?r10 ?e10 ?r11 ?e11 ?r13 ?hend
  case h0 =>
    refine ⟨⟨none, 0, 0⟩, ⟨?_, (fun e => by cases e), (fun e => by cases e), (fun e => by cases e), (fun e => by cases e), fun _ => ⟨h.keep o1 (fun q => q) (fun q => q), o1.mono (fun _ _ q => q.elim)⟩, (fun e => by cases e), (fun e => by cases e), (fun e => by cases e)⟩⟩
    show (w.heap.push _)[w.heap.size]? = _
    simp
  case r7 =>
    intro c L W hW h7 _ _ _
    obtain ⟨a1, a2, a3, a4, a5, a6, a7, a8, a9⟩ := hW
    have f8 : L 8 = false := by
      cases q : L 8
      · rfl
      · rw [a4 q] at h7; exact h7
    have f13 : L 13 = false := by
      cases q : L 13
      · rfl
      · rw [a3 (a2 (a5 q))] at f8; exact f8
    refine ((a6 h7).1.text n hs).mono ?_
    rintro e w' ⟨rfl, q1, q2⟩
    refine ⟨c, fun _ _ => rfl, by rw [hX]; rfl, ⟨(q2.block _ (lt_of_row a1) (by omega)).trans a1, fun q => ?_, fun q => ?_, fun _ => by simp [upd], fun q => ?_, (fun q => by simp [upd] at q), fun _ _ => ⟨q1, (a6 h7).2.trans q2 (fun _ _ q => q)⟩, (fun q => by rw [upd_ne (by decide), f8] at q; cases q), (fun q => by rw [upd_ne (by decide), f13] at q; cases q)⟩⟩
    · rw [upd_ne (by decide)] at q ⊢; exact a2 q
    · rw [upd_ne (by decide)] at q ⊢; exact a3 q
    · rw [upd_ne (by decide)] at q ⊢; exact a5 q
  case r8 =>
    intro c L W hW h8 h7
    obtain ⟨a1, a2, a3, a4, a5, a6, a7, a8, a9⟩ := hW
    have f9 : L 9 = false := by
      cases q : L 9
      · rfl
      · rw [a3 q] at h8; exact h8
    have f10 : L 10 = false := by
      cases q : L 10
      · rfl
      · rw [a2 q] at f9; exact f9
    have f13 : L 13 = false := by
      cases q : L 13
      · rfl
      · rw [a5 q] at f10; exact f10
    obtain ⟨b1, b2⟩ := a7 h7 f13
    refine (hq W).mono ?_
    rintro e w' ⟨va, vc, rfl, q1, q2⟩
    have o3 : Only (fun _ => False) W w' := Only.of_below q2
    refine ⟨⟨va, U.1.length, vc⟩, fun j hj => ?_, rfl, ⟨(q2.block _ (lt_of_row a1)).trans a1, fun q => ?_, fun q => by simp [upd], fun _ => by rw [upd_ne (by decide)]; exact h7, fun q => ?_, (fun q => by rw [upd_ne (by decide), h7] at q; cases q), fun _ _ => ⟨b1.keep o3 (fun q => q) (fun q => q), b2.trans o3 (fun _ _ q => q.elim)⟩, fun _ _ => ⟨OwnS.below q1 (Below.refl _ _) b2.size, rfl⟩, (fun q => by rw [upd_ne (by decide), f13] at q; cases q)⟩⟩
    · match j, hj with
      | 0, _ => rfl
      | 1, _ => rfl
      | 2, _ => rfl
      | 3, _ => rfl
      | 4, _ => rfl
      | 5, _ => rfl
      | 6, _ => rfl
      | 7, _ => rfl
      | 8, hj => rw [h8] at hj; cases hj
      | 9, hj => rw [f9] at hj; cases hj
      | 10, hj => rw [f10] at hj; cases hj
      | 11, _ => rfl
      | 12, _ => rfl
      | 13, _ => rfl
      | (k + 14), _ => rfl
    · rw [upd_ne (by decide)] at q ⊢; exact a2 q
    · rw [upd_ne (by decide)] at q ⊢; exact a5 q
  case r9 => exact fun c L W hW _ h8 => hW.pure 9 (by decide) (by decide) (fun _ => h8) (fun e => absurd e (by decide)) (by decide)
  case r10 => exact fun c W => by kernel_rfl
  case e10 => exact fun c L W hW _ h9 => hW.pure 10 (by decide) (by decide) (fun e => absurd e (by decide)) (fun _ => h9) (by decide)
  case r11 => exact fun c W => by kernel_rfl
  case e11 => exact fun c L W hW _ h9 => hW.pure 11 (by decide) (by decide) (fun e => absurd e (by decide)) (fun e => absurd e (by decide)) (by decide)
  case r13 =>
    intro c L W hW h13 h10 _
    obtain ⟨a1, a2, a3, a4, a5, a6, a7, a8, a9⟩ := hW
    have h9 := a2 h10
    have h8 := a3 h9
    have h7 := a4 h8
    obtain ⟨b1, b2⟩ := a7 h7 h13
    obtain ⟨d1, d2⟩ := a8 h8 h13
    have e := b2.block p.block hpl hb
    have hf : W.frozen? p = false := by simp [World.frozen?, e, hp]
    refine ⟨_, s_st (T := 22) (fun _ => by kernel_rfl) ((World.cell?_of_block e).trans ho) hf (.inr (.inr (.inr ⟨_, _, _, rfl⟩))), ⟨(heap_setCell_other W p _ _ (by omega)).trans a1, fun q => ?_, fun q => ?_, fun q => ?_, fun _ => by rw [upd_ne (by decide)]; exact h10, (fun q => by rw [upd_ne (by decide), h7] at q; cases q), (fun _ q => by simp [upd] at q), (fun _ q => by simp [upd] at q), fun _ => ⟨W, b1, b2, d1, d2, rfl⟩⟩⟩
    · rw [upd_ne (by decide)] at q ⊢; exact a2 q
    · rw [upd_ne (by decide)] at q ⊢; exact a3 q
    · rw [upd_ne (by decide)] at q ⊢; exact a4 q
  case hend =>
    intro c L W hall hW
    obtain ⟨W2, q1, q2, q3, q4, q5⟩ := hW.2.2.2.2.2.2.2.2 (hall 13 (by decide))
    rw [q4] at q3 q5
    have hw : ∃ W2 va vc, Ra b g (ts n s) W2 ∧ Only (fun k => k = b) w W2 ∧ OwnS w.heap.size W2 (.slice va U.1.length vc) U.1 ∧ W = W2.setCell p (.slice va U.1.length vc) := ⟨W2, c.va, c.vc, q1, q2, q3, q5⟩
    simp only [Act.put, List.setIfInBounds_toArray, List.set_cons_succ, List.set_cons_zero]
    show bodyPost _ _ _ _ _ _
    have HW := hide hw
    clear hw hall hW q1 q2 q3 q4 q5 hp ho hb hs h hbl hgl hpl o1 hq hU hX htl hn
    go_end0
    exact ⟨rfl, unhide HW⟩
end Go.Proofs.YtpidmpefodnffaaGreatDoor
namespace Go.Proofs.YtpidmpefodnffaaGreatDoor
open Go.RowKit
set_option maxHeartbeats 4000000
set_option maxRecDepth 8000
/-- What a field of a record holds. -/
inductive Ct
  | n (z : Int)
  | s (x : Bs)
  | b (t : Bool)
  | z
  | l (u : List Bs)
def CtAt (B : Nat) (w : World) : Ct → Value → Prop
  | .n z, v => v = I z
  | .s x, v => v = S x
  | .b t, v => v = .bool t
  | .z, v => v = .slice none 0 0
  | .l u, v => OwnS B w v u
theorem CtAt.keep {B : Nat} {w w' : World} {c : Ct} {v : Value} (h : CtAt B w c v) (P : Nat → Prop) (ho : Only P w w') (hp : ∀ k, P k → k < B) : CtAt B w' c v := by
  cases c with
  | n z => exact h
  | s x => exact h
  | b t => exact h
  | z => exact h
  | l u =>
    refine ⟨h.1, ?_⟩
    rcases h.2 with q | ⟨g, cap, cur, e1, e2, e3, e4⟩
    · exact .inl q
    · exact .inr ⟨g, cap, cur, e1, e2, (ho.block g (lt_of_row e3) (fun q => by have := hp g q; omega)).trans e3, e4⟩
/-- A record in its box T. -/
def Rec (B T : Nat) (ty : TypeId) (cs : List Ct) (w : World) : Prop := ∃ vs : List Value, w.heap[T]? = some (.cells vs.toArray ty (0, 0)) ∧ vs.length = cs.length ∧ ∀ (j : Nat) (c : Ct) (v : Value), cs[j]? = some c → vs[j]? = some v → CtAt B w c v
theorem Rec.keep {B T : Nat} {ty : TypeId} {cs : List Ct} {w w' : World} (h : Rec B T ty cs w) (P : Nat → Prop) (ho : Only P w w') (hT : ¬ P T) (hp : ∀ k, P k → k < B) : Rec B T ty cs w' := by
  obtain ⟨vs, h1, h2, h3⟩ := h
  exact ⟨vs, (ho.block T (lt_of_row h1) hT).trans h1, h2, fun j c v q1 q2 => (h3 j c v q1 q2).keep P ho hp⟩
theorem CtAt.weaken {B B' : Nat} {w : World} {c : Ct} {v : Value} (h : CtAt B w c v) (hB : B' ≤ B) : CtAt B' w c v := by
  cases c with
  | n z => exact h
  | s x => exact h
  | b t => exact h
  | z => exact h
  | l u => exact OwnS.below h (Below.refl _ _) hB
theorem Rec.weaken {B B' T : Nat} {ty : TypeId} {cs : List Ct} {w : World} (h : Rec B T ty cs w) (hB : B' ≤ B) : Rec B' T ty cs w := by
  obtain ⟨vs, h1, h2, h3⟩ := h
  exact ⟨vs, h1, h2, fun j c v q1 q2 => (h3 j c v q1 q2).weaken hB⟩
theorem Rec.set {B T : Nat} {ty : TypeId} {cs : List Ct} {w : World} (h : Rec B T ty cs w) (hT : T < B) (j : Nat) (c : Ct) (v : Value) (hc : CtAt B w c v) : Rec B T ty (cs.set j c) (w.setCell ⟨T, j, none⟩ v) := by
  obtain ⟨vs, h1, h2, h3⟩ := h
  have o : Only (fun k => k = T) w (w.setCell ⟨T, j, none⟩ v) := Only.setCell w ⟨T, j, none⟩ v
  have e := heap_setCell_same w T j vs.toArray ty v h1
  refine ⟨vs.set j v, ?_, by simp [h2], fun i c' v' q1 q2 => ?_⟩
  · rw [e]; simp
  · by_cases hij : i = j
    · subst hij
      rw [List.getElem?_set] at q1 q2
      simp only [if_true] at q1 q2
      split at q1
      · split at q2
        · cases q1; cases q2
          exact hc.keep _ o (fun k q => by omega)
        · cases q2
      · cases q1
    · rw [List.getElem?_set_ne (fun q => hij q.symm)] at q1 q2
      exact (h3 i c' v' q1 q2).keep _ o (fun k q => by omega)
/-- While a record is read: the Reader b, g, the box T, the letters Ls. -/
structure TS (B T b g : Nat) (ty : TypeId) (Ls : List Nat) (Fx : List (Nat × Obj)) (s : Bs × Nat) (cs : List Ct) (w : World) : Prop where
  ra : Ra b g s w
  rc : Rec B T ty cs w
  ls : ∀ l, l ∈ Ls → ∃ x, w.heap[l]? = some (.cells #[S x] 9 (0, 0))
  tB : T < B
  bB : b < B
  gB : g < B
  lB : ∀ l, l ∈ Ls → l < B ∧ l ≠ b ∧ l ≠ g ∧ l ≠ T
  bT : b ≠ T
  gT : g ≠ T
  sz : B ≤ w.heap.size
  len : s.1.length ≤ 9223372036854775807
  fx : ∀ q, q ∈ Fx → w.heap[q.1]? = some q.2 ∧ q.1 ≠ b ∧ q.1 ≠ T ∧ ¬ q.1 ∈ Ls
abbrev Pb (T b : Nat) (Ls : List Nat) : Nat → Prop := fun k => k = b ∨ k = T ∨ k ∈ Ls
section
variable {B T b g : Nat} {ty : TypeId} {Ls : List Nat} {Fx : List (Nat × Obj)} {s s' : Bs × Nat} {cs : List Ct} {w w2 : World}
/-- Behind the Reader's call: the box and the letters are as they were. -/
theorem TS.over (h : TS B T b g ty Ls Fx s cs w) (h1 : Ra b g s' w2) (h2 : Only (fun k => k = b) w w2) (hl : s'.1.length ≤ s.1.length) : TS B T b g ty Ls Fx s' cs w2 := by
  refine ⟨h1, h.rc.keep _ h2 (fun e => h.bT e.symm) (fun k e => by have := h.bB; omega), fun l hl => ?_, h.tB, h.bB, h.gB, h.lB, h.bT, h.gT, Nat.le_trans h.sz h2.size, Nat.le_trans hl h.len, fun q hq => ?_⟩
  · obtain ⟨x, q⟩ := h.ls l hl
    exact ⟨x, (h2.block l (lt_of_row q) (h.lB l hl).2.1).trans q⟩
  · obtain ⟨f1, f2⟩ := h.fx q hq
    exact ⟨(h2.block q.1 (lt_of_row f1) f2.1).trans f1, f2⟩
/-- A cell of the record is written. -/
theorem TS.put (h : TS B T b g ty Ls Fx s cs w) (j : Nat) (c : Ct) (v : Value) (hc : CtAt B w c v) : TS B T b g ty Ls Fx s (cs.set j c) (w.setCell ⟨T, j, none⟩ v) := by
  have o : Only (fun k => k = T) w (w.setCell ⟨T, j, none⟩ v) := Only.setCell w ⟨T, j, none⟩ v
  refine ⟨h.ra.keep o h.bT h.gT, h.rc.set h.tB j c v hc, fun l hl => ?_, h.tB, h.bB, h.gB, h.lB, h.bT, h.gT, Nat.le_trans h.sz o.size, h.len, fun q hq => ?_⟩
  · obtain ⟨x, q⟩ := h.ls l hl
    exact ⟨x, (o.block l (lt_of_row q) (h.lB l hl).2.2.2).trans q⟩
  · obtain ⟨f1, f2⟩ := h.fx q hq
    exact ⟨(o.block q.1 (lt_of_row f1) f2.2.1).trans f1, f2⟩
/-- A letter is written over. -/
theorem TS.letter (h : TS B T b g ty Ls Fx s cs w) (l : Nat) (hl : l ∈ Ls) (y : Bs) : TS B T b g ty Ls Fx s cs (w.setCell ⟨l, 0, none⟩ (S y)) := by
  have o : Only (fun k => k = l) w (w.setCell ⟨l, 0, none⟩ (S y)) := Only.setCell w ⟨l, 0, none⟩ (S y)
  obtain ⟨q1, q2, q3, q4⟩ := h.lB l hl
  refine ⟨h.ra.keep o (fun e => q2 e.symm) (fun e => q3 e.symm), h.rc.keep _ o (fun e => q4 e.symm) (fun k e => by omega), fun m hm => ?_, h.tB, h.bB, h.gB, h.lB, h.bT, h.gT, Nat.le_trans h.sz o.size, h.len, fun q hq => ?_⟩
  · by_cases e : m = l
    · subst e
      obtain ⟨x, q⟩ := h.ls m hm
      refine ⟨y, ?_⟩
      rw [heap_setCell_same w m 0 #[S x] 9 (S y) q]
      rfl
    · obtain ⟨x, q⟩ := h.ls m hm
      exact ⟨x, (o.block m (lt_of_row q) e).trans q⟩
  · obtain ⟨f1, f2⟩ := h.fx q hq
    exact ⟨(o.block q.1 (lt_of_row f1) (fun e => f2.2.2 (by rw [e]; exact hl))).trans f1, f2⟩
end
/-- A field that is read: what becomes of the Reader and of the record. -/
def Tf (T : Nat) (ty : TypeId) (Ls : List Nat) (Fx : List (Nat × Obj)) (m : Nat) (v : Value) (st : Bs × Nat → List Ct → (Bs × Nat) × List Ct) : Prop := ∃ (t : TypeId) (V : Value) (f : Nat), v = .iface t V ∧ (∀ W, (method 441 t V "latchkey/record.take").run Tryz.prog W = .ok (f, V) W) ∧ (∀ (ar : Array Value) (W : World), (callFunc f ar).run Tryz.prog W = .ok (.enter f ar) W) ∧
  ∀ (B b g : Nat) (s : Bs × Nat) (cs : List Ct) (w : World), TS B T b g ty Ls Fx s cs w → cs.length = m → Calls Tryz.prog f #[V, ptr b] w fun e w' => e = .returned (.tuple #[]) ∧ TS B T b g ty Ls Fx (st s cs).1 (st s cs).2 w' ∧ (st s cs).2.length = m ∧ Only (Pb T b Ls) w w'
theorem Rec.cell {B T : Nat} {ty : TypeId} {cs : List Ct} {w : World} (h : Rec B T ty cs w) (j : Nat) (hj : j < cs.length) : ∃ (vs : Array Value) (v : Value), w.heap[T]? = some (.cells vs ty (0, 0)) ∧ w.cell? ⟨T, j, none⟩ = some v := by
  obtain ⟨vs, h1, h2, h3⟩ := h
  refine ⟨vs.toArray, vs[j]'(by omega), h1, ?_⟩
  unfold World.cell?
  rw [h1]
  simp
theorem Only.pb {T b : Nat} {Ls : List Nat} {w w2 : World} (h : Only (fun k => k = b) w w2) (a : Addr) (v : Value) (ha : a.block = T ∨ a.block ∈ Ls) : Only (Pb T b Ls) w (w2.setCell a v) :=
  (h.mono (fun _ _ e => Or.inl e)).put a v (Or.inl (Or.inr ha))
theorem Tf.let (T : Nat) (ty : TypeId) (Ls : List Nat) (Fx : List (Nat × Obj)) (m l : Nat) (hl : l ∈ Ls) (n : Int) : Tf T ty Ls Fx m (.iface 179 (.agg #[PT ⟨l, 0, none⟩, I n, FN 132, FN 133])) (fun s cs => (rr2 n s, cs)) := by
  refine ⟨179, _, 200, rfl, mt179 _, cf Tryz.func200 (by kernel_rfl) rfl, fun B b g s cs w h hm => ?_⟩
  obtain ⟨x, q⟩ := h.ls l hl
  refine (takeW h.ra ⟨l, 0, none⟩ n q (by unfold World.cell?; rw [q]; rfl) (h.lB l hl).2.1 h.len).mono ?_
  rintro e w' ⟨rfl, w2, q1, q2, rfl⟩
  exact ⟨rfl, (h.over q1 q2 (rGo_len _ _ _ _)).letter l hl _, hm, q2.pb _ _ (.inr hl)⟩
theorem Tf.wh (T : Nat) (ty : TypeId) (Ls : List Nat) (Fx : List (Nat × Obj)) (m j : Nat) (hj : j < m) (n : Int) : Tf T ty Ls Fx m (.iface 179 (.agg #[PT ⟨T, j, none⟩, I n, FN 132, FN 133])) (fun s cs => (rr2 n s, cs.set j (.s (ra n s)))) := by
  refine ⟨179, _, 200, rfl, mt179 _, cf Tryz.func200 (by kernel_rfl) rfl, fun B b g s cs w h hm => ?_⟩
  obtain ⟨vs, v, q, qc⟩ := h.rc.cell j (by omega)
  refine (takeW h.ra ⟨T, j, none⟩ n q qc (fun e => h.bT e.symm) h.len).mono ?_
  rintro e w' ⟨rfl, w2, q1, q2, rfl⟩
  exact ⟨rfl, (h.over q1 q2 (rGo_len _ _ _ _)).put j (.s (ra n s)) _ rfl, by simp [hm], q2.pb _ _ (.inl rfl)⟩
theorem Tf.tx (T : Nat) (ty : TypeId) (Ls : List Nat) (Fx : List (Nat × Obj)) (m j : Nat) (hj : j < m) (n : Nat) : Tf T ty Ls Fx m (.iface 194 (.agg #[PT ⟨T, j, none⟩, I n, FN 137, FN 138])) (fun s cs => (ts n s, cs.set j (.s (tv n s)))) := by
  refine ⟨194, _, 206, rfl, mt194 _, cf Tryz.func206 (by kernel_rfl) rfl, fun B b g s cs w h hm => ?_⟩
  obtain ⟨vs, v, q, qc⟩ := h.rc.cell j (by omega)
  refine (takeT h.ra ⟨T, j, none⟩ n q qc (fun e => h.bT e.symm) h.len).mono ?_
  rintro e w' ⟨rfl, w2, q1, q2, rfl⟩
  exact ⟨rfl, (h.over q1 q2 (rGo_len _ _ _ _)).put j (.s (tv n s)) _ rfl, by simp [hm], q2.pb _ _ (.inl rfl)⟩
theorem Tf.nu (T : Nat) (ty : TypeId) (Ls : List Nat) (Fx : List (Nat × Obj)) (m j : Nat) (hj : j < m) (n : Nat) : Tf T ty Ls Fx m (.iface 197 (.agg #[PT ⟨T, j, none⟩, I n, FN 135, FN 136])) (fun s cs => (rs n s, cs.set j (.n (rv n s)))) := by
  refine ⟨197, _, 208, rfl, mt197 _, cf Tryz.func208 (by kernel_rfl) rfl, fun B b g s cs w h hm => ?_⟩
  obtain ⟨vs, v, q, qc⟩ := h.rc.cell j (by omega)
  refine (takeI h.ra ⟨T, j, none⟩ n q qc (fun e => h.bT e.symm) h.len).mono ?_
  rintro e w' ⟨rfl, w2, q1, q2, rfl⟩
  exact ⟨rfl, (h.over q1 q2 (rGo_len _ _ _ _)).put j (.n (rv n s)) _ rfl, by simp [hm], q2.pb _ _ (.inl rfl)⟩
theorem Tf.na (T : Nat) (ty : TypeId) (Ls : List Nat) (Fx : List (Nat × Obj)) (m j : Nat) (hj : j < m) (n : Nat) (hn : n ≤ 255) : Tf T ty Ls Fx m (.iface 200 (.agg #[PT ⟨T, j, none⟩, I n, FN 137, FN 138])) (fun s cs => (ts n s, cs.set j (.l (parse (tv n s)).1))) := by
  refine ⟨200, _, 210, rfl, mt200 _, cf Tryz.func210 (by kernel_rfl) rfl, fun B b g s cs w h hm => ?_⟩
  obtain ⟨vs, v, q, qc⟩ := h.rc.cell j (by omega)
  refine (takeN h.ra ⟨T, j, none⟩ n q qc (fun e => h.bT e.symm) h.len hn).mono ?_
  rintro e w' ⟨rfl, w2, va, vc, q1, q2, q3, rfl⟩
  exact ⟨rfl, (h.over q1 q2 (rGo_len _ _ _ _)).put j (.l (parse (tv n s)).1) _ (OwnS.below q3 (Below.refl _ _) h.sz), by simp [hm], q2.pb _ _ (.inl rfl)⟩

/-- What reading n fields makes of the Reader and the record. -/
def runF (st : Nat → Bs × Nat → List Ct → (Bs × Nat) × List Ct) : Nat → Bs × Nat → List Ct → (Bs × Nat) × List Ct
  | 0, s, cs => (s, cs)
  | i + 1, s, cs => st i (runF st i s cs).1 (runF st i s cs).2
theorem takeAll_any (a : Option Addr) (n : Nat) (V : Nat → Value) (st : Nat → Bs × Nat → List Ct → (Bs × Nat) × List Ct) (T : Nat) (ty : TypeId) (Ls : List Nat) (Fx : List (Nat × Obj)) (m : Nat) (x : Bs) (cs : List Ct) (w : World) (hn : n ≤ 1000) (hm : cs.length = m) (hx : x.length ≤ 9223372036854775807)
    (hrow : 0 < n → ∃ k vs, a = some ⟨k, 0, none⟩ ∧ (k, Obj.cells vs 213 (0, 0)) ∈ Fx ∧ ∀ i, i < n → vs[i]? = some (V i)) (hf : ∀ i, i < n → Tf T ty Ls Fx m (V i) (st i))
    (hT : w.heap[T]? ≠ none) (hrc : ∀ B, w.heap.size ≤ B → Rec B T ty cs w) (hls : ∀ l, l ∈ Ls → l ≠ T ∧ ∃ y, w.heap[l]? = some (.cells #[S y] 9 (0, 0))) (hfx : ∀ q, q ∈ Fx → w.heap[q.1]? = some q.2 ∧ q.1 ≠ T ∧ ¬ q.1 ∈ Ls) :
    Calls Tryz.prog 119 #[.slice a n n, S x] w fun e w' => e = .returned (.tuple #[]) ∧ Rec w.heap.size T ty (runF st n (x, 0) cs).2 w' ∧ (runF st n (x, 0) cs).2.length = m ∧ Only (fun k => k = T ∨ k ∈ Ls) w w' ∧ ∀ l, l ∈ Ls → ∃ y, w'.heap[l]? = some (.cells #[S y] 9 (0, 0)) := by
  have HN := hide (Rd.new x w)
  have hTl : T < w.heap.size := by
    rcases Nat.lt_or_ge T w.heap.size with q | q
    · exact q
    · exact absurd (Array.getElem?_eq_none q) hT
  have HF := hide hf
  have HR := hide hrow
  clear hf hrow
  go_enter Tryz.func119, Tryz.ntmps119
  go_wp2_with fail
  refine (unhide HN).mono ?_
  rintro e w1 ⟨b, g, rfl, ra1, hB, hb0, hg0⟩
  have hts : TS w1.heap.size T b g ty Ls Fx (x, 0) cs w1 := by
    obtain ⟨of, cp, q⟩ := ra1
    have hbl := lt_of_row q.row
    have hgl := q.bys.lt
    refine ⟨⟨of, cp, q⟩, (hrc w1.heap.size hB.size).keep (fun _ => False) (Only.of_below hB) (fun q => q) (fun _ q => q.elim), fun l hl => ?_, by have := hB.size; omega, hbl, hgl, fun l hl => ?_, by omega, by omega, Nat.le_refl _, hx, fun q hq => ?_⟩
    · obtain ⟨_, y, q⟩ := hls l hl
      exact ⟨y, (hB.block l (lt_of_row q)).trans q⟩
    · obtain ⟨e, y, q⟩ := hls l hl
      have := lt_of_row q
      have := hB.size
      exact ⟨by omega, by omega, by omega, e⟩
    · obtain ⟨f1, f2, f3⟩ := hfx q hq
      have := lt_of_row f1
      exact ⟨(hB.block q.1 this).trans f1, by omega, f2, f3⟩
  have HT := hide hts
  have HO : Hid (Only (fun k => k = T ∨ k ∈ Ls ∨ w.heap.size ≤ k) w w1) := hide (Only.of_below hB)
  have HS := hide hB.size
  generalize hBB : w1.heap.size = B at *
  clear hts ra1 HN hrc hls hfx hT hBB hB
  go_wp2_with fail
  go_loopw [11, 6] (fun i _ wr => ∃ k : Nat, k ≤ n ∧ i = I k ∧ TS B T b g ty Ls Fx (runF st k (x, 0) cs).1 (runF st k (x, 0) cs).2 wr ∧ (runF st k (x, 0) cs).2.length = m ∧ Only (fun k => k = T ∨ k ∈ Ls ∨ w.heap.size ≤ k) w wr) (fun i _ _ => n - (Go.RowKit.intOf i).toNat)
  case atStart => exact ⟨0, Nat.zero_le _, rfl, unhide HT, hm, unhide HO⟩
  case round =>
    obtain ⟨k, hk, rfl, ht, hlm, hoo⟩ := hrel
    clear HT HO
    by_cases hlt : k < n
    · have hlt' : (k : Int) < (n : Int) := by omega
      obtain ⟨gg, vs, ea, hin, hvs⟩ := unhide HR (by omega)
      obtain ⟨t, V', f, hv, hmt, hcf, hcall⟩ := unhide HF k hlt
      have hck : wr.cell? ⟨gg, k, none⟩ = some (.iface t V') := by
        unfold World.cell?
        rw [(ht.fx _ hin).1, ← hv]
        exact hvs k hlt
      have HCL := hide (hcall B b g _ _ wr ht hlm)
      have HOO := hide hoo
      have HRN : Hid (runF st (k + 1) (x, 0) cs = st k (runF st k (x, 0) cs).1 (runF st k (x, 0) cs).2) := hide rfl
      subst ea
      clear hvs hin hcall ht HR HF hv hoo
      clear hlm
      generalize st k (runF st k (x, 0) cs).1 (runF st k (x, 0) cs).2 = R2 at *
      go_wp2_with fail
      refine (unhide HCL).mono ?_
      rintro e w3 ⟨rfl, hw3, hl3, ho3⟩
      have HW3 := hide hw3
      have HL3 := hide hl3
      have HO3 := hide ((unhide HOO).trans ho3 (fun k hk q => by
        rcases q with q | q | q
        · subst q; exact .inr (.inr hb0)
        · exact .inl q
        · exact .inr (.inl q)))
      clear hw3 hl3 ho3 HCL HOO hck hmt hcf
      go_wp2
      refine ⟨⟨k + 1, by omega, by go_num, ?_, ?_, unhide HO3⟩, ?_⟩
      · rw [unhide HRN]; exact unhide HW3
      · rw [unhide HRN]; exact unhide HL3
      · simp [Go.RowKit.intOf]; omega
    · have hd : ¬ (k : Int) < (n : Int) := by omega
      have ek : k = n := by omega
      subst ek
      have HT := hide ht
      have HO := hide hoo
      have HLM := hide hlm
      clear ht hoo HR HF hlm
      go_wp2
      go_end0
      exact ⟨rfl, (unhide HT).rc.weaken (unhide HS), unhide HLM, (unhide HO).mono (fun q hq e => by
        rcases e with e | e | e
        · exact .inl e
        · exact .inr e
        · omega), (unhide HT).ls⟩
end Go.Proofs.YtpidmpefodnffaaGreatDoor
namespace Go.Proofs.YtpidmpefodnffaaGreatDoor
open Go.RowKit
set_option maxHeartbeats 4000000
set_option maxRecDepth 8000
theorem setRow_row {w : World} {g : Nat} {cs vs : Array Value} {t : TypeId} {f : Nat × Nat} (h : w.heap[g]? = some (.cells cs t f)) : (w.setRow g vs).heap[g]? = some (.cells vs t f) := setRow_heap w g cs vs t f h
theorem setRow_Only (w : World) (g : Nat) (vs : Array Value) : Only (fun k => k = g) w (w.setRow g vs) := ⟨rfl, rfl, rfl, by simp, fun k _ hk => setRow_other w g k vs hk⟩
theorem lv_row {T : TypeId} {n : Nat} (hA : ∀ w, (isAgg T).run Tryz.prog w = .ok true w) (hs : ∀ w, (sizeOf T).run Tryz.prog w = .ok n w) {w : World} {g : Nat} {cs : Array Value} {t : TypeId} {f : Nat × Nat} (hg : w.heap[g]? = some (.cells cs t f)) (hn : cs.size = n) : (loadVar T ⟨g, 0, none⟩).run Tryz.prog w = .ok (.agg cs) w := by
  have h := s_ldr hA hs (o := 0) hg cs.toList (by simpa using hn) (by rw [List.drop_zero, List.take_of_length_le (by simp [hn])])
  have e : (Instr.loadAt T (.pointer (some ⟨g, 0, none⟩))).run Tryz.prog w = (loadVar T ⟨g, 0, none⟩).run Tryz.prog w := by simp [Instr.loadAt, Instr.sureAddr]
  rw [← e, h]
/-- A struct in its cell and a word come out. -/
theorem out2c {T : TypeId} {n : Nat} (hA : ∀ w, (isAgg T).run Tryz.prog w = .ok true w) (hs : ∀ w, (sizeOf T).run Tryz.prog w = .ok n w) {fn : Func} {p q : Tmp} {W : World} {a : Act} {Z : Nat} {cs : Array Value} {t : TypeId} {v : Value} {Post : Ending → World → Prop} (hf : fn.results = #[.cell p T, .tmp q]) (hd : a.defers = []) (ht : a.tmps.getD p undef = .pointer (some ⟨Z, 0, none⟩)) (hv : a.tmps.getD q undef = v) (h : W.heap[Z]? = some (.cells cs t (0, 0))) (hn : cs.size = n) (hp : Post (.returned (.tuple #[.agg cs, v])) W) : bodyPost Tryz.prog fn Post .ret a W := by
  subst hv
  refine bodyPost_ret ?_ hd hp
  have ht' : a.tmps[p]?.getD undef = .pointer (some ⟨Z, 0, none⟩) := by simpa using ht
  simp only [results, hf]
  simp [ht', asAddr, lv_row hA hs h hn]
theorem out1c {T : TypeId} {n : Nat} (hA : ∀ w, (isAgg T).run Tryz.prog w = .ok true w) (hs : ∀ w, (sizeOf T).run Tryz.prog w = .ok n w) {fn : Func} {p : Tmp} {W : World} {a : Act} {Z : Nat} {cs : Array Value} {t : TypeId} {Post : Ending → World → Prop} (hf : fn.results = #[.cell p T]) (hd : a.defers = []) (ht : a.tmps.getD p undef = .pointer (some ⟨Z, 0, none⟩)) (h : W.heap[Z]? = some (.cells cs t (0, 0))) (hn : cs.size = n) (hp : Post (.returned (.agg cs)) W) : bodyPost Tryz.prog fn Post .ret a W := by
  refine bodyPost_ret ?_ hd hp
  have ht' : a.tmps[p]?.getD undef = .pointer (some ⟨Z, 0, none⟩) := by simpa using ht
  simp only [results, hf]
  simp [ht', asAddr, lv_row hA hs h hn]
theorem no_of {L : Nat → Bool} {a b : Nat} (h : L a = true → L b = true) (hb : L b = false) : L a = false := by
  cases q : L a
  · rfl
  · rw [h q] at hb; exact hb
/-- A row of fields that is built: by which operation, its place, what it holds. -/
structure Sl where
  op : Nat
  ix : Nat
  con : (Nat → Nat) → Array Value
  ty : TypeId
def cset (c : Nat → Nat) (k v : Nat) : Nat → Nat := fun j => if j = k then v else c j
/-- Between two operations of a lay function. -/
structure Ly (w1 : World) (R : Nat) (z v : (Nat → Nat) → Array Value) (S : Nat) (SL : List Sl) (D : List (Nat × Nat)) (c : Nat → Nat) (L : Nat → Bool) (W : World) : Prop where
  only : Only (fun k => k = R) w1 W
  sl : ∀ s, s ∈ SL → L s.op = true → w1.heap.size ≤ c s.ix ∧ W.heap[c s.ix]? = some (.cells (s.con c) s.ty (0, 0))
  dep : ∀ d, d ∈ D → L d.1 = true → L d.2 = true
  box : W.heap[R]? = some (.cells (if L S = true then v c else z c) 111 (0, 0))
section
variable {w1 : World} {R : Nat} {z v : (Nat → Nat) → Array Value} {S : Nat} {SL : List Sl} {D : List (Nat × Nat)} {c : Nat → Nat} {L : Nat → Bool} {W : World}
theorem Ly.pure (h : Ly w1 R z v S SL D c L W) (i : Nat) (h1 : ∀ s, s ∈ SL → s.op ≠ i) (h2 : ∀ d, d ∈ D → d.1 = i → L d.2 = true) (h3 : i ≠ S) : Ly w1 R z v S SL D c (upd L i) W := by
  refine ⟨h.only, fun s hs e => ?_, fun d hd e => ?_, ?_⟩
  · rw [upd_ne (h1 s hs)] at e; exact h.sl s hs e
  · rcases upd_or e with q | q
    · exact upd_tr (h2 d hd q)
    · exact upd_tr (h.dep d hd q)
  · rw [upd_ne (fun e => h3 e.symm)]; exact h.box
theorem Ly.slice (h : Ly w1 R z v S SL D c L W) (s0 : Sl) (hS : L S = false) (hne : S ≠ s0.op) (hz : ∀ c', z c' = z c) (h2 : ∀ d, d ∈ D → d.1 = s0.op → L d.2 = true) (h3 : ∀ s, s ∈ SL → L s.op = true → s.ix ≠ s0.ix ∧ ∀ m, s.con (cset c s0.ix m) = s.con c) (h4 : ∀ s, s ∈ SL → s.op = s0.op → s = s0) (h5 : ∀ m, s0.con (cset c s0.ix m) = s0.con c) : Ly w1 R z v S SL D (cset c s0.ix W.heap.size) (upd L s0.op) (W.alloc (.cells (s0.con c) s0.ty)) := by
  have hb : Below W.heap.size W (W.alloc (.cells (s0.con c) s0.ty)) := (Below.refl _ _).alloc (Nat.le_refl _) _
  refine ⟨h.only.more _, fun s hs e => ?_, fun d hd e => ?_, ?_⟩
  · by_cases q : s.op = s0.op
    · have := h4 s hs q
      subst this
      refine ⟨?_, ?_⟩
      · simp only [cset, if_true]; exact h.only.size
      · rw [h5]
        simp only [cset, if_true]
        exact heap_alloc_new W _
    · rw [upd_ne q] at e
      obtain ⟨q1, q2⟩ := h.sl s hs e
      obtain ⟨q3, q4⟩ := h3 s hs e
      have e1 : cset c s0.ix W.heap.size s.ix = c s.ix := by simp [cset, q3]
      rw [e1, q4]
      exact ⟨q1, (hb.block _ (lt_of_row q2)).trans q2⟩
  · rcases upd_or e with q | q
    · exact upd_tr (h2 d hd q)
    · exact upd_tr (h.dep d hd q)
  · have hbx := h.box
    rw [hS] at hbx
    rw [upd_ne hne, hS, hz]
    exact (hb.block _ (lt_of_row hbx)).trans hbx
theorem Ly.store (h : Ly w1 R z v S SL D c L W) (h1 : ∀ s, s ∈ SL → s.op ≠ S ∧ (L s.op = true → c s.ix ≠ R)) (h2 : ∀ d, d ∈ D → d.1 = S → L d.2 = true) : Ly w1 R z v S SL D c (upd L S) (W.setRow R (v c)) := by
  have hbx := h.box
  refine ⟨h.only.trans (setRow_Only W R (v c)) (fun _ _ q => q), fun s hs e => ?_, fun d hd e => ?_, ?_⟩
  · rw [upd_ne (h1 s hs).1] at e
    obtain ⟨q1, q2⟩ := h.sl s hs e
    exact ⟨q1, ((setRow_Only W R (v c)).block _ (lt_of_row q2) ((h1 s hs).2 e)).trans q2⟩
  · rcases upd_or e with q | q
    · exact upd_tr (h2 d hd q)
    · exact upd_tr (h.dep d hd q)
  · have : upd L S S = true := by simp [upd]
    rw [this, if_pos rfl]
    exact setRow_row hbx
end
end Go.Proofs.YtpidmpefodnffaaGreatDoor
namespace Go.Proofs.YtpidmpefodnffaaGreatDoor
open Go.RowKit
def vrpr77 (X _R : Nat) (a1 a2 : Option Addr) (n1 n2 : Nat) (k v : Bs) (_c : Unit) (i : Nat) : Value := match i with
  | 0 => (.pointer (some ⟨X, 0, none⟩))
  | 1 => (.slice a1 n1 n1)
  | 2 => (S k)
  | 3 => (.pointer (some ⟨X, 1, none⟩))
  | 4 => (.slice a2 n2 n2)
  | 5 => (S v)
  | 6 => (.agg #[S k, S v])
  | 7 => undef
  | _ => undef
def rpr77T : List (Op × Option Tmp × Option (Nat × Bool)) := [
  (.fieldAddr 111 (.tmp 1) 0, some 3, none),
  (.load 109 (.tmp 3), some 4, none),
  (.call { callee := .value (.func 117), args := #[(.tmp 4)], argTypes := #[109] }, some 5, none),
  (.fieldAddr 111 (.tmp 1) 1, some 6, none),
  (.load 109 (.tmp 6), some 7, none),
  (.call { callee := .value (.func 117), args := #[(.tmp 7)], argTypes := #[109] }, some 8, none),
  (.build 30 #[(0, (.tmp 5)), (1, (.tmp 8))], some 9, none),
  (.store 30 (.tmp 2) (.tmp 9), none, none)]
def rpr77D : List (Nat × Nat) := [(1, 0), (2, 1), (4, 3), (5, 4), (6, 2), (6, 5), (7, 6)]
set_option maxHeartbeats 4000000 in
theorem rpr77 {ops : Array Oper} {id : Nat} {Q : Exit → Act → World → Prop} (X R : Nat) (a1 a2 : Option Addr) (n1 n2 : Nat) (k v : Bs) (htab : ops.toList.map (fun o => (o.op, o.dst, o.guard)) = rpr77T) (hdep : deplB rpr77D ops = true) (hac : acB ops = true)
    (a0 : Act) (w : World) (hsz : 10 ≤ a0.tmps.size) (o1 : a0.tmps[1]? = some (.pointer (some ⟨X, 0, none⟩))) (o2 : a0.tmps[2]? = some (.pointer (some ⟨R, 0, none⟩)))
    (Wd : Unit → (Nat → Bool) → World → Prop) (h0 : ∃ c, Wd c (fun _ => false) w.drew) (hpure : ∀ i, i ∉ ([2, 5, 7] : List Nat) → ∀ c L W, Wd c L W → Wd c (upd L i) W)
    (r1 : ∀ c L W, Wd c L W → L 1 = false → L 0 = true → (Instr.loadAt 109 (.pointer (some ⟨X, 0, none⟩))).run Tryz.prog W = .ok (.slice a1 n1 n1) W)
    (r2 : ∀ c L W, Wd c L W → L 2 = false → L 1 = true → Calls Tryz.prog 117 #[(.slice a1 n1 n1)] W fun eg w' => ∃ c', (∀ j, L j = true → vrpr77 X R a1 a2 n1 n2 k v c' j = vrpr77 X R a1 a2 n1 n2 k v c j) ∧ eg = .returned (vrpr77 X R a1 a2 n1 n2 k v c' 2) ∧ Wd c' (upd L 2) w')
    (r4 : ∀ c L W, Wd c L W → L 4 = false → L 3 = true → (Instr.loadAt 109 (.pointer (some ⟨X, 1, none⟩))).run Tryz.prog W = .ok (.slice a2 n2 n2) W)
    (r5 : ∀ c L W, Wd c L W → L 5 = false → L 4 = true → Calls Tryz.prog 117 #[(.slice a2 n2 n2)] W fun eg w' => ∃ c', (∀ j, L j = true → vrpr77 X R a1 a2 n1 n2 k v c' j = vrpr77 X R a1 a2 n1 n2 k v c j) ∧ eg = .returned (vrpr77 X R a1 a2 n1 n2 k v c' 5) ∧ Wd c' (upd L 5) w')
    (r7 : ∀ c L W, Wd c L W → L 7 = false → L 6 = true → ∃ W', (Instr.storeAt 30 (.pointer (some ⟨R, 0, none⟩)) (.agg #[S k, S v])).run Tryz.prog W = .ok () W' ∧ Wd c (upd L 7) W')
    (hend : ∀ c L W, (∀ i, i < 8 → L i = true) → Wd c L W → Q .normal (((((((a0.put (some 3) (.pointer (some ⟨X, 0, none⟩))).put (some 4) (.slice a1 n1 n1)).put (some 5) (S k)).put (some 6) (.pointer (some ⟨X, 1, none⟩))).put (some 7) (.slice a2 n2 n2)).put (some 8) (S v)).put (some 9) (.agg #[S k, S v])) W) : (Code.region id ops true).wp Tryz.prog Q a0 w := by
  let val : Unit → Nat → Value := vrpr77 X R a1 a2 n1 n2 k v
  have hosz : ops.size = 8 := by
    have := congrArg List.length htab
    simpa [rpr77T] using this
  have hds : ∀ i s, (rpr77T[i]?).bind (·.2.1) = some s → dstOf ops i = some s := fun i s hi => by rw [tab_dst htab, hi]
  have hdisB : disL rpr77T = true := by rfl
  have hdis := disL_of htab hdisB
  have hold : ∀ s, rpr77T.all (fun x => !(x.2.1 == some s)) = true → (List.range ops.size).all (fun j => !(dstOf ops j == some s)) = true := fun s h => holdL htab s h
  refine region_detX val Wd (hac_of hac) hdis h0 ?_ ?_
  rotate_left
  · intro c L W hall hW
    have := hend c L W (by rw [← hosz]; exact hall) hW
    have e : frm ops a0 (val c) (fun _ => true) ops.size = (((((((a0.put (some 3) (.pointer (some ⟨X, 0, none⟩))).put (some 4) (.slice a1 n1 n1)).put (some 5) (S k)).put (some 6) (.pointer (some ⟨X, 1, none⟩))).put (some 7) (.slice a2 n2 n2)).put (some 8) (S v)).put (some 9) (.agg #[S k, S v])) := by
      rw [hosz]
      simp only [frm, if_true]
      rw [tab_dst htab 0, tab_dst htab 1, tab_dst htab 2, tab_dst htab 3, tab_dst htab 4, tab_dst htab 5, tab_dst htab 6, (show dstOf ops 7 = none from (tab_dst htab 7).trans rfl), put_none]
      rfl
    rw [e]
    exact this
  intro i o ho c L a w' hL hd ha hW
  have hi : i < 8 := by rw [← hosz]; exact (Array.getElem?_eq_some_iff.1 ho).1
  have G : ∀ j s : Nat, (rpr77T[j]?).bind (·.2.1) = some s → s < 10 → (i, j) ∈ rpr77D → a.tmps[s]? = some (val c j) := fun j s h1 h2 h3 => frm_at hdis ha j s (hds j s h1) (by omega) (depl_of hdep i j h3 ho hd)
  match i, ho, hL, hi, G with
  | 0, ho, hL, _, G =>
    obtain ⟨hop, hgd⟩ := tab3 htab ho rfl
    have h0 := frm_old ha 1 _ (hold 1 rfl) o1
    exact (dXr ho hgd (hpure 0 (by decide) c L w' hW) (g_field hop (eval_of h0) (by kernel_rfl)))
  | 1, ho, hL, _, G =>
    obtain ⟨hop, hgd⟩ := tab3 htab ho rfl
    have h0 := G 0 3 rfl (by decide) (by decide)
    exact (dXr ho hgd (hpure 1 (by decide) c L w' hW) (g_load hop (eval_of h0) (r1 c L w' hW hL (depl_of hdep 1 0 (by decide) ho hd))))
  | 2, ho, hL, _, G =>
    obtain ⟨hop, hgd⟩ := tab3 htab ho rfl
    have h0 := G 1 4 rfl (by decide) (by decide)
    refine doesX_call ho (wanted_none hgd) 117 #[(.slice a1 n1 n1)] ?_ (r2 c L w' hW hL (depl_of hdep 2 1 (by decide) ho hd))
    rw [run_calls Tryz.func117 (by kernel_rfl) rfl _ _ _ _ hop rfl]
    simp only [List.map_toArray, List.map_cons, List.map_nil, eval_of h0]
    all_goals rfl
  | 3, ho, hL, _, G =>
    obtain ⟨hop, hgd⟩ := tab3 htab ho rfl
    have h0 := frm_old ha 1 _ (hold 1 rfl) o1
    exact (dXr ho hgd (hpure 3 (by decide) c L w' hW) (g_field hop (eval_of h0) (by kernel_rfl)))
  | 4, ho, hL, _, G =>
    obtain ⟨hop, hgd⟩ := tab3 htab ho rfl
    have h0 := G 3 6 rfl (by decide) (by decide)
    exact (dXr ho hgd (hpure 4 (by decide) c L w' hW) (g_load hop (eval_of h0) (r4 c L w' hW hL (depl_of hdep 4 3 (by decide) ho hd))))
  | 5, ho, hL, _, G =>
    obtain ⟨hop, hgd⟩ := tab3 htab ho rfl
    have h0 := G 4 7 rfl (by decide) (by decide)
    refine doesX_call ho (wanted_none hgd) 117 #[(.slice a2 n2 n2)] ?_ (r5 c L w' hW hL (depl_of hdep 5 4 (by decide) ho hd))
    rw [run_calls Tryz.func117 (by kernel_rfl) rfl _ _ _ _ hop rfl]
    simp only [List.map_toArray, List.map_cons, List.map_nil, eval_of h0]
    all_goals rfl
  | 6, ho, hL, _, G =>
    obtain ⟨hop, hgd⟩ := tab3 htab ho rfl
    have h0 := G 2 5 rfl (by decide) (by decide)
    have h1 := G 5 8 rfl (by decide) (by decide)
    exact (dXr ho hgd (hpure 6 (by decide) c L w' hW) (g_build hop (by simp only [List.map_toArray, List.map_cons, List.map_nil, eval_of h0, eval_of h1]; first | done | rfl) (by kernel_rfl)))
  | 7, ho, hL, _, G =>
    obtain ⟨hop, hgd⟩ := tab3 htab ho rfl
    have h0 := frm_old ha 2 _ (hold 2 rfl) o2
    have h1 := G 6 9 rfl (by decide) (by decide)
    obtain ⟨W', q1, q2⟩ := r7 c L w' hW hL (depl_of hdep 7 6 (by decide) ho hd)
    exact doesX_of (doesL_skp ho (wanted_none hgd) rfl q2 (g_store hop (eval_of h0) (eval_of h1) q1))
  | (i + 8), ho, hL, hi, _ => exact absurd hi (by omega)
end Go.Proofs.YtpidmpefodnffaaGreatDoor
namespace Go.Proofs.YtpidmpefodnffaaGreatDoor
open Go.RowKit
set_option maxHeartbeats 4000000
set_option maxRecDepth 8000
/-- Between two operations of pair. -/
def Pq (w : World) (X R : Nat) (a1 a2 : Option Addr) (n1 n2 : Nat) (k v : Bs) (_ : Unit) (L : Nat → Bool) (W : World) : Prop :=
  Below w.heap.size w W ∧ W.heap[X]? = some (.cells #[.slice a1 n1 n1, .slice a2 n2 n2] 111 (0, 0)) ∧ W.heap[R]? = some (.cells (if L 7 = true then #[S k, S v] else #[S [], S []]) 30 (0, 0))
theorem Pq.ld {w : World} {X R : Nat} {a1 a2 : Option Addr} {n1 n2 : Nat} {k v : Bs} {u : Unit} {L : Nat → Bool} {W : World} (h : Pq w X R a1 a2 n1 n2 k v u L W) (j : Nat) (y : Value) (hv : (#[.slice a1 n1 n1, .slice a2 n2 n2] : Array Value)[j]? = some y) : W.cell? ⟨X, j, none⟩ = some y := by
  unfold World.cell?
  rw [h.2.1]
  exact hv
theorem Pq.pure {w : World} {X R : Nat} {a1 a2 : Option Addr} {n1 n2 : Nat} {k v : Bs} {u : Unit} {L : Nat → Bool} {W : World} (h : Pq w X R a1 a2 n1 n2 k v u L W) (i : Nat) (hi : i ≠ 7) {W' : World} (hb : Below W.heap.size W W') : Pq w X R a1 a2 n1 n2 k v u (upd L i) W' := by
  refine ⟨h.1.trans (hb.mono h.1.size), (hb.block X (lt_of_row h.2.1)).trans h.2.1, ?_⟩
  rw [upd_ne (fun e => hi e.symm)]
  exact (hb.block R (lt_of_row h.2.2)).trans h.2.2
theorem pair_any (a1 a2 : Option Addr) (n1 n2 : Nat) (V1 V2 : Nat → Value) (X1 X2 : Nat → Bs) (w : World) (h1 : n1 ≤ 1000) (h2 : n2 ≤ 1000) (r1 : Frow w a1 n1 V1) (r2 : Frow w a2 n2 V2) (f1 : ∀ W, Below w.heap.size w W → ∀ i, i < n1 → Pf W (V1 i) (X1 i)) (f2 : ∀ W, Below w.heap.size w W → ∀ i, i < n2 → Pf W (V2 i) (X2 i)) (l1 : (cat X1 n1).length ≤ 1000000000) (l2 : (cat X2 n2).length ≤ 1000000000) :
    Calls Tryz.prog 77 #[.agg #[.slice a1 n1 n1, .slice a2 n2 n2]] w fun e w' => e = .returned (.agg #[S (cat X1 n1), S (cat X2 n2)]) ∧ Below w.heap.size w w' := by
  have hb0 : Below w.heap.size w ((w.alloc (.cells #[.slice a1 n1 n1, .slice a2 n2 n2] 111)).alloc (.cells #[S [], S []] 30)) := ((Below.refl _ w).alloc (Nat.le_refl _) _).alloc (by simp) _
  have hX : ((w.alloc (.cells #[.slice a1 n1 n1, .slice a2 n2 n2] 111)).alloc (.cells #[S [], S []] 30)).heap[w.heap.size]? = some (.cells #[.slice a1 n1 n1, .slice a2 n2 n2] 111 (0, 0)) := by
    rw [heap_alloc_old _ _ (by simp)]; exact heap_alloc_new _ _
  have hR : ((w.alloc (.cells #[.slice a1 n1 n1, .slice a2 n2 n2] 111)).alloc (.cells #[S [], S []] 30)).heap[w.heap.size + 1]? = some (.cells #[S [], S []] 30 (0, 0)) := by
    have e := heap_alloc_new (w.alloc (.cells #[.slice a1 n1 n1, .slice a2 n2 n2] 111)) (.cells #[S [], S []] 30)
    simpa using e
  have c1 : ∀ W, Below w.heap.size w W → Calls Tryz.prog 117 #[.slice a1 n1 n1] W fun e w' => e = .returned (S (cat X1 n1)) ∧ Below W.heap.size W w' := fun W hW => laid_any a1 n1 V1 X1 W h1 (r1.below hW) (f1 W hW) l1
  have c2 : ∀ W, Below w.heap.size w W → Calls Tryz.prog 117 #[.slice a2 n2 n2] W fun e w' => e = .returned (S (cat X2 n2)) ∧ Below W.heap.size W w' := fun W hW => laid_any a2 n2 V2 X2 W h2 (r2.below hW) (f2 W hW) l2
  clear r1 r2 f1 f2 l1 l2 h1 h2
  generalize cat X1 n1 = k at *
  generalize cat X2 n2 = v at *
  go_enter Tryz.func77, Tryz.ntmps77
  go_wp2_with fail
  change _ at hR
  generalize hWe : ((w.alloc (.cells #[.slice a1 n1 n1, .slice a2 n2 n2] 111)).alloc (.cells #[S [], S []] 30)) = W1 at *
  generalize hRe : w.heap.size + 1 = R at *
  generalize hXe : w.heap.size = X at *
  refine rpr77 X R a1 a2 n1 n2 k v rfl (by rfl) (by rfl) _ W1 (by simp) rfl rfl (Pq w X R a1 a2 n1 n2 k v) ⟨(), by rw [hXe]; exact hb0.drew, hX, hR⟩ (fun i hi c L W hW => hW.pure i (fun e => hi (by simp [e])) (Below.refl _ _))
    (fun c L W hW _ _ => s_ld (T := 109) (fun _ => by kernel_rfl) (hW.ld 0 _ rfl))
    (fun c L W hW _ _ => (c1 W (by have q := hW.1; rw [hXe] at q; exact q)).mono fun e w' q => ⟨c, fun _ _ => rfl, q.1, hW.pure 2 (by decide) q.2⟩)
    (fun c L W hW _ _ => s_ld (T := 109) (fun _ => by kernel_rfl) (hW.ld 1 _ rfl))
    (fun c L W hW _ _ => (c2 W (by have q := hW.1; rw [hXe] at q; exact q)).mono fun e w' q => ⟨c, fun _ _ => rfl, q.1, hW.pure 5 (by decide) q.2⟩)
    (fun c L W hW hL _ => by
      have hbx := hW.2.2
      rw [hL, if_neg (by decide)] at hbx
      have e := s_sta (T := 30) (n := 2) (fun _ => by kernel_rfl) (o := 0) hbx (.agg #[S k, S v]) rfl (by decide) (by intro x hx; simp only [Value.cells, List.mem_cons, List.not_mem_nil, or_false] at hx; rcases hx with rfl | rfl <;> rfl)
      refine ⟨_, e, ?_⟩
      have o := setRow_Only W R #[S k, S v]
      refine ⟨o.below hW.1 hW.1.size (fun q e => by omega), (o.block X (lt_of_row hW.2.1) (by omega)).trans hW.2.1, ?_⟩
      rw [show upd L 7 7 = true by simp [upd], if_pos rfl]
      exact setRow_row hbx) ?hend
  case hend =>
    intro c L W hall hW
    simp only [Act.put, List.setIfInBounds_toArray, List.set_cons_succ, List.set_cons_zero]
    have HP := hide hW
    have HA := hide (hall 7 (by decide))
    clear hW hall c1 c2 hX hR hb0 hWe
    go_wp2
    obtain ⟨p1, p2, p3⟩ := unhide HP
    rw [unhide HA, if_pos rfl] at p3
    refine out1c (T := 30) (n := 2) (fun _ => by kernel_rfl) (fun _ => by kernel_rfl) (Z := R) rfl rfl rfl p3 rfl ?_
    subst hRe
    subst hXe
    exact ⟨rfl, p1⟩
end Go.Proofs.YtpidmpefodnffaaGreatDoor
namespace Go.Proofs.YtpidmpefodnffaaGreatDoor
open Go.RowKit
set_option maxHeartbeats 4000000
set_option maxRecDepth 8000
def tim (z : Int) : Bool := decide (0 ≤ z) && decide (z ≤ 1099511627776)
def spn (z : Int) : Bool := decide (1 ≤ z) && decide (z ≤ 1099511627776)
def idn (z : Int) : Bool := decide (1 ≤ z) && decide (z ≤ 4611686018427387904)
def gnr (z : Int) : Bool := decide (1 ≤ z) && decide (z ≤ 1073741824)
theorem isTime_any (z : Int) (w : World) : Calls Tryz.prog 116 #[I z] w fun e w' => e = .returned (.bool (tim z)) ∧ w' = w := by
  go_enter Tryz.func116, Tryz.ntmps116
  go_wp2
  all_goals go_ret
  all_goals refine ⟨ret_bool ?_, rfl⟩
  all_goals (rw [Bool.eq_iff_iff]; simp [tim]; try omega)
theorem isSpan_any (z : Int) (w : World) : Calls Tryz.prog 131 #[I z] w fun e w' => e = .returned (.bool (spn z)) ∧ w' = w := by
  go_enter Tryz.func131, Tryz.ntmps131
  go_wp2
  all_goals go_ret
  all_goals refine ⟨ret_bool ?_, rfl⟩
  all_goals (rw [Bool.eq_iff_iff]; simp [spn]; try omega)
theorem isID_any (z : Int) (w : World) : Calls Tryz.prog 142 #[I z] w fun e w' => e = .returned (.bool (idn z)) ∧ w' = w := by
  go_enter Tryz.func142, Tryz.ntmps142
  go_wp2
  all_goals go_ret
  all_goals refine ⟨ret_bool ?_, rfl⟩
  all_goals (rw [Bool.eq_iff_iff]; simp [idn]; try omega)
theorem isGen_any (z : Int) (w : World) : Calls Tryz.prog 143 #[I z] w fun e w' => e = .returned (.bool (gnr z)) ∧ w' = w := by
  go_enter Tryz.func143, Tryz.ntmps143
  go_wp2
  all_goals go_ret
  all_goals refine ⟨ret_bool ?_, rfl⟩
  all_goals (rw [Bool.eq_iff_iff]; simp [gnr]; try omega)
theorem isSecret_any (s : Bs) (w : World) : Calls Tryz.prog 149 #[S s] w fun e w' => e = .returned (.bool (s.length == 24)) ∧ w' = w := by
  go_enter Tryz.func149, Tryz.ntmps149
  go_wp2
  all_goals go_ret
  all_goals refine ⟨ret_bool ?_, rfl⟩
  all_goals (rw [Bool.eq_iff_iff]; simp; try omega)
theorem isNm_any (s : Bs) (w : World) (hs : s.length ≤ 9223372036854775807) : Calls Tryz.prog 128 #[S s] w fun e w' => e = .returned (.bool (right [s])) ∧ Below w.heap.size w w' := by
  have hb : Below w.heap.size w (w.alloc (.cells #[S s] 9)) := (Below.refl _ w).alloc (Nat.le_refl _) _
  have HR := hide (Right_any (some ⟨w.heap.size, 0, none⟩) 1 1 [s] (w.alloc (.cells #[S s] 9)) (sts_new w [s]) (by omega) (lns_one s hs))
  have HB := hide hb
  clear hb hs
  generalize right [s] = r at *
  go_enter Tryz.func128, Tryz.ntmps128
  go_wp2_with fail
  refine (unhide HR).mono ?_
  rintro e w2 ⟨rfl, hw2⟩
  have HW := hide ((unhide HB).trans (hw2.mono (unhide HB).size))
  clear hw2 HR HB
  go_wp2
  go_ret
  exact ⟨rfl, unhide HW⟩
end Go.Proofs.YtpidmpefodnffaaGreatDoor
namespace Go.Proofs.YtpidmpefodnffaaGreatDoor
open Go.RowKit
def lx (l : List Bs) : Nat → Bs := fun i => l.getD i []
theorem inf30 : (Tryz.prog.info? 30).map (·.size) = some 2 := by kernel_rfl
theorem wp_st30 {ops : Array Oper} {rest : List Oper} {o : Oper} {a : Act} {w : World} {Q : Exit → Act → World → Prop} (hgd : o.guard = none) (x y : Operand) (ho : o.op = .store 30 x y)
    (P : Nat) (hx : a.eval x = .pointer (some ⟨P, 0, none⟩)) (k v : Bs) (hy : a.eval y = .agg #[S k, S v]) (old : Array Value) (ho5 : old.size = 2) (hg : w.heap[P]? = some (.cells old 30 (0, 0)))
    (h : wpList Tryz.prog ops Q rest (a.put o.dst undef) (w.setRow P #[S k, S v])) : wpList Tryz.prog ops Q (o :: rest) a w :=
  wpList_store_row hgd 30 x y ho P _ hx hy 30 old hg inf30 (by rw [ho5]; rfl) (by simp [Value.oneCell']) h
theorem right_one {s : Bs} (h : right [s] = true) : 1 ≤ s.length ∧ s.length ≤ 16 := by
  have h1 := (right_iff.1 h).1 s (by simp)
  simp [nm] at h1
  omega
end Go.Proofs.YtpidmpefodnffaaGreatDoor
namespace Go.Proofs.YtpidmpefodnffaaGreatDoor
open Go.RowKit
set_option maxHeartbeats 4000000
set_option maxRecDepth 8000
def vrly103 (T _R L1 : Nat) (c : (Nat → Nat)) (i : Nat) : Value := match i with
  | 0 => (S [107])
  | 1 => (I 1)
  | 2 => (.agg #[(ptr L1), (I 1), (FN 132), (FN 133)])
  | 3 => (vW ⟨L1, 0, none⟩ 1)
  | 4 => (ptr T)
  | 5 => (ptr T)
  | 6 => (.pointer (some ⟨T, 0, none⟩))
  | 7 => (.agg #[(.pointer (some ⟨T, 0, none⟩)), (I 4), (FN 135), (FN 136)])
  | 8 => (vI ⟨T, 0, none⟩ 4)
  | 9 => (.slice (some ⟨c 0, 0, none⟩) 2 2)
  | 10 => (ptr T)
  | 11 => (ptr T)
  | 12 => (.pointer (some ⟨T, 1, none⟩))
  | 13 => (.agg #[(.pointer (some ⟨T, 1, none⟩)), (I 24), (FN 132), (FN 133)])
  | 14 => (vW ⟨T, 1, none⟩ 24)
  | 15 => (ptr T)
  | 16 => (ptr T)
  | 17 => (.pointer (some ⟨T, 2, none⟩))
  | 18 => (.agg #[(.pointer (some ⟨T, 2, none⟩)), (I 6), (FN 135), (FN 136)])
  | 19 => (vI ⟨T, 2, none⟩ 6)
  | 20 => (ptr T)
  | 21 => (ptr T)
  | 22 => (.pointer (some ⟨T, 3, none⟩))
  | 23 => (.agg #[(.pointer (some ⟨T, 3, none⟩)), (I 6), (FN 135), (FN 136)])
  | 24 => (vI ⟨T, 3, none⟩ 6)
  | 25 => (.slice (some ⟨c 1, 0, none⟩) 3 3)
  | 26 => (.agg #[(.slice (some ⟨c 0, 0, none⟩) 2 2), (.slice (some ⟨c 1, 0, none⟩) 3 3)])
  | 27 => undef
  | _ => undef
def rly103T : List (Op × Option Tmp × Option (Nat × Bool)) := [
  (.load 9 (.tmp 3), some 4, none),
  (.call { callee := .builtin .len, args := #[(.tmp 4)], argTypes := #[9] }, some 5, none),
  (.build 179 #[(0, (.tmp 3)), (1, (.tmp 5)), (2, (.func 132)), (3, (.func 133))], some 6, none),
  (.makeInterface 179 (.tmp 6), some 7, none),
  (.move (.tmp 0), some 8, none),
  (.nilCheck (.tmp 8), some 9, none),
  (.fieldAddr 60 (.tmp 9) 0, some 10, none),
  (.build 197 #[(0, (.tmp 10)), (1, (.const (I 4))), (2, (.func 135)), (3, (.func 136))], some 11, none),
  (.makeInterface 197 (.tmp 11), some 12, none),
  (.buildSlice 109 2 #[(0, (.tmp 7)), (1, (.tmp 12))], some 13, none),
  (.move (.tmp 0), some 14, none),
  (.nilCheck (.tmp 14), some 15, none),
  (.fieldAddr 60 (.tmp 15) 1, some 16, none),
  (.build 179 #[(0, (.tmp 16)), (1, (.const (I 24))), (2, (.func 132)), (3, (.func 133))], some 17, none),
  (.makeInterface 179 (.tmp 17), some 18, none),
  (.move (.tmp 0), some 19, none),
  (.nilCheck (.tmp 19), some 20, none),
  (.fieldAddr 60 (.tmp 20) 2, some 21, none),
  (.build 197 #[(0, (.tmp 21)), (1, (.const (I 6))), (2, (.func 135)), (3, (.func 136))], some 22, none),
  (.makeInterface 197 (.tmp 22), some 23, none),
  (.move (.tmp 0), some 24, none),
  (.nilCheck (.tmp 24), some 25, none),
  (.fieldAddr 60 (.tmp 25) 3, some 26, none),
  (.build 197 #[(0, (.tmp 26)), (1, (.const (I 6))), (2, (.func 135)), (3, (.func 136))], some 27, none),
  (.makeInterface 197 (.tmp 27), some 28, none),
  (.buildSlice 109 3 #[(0, (.tmp 18)), (1, (.tmp 23)), (2, (.tmp 28))], some 29, none),
  (.build 111 #[(0, (.tmp 13)), (1, (.tmp 29))], some 30, none),
  (.store 111 (.tmp 2) (.tmp 30), none, none)]
def crly103 (a0 : Act) (T _R L1 : Nat) (c : (Nat → Nat)) : Act := (((((((((((((((((((((((((((a0.put (some 4) (S [107])).put (some 5) (I 1)).put (some 6) (.agg #[(ptr L1), (I 1), (FN 132), (FN 133)])).put (some 7) (vW ⟨L1, 0, none⟩ 1)).put (some 8) (ptr T)).put (some 9) (ptr T)).put (some 10) (.pointer (some ⟨T, 0, none⟩))).put (some 11) (.agg #[(.pointer (some ⟨T, 0, none⟩)), (I 4), (FN 135), (FN 136)])).put (some 12) (vI ⟨T, 0, none⟩ 4)).put (some 13) (.slice (some ⟨c 0, 0, none⟩) 2 2)).put (some 14) (ptr T)).put (some 15) (ptr T)).put (some 16) (.pointer (some ⟨T, 1, none⟩))).put (some 17) (.agg #[(.pointer (some ⟨T, 1, none⟩)), (I 24), (FN 132), (FN 133)])).put (some 18) (vW ⟨T, 1, none⟩ 24)).put (some 19) (ptr T)).put (some 20) (ptr T)).put (some 21) (.pointer (some ⟨T, 2, none⟩))).put (some 22) (.agg #[(.pointer (some ⟨T, 2, none⟩)), (I 6), (FN 135), (FN 136)])).put (some 23) (vI ⟨T, 2, none⟩ 6)).put (some 24) (ptr T)).put (some 25) (ptr T)).put (some 26) (.pointer (some ⟨T, 3, none⟩))).put (some 27) (.agg #[(.pointer (some ⟨T, 3, none⟩)), (I 6), (FN 135), (FN 136)])).put (some 28) (vI ⟨T, 3, none⟩ 6)).put (some 29) (.slice (some ⟨c 1, 0, none⟩) 3 3)).put (some 30) (.agg #[(.slice (some ⟨c 0, 0, none⟩) 2 2), (.slice (some ⟨c 1, 0, none⟩) 3 3)]))
def rly103D : List (Nat × Nat) := [(1, 0), (2, 1), (3, 2), (5, 4), (6, 5), (7, 6), (8, 7), (9, 3), (9, 8), (11, 10), (12, 11), (13, 12), (14, 13), (16, 15), (17, 16), (18, 17), (19, 18), (21, 20), (22, 21), (23, 22), (24, 23), (25, 14), (25, 19), (25, 24), (26, 9), (26, 25), (27, 26)]
set_option maxHeartbeats 4000000 in
theorem rly103 {ops : Array Oper} {id : Nat} {Q : Exit → Act → World → Prop} (T R L1 : Nat) (htab : ops.toList.map (fun o => (o.op, o.dst, o.guard)) = rly103T) (hdep : deplB rly103D ops = true) (hac : acB ops = true)
    (a0 : Act) (w : World) (hsz : 31 ≤ a0.tmps.size) (o0 : a0.tmps[0]? = some (ptr T)) (o2 : a0.tmps[2]? = some (ptr R)) (o3 : a0.tmps[3]? = some (ptr L1))
    (Wd : (Nat → Nat) → (Nat → Bool) → World → Prop) (h0 : ∃ c, Wd c (fun _ => false) w.drew) (hpure : ∀ i, i ∉ ([9, 25, 26, 27] : List Nat) → ∀ c L W, Wd c L W → Wd c (upd L i) W)
    (r0 : ∀ c L W, Wd c L W → L 0 = false → (Instr.loadAt 9 (ptr L1)).run Tryz.prog W = .ok (S [107]) W)
    (r9 : ∀ c L W, Wd c L W → L 9 = false → L 3 = true → L 8 = true → ∃ c' W', (∀ j, L j = true → vrly103 T R L1 c' j = vrly103 T R L1 c j) ∧ (Instr.buildSlice 109 2 #[(0, (vW ⟨L1, 0, none⟩ 1)), (1, (vI ⟨T, 0, none⟩ 4))]).run Tryz.prog W = .ok (vrly103 T R L1 c' 9) W' ∧ Wd c' (upd L 9) W')
    (r25 : ∀ c L W, Wd c L W → L 25 = false → L 14 = true → L 19 = true → L 24 = true → ∃ c' W', (∀ j, L j = true → vrly103 T R L1 c' j = vrly103 T R L1 c j) ∧ (Instr.buildSlice 109 3 #[(0, (vW ⟨T, 1, none⟩ 24)), (1, (vI ⟨T, 2, none⟩ 6)), (2, (vI ⟨T, 3, none⟩ 6))]).run Tryz.prog W = .ok (vrly103 T R L1 c' 25) W' ∧ Wd c' (upd L 25) W')
    (e26 : ∀ c L W, Wd c L W → L 26 = false → L 9 = true → L 25 = true → Wd c (upd L 26) W)
    (r27 : ∀ c L W, Wd c L W → L 27 = false → L 26 = true → ∃ W', (Instr.storeAt 111 (ptr R) (.agg #[(.slice (some ⟨c 0, 0, none⟩) 2 2), (.slice (some ⟨c 1, 0, none⟩) 3 3)])).run Tryz.prog W = .ok () W' ∧ Wd c (upd L 27) W')
    (hend : ∀ c L W, (∀ i, i < 28 → L i = true) → Wd c L W → Q .normal (crly103 a0 T R L1 c) W) : (Code.region id ops true).wp Tryz.prog Q a0 w := by
  let val : (Nat → Nat) → Nat → Value := vrly103 T R L1
  have hosz : ops.size = 28 := by
    have := congrArg List.length htab
    simpa [rly103T] using this
  have hds : ∀ i s, (rly103T[i]?).bind (·.2.1) = some s → dstOf ops i = some s := fun i s hi => by rw [tab_dst htab, hi]
  have hdisB : disL rly103T = true := by rfl
  have hdis := disL_of htab hdisB
  have hold : ∀ s, rly103T.all (fun x => !(x.2.1 == some s)) = true → (List.range ops.size).all (fun j => !(dstOf ops j == some s)) = true := fun s h => holdL htab s h
  refine region_detX val Wd (hac_of hac) hdis h0 ?_ ?_
  rotate_left
  · intro c L W hall hW
    have := hend c L W (by rw [← hosz]; exact hall) hW
    have e : frm ops a0 (val c) (fun _ => true) ops.size = (crly103 a0 T R L1 c) := by
      rw [hosz]
      simp only [crly103, frm, if_true]
      rw [tab_dst htab 0, tab_dst htab 1, tab_dst htab 2, tab_dst htab 3, tab_dst htab 4, tab_dst htab 5, tab_dst htab 6, tab_dst htab 7, tab_dst htab 8, tab_dst htab 9, tab_dst htab 10, tab_dst htab 11, tab_dst htab 12, tab_dst htab 13, tab_dst htab 14, tab_dst htab 15, tab_dst htab 16, tab_dst htab 17, tab_dst htab 18, tab_dst htab 19, tab_dst htab 20, tab_dst htab 21, tab_dst htab 22, tab_dst htab 23, tab_dst htab 24, tab_dst htab 25, tab_dst htab 26, (show dstOf ops 27 = none from (tab_dst htab 27).trans rfl), put_none]
      rfl
    rw [e]
    exact this
  intro i o ho c L a w' hL hd ha hW
  have hi : i < 28 := by rw [← hosz]; exact (Array.getElem?_eq_some_iff.1 ho).1
  have G : ∀ j s : Nat, (rly103T[j]?).bind (·.2.1) = some s → s < 31 → (i, j) ∈ rly103D → a.tmps[s]? = some (val c j) := fun j s h1 h2 h3 => frm_at hdis ha j s (hds j s h1) (by omega) (depl_of hdep i j h3 ho hd)
  match i, ho, hL, hi, G with
  | 0, ho, hL, _, G =>
    obtain ⟨hop, hgd⟩ := tab3 htab ho rfl
    have h0 := frm_old ha 3 _ (hold 3 rfl) o3
    exact (dXr ho hgd (hpure 0 (by decide) c L w' hW) (g_load hop (eval_of h0) (r0 c L w' hW hL)))
  | 1, ho, hL, _, G =>
    obtain ⟨hop, hgd⟩ := tab3 htab ho rfl
    have h0 := G 0 4 rfl (by decide) (by decide)
    exact (dXr ho hgd (hpure 1 (by decide) c L w' hW) (run_len _ _ _ hop _ (eval_of h0) _))
  | 2, ho, hL, _, G =>
    obtain ⟨hop, hgd⟩ := tab3 htab ho rfl
    have h0 := frm_old ha 3 _ (hold 3 rfl) o3
    have h1 := G 1 5 rfl (by decide) (by decide)
    exact (dXr ho hgd (hpure 2 (by decide) c L w' hW) (g_build hop (map4 (eval_of h0) (eval_of h1) rfl rfl) (by kernel_rfl)))
  | 3, ho, hL, _, G =>
    obtain ⟨hop, hgd⟩ := tab3 htab ho rfl
    have h0 := G 2 6 rfl (by decide) (by decide)
    exact (dXr ho hgd (hpure 3 (by decide) c L w' hW) (g_mki hop (eval_of h0) (by kernel_rfl)))
  | 4, ho, hL, _, G =>
    obtain ⟨hop, hgd⟩ := tab3 htab ho rfl
    have h0 := frm_old ha 0 _ (hold 0 rfl) o0
    exact (dXr ho hgd (hpure 4 (by decide) c L w' hW) (g_mov hop (eval_of h0)))
  | 5, ho, hL, _, G =>
    obtain ⟨hop, hgd⟩ := tab3 htab ho rfl
    have h0 := G 4 8 rfl (by decide) (by decide)
    exact (dXr ho hgd (hpure 5 (by decide) c L w' hW) (run_nil _ _ _ hop _ (eval_of h0) _))
  | 6, ho, hL, _, G =>
    obtain ⟨hop, hgd⟩ := tab3 htab ho rfl
    have h0 := G 5 9 rfl (by decide) (by decide)
    exact (dXr ho hgd (hpure 6 (by decide) c L w' hW) (g_field hop (eval_of h0) (by kernel_rfl)))
  | 7, ho, hL, _, G =>
    obtain ⟨hop, hgd⟩ := tab3 htab ho rfl
    have h0 := G 6 10 rfl (by decide) (by decide)
    exact (dXr ho hgd (hpure 7 (by decide) c L w' hW) (g_build hop (map4 (eval_of h0) rfl rfl rfl) (by kernel_rfl)))
  | 8, ho, hL, _, G =>
    obtain ⟨hop, hgd⟩ := tab3 htab ho rfl
    have h0 := G 7 11 rfl (by decide) (by decide)
    exact (dXr ho hgd (hpure 8 (by decide) c L w' hW) (g_mki hop (eval_of h0) (by kernel_rfl)))
  | 9, ho, hL, _, G =>
    obtain ⟨hop, hgd⟩ := tab3 htab ho rfl
    have h0 := G 3 7 rfl (by decide) (by decide)
    have h1 := G 8 12 rfl (by decide) (by decide)
    obtain ⟨c', W', q0, q1, q2⟩ := r9 c L w' hW hL (depl_of hdep 9 3 (by decide) ho hd) (depl_of hdep 9 8 (by decide) ho hd)
    exact doesX_runw ho (wanted_none hgd) c' q0 q2 (g_bs hop (by simp only [List.map_toArray, List.map_cons, List.map_nil, eval_of h0, eval_of h1]; first | done | rfl) q1)
  | 10, ho, hL, _, G =>
    obtain ⟨hop, hgd⟩ := tab3 htab ho rfl
    have h0 := frm_old ha 0 _ (hold 0 rfl) o0
    exact (dXr ho hgd (hpure 10 (by decide) c L w' hW) (g_mov hop (eval_of h0)))
  | 11, ho, hL, _, G =>
    obtain ⟨hop, hgd⟩ := tab3 htab ho rfl
    have h0 := G 10 14 rfl (by decide) (by decide)
    exact (dXr ho hgd (hpure 11 (by decide) c L w' hW) (run_nil _ _ _ hop _ (eval_of h0) _))
  | 12, ho, hL, _, G =>
    obtain ⟨hop, hgd⟩ := tab3 htab ho rfl
    have h0 := G 11 15 rfl (by decide) (by decide)
    exact (dXr ho hgd (hpure 12 (by decide) c L w' hW) (g_field hop (eval_of h0) (by kernel_rfl)))
  | 13, ho, hL, _, G =>
    obtain ⟨hop, hgd⟩ := tab3 htab ho rfl
    have h0 := G 12 16 rfl (by decide) (by decide)
    exact (dXr ho hgd (hpure 13 (by decide) c L w' hW) (g_build hop (map4 (eval_of h0) rfl rfl rfl) (by kernel_rfl)))
  | 14, ho, hL, _, G =>
    obtain ⟨hop, hgd⟩ := tab3 htab ho rfl
    have h0 := G 13 17 rfl (by decide) (by decide)
    exact (dXr ho hgd (hpure 14 (by decide) c L w' hW) (g_mki hop (eval_of h0) (by kernel_rfl)))
  | 15, ho, hL, _, G =>
    obtain ⟨hop, hgd⟩ := tab3 htab ho rfl
    have h0 := frm_old ha 0 _ (hold 0 rfl) o0
    exact (dXr ho hgd (hpure 15 (by decide) c L w' hW) (g_mov hop (eval_of h0)))
  | 16, ho, hL, _, G =>
    obtain ⟨hop, hgd⟩ := tab3 htab ho rfl
    have h0 := G 15 19 rfl (by decide) (by decide)
    exact (dXr ho hgd (hpure 16 (by decide) c L w' hW) (run_nil _ _ _ hop _ (eval_of h0) _))
  | 17, ho, hL, _, G =>
    obtain ⟨hop, hgd⟩ := tab3 htab ho rfl
    have h0 := G 16 20 rfl (by decide) (by decide)
    exact (dXr ho hgd (hpure 17 (by decide) c L w' hW) (g_field hop (eval_of h0) (by kernel_rfl)))
  | 18, ho, hL, _, G =>
    obtain ⟨hop, hgd⟩ := tab3 htab ho rfl
    have h0 := G 17 21 rfl (by decide) (by decide)
    exact (dXr ho hgd (hpure 18 (by decide) c L w' hW) (g_build hop (map4 (eval_of h0) rfl rfl rfl) (by kernel_rfl)))
  | 19, ho, hL, _, G =>
    obtain ⟨hop, hgd⟩ := tab3 htab ho rfl
    have h0 := G 18 22 rfl (by decide) (by decide)
    exact (dXr ho hgd (hpure 19 (by decide) c L w' hW) (g_mki hop (eval_of h0) (by kernel_rfl)))
  | 20, ho, hL, _, G =>
    obtain ⟨hop, hgd⟩ := tab3 htab ho rfl
    have h0 := frm_old ha 0 _ (hold 0 rfl) o0
    exact (dXr ho hgd (hpure 20 (by decide) c L w' hW) (g_mov hop (eval_of h0)))
  | 21, ho, hL, _, G =>
    obtain ⟨hop, hgd⟩ := tab3 htab ho rfl
    have h0 := G 20 24 rfl (by decide) (by decide)
    exact (dXr ho hgd (hpure 21 (by decide) c L w' hW) (run_nil _ _ _ hop _ (eval_of h0) _))
  | 22, ho, hL, _, G =>
    obtain ⟨hop, hgd⟩ := tab3 htab ho rfl
    have h0 := G 21 25 rfl (by decide) (by decide)
    exact (dXr ho hgd (hpure 22 (by decide) c L w' hW) (g_field hop (eval_of h0) (by kernel_rfl)))
  | 23, ho, hL, _, G =>
    obtain ⟨hop, hgd⟩ := tab3 htab ho rfl
    have h0 := G 22 26 rfl (by decide) (by decide)
    exact (dXr ho hgd (hpure 23 (by decide) c L w' hW) (g_build hop (map4 (eval_of h0) rfl rfl rfl) (by kernel_rfl)))
  | 24, ho, hL, _, G =>
    obtain ⟨hop, hgd⟩ := tab3 htab ho rfl
    have h0 := G 23 27 rfl (by decide) (by decide)
    exact (dXr ho hgd (hpure 24 (by decide) c L w' hW) (g_mki hop (eval_of h0) (by kernel_rfl)))
  | 25, ho, hL, _, G =>
    obtain ⟨hop, hgd⟩ := tab3 htab ho rfl
    have h0 := G 14 18 rfl (by decide) (by decide)
    have h1 := G 19 23 rfl (by decide) (by decide)
    have h2 := G 24 28 rfl (by decide) (by decide)
    obtain ⟨c', W', q0, q1, q2⟩ := r25 c L w' hW hL (depl_of hdep 25 14 (by decide) ho hd) (depl_of hdep 25 19 (by decide) ho hd) (depl_of hdep 25 24 (by decide) ho hd)
    exact doesX_runw ho (wanted_none hgd) c' q0 q2 (g_bs hop (by simp only [List.map_toArray, List.map_cons, List.map_nil, eval_of h0, eval_of h1, eval_of h2]; first | done | rfl) q1)
  | 26, ho, hL, _, G =>
    obtain ⟨hop, hgd⟩ := tab3 htab ho rfl
    have h0 := G 9 13 rfl (by decide) (by decide)
    have h1 := G 25 29 rfl (by decide) (by decide)
    exact (dXr ho hgd (e26 c L w' hW hL (depl_of hdep 26 9 (by decide) ho hd) (depl_of hdep 26 25 (by decide) ho hd)) (g_build hop (by simp only [List.map_toArray, List.map_cons, List.map_nil, eval_of h0, eval_of h1]; first | done | rfl) (by kernel_rfl)))
  | 27, ho, hL, _, G =>
    obtain ⟨hop, hgd⟩ := tab3 htab ho rfl
    have h0 := frm_old ha 2 _ (hold 2 rfl) o2
    have h1 := G 26 30 rfl (by decide) (by decide)
    obtain ⟨W', q1, q2⟩ := r27 c L w' hW hL (depl_of hdep 27 26 (by decide) ho hd)
    exact doesX_of (doesL_skp ho (wanted_none hgd) rfl q2 (g_store hop (eval_of h0) (eval_of h1) q1))
  | (i + 28), ho, hL, hi, _ => exact absurd hi (by omega)
def sly103 (T : Nat) (L1 : Nat) : List Sl := [⟨9, 0, fun _ => #[(vW ⟨L1, 0, none⟩ 1), (vI ⟨T, 0, none⟩ 4)], 213⟩, ⟨25, 1, fun _ => #[(vW ⟨T, 1, none⟩ 24), (vI ⟨T, 2, none⟩ 6), (vI ⟨T, 3, none⟩ 6)], 213⟩]
def dly103 : List (Nat × Nat) := [(26, 9), (26, 25), (27, 26), (27, 9), (27, 25)]
theorem lay103 (T : Nat) (w : World) : Calls Tryz.prog 103 #[ptr T] w fun e w' => ∃ c : Nat → Nat, e = .returned (.agg (#[(.slice (some ⟨c 0, 0, none⟩) 2 2), (.slice (some ⟨c 1, 0, none⟩) 3 3)])) ∧ Below w.heap.size w w' ∧ w'.heap[w.heap.size + 1]? = some (.cells #[S [107]] 9 (0, 0)) ∧ (w.heap.size + 2 ≤ c 0 ∧ w'.heap[c 0]? = some (.cells #[(vW ⟨w.heap.size + 1, 0, none⟩ 1), (vI ⟨T, 0, none⟩ 4)] 213 (0, 0))) ∧ (w.heap.size + 2 ≤ c 1 ∧ w'.heap[c 1]? = some (.cells #[(vW ⟨T, 1, none⟩ 24), (vI ⟨T, 2, none⟩ 6), (vI ⟨T, 3, none⟩ 6)] 213 (0, 0))) := by
  have hb0 : Below w.heap.size w ((w.alloc (.cells #[.slice none 0 0, .slice none 0 0] 111)).alloc (.cells #[S [107]] 9)) := by
    refine (((Below.refl _ w).alloc (Nat.le_refl _) _)).alloc (by first | (simp; done) | (simp; omega)) _
  have hR : ((w.alloc (.cells #[.slice none 0 0, .slice none 0 0] 111)).alloc (.cells #[S [107]] 9)).heap[w.heap.size]? = some (.cells #[.slice none 0 0, .slice none 0 0] 111 (0, 0)) := by
    rw [heap_alloc_old _ _ (by first | (simp; done) | (simp; omega))]; exact heap_alloc_new _ _
  have hL1 : ((w.alloc (.cells #[.slice none 0 0, .slice none 0 0] 111)).alloc (.cells #[S [107]] 9)).heap[w.heap.size + 1]? = some (.cells #[S [107]] 9 (0, 0)) := by
    have e := heap_alloc_new ((w.alloc (.cells #[.slice none 0 0, .slice none 0 0] 111))) (.cells #[S [107]] 9)
    simpa using e
  have hsz : ((w.alloc (.cells #[.slice none 0 0, .slice none 0 0] 111)).alloc (.cells #[S [107]] 9)).heap.size = w.heap.size + 2 := by simp
  go_enter Tryz.func103, Tryz.ntmps103
  go_wp2_with fail
  generalize ((w.alloc (.cells #[.slice none 0 0, .slice none 0 0] 111)).alloc (.cells #[S [107]] 9)) = W1 at *
  generalize hL1e : w.heap.size + 1 = L1 at *
  generalize hRe : w.heap.size = R at *
  have hw1 : ∃ w1s, w1s = W1.heap.size := ⟨_, rfl⟩
  obtain ⟨w1s, hw1⟩ := hw1
  rw [← hw1] at hsz
  refine rly103 T R L1 rfl (by rfl) (by rfl) _ W1 (by simp) rfl rfl rfl (Ly W1 R (fun _ => #[.slice none 0 0, .slice none 0 0]) (fun c => #[(.slice (some ⟨c 0, 0, none⟩) 2 2), (.slice (some ⟨c 1, 0, none⟩) 3 3)]) 27 (sly103 T L1) dly103) ⟨fun _ => 0, (Only.drew _ W1), (fun _ _ e => by cases e), (fun _ _ e => by cases e), hR⟩ (fun i hi c L W hW => hW.pure i ?hp1 ?hp2 (fun e => hi (by simp [e])))
    (fun c L W hW _ => s_ld (T := 9) (fun _ => by kernel_rfl) (cellr ((hW.only.block L1 (by omega) (by omega)).trans hL1) rfl))
    (fun c L W hW hL h3 h8 => by
      refine ⟨cset c 0 W.heap.size, W.alloc (.cells #[(vW ⟨L1, 0, none⟩ 1), (vI ⟨T, 0, none⟩ 4)] 213), fun j hj => ?_, by kernel_rfl, hW.slice ⟨9, 0, fun _ => #[(vW ⟨L1, 0, none⟩ 1), (vI ⟨T, 0, none⟩ 4)], 213⟩ (no_of (hW.dep (27, 9) (by decide)) hL) (by simp) (fun _ => rfl) (fun d hd hi => ?_) (fun q hq e => ?_) (fun q hq e => ?_) (fun m => rfl)⟩
      · match j, hj with
        | 0, _ => rfl
        | 1, _ => rfl
        | 2, _ => rfl
        | 3, _ => rfl
        | 4, _ => rfl
        | 5, _ => rfl
        | 6, _ => rfl
        | 7, _ => rfl
        | 8, _ => rfl
        | 9, hj => rw [hL] at hj; cases hj
        | 10, _ => rfl
        | 11, _ => rfl
        | 12, _ => rfl
        | 13, _ => rfl
        | 14, _ => rfl
        | 15, _ => rfl
        | 16, _ => rfl
        | 17, _ => rfl
        | 18, _ => rfl
        | 19, _ => rfl
        | 20, _ => rfl
        | 21, _ => rfl
        | 22, _ => rfl
        | 23, _ => rfl
        | 24, _ => rfl
        | 25, _ => rfl
        | 26, hj => rw [hW.dep (26, 9) (by decide) hj] at hL; cases hL
        | 27, _ => rfl
        | (k + 28), _ => rfl
      · simp only [dly103, List.mem_cons, List.not_mem_nil, or_false] at hd
        rcases hd with rfl | rfl | rfl | rfl | rfl
        · exact absurd hi (by simp)
        · exact absurd hi (by simp)
        · exact absurd hi (by simp)
        · exact absurd hi (by simp)
        · exact absurd hi (by simp)
      · simp only [sly103, List.mem_cons, List.not_mem_nil, or_false] at hq
        rcases hq with rfl | rfl
        · rw [hL] at e; cases e
        · exact ⟨(by simp), fun m => rfl⟩
      · simp only [sly103, List.mem_cons, List.not_mem_nil, or_false] at hq
        rcases hq with rfl | rfl
        · rfl
        · exact absurd e (by simp))
    (fun c L W hW hL h14 h19 h24 => by
      refine ⟨cset c 1 W.heap.size, W.alloc (.cells #[(vW ⟨T, 1, none⟩ 24), (vI ⟨T, 2, none⟩ 6), (vI ⟨T, 3, none⟩ 6)] 213), fun j hj => ?_, by kernel_rfl, hW.slice ⟨25, 1, fun _ => #[(vW ⟨T, 1, none⟩ 24), (vI ⟨T, 2, none⟩ 6), (vI ⟨T, 3, none⟩ 6)], 213⟩ (no_of (hW.dep (27, 25) (by decide)) hL) (by simp) (fun _ => rfl) (fun d hd hi => ?_) (fun q hq e => ?_) (fun q hq e => ?_) (fun m => rfl)⟩
      · match j, hj with
        | 0, _ => rfl
        | 1, _ => rfl
        | 2, _ => rfl
        | 3, _ => rfl
        | 4, _ => rfl
        | 5, _ => rfl
        | 6, _ => rfl
        | 7, _ => rfl
        | 8, _ => rfl
        | 9, _ => rfl
        | 10, _ => rfl
        | 11, _ => rfl
        | 12, _ => rfl
        | 13, _ => rfl
        | 14, _ => rfl
        | 15, _ => rfl
        | 16, _ => rfl
        | 17, _ => rfl
        | 18, _ => rfl
        | 19, _ => rfl
        | 20, _ => rfl
        | 21, _ => rfl
        | 22, _ => rfl
        | 23, _ => rfl
        | 24, _ => rfl
        | 25, hj => rw [hL] at hj; cases hj
        | 26, hj => rw [hW.dep (26, 25) (by decide) hj] at hL; cases hL
        | 27, _ => rfl
        | (k + 28), _ => rfl
      · simp only [dly103, List.mem_cons, List.not_mem_nil, or_false] at hd
        rcases hd with rfl | rfl | rfl | rfl | rfl
        · exact absurd hi (by simp)
        · exact absurd hi (by simp)
        · exact absurd hi (by simp)
        · exact absurd hi (by simp)
        · exact absurd hi (by simp)
      · simp only [sly103, List.mem_cons, List.not_mem_nil, or_false] at hq
        rcases hq with rfl | rfl
        · exact ⟨(by simp), fun m => rfl⟩
        · rw [hL] at e; cases e
      · simp only [sly103, List.mem_cons, List.not_mem_nil, or_false] at hq
        rcases hq with rfl | rfl
        · exact absurd e (by simp)
        · rfl)
    (fun c L W hW _ h9 h25 => hW.pure 26 (fun s hs => by simp only [sly103, List.mem_cons, List.not_mem_nil, or_false] at hs; rcases hs with rfl | rfl <;> simp) (fun d hd hi => by
      simp only [dly103, List.mem_cons, List.not_mem_nil, or_false] at hd
      rcases hd with rfl | rfl | rfl | rfl | rfl
      · exact h9
      · exact h25
      · exact absurd hi (by simp)
      · exact absurd hi (by simp)
      · exact absurd hi (by simp)) (by decide))
    (fun c L W hW hL h26 => by
      have hbx := hW.box
      rw [hL, if_neg (by decide)] at hbx
      have e := s_sta (T := 111) (n := 2) (fun _ => by kernel_rfl) (o := 0) hbx (.agg #[(.slice (some ⟨c 0, 0, none⟩) 2 2), (.slice (some ⟨c 1, 0, none⟩) 3 3)]) rfl (by decide) (by intro x hx; simp only [Value.cells, List.mem_cons, List.not_mem_nil, or_false] at hx; rcases hx with rfl | rfl <;> rfl)
      refine ⟨_, e, ?_⟩
      refine hW.store (v := fun c => #[(.slice (some ⟨c 0, 0, none⟩) 2 2), (.slice (some ⟨c 1, 0, none⟩) 3 3)]) (fun q hq => ?_) (fun d hd hi => ?_)
      · simp only [sly103, List.mem_cons, List.not_mem_nil, or_false] at hq
        rcases hq with rfl | rfl
        · exact ⟨(by simp), fun e => by have h5 := (hW.sl ⟨9, 0, fun _ => #[(vW ⟨L1, 0, none⟩ 1), (vI ⟨T, 0, none⟩ 4)], 213⟩ (by simp [sly103]) e).1; have h6 : W1.heap.size ≤ c 0 := h5; show c 0 ≠ R; omega⟩
        · exact ⟨(by simp), fun e => by have h5 := (hW.sl ⟨25, 1, fun _ => #[(vW ⟨T, 1, none⟩ 24), (vI ⟨T, 2, none⟩ 6), (vI ⟨T, 3, none⟩ 6)], 213⟩ (by simp [sly103]) e).1; have h6 : W1.heap.size ≤ c 1 := h5; show c 1 ≠ R; omega⟩
      · simp only [dly103, List.mem_cons, List.not_mem_nil, or_false] at hd
        rcases hd with rfl | rfl | rfl | rfl | rfl
        · exact absurd hi (by simp)
        · exact absurd hi (by simp)
        · exact h26
        · exact hW.dep (26, 9) (by decide) h26
        · exact hW.dep (26, 25) (by decide) h26) ?hend
  case hp1 =>
    intro q hq e
    simp only [sly103, List.mem_cons, List.not_mem_nil, or_false] at hq
    rcases hq with rfl | rfl <;> exact hi (by simp at e; simp [← e])
  case hp2 =>
    intro d hd e
    simp only [dly103, List.mem_cons, List.not_mem_nil, or_false] at hd
    rcases hd with rfl | rfl | rfl | rfl | rfl <;> exact absurd (by simp at e; simp [← e]) hi
  case hend =>
    intro c L W hall hW
    simp only [crly103, Act.put, List.setIfInBounds_toArray, List.set_cons_succ, List.set_cons_zero]
    have hbx := hW.box
    rw [hall 27 (by decide), if_pos rfl] at hbx
    have hO := hW.only
    have hs0 := hW.sl ⟨9, 0, fun _ => #[(vW ⟨L1, 0, none⟩ 1), (vI ⟨T, 0, none⟩ 4)], 213⟩ (by simp [sly103]) (hall 9 (by decide))
    have hs1 := hW.sl ⟨25, 1, fun _ => #[(vW ⟨T, 1, none⟩ 24), (vI ⟨T, 2, none⟩ 6), (vI ⟨T, 3, none⟩ 6)], 213⟩ (by simp [sly103]) (hall 25 (by decide))
    have HP : Hid (W.heap[R]? = some (.cells #[(.slice (some ⟨c 0, 0, none⟩) 2 2), (.slice (some ⟨c 1, 0, none⟩) 3 3)] 111 (0, 0)) ∧ Below R w W ∧ W.heap[L1]? = some (.cells #[S [107]] 9 (0, 0)) ∧ (R + 2 ≤ c 0 ∧ W.heap[c 0]? = some (.cells #[(vW ⟨L1, 0, none⟩ 1), (vI ⟨T, 0, none⟩ 4)] 213 (0, 0))) ∧ (R + 2 ≤ c 1 ∧ W.heap[c 1]? = some (.cells #[(vW ⟨T, 1, none⟩ 24), (vI ⟨T, 2, none⟩ 6), (vI ⟨T, 3, none⟩ 6)] 213 (0, 0)))) := hide (⟨hbx, hO.below hb0 (by omega) (fun k e => by omega), (hO.block L1 (by omega) (by omega)).trans hL1, ⟨by have h5 : W1.heap.size ≤ c 0 := hs0.1; omega, hs0.2⟩, ⟨by have h5 : W1.heap.size ≤ c 1 := hs1.1; omega, hs1.2⟩⟩)
    clear hbx hO hW hall hs0 hs1
    go_wp2
    obtain ⟨hbx, hpp⟩ := unhide HP
    refine out1c (T := 111) (n := 2) (fun _ => by kernel_rfl) (fun _ => by kernel_rfl) (Z := R) rfl rfl rfl hbx rfl ?_
    subst hL1e; subst hRe
    exact ⟨c, rfl, hpp⟩
end Go.Proofs.YtpidmpefodnffaaGreatDoor
namespace Go.Proofs.YtpidmpefodnffaaGreatDoor
open Go.RowKit
set_option maxHeartbeats 4000000
set_option maxRecDepth 8000
def vrly76 (T _R L1 : Nat) (c : (Nat → Nat)) (i : Nat) : Value := match i with
  | 0 => (S [120])
  | 1 => (I 1)
  | 2 => (.agg #[(ptr L1), (I 1), (FN 132), (FN 133)])
  | 3 => (vW ⟨L1, 0, none⟩ 1)
  | 4 => (ptr T)
  | 5 => (ptr T)
  | 6 => (.pointer (some ⟨T, 0, none⟩))
  | 7 => (.agg #[(.pointer (some ⟨T, 0, none⟩)), (I 6), (FN 135), (FN 136)])
  | 8 => (vI ⟨T, 0, none⟩ 6)
  | 9 => (ptr T)
  | 10 => (ptr T)
  | 11 => (.pointer (some ⟨T, 1, none⟩))
  | 12 => (.agg #[(.pointer (some ⟨T, 1, none⟩)), (I 8), (FN 135), (FN 136)])
  | 13 => (vI ⟨T, 1, none⟩ 8)
  | 14 => (.slice (some ⟨c 0, 0, none⟩) 3 3)
  | 15 => (.agg #[(.slice (some ⟨c 0, 0, none⟩) 3 3), (.slice none 0 0)])
  | 16 => undef
  | _ => undef
def rly76T : List (Op × Option Tmp × Option (Nat × Bool)) := [
  (.load 9 (.tmp 3), some 4, none),
  (.call { callee := .builtin .len, args := #[(.tmp 4)], argTypes := #[9] }, some 5, none),
  (.build 179 #[(0, (.tmp 3)), (1, (.tmp 5)), (2, (.func 132)), (3, (.func 133))], some 6, none),
  (.makeInterface 179 (.tmp 6), some 7, none),
  (.move (.tmp 0), some 8, none),
  (.nilCheck (.tmp 8), some 9, none),
  (.fieldAddr 115 (.tmp 9) 0, some 10, none),
  (.build 197 #[(0, (.tmp 10)), (1, (.const (I 6))), (2, (.func 135)), (3, (.func 136))], some 11, none),
  (.makeInterface 197 (.tmp 11), some 12, none),
  (.move (.tmp 0), some 13, none),
  (.nilCheck (.tmp 13), some 14, none),
  (.fieldAddr 115 (.tmp 14) 1, some 15, none),
  (.build 197 #[(0, (.tmp 15)), (1, (.const (I 8))), (2, (.func 135)), (3, (.func 136))], some 16, none),
  (.makeInterface 197 (.tmp 16), some 17, none),
  (.buildSlice 109 3 #[(0, (.tmp 7)), (1, (.tmp 12)), (2, (.tmp 17))], some 18, none),
  (.build 111 #[(0, (.tmp 18))], some 19, none),
  (.store 111 (.tmp 2) (.tmp 19), none, none)]
def rly76D : List (Nat × Nat) := [(1, 0), (2, 1), (3, 2), (5, 4), (6, 5), (7, 6), (8, 7), (10, 9), (11, 10), (12, 11), (13, 12), (14, 3), (14, 8), (14, 13), (15, 14), (16, 15)]
set_option maxHeartbeats 4000000 in
theorem rly76 {ops : Array Oper} {id : Nat} {Q : Exit → Act → World → Prop} (T R L1 : Nat) (htab : ops.toList.map (fun o => (o.op, o.dst, o.guard)) = rly76T) (hdep : deplB rly76D ops = true) (hac : acB ops = true)
    (a0 : Act) (w : World) (hsz : 20 ≤ a0.tmps.size) (o0 : a0.tmps[0]? = some (ptr T)) (o2 : a0.tmps[2]? = some (ptr R)) (o3 : a0.tmps[3]? = some (ptr L1))
    (Wd : (Nat → Nat) → (Nat → Bool) → World → Prop) (h0 : ∃ c, Wd c (fun _ => false) w.drew) (hpure : ∀ i, i ∉ ([14, 15, 16] : List Nat) → ∀ c L W, Wd c L W → Wd c (upd L i) W)
    (r0 : ∀ c L W, Wd c L W → L 0 = false → (Instr.loadAt 9 (ptr L1)).run Tryz.prog W = .ok (S [120]) W)
    (r14 : ∀ c L W, Wd c L W → L 14 = false → L 3 = true → L 8 = true → L 13 = true → ∃ c' W', (∀ j, L j = true → vrly76 T R L1 c' j = vrly76 T R L1 c j) ∧ (Instr.buildSlice 109 3 #[(0, (vW ⟨L1, 0, none⟩ 1)), (1, (vI ⟨T, 0, none⟩ 6)), (2, (vI ⟨T, 1, none⟩ 8))]).run Tryz.prog W = .ok (vrly76 T R L1 c' 14) W' ∧ Wd c' (upd L 14) W')
    (e15 : ∀ c L W, Wd c L W → L 15 = false → L 14 = true → Wd c (upd L 15) W)
    (r16 : ∀ c L W, Wd c L W → L 16 = false → L 15 = true → ∃ W', (Instr.storeAt 111 (ptr R) (.agg #[(.slice (some ⟨c 0, 0, none⟩) 3 3), (.slice none 0 0)])).run Tryz.prog W = .ok () W' ∧ Wd c (upd L 16) W')
    (hend : ∀ c L W, (∀ i, i < 17 → L i = true) → Wd c L W → Q .normal ((((((((((((((((a0.put (some 4) (S [120])).put (some 5) (I 1)).put (some 6) (.agg #[(ptr L1), (I 1), (FN 132), (FN 133)])).put (some 7) (vW ⟨L1, 0, none⟩ 1)).put (some 8) (ptr T)).put (some 9) (ptr T)).put (some 10) (.pointer (some ⟨T, 0, none⟩))).put (some 11) (.agg #[(.pointer (some ⟨T, 0, none⟩)), (I 6), (FN 135), (FN 136)])).put (some 12) (vI ⟨T, 0, none⟩ 6)).put (some 13) (ptr T)).put (some 14) (ptr T)).put (some 15) (.pointer (some ⟨T, 1, none⟩))).put (some 16) (.agg #[(.pointer (some ⟨T, 1, none⟩)), (I 8), (FN 135), (FN 136)])).put (some 17) (vI ⟨T, 1, none⟩ 8)).put (some 18) (.slice (some ⟨c 0, 0, none⟩) 3 3)).put (some 19) (.agg #[(.slice (some ⟨c 0, 0, none⟩) 3 3), (.slice none 0 0)])) W) : (Code.region id ops true).wp Tryz.prog Q a0 w := by
  let val : (Nat → Nat) → Nat → Value := vrly76 T R L1
  have hosz : ops.size = 17 := by
    have := congrArg List.length htab
    simpa [rly76T] using this
  have hds : ∀ i s, (rly76T[i]?).bind (·.2.1) = some s → dstOf ops i = some s := fun i s hi => by rw [tab_dst htab, hi]
  have hdisB : disL rly76T = true := by rfl
  have hdis := disL_of htab hdisB
  have hold : ∀ s, rly76T.all (fun x => !(x.2.1 == some s)) = true → (List.range ops.size).all (fun j => !(dstOf ops j == some s)) = true := fun s h => holdL htab s h
  refine region_detX val Wd (hac_of hac) hdis h0 ?_ ?_
  rotate_left
  · intro c L W hall hW
    have := hend c L W (by rw [← hosz]; exact hall) hW
    have e : frm ops a0 (val c) (fun _ => true) ops.size = ((((((((((((((((a0.put (some 4) (S [120])).put (some 5) (I 1)).put (some 6) (.agg #[(ptr L1), (I 1), (FN 132), (FN 133)])).put (some 7) (vW ⟨L1, 0, none⟩ 1)).put (some 8) (ptr T)).put (some 9) (ptr T)).put (some 10) (.pointer (some ⟨T, 0, none⟩))).put (some 11) (.agg #[(.pointer (some ⟨T, 0, none⟩)), (I 6), (FN 135), (FN 136)])).put (some 12) (vI ⟨T, 0, none⟩ 6)).put (some 13) (ptr T)).put (some 14) (ptr T)).put (some 15) (.pointer (some ⟨T, 1, none⟩))).put (some 16) (.agg #[(.pointer (some ⟨T, 1, none⟩)), (I 8), (FN 135), (FN 136)])).put (some 17) (vI ⟨T, 1, none⟩ 8)).put (some 18) (.slice (some ⟨c 0, 0, none⟩) 3 3)).put (some 19) (.agg #[(.slice (some ⟨c 0, 0, none⟩) 3 3), (.slice none 0 0)])) := by
      rw [hosz]
      simp only [frm, if_true]
      rw [tab_dst htab 0, tab_dst htab 1, tab_dst htab 2, tab_dst htab 3, tab_dst htab 4, tab_dst htab 5, tab_dst htab 6, tab_dst htab 7, tab_dst htab 8, tab_dst htab 9, tab_dst htab 10, tab_dst htab 11, tab_dst htab 12, tab_dst htab 13, tab_dst htab 14, tab_dst htab 15, (show dstOf ops 16 = none from (tab_dst htab 16).trans rfl), put_none]
      rfl
    rw [e]
    exact this
  intro i o ho c L a w' hL hd ha hW
  have hi : i < 17 := by rw [← hosz]; exact (Array.getElem?_eq_some_iff.1 ho).1
  have G : ∀ j s : Nat, (rly76T[j]?).bind (·.2.1) = some s → s < 20 → (i, j) ∈ rly76D → a.tmps[s]? = some (val c j) := fun j s h1 h2 h3 => frm_at hdis ha j s (hds j s h1) (by omega) (depl_of hdep i j h3 ho hd)
  match i, ho, hL, hi, G with
  | 0, ho, hL, _, G =>
    obtain ⟨hop, hgd⟩ := tab3 htab ho rfl
    have h0 := frm_old ha 3 _ (hold 3 rfl) o3
    exact (dXr ho hgd (hpure 0 (by decide) c L w' hW) (g_load hop (eval_of h0) (r0 c L w' hW hL)))
  | 1, ho, hL, _, G =>
    obtain ⟨hop, hgd⟩ := tab3 htab ho rfl
    have h0 := G 0 4 rfl (by decide) (by decide)
    exact (dXr ho hgd (hpure 1 (by decide) c L w' hW) (run_len _ _ _ hop _ (eval_of h0) _))
  | 2, ho, hL, _, G =>
    obtain ⟨hop, hgd⟩ := tab3 htab ho rfl
    have h0 := frm_old ha 3 _ (hold 3 rfl) o3
    have h1 := G 1 5 rfl (by decide) (by decide)
    exact (dXr ho hgd (hpure 2 (by decide) c L w' hW) (g_build hop (map4 (eval_of h0) (eval_of h1) rfl rfl) (by kernel_rfl)))
  | 3, ho, hL, _, G =>
    obtain ⟨hop, hgd⟩ := tab3 htab ho rfl
    have h0 := G 2 6 rfl (by decide) (by decide)
    exact (dXr ho hgd (hpure 3 (by decide) c L w' hW) (g_mki hop (eval_of h0) (by kernel_rfl)))
  | 4, ho, hL, _, G =>
    obtain ⟨hop, hgd⟩ := tab3 htab ho rfl
    have h0 := frm_old ha 0 _ (hold 0 rfl) o0
    exact (dXr ho hgd (hpure 4 (by decide) c L w' hW) (g_mov hop (eval_of h0)))
  | 5, ho, hL, _, G =>
    obtain ⟨hop, hgd⟩ := tab3 htab ho rfl
    have h0 := G 4 8 rfl (by decide) (by decide)
    exact (dXr ho hgd (hpure 5 (by decide) c L w' hW) (run_nil _ _ _ hop _ (eval_of h0) _))
  | 6, ho, hL, _, G =>
    obtain ⟨hop, hgd⟩ := tab3 htab ho rfl
    have h0 := G 5 9 rfl (by decide) (by decide)
    exact (dXr ho hgd (hpure 6 (by decide) c L w' hW) (g_field hop (eval_of h0) (by kernel_rfl)))
  | 7, ho, hL, _, G =>
    obtain ⟨hop, hgd⟩ := tab3 htab ho rfl
    have h0 := G 6 10 rfl (by decide) (by decide)
    exact (dXr ho hgd (hpure 7 (by decide) c L w' hW) (g_build hop (map4 (eval_of h0) rfl rfl rfl) (by kernel_rfl)))
  | 8, ho, hL, _, G =>
    obtain ⟨hop, hgd⟩ := tab3 htab ho rfl
    have h0 := G 7 11 rfl (by decide) (by decide)
    exact (dXr ho hgd (hpure 8 (by decide) c L w' hW) (g_mki hop (eval_of h0) (by kernel_rfl)))
  | 9, ho, hL, _, G =>
    obtain ⟨hop, hgd⟩ := tab3 htab ho rfl
    have h0 := frm_old ha 0 _ (hold 0 rfl) o0
    exact (dXr ho hgd (hpure 9 (by decide) c L w' hW) (g_mov hop (eval_of h0)))
  | 10, ho, hL, _, G =>
    obtain ⟨hop, hgd⟩ := tab3 htab ho rfl
    have h0 := G 9 13 rfl (by decide) (by decide)
    exact (dXr ho hgd (hpure 10 (by decide) c L w' hW) (run_nil _ _ _ hop _ (eval_of h0) _))
  | 11, ho, hL, _, G =>
    obtain ⟨hop, hgd⟩ := tab3 htab ho rfl
    have h0 := G 10 14 rfl (by decide) (by decide)
    exact (dXr ho hgd (hpure 11 (by decide) c L w' hW) (g_field hop (eval_of h0) (by kernel_rfl)))
  | 12, ho, hL, _, G =>
    obtain ⟨hop, hgd⟩ := tab3 htab ho rfl
    have h0 := G 11 15 rfl (by decide) (by decide)
    exact (dXr ho hgd (hpure 12 (by decide) c L w' hW) (g_build hop (map4 (eval_of h0) rfl rfl rfl) (by kernel_rfl)))
  | 13, ho, hL, _, G =>
    obtain ⟨hop, hgd⟩ := tab3 htab ho rfl
    have h0 := G 12 16 rfl (by decide) (by decide)
    exact (dXr ho hgd (hpure 13 (by decide) c L w' hW) (g_mki hop (eval_of h0) (by kernel_rfl)))
  | 14, ho, hL, _, G =>
    obtain ⟨hop, hgd⟩ := tab3 htab ho rfl
    have h0 := G 3 7 rfl (by decide) (by decide)
    have h1 := G 8 12 rfl (by decide) (by decide)
    have h2 := G 13 17 rfl (by decide) (by decide)
    obtain ⟨c', W', q0, q1, q2⟩ := r14 c L w' hW hL (depl_of hdep 14 3 (by decide) ho hd) (depl_of hdep 14 8 (by decide) ho hd) (depl_of hdep 14 13 (by decide) ho hd)
    exact doesX_runw ho (wanted_none hgd) c' q0 q2 (g_bs hop (by simp only [List.map_toArray, List.map_cons, List.map_nil, eval_of h0, eval_of h1, eval_of h2]; first | done | rfl) q1)
  | 15, ho, hL, _, G =>
    obtain ⟨hop, hgd⟩ := tab3 htab ho rfl
    have h0 := G 14 18 rfl (by decide) (by decide)
    exact (dXr ho hgd (e15 c L w' hW hL (depl_of hdep 15 14 (by decide) ho hd)) (g_build hop (by simp only [List.map_toArray, List.map_cons, List.map_nil, eval_of h0]; first | done | rfl) (by kernel_rfl)))
  | 16, ho, hL, _, G =>
    obtain ⟨hop, hgd⟩ := tab3 htab ho rfl
    have h0 := frm_old ha 2 _ (hold 2 rfl) o2
    have h1 := G 15 19 rfl (by decide) (by decide)
    obtain ⟨W', q1, q2⟩ := r16 c L w' hW hL (depl_of hdep 16 15 (by decide) ho hd)
    exact doesX_of (doesL_skp ho (wanted_none hgd) rfl q2 (g_store hop (eval_of h0) (eval_of h1) q1))
  | (i + 17), ho, hL, hi, _ => exact absurd hi (by omega)
def sly76 (T : Nat) (L1 : Nat) : List Sl := [⟨14, 0, fun _ => #[(vW ⟨L1, 0, none⟩ 1), (vI ⟨T, 0, none⟩ 6), (vI ⟨T, 1, none⟩ 8)], 213⟩]
def dly76 : List (Nat × Nat) := [(15, 14), (16, 15), (16, 14)]
theorem lay76 (T : Nat) (w : World) : Calls Tryz.prog 76 #[ptr T] w fun e w' => ∃ c : Nat → Nat, e = .returned (.agg (#[(.slice (some ⟨c 0, 0, none⟩) 3 3), (.slice none 0 0)])) ∧ Below w.heap.size w w' ∧ w'.heap[w.heap.size + 1]? = some (.cells #[S [120]] 9 (0, 0)) ∧ (w.heap.size + 2 ≤ c 0 ∧ w'.heap[c 0]? = some (.cells #[(vW ⟨w.heap.size + 1, 0, none⟩ 1), (vI ⟨T, 0, none⟩ 6), (vI ⟨T, 1, none⟩ 8)] 213 (0, 0))) := by
  have hb0 : Below w.heap.size w ((w.alloc (.cells #[.slice none 0 0, .slice none 0 0] 111)).alloc (.cells #[S [120]] 9)) := by
    refine (((Below.refl _ w).alloc (Nat.le_refl _) _)).alloc (by first | (simp; done) | (simp; omega)) _
  have hR : ((w.alloc (.cells #[.slice none 0 0, .slice none 0 0] 111)).alloc (.cells #[S [120]] 9)).heap[w.heap.size]? = some (.cells #[.slice none 0 0, .slice none 0 0] 111 (0, 0)) := by
    rw [heap_alloc_old _ _ (by first | (simp; done) | (simp; omega))]; exact heap_alloc_new _ _
  have hL1 : ((w.alloc (.cells #[.slice none 0 0, .slice none 0 0] 111)).alloc (.cells #[S [120]] 9)).heap[w.heap.size + 1]? = some (.cells #[S [120]] 9 (0, 0)) := by
    have e := heap_alloc_new ((w.alloc (.cells #[.slice none 0 0, .slice none 0 0] 111))) (.cells #[S [120]] 9)
    simpa using e
  have hsz : ((w.alloc (.cells #[.slice none 0 0, .slice none 0 0] 111)).alloc (.cells #[S [120]] 9)).heap.size = w.heap.size + 2 := by simp
  go_enter Tryz.func76, Tryz.ntmps76
  go_wp2_with fail
  generalize ((w.alloc (.cells #[.slice none 0 0, .slice none 0 0] 111)).alloc (.cells #[S [120]] 9)) = W1 at *
  generalize hL1e : w.heap.size + 1 = L1 at *
  generalize hRe : w.heap.size = R at *
  have hw1 : ∃ w1s, w1s = W1.heap.size := ⟨_, rfl⟩
  obtain ⟨w1s, hw1⟩ := hw1
  rw [← hw1] at hsz
  refine rly76 T R L1 rfl (by rfl) (by rfl) _ W1 (by simp) rfl rfl rfl (Ly W1 R (fun _ => #[.slice none 0 0, .slice none 0 0]) (fun c => #[(.slice (some ⟨c 0, 0, none⟩) 3 3), (.slice none 0 0)]) 16 (sly76 T L1) dly76) ⟨fun _ => 0, (Only.drew _ W1), (fun _ _ e => by cases e), (fun _ _ e => by cases e), hR⟩ (fun i hi c L W hW => hW.pure i ?hp1 ?hp2 (fun e => hi (by simp [e])))
    (fun c L W hW _ => s_ld (T := 9) (fun _ => by kernel_rfl) (cellr ((hW.only.block L1 (by omega) (by omega)).trans hL1) rfl))
    (fun c L W hW hL h3 h8 h13 => by
      refine ⟨cset c 0 W.heap.size, W.alloc (.cells #[(vW ⟨L1, 0, none⟩ 1), (vI ⟨T, 0, none⟩ 6), (vI ⟨T, 1, none⟩ 8)] 213), fun j hj => ?_, by kernel_rfl, hW.slice ⟨14, 0, fun _ => #[(vW ⟨L1, 0, none⟩ 1), (vI ⟨T, 0, none⟩ 6), (vI ⟨T, 1, none⟩ 8)], 213⟩ (no_of (hW.dep (16, 14) (by decide)) hL) (by simp) (fun _ => rfl) (fun d hd hi => ?_) (fun q hq e => ?_) (fun q hq e => ?_) (fun m => rfl)⟩
      · match j, hj with
        | 0, _ => rfl
        | 1, _ => rfl
        | 2, _ => rfl
        | 3, _ => rfl
        | 4, _ => rfl
        | 5, _ => rfl
        | 6, _ => rfl
        | 7, _ => rfl
        | 8, _ => rfl
        | 9, _ => rfl
        | 10, _ => rfl
        | 11, _ => rfl
        | 12, _ => rfl
        | 13, _ => rfl
        | 14, hj => rw [hL] at hj; cases hj
        | 15, hj => rw [hW.dep (15, 14) (by decide) hj] at hL; cases hL
        | 16, _ => rfl
        | (k + 17), _ => rfl
      · simp only [dly76, List.mem_cons, List.not_mem_nil, or_false] at hd
        rcases hd with rfl | rfl | rfl
        · exact absurd hi (by simp)
        · exact absurd hi (by simp)
        · exact absurd hi (by simp)
      · simp only [sly76, List.mem_cons, List.not_mem_nil, or_false] at hq
        rcases hq with rfl
        · rw [hL] at e; cases e
      · simp only [sly76, List.mem_cons, List.not_mem_nil, or_false] at hq
        rcases hq with rfl
        · rfl)
    (fun c L W hW _ h14 => hW.pure 15 (fun s hs => by simp only [sly76, List.mem_cons, List.not_mem_nil, or_false] at hs; rcases hs with rfl <;> simp) (fun d hd hi => by
      simp only [dly76, List.mem_cons, List.not_mem_nil, or_false] at hd
      rcases hd with rfl | rfl | rfl
      · exact h14
      · exact absurd hi (by simp)
      · exact absurd hi (by simp)) (by decide))
    (fun c L W hW hL h15 => by
      have hbx := hW.box
      rw [hL, if_neg (by decide)] at hbx
      have e := s_sta (T := 111) (n := 2) (fun _ => by kernel_rfl) (o := 0) hbx (.agg #[(.slice (some ⟨c 0, 0, none⟩) 3 3), (.slice none 0 0)]) rfl (by decide) (by intro x hx; simp only [Value.cells, List.mem_cons, List.not_mem_nil, or_false] at hx; rcases hx with rfl | rfl <;> rfl)
      refine ⟨_, e, ?_⟩
      refine hW.store (v := fun c => #[(.slice (some ⟨c 0, 0, none⟩) 3 3), (.slice none 0 0)]) (fun q hq => ?_) (fun d hd hi => ?_)
      · simp only [sly76, List.mem_cons, List.not_mem_nil, or_false] at hq
        rcases hq with rfl
        · exact ⟨(by simp), fun e => by have h5 := (hW.sl ⟨14, 0, fun _ => #[(vW ⟨L1, 0, none⟩ 1), (vI ⟨T, 0, none⟩ 6), (vI ⟨T, 1, none⟩ 8)], 213⟩ (by simp [sly76]) e).1; have h6 : W1.heap.size ≤ c 0 := h5; show c 0 ≠ R; omega⟩
      · simp only [dly76, List.mem_cons, List.not_mem_nil, or_false] at hd
        rcases hd with rfl | rfl | rfl
        · exact absurd hi (by simp)
        · exact h15
        · exact hW.dep (15, 14) (by decide) h15) ?hend
  case hp1 =>
    intro q hq e
    simp only [sly76, List.mem_cons, List.not_mem_nil, or_false] at hq
    rcases hq with rfl <;> exact hi (by simp at e; simp [← e])
  case hp2 =>
    intro d hd e
    simp only [dly76, List.mem_cons, List.not_mem_nil, or_false] at hd
    rcases hd with rfl | rfl | rfl <;> exact absurd (by simp at e; simp [← e]) hi
  case hend =>
    intro c L W hall hW
    simp only [Act.put, List.setIfInBounds_toArray, List.set_cons_succ, List.set_cons_zero]
    have hbx := hW.box
    rw [hall 16 (by decide), if_pos rfl] at hbx
    have hO := hW.only
    have hs0 := hW.sl ⟨14, 0, fun _ => #[(vW ⟨L1, 0, none⟩ 1), (vI ⟨T, 0, none⟩ 6), (vI ⟨T, 1, none⟩ 8)], 213⟩ (by simp [sly76]) (hall 14 (by decide))
    have HP : Hid (W.heap[R]? = some (.cells #[(.slice (some ⟨c 0, 0, none⟩) 3 3), (.slice none 0 0)] 111 (0, 0)) ∧ Below R w W ∧ W.heap[L1]? = some (.cells #[S [120]] 9 (0, 0)) ∧ (R + 2 ≤ c 0 ∧ W.heap[c 0]? = some (.cells #[(vW ⟨L1, 0, none⟩ 1), (vI ⟨T, 0, none⟩ 6), (vI ⟨T, 1, none⟩ 8)] 213 (0, 0)))) := hide (⟨hbx, hO.below hb0 (by omega) (fun k e => by omega), (hO.block L1 (by omega) (by omega)).trans hL1, ⟨by have h5 : W1.heap.size ≤ c 0 := hs0.1; omega, hs0.2⟩⟩)
    clear hbx hO hW hall hs0
    go_wp2
    obtain ⟨hbx, hpp⟩ := unhide HP
    refine out1c (T := 111) (n := 2) (fun _ => by kernel_rfl) (fun _ => by kernel_rfl) (Z := R) rfl rfl rfl hbx rfl ?_
    subst hL1e; subst hRe
    exact ⟨c, rfl, hpp⟩
def vrly78 (T _R L1 L2 : Nat) (c : (Nat → Nat)) (i : Nat) : Value := match i with
  | 0 => (S [115])
  | 1 => (I 1)
  | 2 => (.agg #[(ptr L1), (I 1), (FN 132), (FN 133)])
  | 3 => (vW ⟨L1, 0, none⟩ 1)
  | 4 => (ptr T)
  | 5 => (ptr T)
  | 6 => (.pointer (some ⟨T, 0, none⟩))
  | 7 => (S [0])
  | 8 => (I 1)
  | 9 => (I 9)
  | 10 => (.agg #[(.pointer (some ⟨T, 0, none⟩)), (I 9), (FN 132), (FN 134), (FN 133)])
  | 11 => (vR ⟨T, 0, none⟩ 9)
  | 12 => (S [0])
  | 13 => (I 1)
  | 14 => (.agg #[(ptr L2), (I 1), (FN 132), (FN 133)])
  | 15 => (vW ⟨L2, 0, none⟩ 1)
  | 16 => (ptr T)
  | 17 => (ptr T)
  | 18 => (.pointer (some ⟨T, 1, none⟩))
  | 19 => (.agg #[(.pointer (some ⟨T, 1, none⟩)), (I 8), (FN 135), (FN 136)])
  | 20 => (vI ⟨T, 1, none⟩ 8)
  | 21 => (.slice (some ⟨c 0, 0, none⟩) 4 4)
  | 22 => (.agg #[(.slice (some ⟨c 0, 0, none⟩) 4 4), (.slice none 0 0)])
  | 23 => undef
  | _ => undef
def rly78T : List (Op × Option Tmp × Option (Nat × Bool)) := [
  (.load 9 (.tmp 3), some 5, none),
  (.call { callee := .builtin .len, args := #[(.tmp 5)], argTypes := #[9] }, some 6, none),
  (.build 179 #[(0, (.tmp 3)), (1, (.tmp 6)), (2, (.func 132)), (3, (.func 133))], some 7, none),
  (.makeInterface 179 (.tmp 7), some 8, none),
  (.move (.tmp 0), some 9, none),
  (.nilCheck (.tmp 9), some 10, none),
  (.fieldAddr 120 (.tmp 10) 0, some 11, none),
  (.load 9 (.tmp 4), some 12, none),
  (.call { callee := .builtin .len, args := #[(.tmp 12)], argTypes := #[9] }, some 13, none),
  (.binOp .add 3 (.tmp 13) (.const (I 8)) 3, some 14, none),
  (.build 183 #[(0, (.tmp 11)), (1, (.tmp 14)), (2, (.func 132)), (3, (.func 134)), (4, (.func 133))], some 15, none),
  (.makeInterface 183 (.tmp 15), some 16, none),
  (.load 9 (.tmp 4), some 17, none),
  (.call { callee := .builtin .len, args := #[(.tmp 17)], argTypes := #[9] }, some 18, none),
  (.build 179 #[(0, (.tmp 4)), (1, (.tmp 18)), (2, (.func 132)), (3, (.func 133))], some 19, none),
  (.makeInterface 179 (.tmp 19), some 20, none),
  (.move (.tmp 0), some 21, none),
  (.nilCheck (.tmp 21), some 22, none),
  (.fieldAddr 120 (.tmp 22) 1, some 23, none),
  (.build 197 #[(0, (.tmp 23)), (1, (.const (I 8))), (2, (.func 135)), (3, (.func 136))], some 24, none),
  (.makeInterface 197 (.tmp 24), some 25, none),
  (.buildSlice 109 4 #[(0, (.tmp 8)), (1, (.tmp 16)), (2, (.tmp 20)), (3, (.tmp 25))], some 26, none),
  (.build 111 #[(0, (.tmp 26))], some 27, none),
  (.store 111 (.tmp 2) (.tmp 27), none, none)]
def crly78 (a0 : Act) (T _R L1 L2 : Nat) (c : (Nat → Nat)) : Act := (((((((((((((((((((((((a0.put (some 5) (S [115])).put (some 6) (I 1)).put (some 7) (.agg #[(ptr L1), (I 1), (FN 132), (FN 133)])).put (some 8) (vW ⟨L1, 0, none⟩ 1)).put (some 9) (ptr T)).put (some 10) (ptr T)).put (some 11) (.pointer (some ⟨T, 0, none⟩))).put (some 12) (S [0])).put (some 13) (I 1)).put (some 14) (I 9)).put (some 15) (.agg #[(.pointer (some ⟨T, 0, none⟩)), (I 9), (FN 132), (FN 134), (FN 133)])).put (some 16) (vR ⟨T, 0, none⟩ 9)).put (some 17) (S [0])).put (some 18) (I 1)).put (some 19) (.agg #[(ptr L2), (I 1), (FN 132), (FN 133)])).put (some 20) (vW ⟨L2, 0, none⟩ 1)).put (some 21) (ptr T)).put (some 22) (ptr T)).put (some 23) (.pointer (some ⟨T, 1, none⟩))).put (some 24) (.agg #[(.pointer (some ⟨T, 1, none⟩)), (I 8), (FN 135), (FN 136)])).put (some 25) (vI ⟨T, 1, none⟩ 8)).put (some 26) (.slice (some ⟨c 0, 0, none⟩) 4 4)).put (some 27) (.agg #[(.slice (some ⟨c 0, 0, none⟩) 4 4), (.slice none 0 0)]))
def rly78D : List (Nat × Nat) := [(1, 0), (2, 1), (3, 2), (5, 4), (6, 5), (8, 7), (9, 8), (10, 6), (10, 9), (11, 10), (13, 12), (14, 13), (15, 14), (17, 16), (18, 17), (19, 18), (20, 19), (21, 3), (21, 11), (21, 15), (21, 20), (22, 21), (23, 22)]
set_option maxHeartbeats 4000000 in
theorem rly78 {ops : Array Oper} {id : Nat} {Q : Exit → Act → World → Prop} (T R L1 L2 : Nat) (htab : ops.toList.map (fun o => (o.op, o.dst, o.guard)) = rly78T) (hdep : deplB rly78D ops = true) (hac : acB ops = true)
    (a0 : Act) (w : World) (hsz : 28 ≤ a0.tmps.size) (o0 : a0.tmps[0]? = some (ptr T)) (o2 : a0.tmps[2]? = some (ptr R)) (o3 : a0.tmps[3]? = some (ptr L1)) (o4 : a0.tmps[4]? = some (ptr L2))
    (Wd : (Nat → Nat) → (Nat → Bool) → World → Prop) (h0 : ∃ c, Wd c (fun _ => false) w.drew) (hpure : ∀ i, i ∉ ([21, 22, 23] : List Nat) → ∀ c L W, Wd c L W → Wd c (upd L i) W)
    (r0 : ∀ c L W, Wd c L W → L 0 = false → (Instr.loadAt 9 (ptr L1)).run Tryz.prog W = .ok (S [115]) W)
    (r7 : ∀ c L W, Wd c L W → L 7 = false → (Instr.loadAt 9 (ptr L2)).run Tryz.prog W = .ok (S [0]) W)
    (r9 : ∀ W, (do eqGuard .add 3 (.tmp 13) (.const (I 8)) (I 1) (I 8); binOp .add 3 (I 1) (I 8)).run Tryz.prog W = .ok (I 9) W)
    (r12 : ∀ c L W, Wd c L W → L 12 = false → (Instr.loadAt 9 (ptr L2)).run Tryz.prog W = .ok (S [0]) W)
    (r21 : ∀ c L W, Wd c L W → L 21 = false → L 3 = true → L 11 = true → L 15 = true → L 20 = true → ∃ c' W', (∀ j, L j = true → vrly78 T R L1 L2 c' j = vrly78 T R L1 L2 c j) ∧ (Instr.buildSlice 109 4 #[(0, (vW ⟨L1, 0, none⟩ 1)), (1, (vR ⟨T, 0, none⟩ 9)), (2, (vW ⟨L2, 0, none⟩ 1)), (3, (vI ⟨T, 1, none⟩ 8))]).run Tryz.prog W = .ok (vrly78 T R L1 L2 c' 21) W' ∧ Wd c' (upd L 21) W')
    (e22 : ∀ c L W, Wd c L W → L 22 = false → L 21 = true → Wd c (upd L 22) W)
    (r23 : ∀ c L W, Wd c L W → L 23 = false → L 22 = true → ∃ W', (Instr.storeAt 111 (ptr R) (.agg #[(.slice (some ⟨c 0, 0, none⟩) 4 4), (.slice none 0 0)])).run Tryz.prog W = .ok () W' ∧ Wd c (upd L 23) W')
    (hend : ∀ c L W, (∀ i, i < 24 → L i = true) → Wd c L W → Q .normal (crly78 a0 T R L1 L2 c) W) : (Code.region id ops true).wp Tryz.prog Q a0 w := by
  let val : (Nat → Nat) → Nat → Value := vrly78 T R L1 L2
  have hosz : ops.size = 24 := by
    have := congrArg List.length htab
    simpa [rly78T] using this
  have hds : ∀ i s, (rly78T[i]?).bind (·.2.1) = some s → dstOf ops i = some s := fun i s hi => by rw [tab_dst htab, hi]
  have hdisB : disL rly78T = true := by rfl
  have hdis := disL_of htab hdisB
  have hold : ∀ s, rly78T.all (fun x => !(x.2.1 == some s)) = true → (List.range ops.size).all (fun j => !(dstOf ops j == some s)) = true := fun s h => holdL htab s h
  refine region_detX val Wd (hac_of hac) hdis h0 ?_ ?_
  rotate_left
  · intro c L W hall hW
    have := hend c L W (by rw [← hosz]; exact hall) hW
    have e : frm ops a0 (val c) (fun _ => true) ops.size = (crly78 a0 T R L1 L2 c) := by
      rw [hosz]
      simp only [crly78, frm, if_true]
      rw [tab_dst htab 0, tab_dst htab 1, tab_dst htab 2, tab_dst htab 3, tab_dst htab 4, tab_dst htab 5, tab_dst htab 6, tab_dst htab 7, tab_dst htab 8, tab_dst htab 9, tab_dst htab 10, tab_dst htab 11, tab_dst htab 12, tab_dst htab 13, tab_dst htab 14, tab_dst htab 15, tab_dst htab 16, tab_dst htab 17, tab_dst htab 18, tab_dst htab 19, tab_dst htab 20, tab_dst htab 21, tab_dst htab 22, (show dstOf ops 23 = none from (tab_dst htab 23).trans rfl), put_none]
      rfl
    rw [e]
    exact this
  intro i o ho c L a w' hL hd ha hW
  have hi : i < 24 := by rw [← hosz]; exact (Array.getElem?_eq_some_iff.1 ho).1
  have G : ∀ j s : Nat, (rly78T[j]?).bind (·.2.1) = some s → s < 28 → (i, j) ∈ rly78D → a.tmps[s]? = some (val c j) := fun j s h1 h2 h3 => frm_at hdis ha j s (hds j s h1) (by omega) (depl_of hdep i j h3 ho hd)
  match i, ho, hL, hi, G with
  | 0, ho, hL, _, G =>
    obtain ⟨hop, hgd⟩ := tab3 htab ho rfl
    have h0 := frm_old ha 3 _ (hold 3 rfl) o3
    exact (dXr ho hgd (hpure 0 (by decide) c L w' hW) (g_load hop (eval_of h0) (r0 c L w' hW hL)))
  | 1, ho, hL, _, G =>
    obtain ⟨hop, hgd⟩ := tab3 htab ho rfl
    have h0 := G 0 5 rfl (by decide) (by decide)
    exact (dXr ho hgd (hpure 1 (by decide) c L w' hW) (run_len _ _ _ hop _ (eval_of h0) _))
  | 2, ho, hL, _, G =>
    obtain ⟨hop, hgd⟩ := tab3 htab ho rfl
    have h0 := frm_old ha 3 _ (hold 3 rfl) o3
    have h1 := G 1 6 rfl (by decide) (by decide)
    exact (dXr ho hgd (hpure 2 (by decide) c L w' hW) (g_build hop (map4 (eval_of h0) (eval_of h1) rfl rfl) (by kernel_rfl)))
  | 3, ho, hL, _, G =>
    obtain ⟨hop, hgd⟩ := tab3 htab ho rfl
    have h0 := G 2 7 rfl (by decide) (by decide)
    exact (dXr ho hgd (hpure 3 (by decide) c L w' hW) (g_mki hop (eval_of h0) (by kernel_rfl)))
  | 4, ho, hL, _, G =>
    obtain ⟨hop, hgd⟩ := tab3 htab ho rfl
    have h0 := frm_old ha 0 _ (hold 0 rfl) o0
    exact (dXr ho hgd (hpure 4 (by decide) c L w' hW) (g_mov hop (eval_of h0)))
  | 5, ho, hL, _, G =>
    obtain ⟨hop, hgd⟩ := tab3 htab ho rfl
    have h0 := G 4 9 rfl (by decide) (by decide)
    exact (dXr ho hgd (hpure 5 (by decide) c L w' hW) (run_nil _ _ _ hop _ (eval_of h0) _))
  | 6, ho, hL, _, G =>
    obtain ⟨hop, hgd⟩ := tab3 htab ho rfl
    have h0 := G 5 10 rfl (by decide) (by decide)
    exact (dXr ho hgd (hpure 6 (by decide) c L w' hW) (g_field hop (eval_of h0) (by kernel_rfl)))
  | 7, ho, hL, _, G =>
    obtain ⟨hop, hgd⟩ := tab3 htab ho rfl
    have h0 := frm_old ha 4 _ (hold 4 rfl) o4
    exact (dXr ho hgd (hpure 7 (by decide) c L w' hW) (g_load hop (eval_of h0) (r7 c L w' hW hL)))
  | 8, ho, hL, _, G =>
    obtain ⟨hop, hgd⟩ := tab3 htab ho rfl
    have h0 := G 7 12 rfl (by decide) (by decide)
    exact (dXr ho hgd (hpure 8 (by decide) c L w' hW) (run_len _ _ _ hop _ (eval_of h0) _))
  | 9, ho, hL, _, G =>
    obtain ⟨hop, hgd⟩ := tab3 htab ho rfl
    have h0 := G 8 13 rfl (by decide) (by decide)
    exact (dXr ho hgd (hpure 9 (by decide) c L w' hW) (g_bin hop (eval_of h0) rfl (r9 w')))
  | 10, ho, hL, _, G =>
    obtain ⟨hop, hgd⟩ := tab3 htab ho rfl
    have h0 := G 6 11 rfl (by decide) (by decide)
    have h1 := G 9 14 rfl (by decide) (by decide)
    exact (dXr ho hgd (hpure 10 (by decide) c L w' hW) (g_build hop (map5 (eval_of h0) (eval_of h1) rfl rfl rfl) (by kernel_rfl)))
  | 11, ho, hL, _, G =>
    obtain ⟨hop, hgd⟩ := tab3 htab ho rfl
    have h0 := G 10 15 rfl (by decide) (by decide)
    exact (dXr ho hgd (hpure 11 (by decide) c L w' hW) (g_mki hop (eval_of h0) (by kernel_rfl)))
  | 12, ho, hL, _, G =>
    obtain ⟨hop, hgd⟩ := tab3 htab ho rfl
    have h0 := frm_old ha 4 _ (hold 4 rfl) o4
    exact (dXr ho hgd (hpure 12 (by decide) c L w' hW) (g_load hop (eval_of h0) (r12 c L w' hW hL)))
  | 13, ho, hL, _, G =>
    obtain ⟨hop, hgd⟩ := tab3 htab ho rfl
    have h0 := G 12 17 rfl (by decide) (by decide)
    exact (dXr ho hgd (hpure 13 (by decide) c L w' hW) (run_len _ _ _ hop _ (eval_of h0) _))
  | 14, ho, hL, _, G =>
    obtain ⟨hop, hgd⟩ := tab3 htab ho rfl
    have h0 := frm_old ha 4 _ (hold 4 rfl) o4
    have h1 := G 13 18 rfl (by decide) (by decide)
    exact (dXr ho hgd (hpure 14 (by decide) c L w' hW) (g_build hop (map4 (eval_of h0) (eval_of h1) rfl rfl) (by kernel_rfl)))
  | 15, ho, hL, _, G =>
    obtain ⟨hop, hgd⟩ := tab3 htab ho rfl
    have h0 := G 14 19 rfl (by decide) (by decide)
    exact (dXr ho hgd (hpure 15 (by decide) c L w' hW) (g_mki hop (eval_of h0) (by kernel_rfl)))
  | 16, ho, hL, _, G =>
    obtain ⟨hop, hgd⟩ := tab3 htab ho rfl
    have h0 := frm_old ha 0 _ (hold 0 rfl) o0
    exact (dXr ho hgd (hpure 16 (by decide) c L w' hW) (g_mov hop (eval_of h0)))
  | 17, ho, hL, _, G =>
    obtain ⟨hop, hgd⟩ := tab3 htab ho rfl
    have h0 := G 16 21 rfl (by decide) (by decide)
    exact (dXr ho hgd (hpure 17 (by decide) c L w' hW) (run_nil _ _ _ hop _ (eval_of h0) _))
  | 18, ho, hL, _, G =>
    obtain ⟨hop, hgd⟩ := tab3 htab ho rfl
    have h0 := G 17 22 rfl (by decide) (by decide)
    exact (dXr ho hgd (hpure 18 (by decide) c L w' hW) (g_field hop (eval_of h0) (by kernel_rfl)))
  | 19, ho, hL, _, G =>
    obtain ⟨hop, hgd⟩ := tab3 htab ho rfl
    have h0 := G 18 23 rfl (by decide) (by decide)
    exact (dXr ho hgd (hpure 19 (by decide) c L w' hW) (g_build hop (map4 (eval_of h0) rfl rfl rfl) (by kernel_rfl)))
  | 20, ho, hL, _, G =>
    obtain ⟨hop, hgd⟩ := tab3 htab ho rfl
    have h0 := G 19 24 rfl (by decide) (by decide)
    exact (dXr ho hgd (hpure 20 (by decide) c L w' hW) (g_mki hop (eval_of h0) (by kernel_rfl)))
  | 21, ho, hL, _, G =>
    obtain ⟨hop, hgd⟩ := tab3 htab ho rfl
    have h0 := G 3 8 rfl (by decide) (by decide)
    have h1 := G 11 16 rfl (by decide) (by decide)
    have h2 := G 15 20 rfl (by decide) (by decide)
    have h3 := G 20 25 rfl (by decide) (by decide)
    obtain ⟨c', W', q0, q1, q2⟩ := r21 c L w' hW hL (depl_of hdep 21 3 (by decide) ho hd) (depl_of hdep 21 11 (by decide) ho hd) (depl_of hdep 21 15 (by decide) ho hd) (depl_of hdep 21 20 (by decide) ho hd)
    exact doesX_runw ho (wanted_none hgd) c' q0 q2 (g_bs hop (by simp only [List.map_toArray, List.map_cons, List.map_nil, eval_of h0, eval_of h1, eval_of h2, eval_of h3]; first | done | rfl) q1)
  | 22, ho, hL, _, G =>
    obtain ⟨hop, hgd⟩ := tab3 htab ho rfl
    have h0 := G 21 26 rfl (by decide) (by decide)
    exact (dXr ho hgd (e22 c L w' hW hL (depl_of hdep 22 21 (by decide) ho hd)) (g_build hop (by simp only [List.map_toArray, List.map_cons, List.map_nil, eval_of h0]; first | done | rfl) (by kernel_rfl)))
  | 23, ho, hL, _, G =>
    obtain ⟨hop, hgd⟩ := tab3 htab ho rfl
    have h0 := frm_old ha 2 _ (hold 2 rfl) o2
    have h1 := G 22 27 rfl (by decide) (by decide)
    obtain ⟨W', q1, q2⟩ := r23 c L w' hW hL (depl_of hdep 23 22 (by decide) ho hd)
    exact doesX_of (doesL_skp ho (wanted_none hgd) rfl q2 (g_store hop (eval_of h0) (eval_of h1) q1))
  | (i + 24), ho, hL, hi, _ => exact absurd hi (by omega)
def sly78 (T : Nat) (L1 : Nat) (L2 : Nat) : List Sl := [⟨21, 0, fun _ => #[(vW ⟨L1, 0, none⟩ 1), (vR ⟨T, 0, none⟩ 9), (vW ⟨L2, 0, none⟩ 1), (vI ⟨T, 1, none⟩ 8)], 213⟩]
def dly78 : List (Nat × Nat) := [(22, 21), (23, 22), (23, 21)]
theorem lay78 (T : Nat) (w : World) : Calls Tryz.prog 78 #[ptr T] w fun e w' => ∃ c : Nat → Nat, e = .returned (.agg (#[(.slice (some ⟨c 0, 0, none⟩) 4 4), (.slice none 0 0)])) ∧ Below w.heap.size w w' ∧ w'.heap[w.heap.size + 1]? = some (.cells #[S [115]] 9 (0, 0)) ∧ w'.heap[w.heap.size + 1 + 1]? = some (.cells #[S [0]] 9 (0, 0)) ∧ (w.heap.size + 3 ≤ c 0 ∧ w'.heap[c 0]? = some (.cells #[(vW ⟨w.heap.size + 1, 0, none⟩ 1), (vR ⟨T, 0, none⟩ 9), (vW ⟨w.heap.size + 1 + 1, 0, none⟩ 1), (vI ⟨T, 1, none⟩ 8)] 213 (0, 0))) := by
  have hb0 : Below w.heap.size w (((w.alloc (.cells #[.slice none 0 0, .slice none 0 0] 111)).alloc (.cells #[S [115]] 9)).alloc (.cells #[S [0]] 9)) := by
    refine ((((Below.refl _ w).alloc (Nat.le_refl _) _)).alloc (by first | (simp; done) | (simp; omega)) _).alloc (by first | (simp; done) | (simp; omega)) _
  have hR : (((w.alloc (.cells #[.slice none 0 0, .slice none 0 0] 111)).alloc (.cells #[S [115]] 9)).alloc (.cells #[S [0]] 9)).heap[w.heap.size]? = some (.cells #[.slice none 0 0, .slice none 0 0] 111 (0, 0)) := by
    rw [heap_alloc_old _ _ (by first | (simp; done) | (simp; omega))]; rw [heap_alloc_old _ _ (by first | (simp; done) | (simp; omega))]; exact heap_alloc_new _ _
  have hL1 : (((w.alloc (.cells #[.slice none 0 0, .slice none 0 0] 111)).alloc (.cells #[S [115]] 9)).alloc (.cells #[S [0]] 9)).heap[w.heap.size + 1]? = some (.cells #[S [115]] 9 (0, 0)) := by
    rw [heap_alloc_old _ _ (by first | (simp; done) | (simp; omega))]; have e := heap_alloc_new ((w.alloc (.cells #[.slice none 0 0, .slice none 0 0] 111))) (.cells #[S [115]] 9)
    simpa using e
  have hL2 : (((w.alloc (.cells #[.slice none 0 0, .slice none 0 0] 111)).alloc (.cells #[S [115]] 9)).alloc (.cells #[S [0]] 9)).heap[w.heap.size + 1 + 1]? = some (.cells #[S [0]] 9 (0, 0)) := by
    have e := heap_alloc_new (((w.alloc (.cells #[.slice none 0 0, .slice none 0 0] 111)).alloc (.cells #[S [115]] 9))) (.cells #[S [0]] 9)
    simpa using e
  have hsz : (((w.alloc (.cells #[.slice none 0 0, .slice none 0 0] 111)).alloc (.cells #[S [115]] 9)).alloc (.cells #[S [0]] 9)).heap.size = w.heap.size + 3 := by simp
  go_enter Tryz.func78, Tryz.ntmps78
  go_wp2_with fail
  generalize (((w.alloc (.cells #[.slice none 0 0, .slice none 0 0] 111)).alloc (.cells #[S [115]] 9)).alloc (.cells #[S [0]] 9)) = W1 at *
  generalize hL2e : w.heap.size + 1 + 1 = L2 at *
  generalize hL1e : w.heap.size + 1 = L1 at *
  generalize hRe : w.heap.size = R at *
  have hw1 : ∃ w1s, w1s = W1.heap.size := ⟨_, rfl⟩
  obtain ⟨w1s, hw1⟩ := hw1
  rw [← hw1] at hsz
  refine rly78 T R L1 L2 rfl (by rfl) (by rfl) _ W1 (by simp) rfl rfl rfl rfl (Ly W1 R (fun _ => #[.slice none 0 0, .slice none 0 0]) (fun c => #[(.slice (some ⟨c 0, 0, none⟩) 4 4), (.slice none 0 0)]) 23 (sly78 T L1 L2) dly78) ⟨fun _ => 0, (Only.drew _ W1), (fun _ _ e => by cases e), (fun _ _ e => by cases e), hR⟩ (fun i hi c L W hW => hW.pure i ?hp1 ?hp2 (fun e => hi (by simp [e])))
    (fun c L W hW _ => s_ld (T := 9) (fun _ => by kernel_rfl) (cellr ((hW.only.block L1 (by omega) (by omega)).trans hL1) rfl))
    (fun c L W hW _ => s_ld (T := 9) (fun _ => by kernel_rfl) (cellr ((hW.only.block L2 (by omega) (by omega)).trans hL2) rfl))
    (fun W => by kernel_rfl)
    (fun c L W hW _ => s_ld (T := 9) (fun _ => by kernel_rfl) (cellr ((hW.only.block L2 (by omega) (by omega)).trans hL2) rfl))
    (fun c L W hW hL h3 h11 h15 h20 => by
      refine ⟨cset c 0 W.heap.size, W.alloc (.cells #[(vW ⟨L1, 0, none⟩ 1), (vR ⟨T, 0, none⟩ 9), (vW ⟨L2, 0, none⟩ 1), (vI ⟨T, 1, none⟩ 8)] 213), fun j hj => ?_, by kernel_rfl, hW.slice ⟨21, 0, fun _ => #[(vW ⟨L1, 0, none⟩ 1), (vR ⟨T, 0, none⟩ 9), (vW ⟨L2, 0, none⟩ 1), (vI ⟨T, 1, none⟩ 8)], 213⟩ (no_of (hW.dep (23, 21) (by decide)) hL) (by simp) (fun _ => rfl) (fun d hd hi => ?_) (fun q hq e => ?_) (fun q hq e => ?_) (fun m => rfl)⟩
      · match j, hj with
        | 0, _ => rfl
        | 1, _ => rfl
        | 2, _ => rfl
        | 3, _ => rfl
        | 4, _ => rfl
        | 5, _ => rfl
        | 6, _ => rfl
        | 7, _ => rfl
        | 8, _ => rfl
        | 9, _ => rfl
        | 10, _ => rfl
        | 11, _ => rfl
        | 12, _ => rfl
        | 13, _ => rfl
        | 14, _ => rfl
        | 15, _ => rfl
        | 16, _ => rfl
        | 17, _ => rfl
        | 18, _ => rfl
        | 19, _ => rfl
        | 20, _ => rfl
        | 21, hj => rw [hL] at hj; cases hj
        | 22, hj => rw [hW.dep (22, 21) (by decide) hj] at hL; cases hL
        | 23, _ => rfl
        | (k + 24), _ => rfl
      · simp only [dly78, List.mem_cons, List.not_mem_nil, or_false] at hd
        rcases hd with rfl | rfl | rfl
        · exact absurd hi (by simp)
        · exact absurd hi (by simp)
        · exact absurd hi (by simp)
      · simp only [sly78, List.mem_cons, List.not_mem_nil, or_false] at hq
        rcases hq with rfl
        · rw [hL] at e; cases e
      · simp only [sly78, List.mem_cons, List.not_mem_nil, or_false] at hq
        rcases hq with rfl
        · rfl)
    (fun c L W hW _ h21 => hW.pure 22 (fun s hs => by simp only [sly78, List.mem_cons, List.not_mem_nil, or_false] at hs; rcases hs with rfl <;> simp) (fun d hd hi => by
      simp only [dly78, List.mem_cons, List.not_mem_nil, or_false] at hd
      rcases hd with rfl | rfl | rfl
      · exact h21
      · exact absurd hi (by simp)
      · exact absurd hi (by simp)) (by decide))
    (fun c L W hW hL h22 => by
      have hbx := hW.box
      rw [hL, if_neg (by decide)] at hbx
      have e := s_sta (T := 111) (n := 2) (fun _ => by kernel_rfl) (o := 0) hbx (.agg #[(.slice (some ⟨c 0, 0, none⟩) 4 4), (.slice none 0 0)]) rfl (by decide) (by intro x hx; simp only [Value.cells, List.mem_cons, List.not_mem_nil, or_false] at hx; rcases hx with rfl | rfl <;> rfl)
      refine ⟨_, e, ?_⟩
      refine hW.store (v := fun c => #[(.slice (some ⟨c 0, 0, none⟩) 4 4), (.slice none 0 0)]) (fun q hq => ?_) (fun d hd hi => ?_)
      · simp only [sly78, List.mem_cons, List.not_mem_nil, or_false] at hq
        rcases hq with rfl
        · exact ⟨(by simp), fun e => by have h5 := (hW.sl ⟨21, 0, fun _ => #[(vW ⟨L1, 0, none⟩ 1), (vR ⟨T, 0, none⟩ 9), (vW ⟨L2, 0, none⟩ 1), (vI ⟨T, 1, none⟩ 8)], 213⟩ (by simp [sly78]) e).1; have h6 : W1.heap.size ≤ c 0 := h5; show c 0 ≠ R; omega⟩
      · simp only [dly78, List.mem_cons, List.not_mem_nil, or_false] at hd
        rcases hd with rfl | rfl | rfl
        · exact absurd hi (by simp)
        · exact h22
        · exact hW.dep (22, 21) (by decide) h22) ?hend
  case hp1 =>
    intro q hq e
    simp only [sly78, List.mem_cons, List.not_mem_nil, or_false] at hq
    rcases hq with rfl <;> exact hi (by simp at e; simp [← e])
  case hp2 =>
    intro d hd e
    simp only [dly78, List.mem_cons, List.not_mem_nil, or_false] at hd
    rcases hd with rfl | rfl | rfl <;> exact absurd (by simp at e; simp [← e]) hi
  case hend =>
    intro c L W hall hW
    simp only [crly78, Act.put, List.setIfInBounds_toArray, List.set_cons_succ, List.set_cons_zero]
    have hbx := hW.box
    rw [hall 23 (by decide), if_pos rfl] at hbx
    have hO := hW.only
    have hs0 := hW.sl ⟨21, 0, fun _ => #[(vW ⟨L1, 0, none⟩ 1), (vR ⟨T, 0, none⟩ 9), (vW ⟨L2, 0, none⟩ 1), (vI ⟨T, 1, none⟩ 8)], 213⟩ (by simp [sly78]) (hall 21 (by decide))
    have HP : Hid (W.heap[R]? = some (.cells #[(.slice (some ⟨c 0, 0, none⟩) 4 4), (.slice none 0 0)] 111 (0, 0)) ∧ Below R w W ∧ W.heap[L1]? = some (.cells #[S [115]] 9 (0, 0)) ∧ W.heap[L2]? = some (.cells #[S [0]] 9 (0, 0)) ∧ (R + 3 ≤ c 0 ∧ W.heap[c 0]? = some (.cells #[(vW ⟨L1, 0, none⟩ 1), (vR ⟨T, 0, none⟩ 9), (vW ⟨L2, 0, none⟩ 1), (vI ⟨T, 1, none⟩ 8)] 213 (0, 0)))) := hide (⟨hbx, hO.below hb0 (by omega) (fun k e => by omega), (hO.block L1 (by omega) (by omega)).trans hL1, (hO.block L2 (by omega) (by omega)).trans hL2, ⟨by have h5 : W1.heap.size ≤ c 0 := hs0.1; omega, hs0.2⟩⟩)
    clear hbx hO hW hall hs0
    go_wp2
    obtain ⟨hbx, hpp⟩ := unhide HP
    refine out1c (T := 111) (n := 2) (fun _ => by kernel_rfl) (fun _ => by kernel_rfl) (Z := R) rfl rfl rfl hbx rfl ?_
    subst hL1e; subst hL2e; subst hRe
    exact ⟨c, rfl, hpp⟩
end Go.Proofs.YtpidmpefodnffaaGreatDoor
