import Derived.Test.YtmjaobddgaglhaaGreatDoorZfmd
import Derived.Test.YtmjaobddgaglhaaGreatDoorZsmc
import Derived.Test.YtmjaobddgaglhaaGreatDoorZrbb
/- The document's Begin. -/
namespace Go.Proofs.YtmjaobddgaglhaaGreatDoor
open Go.RowKit
set_option maxHeartbeats 4000000
set_option maxRecDepth 8000
theorem fid_any (z : Int) (w : World) : Calls Tryz.prog 45 #[I z] w fun e w' => e = .returned (.bool (idn z)) ∧ w' = w := by
  by_cases h1 : 1 ≤ z
  · have hE : Hid (idn z = decide (z ≤ 4611686018427387904)) := hide (by simp [idn, h1])
    have d1 : decide (1 ≤ z) = true := by simpa using h1
    clear h1
    go_enter Tryz.func45, Tryz.ntmps45
    go_wp2
    go_ret
    rw [unhide hE]
    exact ⟨rfl, rfl⟩
  · have hE : Hid (idn z = false) := hide (by simp [idn, h1])
    have d1 : decide (1 ≤ z) = false := by simpa using h1
    clear h1
    go_enter Tryz.func45, Tryz.ntmps45
    go_wp2
    go_ret
    rw [unhide hE]
    exact ⟨rfl, rfl⟩
/-- What the document asks of a beginning. -/
theorem begOK_ref (id fi : Int) (na : Bs) (pu : Bool) (ch ol : Bs) (un : Int) (sd : List Bs) (idl ab gr li : Int) (su : Bs) (sc : List Bs) (s : Bs) (now : Int) : begOK id fi na pu ch ol un sd idl ab gr li su sc s (nr now) = (idn id && (idn fi && (cliOK na pu ch ol un sd idl ab gr li && (nm su && (right sc && s.length == 24))))) := by
  have ht : tim (nr now) = true := by have := nr_b now; simp [tim]; omega
  unfold begOK curOK famOK
  rw [right_nm su, ht]
  have hs : staOK (nr now) 1 0 = true := by rfl
  have hg : gnr 1 = true := by rfl
  rw [hs, hg]
  have hl : decide (nr now ≤ nr now) = true := by simp
  rw [hl]
  by_cases hc : cliOK na pu ch ol un sd idl ab gr li = true
  · have hc2 := hc
    simp only [cliOK, Bool.and_eq_true] at hc2
    rw [hc, hc2.1, hc2.2.2.2.1, hc2.2.2.2.2.1, hc2.2.2.2.2.2.1]
    cases idn id <;> cases idn fi <;> cases nm su <;> cases right sc <;> cases (s.length == 24) <;> rfl
  · rw [Bool.not_eq_true] at hc
    rw [hc]
    cases idn id <;> cases idn fi <;> cases (s.length == 24) <;> rfl
theorem own_set2 {B : Nat} {w : World} {v : Value} {u : List Bs} (h : OwnS B w v u) {k : Nat} {cs : Array Value} {t : TypeId} (hk : w.heap[k]? = some (.cells cs t (0, 0))) (ht : t ≠ 9) (vs : Array Value) : OwnS B (w.setRow k vs) v u := by
  refine ⟨h.1, ?_⟩
  rcases h.2 with q | ⟨g, cap, cur, e1, e2, e3, e4⟩
  · exact .inl q
  · have hgk : g ≠ k := by
      intro e
      subst e
      rw [e3] at hk
      simp at hk
      exact ht hk.2.symm
    exact .inr ⟨g, cap, cur, e1, e2, (setRow_other w k g vs hgk).trans e3, e4⟩
theorem fresh_any (n fa ge : Int) (s : Bs) (tm : Int) (w : World) : Calls Tryz.prog 47 #[I n, I fa, I ge, S s, I tm] w fun e w' => e = .returned (.agg #[I n, I fa, I ge, S (Sha.sum (mnt 1 n s).1), I tm, .bool false, I 0, I 0, S []]) ∧ Below w.heap.size w w' := by
  have hb : Below w.heap.size w (w.alloc (.cells #[I 0, I 0, I 0, S [], I 0, .bool false, I 0, I 0, S []] 26)) := ((Below.refl _ w).alloc (by simp <;> omega) _)
  have rt : (w.alloc (.cells #[I 0, I 0, I 0, S [], I 0, .bool false, I 0, I 0, S []] 26)).heap[w.heap.size]? = some (.cells #[I 0, I 0, I 0, S [], I 0, .bool false, I 0, I 0, S []] 26 (0, 0)) := al_new w (.cells #[I 0, I 0, I 0, S [], I 0, .bool false, I 0, I 0, S []] 26) (w.heap.size) (by simp)
  generalize hW1 : (w.alloc (.cells #[I 0, I 0, I 0, S [], I 0, .bool false, I 0, I 0, S []] 26)) = W1 at *
  have HB := hide hb
  have HRt := hide rt
  clear hb rt
  have XM := hide (fun W => rmint_any 1 n s W)
  have XH := hide (fun W => rhash_any (mnt 1 n s).1 W (by have := mnt_len 1 n s; omega))
  generalize Sha.sum (mnt 1 n s).1 = h at *
  generalize mnt 1 n s = M at *
  obtain ⟨m1, m2⟩ := M
  go_enter Tryz.func47, Tryz.ntmps47
  go_wp2_with fail
  refine (unhide XM W1).mono ?_
  rintro e w2 ⟨rfl, h2⟩
  have hbB := (unhide HB).trans (h2.mono (unhide HB).size)
  have rt := (h2.block _ (lt_of_row (unhide HRt))).trans (unhide HRt)
  clear h2 HB HRt  hW1
  have HB := hide hbB
  have HRt := hide rt
  clear hbB rt
  clear XM
  go_wp2_with fail
  refine (unhide XH w2).mono ?_
  rintro e w3 ⟨rfl, h3⟩
  have hbB := (unhide HB).trans (h3.mono (unhide HB).size)
  have rt := (h3.block _ (lt_of_row (unhide HRt))).trans (unhide HRt)
  clear h3 HB HRt  
  have HB := hide hbB
  have HRt := hide rt
  clear hbB rt
  clear XH
  go_wp2_with (refine wp_stA inf26 rfl (.tmp 10) (.tmp 25) rfl w.heap.size (by rfl) #[I n, I fa, I ge, S h, I tm, .bool false, I 0, I 0, S []] (by rfl) #[I 0, I 0, I 0, S [], I 0, .bool false, I 0, I 0, S []] rfl rfl (unhide HRt) (by simp [Value.oneCell']) ?_)
  refine out1c (T := 26) (n := 9) (p := 10) (cs := #[I n, I fa, I ge, S h, I tm, .bool false, I 0, I 0, S []]) (fun _ => by kernel_rfl) (fun _ => by kernel_rfl) (Z := w.heap.size) (by rfl) (by rfl) (by rfl) (setRow_row (unhide HRt)) (by rfl) ?_
  exact ⟨rfl, bel_set (unhide HB) _ _ (Nat.le_refl _) (unhide HB).size⟩
def rbg9T : List (Op × Option Tmp × Option (Nat × Bool)) := [
  (.move (.tmp 0), some 61, none),
  (.fieldAddr 48 (.tmp 9) 0, some 62, none),
  (.load 9 (.tmp 62), some 63, none),
  (.move (.tmp 3), some 64, none),
  (.move (.tmp 4), some 65, none),
  (.call { callee := .value (.func 51), args := #[(.tmp 65)], argTypes := #[22] }, some 66, none),
  (.move (.tmp 22), some 67, none),
  (.move (.tmp 22), some 68, none),
  (.fieldAddr 48 (.tmp 9) 7, some 69, none),
  (.load 3 (.tmp 69), some 70, none),
  (.fieldAddr 48 (.tmp 9) 8, some 71, none),
  (.load 3 (.tmp 71), some 72, none),
  (.fieldAddr 48 (.tmp 9) 9, some 73, none),
  (.load 3 (.tmp 73), some 74, none),
  (.move (.tmp 1), some 75, none),
  (.build 24 #[(0, (.tmp 61)), (1, (.tmp 63)), (2, (.tmp 64)), (3, (.tmp 66)), (4, (.tmp 67)), (5, (.tmp 68)), (6, (.tmp 70)), (7, (.tmp 72)), (8, (.tmp 74)), (9, (.const (I 1))), (10, (.tmp 75)), (11, (.const (I 1)))], some 76, none),
  (.alloc 24, some 23, none),
  (.store 24 (.tmp 23) (.tmp 76), none, none)]
def rbg9V (X : Nat) (id fi : Int) (na su : Bs) (v : Value) (n : Nat) (tm idl ab gr : Int) (c : Option Addr × Nat × Nat) : Nat → Value
  | 0 => I id
  | 1 => .pointer (some ⟨X, 0, none⟩)
  | 2 => S na
  | 3 => S su
  | 4 => v
  | 5 => .slice c.1 n c.2.1
  | 6 => I tm
  | 7 => I tm
  | 8 => .pointer (some ⟨X, 7, none⟩)
  | 9 => I idl
  | 10 => .pointer (some ⟨X, 8, none⟩)
  | 11 => I ab
  | 12 => .pointer (some ⟨X, 9, none⟩)
  | 13 => I gr
  | 14 => I fi
  | 15 => .agg #[I id, S na, S su, .slice c.1 n c.2.1, I tm, I tm, I idl, I ab, I gr, I 1, I fi, I 1, I 0, I 0]
  | 16 => ptr c.2.2
  | 17 => undef
  | _ => undef
theorem rbg9V_5 {X : Nat} {id fi : Int} {na su : Bs} {v : Value} {n : Nat} {tm idl ab gr : Int} {v1 v2 : Option Addr} {c1 c2 : Nat} {b : Nat} {j : Nat} (h : j ≠ 5) (h15 : j ≠ 15) : rbg9V X id fi na su v n tm idl ab gr (v1, c1, b) j = rbg9V X id fi na su v n tm idl ab gr (v2, c2, b) j := by
  match j, h, h15 with
  | 0, _, _ => rfl
  | 1, _, _ => rfl
  | 2, _, _ => rfl
  | 3, _, _ => rfl
  | 4, _, _ => rfl
  | 5, h, _ => exact absurd rfl h
  | 6, _, _ => rfl
  | 7, _, _ => rfl
  | 8, _, _ => rfl
  | 9, _, _ => rfl
  | 10, _, _ => rfl
  | 11, _, _ => rfl
  | 12, _, _ => rfl
  | 13, _, _ => rfl
  | 14, _, _ => rfl
  | 15, _, h => exact absurd rfl h
  | 16, _, _ => rfl
  | 17, _, _ => rfl
  | (q + 18), _, _ => rfl
theorem rbg9V_16 {X : Nat} {id fi : Int} {na su : Bs} {v : Value} {n : Nat} {tm idl ab gr : Int} {v1 : Option Addr} {c1 b b2 : Nat} {j : Nat} (h : j ≠ 16) : rbg9V X id fi na su v n tm idl ab gr (v1, c1, b) j = rbg9V X id fi na su v n tm idl ab gr (v1, c1, b2) j := by
  match j, h with
  | 0, _ => rfl
  | 1, _ => rfl
  | 2, _ => rfl
  | 3, _ => rfl
  | 4, _ => rfl
  | 5, _ => rfl
  | 6, _ => rfl
  | 7, _ => rfl
  | 8, _ => rfl
  | 9, _ => rfl
  | 10, _ => rfl
  | 11, _ => rfl
  | 12, _ => rfl
  | 13, _ => rfl
  | 14, _ => rfl
  | 15, _ => rfl
  | 16, h => exact absurd rfl h
  | 17, _ => rfl
  | (q + 18), _ => rfl
structure WR9 (w : World) (X : Nat) (R0 R1 R2 : Array Value) (F : Value → Array Value) (u : List Bs) (c : Option Addr × Nat × Nat) (L : Nat → Bool) (W : World) : Prop where
  be : Below X w W
  r0 : W.heap[X]? = some (.cells R0 48 (0, 0))
  r1 : W.heap[X + 1]? = some (.cells R1 24 (0, 0))
  r2 : W.heap[X + 2]? = some (.cells R2 26 (0, 0))
  own : L 5 = true → OwnS (X + 3) W (.slice c.1 u.length c.2.1) u
  rc : L 16 = true → X + 2 < c.2.2 ∧ W.heap[c.2.2]? = some (.cells (if L 17 then F (.slice c.1 u.length c.2.1) else R1) 24 (0, 0))
  ord : L 17 = true → L 16 = true ∧ L 5 = true
  o15 : L 15 = true → L 5 = true
theorem WR9.pure {w : World} {X : Nat} {R0 R1 R2 : Array Value} {F : Value → Array Value} {u : List Bs} {c : Option Addr × Nat × Nat} {L : Nat → Bool} {W : World} (h : WR9 w X R0 R1 R2 F u c L W) (i : Nat) (h5 : i ≠ 5) (h15 : i ≠ 15) (h16 : i ≠ 16) (h17 : i ≠ 17) : WR9 w X R0 R1 R2 F u c (upd L i) W :=
  ⟨h.be, h.r0, h.r1, h.r2, fun e => h.own (by rw [upd_ne (fun q => h5 q.symm)] at e; exact e), fun e => by rw [upd_ne (fun q => h16 q.symm)] at e; rw [upd_ne (fun q => h17 q.symm)]; exact h.rc e, fun e => by rw [upd_ne (fun q => h17 q.symm)] at e; exact ⟨upd_of (h.ord e).1, upd_of (h.ord e).2⟩, fun e => upd_of (h.o15 (by rw [upd_ne (fun q => h15 q.symm)] at e; exact e))⟩
theorem WR9.build {w : World} {X : Nat} {R0 R1 R2 : Array Value} {F : Value → Array Value} {u : List Bs} {c : Option Addr × Nat × Nat} {L : Nat → Bool} {W : World} (h : WR9 w X R0 R1 R2 F u c L W) (h5 : L 5 = true) : WR9 w X R0 R1 R2 F u c (upd L 15) W :=
  ⟨h.be, h.r0, h.r1, h.r2, fun _ => h.own h5, fun e => by rw [upd_ne (by decide)] at e; rw [upd_ne (by decide)]; exact h.rc e, fun e => by rw [upd_ne (by decide)] at e; exact ⟨upd_of (h.ord e).1, upd_of (h.ord e).2⟩, fun _ => upd_of h5⟩
theorem WR9.call {w : World} {X : Nat} {R0 R1 R2 : Array Value} {F : Value → Array Value} {u : List Bs} {c : Option Addr × Nat × Nat} {L : Nat → Bool} {W W2 : World} (h : WR9 w X R0 R1 R2 F u c L W) (hb : Below W.heap.size W W2) : WR9 w X R0 R1 R2 F u c L W2 :=
  ⟨h.be.trans (hb.mono (by have := lt_of_row h.r0; omega)), (hb.block _ (lt_of_row h.r0)).trans h.r0, (hb.block _ (lt_of_row h.r1)).trans h.r1, (hb.block _ (lt_of_row h.r2)).trans h.r2, fun e => (h.own e).below hb (Nat.le_refl _), fun e => ⟨(h.rc e).1, (hb.block _ (lt_of_row (h.rc e).2)).trans (h.rc e).2⟩, h.ord, h.o15⟩
def rbg10T : List (Op × Option Tmp × Option (Nat × Bool)) := [
  (.load 24 (.tmp 23), some 77, none),
  (.move (.tmp 1), some 78, none),
  (.move (.tmp 0), some 79, none),
  (.move (.tmp 5), some 80, none),
  (.move (.tmp 22), some 81, none),
  (.call { callee := .value (.func 47), args := #[(.tmp 78), (.tmp 79), (.const (I 1)), (.tmp 80), (.tmp 81)], argTypes := #[3, 3, 3, 9, 3] }, some 82, none),
  (.store 24 (.tmp 14) (.tmp 77), none, none),
  (.store 26 (.tmp 15) (.tmp 82), none, none),
  (.assign (.const (I 0)), some 16, none)]
def rbg10V (F0 T : Array Value) (id fi : Int) (s : Bs) (tm : Int) (_ : Unit) : Nat → Value
  | 0 => .agg F0
  | 1 => I fi
  | 2 => I id
  | 3 => S s
  | 4 => I tm
  | 5 => .agg T
  | 6 => undef
  | 7 => undef
  | 8 => I 0
  | _ => undef
theorem rbegin_any (id fi : Int) (na : Bs) (pu of9 : Bool) (ch ol : Bs) (un : Int) (vb : Option Addr) (vd : Nat) (sd : List Bs) (idl ab gr li : Int) (su : Bs) (va : Option Addr) (vc : Nat) (sc : List Bs) (s : Bs) (now : Int) (w : World) (h_na : na.length ≤ 9223372036854775807) (hsd : Sts w vb sd.length sd) (hdl : sd.length ≤ 140737488355000) (hld : Lns sd) (h_su : su.length ≤ 9223372036854775807) (h_s : s.length ≤ 9223372036854775807) (hsc : Sts w va sc.length sc) (hsl : sc.length ≤ 140737488355000) (hln : Lns sc) : Calls Tryz.prog 26 #[I id, I fi, .agg #[S na, .bool pu, .bool of9, S ch, S ol, I un, .slice vb sd.length vd, I idl, I ab, I gr, I li], S su, .slice va sc.length vc, S s, I now] w (OutB w (begOK id fi na pu ch ol un sd idl ab gr li su sc s (nr now)) sc (fun v => #[I id, S na, S su, v, I (nr now), I (nr now), I idl, I ab, I gr, I 1, I fi, I 1, I 0, I 0]) #[I fi, I id, I 1, S (hsh fi s), I (nr now), .bool false, I 0, I 0, S []]) := by
  have hb : Below w.heap.size w (((w.alloc (.cells #[S na, .bool pu, .bool of9, S ch, S ol, I un, .slice vb sd.length vd, I idl, I ab, I gr, I li] 48)).alloc (.cells #[I 0, S [], S [], .slice none 0 0, I 0, I 0, I 0, I 0, I 0, I 0, I 0, I 0, I 0, I 0] 24)).alloc (.cells #[I 0, I 0, I 0, S [], I 0, .bool false, I 0, I 0, S []] 26)) := ((((Below.refl _ w).alloc (by simp <;> omega) _).alloc (by simp <;> omega) _).alloc (by simp <;> omega) _)
  have rc : (((w.alloc (.cells #[S na, .bool pu, .bool of9, S ch, S ol, I un, .slice vb sd.length vd, I idl, I ab, I gr, I li] 48)).alloc (.cells #[I 0, S [], S [], .slice none 0 0, I 0, I 0, I 0, I 0, I 0, I 0, I 0, I 0, I 0, I 0] 24)).alloc (.cells #[I 0, I 0, I 0, S [], I 0, .bool false, I 0, I 0, S []] 26)).heap[w.heap.size]? = some (.cells #[S na, .bool pu, .bool of9, S ch, S ol, I un, .slice vb sd.length vd, I idl, I ab, I gr, I li] 48 (0, 0)) := al_old _ _ _ (by simp <;> omega) (al_old _ _ _ (by simp <;> omega) (al_new w (.cells #[S na, .bool pu, .bool of9, S ch, S ol, I un, .slice vb sd.length vd, I idl, I ab, I gr, I li] 48) (w.heap.size) (by simp)))
  have rf : (((w.alloc (.cells #[S na, .bool pu, .bool of9, S ch, S ol, I un, .slice vb sd.length vd, I idl, I ab, I gr, I li] 48)).alloc (.cells #[I 0, S [], S [], .slice none 0 0, I 0, I 0, I 0, I 0, I 0, I 0, I 0, I 0, I 0, I 0] 24)).alloc (.cells #[I 0, I 0, I 0, S [], I 0, .bool false, I 0, I 0, S []] 26)).heap[w.heap.size + 1]? = some (.cells #[I 0, S [], S [], .slice none 0 0, I 0, I 0, I 0, I 0, I 0, I 0, I 0, I 0, I 0, I 0] 24 (0, 0)) := al_old _ _ _ (by simp <;> omega) (al_new (w.alloc (.cells #[S na, .bool pu, .bool of9, S ch, S ol, I un, .slice vb sd.length vd, I idl, I ab, I gr, I li] 48)) (.cells #[I 0, S [], S [], .slice none 0 0, I 0, I 0, I 0, I 0, I 0, I 0, I 0, I 0, I 0, I 0] 24) (w.heap.size + 1) (by simp))
  have rt : (((w.alloc (.cells #[S na, .bool pu, .bool of9, S ch, S ol, I un, .slice vb sd.length vd, I idl, I ab, I gr, I li] 48)).alloc (.cells #[I 0, S [], S [], .slice none 0 0, I 0, I 0, I 0, I 0, I 0, I 0, I 0, I 0, I 0, I 0] 24)).alloc (.cells #[I 0, I 0, I 0, S [], I 0, .bool false, I 0, I 0, S []] 26)).heap[w.heap.size + 2]? = some (.cells #[I 0, I 0, I 0, S [], I 0, .bool false, I 0, I 0, S []] 26 (0, 0)) := al_new ((w.alloc (.cells #[S na, .bool pu, .bool of9, S ch, S ol, I un, .slice vb sd.length vd, I idl, I ab, I gr, I li] 48)).alloc (.cells #[I 0, S [], S [], .slice none 0 0, I 0, I 0, I 0, I 0, I 0, I 0, I 0, I 0, I 0, I 0] 24)) (.cells #[I 0, I 0, I 0, S [], I 0, .bool false, I 0, I 0, S []] 26) (w.heap.size + 2) (by simp)
  generalize hW1 : (((w.alloc (.cells #[S na, .bool pu, .bool of9, S ch, S ol, I un, .slice vb sd.length vd, I idl, I ab, I gr, I li] 48)).alloc (.cells #[I 0, S [], S [], .slice none 0 0, I 0, I 0, I 0, I 0, I 0, I 0, I 0, I 0, I 0, I 0] 24)).alloc (.cells #[I 0, I 0, I 0, S [], I 0, .bool false, I 0, I 0, S []] 26)) = W1 at *
  have cc_0 : W1.cell? ⟨w.heap.size, 0, none⟩ = some (S na) := cellr rc rfl
  have cc_1 : W1.cell? ⟨w.heap.size, 1, none⟩ = some (.bool pu) := cellr rc rfl
  have cc_2 : W1.cell? ⟨w.heap.size, 2, none⟩ = some (.bool of9) := cellr rc rfl
  have cc_3 : W1.cell? ⟨w.heap.size, 3, none⟩ = some (S ch) := cellr rc rfl
  have cc_4 : W1.cell? ⟨w.heap.size, 4, none⟩ = some (S ol) := cellr rc rfl
  have cc_5 : W1.cell? ⟨w.heap.size, 5, none⟩ = some (I un) := cellr rc rfl
  have cc_6 : W1.cell? ⟨w.heap.size, 6, none⟩ = some (.slice vb sd.length vd) := cellr rc rfl
  have cc_7 : W1.cell? ⟨w.heap.size, 7, none⟩ = some (I idl) := cellr rc rfl
  have cc_8 : W1.cell? ⟨w.heap.size, 8, none⟩ = some (I ab) := cellr rc rfl
  have cc_9 : W1.cell? ⟨w.heap.size, 9, none⟩ = some (I gr) := cellr rc rfl
  have cc_10 : W1.cell? ⟨w.heap.size, 10, none⟩ = some (I li) := cellr rc rfl
  have HB := hide hb
  have HRc := hide rc
  have HRf := hide rf
  have HRt := hide rt
  clear hb rc rf rt
  have hOK := hide (begOK_ref id fi na pu ch ol un sd idl ab gr li su sc s now)
  have X1 := hide (fun W => fid_any id W)
  have X2 := hide (fun W => fid_any fi W)
  have X3 := hide (fun W (h : Below w.heap.size w W) => rMay61 na pu of9 ch ol un vb vd sd idl ab gr li W h_na (hsd.below h) hdl hld)
  have X4 := hide (fun W => refName_any su W h_su)
  have X5 := hide (fun W (h : Below w.heap.size w W) => rScope139 va sc.length vc sc W (hsc.below h) hsl hln)
  have X6 := hide (fun W => rNear84 now W)
  have X7 : Hid (∀ W, Below w.heap.size w W → right sc = true → Calls Tryz.prog 51 #[.slice va sc.length vc] W (OutO W sc)) := hide (fun W h hr => copied_any va sc.length vc sc W (hsc.below h) (shn_right hr))
  have X8 : Hid (∀ W, idn fi = true → s.length = 24 → Calls Tryz.prog 47 #[I fi, I id, I 1, S s, I (nr now)] W fun e w' => e = .returned (.agg #[I fi, I id, I 1, S (hsh fi s), I (nr now), .bool false, I 0, I 0, S []]) ∧ Below W.heap.size W w') := hide (fun W h1 h2 => by
    have e : (mnt 1 fi s).1 = tkn 1 fi.toNat s := by rw [mnt_cur]; simp [curOK, h1, h2]
    have q := fresh_any fi id 1 s (nr now) W
    rw [e] at q
    exact q)
  have hs3 : (s.length : Int) ≤ 9223372036854775807 := by omega
  have HL24 : Hid ((s.length == 24) = decide (s.length = 24)) := hide rfl
  generalize begOK id fi na pu ch ol un sd idl ab gr li su sc s (nr now) = OK at *
  generalize hsh fi s = hh at *
  generalize nr now = tm at *
  generalize idn id = b0 at *
  generalize idn fi = b1 at *
  generalize cliOK na pu ch ol un sd idl ab gr li = b2 at *
  generalize nm su = b3 at *
  generalize right sc = b4 at *
  clear hsd hld hsc hln h_na h_su hdl hsl h_s
  generalize hv0 : (Value.slice va sc.length vc) = v0 at *
  go_enter Tryz.func26, Tryz.ntmps26
  go_wp2_with fail
  refine (unhide X1 W1).mono ?_
  rintro e w9 ⟨rfl, hw9⟩
  rw [hw9]
  clear hw9 w9 X1
  go_wp2_with fail
  refine (unhide X2 W1).mono ?_
  rintro e w9 ⟨rfl, hw9⟩
  rw [hw9]
  clear hw9 w9 X2
  go_wp2_with fail
  refine (unhide X3 W1 (unhide HB)).mono ?_
  rintro e w2 ⟨rfl, h2⟩
  have hbB := (unhide HB).trans (h2.mono (unhide HB).size)
  have rc := (h2.block _ (lt_of_row (unhide HRc))).trans (unhide HRc)
  have rf := (h2.block _ (lt_of_row (unhide HRf))).trans (unhide HRf)
  have rt := (h2.block _ (lt_of_row (unhide HRt))).trans (unhide HRt)
  clear h2 HB HRc HRf HRt cc_0 cc_1 cc_2 cc_3 cc_4 cc_5 cc_6 cc_7 cc_8 cc_9 cc_10 hW1
  have HB := hide hbB
  have HRc := hide rc
  have HRf := hide rf
  have HRt := hide rt
  clear hbB rc rf rt
  clear X3
  go_wp2_with fail
  refine (unhide X4 w2).mono ?_
  rintro e w9 ⟨rfl, hw9⟩
  rw [hw9]
  clear hw9 w9 X4
  go_wp2_with fail
  refine (unhide X5 w2 (unhide HB)).mono ?_
  rintro e w3 ⟨rfl, h3⟩
  have hbB := (unhide HB).trans (h3.mono (unhide HB).size)
  have rc := (h3.block _ (lt_of_row (unhide HRc))).trans (unhide HRc)
  have rf := (h3.block _ (lt_of_row (unhide HRf))).trans (unhide HRf)
  have rt := (h3.block _ (lt_of_row (unhide HRt))).trans (unhide HRt)
  clear h3 HB HRc HRf HRt  
  have HB := hide hbB
  have HRc := hide rc
  have HRf := hide rf
  have HRt := hide rt
  clear hbB rc rf rt
  clear X5
  cases b0
  · have hO : OK = false := unhide hOK
    go_wp2_with (first | (refine wp_stA inf24 rfl (.tmp 14) (.tmp 57) rfl (w.heap.size + 1) (by rfl) #[I 0, S [], S [], .slice none 0 0, I 0, I 0, I 0, I 0, I 0, I 0, I 0, I 0, I 0, I 0] (by rfl) #[I 0, S [], S [], .slice none 0 0, I 0, I 0, I 0, I 0, I 0, I 0, I 0, I 0, I 0, I 0] rfl rfl (unhide HRf) (by simp [Value.oneCell']) ?_) | (refine wp_stA inf26 rfl (.tmp 15) (.tmp 58) rfl (w.heap.size + 2) (by rfl) #[I 0, I 0, I 0, S [], I 0, .bool false, I 0, I 0, S []] (by rfl) #[I 0, I 0, I 0, S [], I 0, .bool false, I 0, I 0, S []] rfl rfl (row_set (unhide HRt) (by omega)) (by simp [Value.oneCell']) ?_))
    refine out3c (T := 24) (n := 14) (U := 26) (m := 9) (p := 14) (p' := 15) (q := 16) (cs := #[I 0, S [], S [], .slice none 0 0, I 0, I 0, I 0, I 0, I 0, I 0, I 0, I 0, I 0, I 0]) (cs' := #[I 0, I 0, I 0, S [], I 0, .bool false, I 0, I 0, S []]) (fun _ => by kernel_rfl) (fun _ => by kernel_rfl) (fun _ => by kernel_rfl) (fun _ => by kernel_rfl) (Z := w.heap.size + 1) (Z' := w.heap.size + 2) (by rfl) (by rfl) (by rfl) (by rfl) (by rfl) (row_set (setRow_row (unhide HRf)) (by omega)) (by rfl) (setRow_row (row_set (unhide HRt) (by omega))) (by rfl) ?_
    rw [hO]
    exact ⟨rfl, bel_set (bel_set (unhide HB) _ _ (by omega) (unhide HB).size) _ _ (by omega) (by simpa using (unhide HB).size)⟩
  · skip
    cases b1
    · have hO : OK = false := unhide hOK
      go_wp2_with (first | (refine wp_stA inf24 rfl (.tmp 14) (.tmp 57) rfl (w.heap.size + 1) (by rfl) #[I 0, S [], S [], .slice none 0 0, I 0, I 0, I 0, I 0, I 0, I 0, I 0, I 0, I 0, I 0] (by rfl) #[I 0, S [], S [], .slice none 0 0, I 0, I 0, I 0, I 0, I 0, I 0, I 0, I 0, I 0, I 0] rfl rfl (unhide HRf) (by simp [Value.oneCell']) ?_) | (refine wp_stA inf26 rfl (.tmp 15) (.tmp 58) rfl (w.heap.size + 2) (by rfl) #[I 0, I 0, I 0, S [], I 0, .bool false, I 0, I 0, S []] (by rfl) #[I 0, I 0, I 0, S [], I 0, .bool false, I 0, I 0, S []] rfl rfl (row_set (unhide HRt) (by omega)) (by simp [Value.oneCell']) ?_))
      refine out3c (T := 24) (n := 14) (U := 26) (m := 9) (p := 14) (p' := 15) (q := 16) (cs := #[I 0, S [], S [], .slice none 0 0, I 0, I 0, I 0, I 0, I 0, I 0, I 0, I 0, I 0, I 0]) (cs' := #[I 0, I 0, I 0, S [], I 0, .bool false, I 0, I 0, S []]) (fun _ => by kernel_rfl) (fun _ => by kernel_rfl) (fun _ => by kernel_rfl) (fun _ => by kernel_rfl) (Z := w.heap.size + 1) (Z' := w.heap.size + 2) (by rfl) (by rfl) (by rfl) (by rfl) (by rfl) (row_set (setRow_row (unhide HRf)) (by omega)) (by rfl) (setRow_row (row_set (unhide HRt) (by omega))) (by rfl) ?_
      rw [hO]
      exact ⟨rfl, bel_set (bel_set (unhide HB) _ _ (by omega) (unhide HB).size) _ _ (by omega) (by simpa using (unhide HB).size)⟩
    · skip
      cases b2
      · have hO : OK = false := unhide hOK
        go_wp2_with (first | (refine wp_stA inf24 rfl (.tmp 14) (.tmp 57) rfl (w.heap.size + 1) (by rfl) #[I 0, S [], S [], .slice none 0 0, I 0, I 0, I 0, I 0, I 0, I 0, I 0, I 0, I 0, I 0] (by rfl) #[I 0, S [], S [], .slice none 0 0, I 0, I 0, I 0, I 0, I 0, I 0, I 0, I 0, I 0, I 0] rfl rfl (unhide HRf) (by simp [Value.oneCell']) ?_) | (refine wp_stA inf26 rfl (.tmp 15) (.tmp 58) rfl (w.heap.size + 2) (by rfl) #[I 0, I 0, I 0, S [], I 0, .bool false, I 0, I 0, S []] (by rfl) #[I 0, I 0, I 0, S [], I 0, .bool false, I 0, I 0, S []] rfl rfl (row_set (unhide HRt) (by omega)) (by simp [Value.oneCell']) ?_))
        refine out3c (T := 24) (n := 14) (U := 26) (m := 9) (p := 14) (p' := 15) (q := 16) (cs := #[I 0, S [], S [], .slice none 0 0, I 0, I 0, I 0, I 0, I 0, I 0, I 0, I 0, I 0, I 0]) (cs' := #[I 0, I 0, I 0, S [], I 0, .bool false, I 0, I 0, S []]) (fun _ => by kernel_rfl) (fun _ => by kernel_rfl) (fun _ => by kernel_rfl) (fun _ => by kernel_rfl) (Z := w.heap.size + 1) (Z' := w.heap.size + 2) (by rfl) (by rfl) (by rfl) (by rfl) (by rfl) (row_set (setRow_row (unhide HRf)) (by omega)) (by rfl) (setRow_row (row_set (unhide HRt) (by omega))) (by rfl) ?_
        rw [hO]
        exact ⟨rfl, bel_set (bel_set (unhide HB) _ _ (by omega) (unhide HB).size) _ _ (by omega) (by simpa using (unhide HB).size)⟩
      · skip
        cases b3
        · have hO : OK = false := unhide hOK
          go_wp2_with (first | (refine wp_stA inf24 rfl (.tmp 14) (.tmp 57) rfl (w.heap.size + 1) (by rfl) #[I 0, S [], S [], .slice none 0 0, I 0, I 0, I 0, I 0, I 0, I 0, I 0, I 0, I 0, I 0] (by rfl) #[I 0, S [], S [], .slice none 0 0, I 0, I 0, I 0, I 0, I 0, I 0, I 0, I 0, I 0, I 0] rfl rfl (unhide HRf) (by simp [Value.oneCell']) ?_) | (refine wp_stA inf26 rfl (.tmp 15) (.tmp 58) rfl (w.heap.size + 2) (by rfl) #[I 0, I 0, I 0, S [], I 0, .bool false, I 0, I 0, S []] (by rfl) #[I 0, I 0, I 0, S [], I 0, .bool false, I 0, I 0, S []] rfl rfl (row_set (unhide HRt) (by omega)) (by simp [Value.oneCell']) ?_))
          refine out3c (T := 24) (n := 14) (U := 26) (m := 9) (p := 14) (p' := 15) (q := 16) (cs := #[I 0, S [], S [], .slice none 0 0, I 0, I 0, I 0, I 0, I 0, I 0, I 0, I 0, I 0, I 0]) (cs' := #[I 0, I 0, I 0, S [], I 0, .bool false, I 0, I 0, S []]) (fun _ => by kernel_rfl) (fun _ => by kernel_rfl) (fun _ => by kernel_rfl) (fun _ => by kernel_rfl) (Z := w.heap.size + 1) (Z' := w.heap.size + 2) (by rfl) (by rfl) (by rfl) (by rfl) (by rfl) (row_set (setRow_row (unhide HRf)) (by omega)) (by rfl) (setRow_row (row_set (unhide HRt) (by omega))) (by rfl) ?_
          rw [hO]
          exact ⟨rfl, bel_set (bel_set (unhide HB) _ _ (by omega) (unhide HB).size) _ _ (by omega) (by simpa using (unhide HB).size)⟩
        · skip
          cases b4
          · have hO : OK = false := unhide hOK
            go_wp2_with (first | (refine wp_stA inf24 rfl (.tmp 14) (.tmp 57) rfl (w.heap.size + 1) (by rfl) #[I 0, S [], S [], .slice none 0 0, I 0, I 0, I 0, I 0, I 0, I 0, I 0, I 0, I 0, I 0] (by rfl) #[I 0, S [], S [], .slice none 0 0, I 0, I 0, I 0, I 0, I 0, I 0, I 0, I 0, I 0, I 0] rfl rfl (unhide HRf) (by simp [Value.oneCell']) ?_) | (refine wp_stA inf26 rfl (.tmp 15) (.tmp 58) rfl (w.heap.size + 2) (by rfl) #[I 0, I 0, I 0, S [], I 0, .bool false, I 0, I 0, S []] (by rfl) #[I 0, I 0, I 0, S [], I 0, .bool false, I 0, I 0, S []] rfl rfl (row_set (unhide HRt) (by omega)) (by simp [Value.oneCell']) ?_))
            refine out3c (T := 24) (n := 14) (U := 26) (m := 9) (p := 14) (p' := 15) (q := 16) (cs := #[I 0, S [], S [], .slice none 0 0, I 0, I 0, I 0, I 0, I 0, I 0, I 0, I 0, I 0, I 0]) (cs' := #[I 0, I 0, I 0, S [], I 0, .bool false, I 0, I 0, S []]) (fun _ => by kernel_rfl) (fun _ => by kernel_rfl) (fun _ => by kernel_rfl) (fun _ => by kernel_rfl) (Z := w.heap.size + 1) (Z' := w.heap.size + 2) (by rfl) (by rfl) (by rfl) (by rfl) (by rfl) (row_set (setRow_row (unhide HRf)) (by omega)) (by rfl) (setRow_row (row_set (unhide HRt) (by omega))) (by rfl) ?_
            rw [hO]
            exact ⟨rfl, bel_set (bel_set (unhide HB) _ _ (by omega) (unhide HB).size) _ _ (by omega) (by simpa using (unhide HB).size)⟩
          · skip
            by_cases h24 : s.length = 24
            · have hO : OK = true := by rw [unhide hOK]; simp [h24]
              have HO := hide hO
              clear hO hOK
              have d24 : ((s.length : Int) != 24) = false := by rw [bne_eq_false_iff_eq]; omega
              go_wp2_with fail
              refine (unhide X6 w3).mono ?_
              rintro e w9 ⟨rfl, hw9⟩
              rw [hw9]
              clear hw9 w9 X6
              go_upto_region 9 with fail
              have hM : w.heap.size + 2 < w3.heap.size := lt_of_row (unhide HRt)
              refine region_tab rbg9T [(0, I id), (1, I fi), (3, S su), (4, v0), (9, ptr w.heap.size), (22, I tm)] 83 [0, 1, 3, 4, 6, 7, 8, 10, 12, 14] (rbg9V w.heap.size id fi na su v0 sc.length tm idl ab gr) rfl (by rfl) (by rfl) rfl (fun c w => by kernel_rfl) _ w3 (by simp) rfl (WR9 w w.heap.size #[S na, .bool pu, .bool of9, S ch, S ol, I un, .slice vb sd.length vd, I idl, I ab, I gr, I li] #[I 0, S [], S [], .slice none 0 0, I 0, I 0, I 0, I 0, I 0, I 0, I 0, I 0, I 0, I 0] #[I 0, I 0, I 0, S [], I 0, .bool false, I 0, I 0, S []] (fun c => #[I id, S na, S su, c, I tm, I tm, I idl, I ab, I gr, I 1, I fi, I 1, I 0, I 0]) sc) ⟨(none, 0, 0), ⟨(unhide HB).drew, unhide HRc, unhide HRf, unhide HRt, (fun e => by cases e), (fun e => by cases e), (fun e => by cases e), (fun e => by cases e)⟩⟩ (fun i hi c L W hW => hW.pure i (by intro e; subst e; simp at hi) (by intro e; subst e; simp at hi) (by intro e; subst e; simp at hi) (by intro e; subst e; simp at hi)) ?sp ?_
              case sp =>
                intro i hi hp c L W hW hL hd
                obtain ⟨ca, cc, c2⟩ := c
                rcases (by simp [rbg9T] at hi hp; omega : i = 2 ∨ i = 5 ∨ i = 9 ∨ i = 11 ∨ i = 13 ∨ i = 15 ∨ i = 16 ∨ i = 17) with rfl | rfl | rfl | rfl | rfl | rfl | rfl | rfl
                · have f1 : (Instr.loadAt 9 (.pointer (some ⟨w.heap.size, 0, none⟩))).run Tryz.prog W = .ok (S na) W := s_ld (T := 9) (fun _ => by kernel_rfl) (cellr hW.r0 rfl)
                  exact ⟨f1, hW.pure 2 (by decide) (by decide) (by decide) (by decide)⟩
                · have h17 : L 17 = false := by cases q : L 17 with | false => rfl | true => rw [(hW.ord q).2] at hL; cases hL
                  have h15 : L 15 = false := by cases q : L 15 with | false => rfl | true => rw [hW.o15 q] at hL; cases hL
                  refine ⟨⟨_, _, Tryz.func51, by kernel_rfl, rfl⟩, (unhide X7 W hW.be (by first | trivial | rfl)).mono fun e w' q => ?_⟩
                  obtain ⟨a, cap, e1, e2, e3⟩ := q
                  have h2 := hW.call e3
                  have hrc : upd L 5 16 = true → w.heap.size + 2 < c2 ∧ w'.heap[c2]? = some (.cells (if upd L 5 17 then #[I id, S na, S su, (.slice a sc.length cap), I tm, I tm, I idl, I ab, I gr, I 1, I fi, I 1, I 0, I 0] else #[I 0, S [], S [], .slice none 0 0, I 0, I 0, I 0, I 0, I 0, I 0, I 0, I 0, I 0, I 0]) 24 (0, 0)) := fun e => by
                    rw [upd_ne (by decide)] at e
                    have := h2.rc e
                    rw [h17] at this
                    rw [upd_ne (by decide), h17]
                    exact this
                  exact ⟨(a, cap, c2), fun j hj => rbg9V_5 (by intro e; subst e; rw [hL] at hj; cases hj) (by intro e; subst e; rw [h15] at hj; cases hj), e1, ⟨h2.be, h2.r0, h2.r1, h2.r2, fun _ => e2.below (Below.refl _ _) (by have := lt_of_row hW.r2; omega), hrc, fun e => by (rw [upd_ne (by decide), h17] at e; cases e), fun e => by (rw [upd_ne (by decide), h15] at e; cases e)⟩⟩
                · have f1 : (Instr.loadAt 3 (.pointer (some ⟨w.heap.size, 7, none⟩))).run Tryz.prog W = .ok (I idl) W := s_ld (T := 3) (fun _ => by kernel_rfl) (cellr hW.r0 rfl)
                  exact ⟨f1, hW.pure 9 (by decide) (by decide) (by decide) (by decide)⟩
                · have f1 : (Instr.loadAt 3 (.pointer (some ⟨w.heap.size, 8, none⟩))).run Tryz.prog W = .ok (I ab) W := s_ld (T := 3) (fun _ => by kernel_rfl) (cellr hW.r0 rfl)
                  exact ⟨f1, hW.pure 11 (by decide) (by decide) (by decide) (by decide)⟩
                · have f1 : (Instr.loadAt 3 (.pointer (some ⟨w.heap.size, 9, none⟩))).run Tryz.prog W = .ok (I gr) W := s_ld (T := 3) (fun _ => by kernel_rfl) (cellr hW.r0 rfl)
                  exact ⟨f1, hW.pure 13 (by decide) (by decide) (by decide) (by decide)⟩
                · have h5 : L 5 = true := hd 5 (by rfl)
                  exact ⟨⟨_, rfl, by kernel_rfl⟩, hW.build h5⟩
                · have h17 : L 17 = false := by cases q : L 17 with | false => rfl | true => rw [(hW.ord q).1] at hL; cases hL
                  have f1 : (Instr.alloc 24 true (.tuple #[])).run Tryz.prog W = .ok (ptr W.heap.size) (W.alloc (.cells #[I 0, S [], S [], .slice none 0 0, I 0, I 0, I 0, I 0, I 0, I 0, I 0, I 0, I 0, I 0] 24)) := by kernel_rfl
                  have h2 := hW.call ((Below.refl _ W).alloc (Nat.le_refl _) (.cells #[I 0, S [], S [], .slice none 0 0, I 0, I 0, I 0, I 0, I 0, I 0, I 0, I 0, I 0, I 0] 24))
                  exact ⟨(ca, cc, W.heap.size), _, fun j hj => rbg9V_16 (by intro e; subst e; rw [hL] at hj; cases hj), f1, ⟨h2.be, h2.r0, h2.r1, h2.r2, fun e => h2.own (by rw [upd_ne (by decide)] at e; exact e), fun _ => ⟨lt_of_row hW.r2, by rw [upd_ne (by decide), h17]; exact heap_alloc_new _ _⟩, fun e => by (rw [upd_ne (by decide), h17] at e; cases e), fun e => upd_of (h2.o15 (by rw [upd_ne (by decide)] at e; exact e))⟩⟩
                · have h16 : L 16 = true := hd 16 (by rfl)
                  have h15 : L 15 = true := hd 15 (by rfl)
                  have h5 : L 5 = true := hW.o15 h15
                  obtain ⟨hlt, hrc⟩ := hW.rc h16
                  rw [hL] at hrc
                  have hown := hW.own h5
                  have f1 : (Instr.storeAt 24 (ptr c2) (.agg #[I id, S na, S su, .slice ca sc.length cc, I tm, I tm, I idl, I ab, I gr, I 1, I fi, I 1, I 0, I 0])).run Tryz.prog W = .ok () (W.setRow c2 #[I id, S na, S su, .slice ca sc.length cc, I tm, I tm, I idl, I ab, I gr, I 1, I fi, I 1, I 0, I 0]) := st_all (T := 24) (n := 14) (fun _ => by kernel_rfl) (cs := #[I 0, S [], S [], .slice none 0 0, I 0, I 0, I 0, I 0, I 0, I 0, I 0, I 0, I 0, I 0]) hrc rfl #[I id, S na, S su, .slice ca sc.length cc, I tm, I tm, I idl, I ab, I gr, I 1, I fi, I 1, I 0, I 0] rfl (by simp [Value.oneCell'])
                  have hlt2 : w.heap.size + 2 < c2 := hlt
                  exact ⟨rfl, _, f1, ⟨bel_set hW.be _ _ (by omega) (by have := lt_of_row hW.r0; omega), row_set hW.r0 (by omega), row_set hW.r1 (by omega), row_set hW.r2 (by omega), fun _ => own_set2 hown hrc (by decide) _, fun _ => ⟨hlt, by rw [upd_eq]; exact setRow_row hrc⟩, fun _ => ⟨upd_of h16, upd_of h5⟩, fun e => upd_of h5⟩⟩
              intro c L W hall hW
              obtain ⟨a, cap, c2⟩ := c
              simp only [frmL, rbg9T, rbg9V, Act.put, List.setIfInBounds_toArray, List.set_cons_succ, List.set_cons_zero]
              obtain ⟨hlt, hrc⟩ := hW.rc (hall 16 (by decide))
              rw [hall 17 (by decide)] at hrc
              have hown := hW.own (hall 5 (by decide))
              have rf := hW.r1
              have rt := hW.r2
              have rg : W.heap[c2]? = some (.cells #[I id, S na, S su, .slice a sc.length cap, I tm, I tm, I idl, I ab, I gr, I 1, I fi, I 1, I 0, I 0] 24 (0, 0)) := hrc
              have hb := hW.be
              have hlt2 : w.heap.size + 2 < c2 := hlt
              clear hall hW hrc hlt HB HRc HRf HRt X7 hM
              have hown2 : OwnS (w.heap.size + 3) W (.slice a sc.length cap) sc := hown
              clear hown
              go_upto_region 10 with fail
              refine region_tab rbg10T [(23, ptr c2), (1, I fi), (0, I id), (5, S s), (22, I tm), (14, ptr (w.heap.size + 1)), (15, ptr (w.heap.size + 2))] 83 [1, 2, 3, 4, 8] (rbg10V #[I id, S na, S su, .slice a sc.length cap, I tm, I tm, I idl, I ab, I gr, I 1, I fi, I 1, I 0, I 0] #[I fi, I id, I 1, S (hh), I tm, .bool false, I 0, I 0, S []] id fi s tm) rfl (by rfl) (by rfl) rfl (fun c w => by kernel_rfl) _ W (by simp) rfl (fun _ L W => Below w.heap.size w W ∧ W.heap[c2]? = some (.cells #[I id, S na, S su, .slice a sc.length cap, I tm, I tm, I idl, I ab, I gr, I 1, I fi, I 1, I 0, I 0] 24 (0, 0)) ∧ W.heap[w.heap.size + 1]? = some (.cells (if L 6 then #[I id, S na, S su, .slice a sc.length cap, I tm, I tm, I idl, I ab, I gr, I 1, I fi, I 1, I 0, I 0] else #[I 0, S [], S [], .slice none 0 0, I 0, I 0, I 0, I 0, I 0, I 0, I 0, I 0, I 0, I 0]) 24 (0, 0)) ∧ W.heap[w.heap.size + 2]? = some (.cells (if L 7 then #[I fi, I id, I 1, S (hh), I tm, .bool false, I 0, I 0, S []] else #[I 0, I 0, I 0, S [], I 0, .bool false, I 0, I 0, S []]) 26 (0, 0)) ∧ OwnS (w.heap.size + 3) W (.slice a sc.length cap) sc) ⟨(), hb.drew, rg, rf, rt, hown2⟩ (fun i hi c L W hW => ⟨hW.1, hW.2.1, by rw [upd_ne (by intro e; subst e; simp at hi)]; exact hW.2.2.1, by rw [upd_ne (by intro e; subst e; simp at hi)]; exact hW.2.2.2.1, hW.2.2.2.2⟩) ?sp ?_
              case sp =>
                intro i hi hp c L W hW hL hd
                obtain ⟨k1, k2, k3, k4, k5⟩ := hW
                rcases (by simp [rbg10T] at hi hp; omega : i = 0 ∨ i = 5 ∨ i = 6 ∨ i = 7) with rfl | rfl | rfl | rfl
                · have f1 : (Instr.loadAt 24 (ptr c2)).run Tryz.prog W = .ok (.agg #[I id, S na, S su, .slice a sc.length cap, I tm, I tm, I idl, I ab, I gr, I 1, I fi, I 1, I 0, I 0]) W := s_ldr (T := 24) (n := 14) (fun _ => by kernel_rfl) (fun _ => by kernel_rfl) k2 (#[I id, S na, S su, .slice a sc.length cap, I tm, I tm, I idl, I ab, I gr, I 1, I fi, I 1, I 0, I 0]).toList rfl rfl
                  exact ⟨f1, k1, k2, by rw [upd_ne (by decide)]; exact k3, by rw [upd_ne (by decide)]; exact k4, k5⟩
                · exact ⟨⟨_, _, Tryz.func47, by kernel_rfl, rfl⟩, (unhide X8 W (by first | trivial | rfl) h24).mono fun e w' q => ⟨c, fun _ _ => rfl, q.1, k1.trans (q.2.mono k1.size), (q.2.block _ (lt_of_row k2)).trans k2, by rw [upd_ne (by decide)]; exact (q.2.block _ (lt_of_row k3)).trans k3, by rw [upd_ne (by decide)]; exact (q.2.block _ (lt_of_row k4)).trans k4, k5.below q.2 (Nat.le_refl _)⟩⟩
                · rw [hL] at k3
                  have f1 : (Instr.storeAt 24 (ptr (w.heap.size + 1)) (.agg #[I id, S na, S su, .slice a sc.length cap, I tm, I tm, I idl, I ab, I gr, I 1, I fi, I 1, I 0, I 0])).run Tryz.prog W = .ok () (W.setRow (w.heap.size + 1) #[I id, S na, S su, .slice a sc.length cap, I tm, I tm, I idl, I ab, I gr, I 1, I fi, I 1, I 0, I 0]) := st_all (T := 24) (n := 14) (fun _ => by kernel_rfl) (cs := #[I 0, S [], S [], .slice none 0 0, I 0, I 0, I 0, I 0, I 0, I 0, I 0, I 0, I 0, I 0]) k3 rfl #[I id, S na, S su, .slice a sc.length cap, I tm, I tm, I idl, I ab, I gr, I 1, I fi, I 1, I 0, I 0] rfl (by simp [Value.oneCell'])
                  exact ⟨rfl, _, f1, bel_set k1 _ _ (by omega) k1.size, row_set k2 (by omega), by rw [upd_eq]; exact setRow_row k3, by rw [upd_ne (by decide)]; exact row_set k4 (by omega), own_set k5 _ _ (by omega)⟩
                · rw [hL] at k4
                  have f1 : (Instr.storeAt 26 (ptr (w.heap.size + 2)) (.agg #[I fi, I id, I 1, S (hh), I tm, .bool false, I 0, I 0, S []])).run Tryz.prog W = .ok () (W.setRow (w.heap.size + 2) #[I fi, I id, I 1, S (hh), I tm, .bool false, I 0, I 0, S []]) := st_all (T := 26) (n := 9) (fun _ => by kernel_rfl) (cs := #[I 0, I 0, I 0, S [], I 0, .bool false, I 0, I 0, S []]) k4 rfl #[I fi, I id, I 1, S (hh), I tm, .bool false, I 0, I 0, S []] rfl (by simp [Value.oneCell'])
                  exact ⟨rfl, _, f1, bel_set k1 _ _ (by omega) k1.size, row_set k2 (by omega), by rw [upd_ne (by decide)]; exact row_set k3 (by omega), by rw [upd_eq]; exact setRow_row k4, own_set k5 _ _ (by omega)⟩
              intro c L W hall hW
              simp only [frmL, rbg10T, rbg10V, Act.put, List.setIfInBounds_toArray, List.set_cons_succ, List.set_cons_zero]
              obtain ⟨k1, k2, k3, k4, k5⟩ := hW
              rw [hall 6 (by decide)] at k3
              rw [hall 7 (by decide)] at k4
              have H1 := hide k1
              have H3 := hide k3
              have H4 := hide k4
              have H5 := hide k5
              clear k1 k2 k3 k4 k5 hall X8 hb rg rf rt hown2 hlt2
              go_wp2
              refine out3c (T := 24) (n := 14) (U := 26) (m := 9) (p := 14) (p' := 15) (q := 16) (cs := #[I id, S na, S su, .slice a sc.length cap, I tm, I tm, I idl, I ab, I gr, I 1, I fi, I 1, I 0, I 0]) (cs' := #[I fi, I id, I 1, S (hh), I tm, .bool false, I 0, I 0, S []]) (fun _ => by kernel_rfl) (fun _ => by kernel_rfl) (fun _ => by kernel_rfl) (fun _ => by kernel_rfl) (Z := w.heap.size + 1) (Z' := w.heap.size + 2) (by rfl) (by rfl) (by rfl) (by rfl) (by rfl) (unhide H3) (by rfl) (unhide H4) (by rfl) ?_
              rw [unhide HO]
              exact ⟨a, cap, rfl, (unhide H5).below (Below.refl _ _) (by omega), unhide H1⟩
            · have hO : OK = false := by rw [unhide hOK]; simp [h24]
              have d24 : ((s.length : Int) != 24) = true := by rw [bne_iff_ne]; omega
              go_wp2_with (first | (refine wp_stA inf24 rfl (.tmp 14) (.tmp 57) rfl (w.heap.size + 1) (by rfl) #[I 0, S [], S [], .slice none 0 0, I 0, I 0, I 0, I 0, I 0, I 0, I 0, I 0, I 0, I 0] (by rfl) #[I 0, S [], S [], .slice none 0 0, I 0, I 0, I 0, I 0, I 0, I 0, I 0, I 0, I 0, I 0] rfl rfl (unhide HRf) (by simp [Value.oneCell']) ?_) | (refine wp_stA inf26 rfl (.tmp 15) (.tmp 58) rfl (w.heap.size + 2) (by rfl) #[I 0, I 0, I 0, S [], I 0, .bool false, I 0, I 0, S []] (by rfl) #[I 0, I 0, I 0, S [], I 0, .bool false, I 0, I 0, S []] rfl rfl (row_set (unhide HRt) (by omega)) (by simp [Value.oneCell']) ?_))
              refine out3c (T := 24) (n := 14) (U := 26) (m := 9) (p := 14) (p' := 15) (q := 16) (cs := #[I 0, S [], S [], .slice none 0 0, I 0, I 0, I 0, I 0, I 0, I 0, I 0, I 0, I 0, I 0]) (cs' := #[I 0, I 0, I 0, S [], I 0, .bool false, I 0, I 0, S []]) (fun _ => by kernel_rfl) (fun _ => by kernel_rfl) (fun _ => by kernel_rfl) (fun _ => by kernel_rfl) (Z := w.heap.size + 1) (Z' := w.heap.size + 2) (by rfl) (by rfl) (by rfl) (by rfl) (by rfl) (row_set (setRow_row (unhide HRf)) (by omega)) (by rfl) (setRow_row (row_set (unhide HRt) (by omega))) (by rfl) ?_
              rw [hO]
              exact ⟨rfl, bel_set (bel_set (unhide HB) _ _ (by omega) (unhide HB).size) _ _ (by omega) (by simpa using (unhide HB).size)⟩
end Go.Proofs.YtmjaobddgaglhaaGreatDoor
