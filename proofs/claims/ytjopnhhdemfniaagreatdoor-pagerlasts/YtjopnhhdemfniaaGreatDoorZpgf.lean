import Derived.Test.YtjopnhhdemfniaaGreatDoorZpgc
import Derived.Test.YtjopnhhdemfniaaGreatDoorZdetl
import Derived.Test.YtjopnhhdemfniaaGreatDoorPgb
import Derived.Laws.Tables
namespace Go.Proofs.YtjopnhhdemfniaaGreatDoor
open Go.RowKit
set_option maxHeartbeats 4000000
set_option maxRecDepth 8000
/-- What a Reader tells of a number, and where it stands then. -/
def rv (size : Nat) (s : Bs × Nat) : Int := if fine s.2 (rNumE size s.1) then (nat (s.1.take size) : Int) else 0
def rs (size : Nat) (s : Bs × Nat) : Bs × Nat := rGo s.1 s.2 (rNumE size s.1) size
def ra (n : Int) (s : Bs × Nat) : Bs := if fine s.2 (rRawE n s.1) then s.1.take n.toNat else []
def rr2 (n : Int) (s : Bs × Nat) : Bs × Nat := rGo s.1 s.2 (rRawE n s.1) n.toNat
/-- A Reader that came behind w0. -/
def Rd (w0 : World) (b g : Nat) (s : Bs × Nat) (w : World) : Prop := (∃ off cap, RAt b g off cap s.1 s.2 w) ∧ Below w0.heap.size w0 w ∧ w0.heap.size ≤ b ∧ w0.heap.size ≤ g
theorem rGo_len (R : Bs) (E e k : Nat) : (rGo R E e k).1.length ≤ R.length := by
  unfold rGo
  split
  · exact Nat.le_refl _
  · split
    · exact Nat.le_refl _
    · simp
theorem Rd.new (s : Bs) (w : World) : Calls Tryz.prog 146 #[S s] w fun e w' => ∃ b g, e = .returned (ptr b) ∧ Rd w b g (s, 0) w' := by
  refine (newreader_any s w).mono ?_
  rintro e w' ⟨b, g, cap, rfl, h1, h2, h3, h4⟩
  exact ⟨b, g, rfl, ⟨0, cap, h3⟩, h4, h1, h2⟩
theorem Rd.num {w0 w : World} {b g : Nat} {s : Bs × Nat} (h : Rd w0 b g s w) (size : Nat) (hs : s.1.length ≤ 1000) :
    Calls Tryz.prog 148 #[ptr b, I size] w fun e w' => e = .returned (I (rv size s)) ∧ Rd w0 b g (rs size s) w' ∧ Only (fun k => k = b) w w' := by
  obtain ⟨⟨off, cap, h1⟩, h2, h3, h4⟩ := h
  refine (rnum_any b g off cap s.1 s.2 size w h1 (by omega)).mono ?_
  rintro e w' ⟨rfl, h5, h6⟩
  rw [Int.toNat_natCast] at h5 ⊢
  exact ⟨rfl, ⟨h5, h6.below h2 h2.size (fun k hk => by rw [hk]; exact h3), h3, h4⟩, h6⟩
theorem Rd.raw {w0 w : World} {b g : Nat} {s : Bs × Nat} (h : Rd w0 b g s w) (n : Int) (hs : s.1.length ≤ 1000) :
    Calls Tryz.prog 147 #[ptr b, I n] w fun e w' => e = .returned (S (ra n s)) ∧ Rd w0 b g (rr2 n s) w' ∧ Only (fun k => k = b) w w' := by
  obtain ⟨⟨off, cap, h1⟩, h2, h3, h4⟩ := h
  refine (rraw_any b g off cap s.1 s.2 n w h1 (by omega)).mono ?_
  rintro e w' ⟨rfl, h5, h6⟩
  exact ⟨rfl, ⟨h5, h6.below h2 h2.size (fun k hk => by rw [hk]; exact h3), h3, h4⟩, h6⟩
theorem Rd.keep {P : Nat → Prop} {w0 w w' : World} {b g : Nat} {s : Bs × Nat} (h : Rd w0 b g s w) (k : Only P w w') (hb : ¬ P b) (hg : ¬ P g) (hp : ∀ i, P i → w0.heap.size ≤ i) : Rd w0 b g s w' := by
  obtain ⟨⟨off, cap, h1⟩, h2, h3, h4⟩ := h
  exact ⟨⟨off, cap, h1.keep k hb hg⟩, k.below h2 h2.size hp, h3, h4⟩
/-- A call within a region that draws its order. -/
theorem step_calls {ops : Array Oper} {o : Oper} {a : Act} {w : World} {K : Act → World → Prop} {Q : Exit → Act → World → Prop} {R : Prop} {f : FuncId} {fn : Func} {c : Code} (hf : Tryz.prog.funcs[f]? = some fn) (hname : (fn.name == "runtime.NumGoroutine") = false) (hb : fn.body = some c) (hgd : o.guard = none) (xs : Array Operand) (ty : Array TypeId)
    (ho : o.op = .call { callee := .value (.func f), args := xs, argTypes := ty }) (args : Array Value) (hargs : xs.map a.eval = args) (v : Value) (Post : World → Prop) (hc : Calls Tryz.prog f args w fun e w' => e = .returned v ∧ Post w') (h : ∀ w', Post w' → K (a.put o.dst v) w') :
    if Region.wanted o (yielded ops a.tmps) = true then Oper.wp Tryz.prog o a w K Q else R := by
  have hw : Region.wanted o (yielded ops a.tmps) = true := by simp [Region.wanted, hgd]
  rw [if_pos hw]
  unfold Oper.wp
  rw [run_calls hf hname hb a.eval o xs ty ho rfl, Oper.upon_enter, hargs]
  refine hc.mono ?_
  rintro e w' ⟨rfl, hW⟩
  exact h w' hW
/-- One more number behind a row of one's own, within a region that draws its order. -/
theorem step_pushI {ops : Array Oper} {o : Oper} {a : Act} {K : Act → World → Prop} {Q : Exit → Act → World → Prop} {R : Prop} (hgd : o.guard = none) (s x : Operand)
    (ho : o.op = .call { callee := .builtin .append, args := #[s, x], argTypes := #[22, 22] })
    (v : Value) (n : Nat) (xs : List Value) (hs : a.eval s = v) (w0 : World) (z : Int) (hown : w0.ownsRow 0 3 1 v n xs)
    (hx : a.eval x = .slice (some ⟨w0.heap.size, 0, none⟩) 1 1) (hlen : n + 1 ≤ 1000000000000)
    (h : ∀ p cap w', w'.ownsRow 0 3 1 (.slice p (n + 1) cap) (n + 1) (xs ++ [I z]) → Only (fun k => v.ownBlock = some k) w0 w' → (∀ k, (Value.slice p (n + 1) cap).ownBlock = some k → v.ownBlock = some k ∨ w0.heap.size ≤ k) → K (a.put o.dst (.slice p (n + 1) cap)) w') :
    if Region.wanted o (yielded ops a.tmps) = true then Oper.wp Tryz.prog o a (w0.alloc (.cells #[I z] 3)) K Q else R := by
  have hw : Region.wanted o (yielded ops a.tmps) = true := by simp [Region.wanted, hgd]
  rw [if_pos hw]
  obtain ⟨p, cap, w', hr, h2, h3, h4⟩ := app_own 22 3 o.type _ 1 8 Tryz.underlying22 info3 rfl (by decide) v n xs w0 hown [I z] rfl (by intro u hu; simp at hu; subst hu; rfl) (by omega) (by omega)
  unfold Oper.wp execOp
  simp only [ho, resolve, invoke, builtin, Sem.run_bind, Sem.run_pure, Result.andThen_ok, List.map_toArray, List.map_cons, List.map_nil, hs, hx]
  rw [show (w0.alloc (.cells #[I z] 3)) = w0.alloc (.cells [I z].toArray 3) from rfl, hr]
  exact h p cap w' h2 h3 h4
end Go.Proofs.YtjopnhhdemfniaaGreatDoor
namespace Go.Proofs.YtjopnhhdemfniaaGreatDoor
open Go.RowKit
set_option maxHeartbeats 8000000
set_option maxRecDepth 8000
/-- Of each block who needs it. -/
abbrev Us := List UInt8
theorem u8_and (a b : UInt8) : bits .and .u8 (a.toNat : Int) (b.toNat : Int) = ((a &&& b).toNat : Int) := by
  have hb' : bits .and .u8 (a.toNat : Int) (b.toNat : Int) = IntKind.u8.wrap (((BitVec.ofInt 8 (a.toNat : Int)) &&& (BitVec.ofInt 8 (b.toNat : Int))).toNat : Int) := rfl
  have e : ∀ c : UInt8, (BitVec.ofInt 8 (c.toNat : Int)).toNat = c.toNat := fun c => by have := c.toNat_lt; rw [BitVec.toNat_ofInt]; omega
  rw [hb', BitVec.toNat_and, e, e, UInt8.toNat_and]
  have h1 : a.toNat &&& b.toNat ≤ a.toNat := Nat.and_le_left
  have := a.toNat_lt
  rw [IntKind.wrap_u8]
  omega
theorem isFree_any (x : UInt8) (w : World) : Calls Tryz.prog 120 #[B x] w fun e w' => e = .returned (.bool (x == 0)) ∧ w' = w := by
  unfold B
  have e : (x == 0) = ((x.toNat : Int) == 0) := by
    rw [Bool.eq_iff_iff]
    simp only [beq_iff_eq]
    constructor
    · intro h; subst h; rfl
    · intro h; apply UInt8.toNat_inj.1; show x.toNat = 0; omega
  rw [e]
  have hx := x.toNat_lt
  generalize x.toNat = n at *
  go_enter Tryz.func120, Tryz.ntmps120
  go_wp2
  go_ret
  exact ⟨rfl, rfl⟩
theorem isReached_any (x : UInt8) (w : World) : Calls Tryz.prog 187 #[B x] w fun e w' => e = .returned (.bool (x &&& 1 != 0)) ∧ w' = w := by
  unfold B
  have ha := u8_and x 1
  have e : (x &&& 1 != 0) = (((x &&& 1).toNat : Int) != 0) := by
    rw [Bool.eq_iff_iff]
    simp only [bne_iff_ne, ne_eq]
    constructor
    · intro h q; exact h (by apply UInt8.toNat_inj.1; show (x &&& 1).toNat = 0; omega)
    · intro h q; exact h (by rw [q]; rfl)
  rw [e]
  have h1 : ((1 : UInt8).toNat : Int) = 1 := rfl
  rw [h1] at ha
  generalize (x &&& 1).toNat = m at *
  have hx := x.toNat_lt
  generalize x.toNat = n at *
  go_enter Tryz.func187, Tryz.ntmps187
  go_wp2
  go_ret
  refine ⟨?_, rfl⟩
  first | rfl | (rw [ha]; rfl) | simp [ha]
/-- Numbers of one byte in memory. -/
def Uls (w : World) (v : Value) (u : Us) : Prop := w.ownsRow 0 5 1 v u.length (u.map B)
theorem Uls.at {w : World} {v : Value} {u : Us} (h : Uls w v u) {j : Nat} (hj : j < u.length) : ∃ g cap, v = .slice (some ⟨g, 0, none⟩) u.length cap ∧ g < w.heap.size ∧ w.cell? ⟨g, j, none⟩ = some (.int .u8 ((u.getD j 0).toNat : Int)) := by
  obtain ⟨g, cap, cur, e, q, _⟩ := owns_at h (by omega)
  subst e
  refine ⟨g, cap, rfl, lt_of_row q, ?_⟩
  have := owns_cell h j (B (u.getD j 0)) (by simp [hj])
  exact this
def hasv (u : Us) (n : Int) (m : UInt8) : Bool := decide (0 ≤ n) && decide (n < u.length) && (u.getD n.toNat 0 &&& m != 0)
theorem ne0 (x : UInt8) : (x != 0) = ((x.toNat : Int) != 0) := by
  rw [Bool.eq_iff_iff]
  simp only [bne_iff_ne, ne_eq]
  constructor
  · intro h q; exact h (by apply UInt8.toNat_inj.1; show x.toNat = 0; omega)
  · intro h q; exact h (by rw [q]; rfl)
theorem has_any {v : Value} {u : Us} {w : World} (h : Uls w v u) (n : Int) (m : UInt8) (hn : n ≤ 9223372036854775807) : Calls Tryz.prog 132 #[v, I n, B m] w fun e w' => e = .returned (.bool (hasv u n m)) ∧ w' = w := by
  obtain ⟨p, cap, rfl⟩ := owns_form h
  unfold hasv B
  by_cases h0 : 0 ≤ n
  · by_cases h1 : n < u.length
    · obtain ⟨j, rfl⟩ : ∃ j : Nat, n = (j : Int) := ⟨n.toNat, by omega⟩
      obtain ⟨g, cap', e, hg, hc⟩ := h.at (show j < u.length by omega)
      cases e
      rw [Int.toNat_natCast, ne0]
      have ha := u8_and (u.getD j 0) m
      generalize (u.getD j 0 &&& m).toNat = z at *
      have hx := (u.getD j 0).toNat_lt
      generalize (u.getD j 0).toNat = x at *
      have hm := m.toNat_lt
      generalize m.toNat = y at *
      clear h
      go_enter Tryz.func132, Tryz.ntmps132
      go_wp2
      go_ret
      refine ⟨ret_bool ?_, rfl⟩
      first | (simp [h0, h1]; done) | (rw [ha]; simp [h0, h1])
    · clear h
      go_enter Tryz.func132, Tryz.ntmps132
      go_wp2
      go_ret
      exact ⟨ret_bool (by first | (simp; done) | (simp; intros; omega)), rfl⟩
  · clear h
    go_enter Tryz.func132, Tryz.ntmps132
    go_wp2
    go_ret
    exact ⟨ret_bool (by first | (simp; done) | (simp; intros; omega)), rfl⟩
end Go.Proofs.YtjopnhhdemfniaaGreatDoor
namespace Go.Proofs.YtjopnhhdemfniaaGreatDoor
open Go.RowKit
set_option maxHeartbeats 8000000
set_option maxRecDepth 8000
/-- The pages below k that are such. -/
def selk (u : Us) (pr : UInt8 → Bool) (k : Nat) : List Int := ((List.range k).filter (fun n => decide (2 ≤ n) && pr (u.getD n 0))).map fun n : Nat => (n : Int)
def sel (u : Us) (pr : UInt8 → Bool) : List Int := selk u pr u.length
theorem selk_next (u : Us) (pr : UInt8 → Bool) (k : Nat) : selk u pr (k + 1) = selk u pr k ++ (if (decide (2 ≤ k) && pr (u.getD k 0)) = true then [(k : Int)] else []) := by
  unfold selk
  rw [List.range_succ, List.filter_append, List.map_append]
  congr 1
  by_cases h : (decide (2 ≤ k) && pr (u.getD k 0)) = true
  · rw [if_pos h]; simp only [List.filter, h]; rfl
  · rw [if_neg h]; simp only [List.filter, Bool.eq_false_iff.2 h]; rfl
theorem selk_len (u : Us) (pr : UInt8 → Bool) (k : Nat) : (selk u pr k).length ≤ k := by
  unfold selk
  rw [List.length_map]
  exact Nat.le_trans (List.length_filter_le _ _) (by simp)
theorem selk_pre (u : Us) (pr : UInt8 → Bool) (k m : Nat) (h : k ≤ m) : ∃ r, selk u pr m = selk u pr k ++ r := by
  induction m with
  | zero => exact ⟨[], by rw [Nat.le_zero.1 h, List.append_nil]⟩
  | succ m ih =>
    by_cases q : k ≤ m
    · obtain ⟨r, e⟩ := ih q
      exact ⟨r ++ _, by rw [selk_next, e, List.append_assoc]⟩
    · exact ⟨[], by rw [show k = m + 1 by omega, List.append_nil]⟩
theorem sel_full (u : Us) (pr : UInt8 → Bool) (k most : Nat) (hk : k ≤ u.length) (h : ((selk u pr k).take most).length = most) : (sel u pr).take most = (selk u pr k).take most := by
  obtain ⟨r, e⟩ := selk_pre u pr k u.length hk
  unfold sel
  rw [e, List.take_append_of_le_length]
  rw [List.length_take] at h
  omega
theorem sel_short (u : Us) (pr : UInt8 → Bool) (k most : Nat) (h : ((selk u pr k).take most).length ≠ most) : (selk u pr k).take most = selk u pr k ∧ (selk u pr (k + 1)).take most = selk u pr (k + 1) := by
  rw [List.length_take] at h
  have hl : (selk u pr k).length < most := by omega
  refine ⟨List.take_of_length_le (by omega), List.take_of_length_le ?_⟩
  rw [selk_next]
  split <;> simp <;> omega
def frb (x : UInt8) : Bool := x == 0
def rcb (x : UInt8) : Bool := x &&& 1 != 0
def hdb (x : UInt8) : Bool := x != 0 && !rcb x
theorem isHeld_any (x : UInt8) (w : World) : Calls Tryz.prog 188 #[B x] w fun e w' => e = .returned (.bool (hdb x)) ∧ w' = w := by
  have H := hide (isReached_any x w)
  unfold hdb rcb
  generalize (x &&& 1 != 0) = q at *
  have e := ne0 x
  rw [e]
  unfold B at *
  have hx := x.toNat_lt
  generalize x.toNat = n at *
  by_cases h0 : (n : Int) = 0
  · have h1 : ((n : Int) != 0) = false := by simp [h0]
    go_enter Tryz.func188, Tryz.ntmps188
    go_wp2
    go_ret
    exact ⟨ret_bool (by simp [h0]), rfl⟩
  · have h1 : ((n : Int) != 0) = true := by rw [bne_iff_ne]; exact h0
    go_enter Tryz.func188, Tryz.ntmps188
    go_wp2_with fail
    refine (unhide H).mono ?_
    rintro e w1 ⟨rfl, rfl⟩
    go_wp2
    go_ret
    exact ⟨ret_bool (by simp [h1]), rfl⟩
theorem leastFree_any {v : Value} {u : Us} {w : World} (h : Uls w v u) (most : Nat) (hl : u.length ≤ 1000000) : Calls Tryz.prog 119 #[v, I most, .func (.func 120) #[] #[]] w fun e w' => ∃ V, e = .returned V ∧ w'.ownsRow 0 3 1 V ((sel u frb).take most).length (((sel u frb).take most).map fun n => I n) ∧ (∀ k, V.ownBlock = some k → w.heap.size ≤ k) ∧ Below w.heap.size w w' := by
  obtain ⟨p, cap, rfl⟩ := owns_form h
  have H := hide h
  clear h
  go_enter Tryz.func119, Tryz.ntmps119
  go_wp2
  go_loopw [7, 11] (fun V i wr => ∃ k : Nat, k ≤ u.length ∧ i = .int .i64 k ∧ wr.ownsRow 0 3 1 V ((selk u frb k).take most).length (((selk u frb k).take most).map fun n => I n) ∧ (∀ k, V.ownBlock = some k → w.heap.size ≤ k) ∧ Below w.heap.size w wr) (fun _ i _ => u.length - (Go.RowKit.intOf i).toNat)
  case atStart => exact ⟨0, by omega, rfl, by simpa [selk] using owns_nil _ _ _, (fun _ hk => nomatch hk), Below.refl _ _⟩
  case round =>
    obtain ⟨k, hk, rfl, hr, hv, hb⟩ := hrel
    obtain ⟨q, cap2, hV⟩ := owns_form hr
    obtain ⟨nn, hnn⟩ : ∃ nn, nn = ((selk u frb k).take most).length := ⟨_, rfl⟩
    rw [← hnn] at hr hV
    subst hV
    have HNN := hide hnn
    by_cases hlt : k < u.length
    · have hlt' : (k : Int) < (u.length : Int) := by omega
      by_cases hf : nn = most
      · have HF := hide (sel_full u frb k most hk (hnn.symm.trans hf))
        have hfi : ((nn : Int) == (most : Int)) = true := by rw [beq_iff_eq]; omega
        have HR := hide (And.intro hr (And.intro hv hb))
        clear hr hv hb hnn hf
        go_wp2
        go_ret
        refine ⟨_, rfl, ?_⟩
        rw [unhide HF, ← unhide HNN]
        exact unhide HR
      · obtain ⟨es, en⟩ := sel_short u frb k most (fun e => hf (hnn.trans e))
        have hfi : ((nn : Int) == (most : Int)) = false := by rw [beq_eq_false_iff_ne]; omega
        have hn := selk_next u frb k
        rw [es] at hr hnn
        have hlen : nn ≤ k := by rw [hnn]; exact selk_len u frb k
        obtain ⟨g, cap', e, hg, hc⟩ := ((Uls.at (w := wr) (owns_below (unhide H) hb)) hlt)
        cases e
        have H1 := hide (fun W => isFree_any (u.getD k 0) W)
        unfold B at H1
        change Hid (∀ W, Calls Tryz.prog 120 #[.int .u8 ((u.getD k 0).toNat : Int)] W fun e w' => e = .returned (.bool (frb (u.getD k 0))) ∧ w' = W) at H1
        have hx := (u.getD k 0).toNat_lt
        have HN := hide hn
        have HEN := hide en
        have HR := hide hr
        have HV := hide hv
        have HB := hide hb
        have HNL := hide hnn
        clear hn en hr hv hb hf es hnn HNN
        generalize hL : selk u frb k = L at *
        clear hL
        by_cases h2 : 2 ≤ k
        · have h2' : (2 : Int) ≤ (k : Int) := by omega
          cases hp : frb (u.getD k 0)
          · rw [hp] at H1
            have hS : selk u frb (k + 1) = L := by rw [unhide HN, hp]; simp
            have HS := hide hS
            generalize (u.getD k 0).toNat = x at *
            clear hp hS
            go_wp2_with (go_at_call 120; refine (unhide H1 _).mono ?_; rintro e w2 ⟨rfl, hw⟩; rw [hw]; clear hw w2)
            go_roundw
            case rel => exact ⟨k + 1, by omega, by go_num, by rw [unhide HEN, unhide HS, ← unhide HNL]; exact unhide HR, unhide HV, unhide HB⟩
            case measure => simp [Go.RowKit.intOf]; omega
          · rw [hp] at H1
            have hS : selk u frb (k + 1) = L ++ [(k : Int)] := by rw [unhide HN, hp]; simp [h2]
            have HS := hide hS
            generalize (u.getD k 0).toNat = x at *
            clear hp hS
            go_wp2_with (first | (go_at_call 120; refine (unhide H1 _).mono ?_; rintro e w2 ⟨rfl, hw⟩; rw [hw]; clear hw w2) | (at_builtin; refine push_own 22 3 _ 1 8 Tryz.underlying22 info3 rfl (by decide) rfl (.tmp 28) (.tmp 30) rfl (.slice q nn cap2) nn (L.map fun n => I n) (by rfl) wr (unhide HR) [I k] rfl (by intro z hz; simp at hz; subst hz; rfl) (by rfl) (by omega) (by omega) ?_; intro p3 c3 w3 r3 o3 n3; have HR3 := hide r3; have HO3 := hide o3; have HN3 := hide n3; clear r3 o3 n3))
            go_roundw
            case rel =>
              refine ⟨k + 1, by omega, by go_num, ?_, fun i hi => ?_, (unhide HO3).below (unhide HB) (unhide HB).size (fun i hi => unhide HV i hi)⟩
              · rw [unhide HEN, unhide HS, List.length_append, List.map_append, ← unhide HNL]; exact unhide HR3
              · rcases unhide HN3 i hi with e | e
                · exact unhide HV i e
                · exact Nat.le_trans (unhide HB).size e
            case measure => simp [Go.RowKit.intOf]; omega
        · have h2' : ¬ (2 : Int) ≤ (k : Int) := by omega
          have hS : selk u frb (k + 1) = L := by rw [unhide HN]; simp [h2]
          have HS := hide hS
          clear hS
          go_wp2
          go_roundw
          case rel => exact ⟨k + 1, by omega, by go_num, by rw [unhide HEN, unhide HS, ← unhide HNL]; exact unhide HR, unhide HV, unhide HB⟩
          case measure => simp [Go.RowKit.intOf]; omega
    · have hlt' : ¬ (k : Int) < (u.length : Int) := by omega
      obtain rfl : k = u.length := by omega
      rw [hnn] at hr
      have HR := hide (And.intro hr (And.intro hv hb))
      clear hr hv hb hnn
      go_wp2
      go_ret
      refine ⟨_, rfl, ?_⟩
      have hfin := unhide HR
      rw [← unhide HNN] at hfin
      have e0 := unhide HNN
      unfold sel
      first | exact hfin | (rw [← e0]; exact hfin) | (simp at e0 hfin ⊢; rw [← e0]; exact hfin)
theorem leastReached_any {v : Value} {u : Us} {w : World} (h : Uls w v u) (most : Nat) (hl : u.length ≤ 1000000) : Calls Tryz.prog 119 #[v, I most, .func (.func 187) #[] #[]] w fun e w' => ∃ V, e = .returned V ∧ w'.ownsRow 0 3 1 V ((sel u rcb).take most).length (((sel u rcb).take most).map fun n => I n) ∧ (∀ k, V.ownBlock = some k → w.heap.size ≤ k) ∧ Below w.heap.size w w' := by
  obtain ⟨p, cap, rfl⟩ := owns_form h
  have H := hide h
  clear h
  go_enter Tryz.func119, Tryz.ntmps119
  go_wp2
  go_loopw [7, 11] (fun V i wr => ∃ k : Nat, k ≤ u.length ∧ i = .int .i64 k ∧ wr.ownsRow 0 3 1 V ((selk u rcb k).take most).length (((selk u rcb k).take most).map fun n => I n) ∧ (∀ k, V.ownBlock = some k → w.heap.size ≤ k) ∧ Below w.heap.size w wr) (fun _ i _ => u.length - (Go.RowKit.intOf i).toNat)
  case atStart => exact ⟨0, by omega, rfl, by simpa [selk] using owns_nil _ _ _, (fun _ hk => nomatch hk), Below.refl _ _⟩
  case round =>
    obtain ⟨k, hk, rfl, hr, hv, hb⟩ := hrel
    obtain ⟨q, cap2, hV⟩ := owns_form hr
    obtain ⟨nn, hnn⟩ : ∃ nn, nn = ((selk u rcb k).take most).length := ⟨_, rfl⟩
    rw [← hnn] at hr hV
    subst hV
    have HNN := hide hnn
    by_cases hlt : k < u.length
    · have hlt' : (k : Int) < (u.length : Int) := by omega
      by_cases hf : nn = most
      · have HF := hide (sel_full u rcb k most hk (hnn.symm.trans hf))
        have hfi : ((nn : Int) == (most : Int)) = true := by rw [beq_iff_eq]; omega
        have HR := hide (And.intro hr (And.intro hv hb))
        clear hr hv hb hnn hf
        go_wp2
        go_ret
        refine ⟨_, rfl, ?_⟩
        rw [unhide HF, ← unhide HNN]
        exact unhide HR
      · obtain ⟨es, en⟩ := sel_short u rcb k most (fun e => hf (hnn.trans e))
        have hfi : ((nn : Int) == (most : Int)) = false := by rw [beq_eq_false_iff_ne]; omega
        have hn := selk_next u rcb k
        rw [es] at hr hnn
        have hlen : nn ≤ k := by rw [hnn]; exact selk_len u rcb k
        obtain ⟨g, cap', e, hg, hc⟩ := ((Uls.at (w := wr) (owns_below (unhide H) hb)) hlt)
        cases e
        have H1 := hide (fun W => isReached_any (u.getD k 0) W)
        unfold B at H1
        change Hid (∀ W, Calls Tryz.prog 187 #[.int .u8 ((u.getD k 0).toNat : Int)] W fun e w' => e = .returned (.bool (rcb (u.getD k 0))) ∧ w' = W) at H1
        have hx := (u.getD k 0).toNat_lt
        have HN := hide hn
        have HEN := hide en
        have HR := hide hr
        have HV := hide hv
        have HB := hide hb
        have HNL := hide hnn
        clear hn en hr hv hb hf es hnn HNN
        generalize hL : selk u rcb k = L at *
        clear hL
        by_cases h2 : 2 ≤ k
        · have h2' : (2 : Int) ≤ (k : Int) := by omega
          cases hp : rcb (u.getD k 0)
          · rw [hp] at H1
            have hS : selk u rcb (k + 1) = L := by rw [unhide HN, hp]; simp
            have HS := hide hS
            generalize (u.getD k 0).toNat = x at *
            clear hp hS
            go_wp2_with (go_at_call 187; refine (unhide H1 _).mono ?_; rintro e w2 ⟨rfl, hw⟩; rw [hw]; clear hw w2)
            go_roundw
            case rel => exact ⟨k + 1, by omega, by go_num, by rw [unhide HEN, unhide HS, ← unhide HNL]; exact unhide HR, unhide HV, unhide HB⟩
            case measure => simp [Go.RowKit.intOf]; omega
          · rw [hp] at H1
            have hS : selk u rcb (k + 1) = L ++ [(k : Int)] := by rw [unhide HN, hp]; simp [h2]
            have HS := hide hS
            generalize (u.getD k 0).toNat = x at *
            clear hp hS
            go_wp2_with (first | (go_at_call 187; refine (unhide H1 _).mono ?_; rintro e w2 ⟨rfl, hw⟩; rw [hw]; clear hw w2) | (at_builtin; refine push_own 22 3 _ 1 8 Tryz.underlying22 info3 rfl (by decide) rfl (.tmp 28) (.tmp 30) rfl (.slice q nn cap2) nn (L.map fun n => I n) (by rfl) wr (unhide HR) [I k] rfl (by intro z hz; simp at hz; subst hz; rfl) (by rfl) (by omega) (by omega) ?_; intro p3 c3 w3 r3 o3 n3; have HR3 := hide r3; have HO3 := hide o3; have HN3 := hide n3; clear r3 o3 n3))
            go_roundw
            case rel =>
              refine ⟨k + 1, by omega, by go_num, ?_, fun i hi => ?_, (unhide HO3).below (unhide HB) (unhide HB).size (fun i hi => unhide HV i hi)⟩
              · rw [unhide HEN, unhide HS, List.length_append, List.map_append, ← unhide HNL]; exact unhide HR3
              · rcases unhide HN3 i hi with e | e
                · exact unhide HV i e
                · exact Nat.le_trans (unhide HB).size e
            case measure => simp [Go.RowKit.intOf]; omega
        · have h2' : ¬ (2 : Int) ≤ (k : Int) := by omega
          have hS : selk u rcb (k + 1) = L := by rw [unhide HN]; simp [h2]
          have HS := hide hS
          clear hS
          go_wp2
          go_roundw
          case rel => exact ⟨k + 1, by omega, by go_num, by rw [unhide HEN, unhide HS, ← unhide HNL]; exact unhide HR, unhide HV, unhide HB⟩
          case measure => simp [Go.RowKit.intOf]; omega
    · have hlt' : ¬ (k : Int) < (u.length : Int) := by omega
      obtain rfl : k = u.length := by omega
      rw [hnn] at hr
      have HR := hide (And.intro hr (And.intro hv hb))
      clear hr hv hb hnn
      go_wp2
      go_ret
      refine ⟨_, rfl, ?_⟩
      have hfin := unhide HR
      rw [← unhide HNN] at hfin
      have e0 := unhide HNN
      unfold sel
      first | exact hfin | (rw [← e0]; exact hfin) | (simp at e0 hfin ⊢; rw [← e0]; exact hfin)
end Go.Proofs.YtjopnhhdemfniaaGreatDoor
namespace Go.Proofs.YtjopnhhdemfniaaGreatDoor
open Go.RowKit
set_option maxHeartbeats 4000000
set_option maxRecDepth 8000
/-- Links, read one by one. -/
def lkF : Nat → Bs × Nat → List Int × (Bs × Nat)
  | 0, s => ([], s)
  | n + 1, s => ((lkF n s).1 ++ [rv 4 (lkF n s).2], rs 4 (lkF n s).2)
theorem lkF_len (n : Nat) (s : Bs × Nat) : (lkF n s).1.length = n := by
  induction n with
  | zero => rfl
  | succ n ih => simp [lkF, ih]
theorem rs_len (size : Nat) (s : Bs × Nat) : (rs size s).1.length ≤ s.1.length := rGo_len _ _ _ _
theorem lkF_short (n : Nat) (s : Bs × Nat) : (lkF n s).2.1.length ≤ s.1.length := by
  induction n with
  | zero => exact Nat.le_refl _
  | succ n ih => exact Nat.le_trans (rs_len 4 _) ih
theorem rv_lo (size : Nat) (s : Bs × Nat) : 0 ≤ rv size s := by
  unfold rv; split <;> omega
theorem rv_hi (size : Nat) (s : Bs × Nat) : rv size s < 256 ^ size := by
  unfold rv
  have h := nat_lt (s.1.take size)
  have h2 : 256 ^ (s.1.take size).length ≤ 256 ^ size := Nat.pow_le_pow_right (by decide) (by simp; omega)
  have h3 : ((256 ^ size : Nat) : Int) = (256 : Int) ^ size := by simp
  have h4 : (0 : Int) < (256 : Int) ^ size := by rw [← h3]; exact Int.ofNat_lt.2 (Nat.pow_pos (by decide))
  split <;> omega
def q1 (s : Bs) : Bs × Nat := rr2 2 (s, 0)
def q2 (s : Bs) : Bs × Nat := rs 1 (q1 s)
def q3 (s : Bs) : Bs × Nat := rs 1 (q2 s)
def q4 (s : Bs) : Bs × Nat := rs 4 (q3 s)
def q5 (s : Bs) : Bs × Nat := rs 8 (q4 s)
def q6 (s : Bs) : Bs × Nat := rs 2 (q5 s)
def q7 (s : Bs) : Bs × Nat := rs 2 (q6 s)
def qn (s : Bs) : Nat := (rv 1 (q2 s)).toNat
/-- What the program reads of a block. -/
def gP (s : Bs) : Pg := ⟨rv 1 (q1 s), rv 4 (q3 s), rv 8 (q4 s), (lkF (qn s) (q7 s)).1, ra (rv 2 (q5 s)) (lkF (qn s) (q7 s)).2⟩
theorem rs_ok (a c : Bs) (size : Nat) (h1 : 1 ≤ size) (h8 : size ≤ 8) (ha : a.length = size) (hb : nat a < 9223372036854775808) : rv size (a ++ c, 0) = nat a ∧ rs size (a ++ c, 0) = (c, 0) := by
  have e : rNumE size (a ++ c) = 0 := by
    unfold rNumE
    rw [if_pos ⟨by omega, by omega⟩, if_neg (by simp; omega), if_neg]
    rintro ⟨q, q2⟩
    have q : size = 8 := by omega
    subst q
    have := (nat_first a ha).1 hb
    have e2 : (a ++ c).getD 0 0 = a.getD 0 0 := by
      rw [List.getD_eq_getElem?_getD, List.getD_eq_getElem?_getD, List.getElem?_append_left (by omega)]
    rw [e2] at q2
    omega
  unfold rv rs
  simp only
  rw [e, rGo_ok]
  subst ha
  simp [fine]
theorem lkF_lks (l : List Int) (c : Bs) (h : l.all isPg = true) (k : Nat) (hk : k ≤ l.length) : lkF k (lks l ++ c, 0) = (l.take k, (lks (l.drop k) ++ c, 0)) := by
  induction k with
  | zero => simp [lkF]
  | succ k ih =>
    have hk' : k < l.length := by omega
    obtain ⟨g1, g2⟩ := all_at l h k hk'
    have e : l.drop k = l.getD k 0 :: l.drop (k + 1) := by
      rw [List.drop_eq_getElem_cons hk']; simp [hk']
    have e2 : lks (l.drop k) ++ c = be 4 (l.getD k 0).toNat ++ (lks (l.drop (k + 1)) ++ c) := by
      rw [e]; simp [lks]
    have e3 : nat (be 4 (l.getD k 0).toNat) = (l.getD k 0).toNat := by rw [nat_be, Nat.mod_eq_of_lt]; omega
    obtain ⟨a1, a2⟩ := rs_ok (be 4 (l.getD k 0).toNat) (lks (l.drop (k + 1)) ++ c) 4 (by omega) (by omega) (be_len _ _) (by rw [e3]; omega)
    simp only [lkF]
    rw [ih (by omega)]
    simp only
    rw [e2, a1, a2, e3]
    refine Prod.ext ?_ rfl
    simp only
    rw [List.take_succ_eq_append_getElem hk']
    congr 2
    have : l.getD k 0 = l[k] := by simp [hk']
    rw [← this]
    omega
/-- A block of a page is read as that page. -/
theorem gP_blk (p : Pg) (h : p.may = true) : gP p.blk = p := by
  have hr := Pg.fresh_room (Pg.may_fresh h)
  have hm := h
  obtain ⟨k, n, b, l, x⟩ := p
  simp only [Pg.may, Pg.fresh, isPg, isGn, Bool.and_eq_true, decide_eq_true_eq] at h hr
  obtain ⟨⟨b1, b2⟩, ⟨⟨⟨h1, h2⟩, h3⟩, n1, n2⟩, hl⟩ := h
  generalize hs : Pg.blk ⟨k, n, b, l, x⟩ = s
  have F := Pg.form ⟨k, n, b, l, x⟩
  rw [hs] at F
  generalize (List.replicate (508 - (Pg.text ⟨k, n, b, l, x⟩).length) 0 ++ be 4 (crc (fil (Pg.text ⟨k, n, b, l, x⟩) 508)).toNat) = z at F
  simp only at F
  have f1 : q1 s = (be 1 k.toNat ++ (be 1 l.length ++ (be 4 n.toNat ++ (be 8 b.toNat ++ (be 2 x.length ++ (be 2 0 ++ (lks l ++ (x ++ z))))))), 0) := by
    unfold q1 rr2
    rw [F]
    simp [rRawE, rGo]
    omega
  have e1 : nat (be 1 k.toNat) = k.toNat := by rw [nat_be, Nat.mod_eq_of_lt]; omega
  have e2 : nat (be 1 l.length) = l.length := by rw [nat_be, Nat.mod_eq_of_lt]; omega
  have e3 : nat (be 4 n.toNat) = n.toNat := by rw [nat_be, Nat.mod_eq_of_lt]; omega
  have e4 : nat (be 8 b.toNat) = b.toNat := by rw [nat_be, Nat.mod_eq_of_lt]; omega
  have e5 : nat (be 2 x.length) = x.length := by rw [nat_be, Nat.mod_eq_of_lt]; omega
  have e6 : nat (be 2 0) = 0 := by rw [nat_be]
  obtain ⟨v1, f2⟩ := rs_ok (be 1 k.toNat) (be 1 l.length ++ (be 4 n.toNat ++ (be 8 b.toNat ++ (be 2 x.length ++ (be 2 0 ++ (lks l ++ (x ++ z))))))) 1 (by omega) (by omega) (be_len _ _) (by rw [e1]; omega)
  obtain ⟨v2, f3⟩ := rs_ok (be 1 l.length) (be 4 n.toNat ++ (be 8 b.toNat ++ (be 2 x.length ++ (be 2 0 ++ (lks l ++ (x ++ z)))))) 1 (by omega) (by omega) (be_len _ _) (by rw [e2]; omega)
  obtain ⟨v3, f4⟩ := rs_ok (be 4 n.toNat) (be 8 b.toNat ++ (be 2 x.length ++ (be 2 0 ++ (lks l ++ (x ++ z))))) 4 (by omega) (by omega) (be_len _ _) (by rw [e3]; omega)
  obtain ⟨v4, f5⟩ := rs_ok (be 8 b.toNat) (be 2 x.length ++ (be 2 0 ++ (lks l ++ (x ++ z)))) 8 (by omega) (by omega) (be_len _ _) (by rw [e4]; omega)
  obtain ⟨v5, f6⟩ := rs_ok (be 2 x.length) (be 2 0 ++ (lks l ++ (x ++ z))) 2 (by omega) (by omega) (be_len _ _) (by rw [e5]; omega)
  obtain ⟨v6, f7⟩ := rs_ok (be 2 0) (lks l ++ (x ++ z)) 2 (by omega) (by omega) (be_len _ _) (by rw [e6]; omega)
  have g2 := (show q2 s = rs 1 (q1 s) from rfl).trans ((congrArg (rs 1) f1).trans f2)
  have g3 := (show q3 s = rs 1 (q2 s) from rfl).trans ((congrArg (rs 1) g2).trans f3)
  have g4 := (show q4 s = rs 4 (q3 s) from rfl).trans ((congrArg (rs 4) g3).trans f4)
  have g5 := (show q5 s = rs 8 (q4 s) from rfl).trans ((congrArg (rs 8) g4).trans f5)
  have g6 := (show q6 s = rs 2 (q5 s) from rfl).trans ((congrArg (rs 2) g5).trans f6)
  have g7 := (show q7 s = rs 2 (q6 s) from rfl).trans ((congrArg (rs 2) g6).trans f7)
  have gn : qn s = l.length := by unfold qn; rw [g2, v2, e2]; omega
  have fl := lkF_lks l (x ++ z) hl l.length (Nat.le_refl _)
  rw [List.take_length, List.drop_length] at fl
  have er : rRawE (x.length : Int) (x ++ z) = 0 := by
    unfold rRawE
    rw [if_neg (by omega), if_neg (by simp; omega)]
  have eb : ra (x.length : Int) (lks [] ++ (x ++ z), 0) = x := by
    unfold ra
    simp only [lks, List.flatMap_nil, List.nil_append]
    rw [er]
    simp [fine]
  unfold gP
  rw [gn, g7, fl, f1, g3, g4, g5, v1, v3, v4, v5, e1, e3, e4, e5]
  simp only
  rw [eb, Int.toNat_of_nonneg (by omega), Int.toNat_of_nonneg (by omega), Int.toNat_of_nonneg (by omega)]
end Go.Proofs.YtjopnhhdemfniaaGreatDoor
namespace Go.Proofs.YtjopnhhdemfniaaGreatDoor
open Go.RowKit
set_option maxHeartbeats 8000000
set_option maxRecDepth 8000
/-- While a page is read: its box T, its links' row v, the Reader b, g. -/
structure Gd (w0 : World) (T b g : Nat) (k n bi : Int) (x : Bs) (L : List Int) (v : Value) (s : Bs × Nat) (w : World) : Prop where
  blk : w.heap[T]? = some (.cells #[I k, I n, I bi, v, S x] 24 (0, 0))
  row : w.ownsRow 0 3 1 v L.length (L.map fun z => I z)
  rd : Rd w0 b g s w
  hT : w0.heap.size ≤ T
  hv : ∀ i, v.ownBlock = some i → w0.heap.size ≤ i
  gT : g ≠ T
  gv : v.ownBlock ≠ some g
theorem Gd.bT {w0 : World} {T b g : Nat} {k n bi : Int} {x : Bs} {L : List Int} {v : Value} {s : Bs × Nat} {w : World} (h : Gd w0 T b g k n bi x L v s w) : b ≠ T := by
  obtain ⟨⟨off, cap, h1⟩, _⟩ := h.rd
  intro e
  have := h1.row
  rw [e, h.blk] at this
  cases this
theorem Gd.bv {w0 : World} {T b g : Nat} {k n bi : Int} {x : Bs} {L : List Int} {v : Value} {s : Bs × Nat} {w : World} (h : Gd w0 T b g k n bi x L v s w) : v.ownBlock ≠ some b := by
  obtain ⟨⟨off, cap, h1⟩, _⟩ := h.rd
  intro e
  obtain ⟨cs, q⟩ := owns_lt h.row b e
  have := h1.row
  rw [q] at this
  cases this
theorem Gd.vT {w0 : World} {T b g : Nat} {k n bi : Int} {x : Bs} {L : List Int} {v : Value} {s : Bs × Nat} {w : World} (h : Gd w0 T b g k n bi x L v s w) : v.ownBlock ≠ some T := by
  intro e
  obtain ⟨cs, q⟩ := owns_lt h.row T e
  have := h.blk
  rw [q] at this
  cases this
theorem Gd.read {w0 : World} {T b g : Nat} {k n bi : Int} {x : Bs} {L : List Int} {v : Value} {s s' : Bs × Nat} {w w' : World} (h : Gd w0 T b g k n bi x L v s w) (h2 : Rd w0 b g s' w') (o : Only (fun k => k = b) w w') : Gd w0 T b g k n bi x L v s' w' :=
  ⟨(o.block T (lt_of_row h.blk) (Ne.symm h.bT)).trans h.blk, owns_only h.row o (fun i hi e => h.bv (by rw [hi, e])), h2, h.hT, h.hv, h.gT, h.gv⟩
theorem Gd.below {w0 : World} {T b g : Nat} {k n bi : Int} {x : Bs} {L : List Int} {v : Value} {s : Bs × Nat} {w w' : World} (h : Gd w0 T b g k n bi x L v s w) (q : Below w.heap.size w w') : Gd w0 T b g k n bi x L v s w' :=
  ⟨(q.block T (lt_of_row h.blk)).trans h.blk, owns_below h.row q, h.rd.keep (Only.of_below (P := fun _ => False) q) (fun q => q) (fun q => q) (fun _ q => q.elim), h.hT, h.hv, h.gT, h.gv⟩
theorem Gd.cells {w0 : World} {T b g : Nat} {k n bi : Int} {x : Bs} {L : List Int} {v : Value} {s : Bs × Nat} {w : World} (h : Gd w0 T b g k n bi x L v s w) : w.cell? ⟨T, 0, none⟩ = some (I k) ∧ w.cell? ⟨T, 1, none⟩ = some (I n) ∧ w.cell? ⟨T, 2, none⟩ = some (I bi) ∧ w.cell? ⟨T, 3, none⟩ = some v ∧ w.cell? ⟨T, 4, none⟩ = some (S x) :=
  box5 h.blk (Below.refl (w.heap.size) w) (lt_of_row h.blk)
/-- A cell of the box is written. -/
theorem Gd.set {w0 : World} {T b g : Nat} {k n bi k' n' bi' : Int} {x x' : Bs} {L L' : List Int} {v v' : Value} {s : Bs × Nat} {w : World} (h : Gd w0 T b g k n bi x L v s w) (j : Nat) (u : Value) (hc : (#[I k, I n, I bi, v, S x] : Array Value).setIfInBounds j u = #[I k', I n', I bi', v', S x']) (hr : w.ownsRow 0 3 1 v' L'.length (L'.map fun z => I z)) (hv : ∀ i, v'.ownBlock = some i → w0.heap.size ≤ i) (gv : v'.ownBlock ≠ some g) : Gd w0 T b g k' n' bi' x' L' v' s (w.setCell ⟨T, j, none⟩ u) := by
  have o := Only.setCell w ⟨T, j, none⟩ u
  refine ⟨?_, owns_only hr o (fun i hi e => ?_), h.rd.keep o (fun e => h.bT e) (fun e => h.gT e) (fun i e => by rw [e]; exact h.hT), h.hT, hv, h.gT, gv⟩
  · rw [heap_setCell_same w T j _ 24 u h.blk, hc]
  · obtain ⟨cs, q⟩ := owns_lt hr i hi
    rw [show i = T from e, h.blk] at q
    cases q
/-- The links grow by one. -/
theorem Gd.push {w0 : World} {T b g : Nat} {k n bi : Int} {x : Bs} {L : List Int} {v v' : Value} {s : Bs × Nat} {w w1 : World} (h : Gd w0 T b g k n bi x L v s w) (z : Int) (hr : w1.ownsRow 0 3 1 v' (L.length + 1) ((L.map fun z => I z) ++ [I z])) (o : Only (fun i => v.ownBlock = some i) w w1) (hn : ∀ i, v'.ownBlock = some i → v.ownBlock = some i ∨ w.heap.size ≤ i) : Gd w0 T b g k n bi x (L ++ [z]) v' s (w1.setCell ⟨T, 3, none⟩ v') := by
  have hrd := h.rd
  obtain ⟨⟨off, cap, q1⟩, q2, q3, q4⟩ := h.rd
  have h1 : Gd w0 T b g k n bi x L v s w1 → False ∨ True := fun _ => .inr trivial
  have hgl : g < w.heap.size := q1.bys.lt
  have hT1 := (o.block T (lt_of_row h.blk) h.vT).trans h.blk
  have rd1 : Rd w0 b g s w1 := hrd.keep o h.bv h.gv h.hv
  have o2 := Only.setCell w1 ⟨T, 3, none⟩ v'
  refine ⟨?_, ?_, rd1.keep o2 (fun e => h.bT e) (fun e => h.gT e) (fun i e => by rw [e]; exact h.hT), h.hT, fun i hi => ?_, h.gT, fun e => ?_⟩
  · rw [heap_setCell_same w1 T 3 _ 24 v' hT1]; rfl
  · rw [List.length_append, List.map_append]
    refine owns_only hr o2 (fun i hi e => ?_)
    obtain ⟨cs, q⟩ := owns_lt hr i hi
    rw [show i = T from e, hT1] at q
    cases q
  · rcases hn i hi with e | e
    · exact h.hv i e
    · have := q2.size; omega
  · rcases hn g e with e | e
    · exact h.gv e
    · omega
theorem loadVar24 (b : Nat) (x0 x1 x2 x3 x4 : Value) (W : World) (h0 : W.cell? ⟨b, 0, none⟩ = some x0) (h1 : W.cell? ⟨b, 1, none⟩ = some x1) (h2 : W.cell? ⟨b, 2, none⟩ = some x2) (h3 : W.cell? ⟨b, 3, none⟩ = some x3) (h4 : W.cell? ⟨b, 4, none⟩ = some x4) : (loadVar 24 ⟨b, 0, none⟩).run Tryz.prog W = .ok (.agg #[x0, x1, x2, x3, x4]) W := by
  have hl : (loadCells ⟨b, 0, none⟩ 5).run Tryz.prog W = .ok #[x0, x1, x2, x3, x4] W := by
    have := run_loadCells_list (P := Tryz.prog) W ⟨b, 0, none⟩ [x0, x1, x2, x3, x4] (fun j v hv => by
      match j, hv with
      | 0, hv => simp at hv; subst hv; simpa [Addr.add] using h0
      | 1, hv => simp at hv; subst hv; simpa [Addr.add] using h1
      | 2, hv => simp at hv; subst hv; simpa [Addr.add] using h2
      | 3, hv => simp at hv; subst hv; simpa [Addr.add] using h3
      | 4, hv => simp at hv; subst hv; simpa [Addr.add] using h4
      | (j + 5), hv => simp at hv)
    simpa using this
  simp [loadVar, Tryz.isAgg24, Tryz.sizeOf24, hl, Result.andThen]
theorem results_p1 {fn : Func} {p : Tmp} (h : fn.results = #[.cell p 24]) (tmps : Array Value) (w : World) (b : Nat) (x0 x1 x2 x3 x4 : Value) (ht : tmps.getD p undef = .pointer (some ⟨b, 0, none⟩)) (h0 : w.cell? ⟨b, 0, none⟩ = some x0) (h1 : w.cell? ⟨b, 1, none⟩ = some x1) (h2 : w.cell? ⟨b, 2, none⟩ = some x2) (h3 : w.cell? ⟨b, 3, none⟩ = some x3) (h4 : w.cell? ⟨b, 4, none⟩ = some x4) :
    (results fn tmps).run Tryz.prog w = .ok (.agg #[x0, x1, x2, x3, x4]) w := by
  have ht' : tmps[p]?.getD undef = .pointer (some ⟨b, 0, none⟩) := by simpa using ht
  simp only [results, h]
  simp [ht', asAddr, loadVar24 b x0 x1 x2 x3 x4 w h0 h1 h2 h3 h4]
theorem results_p2 {fn : Func} {p q : Tmp} (h : fn.results = #[.cell p 24, .tmp q]) (tmps : Array Value) (w : World) (b : Nat) (x0 x1 x2 x3 x4 : Value) (ht : tmps.getD p undef = .pointer (some ⟨b, 0, none⟩)) (h0 : w.cell? ⟨b, 0, none⟩ = some x0) (h1 : w.cell? ⟨b, 1, none⟩ = some x1) (h2 : w.cell? ⟨b, 2, none⟩ = some x2) (h3 : w.cell? ⟨b, 3, none⟩ = some x3) (h4 : w.cell? ⟨b, 4, none⟩ = some x4) :
    (results fn tmps).run Tryz.prog w = .ok (.tuple #[.agg #[x0, x1, x2, x3, x4], tmps.getD q undef]) w := by
  have ht' : tmps[p]?.getD undef = .pointer (some ⟨b, 0, none⟩) := by simpa using ht
  simp only [results, h]
  simp [ht', asAddr, loadVar24 b x0 x1 x2 x3 x4 w h0 h1 h2 h3 h4]
theorem info24s : (Tryz.prog.info? 24).map (·.size) = some 5 := by kernel_rfl
/-- A page is laid into its box. -/
theorem wp_st24 {ops : Array Oper} {rest : List Oper} {o : Oper} {a : Act} {w : World} {Q : Exit → Act → World → Prop} (hgd : o.guard = none) (x y : Operand) (ho : o.op = .store 24 x y)
    (P : Nat) (hx : a.eval x = .pointer (some ⟨P, 0, none⟩)) (k n b : Int) (p : Option Addr) (m c : Nat) (s : Bs) (hy : a.eval y = .agg #[I k, I n, I b, .slice p m c, S s]) (old : Array Value) (ho5 : old.size = 5)
    (hg : w.heap[P]? = some (.cells old 24 (0, 0)))
    (h : wpList Tryz.prog ops Q rest (a.put o.dst undef) (w.setRow P #[I k, I n, I b, .slice p m c, S s])) : wpList Tryz.prog ops Q (o :: rest) a w :=
  wpList_store_row hgd 24 x y ho P _ hx hy 24 old hg info24s (by rw [ho5]; rfl) (by simp [Value.oneCell']) h
theorem setRow_only' (w : World) (g : Nat) (cs : Array Value) : Only (fun k => k = g) w (w.setRow g cs) :=
  ⟨rfl, rfl, rfl, by simp [World.setRow], fun k _ hp => setRow_other w g k cs hp⟩
end Go.Proofs.YtjopnhhdemfniaaGreatDoor
namespace Go.Proofs.YtjopnhhdemfniaaGreatDoor
open Go.RowKit
set_option maxHeartbeats 16000000
set_option maxRecDepth 8000
theorem guess_any (s : Bs) (w : World) (hs : s.length = 512) :
    Calls Tryz.prog 136 #[S s] w fun e w' => ∃ v, e = .returned (.agg #[I (gP s).kind, I (gP s).number, I (gP s).birth, v, S (gP s).body]) ∧ w'.ownsRow 0 3 1 v (gP s).links.length ((gP s).links.map fun z => I z) ∧ (∀ k, v.ownBlock = some k → w.heap.size ≤ k) ∧ Below w.heap.size w w' := by
  have l1 : (q1 s).1.length ≤ 1000 := Nat.le_trans (rGo_len _ _ _ _) (by simp [hs])
  have l2 : (q2 s).1.length ≤ 1000 := Nat.le_trans (rs_len _ _) l1
  have l3 : (q3 s).1.length ≤ 1000 := Nat.le_trans (rs_len _ _) l2
  have l4 : (q4 s).1.length ≤ 1000 := Nat.le_trans (rs_len _ _) l3
  have l5 : (q5 s).1.length ≤ 1000 := Nat.le_trans (rs_len _ _) l4
  have l6 : (q6 s).1.length ≤ 1000 := Nat.le_trans (rs_len _ _) l5
  have l7 : (q7 s).1.length ≤ 1000 := Nat.le_trans (rs_len _ _) l6
  have ln0 := rv_lo 1 (q2 s)
  have ln1 := rv_hi 1 (q2 s)
  have hq : qn s = (rv 1 (q2 s)).toNat := rfl
  have LF := fun k => Nat.le_trans (lkF_short k (q7 s)) l7
  unfold gP
  simp only
  have Z0 := hide (heap_alloc_new w (.cells #[I 0, I 0, I 0, .slice none 0 0, S []] 24))
  have ZB := hide ((Below.refl w.heap.size w).alloc (Nat.le_refl _) (.cells #[I 0, I 0, I 0, .slice none 0 0, S []] 24))
  have ZL := hide (lt_of_row (unhide Z0))
  have H0 := hide (Rd.new s (w.alloc (.cells #[I 0, I 0, I 0, .slice none 0 0, S []] 24)))
  go_enter Tryz.func136, Tryz.ntmps136
  go_wp2_with fail
  refine (unhide H0).mono ?_
  rintro e w1 ⟨b, g, rfl, h1⟩
  generalize hW0 : w.alloc (.cells #[I 0, I 0, I 0, .slice none 0 0, S []] 24) = W0 at *
  clear hW0
  have H1 := hide (h1.raw 2 (by simp [hs]))
  clear h1
  go_wp2_with fail
  refine (unhide H1).mono ?_
  rintro e w2 ⟨rfl, h2, -⟩
  have H2 := hide (h2.num 1 l1)
  clear h2
  go_wp2_with fail
  refine (unhide H2).mono ?_
  rintro e w3 ⟨rfl, h3, -⟩
  change Rd W0 b g (q2 s) w3 at h3
  have e1 : rv 1 (rr2 2 (s, 0)) = rv 1 (q1 s) := rfl
  rw [e1]
  generalize hHK : rv 1 (q1 s) = K at *
  have HK := hide hHK
  clear hHK
  clear e1
  have G3 : Gd W0 w3.heap.size b g K 0 0 [] [] (.slice none 0 0) (q2 s) (w3.alloc (.cells #[I K, I 0, I 0, .slice none 0 0, S []] 24)) := by
    obtain ⟨⟨off, cap, r1⟩, r2, r3, r4⟩ := h3
    have o := Only.alloc (fun _ => False) w3 (.cells #[I K, I 0, I 0, .slice none 0 0, S []] 24)
    refine ⟨heap_alloc_new _ _, owns_nil _ _ _, Rd.keep (P := fun _ => False) ⟨⟨off, cap, r1⟩, r2, r3, r4⟩ o (fun q => q) (fun q => q) (fun _ q => q.elim), r2.size, (fun i hi => nomatch hi), ?_, (fun q => nomatch q)⟩
    have := r1.bys.lt
    omega
  have HG3 := hide G3
  have H3 := hide (G3.rd.num 1 l2)
  clear G3 h3
  go_wp2_with fail
  refine (unhide H3).mono ?_
  rintro e w4 ⟨rfl, h4, o4⟩
  have G4 := (unhide HG3).read h4 o4
  change Gd W0 w3.heap.size b g K 0 0 [] [] (.slice none 0 0) (q3 s) w4 at G4
  clear h4 o4 HG3
  generalize hT : w3.heap.size = T at *
  clear hT
  generalize hlk : rv 1 (q2 s) = lk at *
  have H4 := hide (G4.rd.num 4 l3)
  have HG4 := hide G4
  clear G4
  go_wp2_with fail
  refine (unhide H4).mono ?_
  rintro e w5 ⟨rfl, h5, o5⟩
  have G5 := (unhide HG4).read h5 o5
  change Gd W0 T b g K 0 0 [] [] (.slice none 0 0) (q4 s) w5 at G5
  clear h5 o5 HG4
  generalize hHNm : rv 4 (q3 s) = Nm at *
  have HNm := hide hHNm
  clear hHNm
  have H5 := hide (G5.rd.num 8 l4)
  have HG5 := hide G5
  clear G5
  go_wp2_with fail
  refine (unhide H5).mono ?_
  rintro e w6 ⟨rfl, h6, o6⟩
  have G6 := (unhide HG5).read h6 o6
  change Gd W0 T b g K 0 0 [] [] (.slice none 0 0) (q5 s) w6 at G6
  clear h6 o6 HG5
  generalize hHBi : rv 8 (q4 s) = Bi at *
  have HBi := hide hHBi
  clear hHBi
  have G7 := G6.set (k' := K) (n' := Nm) (bi' := 0) (x' := []) (L' := []) (v' := .slice none 0 0) 1 (I Nm) rfl (owns_nil _ _ _) G6.hv G6.gv
  have G8 := G7.set (k' := K) (n' := Nm) (bi' := Bi) (x' := []) (L' := []) (v' := .slice none 0 0) 2 (I Bi) rfl (owns_nil _ _ _) G7.hv G7.gv
  obtain ⟨d0, d1, d2, d3, d4⟩ := G6.cells
  have f0 := frz G6.blk
  have f1 := f0 1
  have f2 := f0 2
  have H6 := hide (G8.rd.num 2 l5)
  have HG8 := hide G8
  clear G6 G7 G8 f0
  go_wp2_with fail
  refine (unhide H6).mono ?_
  rintro e w7 ⟨rfl, h7, o7⟩
  have G7 := (unhide HG8).read h7 o7
  change Gd W0 T b g K Nm Bi [] [] (.slice none 0 0) (q6 s) w7 at G7
  clear h7 o7 HG8 d0 d1 d2 d3 d4 f1 f2
  generalize hHSz : rv 2 (q5 s) = Sz at *
  have HSz := hide hHSz
  clear hHSz
  have H7 := hide (G7.rd.num 2 l6)
  have HG7 := hide G7
  clear G7
  go_wp2_with fail
  refine (unhide H7).mono ?_
  rintro e w8 ⟨rfl, h8, o8⟩
  have G8 := (unhide HG7).read h8 o8
  change Gd W0 T b g K Nm Bi [] [] (.slice none 0 0) (q7 s) w8 at G8
  clear h8 o8 HG7
  have HG8 := hide G8
  clear G8
  have hlk2 : lk = ((qn s : Nat) : Int) := by rw [hq]; omega
  have hq255 : qn s < 256 := by omega
  subst hlk2
  generalize hHQn : qn s = n at *
  have HQn := hide hHQn
  clear hHQn
  clear hlk hq l1 l2 l3 l4 l5 l6 l7 H0 H1 H2 H3 H4 H5 H6 H7 ln0 ln1
  generalize hHQ7 : q7 s = s7 at *
  have HQ7 := hide hHQ7
  clear hHQ7
  go_wp2
  go_loopw [27] (fun i wr => ∃ k : Nat, k ≤ n ∧ i = .int .i64 k ∧ ∃ v, Gd W0 T b g K Nm Bi [] (lkF k s7).1 v (lkF k s7).2 wr) (fun i _ => n - (Go.RowKit.intOf i).toNat)
  case atStart => exact ⟨0, by omega, rfl, _, unhide HG8⟩
  case round =>
    clear HG8
    obtain ⟨k, hk, rfl, v, hG⟩ := hrel
    by_cases hlt : k < n
    · have hlt' : (k : Int) < (n : Int) := by omega
      obtain ⟨p, cap, rfl⟩ := owns_form hG.row
      have HG := hide hG
      have hl := lkF_len k s7
      have HS : (lkF (k + 1) s7) = ((lkF k s7).1 ++ [rv 4 (lkF k s7).2], rs 4 (lkF k s7).2) := rfl
      have HS2 := hide HS
      have hGd := hG.below (Below.refl _ _).drew
      have HGd := hide hGd
      have HN := hide (hGd.rd.num 4 (LF k))
      obtain ⟨d0, d1, d2, d3, d4⟩ := hG.cells
      have hTl := lt_of_row hG.blk
      clear hG HS hGd
      rw [hl] at d3
      obtain ⟨L, hL⟩ : ∃ L, L = (lkF k s7).1 := ⟨_, rfl⟩
      obtain ⟨st, hst⟩ : ∃ st, st = (lkF k s7).2 := ⟨_, rfl⟩
      rw [← hL] at hl
      rw [← hL, ← hst] at HG HS2 HGd
      rw [← hst] at HN
      generalize hz : rv 4 st = z at *
      have hll : L.length = k := hl
      rw [hll] at HG HGd
      clear hL hst hz hl
      go_wp2
      go_region_law (first
        | (refine step_calls (f := 148) Tryz.func148 (by kernel_rfl) rfl rfl _ _ rfl #[ptr b, I 4] (by simp [Act.eval, Act.put]) (I z) (fun w' => Rd W0 b g (rs 4 st) w' ∧ Only (fun k => k = b) wr.drew w') (unhide HN) ?_; rintro w2 ⟨r2, o2⟩; have G2 := (unhide HGd).read r2 o2; obtain ⟨-, -, -, c3, -⟩ := G2.cells; have t2 := lt_of_row G2.blk; have HG2 := hide G2; clear G2 r2 o2)
        | (refine step_pushI rfl (.tmp 30) (.tmp 33) rfl (.slice p k cap) L.length (L.map fun z => I z) (by rfl) w2 z (unhide HG2).row (by rfl) (by omega) ?_; intro p3 cap3 w3 r3 o3 n3; have e3 := (o3.block T t2 (unhide HG2).vT).trans (unhide HG2).blk; have c4 : w3.cell? ⟨T, 3, none⟩ = some (.slice p k cap) := cell_of_row w3 _ 3 _ 24 (0, 0) e3; have f4 := frz e3 3; have HG3 := hide ((unhide HG2).push z r3 o3 n3); clear r3 o3 n3 e3))
      all_goals go_wp2
      all_goals (
        go_roundw
        case rel => exact ⟨k + 1, by omega, by go_num, _, by (have q := unhide HG3; rw [hll] at q; rw [unhide HS2]; exact q)⟩
        case measure => simp [Go.RowKit.intOf]; omega)
    · have hlt' : ¬ (k : Int) < (n : Int) := by omega
      obtain rfl : k = n := by omega
      have HR := hide (hG.rd.raw Sz (LF k))
      have HG := hide hG
      clear hG
      go_wp2_with fail
      refine (unhide HR).mono ?_
      rintro e w9 ⟨rfl, h9, o9⟩
      have G9 := (unhide HG).read h9 o9
      clear h9 o9 HR HG
      generalize hHX : ra Sz (lkF k s7).2 = X at *
      have HX := hide hHX
      clear hHX
      have G10 := G9.set (k' := K) (n' := Nm) (bi' := Bi) (x' := X) (L' := (lkF k s7).1) (v' := v) 4 (S X) rfl G9.row G9.hv G9.gv
      obtain ⟨d0, d1, d2, d3, d4⟩ := G9.cells
      have f4 := frz G9.blk 4
      have hTZ : w.heap.size < W0.heap.size := unhide ZL
      have hbl := G10.rd.2.1
      have hZ := (hbl.block _ hTZ).trans (unhide Z0)
      have hTT := lt_of_row G10.blk
      obtain ⟨p, cap, rfl⟩ := owns_form G10.row
      have hne : w.heap.size ≠ T := by have := G10.hT; omega
      have HG := hide G10
      have HZ := hide hZ
      have hTl := lt_of_row G9.blk
      have hlen := lkF_len k s7
      rw [hlen] at d3
      clear hbl hZ G9 G10
      go_wp2_with (refine wp_st24 rfl (.tmp 2) (.tmp 41) rfl w.heap.size (by rfl) K Nm Bi p k cap X (by rfl) _ rfl (unhide HZ) ?_)
      have hr := setRow_heap _ _ _ #[I K, I Nm, I Bi, .slice p k cap, S X] 24 _ (unhide HZ)
      obtain ⟨e0, e1, e2, e3, e4⟩ := box5 hr (Below.refl _ _) (lt_of_row hr)
      have oF := setRow_only' (w9.setCell ⟨T, 4, none⟩ (S X)) w.heap.size #[I K, I Nm, I Bi, .slice p k cap, S X]
      refine bodyPost_ret (results_p1 (p := 2) rfl _ _ w.heap.size _ _ _ _ _ rfl e0 e1 e2 e3 e4) rfl ?_
      have G := unhide HG
      rw [hlen] at G
      show ∃ v, Ending.returned (Value.agg #[I K, I Nm, I Bi, Value.slice p k cap, S X]) = .returned (.agg #[I (rv 1 (q1 s)), I (rv 4 (q3 s)), I (rv 8 (q4 s)), v, S (ra (rv 2 (q5 s)) (lkF (qn s) (q7 s)).2)]) ∧ _
      rw [unhide HK, unhide HNm, unhide HBi, unhide HSz, unhide HQ7]
      have HQ := unhide HQn
      rw [HQ, unhide HX]
      refine ⟨_, rfl, ?_, fun i hi => ?_, ?_⟩
      · have hrow := owns_only G.row oF (fun i hi e => ?_)
        · rw [hlen] at hrow ⊢; exact hrow
        · have := G.hv i hi; omega
      · have := G.hv i hi; omega
      · exact oF.below ((unhide ZB).trans (G.rd.2.1.mono (unhide ZB).size)) (Nat.le_trans (unhide ZB).size G.rd.2.1.size) (fun i e => by omega)
end Go.Proofs.YtjopnhhdemfniaaGreatDoor
namespace Go.Proofs.YtjopnhhdemfniaaGreatDoor
open Go.RowKit
set_option maxHeartbeats 16000000
set_option maxRecDepth 8000
theorem gP_links (s : Bs) : (gP s).links.length ≤ 255 := by
  unfold gP
  simp only
  rw [lkF_len]
  have := rv_lo 1 (q2 s)
  have := rv_hi 1 (q2 s)
  unfold qn
  omega
theorem gP_body (s : Bs) (hs : s.length = 512) : (gP s).body.length ≤ 512 := by
  have l1 : (q1 s).1.length ≤ 512 := Nat.le_trans (rGo_len _ _ _ _) (by simp [hs])
  have l7 : (q7 s).1.length ≤ 512 := Nat.le_trans (rs_len _ _) (Nat.le_trans (rs_len _ _) (Nat.le_trans (rs_len _ _) (Nat.le_trans (rs_len _ _) (Nat.le_trans (rs_len _ _) (Nat.le_trans (rs_len _ _) l1)))))
  have := lkF_short (qn s) (q7 s)
  unfold gP ra
  simp only
  split
  · rw [List.length_take]; omega
  · simp
theorem prs_gP (s : Bs) : prs s = if (gP s).may = true ∧ (gP s).blk = s then some (gP s) else none := by
  split
  · rename_i h
    exact prs_is h.1 h.2
  · rename_i h
    cases q : prs s with
    | none => rfl
    | some p =>
      obtain ⟨h1, h2⟩ := prs_some q
      have e : gP s = p := by rw [← h2]; exact gP_blk p h1
      exact absurd ⟨by rw [e]; exact h1, by rw [e]; exact h2⟩ h
/-- No page. -/
def noPg : Pg := ⟨0, 0, 0, [], []⟩
def prp (s : Bs) : Pg × Int := match prs s with
  | some p => (p, 0)
  | none => (noPg, 94)
/-- A page that came out, with its links in new memory, and a number beside it. -/
def PgOut (p : Pg) (er : Int) (w : World) (e : Ending) (w' : World) : Prop := ∃ q cap, e = .returned (.tuple #[pga p q cap, I er]) ∧ w'.ownsRow 0 3 1 (.slice q p.links.length cap) p.links.length (p.links.map fun z => I z) ∧ (∀ k, (Value.slice q p.links.length cap).ownBlock = some k → w.heap.size ≤ k) ∧ Below w.heap.size w w'
theorem PgOut.no (w w' : World) (h : Below w.heap.size w w') : PgOut noPg 94 w (.returned (.tuple #[pga noPg none 0, I 94])) w' := ⟨none, 0, rfl, owns_nil _ _ _, (fun _ hk => nomatch hk), h⟩
theorem parsePage_any (s : Bs) (w : World) : Calls Tryz.prog 62 #[S s] w fun e w' => PgOut (prp s).1 (prp s).2 w e w' := by
  have ZB := hide ((Below.refl w.heap.size w).alloc (Nat.le_refl _) (.cells #[I 0, I 0, I 0, .slice none 0 0, S []] 24))
  have Z0 := hide (heap_alloc_new w (.cells #[I 0, I 0, I 0, .slice none 0 0, S []] 24))
  by_cases hs : s.length = 512
  · have hsi : ((s.length : Nat) : Int) = 512 := by omega
    have H0 := hide (guess_any s (w.alloc (.cells #[I 0, I 0, I 0, .slice none 0 0, S []] 24)) hs)
    have HP := hide (prs_gP s)
    have hl := gP_links s
    have hb := gP_body s hs
    by_cases hm : (gP s).may = true
    · by_cases hk : (gP s).blk = s
      · have HPR := hide (show prn (gP s) = (s, 0) by unfold prn; rw [if_pos hm, hk])
        have HPP := hide (show prp s = (gP s, 0) by unfold prp; rw [unhide HP, if_pos ⟨hm, hk⟩])
        clear hm hk
        go_enter Tryz.func62, Tryz.ntmps62
        go_wp2_with fail
        refine (unhide H0).mono ?_
        rintro e w1 ⟨v, rfl, r1, n1, b1⟩
        generalize w.alloc (.cells #[I 0, I 0, I 0, .slice none 0 0, S []] 24) = W0 at *
        obtain ⟨p, cap, rfl⟩ := owns_form r1
        have hz : w.heap.size < W0.heap.size := lt_of_row (unhide Z0)
        have bA := (Below.refl w1.heap.size w1).alloc (Nat.le_refl _) (.cells (pgc (gP s) p cap) 24)
        have hg := heap_alloc_new w1 (.cells (pgc (gP s) p cap) 24)
        have r2 := owns_below r1 bA
        obtain ⟨p', cap', ep, hi, _⟩ := Ins.of r1
        have ep2 : p' = p ∧ cap' = cap := by cases ep; exact ⟨rfl, rfl⟩
        obtain ⟨rfl, rfl⟩ := ep2
        have H1 := hide (printPage_any (gP s) p' cap' _ (hi.below bA) (by omega) (by omega))
        rw [unhide HPR] at H1
        have B2 := hide (b1.trans (bA.mono b1.size))
        have R2 := hide r2
        have N1 := hide n1
        have HG := hide hg
        clear r1 n1 b1 bA hg r2 hi ep
        unfold pga pgc at *
        go_wp2_with fail
        refine (unhide H1).mono ?_
        rintro e w2 ⟨rfl, b2⟩
        generalize hW2 : w1.alloc (.cells #[I (gP s).kind, I (gP s).number, I (gP s).birth, .slice p' (gP s).links.length cap', S (gP s).body] 24) = W2 at *
        have hz1 : w1.heap.size < W2.heap.size := lt_of_row (unhide HG)
        have B3 := hide ((unhide B2).trans (b2.mono (unhide B2).size))
        have hZ := ((unhide B3).block _ hz).trans (unhide Z0)
        have hBB := hide ((unhide ZB).trans ((unhide B3).mono (unhide ZB).size))
        obtain ⟨d0, d1, d2, d3, d4⟩ := box5 (unhide HG) b2 hz1
        have R3 := hide (owns_below (unhide R2) b2)
        have HZ := hide hZ
        clear b2 hZ hW2 H0 H1
        go_wp2_with (refine wp_st24 rfl (.tmp 2) (.tmp 26) rfl w.heap.size (by rfl) (gP s).kind (gP s).number (gP s).birth p' (gP s).links.length cap' (gP s).body (by rfl) _ rfl (unhide HZ) ?_)
        have hr := setRow_heap _ _ _ #[I (gP s).kind, I (gP s).number, I (gP s).birth, .slice p' (gP s).links.length cap', S (gP s).body] 24 _ (unhide HZ)
        obtain ⟨e0, e1, e2, e3, e4⟩ := box5 hr (Below.refl _ _) (lt_of_row hr)
        have oF := setRow_only' w2 w.heap.size #[I (gP s).kind, I (gP s).number, I (gP s).birth, .slice p' (gP s).links.length cap', S (gP s).body]
        refine bodyPost_ret (results_p2 (p := 2) (q := 3) rfl _ _ w.heap.size _ _ _ _ _ rfl e0 e1 e2 e3 e4) rfl ?_
        show PgOut (prp s).1 (prp s).2 _ _ _
        rw [unhide HPP]
        refine ⟨p', cap', rfl, ?_, fun i hi => ?_, oF.below (unhide hBB) (unhide hBB).size (fun i e => by omega)⟩
        · exact owns_only (unhide R3) oF (fun i hi e => by have := unhide N1 i hi; omega)
        · have := unhide N1 i hi; omega
      · have HPR := hide (show prn (gP s) = ((gP s).blk, 0) by unfold prn; rw [if_pos hm])
        have HPP := hide (show prp s = (noPg, 94) by unfold prp; rw [unhide HP, if_neg (fun q => hk q.2)])
        have hk2 : ((gP s).blk == s) = false := by rw [beq_eq_false_iff_ne]; exact hk
        generalize (gP s).blk = KB at *
        clear hm hk
        go_enter Tryz.func62, Tryz.ntmps62
        go_wp2_with fail
        refine (unhide H0).mono ?_
        rintro e w1 ⟨v, rfl, r1, n1, b1⟩
        generalize w.alloc (.cells #[I 0, I 0, I 0, .slice none 0 0, S []] 24) = W0 at *
        obtain ⟨p, cap, rfl⟩ := owns_form r1
        have hz : w.heap.size < W0.heap.size := lt_of_row (unhide Z0)
        have bA := (Below.refl w1.heap.size w1).alloc (Nat.le_refl _) (.cells (pgc (gP s) p cap) 24)
        have hg := heap_alloc_new w1 (.cells (pgc (gP s) p cap) 24)
        have r2 := owns_below r1 bA
        obtain ⟨p', cap', ep, hi, _⟩ := Ins.of r1
        have ep2 : p' = p ∧ cap' = cap := by cases ep; exact ⟨rfl, rfl⟩
        obtain ⟨rfl, rfl⟩ := ep2
        have H1 := hide (printPage_any (gP s) p' cap' _ (hi.below bA) (by omega) (by omega))
        rw [unhide HPR] at H1
        have B2 := hide (b1.trans (bA.mono b1.size))
        have R2 := hide r2
        have N1 := hide n1
        have HG := hide hg
        clear r1 n1 b1 bA hg r2 hi ep
        unfold pga pgc at *
        go_wp2_with fail
        refine (unhide H1).mono ?_
        rintro e w2 ⟨rfl, b2⟩
        generalize hW2 : w1.alloc (.cells #[I (gP s).kind, I (gP s).number, I (gP s).birth, .slice p' (gP s).links.length cap', S (gP s).body] 24) = W2 at *
        have hz1 : w1.heap.size < W2.heap.size := lt_of_row (unhide HG)
        have B3 := hide ((unhide B2).trans (b2.mono (unhide B2).size))
        have hZ := ((unhide B3).block _ hz).trans (unhide Z0)
        have hBB := hide ((unhide ZB).trans ((unhide B3).mono (unhide ZB).size))
        obtain ⟨d0, d1, d2, d3, d4⟩ := box5 (unhide HG) b2 hz1
        have R3 := hide (owns_below (unhide R2) b2)
        have HZ := hide hZ
        clear b2 hZ hW2 H0 H1
        go_wp2_with (refine wp_st24 rfl (.tmp 2) (.tmp 25) rfl w.heap.size (by rfl) 0 0 0 none 0 0 [] (by rfl) _ rfl (unhide HZ) ?_)
        have hr := setRow_heap _ _ _ #[I 0, I 0, I 0, .slice none 0 0, S []] 24 _ (unhide HZ)
        obtain ⟨e0, e1, e2, e3, e4⟩ := box5 hr (Below.refl _ _) (lt_of_row hr)
        have oF := setRow_only' w2 w.heap.size #[I 0, I 0, I 0, .slice none 0 0, S []]
        refine bodyPost_ret (results_p2 (p := 2) (q := 3) rfl _ _ w.heap.size _ _ _ _ _ rfl e0 e1 e2 e3 e4) rfl ?_
        show PgOut (prp s).1 (prp s).2 _ _ _
        rw [unhide HPP]
        exact PgOut.no w _ (oF.below (unhide hBB) (unhide hBB).size (fun i e => by omega))
    · have HPR := hide (show prn (gP s) = ([], 94) by unfold prn; rw [if_neg hm])
      have HPP := hide (show prp s = (noPg, 94) by unfold prp; rw [unhide HP, if_neg (fun q => hm q.1)])
      clear hm
      go_enter Tryz.func62, Tryz.ntmps62
      go_wp2_with fail
      refine (unhide H0).mono ?_
      rintro e w1 ⟨v, rfl, r1, n1, b1⟩
      generalize w.alloc (.cells #[I 0, I 0, I 0, .slice none 0 0, S []] 24) = W0 at *
      obtain ⟨p, cap, rfl⟩ := owns_form r1
      have hz : w.heap.size < W0.heap.size := lt_of_row (unhide Z0)
      have bA := (Below.refl w1.heap.size w1).alloc (Nat.le_refl _) (.cells (pgc (gP s) p cap) 24)
      have hg := heap_alloc_new w1 (.cells (pgc (gP s) p cap) 24)
      have r2 := owns_below r1 bA
      obtain ⟨p', cap', ep, hi, _⟩ := Ins.of r1
      have ep2 : p' = p ∧ cap' = cap := by cases ep; exact ⟨rfl, rfl⟩
      obtain ⟨rfl, rfl⟩ := ep2
      have H1 := hide (printPage_any (gP s) p' cap' _ (hi.below bA) (by omega) (by omega))
      rw [unhide HPR] at H1
      have B2 := hide (b1.trans (bA.mono b1.size))
      have R2 := hide r2
      have N1 := hide n1
      have HG := hide hg
      clear r1 n1 b1 bA hg r2 hi ep
      unfold pga pgc at *
      go_wp2_with fail
      refine (unhide H1).mono ?_
      rintro e w2 ⟨rfl, b2⟩
      generalize hW2 : w1.alloc (.cells #[I (gP s).kind, I (gP s).number, I (gP s).birth, .slice p' (gP s).links.length cap', S (gP s).body] 24) = W2 at *
      have hz1 : w1.heap.size < W2.heap.size := lt_of_row (unhide HG)
      have B3 := hide ((unhide B2).trans (b2.mono (unhide B2).size))
      have hZ := ((unhide B3).block _ hz).trans (unhide Z0)
      have hBB := hide ((unhide ZB).trans ((unhide B3).mono (unhide ZB).size))
      obtain ⟨d0, d1, d2, d3, d4⟩ := box5 (unhide HG) b2 hz1
      have R3 := hide (owns_below (unhide R2) b2)
      have HZ := hide hZ
      clear b2 hZ hW2 H0 H1
      go_wp2_with (refine wp_st24 rfl (.tmp 2) (.tmp 25) rfl w.heap.size (by rfl) 0 0 0 none 0 0 [] (by rfl) _ rfl (unhide HZ) ?_)
      have hr := setRow_heap _ _ _ #[I 0, I 0, I 0, .slice none 0 0, S []] 24 _ (unhide HZ)
      obtain ⟨e0, e1, e2, e3, e4⟩ := box5 hr (Below.refl _ _) (lt_of_row hr)
      have oF := setRow_only' w2 w.heap.size #[I 0, I 0, I 0, .slice none 0 0, S []]
      refine bodyPost_ret (results_p2 (p := 2) (q := 3) rfl _ _ w.heap.size _ _ _ _ _ rfl e0 e1 e2 e3 e4) rfl ?_
      show PgOut (prp s).1 (prp s).2 _ _ _
      rw [unhide HPP]
      exact PgOut.no w _ (oF.below (unhide hBB) (unhide hBB).size (fun i e => by omega))
  · have hsi : ¬ ((s.length : Nat) : Int) = 512 := by omega
    have hp : prs s = none := by
      cases q : prs s with
      | none => rfl
      | some p => exact absurd (prs_len q) hs
    have hpp : prp s = (noPg, 94) := by unfold prp; rw [hp]
    rw [hpp]
    go_enter Tryz.func62, Tryz.ntmps62
    go_wp2_with (refine wp_st24 rfl (.tmp 2) (.tmp 10) rfl w.heap.size (by rfl) 0 0 0 none 0 0 [] (by rfl) _ rfl (unhide Z0) ?_)
    have hr := setRow_heap _ _ _ #[I 0, I 0, I 0, .slice none 0 0, S []] 24 _ (unhide Z0)
    obtain ⟨e0, e1, e2, e3, e4⟩ := box5 hr (Below.refl _ _) (lt_of_row hr)
    have oF := setRow_only' (w.alloc (.cells #[I 0, I 0, I 0, .slice none 0 0, S []] 24)) w.heap.size #[I 0, I 0, I 0, .slice none 0 0, S []]
    refine bodyPost_ret (results_p2 (p := 2) (q := 3) rfl _ _ w.heap.size _ _ _ _ _ rfl e0 e1 e2 e3 e4) rfl ?_
    exact PgOut.no w _ (oF.below (unhide ZB) (unhide ZB).size (fun i e => by omega))
end Go.Proofs.YtjopnhhdemfniaaGreatDoor
namespace Go.Proofs.YtjopnhhdemfniaaGreatDoor
open Go.RowKit
set_option maxHeartbeats 8000000
set_option maxRecDepth 8000
def hda (h : Hd) : Value := .agg #[I h.gen, I h.root, I h.blocks, S h.note]
def hdc (h : Hd) : Array Value := #[I h.gen, I h.root, I h.blocks, S h.note]
theorem isNote_any (s : Bs) (w : World) : Calls Tryz.prog 101 #[S s] w fun e w' => e = .returned (.bool (decide (s.length = 16))) ∧ w' = w := by
  by_cases h : s.length = 16
  · have h1 : ((s.length : Nat) : Int) = 16 := by omega
    go_enter Tryz.func101, Tryz.ntmps101
    go_wp2
    go_ret
    exact ⟨ret_bool (by simp [h] <;> exact h1), rfl⟩
  · have h1 : ((s.length : Nat) : Int) ≠ 16 := by omega
    go_enter Tryz.func101, Tryz.ntmps101
    go_wp2
    go_ret
    exact ⟨ret_bool (by simp [h] <;> exact h1), rfl⟩
theorem box4 {B g : Nat} {a b c d : Value} {w0 w : World} (h : w0.heap[g]? = some (.cells #[a, b, c, d] 123 (0, 0))) (hb : Below B w0 w) (hg : g < B) :
    w.cell? ⟨g, 0, none⟩ = some a ∧ w.cell? ⟨g, 1, none⟩ = some b ∧ w.cell? ⟨g, 2, none⟩ = some c ∧ w.cell? ⟨g, 3, none⟩ = some d := by
  have h2 := (hb.block g hg).trans h
  have := fun j => cell_of_row w g j _ 123 (0, 0) h2
  refine ⟨?_, ?_, ?_, ?_⟩ <;> (rw [this]; rfl)
theorem mayBeH_any (h : Hd) (w : World) : Calls Tryz.prog 69 #[hda h] w fun e w' => e = .returned (.bool h.may) ∧ Below w.heap.size w w' := by
  obtain ⟨g, r, b, x⟩ := h
  unfold hda Hd.may
  simp only
  have HB := hide ((Below.refl w.heap.size w).alloc (Nat.le_refl _) (.cells #[I g, I r, I b, S x] 123))
  have H1 := hide (fun W => isGeneration_any g W)
  have H2 := hide (fun W => isNote_any x W)
  generalize decide (x.length = 16) = nx at *
  generalize isGn g = gn at *
  by_cases b1 : 8 ≤ b <;> by_cases b2 : b ≤ 4096 <;> by_cases r0 : r = 0 <;> by_cases r1 : 2 ≤ r <;> by_cases r2 : r < b <;> cases gn
  all_goals first | omega | skip
  all_goals (
    go_enter Tryz.func69, Tryz.ntmps69
    go_wp2_with (first | (go_at_call 138; refine (unhide H1 _).mono ?_; rintro e w1 ⟨rfl, rfl⟩) | (go_at_call 101; refine (unhide H2 _).mono ?_; rintro e w1 ⟨rfl, rfl⟩))
    go_ret
    exact ⟨ret_bool (by first | (simp [b1, b2, r0, r1, r2]; done) | (simp; omega) | (simp; intros; omega)), by first | exact unhide HB | (subst r0; exact unhide HB)⟩)
end Go.Proofs.YtjopnhhdemfniaaGreatDoor
namespace Go.Proofs.YtjopnhhdemfniaaGreatDoor
open Go.RowKit
set_option maxHeartbeats 8000000
set_option maxRecDepth 8000
def prh (h : Hd) : Bs × Int := if h.may = true then (h.blk, 0) else ([], 1)
theorem printHead_any (h : Hd) (w : World) (hx : h.note.length ≤ 1000000000000) : Calls Tryz.prog 20 #[I h.gen, I h.root, I h.blocks, S h.note] w fun e w' => e = .returned (.tuple #[S (prh h).1, I (prh h).2]) ∧ Below w.heap.size w w' := by
  have bA := (Below.refl w.heap.size w).alloc (Nat.le_refl _) (.cells (hdc h) 123)
  have H0 := hide (mayBeH_any h (w.alloc (.cells (hdc h) 123)))
  unfold prh
  cases hm : h.may
  · rw [hm] at H0
    have HB := hide bA
    clear bA hm
    unfold hda hdc at *
    go_enter Tryz.func20, Tryz.ntmps20
    go_wp2_with fail
    refine (unhide H0).mono ?_
    rintro e w1 ⟨rfl, b1⟩
    have HB1 := hide ((unhide HB).trans (b1.mono (unhide HB).size))
    clear b1
    go_wp2
    go_ret2
    exact ⟨rfl, unhide HB1⟩
  · rw [hm] at H0
    have hn := Hd.may_note hm
    have HT := hide (show h.text = ([76, 75, 69, 89] ++ be 8 h.gen.toNat ++ be 4 h.root.toNat ++ be 4 h.blocks.toNat ++ h.note : Bs) from rfl)
    have HTL := hide (Hd.text_len hn)
    have HK := hide (show h.blk = fil (chk h.text) 512 from rfl)
    simp only [Hd.may, isGn, Bool.and_eq_true, Bool.or_eq_true, decide_eq_true_eq] at hm
    obtain ⟨⟨⟨⟨g1, g2⟩, b1, b2⟩, hr⟩, _⟩ := hm
    rw [if_pos rfl]
    obtain ⟨g, r, b, x⟩ := h
    simp only at hx hn g1 g2 b1 b2 hr HT HTL
    generalize Hd.text ⟨g, r, b, x⟩ = T at *
    generalize Hd.blk ⟨g, r, b, x⟩ = K at *
    unfold hda hdc at *
    simp only at bA H0 ⊢
    have HBA := hide bA
    have hr0 : 0 ≤ r ∧ r < 4096 := by omega
    clear bA hr
    go_enter Tryz.func20, Tryz.ntmps20
    go_wp2_with fail
    refine (unhide H0).mono ?_
    rintro e w1 ⟨rfl, c1⟩
    have B1 := hide ((unhide HBA).trans (c1.mono (unhide HBA).size))
    have h1 := hide (Wt.new w1)
    clear c1
    go_wp2_with fail
    refine (unhide h1).mono ?_
    rintro e w2 ⟨rfl, h2⟩
    have H2 := hide (h2.raw [76, 75, 69, 89] (by simp))
    clear h2
    go_wp2_with fail
    refine (unhide H2).mono ?_
    rintro e w3 ⟨rfl, h3⟩
    have H3 := hide (h3.num 8 g (by omega) (by omega) (by omega) (by omega) (by omega) (by simp))
    clear h3
    go_wp2_with fail
    refine (unhide H3).mono ?_
    rintro e w4 ⟨rfl, h4⟩
    have H4 := hide (h4.num 4 r (by omega) (by omega) (by omega) (by omega) (by omega) (by simp [be_len]))
    clear h4
    go_wp2_with fail
    refine (unhide H4).mono ?_
    rintro e w5 ⟨rfl, h5⟩
    have H5 := hide (h5.num 4 b (by omega) (by omega) (by omega) (by omega) (by omega) (by simp [be_len]))
    clear h5
    go_wp2_with fail
    refine (unhide H5).mono ?_
    rintro e w6 ⟨rfl, h6⟩
    have H6 := hide (h6.raw x (by simp [be_len]; omega))
    clear h6
    go_wp2_with fail
    refine (unhide H6).mono ?_
    rintro e w7 ⟨rfl, h7⟩
    have h8 : Wt w1 w1.heap.size T w7 := by rw [unhide HT]; exact h7
    have H7 := hide h8.done
    clear h7 h8
    go_wp2_with fail
    refine (unhide H7).mono ?_
    rintro e w8 ⟨rfl, c8⟩
    have B8 := hide ((unhide B1).trans (c8.mono (unhide B1).size))
    have H8 := hide (checked_any T w8 (by have := unhide HTL; omega))
    have HL2 := hide (chk_len T)
    clear c8
    go_wp2_with fail
    refine (unhide H8).mono ?_
    rintro e w9 ⟨rfl, c9⟩
    have H9 := hide (filled_any (chk T) 512 w9 (by have := unhide HL2; have := unhide HTL; omega) (by omega))
    have B9 := hide ((unhide B8).trans (c9.mono (unhide B8).size))
    clear c9
    go_wp2_with fail
    refine (unhide H9).mono ?_
    rintro e w10 ⟨rfl, c10⟩
    have B10 := hide ((unhide B9).trans (c10.mono (unhide B9).size))
    clear c10
    go_wp2
    go_ret2
    exact ⟨by rw [unhide HK]; rfl, unhide B10⟩
def p1 (s : Bs) : Bs × Nat := rr2 4 (s, 0)
def p2 (s : Bs) : Bs × Nat := rs 8 (p1 s)
def p3 (s : Bs) : Bs × Nat := rs 4 (p2 s)
def p4 (s : Bs) : Bs × Nat := rs 4 (p3 s)
/-- What the program reads of a head. -/
def gH (s : Bs) : Hd := ⟨rv 8 (p1 s), rv 4 (p2 s), rv 4 (p3 s), ra 16 (p4 s)⟩
theorem gH_note (s : Bs) : (gH s).note.length ≤ 16 := by
  unfold gH ra
  simp only
  split
  · rw [List.length_take]; omega
  · simp
theorem gH_sec (h : Hd) (m : h.may = true) (c : Bs) : gH (h.sec ++ c) = h := by
  obtain ⟨g, r, b, x⟩ := h
  have hn := Hd.may_note m
  simp only [Hd.may, isGn, Bool.and_eq_true, Bool.or_eq_true, decide_eq_true_eq] at m hn
  obtain ⟨⟨⟨⟨g1, g2⟩, b1, b2⟩, hr⟩, _⟩ := m
  generalize hs : Hd.sec ⟨g, r, b, x⟩ ++ c = s
  have F : s = [76, 75, 69, 89] ++ (be 8 g.toNat ++ (be 4 r.toNat ++ (be 4 b.toNat ++ (x ++ (be 4 (crc (Hd.text ⟨g, r, b, x⟩)).toNat ++ (List.replicate 24 0 ++ c)))))) := by
    rw [← hs]
    unfold Hd.sec chk
    generalize (crc (Hd.text ⟨g, r, b, x⟩)).toNat = z
    unfold Hd.text
    simp only [List.append_assoc]
  generalize (be 4 (crc (Hd.text ⟨g, r, b, x⟩)).toNat ++ (List.replicate 24 0 ++ c)) = z at F
  have f1 : p1 s = (be 8 g.toNat ++ (be 4 r.toNat ++ (be 4 b.toNat ++ (x ++ z))), 0) := by
    unfold p1 rr2
    rw [F]
    simp [rRawE, rGo]
    omega
  have e1 : nat (be 8 g.toNat) = g.toNat := by rw [nat_be, Nat.mod_eq_of_lt]; omega
  have e2 : nat (be 4 r.toNat) = r.toNat := by rw [nat_be, Nat.mod_eq_of_lt]; omega
  have e3 : nat (be 4 b.toNat) = b.toNat := by rw [nat_be, Nat.mod_eq_of_lt]; omega
  obtain ⟨v1, f2⟩ := rs_ok (be 8 g.toNat) (be 4 r.toNat ++ (be 4 b.toNat ++ (x ++ z))) 8 (by omega) (by omega) (be_len _ _) (by rw [e1]; omega)
  obtain ⟨v2, f3⟩ := rs_ok (be 4 r.toNat) (be 4 b.toNat ++ (x ++ z)) 4 (by omega) (by omega) (be_len _ _) (by rw [e2]; omega)
  obtain ⟨v3, f4⟩ := rs_ok (be 4 b.toNat) (x ++ z) 4 (by omega) (by omega) (be_len _ _) (by rw [e3]; omega)
  have g2' := (show p2 s = rs 8 (p1 s) from rfl).trans ((congrArg (rs 8) f1).trans f2)
  have g3' := (show p3 s = rs 4 (p2 s) from rfl).trans ((congrArg (rs 4) g2').trans f3)
  have g4' := (show p4 s = rs 4 (p3 s) from rfl).trans ((congrArg (rs 4) g3').trans f4)
  have er : rRawE 16 (x ++ z) = 0 := by
    unfold rRawE
    rw [if_neg (by omega), if_neg (by simp; omega)]
  have eb : ra 16 (x ++ z, 0) = x := by
    unfold ra
    rw [er, if_pos (show fine 0 0 = true from rfl)]
    show (x ++ z).take 16 = x
    rw [← hn, List.take_left]
  unfold gH
  rw [f1, g2', g3', g4', v1, v2, v3, eb, e1, e2, e3, Int.toNat_of_nonneg (by omega), Int.toNat_of_nonneg (by omega), Int.toNat_of_nonneg (by omega)]
theorem phd_gH (s : Bs) (hs : s.length = 512) : phd s = if (gH s).may = true ∧ (gH s).sec = s.take 64 then some (gH s) else none := by
  split
  · rename_i h
    exact phd_is hs h.1 h.2
  · rename_i h
    cases q : phd s with
    | none => rfl
    | some p =>
      obtain ⟨_, h1, h2⟩ := phd_some q
      have e : gH s = p := by
        have := gH_sec p h1 (s.drop 64)
        rwa [h2, List.take_append_drop] at this
      exact absurd ⟨by rw [e]; exact h1, by rw [e]; exact h2⟩ h
end Go.Proofs.YtjopnhhdemfniaaGreatDoor
namespace Go.Proofs.YtjopnhhdemfniaaGreatDoor
open Go.RowKit
set_option maxHeartbeats 8000000
set_option maxRecDepth 8000
theorem loadVar123 (b : Nat) (x0 x1 x2 x3 : Value) (W : World) (h0 : W.cell? ⟨b, 0, none⟩ = some x0) (h1 : W.cell? ⟨b, 1, none⟩ = some x1) (h2 : W.cell? ⟨b, 2, none⟩ = some x2) (h3 : W.cell? ⟨b, 3, none⟩ = some x3) : (loadVar 123 ⟨b, 0, none⟩).run Tryz.prog W = .ok (.agg #[x0, x1, x2, x3]) W := by
  have hl : (loadCells ⟨b, 0, none⟩ 4).run Tryz.prog W = .ok #[x0, x1, x2, x3] W := by
    have := run_loadCells_list (P := Tryz.prog) W ⟨b, 0, none⟩ [x0, x1, x2, x3] (fun j v hv => by
      match j, hv with
      | 0, hv => simp at hv; subst hv; simpa [Addr.add] using h0
      | 1, hv => simp at hv; subst hv; simpa [Addr.add] using h1
      | 2, hv => simp at hv; subst hv; simpa [Addr.add] using h2
      | 3, hv => simp at hv; subst hv; simpa [Addr.add] using h3
      | (j + 4), hv => simp at hv)
    simpa using this
  simp [loadVar, Tryz.isAgg123, Tryz.sizeOf123, hl, Result.andThen]
theorem results_h1 {fn : Func} {p : Tmp} (h : fn.results = #[.cell p 123]) (tmps : Array Value) (w : World) (b : Nat) (x0 x1 x2 x3 : Value) (ht : tmps.getD p undef = .pointer (some ⟨b, 0, none⟩)) (h0 : w.cell? ⟨b, 0, none⟩ = some x0) (h1 : w.cell? ⟨b, 1, none⟩ = some x1) (h2 : w.cell? ⟨b, 2, none⟩ = some x2) (h3 : w.cell? ⟨b, 3, none⟩ = some x3) :
    (results fn tmps).run Tryz.prog w = .ok (.agg #[x0, x1, x2, x3]) w := by
  have ht' : tmps[p]?.getD undef = .pointer (some ⟨b, 0, none⟩) := by simpa using ht
  simp only [results, h]
  simp [ht', asAddr, loadVar123 b x0 x1 x2 x3 w h0 h1 h2 h3]
theorem results_h2 {fn : Func} {p q : Tmp} (h : fn.results = #[.cell p 123, .tmp q]) (tmps : Array Value) (w : World) (b : Nat) (x0 x1 x2 x3 : Value) (ht : tmps.getD p undef = .pointer (some ⟨b, 0, none⟩)) (h0 : w.cell? ⟨b, 0, none⟩ = some x0) (h1 : w.cell? ⟨b, 1, none⟩ = some x1) (h2 : w.cell? ⟨b, 2, none⟩ = some x2) (h3 : w.cell? ⟨b, 3, none⟩ = some x3) :
    (results fn tmps).run Tryz.prog w = .ok (.tuple #[.agg #[x0, x1, x2, x3], tmps.getD q undef]) w := by
  have ht' : tmps[p]?.getD undef = .pointer (some ⟨b, 0, none⟩) := by simpa using ht
  simp only [results, h]
  simp [ht', asAddr, loadVar123 b x0 x1 x2 x3 w h0 h1 h2 h3]
theorem info123s : (Tryz.prog.info? 123).map (·.size) = some 4 := by kernel_rfl
/-- A head is laid into its box. -/
theorem wp_st123 {ops : Array Oper} {rest : List Oper} {o : Oper} {a : Act} {w : World} {Q : Exit → Act → World → Prop} (hgd : o.guard = none) (x y : Operand) (ho : o.op = .store 123 x y)
    (P : Nat) (hx : a.eval x = .pointer (some ⟨P, 0, none⟩)) (g r b : Int) (s : Bs) (hy : a.eval y = .agg #[I g, I r, I b, S s]) (old : Array Value) (ho5 : old.size = 4)
    (hg : w.heap[P]? = some (.cells old 123 (0, 0)))
    (h : wpList Tryz.prog ops Q rest (a.put o.dst undef) (w.setRow P #[I g, I r, I b, S s])) : wpList Tryz.prog ops Q (o :: rest) a w :=
  wpList_store_row hgd 123 x y ho P _ hx hy 123 old hg info123s (by rw [ho5]; rfl) (by simp [Value.oneCell']) h
theorem guessHead_any (s : Bs) (w : World) (hs : s.length = 512) : Calls Tryz.prog 79 #[S s] w fun e w' => e = .returned (hda (gH s)) ∧ Below w.heap.size w w' := by
  have l1 : (p1 s).1.length ≤ 1000 := Nat.le_trans (rGo_len _ _ _ _) (by simp [hs])
  have l2 : (p2 s).1.length ≤ 1000 := Nat.le_trans (rs_len _ _) l1
  have l3 : (p3 s).1.length ≤ 1000 := Nat.le_trans (rs_len _ _) l2
  have l4 : (p4 s).1.length ≤ 1000 := Nat.le_trans (rs_len _ _) l3
  have HE := hide (show hda (gH s) = .agg #[I (rv 8 (p1 s)), I (rv 4 (p2 s)), I (rv 4 (p3 s)), S (ra 16 (p4 s))] from rfl)
  have Z0 := hide (heap_alloc_new w (.cells #[I 0, I 0, I 0, S []] 123))
  have ZB := hide ((Below.refl w.heap.size w).alloc (Nat.le_refl _) (.cells #[I 0, I 0, I 0, S []] 123))
  have H0 := hide (Rd.new s (w.alloc (.cells #[I 0, I 0, I 0, S []] 123)))
  go_enter Tryz.func79, Tryz.ntmps79
  go_wp2_with fail
  refine (unhide H0).mono ?_
  rintro e w1 ⟨b, g, rfl, h1⟩
  generalize hW0 : w.alloc (.cells #[I 0, I 0, I 0, S []] 123) = W0 at *
  clear hW0
  have hz : w.heap.size < W0.heap.size := lt_of_row (unhide Z0)
  have H1 := hide (h1.raw 4 (by simp [hs]))
  clear h1
  go_wp2_with fail
  refine (unhide H1).mono ?_
  rintro e w2 ⟨rfl, h2, -⟩
  have H2 := hide (Rd.num (s := p1 s) h2 8 l1)
  clear h2
  go_wp2_with fail
  refine (unhide H2).mono ?_
  rintro e w3 ⟨rfl, h3, -⟩
  have H3 := hide (Rd.num (s := p2 s) h3 4 l2)
  clear h3
  generalize rv 8 (p1 s) = G at *
  go_wp2_with fail
  refine (unhide H3).mono ?_
  rintro e w4 ⟨rfl, h4, -⟩
  have H4 := hide (Rd.num (s := p3 s) h4 4 l3)
  clear h4
  generalize rv 4 (p2 s) = R at *
  go_wp2_with fail
  refine (unhide H4).mono ?_
  rintro e w5 ⟨rfl, h5, -⟩
  generalize rv 4 (p3 s) = Bl at *
  have h5' : Rd W0 b g (p4 s) w5 := h5
  have o5 := Only.alloc (fun _ => False) w5 (.cells #[I G, I R, I Bl, S []] 123)
  have h6 := h5'.keep o5 (fun q => q) (fun q => q) (fun _ q => q.elim)
  have hg5 := heap_alloc_new w5 (.cells #[I G, I R, I Bl, S []] 123)
  have H6 := hide (h6.raw 16 l4)
  have hTl := lt_of_row hg5
  have hbT : b < w5.heap.size := by
    obtain ⟨⟨_, _, q⟩, _⟩ := h5'
    exact lt_of_row q.row
  have hWT : W0.heap.size ≤ w5.heap.size := h5'.2.1.size
  have HG5 := hide hg5
  clear h5 h5' o5 h6 hg5
  go_wp2_with fail
  refine (unhide H6).mono ?_
  rintro e w6 ⟨rfl, h7, o7⟩
  generalize hT : w5.heap.size = T at *
  generalize ra 16 (p4 s) = X at *
  have hg6 := (o7.block T hTl (by omega)).trans (unhide HG5)
  have hT6 := lt_of_row hg6
  have hB6 := h7.2.1
  have hZ6 := ((hB6.block _ hz).trans (unhide Z0))
  obtain ⟨d0, d1, d2, d3⟩ := box4 hg6 (Below.refl _ _) hT6
  have f3 := frz hg6 3
  have hZ7 : (w6.setCell ⟨T, 3, none⟩ (S X)).heap[w.heap.size]? = some (.cells #[I 0, I 0, I 0, S []] 123 (0, 0)) := (heap_setCell_other _ _ _ _ (show w.heap.size ≠ T by omega)).trans hZ6
  have HZ := hide hZ7
  have HB := hide ((unhide ZB).trans (hB6.mono (unhide ZB).size))
  clear h7 o7 hg6 hB6 hZ6 hZ7 HG5 H0 H1 H2 H3 H4 H6
  go_wp2_with (refine wp_st123 rfl (.tmp 2) (.tmp 19) rfl w.heap.size (by rfl) G R Bl X (by rfl) _ rfl (unhide HZ) ?_)
  have hr := setRow_heap _ _ _ #[I G, I R, I Bl, S X] 123 _ (unhide HZ)
  obtain ⟨e0, e1, e2, e3⟩ := box4 hr (Below.refl _ _) (lt_of_row hr)
  have oF := setRow_only' (w6.setCell ⟨T, 3, none⟩ (S X)) w.heap.size #[I G, I R, I Bl, S X]
  refine bodyPost_ret (results_h1 (p := 2) rfl _ _ w.heap.size _ _ _ _ rfl e0 e1 e2 e3) rfl ?_
  refine ⟨by rw [unhide HE], ?_⟩
  have hb := (unhide HB).setCell (p := ⟨T, 3, none⟩) (show w.heap.size ≤ T by omega) (S X)
  exact oF.below hb hb.size (fun i e => by omega)
end Go.Proofs.YtjopnhhdemfniaaGreatDoor
