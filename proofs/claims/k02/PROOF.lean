import PyProof.Rows.All
import Wide.All
import OpenK.AllK
import Wide.FinOn
import HandS.ForMost
import HandS.IsInst
import HandS.Style
import HandS.Wide
import HandS.WideMore
import HandS.Zip
import HandS.Flow
import PySem.Challenge.RW_turnsums_k02_primes_or_not
set_option Elab.async false
set_option linter.all false
set_option maxRecDepth 100000
set_option maxHeartbeats 4000000
namespace My
open PySem L2
def top (i : Nat) : Stmt := PySem.Challenge.pw_turnsums_k02_primes_or_not.main.body.getD i (.Pass ⟨0, 0, 0, 0⟩)
/-- a def of the text: where it stands, how it is called -/
structure Df (K : PySem.W.Frag) (mg : Str → Option Value) (x : Str) (st : Stmt) (ps : List Str) (f : Addr) (fd : FuncData) : Prop where
  F : Fun K x x st f fd
  b : Binds K fd ps []
  g : mg x = some (.ref f)
/-! heaps: all but the box stays -/
theorem same_upd {H H' : Hp} {p : Addr} {o : HO} (h : Same H H') (n : H' p = none) : Same H (upd H' p o) := fun b x e => by
  rw [upd_ne (ne_of_none (h b x e) n)]
  exact h b x e
theorem same_new {H : Hp} {p : Addr} {o : HO} (n : H p = none) : Same H (upd H p o) := same_upd (Same.refl H) n
theorem same_mut {H H' : Hp} {p : Addr} {o : HO} (h : Same H H') (n : H p = none) : Same H (upd H' p o) := fun b x e => by
  rw [upd_ne (ne_of_none e n)]
  exact h b x e
theorem same_t {K : PySem.W.Frag} {H H' : Hp} {a : Addr} {xs : List V} (e : Same H H') (h : SqT K H a xs) : SqT K H' a xs := by
  rcases h with (h | ⟨o, h⟩) | h
  · exact .inl (.inl (e _ _ h))
  · exact .inl (.inr ⟨o, e _ _ h⟩)
  · exact .inr h
def Keep (b : Addr) (H H' : Hp) : Prop := ∀ a o, a ≠ b → H a = some o → H' a = some o
theorem Keep.refl (b : Addr) (H : Hp) : Keep b H H := fun _ _ _ h => h
theorem Keep.trans {b : Addr} {H H1 H2 : Hp} (a : Keep b H H1) (c : Keep b H1 H2) : Keep b H H2 := fun x o n h => c x o n (a x o n h)
theorem keepS {b : Addr} {H H' : Hp} (h : Same H H') : Keep b H H' := fun x o _ e => h x o e
theorem keep_same {b : Addr} {H0 H H' : Hp} (a : Same H0 H) (n : H0 b = none) (k : Keep b H H') : Same H0 H' := fun x o e => k x o (ne_of_none e n) (a x o e)
theorem keep_upd {b : Addr} {H H' : Hp} {o : HO} (h : Keep b H H') : Keep b H (upd H' b o) := fun a u n e => by
  rw [upd_ne n]
  exact h a u n e
theorem keep_new {b p : Addr} {H H' : Hp} {o : HO} (h : Keep b H H') (n : H' p = none) : Keep b H (upd H' p o) := fun a u na e => by
  rw [upd_ne (ne_of_none (h a u na e) n)]
  exact h a u na e
theorem Keep.seq {K : PySem.W.Frag} {b a : Addr} {H H' : Hp} {xs : List V} (e : Keep b H H') (n : a ≠ b) (h : SqL K H a xs) : SqL K H' a xs := by
  rcases h with (h | ⟨o, h⟩) | h
  · exact .inl (.inl (e _ _ n h))
  · exact .inl (.inr ⟨o, e _ _ n h⟩)
  · exact .inr h
def BoxAt (H : Hp) (b : Addr) (n : Int) : Prop := ∃ x y z : Int, H b = some (.lst [.int x, .int y, .int z]) ∧ 0 ≤ x ∧ 0 ≤ y ∧ y ≤ 4294967296 ∧ 0 ≤ z ∧ z ≤ n
theorem BoxAt.mono {H : Hp} {b : Addr} {n m : Int} (h : BoxAt H b n) (e : n ≤ m) : BoxAt H b m := by
  obtain ⟨x, y, z, a1, a2, a3, a4, a5, a6⟩ := h
  exact ⟨x, y, z, a1, a2, a3, a4, a5, by omega⟩
theorem BoxAt.same {H H' : Hp} {b : Addr} {n : Int} (h : BoxAt H b n) (e : Same H H') : BoxAt H' b n := by
  obtain ⟨x, y, z, a1, a2⟩ := h
  exact ⟨x, y, z, e _ _ a1, a2⟩
theorem BoxAt.some {H : Hp} {b : Addr} {n : Int} (h : BoxAt H b n) : ∃ o, H b = some o := by
  obtain ⟨x, y, z, a1, a2⟩ := h
  exact ⟨_, a1⟩
theorem BoxAt.ne {H : Hp} {b p : Addr} {n : Int} (h : BoxAt H b n) (e : H p = none) : p ≠ b := by
  obtain ⟨o, h⟩ := h.some
  exact (ne_of_none h e).symm
theorem szl {n : Nat} (h : n ≤ 60000) : n ≤ sizeLine := Nat.le_trans h (by decide)
theorem szm {n : Nat} (h : n ≤ 60000) : n < sizeLine := Nat.lt_of_le_of_lt h (by decide)
theorem pw6 : (10 : Int) ^ Int.toNat 6 = 1000000 := by decide
theorem pw9 : (10 : Int) ^ Int.toNat 9 = 1000000000 := by decide
theorem newO {H H' : Hp} {p : Addr} {o : HO} (e : upd H p o = H') (hp : H p = none) : Same H H' ∧ H' p = some o := by
  subst e
  exact ⟨same_new hp, upd_same⟩
theorem mutO {H H' : Hp} {p : Addr} {o : HO} (e : upd H p o = H') : Keep p H H' ∧ H' p = some o := by
  subst e
  exact ⟨keep_upd (Keep.refl _ _), upd_same⟩
/-- a word of ours that the walk must not open -/
inductive Hold (p : Prop) : Prop
  | mk : p → Hold p
theorem Hold.un {p : Prop} (h : Hold p) : p := by
  cases h with
  | mk h => exact h
theorem holdN {W : Nat → L2.St → Hp → Prop} {m : Nat} : ∀ (σ' : L2.St) (H' : Hp), Hold (∃ m', m' < m ∧ W m' σ' H') → ∃ m', m' < m ∧ W m' σ' H' := fun _ _ h => h.un
theorem ite_dec {c A B : Prop} [Decidable c] (hc : c) (h : A) : if decide c = true then A else B := by
  rw [decide_eq_true hc]
  exact iteT h
def rLenQ (K : PySem.W.Frag) : List V → Hp → VK → Prop := fun xs H Q => ∃ p ys, xs = [.ref p] ∧ (SqL K H p ys ∨ SqT K H p ys) ∧ Q (.int ys.length) H
theorem cmul_b {i : Int} {b : Bool} : CMul i (if b then 1 else 0) := by
  refine .inr ?_
  cases b <;> exact ⟨by decide, by decide⟩
theorem at_ints {ns : List Int} {k : Int} (h0 : 0 ≤ k) (h : k < (ns.length : Int)) : ∃ c, c ∈ ns ∧ atI (ns.map V.int) k = some (.int c) := by
  have hk : k.toNat < ns.length := by omega
  refine ⟨ns[k.toNat], List.getElem_mem hk, at_of (j := k.toNat) (by omega) ?_⟩
  rw [List.getElem?_map, List.getElem?_eq_getElem hk]
  rfl
theorem at_some {xs : List V} {k : Int} (h0 : 0 ≤ k) (h : k < (xs.length : Int)) : ∃ v, v ∈ xs ∧ atI xs k = some v := by
  have hk : k.toNat < xs.length := by omega
  exact ⟨xs[k.toNat], List.getElem_mem hk, at_of (j := k.toNat) (by omega) (List.getElem?_eq_getElem hk)⟩
theorem int_mem {ns : List Int} {v : V} (h : v ∈ ns.map V.int) : ∃ c, c ∈ ns ∧ v = .int c := by
  obtain ⟨c, hc, e⟩ := List.mem_map.mp h
  exact ⟨c, hc, e.symm⟩
structure Blt (mg : Str → Option Value) : Prop where
  b_abs : mg "abs" = none
  b_all : mg "all" = none
  b_bool : mg "bool" = none
  b_int : mg "int" = none
  b_isinstance : mg "isinstance" = none
  b_len : mg "len" = none
  b_list : mg "list" = none
  b_max : mg "max" = none
  b_min : mg "min" = none
  b_range : mg "range" = none
  b_str : mg "str" = none
  b_tuple : mg "tuple" = none
  b_zip : mg "zip" = none
local macro_rules | `(tactic| walk_at "ev1") => `(tactic| first
  | with_reducible assumption
  | ((with_reducible show _ = _); exact rfl)
  | ((first | with_reducible show (_ : Int) < _ | with_reducible show (_ : Int) ≤ _ | with_reducible show (_ : Nat) < _ | with_reducible show (_ : Nat) ≤ _); first | omega | decide | (simp only [pw6, pw9]; omega) | (simp only [List.length_cons, List.length_nil, List.length_append, List.length_map, List.length_replicate]; omega))
  | assumption
  | exact upd_same
  | exact SqL.of upd_same
  | exact Or.inl (SqL.of upd_same)
  | exact Or.inl (by assumption)
  | exact Or.inr (by assumption)
  | omega
  | exact (show CDiv _ _ from ⟨by omega, by omega⟩)
  | exact (show CPow _ _ from ⟨by omega, by omega, by omega⟩)
  | exact (show CMul _ _ from .inl ⟨by omega, by omega⟩)
  | exact (show CMul _ _ from .inr ⟨by omega, by omega⟩)
  | exact (show CMul _ _ from cmul_b)
  | exact (show CDivW _ _ from wide_div (b := 31) (by omega) (by omega) (by decide) (by decide))
  | exact (Or.inl ⟨rfl, _, SqL.of (by assumption)⟩)
  | exact ClsV.ty _
  | exact .cons (.ty _) (.cons (.ty _) .nil)
  | (refine szl ?_; simp only [List.length_cons, List.length_nil, List.length_append, List.length_map, List.length_replicate]; omega)
  | (refine szm ?_; simp only [List.length_cons, List.length_nil, List.length_append, List.length_map, List.length_replicate]; omega))
local macro_rules | `(tactic| walk_at "s") => `(tactic| (first
  | (refine And.intro ?l ?_; (case l => walk_at "ev1"))
  | with_reducible refine iteT ?_
  | with_reducible refine iteF ?_
  | with_reducible refine ite_dec rfl ?_
  | with_reducible refine iteNS rfl ?_
  | with_reducible refine iteNS (by assumption) ?_
  | (apply Or.inl; apply Exists.intro; apply And.intro rfl)
  | (apply Or.inr; apply Exists.intro; apply And.intro rfl)
  | ((fail_if_success (refine @Exists.intro (Nat → Nat → L2.St → Hp → Prop) _ ?_ ?_)); (fail_if_success (refine @Exists.intro (Nat → L2.St → Hp → Prop) _ ?_ ?_)); (fail_if_success (refine @Exists.intro (L2.St → Hp → Prop) _ ?_ ?_)); (fail_if_success (refine @Exists.intro (Hp → Prop) _ ?_ ?_)); (fail_if_success (refine @Exists.intro (Nat → Nat → Hp → Prop) _ ?_ ?_)); apply Exists.intro)))
local macro_rules | `(tactic| walk_at "ev") => `(tactic| repeat (walk_at "s"))
/-! ### the drawing -/
abbrev s__law_take : Stmt := top 6
abbrev N__law_take : List Str := ["_law_box_here", "_law_top", "_law_found", "_law_once"]
abbrev P__law_take : List Str := ["_law_box_here", "_law_top"]
theorem sc__law_take : FnScope N__law_take P__law_take (defScope s__law_take) := ⟨rfl, rfl, rfl, by decide +kernel, rfl, by decide +kernel, by decide +kernel⟩
def spTake : Sp := fun vs H Q _ => ∃ (b : Addr) (top n : Int), vs = [.ref b, .int top] ∧ BoxAt H b n ∧ 0 < top ∧ top < 1073741824 ∧ n < 1048576 ∧ ∀ r H', 0 ≤ r → r < top → Keep b H H' → BoxAt H' b (n + 1) → Q (.int r) H'
section
variable {P : Program} {w : World} {K : PySem.W.Frag} {mg : Str → Option Value} {base : Heap}
theorem ok_take {f : Addr} {fd : FuncData} {k : Nat} (F : Fun K "_law_take" "_law_take" s__law_take f fd) : FnOk P w K mg base CX0 (k + 1) f fd P__law_take spTake := by
  have nd := sc__law_take.nd
  refine F.ok sc__law_take (fun vs H Q E h => ?_) (fun cdv A outer s H vs Q E hr h => ?_)
  · obtain ⟨b, top, n, rfl, _⟩ := h
    rfl
  · obtain ⟨b, top, n, rfl, ⟨x, y, z, hb, hx, hy, hy2, hz, hzn⟩, ht, ht2, hn, q⟩ := h
    refine ⟨_, (pss_cons (ps_if (pt_cmpR op_gt (pe_ix (r := rIxL K) ix_list (pv 0) (pe_int) (fun _ _ => rfl)) (pe_int) (nomark _)) (pss_cons (ps_set (i := 2) nd rfl (Or.inl rfl) (pe_op op_mod (pe_ix (r := rIxL K) ix_list (pv 0) (pe_int) (fun _ _ => rfl)) (pv 1)))
      (pss_cons (ps_asg (pe_op op_fdiv (pe_ix (r := rIxL K) ix_list (pv 0) (pe_int) (fun _ _ => rfl)) (pv 1)) (pg_sub (pv 0) (pe_int) set_list))
      (pss_one (ps_ret (pv 2))))) pss_nil)
      (pss_cons (ps_asg (pe_op op_add (pe_ix (r := rIxL K) ix_list (pv 0) (pe_int) (fun _ _ => rfl)) (pe_int)) (pg_sub (pv 0) (pe_int) set_list))
      (pss_cons (ps_set (i := 3) nd rfl (Or.inl rfl) (pe_op op_mod (pe_op op_pow (pe_op op_add (pe_ix (r := rIxL K) ix_list (pv 0) (pe_int) (fun _ _ => rfl)) (pe_op op_mul (pe_int) (pe_ix (r := rIxL K) ix_list (pv 0) (pe_int) (fun _ _ => rfl)))) (pe_int)) (pe_int)))
      (pss_one (ps_ret (pe_op op_mod (pe_op op_fdiv (pe_op op_mod (pe_op op_add (pe_op op_mul (pv 3) (pe_op op_add (pe_op op_mod (pv 3) (pe_int)) (pe_int))) (pe_op op_mul (pe_ix (r := rIxL K) ix_list (pv 0) (pe_int) (fun _ _ => rfl)) (pe_int))) (pe_int)) (pe_int)) (pv 1))))))), ?_⟩
    have hL : SqL K H b [.int x, .int y, .int z] := SqL.of hb
    walk_at "ev"
    refine ite2 (fun e => ?_) (fun e => ?_)
    · have e1 : 0 < x := of_decide_eq_true e
      walk_at "ev"
      exact q _ _ (Int.emod_nonneg _ (by omega)) (Int.emod_lt_of_pos _ ht) (keep_upd (Keep.refl _ _)) ⟨_, _, _, upd_same, Int.ediv_nonneg hx (by omega), hy, hy2, hz, by omega⟩
    · walk_at "ev"
      exact q _ _ (Int.emod_nonneg _ (by omega)) (Int.emod_lt_of_pos _ ht) (keep_upd (Keep.refl _ _)) ⟨_, _, _, upd_same, hx, hy, hy2, by omega, by omega⟩
end
abbrev s__law_pick : Stmt := top 7
abbrev N__law_pick : List Str := ["_law_box_here", "_law_things"]
abbrev P__law_pick : List Str := ["_law_box_here", "_law_things"]
theorem sc__law_pick : FnScope N__law_pick P__law_pick (defScope s__law_pick) := ⟨rfl, rfl, rfl, by decide +kernel, rfl, by decide +kernel, by decide +kernel⟩
def spPick (K : PySem.W.Frag) : Sp := fun vs H Q _ => ∃ (b a : Addr) (xs : List V) (n : Int), vs = [.ref b, .ref a] ∧ BoxAt H b n ∧ SqL K H a xs ∧ a ≠ b ∧ 0 < (xs.length : Int) ∧ (xs.length : Int) < 1048576 ∧ n < 1048576 ∧ ∀ v H', v ∈ xs → Keep b H H' → BoxAt H' b (n + 1) → Q v H'
section
variable {P : Program} {w : World} {K : PySem.W.Frag} {mg : Str → Option Value} {base : Heap}
theorem ok_pick {f fT : Addr} {fd fdT : FuncData} {k : Nat} (F : Fun K "_law_pick" "_law_pick" s__law_pick f fd) (T : Blt mg) (D__law_take : Df K mg "_law_take" s__law_take P__law_take fT fdT) : FnOk P w K mg base CX0 (k + 2) f fd P__law_pick (spPick K) := by
  have G__law_take : FnOk P w K mg base CX0 (k + 1) fT fdT P__law_take spTake := ok_take D__law_take.F
  have nd := sc__law_pick.nd
  refine F.ok sc__law_pick (fun vs H Q E h => ?_) (fun cdv A outer s H vs Q E hr h => ?_)
  · obtain ⟨b, a, xs, n, rfl, _⟩ := h
    rfl
  · obtain ⟨b, a, xs, n, rfl, hb, hL, hne, h0, h1, hn, q⟩ := h
    refine ⟨_, (pss_one (ps_ret (pe_ix (r := rIxL K) ix_list (pv 1) (pe_call G__law_take (hr.mono (by omega)) (by rfl) D__law_take.g D__law_take.F.kp D__law_take.b .nil pass0 (pa_cons (pv 0) (pa_cons (pe_callB (r := rLenQ K) call_len_seq (by rfl) T.b_len (by decide +kernel) (pa_cons (pv 1) pa_nil)) pa_nil))) (fun _ _ => rfl)))), ?_⟩
    walk_at "ev"
    intro r H' hr0 hr1 hk hb'
    obtain ⟨v, hv, hat⟩ := at_some hr0 hr1
    have hL' := hk.seq hne hL
    walk_at "ev"
    exact q _ _ hv hk hb'
end
abbrev s__law_box : Stmt := top 5
abbrev N__law_box : List Str := ["_law_script", "_law_k", "_law_cell"]
abbrev P__law_box : List Str := ["_law_script", "_law_k"]
theorem sc__law_box : FnScope N__law_box P__law_box (defScope s__law_box) := ⟨rfl, rfl, rfl, by decide +kernel, rfl, by decide +kernel, by decide +kernel⟩
def spBox (K : PySem.W.Frag) : Sp := fun vs H Q _ => ∃ (a : Addr) (ns : List Int) (k : Int), vs = [.ref a, .int k] ∧ SqL K H a (ns.map V.int) ∧ 0 ≤ k ∧ k ≤ 100000 ∧ ∀ p H', H p = none → Same H H' → BoxAt H' p 0 → Q (.ref p) H'
section
variable {P : Program} {w : World} {K : PySem.W.Frag} {mg : Str → Option Value} {base : Heap}
theorem ok_box {f : Addr} {fd : FuncData} {k : Nat} (F : Fun K "_law_box" "_law_box" s__law_box f fd) (T : Blt mg) : FnOk P w K mg base CX0 (k + 1) f fd P__law_box (spBox K) := by
  have nd := sc__law_box.nd
  refine F.ok sc__law_box (fun vs H Q E h => ?_) (fun cdv A outer s H vs Q E hr h => ?_)
  · obtain ⟨b, top, n, rfl, _⟩ := h
    rfl
  · obtain ⟨a, ns, k, rfl, hL, h0, h1, q⟩ := h
    refine ⟨_, (pss_cons (ps_set (i := 2) nd rfl (Or.inl rfl) (pe_int))
      (pss_cons (ps_if (pt_cmpR op_lt (pv 1) (pe_callB (r := rLenQ K) call_len_seq (by rfl) T.b_len (by decide +kernel) (pa_cons (pv 0) pa_nil)) (nomark _)) (pss_one (ps_set (i := 2) nd rfl (Or.inl rfl) (pe_ix (r := rIxL K) ix_list (pv 0) (pv 1) (fun _ _ => rfl)))) pss_nil)
      (pss_one (ps_ret (pe_lst (pa_cons (pe_op op_mul (pe_callB call_abs (by rfl) T.b_abs (by decide +kernel) (pa_cons (pv 2) pa_nil)) (pe_callTy call_int1 (by rfl) T.b_int (by decide +kernel) (pa_cons (pe_cmpR op_ge (pe_callB call_abs (by rfl) T.b_abs (by decide +kernel) (pa_cons (pv 2) pa_nil)) (pe_op op_pow (pe_int) (pe_int)) (nomark _)) pa_nil))) (pa_cons (pe_op op_add (pe_op op_add (pe_op op_mod (pv 2) (pe_int)) (pe_op op_mul (pe_int) (pv 1))) (pe_int)) (pa_cons (pe_int) pa_nil)))))))), ?_⟩
    have fin : ∀ c : Int, ∀ p, H p = none → Q (.ref p) (upd H p (.lst [.int ((if c < 0 then -c else c) * (if decide ((10 : Int) ^ 18 ≤ if c < 0 then -c else c) then 1 else 0)), .int (c % 2147483629 + 7919 * k + 11), .int 0])) := by
      intro c p hp
      refine q p _ hp (same_new hp) ⟨_, _, _, upd_same, ?_, ?_, ?_, by omega, by omega⟩
      · refine Int.mul_nonneg ?_ ?_
        · split <;> omega
        · split <;> omega
      · have := Int.emod_nonneg c (show (2147483629 : Int) ≠ 0 by decide)
        omega
      · have := Int.emod_lt_of_pos c (show (0 : Int) < 2147483629 by decide)
        omega
    walk_at "ev"
    refine ite2 (fun e => ?_) (fun e => ?_)
    · have e1 : k < ((ns.map V.int).length : Int) := of_decide_eq_true e
      rw [List.length_map] at e1
      obtain ⟨c, hc, hat⟩ := at_ints h0 e1
      walk_at "ev"
      exact fin c
    · walk_at "ev"
      exact fin 0
end
abbrev s__law_number : Stmt := top 9
abbrev N__law_number : List Str := ["_law_box_here", "_law_some"]
abbrev P__law_number : List Str := ["_law_box_here"]
theorem sc__law_number : FnScope N__law_number P__law_number (defScope s__law_number) := ⟨rfl, rfl, rfl, by decide +kernel, rfl, by decide +kernel, by decide +kernel⟩
def spNumber : Sp := fun vs H Q _ => ∃ (b : Addr) (n : Int), vs = [.ref b] ∧ BoxAt H b n ∧ n < 1000000 ∧ ∀ r H', 0 ≤ r → r ≤ 1000000 → Keep b H H' → BoxAt H' b (n + 8) → Q (.int r) H'
theorem two_pow17 {r : Int} (h0 : 0 ≤ r) (h : r < 18) : 0 ≤ (2 : Int) * 2 ^ r.toNat ∧ (2 : Int) * 2 ^ r.toNat ≤ 1000000 := by
  have h1 : (2 : Nat) ^ r.toNat ≤ 2 ^ 17 := Nat.pow_le_pow_right (by decide) (by omega)
  have h2 : ((2 : Int) ^ r.toNat) = (((2 : Nat) ^ r.toNat : Nat) : Int) := by
    rw [Int.natCast_pow]
    rfl
  rw [h2]
  have h4 : 0 < (2 : Nat) ^ r.toNat := Nat.pow_pos (by decide)
  have h3 : (2 : Nat) ^ 17 = 131072 := by decide
  omega
theorem mul30 {a b c : Int} (a0 : 0 ≤ a) (a1 : a < 30) (b0 : 0 ≤ b) (b1 : b < 30) (c0 : 0 ≤ c) (c1 : c < 30) : 0 ≤ (a + 1) * (b + 1) * (c + 1) ∧ (a + 1) * (b + 1) * (c + 1) ≤ 1000000 := by
  have h1 : 0 ≤ (a + 1) * (b + 1) := Int.mul_nonneg (by omega) (by omega)
  have h2 : (a + 1) * (b + 1) ≤ 30 * 30 := Int.mul_le_mul (by omega) (by omega) (by omega) (by omega)
  refine ⟨Int.mul_nonneg h1 (by omega), ?_⟩
  have h3 : (a + 1) * (b + 1) * (c + 1) ≤ (30 * 30) * 30 := Int.mul_le_mul h2 (by omega) (by omega) (by omega)
  omega
section
variable {P : Program} {w : World} {K : PySem.W.Frag} {mg : Str → Option Value} {base : Heap}
theorem ok_number {f fT fP : Addr} {fd fdT fdP : FuncData} {k : Nat} (F : Fun K "_law_number" "_law_number" s__law_number f fd) (T : Blt mg) (D__law_take : Df K mg "_law_take" s__law_take P__law_take fT fdT) (D__law_pick : Df K mg "_law_pick" s__law_pick P__law_pick fP fdP) : FnOk P w K mg base CX0 (k + 3) f fd P__law_number spNumber := by
  have G__law_take : FnOk P w K mg base CX0 (k + 1) fT fdT P__law_take spTake := ok_take D__law_take.F
  have G__law_pick : FnOk P w K mg base CX0 (k + 2) fP fdP P__law_pick (spPick K) := ok_pick D__law_pick.F T D__law_take
  have nd := sc__law_number.nd
  refine F.ok sc__law_number (fun vs H Q E h => ?_) (fun cdv A outer s H vs Q E hr h => ?_)
  · obtain ⟨b, n, rfl, _⟩ := h
    rfl
  · obtain ⟨b, n, rfl, hb, hn, q⟩ := h
    refine ⟨_, (pss_cons (ps_set (i := 1) nd rfl (Or.inl rfl) (pe_lst (pa_cons (pe_call G__law_take (hr.mono (by omega)) (by rfl) D__law_take.g D__law_take.F.kp D__law_take.b .nil pass0 (pa_cons (pv 0) (pa_cons (pe_int) pa_nil))) (pa_cons (pe_call G__law_take (hr.mono (by omega)) (by rfl) D__law_take.g D__law_take.F.kp D__law_take.b .nil pass0 (pa_cons (pv 0) (pa_cons (pe_int) pa_nil))) (pa_cons (pe_call G__law_take (hr.mono (by omega)) (by rfl) D__law_take.g D__law_take.F.kp D__law_take.b .nil pass0 (pa_cons (pv 0) (pa_cons (pe_op op_add (pe_op op_pow (pe_int) (pe_int)) (pe_int)) pa_nil))) (pa_cons (pe_op op_shl (pe_int) (pe_call G__law_take (hr.mono (by omega)) (by rfl) D__law_take.g D__law_take.F.kp D__law_take.b .nil pass0 (pa_cons (pv 0) (pa_cons (pe_int) pa_nil)))) (pa_cons (pe_op op_pow (pe_int) (pe_int)) pa_nil)))))))
      (pss_cons (ps_set (i := 1) nd rfl (Or.inl rfl) (pe_op op_cat (pv 1) (pe_lst (pa_cons (pe_op op_mul (pe_op op_mul (pe_op op_add (pe_call G__law_take (hr.mono (by omega)) (by rfl) D__law_take.g D__law_take.F.kp D__law_take.b .nil pass0 (pa_cons (pv 0) (pa_cons (pe_int) pa_nil))) (pe_int)) (pe_op op_add (pe_call G__law_take (hr.mono (by omega)) (by rfl) D__law_take.g D__law_take.F.kp D__law_take.b .nil pass0 (pa_cons (pv 0) (pa_cons (pe_int) pa_nil))) (pe_int))) (pe_op op_add (pe_call G__law_take (hr.mono (by omega)) (by rfl) D__law_take.g D__law_take.F.kp D__law_take.b .nil pass0 (pa_cons (pv 0) (pa_cons (pe_int) pa_nil))) (pe_int))) (pa_cons (pe_int) (pa_cons (pe_op op_mul (pe_int) (pe_int)) pa_nil))))))
      (pss_one (ps_ret (pe_call G__law_pick (hr.mono (by omega)) (by rfl) D__law_pick.g D__law_pick.F.kp D__law_pick.b .nil pass0 (pa_cons (pv 0) (pa_cons (pv 1) pa_nil))))))), ?_⟩
    walk_at "ev"
    intro r1 H1 l1 u1 k1 b1
    walk_at "ev"
    intro r2 H2 l2 u2 k2 b2
    walk_at "ev"
    intro r3 H3 l3 u3 k3 b3
    walk_at "ev"
    intro r4 H4 l4 u4 k4 b4
    walk_at "ev"
    intro p hp
    generalize hG : upd _ p _ = H4'
    obtain ⟨sm, hp4⟩ := newO hG hp
    have np := b4.ne hp
    have b4' := b4.same sm
    walk_at "ev"
    intro r5 H5 l5 u5 k5 b5
    walk_at "ev"
    intro r6 H6 l6 u6 k6 b6
    walk_at "ev"
    intro r7 H7 l7 u7 k7 b7
    have hp7 := k7 _ _ np (k6 _ _ np (k5 _ _ np hp4))
    have m1 : CMul (r5 + 1) (r6 + 1) := .inl ⟨by omega, by omega⟩
    have m2 : CMul ((r5 + 1) * (r6 + 1)) (r7 + 1) := .inr ⟨by omega, by omega⟩
    walk_at "ev"
    intro p2 hp2
    generalize hG : upd _ p2 _ = H8
    obtain ⟨sm8, hp8⟩ := newO hG hp2
    have hp9 := sm8 _ _ hp7
    walk_at "ev"
    intro p3 hp3
    generalize hG : upd _ p3 _ = H9
    obtain ⟨sm9, hp10⟩ := newO hG hp3
    have b9 := (b7.same sm8).same sm9
    have n3 := (b7.same sm8).ne hp3
    have hL := SqL.of (K := K) hp10
    walk_at "ev"
    intro v H10 hv k10 b10
    have kk : Keep b H H10 := (k1.trans (k2.trans (k3.trans (k4.trans ((keepS sm).trans (k5.trans (k6.trans (k7.trans ((keepS sm8).trans ((keepS sm9).trans k10))))))))))
    have t1 := two_pow17 l4 u4
    have t2 := mul30 l5 u5 l6 u6 l7 u7
    rw [pw6] at u3
    simp only [List.cons_append, List.nil_append, List.mem_cons, List.not_mem_nil, or_false, pw6] at hv
    rcases hv with h | h | h | h | h | h | h | h <;> (rw [h]; refine q _ _ ?_ ?_ kk (b10.mono (by omega)))
    all_goals first | omega | exact t1.1 | exact t1.2 | exact t2.1 | exact t2.2 | decide
end
/-! ### the mathematics of primes -/
def Rough (n d : Int) : Prop := ∀ e : Int, 2 ≤ e → e < d → ¬ e ∣ n
inductive Fac : Int → List Int → Prop
  | one : Fac 1 []
  | cons {n p q : Int} {ps : List Int} : 2 ≤ p → n = p * q → 1 ≤ q → Rough n p → Fac q ps → Fac n (p :: ps)
theorem Fac.uniq : ∀ {n : Int} {xs ys : List Int}, Fac n xs → Fac n ys → xs = ys := by
  intro n xs ys h
  induction h generalizing ys with
  | one =>
    intro k
    cases k with
    | one => rfl
    | cons h1 h2 h3 h4 h5 =>
      rename_i p q ps
      have : 2 * 1 ≤ p * q := Int.mul_le_mul h1 h3 (by omega) (by omega)
      omega
  | cons h1 h2 h3 h4 h5 ih =>
    rename_i n p q ps
    intro k
    cases k with
    | one =>
      have : 2 * 1 ≤ p * q := Int.mul_le_mul h1 h3 (by omega) (by omega)
      omega
    | cons g1 g2 g3 g4 g5 =>
      rename_i p' q' ps'
      have e : p = p' := by
        rcases Int.lt_trichotomy p p' with l | l | l
        · exact absurd ⟨q, h2⟩ (g4 p h1 l)
        · exact l
        · exact absurd ⟨q', g2⟩ (h4 p' g1 l)
      subst e
      have e2 : q = q' := by
        have : p * q = p * q' := by omega
        exact Int.eq_of_mul_eq_mul_left (by omega) this
      subst e2
      rw [ih g5]
theorem Fac.len1 {n : Int} {xs : List Int} (h : Fac n xs) (e : xs.length = 1) : xs = [n] := by
  cases h with
  | one => simp at e
  | cons h1 h2 h3 h4 h5 =>
    rename_i p q ps
    have : ps = [] := by
      cases ps with
      | nil => rfl
      | cons a r => simp at e
    subst this
    cases h5 with
    | one =>
      rw [h2, Int.mul_one]
theorem Fac.self {n : Int} (h : 2 ≤ n) (r : Rough n n) : Fac n [n] := .cons h (by omega) (by omega) r .one
theorem Rough.of_fac {n : Int} (h : Fac n [n]) : 2 ≤ n ∧ Rough n n := by
  cases h with
  | cons h1 h2 h3 h4 h5 => exact ⟨h1, h4⟩
theorem Rough.step {n d : Int} (h : Rough n d) (e : ¬ d ∣ n) : Rough n (d + 1) := fun c h1 h2 => by
  by_cases q : c = d
  · rw [q]; exact e
  · exact h c h1 (by omega)
theorem Rough.quot {n p q d : Int} (h : Rough n d) (e : n = p * q) : Rough q d := fun c h1 h2 k => h c h1 h2 (by rw [e]; exact Int.dvd_trans k (Int.dvd_mul_left p q))
/-- nothing below d divides n, d squared is above n: n has no divisor at all -/
theorem Rough.top {n d : Int} (h : Rough n d) (hd : 2 ≤ d) (hn : 2 ≤ n) (e : n < d * d) : Rough n n := fun c h1 h2 k => by
  obtain ⟨q, hq⟩ := k
  by_cases hc : c < d
  · exact h c h1 hc ⟨q, hq⟩
  · have hq0 : 0 < q := by
      apply Int.lt_of_not_ge
      intro z
      have : c * q ≤ 0 := Int.mul_nonpos_of_nonneg_of_nonpos (by omega) z
      omega
    have hq1 : q ≠ 1 := by
      intro z
      rw [z] at hq
      omega
    have hqd : q < d := by
      apply Int.lt_of_not_ge
      intro z
      have : d * d ≤ c * q := Int.mul_le_mul (by omega) z (by omega) (by omega)
      omega
    exact h q (by omega) hqd ⟨c, by rw [hq, Int.mul_comm]⟩
theorem dvd_iff {n d : Int} : n % d = 0 ↔ d ∣ n := ⟨Int.dvd_of_emod_eq_zero, Int.emod_eq_zero_of_dvd⟩
/-- a divisor taken out -/
theorem Fac.out {n num d : Int} {found : List Int} (h : ∀ ps, Fac num ps → Fac n (found ++ ps)) (hd : 2 ≤ d) (h1 : 1 ≤ num) (r : Rough num d) (e : num % d = 0) :
    (∀ ps, Fac (num / d) ps → Fac n ((found ++ [d]) ++ ps)) ∧ 1 ≤ num / d ∧ Rough (num / d) d ∧ 2 * (num / d) ≤ num := by
  have e1 : num = d * (num / d) := (Int.mul_ediv_cancel' (Int.dvd_of_emod_eq_zero e)).symm
  generalize num / d = q at *
  have q0 : 0 < q := by
    apply Int.lt_of_not_ge
    intro z
    have : d * q ≤ 0 := Int.mul_nonpos_of_nonneg_of_nonpos (by omega) z
    omega
  refine ⟨fun ps f => ?_, q0, r.quot e1, ?_⟩
  · rw [List.append_assoc]
    exact h _ (.cons hd e1 q0 r f)
  · have : 2 * q ≤ d * q := Int.mul_le_mul_of_nonneg_right hd (by omega)
    omega
theorem pow_len {L : Nat} {num n : Int} (h : 2 ^ L * num.toNat ≤ n.toNat) (h1 : 1 ≤ num) (hn : n ≤ 1000000000) : L ≤ 30 := by
  apply Nat.le_of_not_gt
  intro z
  have a : 2 ^ 31 ≤ 2 ^ L := Nat.pow_le_pow_right (by decide) z
  have b : 2 ^ L * 1 ≤ 2 ^ L * num.toNat := Nat.mul_le_mul_left _ (by omega)
  have h31 : (2 : Nat) ^ 31 = 2147483648 := by decide
  omega
theorem pow_step {L : Nat} {num q n : Int} (h : 2 ^ L * num.toNat ≤ n.toNat) (e : 2 * q ≤ num) : 2 ^ (L + 1) * q.toNat ≤ n.toNat := by
  have : 2 ^ (L + 1) * q.toNat = 2 ^ L * (2 * q.toNat) := by rw [Nat.pow_succ, Nat.mul_assoc]
  rw [this]
  exact Nat.le_trans (Nat.mul_le_mul_left _ (by omega)) h
/-! ### kinds of things -/
inductive Kd (K : PySem.W.Frag) (H : Hp) : V → String → Prop
  | non : Kd K H .non "NoneType"
  | bl (b : Bool) : Kd K H (.bl b) "bool"
  | int (i : Int) : Kd K H (.int i) "int"
  | str (x : Str) : Kd K H (.str x) "str"
  | lst {a : Addr} {xs : List V} : SqL K H a xs → Kd K H (.ref a) "list"
  | tup {a : Addr} {xs : List V} : SqT K H a xs → Kd K H (.ref a) "tuple"
theorem Kd.ty {K : PySem.W.Frag} {H : Hp} {x : V} {t : String} (h : Kd K H x t) : TyX K H x (.type t) := by
  cases h with
  | non => exact .base .non
  | bl b => exact .base (.bl b)
  | int i => exact .base (.int i)
  | str x => exact .base (.str x)
  | lst h =>
    rcases h with (h | ⟨o, h⟩) | ⟨o, its, n, h1, h2, _⟩
    · exact .base (.lst h)
    · exact .base (.frz h)
    · exact .kList h1 h2
  | tup h =>
    rcases h with (h | ⟨o, h⟩) | ⟨o, its, n, h1, h2, _⟩
    · exact .base (.tup h)
    · exact .fTuple h
    · exact .kTuple h1 h2
theorem Kd.same {K : PySem.W.Frag} {H H' : Hp} {x : V} {t : String} (h : Kd K H x t) (e : Same H H') : Kd K H' x t := by
  cases h with
  | non => exact .non
  | bl b => exact .bl b
  | int i => exact .int i
  | str x => exact .str x
  | lst h => exact .lst (e.seq h)
  | tup h => exact .tup (same_t e h)
def tis (t c : String) : Bool := t == c || (t == "bool" && c == "int")
theorem Kd.kit {K : PySem.W.Frag} {H : Hp} {x : V} {t : String} (h : Kd K H x t) : PySem.W.kitOne K (.type t) (.type "int") = some (tis t "int") ∧ PySem.W.kitOne K (.type t) (.type "bool") = some (tis t "bool") ∧ PySem.W.kitOne K (.type t) (.type "str") = some (tis t "str") ∧ PySem.W.kitOne K (.type t) (.type "list") = some (tis t "list") ∧ PySem.W.kitOne K (.type t) (.type "tuple") = some (tis t "tuple") := by
  cases h <;> exact ⟨kit_ty (by decide +kernel), kit_ty (by decide +kernel), kit_ty (by decide +kernel), kit_ty (by decide +kernel), kit_ty (by decide +kernel)⟩
theorem kit_lt {K : PySem.W.Frag} {t : String} {a b : Bool} (h1 : PySem.W.kitOne K (.type t) (.type "list") = some a) (h2 : PySem.W.kitOne K (.type t) (.type "tuple") = some b) : PySem.W.kitAny K (.type t) [.type "list", .type "tuple"] = some (a || b) := by
  refine kitAny_cons h1 (fun e => kitAny_cons h2 (fun e2 => ?_) (fun e2 => ?_)) (fun e => by rw [e]; rfl)
  · rw [e, e2]
    exact kitAny_nil
  · rw [e, e2]
    rfl
/-! ### == of lists of ints -/
theorem dp_ints {K : PySem.W.Frag} {H : Hp} : ∀ ns : List Int, DpAll K H (ns.map V.int) (ns.map PyData.int)
  | [] => .nil
  | n :: r => .cons (.int n) (dp_ints r)
theorem eqv_ints : ∀ ns ms : List Int, PyData.eqvAll (ns.map PyData.int) (ms.map PyData.int) = decide (ns = ms)
  | [], [] => by simp [PyData.eqvAll]
  | [], _ :: _ => by simp [PyData.eqvAll]
  | _ :: _, [] => by simp [PyData.eqvAll]
  | a :: r, b :: t => by
    simp only [List.map_cons, PyData.eqvAll, PyData.eqv, eqv_ints r t]
    by_cases h : a = b <;> by_cases h' : r = t <;> simp [h, h']
theorem eqd_ints {K : PySem.W.Frag} {H : Hp} {a b : Addr} {ns ms : List Int} {Q : VK} (ha : SqL K H a (ns.map V.int)) (hb : SqL K H b (ms.map V.int)) (q : Q (.bl (decide (ns = ms))) H) : rEqD K (.ref a) (.ref b) H Q := by
  refine ⟨_, _, .lst ha (dp_ints ns), .lst hb (dp_ints ms), PySem.W.ke_shaped_ints ns, PySem.W.ke_shaped_ints ms, ?_⟩
  have e : PyData.eqv (.list (ns.map PyData.int)) (.list (ms.map PyData.int)) = decide (ns = ms) := by
    rw [PyData.eqv]
    exact eqv_ints ns ms
  rw [e]
  exact q
abbrev s_is_whole : Stmt := top 1
abbrev N_is_whole : List Str := ["thing"]
abbrev P_is_whole : List Str := ["thing"]
theorem sc_is_whole : FnScope N_is_whole P_is_whole (defScope s_is_whole) := ⟨rfl, rfl, rfl, by decide +kernel, rfl, by decide +kernel, by decide +kernel⟩
def spWhole (K : PySem.W.Frag) : Sp := fun vs H Q _ => ∃ (x : V) (t : String), vs = [x] ∧ Kd K H x t ∧ Q (.bl (t == "int")) H
section
variable {P : Program} {w : World} {K : PySem.W.Frag} {mg : Str → Option Value} {base : Heap}
theorem ok_whole {f : Addr} {fd : FuncData} {k : Nat} (F : Fun K "is_whole" "is_whole" s_is_whole f fd) (T : Blt mg) : FnOk P w K mg base CX0 (k + 1) f fd P_is_whole (spWhole K) := by
  have nd := sc_is_whole.nd
  refine F.ok sc_is_whole (fun vs H Q E h => ?_) (fun cdv A outer s H vs Q E hr h => ?_)
  · obtain ⟨x, t, rfl, _⟩ := h
    rfl
  · obtain ⟨x, t, rfl, kd, q⟩ := h
    refine ⟨_, (pss_one (ps_ret (pe_and (pe_callB (r := rIsi K) call_isi (by rfl) T.b_isinstance (by decide +kernel) (pa_cons (pv 0) (pa_cons (pe_bltn (v := .ty "int") (by rfl) T.b_int (by decide +kernel) rfl) pa_nil))) (pe_one (pe_not (pe_callB (r := rIsi K) call_isi (by rfl) T.b_isinstance (by decide +kernel) (pa_cons (pv 0) (pa_cons (pe_bltn (v := .ty "bool") (by rfl) T.b_bool (by decide +kernel) rfl) pa_nil)))))))), ?_⟩
    have ty := kd.ty
    obtain ⟨k1, k2, k3, k4, k5⟩ := kd.kit
    walk_at "ev"
    cases kd
    all_goals (walk_at "ev"; exact q)
end
abbrev s_factors : Stmt := top 3
abbrev N_factors : List Str := ["number", "found", "divisor"]
abbrev P_factors : List Str := ["number"]
theorem sc_factors : FnScope N_factors P_factors (defScope s_factors) := ⟨rfl, rfl, rfl, by decide +kernel, rfl, by decide +kernel, by decide +kernel⟩
def spFactors : Sp := fun vs H Q _ => ∃ (n : Int), vs = [.int n] ∧ 1 ≤ n ∧ n ≤ 1000000000 ∧ ∀ xs p H', Fac n xs → H p = none → Same H H' → H' p = some (.lst (xs.map V.int)) → Q (.ref p) H'
section
variable {P : Program} {w : World} {K : PySem.W.Frag} {mg : Str → Option Value} {base : Heap}
theorem ok_factors {f : Addr} {fd : FuncData} {k : Nat} (F : Fun K "factors" "factors" s_factors f fd) : FnOk P w K mg base CX0 (k + 1) f fd P_factors spFactors := by
  have nd := sc_factors.nd
  refine F.ok sc_factors (fun vs H Q E h => ?_) (fun cdv A outer s H vs Q E hr h => ?_)
  · obtain ⟨n, rfl, _⟩ := h
    rfl
  · obtain ⟨n, rfl, hn1, hn2, q⟩ := h
    refine ⟨_, (pss_cons (ps_set (i := 1) nd rfl (Or.inl rfl) (pe_lst pa_nil))
      (pss_cons (ps_set (i := 2) nd rfl (Or.inl rfl) (pe_int))
      (pss_cons (ps_while PassesOwn.never (pt_cmpR op_le (pe_op op_mul (pv 2) (pv 2)) (pv 0) (nomark _))
      (pss_one (ps_if (pt_cmpR op_eq (pe_op op_mod (pv 0) (pv 2)) (pe_int) (nomark _)) (pss_cons (ps_expr (pe_bm PySem.F.plainAttrs_list PySem.F.slot_list_append PySem.F.type_list_append mt_append (pv 1) (pa_cons (pv 2) pa_nil)))
      (pss_one (ps_aug (i := 0) nd rfl (Or.inl rfl) (pv 2) iop_fdivW))) (pss_one (ps_aug (i := 2) nd rfl (Or.inl rfl) (pe_int) ip_add)))))
      (pss_cons (ps_if (pt_cmpR op_gt (pv 0) (pe_int) (nomark _)) (pss_one (ps_expr (pe_bm PySem.F.plainAttrs_list PySem.F.slot_list_append PySem.F.type_list_append mt_append (pv 1) (pa_cons (pv 0) pa_nil)))) pss_nil)
      (pss_one (ps_ret (pv 1))))))), ?_⟩
    walk_at "ev"
    intro p hp
    generalize hG : upd _ p _ = H1
    obtain ⟨sm, hp1⟩ := newO hG hp
    refine ⟨fun m σ H' => ∃ (num d : Int) (found : List Int), σ = [some (.int num), some (.ref p), some (.int d)] ∧ m = (num - d).toNat + num.toNat ∧ 1 ≤ num ∧ num ≤ n ∧ 2 ≤ d ∧ d ≤ n + 2 ∧ 2 ^ found.length * num.toNat ≤ n.toNat ∧ Rough num d ∧ (∀ ps, Fac num ps → Fac n (found ++ ps)) ∧ Same H H' ∧ H' p = some (.lst (found.map V.int)), ⟨_, n, 2, [], rfl, rfl, hn1, by omega, by omega, by omega, by simp, fun e h1 h2 => by omega, fun ps f => f, sm, hp1⟩, ?_⟩
    rintro m σ H' ⟨num, d, found, rfl, rfl, h1, h2, h3, h4, h5, hr', hf, sm', hp'⟩
    have hL := pow_len h5 h1 hn2
    have cm : CMul d d := .inl ⟨by omega, by omega⟩
    walk_at "ev"
    refine ite2 (fun e => ?_) (fun e => ?_)
    · have e1 : d * d ≤ num := of_decide_eq_true e
      refine ⟨_, holdN, ?_⟩
      walk_at "ev"
      refine ite2 (fun e2 => ?_) (fun e2 => ?_)
      · have e3 : num % d = 0 := V.int.inj (of_decide_eq_true e2)
        obtain ⟨o1, o2, o3, o4⟩ := Fac.out hf h3 h1 hr' e3
        walk_at "ev"
        refine .mk ⟨(num / d - d).toNat + (num / d).toNat, by omega, num / d, d, found ++ [d], rfl, rfl, o2, by omega, h3, h4, ?_, o3, o1, same_mut sm' hp, by rw [upd_same, List.map_append]; rfl⟩
        rw [List.length_append]
        exact pow_step h5 o4
      · have e3 : ¬ num % d = 0 := fun z => e2 (decide_eq_true (congrArg V.int z))
        have e4 : 2 * d ≤ d * d := Int.mul_le_mul_of_nonneg_right h3 (by omega)
        walk_at "ev"
        exact .mk ⟨(num - (d + 1)).toNat + num.toNat, by omega, num, d + 1, found, rfl, rfl, h1, h2, by omega, by omega, h5, hr'.step (fun z => e3 (dvd_iff.mpr z)), hf, sm', hp'⟩
    · have e1 : ¬ d * d ≤ num := fun z => e (decide_eq_true z)
      walk_at "ev"
      refine ite2 (fun e2 => ?_) (fun e2 => ?_)
      · have e3 : 1 < num := of_decide_eq_true e2
        walk_at "ev"
        refine q (found ++ [num]) _ _ (hf _ (Fac.self (by omega) (hr'.top h3 (by omega) (by omega)))) hp (same_mut sm' hp) (by rw [upd_same, List.map_append]; rfl)
      · have e3 : ¬ 1 < num := fun z => e2 (decide_eq_true z)
        have e4 : num = 1 := by omega
        walk_at "ev"
        subst e4
        have fin := hf [] .one
        rw [List.append_nil] at fin
        exact q found _ _ fin hp sm' hp'
end
abbrev s_is_prime : Stmt := top 2
abbrev N_is_prime : List Str := ["thing"]
abbrev P_is_prime : List Str := ["thing"]
theorem sc_is_prime : FnScope N_is_prime P_is_prime (defScope s_is_prime) := ⟨rfl, rfl, rfl, by decide +kernel, rfl, by decide +kernel, by decide +kernel⟩
def spPrime (K : PySem.W.Frag) : Sp := fun vs H Q _ => ∃ (x : V) (t : String), vs = [x] ∧ Kd K H x t ∧ (∀ n, x = .int n → n ≤ 1000000000) ∧ ∀ b H', Same H H' → (b = true ↔ ∃ n, x = .int n ∧ Fac n [n]) → Q (.bl b) H'
section
variable {P : Program} {w : World} {K : PySem.W.Frag} {mg : Str → Option Value} {base : Heap}
theorem ok_prime {f fW fF : Addr} {fd fdW fdF : FuncData} {k : Nat} (F : Fun K "is_prime" "is_prime" s_is_prime f fd) (T : Blt mg) (D_is_whole : Df K mg "is_whole" s_is_whole P_is_whole fW fdW) (D_factors : Df K mg "factors" s_factors P_factors fF fdF) : FnOk P w K mg base CX0 (k + 2) f fd P_is_prime (spPrime K) := by
  have G_is_whole : FnOk P w K mg base CX0 (k + 1) fW fdW P_is_whole (spWhole K) := ok_whole D_is_whole.F T
  have G_factors : FnOk P w K mg base CX0 (k + 1) fF fdF P_factors spFactors := ok_factors D_factors.F
  have nd := sc_is_prime.nd
  refine F.ok sc_is_prime (fun vs H Q E h => ?_) (fun cdv A outer s H vs Q E hr h => ?_)
  · obtain ⟨x, t, rfl, _⟩ := h
    rfl
  · obtain ⟨x, t, rfl, kd, hb, q⟩ := h
    refine ⟨_, (pss_one (ps_ret (pe_and (pe_call G_is_whole (hr.mono (by omega)) (by rfl) D_is_whole.g D_is_whole.F.kp D_is_whole.b .nil pass0 (pa_cons (pv 0) pa_nil)) (pe_and (pe_cmpR op_gt (pv 0) (pe_int) (nomark _)) (pe_one (pe_cmpR (r := rEqD K) (op_eqD hr.units) (pe_call G_factors (hr.mono (by omega)) (by rfl) D_factors.g D_factors.F.kp D_factors.b .nil pass0 (pa_cons (pv 0) pa_nil)) (pe_lst (pa_cons (pv 0) pa_nil)) (nomark _))))))), ?_⟩
    walk_at "ev"
    cases kd with
    | int n =>
      have hn := hb n rfl
      walk_at "ev"
      refine ite2 (fun e => ?_) (fun e => ?_)
      · have e1 : 1 < n := of_decide_eq_true e
        walk_at "ev"
        intro xs p H' hf hp sm hp'
        walk_at "ev"
        intro p2 hp2
        generalize hG : upd _ p2 _ = H2
        obtain ⟨sm2, hp3⟩ := newO hG hp2
        refine eqd_ints (ns := xs) (ms := [n]) (SqL.of (sm2 _ _ hp')) (SqL.of hp3) ?_
        refine q _ _ (sm.trans sm2) ?_
        rw [decide_eq_true_iff]
        constructor
        · intro z
          exact ⟨n, rfl, z ▸ hf⟩
        · rintro ⟨m, z, hm⟩
          cases z
          exact hf.uniq hm
      · have e1 : ¬ 1 < n := fun z => e (decide_eq_true z)
        refine q _ _ (Same.refl _) ⟨fun z => Bool.noConfusion z, ?_⟩
        rintro ⟨m, z, hm⟩
        cases z
        have := (Rough.of_fac hm).1
        omega
    | _ =>
      walk_at "ev"
      refine q _ _ (Same.refl _) ⟨fun z => Bool.noConfusion z, ?_⟩
      rintro ⟨m, z, hm⟩
      cases z
end
/-! ### the law's own comparing, of like things -/
abbrev s__law_same : Stmt := top 8
abbrev N__law_same : List Str := ["_law_found", "_law_due", "_law_one", "_law_two"]
abbrev P__law_same : List Str := ["_law_found", "_law_due"]
theorem sc__law_same : FnScope N__law_same P__law_same (defScope s__law_same) := ⟨rfl, rfl, rfl, by decide +kernel, rfl, by decide +kernel, by decide +kernel⟩
def Fit : Nat → PyData → Prop
  | 0, .list _ => False
  | 0, .tuple _ => False
  | n + 1, .list ds => ds.length ≤ 4000 ∧ ∀ e ∈ ds, Fit n e
  | n + 1, .tuple ds => ds.length ≤ 4000 ∧ ∀ e ∈ ds, Fit n e
  | _, .dict _ => False
  | _, _ => True
theorem dpall_len {K : PySem.W.Frag} {H : Hp} : ∀ {xs : List V} {ds : List PyData}, DpAll K H xs ds → xs.length = ds.length
  | _, _, .nil => rfl
  | _, _, .cons _ h => by rw [List.length_cons, List.length_cons, dpall_len h]
theorem dpall_get {K : PySem.W.Frag} {H : Hp} : ∀ {xs : List V} {ds : List PyData} {i : Nat} {x : V}, DpAll K H xs ds → xs[i]? = some x → ∃ d, ds[i]? = some d ∧ Dp K H x d
  | _, _, _, _, .nil, h => by simp at h
  | _, _, 0, _, .cons (d := d) h1 h2, h => ⟨d, rfl, by
      have e := Option.some.inj h
      rw [← e]
      exact h1⟩
  | _, _, i + 1, _, .cons h1 h2, h => dpall_get (i := i) h2 h
mutual
theorem dp_same {K : PySem.W.Frag} {H H' : Hp} (e : Same H H') : ∀ {x : V} {d : PyData}, Dp K H x d → Dp K H' x d
  | _, _, .non => .non
  | _, _, .bl b => .bl b
  | _, _, .int i => .int i
  | _, _, .str x => .str x
  | _, _, .lst h a => .lst (e.seq h) (dpall_same e a)
  | _, _, .tup h a => .tup (same_t e h) (dpall_same e a)
theorem dpall_same {K : PySem.W.Frag} {H H' : Hp} (e : Same H H') : ∀ {xs : List V} {ds : List PyData}, DpAll K H xs ds → DpAll K H' xs ds
  | _, _, .nil => .nil
  | _, _, .cons h a => .cons (dp_same e h) (dpall_same e a)
end
def spSame (K : PySem.W.Frag) (n : Nat) : Sp := fun vs H Q _ => ∃ (x y : V) (d : PyData), vs = [x, y] ∧ Dp K H x d ∧ Dp K H y d ∧ Fit n d ∧ ∀ H', Same H H' → Q (.bl true) H'
/-- a comprehension over pairs -/
theorem lc_pairs {J : It} {xs ys : List V} {g : TG} {tt : TT} {te : TE} {vs : List Nat} {σ : L2.St} {H1 : Hp} {D : Addr} {Qd : Hp → Prop} (Pv : Nat → Hp → Prop) (h0 : Pv 0 (upd H1 D (.lst [])))
    (hgo : ∀ i H, Pv i H → i < xs.length → J.go i H) (hy : ∀ i H v H', Pv i H → i < xs.length → J.yld i H v H' → ∃ T x y, v = .ref T ∧ H T = none ∧ H' = upd H T (.tup [x, y]) ∧ xs[i]? = some x ∧ ys[i]? = some y)
    (hst : ∀ H, Pv xs.length H → J.stop xs.length H)
    (hs : ∀ i x y T H H', xs[i]? = some x → ys[i]? = some y → Pv i H → H T = none → H' = upd H T (.tup [x, y]) → g (.ref T) (wipe σ vs) H' fun σ2 H2 => wipe σ2 vs = wipe σ vs ∧ tt σ2 H2 fun b H3 =>
      if b = true then te σ2 H3 fun y H4 => ∃ acc, H4 D = some (.lst acc) ∧ acc.length < sizeLine ∧ Pv (i + 1) (upd H4 D (.lst (acc ++ [y]))) else Pv (i + 1) H3) (hd : ∀ H, Pv xs.length H → Qd H) :
    ∃ W : Nat → Nat → Hp → Prop, (∃ m, W 0 m (upd H1 D (.lst []))) ∧ ∀ i m H, W i m H →
      (J.stop i H ∧ Qd H) ∨ (J.go i H ∧ ∃ Nx : Hp → Prop, (∀ H', Nx H' → ∃ m', m' < m ∧ W (i + 1) m' H') ∧ ∀ x H', J.yld i H x H' → g x (wipe σ vs) H' fun σ2 H2 => wipe σ2 vs = wipe σ vs ∧ tt σ2 H2 fun b H3 =>
        if b = true then te σ2 H3 fun y H4 => ∃ acc, H4 D = some (.lst acc) ∧ acc.length < sizeLine ∧ Nx (upd H4 D (.lst (acc ++ [y]))) else Nx H3) := by
  refine ⟨fun i m H => m = xs.length - i ∧ i ≤ xs.length ∧ Pv i H, ⟨xs.length, by simp, Nat.zero_le _, h0⟩, ?_⟩
  rintro i m H ⟨rfl, hi, p⟩
  by_cases hlt : i < xs.length
  · refine .inr ⟨hgo i H p hlt, Pv (i + 1), fun H' p' => ⟨xs.length - (i + 1), by omega, rfl, hlt, p'⟩, fun v H' yl => ?_⟩
    obtain ⟨T, x, y, rfl, hT, e, f1, f2⟩ := hy i H v H' p hlt yl
    exact hs i x y T H H' f1 f2 p hT e
  · have e : i = xs.length := by omega
    subst e
    exact .inl ⟨hst H p, hd H p⟩
theorem q_dec {Q : VK} {x : V} {H : Hp} (h : Q (.bl true) H) : Q (.bl (decide (x = x))) H := by
  rw [decide_eq_true rfl]
  exact h
theorem all_true : ∀ n : Nat, (List.replicate n true).all id = true
  | 0 => rfl
  | n + 1 => by
    rw [List.replicate_succ, List.all_cons, all_true n]
    rfl
section
variable {P : Program} {w : World} {K : PySem.W.Frag} {mg : Str → Option Value} {base : Heap}
theorem same_step {f : Addr} {fd : FuncData} {n : Nat} {spI : Sp} (D__law_same : Df K mg "_law_same" s__law_same P__law_same f fd) (T : Blt mg) (G__law_same : FnOk P w K mg base CX0 n f fd P__law_same spI) (hG : ∀ m, n = m + 1 → spI = spSame K m) : FnOk P w K mg base CX0 (n + 1) f fd P__law_same (spSame K n) := by
  have nd := sc__law_same.nd
  refine D__law_same.F.ok sc__law_same (fun vs H Q E h => ?_) (fun cdv A outer s H vs Q E hr h => ?_)
  · obtain ⟨x, y, d, rfl, _⟩ := h
    rfl
  · obtain ⟨x, y, d, rfl, hx, hy, hf, q⟩ := h
    refine ⟨_, (pss_cons (ps_if (pt_val (pe_callB (r := rIsiT K) call_isiT (by rfl) T.b_isinstance (by decide +kernel) (pa_cons (pv 1) (pa_cons (pe_tup (pa_cons (pe_bltn (v := .ty "list") (by rfl) T.b_list (by decide +kernel) rfl) (pa_cons (pe_bltn (v := .ty "tuple") (by rfl) T.b_tuple (by decide +kernel) rfl) pa_nil))) pa_nil)))) (pss_cons (ps_if (PW.pt (pw_or (pt_cmpR op_ne (pe_callB (r := rIsi K) call_isi (by rfl) T.b_isinstance (by decide +kernel) (pa_cons (pv 0) (pa_cons (pe_bltn (v := .ty "list") (by rfl) T.b_list (by decide +kernel) rfl) pa_nil))) (pe_callB (r := rIsi K) call_isi (by rfl) T.b_isinstance (by decide +kernel) (pa_cons (pv 1) (pa_cons (pe_bltn (v := .ty "list") (by rfl) T.b_list (by decide +kernel) rfl) pa_nil))) (nomark _)) (pw_or1 (pt_cmpR op_ne (pe_callB (r := rIsi K) call_isi (by rfl) T.b_isinstance (by decide +kernel) (pa_cons (pv 0) (pa_cons (pe_bltn (v := .ty "tuple") (by rfl) T.b_tuple (by decide +kernel) rfl) pa_nil))) (pe_callB (r := rIsi K) call_isi (by rfl) T.b_isinstance (by decide +kernel) (pa_cons (pv 1) (pa_cons (pe_bltn (v := .ty "tuple") (by rfl) T.b_tuple (by decide +kernel) rfl) pa_nil))) (nomark _))))) (pss_one (ps_ret (pe_bl))) pss_nil)
      (pss_cons (ps_if (pt_cmpR op_ne (pe_callB (r := rLenQ K) call_len_seq (by rfl) T.b_len (by decide +kernel) (pa_cons (pv 0) pa_nil)) (pe_callB (r := rLenQ K) call_len_seq (by rfl) T.b_len (by decide +kernel) (pa_cons (pv 1) pa_nil)) (nomark _)) (pss_one (ps_ret (pe_bl))) pss_nil)
      (pss_one (ps_ret (pe_callB (r := rAll K) (cr_all rfl) (by rfl) T.b_all (by decide +kernel) (pa_cons (pe_lc (own := [("_law_one", 2), ("_law_two", 3)]) (g := gTup K 2 (gCons (gName 2) (gCons (gName 3) gNil))) (by rfl) nd (RZ.pi_zipA (by rfl) T.b_zip (pa_cons (pv 0) (pa_cons (pv 1) pa_nil))) (blkOk_by (own := [("_law_one", 2), ("_law_two", 3)]) (N := N__law_same) (sc := defScope s__law_same) (by decide +kernel)) (fun _ _ _ _ _ => (pg_tup (by rfl) (pgs_cons (pg_name (i := 2) nd rfl (Or.inl rfl)) (pgs_cons (pg_name (i := 3) nd rfl (Or.inl rfl)) pgs_nil)))) (fun _ _ _ _ _ => pts_nil) (fun _ _ _ _ _ => (pe_call G__law_same (hr.mono (by omega)) (by rfl) D__law_same.g D__law_same.F.kp D__law_same.b .nil pass0 (pa_cons (pv 2) (pa_cons (pv 3) pa_nil))))) pa_nil)))))) pss_nil)
      (pss_cons (ps_if (PW.pt (pw_or (pt_cmpR op_isN (pv 1) (pe_non) (nomark _)) (pw_or1 (pt_val (pe_callB (r := rIsi K) call_isi (by rfl) T.b_isinstance (by decide +kernel) (pa_cons (pv 1) (pa_cons (pe_bltn (v := .ty "str") (by rfl) T.b_str (by decide +kernel) rfl) pa_nil))))))) (pss_one (ps_ret (pe_and (pe_cmpR op_eq (pv 0) (pv 1) (nomark _)) (pe_one (pe_cmpR op_eq (pe_callB (r := rIsi K) call_isi (by rfl) T.b_isinstance (by decide +kernel) (pa_cons (pv 0) (pa_cons (pe_bltn (v := .ty "str") (by rfl) T.b_str (by decide +kernel) rfl) pa_nil))) (pe_callB (r := rIsi K) call_isi (by rfl) T.b_isinstance (by decide +kernel) (pa_cons (pv 1) (pa_cons (pe_bltn (v := .ty "str") (by rfl) T.b_str (by decide +kernel) rfl) pa_nil))) (nomark _)))))) pss_nil)
      (pss_one (ps_ret (pe_and (pe_callB (r := rIsi K) call_isi (by rfl) T.b_isinstance (by decide +kernel) (pa_cons (pv 0) (pa_cons (pe_bltn (v := .ty "int") (by rfl) T.b_int (by decide +kernel) rfl) pa_nil))) (pe_and (pe_cmpR op_eq (pe_callB (r := rIsi K) call_isi (by rfl) T.b_isinstance (by decide +kernel) (pa_cons (pv 0) (pa_cons (pe_bltn (v := .ty "bool") (by rfl) T.b_bool (by decide +kernel) rfl) pa_nil))) (pe_callB (r := rIsi K) call_isi (by rfl) T.b_isinstance (by decide +kernel) (pa_cons (pv 1) (pa_cons (pe_bltn (v := .ty "bool") (by rfl) T.b_bool (by decide +kernel) rfl) pa_nil))) (nomark _)) (pe_one (pe_cmpR op_eq (pv 0) (pv 1) (nomark _))))))))), ?_⟩
    cases hx with
    | non =>
      cases hy
      walk_at "ev"
      intro p hp
      generalize hH : upd _ p _ = H1
      obtain ⟨sm, hp1⟩ := newO hH hp
      have kd : Kd K H1 .non "NoneType" := .non
      have ty := kd.ty
      obtain ⟨k1, k2, k3, k4, k5⟩ := kd.kit
      have ka := kit_lt k4 k5
      walk_at "ev"
      exact q_dec (q _ sm)
    | bl b =>
      cases hy
      walk_at "ev"
      intro p hp
      generalize hH : upd _ p _ = H1
      obtain ⟨sm, hp1⟩ := newO hH hp
      have kd : Kd K H1 (.bl b) "bool" := .bl b
      have ty := kd.ty
      obtain ⟨k1, k2, k3, k4, k5⟩ := kd.kit
      have ka := kit_lt k4 k5
      walk_at "ev"
      exact q_dec (q _ sm)
    | int i =>
      cases hy
      walk_at "ev"
      intro p hp
      generalize hH : upd _ p _ = H1
      obtain ⟨sm, hp1⟩ := newO hH hp
      have kd : Kd K H1 (.int i) "int" := .int i
      have ty := kd.ty
      obtain ⟨k1, k2, k3, k4, k5⟩ := kd.kit
      have ka := kit_lt k4 k5
      walk_at "ev"
      exact q_dec (q _ sm)
    | str z =>
      cases hy
      walk_at "ev"
      intro p hp
      generalize hH : upd _ p _ = H1
      obtain ⟨sm, hp1⟩ := newO hH hp
      have kd : Kd K H1 (.str z) "str" := .str z
      have ty := kd.ty
      obtain ⟨k1, k2, k3, k4, k5⟩ := kd.kit
      have ka := kit_lt k4 k5
      walk_at "ev"
      exact q_dec (q _ sm)
    | lst hs ha =>
      rename_i a xs ds
      cases hy with
      | lst ht hb =>
      rename_i b ys
      have el : ys.length = xs.length := (dpall_len hb).trans (dpall_len ha).symm
      have el' : V.int (xs.length : Int) = V.int (ys.length : Int) := by rw [el]
      cases n with
      | zero => exact hf.elim
      | succ n =>
      have hf' : ds.length ≤ 4000 ∧ ∀ e ∈ ds, Fit n e := hf
      have hS := hG n rfl
      subst hS
      walk_at "ev"
      intro p hp
      generalize hH : upd _ p _ = H1
      obtain ⟨sm, hp1⟩ := newO hH hp
      have hs1 := sm.seq hs
      have ht1 := sm.seq ht
      have kd : Kd K H1 (.ref a) "list" := .lst hs1
      have ty := kd.ty
      have kd' : Kd K H1 (.ref b) "list" := .lst ht1
      have ty' := kd'.ty
      obtain ⟨k1, k2, k3, k4, k5⟩ := kd.kit
      have ka := kit_lt k4 k5
      walk_at "ev"
      refine .inl ⟨hs1, ht1, fun D hD => ?_⟩
      refine lc_pairs (xs := xs) (ys := ys) (fun i H' => Hold (Same H1 H' ∧ H' D = some (.lst ((List.replicate i true).map V.bl)))) (.mk ⟨same_new hD, upd_same⟩) ?_ ?_ ?_ ?_ ?_
      · intro i H' hP hi
        obtain ⟨sm2, hD2⟩ := hP.un
        have hi2 : i < ys.length := by omega
        exact ⟨xs, ys, _, _, sm2.seq hs1, sm2.seq ht1, List.getElem?_eq_getElem hi, List.getElem?_eq_getElem hi2⟩
      · intro i H' v H'' hP hi yl
        obtain ⟨sm2, hD2⟩ := hP.un
        obtain ⟨T, x, y, e1, e2, e3, f1, f2⟩ := yl
        exact ⟨T, x, y, e1, e2, e3, f1 _ (sm2.seq hs1), f2 _ (sm2.seq ht1)⟩
      · intro H' hP
        obtain ⟨sm2, hD2⟩ := hP.un
        exact ⟨xs, ys, sm2.seq hs1, sm2.seq ht1, .inl (Nat.le_refl _)⟩
      · intro i x y T' H' H'' hx hy hP hT e
        obtain ⟨sm2, hD2⟩ := hP.un
        obtain ⟨sm3, hT3⟩ := newO e.symm hT
        have hT4 : SqT K H'' T' [x, y] := SqT.of hT3
        obtain ⟨d, hd, hdx⟩ := dpall_get ha hx
        obtain ⟨d', hd', hdy⟩ := dpall_get hb hy
        have ed : d' = d := Option.some.inj (hd'.symm.trans hd)
        subst ed
        have sm4 : Same H H'' := (sm.trans sm2).trans sm3
        have dx := dp_same sm4 hdx
        have dy := dp_same sm4 hdy
        have ft := hf'.2 _ (List.mem_of_getElem? hd)
        have hil : i < xs.length := (List.getElem?_eq_some_iff.mp hx).1
        have hdl := dpall_len ha
        have hlen : i ≤ 4000 := by omega
        walk_at "ev"
        intro H5 sm5
        have hD5 := sm5 _ _ (sm3 _ _ hD2)
        refine ⟨_, hD5, szm (by simp; omega), .mk ⟨same_mut ((sm2.trans sm3).trans sm5) hD, ?_⟩⟩
        rw [upd_same, List.replicate_succ', List.map_append]
        rfl
      · intro H' hP
        obtain ⟨sm2, hD2⟩ := hP.un
        refine ⟨D, List.replicate xs.length true, rfl, SqL.of hD2, ?_⟩
        rw [all_true]
        exact q _ (sm.trans sm2)
    | tup hs ha =>
      rename_i a xs ds
      cases hy with
      | tup ht hb =>
      rename_i b ys
      have el : ys.length = xs.length := (dpall_len hb).trans (dpall_len ha).symm
      have el' : V.int (xs.length : Int) = V.int (ys.length : Int) := by rw [el]
      cases n with
      | zero => exact hf.elim
      | succ n =>
      have hf' : ds.length ≤ 4000 ∧ ∀ e ∈ ds, Fit n e := hf
      have hS := hG n rfl
      subst hS
      walk_at "ev"
      intro p hp
      generalize hH : upd _ p _ = H1
      obtain ⟨sm, hp1⟩ := newO hH hp
      have hs1 := same_t sm hs
      have ht1 := same_t sm ht
      have kd : Kd K H1 (.ref a) "tuple" := .tup hs1
      have ty := kd.ty
      have kd' : Kd K H1 (.ref b) "tuple" := .tup ht1
      have ty' := kd'.ty
      obtain ⟨k1, k2, k3, k4, k5⟩ := kd.kit
      have ka := kit_lt k4 k5
      walk_at "ev"
      refine .inr ⟨hs1, ht1, fun D hD => ?_⟩
      refine lc_pairs (xs := xs) (ys := ys) (fun i H' => Hold (Same H1 H' ∧ H' D = some (.lst ((List.replicate i true).map V.bl)))) (.mk ⟨same_new hD, upd_same⟩) ?_ ?_ ?_ ?_ ?_
      · intro i H' hP hi
        obtain ⟨sm2, hD2⟩ := hP.un
        have hi2 : i < ys.length := by omega
        exact ⟨xs, ys, _, _, same_t sm2 hs1, same_t sm2 ht1, List.getElem?_eq_getElem hi, List.getElem?_eq_getElem hi2⟩
      · intro i H' v H'' hP hi yl
        obtain ⟨sm2, hD2⟩ := hP.un
        obtain ⟨T, x, y, e1, e2, e3, f1, f2⟩ := yl
        exact ⟨T, x, y, e1, e2, e3, f1 _ (same_t sm2 hs1), f2 _ (same_t sm2 ht1)⟩
      · intro H' hP
        obtain ⟨sm2, hD2⟩ := hP.un
        exact ⟨xs, ys, same_t sm2 hs1, same_t sm2 ht1, .inl (Nat.le_refl _)⟩
      · intro i x y T' H' H'' hx hy hP hT e
        obtain ⟨sm2, hD2⟩ := hP.un
        obtain ⟨sm3, hT3⟩ := newO e.symm hT
        have hT4 : SqT K H'' T' [x, y] := SqT.of hT3
        obtain ⟨d, hd, hdx⟩ := dpall_get ha hx
        obtain ⟨d', hd', hdy⟩ := dpall_get hb hy
        have ed : d' = d := Option.some.inj (hd'.symm.trans hd)
        subst ed
        have sm4 : Same H H'' := (sm.trans sm2).trans sm3
        have dx := dp_same sm4 hdx
        have dy := dp_same sm4 hdy
        have ft := hf'.2 _ (List.mem_of_getElem? hd)
        have hil : i < xs.length := (List.getElem?_eq_some_iff.mp hx).1
        have hdl := dpall_len ha
        have hlen : i ≤ 4000 := by omega
        walk_at "ev"
        intro H5 sm5
        have hD5 := sm5 _ _ (sm3 _ _ hD2)
        refine ⟨_, hD5, szm (by simp; omega), .mk ⟨same_mut ((sm2.trans sm3).trans sm5) hD, ?_⟩⟩
        rw [upd_same, List.replicate_succ', List.map_append]
        rfl
      · intro H' hP
        obtain ⟨sm2, hD2⟩ := hP.un
        refine ⟨D, List.replicate xs.length true, rfl, SqL.of hD2, ?_⟩
        rw [all_true]
        exact q _ (sm.trans sm2)
theorem ok_same {f : Addr} {fd : FuncData} (D__law_same : Df K mg "_law_same" s__law_same P__law_same f fd) (T : Blt mg) : ∀ n : Nat, FnOk P w K mg base CX0 (n + 1) f fd P__law_same (spSame K n)
  | 0 => same_step (spI := fun _ _ _ _ => False) D__law_same T ⟨fun _ _ _ _ h => h.elim, fun _ _ _ _ _ _ _ _ _ _ _ _ _ h => h.elim⟩ (fun m h => by omega)
  | n + 1 => same_step D__law_same T (ok_same D__law_same T n) (fun m h => by cases h; rfl)
end
/-! ### the sieve: mathematics -/
def pk (m j : Nat) : Bool := (List.range' 2 (m - 2)).all fun d => decide (j < d * d) || decide (j % d ≠ 0)
theorem pk_iff {m j : Nat} : pk m j = true ↔ ∀ d, 2 ≤ d → d < m → d * d ≤ j → ¬ d ∣ j := by
  unfold pk
  rw [List.all_eq_true]
  constructor
  · intro h d h1 h2 h3 h4
    have := h d (List.mem_range'_1.mpr ⟨h1, by omega⟩)
    rw [Bool.or_eq_true, decide_eq_true_iff, decide_eq_true_iff] at this
    rcases this with z | z
    · omega
    · exact z (Nat.mod_eq_zero_of_dvd h4)
  · intro h d hd
    have h1 := List.mem_range'_1.mp hd
    rw [Bool.or_eq_true, decide_eq_true_iff, decide_eq_true_iff]
    by_cases z : j < d * d
    · exact .inl z
    · exact .inr fun e => h d h1.1 (by omega) (by omega) (Nat.dvd_of_mod_eq_zero e)
theorem pk_ext {a b : Bool} (h : a = true ↔ b = true) : a = b := by
  cases a <;> cases b <;> simp at h ⊢
theorem pk_two (j : Nat) : pk 2 j = true := pk_iff.mpr fun d h1 h2 => by omega
/-- no marking at m: it was marked itself -/
theorem pk_skip {m j : Nat} (hm : 2 ≤ m) (h : pk m m = false) : pk (m + 1) j = pk m j := by
  refine pk_ext ?_
  rw [pk_iff, pk_iff]
  constructor
  · intro k d h1 h2
    exact k d h1 (by omega)
  · intro k d h1 h2 h3 h4
    by_cases e : d < m
    · exact k d h1 e h3 h4
    · have e2 : d = m := by omega
      subst e2
      have hn : ¬ pk d d = true := by rw [h]; exact Bool.false_ne_true
      apply hn
      rw [pk_iff]
      intro c c1 c2 c3 c4
      have hle : d * 1 ≤ d * d := Nat.mul_le_mul_left d (by omega)
      exact k c c1 c2 (by omega) (Nat.dvd_trans c4 h4)
/-- .. or its square is beyond -/
theorem pk_far {m j : Nat} (h : j < m * m) : pk (m + 1) j = pk m j := by
  refine pk_ext ?_
  rw [pk_iff, pk_iff]
  constructor
  · intro k d h1 h2
    exact k d h1 (by omega)
  · intro k d h1 h2 h3 h4
    by_cases e : d < m
    · exact k d h1 e h3 h4
    · have e2 : d = m := by omega
      subst e2
      omega
/-- what is marked behind t turns at m -/
def mk (m t j : Nat) : Bool := pk m j && !(decide (m * m ≤ j) && decide (j % m = 0) && decide (j < m * m + t * m))
theorem mk_zero (m j : Nat) : mk m 0 j = pk m j := by
  unfold mk
  by_cases h : m * m ≤ j
  · have : decide (j < m * m + 0 * m) = false := decide_eq_false (by omega)
    rw [this, Bool.and_false, Bool.not_false, Bool.and_true]
  · simp [h]
theorem mk_step {m t j : Nat} (hm : 0 < m) : mk m (t + 1) j = if j = m * m + t * m then false else mk m t j := by
  unfold mk
  have es : (t + 1) * m = t * m + m := by rw [Nat.add_mul, Nat.one_mul]
  split
  · rename_i e
    have h1 : j % m = 0 := by
      rw [e, ← Nat.add_mul]
      exact Nat.mul_mod_left _ _
    have h2 : m * m ≤ j := by omega
    have h3 : j < m * m + (t + 1) * m := by omega
    simp [h1, h2, h3]
  · rename_i e
    by_cases h1 : j % m = 0
    · by_cases h2 : m * m ≤ j
      · have h3 : (j < m * m + (t + 1) * m) ↔ (j < m * m + t * m) := by
          constructor
          · intro z
            apply Nat.lt_of_not_ge
            intro y
            apply e
            obtain ⟨q, hq⟩ := Nat.dvd_of_mod_eq_zero h1
            have a1 : m * (m + t) ≤ m * q := by rw [Nat.mul_add, Nat.mul_comm m t, ← hq]; omega
            have a2 : m * q < m * (m + t + 1) := by rw [Nat.mul_add, Nat.mul_add, Nat.mul_comm m t, ← hq]; omega
            have b1 := Nat.le_of_mul_le_mul_left a1 hm
            have b2 := Nat.lt_of_mul_lt_mul_left a2
            have b3 : q = m + t := by omega
            rw [hq, b3, Nat.mul_add, Nat.mul_comm m t]
          · intro z
            omega
        simp only [h3]
      · simp [h2]
    · simp [h1]
theorem mk_last {m t j : Nat} (hm : 2 ≤ m) (h : j < m * m + t * m) : mk m t j = pk (m + 1) j := by
  refine pk_ext ?_
  unfold mk
  rw [Bool.and_eq_true, pk_iff, pk_iff]
  constructor
  · rintro ⟨k, z⟩ d h1 h2 h3 h4
    by_cases e : d < m
    · exact k d h1 e h3 h4
    · have e2 : d = m := by omega
      subst e2
      have := Nat.mod_eq_zero_of_dvd h4
      simp [h, h3, this] at z
  · intro k
    refine ⟨fun d h1 h2 => k d h1 (by omega), ?_⟩
    by_cases h2 : m * m ≤ j
    · have h3 : ¬ j % m = 0 := fun e => k m hm (by omega) h2 (Nat.dvd_of_mod_eq_zero e)
      simp [h3]
    · simp [h2]
/-- the list of truths -/
def bls (n : Nat) (f : Nat → Bool) : List V := (List.range n).map fun j => V.bl (f j)
theorem bls_len (n : Nat) (f : Nat → Bool) : (bls n f).length = n := by
  unfold bls
  rw [List.length_map, List.length_range]
theorem bls_get {n j : Nat} {f : Nat → Bool} (h : j < n) : (bls n f)[j]? = some (.bl (f j)) := by
  unfold bls
  rw [List.getElem?_map, List.getElem?_range h]
  rfl
theorem bls_at {n : Nat} {f : Nat → Bool} {k : Int} (h0 : 0 ≤ k) (h : k < (n : Int)) : atI (bls n f) k = some (.bl (f k.toNat)) := at_of (j := k.toNat) (by omega) (bls_get (by omega))
theorem bls_ext {n : Nat} {f g : Nat → Bool} (h : ∀ j, j < n → f j = g j) : bls n f = bls n g := by
  unfold bls
  refine List.map_congr_left fun j hj => ?_
  rw [h j (List.mem_range.mp hj)]
theorem bls_set {n j : Nat} {f : Nat → Bool} {b : Bool} : (bls n f).set j (.bl b) = bls n fun i => if i = j then b else f i := by
  refine List.ext_getElem? fun i => ?_
  rw [List.getElem?_set]
  by_cases hi : i < n
  · rw [bls_get hi, bls_get hi, bls_len]
    by_cases e : j = i
    · subst e
      simp [hi]
    · have e2 : ¬ i = j := fun z => e z.symm
      simp [e, e2]
  · have h1 : (bls n f)[i]? = none := List.getElem?_eq_none (by rw [bls_len]; omega)
    have h2 : (bls n fun i => if i = j then b else f i)[i]? = none := List.getElem?_eq_none (by rw [bls_len]; omega)
    rw [h1, h2, bls_len]
    by_cases e : j = i
    · subst e
      simp [hi]
    · simp [e]
theorem bls_rep : ∀ n : Nat, (List.replicate n [V.bl true]).flatten = bls n fun _ => true
  | 0 => rfl
  | n + 1 => by
    have ih := bls_rep n
    rw [List.replicate_succ', List.flatten_append, ih]
    unfold bls
    rw [List.range_succ, List.map_append]
    rfl
theorem rg_pos {i j c : Int} (hc : 0 < c) (hc2 : c < 1073741824) (hi : 0 ≤ i) (hij : i < j) (hj : j < 1099511627776) : RgC i j c ((j - i - 1) / c + 1).toNat := by
  have h0 : 0 ≤ (j - i - 1) / c := Int.ediv_nonneg (by omega) (by omega)
  have h1 : (j - i - 1) / c ≤ j - i - 1 := Int.ediv_le_self _ (by omega)
  have e : Builtin.Range.rangeSize i j c = (j - i - 1) / c + 1 := by
    unfold Builtin.Range.rangeSize
    rw [if_pos hc, if_pos hij]
  refine ⟨by omega, by omega, ?_, by rw [e]; omega⟩
  unfold Builtin.Range.small
  rw [e]
  generalize (j - i - 1) / c = z at *
  simp only [Builtin.Range.rangeFitsLong, Bool.and_eq_true, Bool.or_eq_true, decide_eq_true_eq, beq_iff_eq]
  rw [if_pos hc, Bool.and_eq_true, decide_eq_true_iff, decide_eq_true_iff]
  omega
abbrev s__law_sieve : Stmt := top 10
abbrev N__law_sieve : List Str := ["_law_top", "_law_plain", "_law_one", "_law_other"]
abbrev P__law_sieve : List Str := ["_law_top"]
theorem sc__law_sieve : FnScope N__law_sieve P__law_sieve (defScope s__law_sieve) := ⟨rfl, rfl, rfl, by decide +kernel, rfl, by decide +kernel, by decide +kernel⟩
def prs (top : Nat) : List Int := ((List.range' 2 (top - 1)).filter (pk (top + 1))).map Int.ofNat
def spSieve : Sp := fun vs H Q _ => ∃ (top : Nat), vs = [.int (top : Int)] ∧ 4 ≤ top ∧ top ≤ 20000 ∧ ∀ p H', H p = none → Same H H' → H' p = some (.lst ((prs top).map V.int)) → Q (.ref p) H'
section
variable {P : Program} {w : World} {K : PySem.W.Frag} {mg : Str → Option Value} {base : Heap}
theorem ok_sieve {f : Addr} {fd : FuncData} {k : Nat} (F : Fun K "_law_sieve" "_law_sieve" s__law_sieve f fd) (T : Blt mg) : FnOk P w K mg base CX0 (k + 1) f fd P__law_sieve spSieve := by
  have nd := sc__law_sieve.nd
  refine F.ok sc__law_sieve (fun vs H Q E h => ?_) (fun cdv A outer s H vs Q E hr h => ?_)
  · obtain ⟨n, rfl, _⟩ := h
    rfl
  · obtain ⟨top, rfl, ht1, ht2, q⟩ := h
    refine ⟨_, (pss_cons (ps_set (i := 1) nd rfl (Or.inr rfl) (pe_op op_rep (pe_lst (pa_cons (pe_bl) pa_nil)) (pe_op op_add (pv 0) (pe_int))))
      (pss_cons (ps_for PassesOwn.never rfl (pi_range2 (by rfl) T.b_range (pa_cons (pe_int) (pa_cons (pe_op op_add (pv 0) (pe_int)) pa_nil))) (pg_name (i := 2) nd rfl (Or.inl rfl))
      (pss_one (ps_if (PW.pt (pw_and (pt_val (pe_ix (r := rIxL K) ix_list (pv 1) (pv 2) (fun _ _ => rfl))) (pw_and1 (pt_cmpR op_le (pe_op op_mul (pv 2) (pv 2)) (pv 0) (nomark _))))) (pss_one (ps_for PassesOwn.never rfl (pi_range3 (by rfl) T.b_range (pa_cons (pe_op op_mul (pv 2) (pv 2)) (pa_cons (pe_op op_add (pv 0) (pe_int)) (pa_cons (pv 2) pa_nil)))) (pg_name (i := 3) nd rfl (Or.inl rfl))
      (pss_one (ps_asg (pe_bl) (pg_sub (pv 1) (pv 3) set_list))))) pss_nil)))
      (pss_one (ps_ret (pe_lc (own := [("_law_one", 2)]) (g := gName 2) (by rfl) nd (pi_range2 (by rfl) T.b_range (pa_cons (pe_int) (pa_cons (pe_op op_add (pv 0) (pe_int)) pa_nil))) (blkOk_by (own := [("_law_one", 2)]) (N := N__law_sieve) (sc := defScope s__law_sieve) (by decide +kernel)) (fun _ _ _ _ _ => (pg_name (i := 2) nd rfl (Or.inl rfl))) (fun _ _ _ _ _ => pts_one (pt_val (pe_ix (r := rIxL K) ix_list (pv 1) (pv 2) (fun _ _ => rfl)))) (fun _ _ _ _ _ => (pv 2))))))), ?_⟩
    walk_at "ev"
    intro p0 hp0
    generalize hG0 : upd _ p0 _ = H0
    obtain ⟨sm0, hp0'⟩ := newO hG0 hp0
    walk_at "ev"
    intro p hp
    generalize hG : upd _ p _ = H1
    obtain ⟨sm1, hp1⟩ := newO hG hp
    have hpf : H p = none := sm0.free hp
    have etop : ((top : Int) + 1).toNat = top + 1 := by omega
    rw [etop, bls_rep] at hp1
    walk_at "ev"
    refine for_range (lo := 2) (n := ((top : Int) + 1 - 2).toNat) (fun i σ H' => Hold (∃ s2 s3, σ = [some (.int (top : Int)), some (.ref p), s2, s3] ∧ Same H H' ∧ H' p = some (.lst (bls (top + 1) (pk (2 + i)))))) (.mk ⟨none, none, rfl, sm0.trans sm1, ?_⟩) ?_ ?_
    · rw [hp1]
      rw [bls_ext (f := fun _ => true) (g := pk (2 + 0)) (fun j _ => (pk_two j).symm)]
    · intro i σ H' hi hP
      obtain ⟨s2, s3, rfl, sm, hp'⟩ := hP.un
      have hi' : i < top - 1 := by omega
      have hL : SqL K H' p (bls (top + 1) (pk (2 + i))) := SqL.of hp'
      have hat : atI (bls (top + 1) (pk (2 + i))) (2 + (i : Int)) = some (.bl (pk (2 + i) (2 + i))) := at_of (j := 2 + i) (by omega) (bls_get (by omega))
      have hcm : CMul (2 + (i : Int)) (2 + i) := .inl ⟨by omega, by omega⟩
      walk_at "ev"
      refine ite2 (fun e => ?_) (fun e => ?_)
      · walk_at "ev"
        refine ite2 (fun e2 => ?_) (fun e2 => ?_)
        · have e3 : (2 + (i : Int)) * (2 + i) ≤ top := of_decide_eq_true e2
          have hrg := rg_pos (i := (2 + (i : Int)) * (2 + i)) (j := (top : Int) + 1) (c := 2 + (i : Int)) (by omega) (by omega) (Int.mul_nonneg (by omega) (by omega)) (by omega) (by omega)
          have ec : (((2 + i : Nat) : Int)) = 2 + (i : Int) := by omega
          have em : (((2 + i) * (2 + i) : Nat) : Int) = (2 + (i : Int)) * (2 + i) := by rw [Int.natCast_mul, ec]
          have hn : ∀ t : Nat, t < (((top : Int) + 1 - (2 + (i : Int)) * (2 + i) - 1) / (2 + i) + 1).toNat → (2 + i) * (2 + i) + t * (2 + i) < top + 1 := by
            intro t ht
            have h1 : (t : Int) ≤ ((top : Int) + 1 - (2 + (i : Int)) * (2 + i) - 1) / (2 + i) := by omega
            have h2 := Int.mul_le_mul_of_nonneg_right h1 (show (0 : Int) ≤ 2 + (i : Int) by omega)
            have h3 := Int.ediv_mul_le ((top : Int) + 1 - (2 + (i : Int)) * (2 + i) - 1) (show (2 + (i : Int)) ≠ 0 by omega)
            have et : ((t * (2 + i) : Nat) : Int) = (t : Int) * (2 + i) := by rw [Int.natCast_mul, ec]
            omega
          have hN : top < (2 + i) * (2 + i) + (((top : Int) + 1 - (2 + (i : Int)) * (2 + i) - 1) / (2 + i) + 1).toNat * (2 + i) := by
            have h3 := Int.lt_ediv_add_one_mul_self ((top : Int) + 1 - (2 + (i : Int)) * (2 + i) - 1) (show (0 : Int) < 2 + (i : Int) by omega)
            have h0 : 0 ≤ ((top : Int) + 1 - (2 + (i : Int)) * (2 + i) - 1) / (2 + i) := Int.ediv_nonneg (by omega) (by omega)
            have et : (((((top : Int) + 1 - (2 + (i : Int)) * (2 + i) - 1) / (2 + i) + 1).toNat * (2 + i) : Nat) : Int) = (((top : Int) + 1 - (2 + (i : Int)) * (2 + i) - 1) / (2 + i) + 1) * (2 + i) := by
              rw [Int.natCast_mul, ec, Int.toNat_of_nonneg (by omega)]
            omega
          generalize hnn : (((top : Int) + 1 - (2 + (i : Int)) * (2 + i) - 1) / (2 + i) + 1).toNat = nn at *
          walk_at "ev"
          refine for_rangeC (lo := (2 + (i : Int)) * (2 + i)) (c := 2 + (i : Int)) (n := nn) (fun t σ H' => Hold (∃ s3, σ = [some (.int (top : Int)), some (.ref p), some (.int (2 + (i : Int))), s3] ∧ Same H H' ∧ H' p = some (.lst (bls (top + 1) (mk (2 + i) t))))) (.mk ⟨s3, rfl, sm, ?_⟩) ?_ ?_
          · rw [hp', bls_ext (fun j _ => (mk_zero (2 + i) j).symm)]
          · intro t σ H2 ht hP2
            obtain ⟨z3, rfl, sm2, hp2⟩ := hP2.un
            have hlt := hn t ht
            have eo : ((2 + (i : Int)) * (2 + i) + (t : Int) * (2 + i)) = (((2 + i) * (2 + i) + t * (2 + i) : Nat) : Int) := by
              rw [Int.natCast_add, em, Int.natCast_mul, ec]
            have hix : ixN (bls (top + 1) (mk (2 + i) t)).length ((2 + (i : Int)) * (2 + i) + (t : Int) * (2 + i)) = some ((2 + i) * (2 + i) + t * (2 + i)) := by
              rw [bls_len, eo]
              unfold ixN
              rw [if_pos (by omega), if_pos (by omega)]
              rfl
            walk_at "ev"
            refine .mk ⟨_, rfl, same_mut sm2 hpf, ?_⟩
            rw [upd_same, bls_set]
            rw [bls_ext (fun j _ => (mk_step (m := 2 + i) (t := t) (j := j) (by omega)).symm)]
          · intro σ H2 hP2
            obtain ⟨z3, rfl, sm2, hp2⟩ := hP2.un
            refine .mk ⟨_, _, rfl, sm2, ?_⟩
            rw [hp2, bls_ext (fun j hj => mk_last (m := 2 + i) (t := nn) (j := j) (by omega) (by omega))]
            rfl
        · have e3 : ¬ (2 + (i : Int)) * (2 + i) ≤ top := fun z => e2 (decide_eq_true z)
          have ec : (((2 + i : Nat) : Int)) = 2 + (i : Int) := by omega
          have em : (((2 + i) * (2 + i) : Nat) : Int) = (2 + (i : Int)) * (2 + i) := by rw [Int.natCast_mul, ec]
          refine .mk ⟨_, _, rfl, sm, ?_⟩
          rw [hp', bls_ext (fun j hj => (pk_far (m := 2 + i) (j := j) (by omega)).symm)]
          rfl
      · have e1 : pk (2 + i) (2 + i) = false := by
          cases z : pk (2 + i) (2 + i) with
          | true => exact absurd z e
          | false => rfl
        walk_at "ev"
        refine .mk ⟨_, _, rfl, sm, ?_⟩
        rw [hp', bls_ext (fun j hj => (pk_skip (m := 2 + i) (j := j) (by omega) e1).symm)]
        rfl
    · intro σ H' hP
      obtain ⟨s2, s3, rfl, sm, hp'⟩ := hP.un
      have etn : ((top : Int) + 1 - 2).toNat = top - 1 := by omega
      have et2 : 2 + ((top : Int) + 1 - 2).toNat = top + 1 := by omega
      rw [et2] at hp'
      walk_at "ev"
      intro D hD
      have hDp : p ≠ D := ne_of_none hp' hD
      refine lc_range (lo := 2) (n := ((top : Int) + 1 - 2).toNat) (fun i H' => Hold (Same H H' ∧ H' p = some (.lst (bls (top + 1) (pk (top + 1)))) ∧ H' D = some (.lst ((((List.range' 2 i).filter (pk (top + 1))).map Int.ofNat).map V.int)))) (.mk ⟨same_upd sm hD, by rw [upd_ne hDp]; exact hp', upd_same⟩) ?_ ?_
      · intro i H2 hi hP2
        obtain ⟨sm2, hp2, hD2⟩ := hP2.un
        have hL : SqL K H2 p (bls (top + 1) (pk (top + 1))) := SqL.of hp2
        have hat : atI (bls (top + 1) (pk (top + 1))) (2 + (i : Int)) = some (.bl (pk (top + 1) (2 + i))) := at_of (j := 2 + i) (by omega) (bls_get (by omega))
        have hfl : ((((List.range' 2 i).filter (pk (top + 1))).map Int.ofNat).map V.int).length < sizeLine := by
          rw [List.length_map, List.length_map]
          refine szm (Nat.le_trans (List.length_filter_le _ _) ?_)
          rw [List.length_range']
          omega
        walk_at "ev"
        refine ite2 (fun e => ?_) (fun e => ?_)
        · walk_at "ev"
          refine .mk ⟨same_mut sm2 (sm.free hD), by rw [upd_ne hDp]; exact hp2, ?_⟩
          rw [upd_same, List.range'_concat, List.filter_append, List.map_append, List.map_append]
          simp [e]
        · have e1 : pk (top + 1) (2 + i) = false := by
            cases z : pk (top + 1) (2 + i) with
            | true => exact absurd z e
            | false => rfl
          refine .mk ⟨sm2, hp2, ?_⟩
          rw [hD2, List.range'_concat, List.filter_append, List.map_append, List.map_append]
          simp [e1]
      · intro H2 hP2
        obtain ⟨sm2, hp2, hD2⟩ := hP2.un
        rw [etn] at hD2
        exact q D H2 (sm.free hD) sm2 hD2
end
/-! ### the law's own dividing -/
theorem mem_prs {top : Nat} {x : Int} : x ∈ prs top ↔ ∃ j : Nat, x = (j : Int) ∧ 2 ≤ j ∧ j ≤ top ∧ pk (top + 1) j = true := by
  unfold prs
  rw [List.mem_map]
  constructor
  · rintro ⟨j, hj, e⟩
    have h1 := List.mem_filter.mp hj
    have h2 := List.mem_range'_1.mp h1.1
    exact ⟨j, e.symm, h2.1, by omega, h1.2⟩
  · rintro ⟨j, e, h1, h2, h3⟩
    exact ⟨j, List.mem_filter.mpr ⟨List.mem_range'_1.mpr ⟨h1, by omega⟩, h3⟩, e.symm⟩
theorem prs_sorted (top : Nat) : (prs top).Pairwise (· < ·) := by
  unfold prs
  rw [List.pairwise_map]
  refine List.Pairwise.imp (R := fun a b : Nat => a < b) (fun {a b} h => ?_) ((List.pairwise_lt_range' (s := 2) (n := top - 1) (step := 1)).sublist List.filter_sublist)
  show (a : Int) < (b : Int)
  omega
theorem prs_len (top : Nat) : (prs top).length ≤ top := by
  unfold prs
  rw [List.length_map]
  refine Nat.le_trans (List.length_filter_le _ _) ?_
  rw [List.length_range']
  omega
theorem prs_div {top : Nat} : ∀ d : Nat, 2 ≤ d → d ≤ top → ∃ x : Nat, (x : Int) ∈ prs top ∧ x ≤ d ∧ x ∣ d := by
  intro d
  induction d using Nat.strongRecOn with
  | ind d ih =>
    intro h1 h2
    by_cases h : pk (top + 1) d = true
    · exact ⟨d, mem_prs.mpr ⟨d, rfl, h1, h2, h⟩, Nat.le_refl _, Nat.dvd_refl _⟩
    · have : ∃ c, 2 ≤ c ∧ c * c ≤ d ∧ c ∣ d := by
        apply Classical.byContradiction
        intro z
        apply h
        rw [pk_iff]
        intro c c1 c2 c3 c4
        exact z ⟨c, c1, c3, c4⟩
      obtain ⟨c, c1, c2, c3⟩ := this
      have c4 : 2 * c ≤ c * c := Nat.mul_le_mul_right c c1
      obtain ⟨x, x1, x2, x3⟩ := ih c (by omega) c1 (by omega)
      exact ⟨x, x1, by omega, Nat.dvd_trans x3 c3⟩
theorem rough_of {top : Nat} {m p : Int} {i : Nat} (h : ∀ x ∈ (prs top).take i, ¬ x ∣ m) (hp : (prs top)[i]? = some p) : Rough m p := by
  intro d h1 h2 h3
  have hm : p ∈ prs top := List.mem_of_getElem? hp
  obtain ⟨j, ej, j1, j2, j3⟩ := mem_prs.mp hm
  obtain ⟨x, x1, x2, x3⟩ := prs_div d.toNat (by omega) (by omega : d.toNat ≤ top)
  have x4 : (x : Int) ∣ d := by
    have := Int.natCast_dvd_natCast.mpr x3
    rwa [Int.toNat_of_nonneg (by omega)] at this
  refine h x ?_ (Int.dvd_trans x4 h3)
  obtain ⟨l, hl⟩ := List.getElem?_of_mem x1
  obtain ⟨l1, l2⟩ := List.getElem?_eq_some_iff.mp hl
  obtain ⟨i1, i2⟩ := List.getElem?_eq_some_iff.mp hp
  have hli : l < i := by
    apply Nat.lt_of_not_ge
    intro z
    rcases Nat.lt_or_eq_of_le z with y | y
    · have := (List.pairwise_iff_getElem.mp (prs_sorted top)) i l i1 l1 y
      omega
    · subst y
      omega
  refine List.mem_iff_getElem?.mpr ⟨l, ?_⟩
  rw [List.getElem?_take_of_lt hli]
  exact hl
theorem rough_end {top : Nat} {m : Int} (h : ∀ x ∈ prs top, ¬ x ∣ m) : Rough m (top + 1) := by
  intro d h1 h2 h3
  obtain ⟨x, x1, x2, x3⟩ := prs_div d.toNat (by omega) (by omega : d.toNat ≤ top)
  have x4 : (x : Int) ∣ d := by
    have := Int.natCast_dvd_natCast.mpr x3
    rwa [Int.toNat_of_nonneg (by omega)] at this
  exact h x x1 (Int.dvd_trans x4 h3)
abbrev s__law_parts_of : Stmt := top 11
abbrev N__law_parts_of : List Str := ["_law_number_here", "_law_primes", "_law_found", "_law_left", "_law_prime", "_law_turn"]
abbrev P__law_parts_of : List Str := ["_law_number_here", "_law_primes"]
theorem sc__law_parts_of : FnScope N__law_parts_of P__law_parts_of (defScope s__law_parts_of) := ⟨rfl, rfl, rfl, by decide +kernel, rfl, by decide +kernel, by decide +kernel⟩
def spParts (K : PySem.W.Frag) : Sp := fun vs H Q _ => ∃ (n : Int) (a : Addr) (top : Nat), vs = [.int n, .ref a] ∧ SqL K H a ((prs top).map V.int) ∧ 4 ≤ top ∧ top ≤ 20000 ∧ 1 ≤ n ∧ n ≤ 1048575 ∧ n < ((top : Int) + 1) * (top + 1) ∧ ∀ xs p H', Fac n xs → H p = none → Same H H' → H' p = some (.lst (xs.map V.int)) → Q (.ref p) H'
section
variable {P : Program} {w : World} {K : PySem.W.Frag} {mg : Str → Option Value} {base : Heap}
theorem ok_parts {f : Addr} {fd : FuncData} {k : Nat} (F : Fun K "_law_parts_of" "_law_parts_of" s__law_parts_of f fd) (T : Blt mg) : FnOk P w K mg base CX0 (k + 1) f fd P__law_parts_of (spParts K) := by
  have nd := sc__law_parts_of.nd
  refine F.ok sc__law_parts_of (fun vs H Q E h => ?_) (fun cdv A outer s H vs Q E hr h => ?_)
  · obtain ⟨n, a, top, rfl, _⟩ := h
    rfl
  · obtain ⟨n, a, top, rfl, hS, ht1, ht2, hn1, hn2, hn3, q⟩ := h
    refine ⟨_, (pss_cons (ps_par (i := 2) (j := 3) (by rfl) nd rfl rfl (by decide) rfl rfl (pa_cons (pe_lst pa_nil) (pa_cons (pv 0) pa_nil)) (by rfl))
      (pss_cons (ps_for PassesOwn.never rfl (pi_list (pv 1)) (pg_name (i := 4) nd rfl (Or.inl rfl))
      (pss_one (ps_for PassesOwn.never rfl (pi_range1 (by rfl) T.b_range (pa_cons (pe_int) pa_nil)) (pg_name (i := 5) nd rfl (Or.inl rfl))
      (pss_one (ps_if (pt_cmpR op_eq (pe_op op_mod (pv 3) (pv 4)) (pe_int) (nomark _)) (pss_cons (ps_expr (pe_bm PySem.F.plainAttrs_list PySem.F.slot_list_append PySem.F.type_list_append mt_append (pv 2) (pa_cons (pv 4) pa_nil)))
      (pss_one (ps_set (i := 3) nd rfl (Or.inl rfl) (pe_op op_fdiv (pv 3) (pv 4))))) pss_nil)))))
      (pss_one (ps_ret (pe_op op_cat (pv 2) (pe_op op_rep (pe_lst (pa_cons (pv 3) pa_nil)) (pe_callTy call_int1 (by rfl) T.b_int (by decide +kernel) (pa_cons (pe_cmpR op_gt (pv 3) (pe_int) (nomark _)) pa_nil)))))))), ?_⟩
    walk_at "ev"
    intro p hp
    generalize hG : upd _ p _ = H1
    obtain ⟨sm1, hp1⟩ := newO hG hp
    have hS1 := sm1.seq hS
    have hS1' : ∃ xs, SqL K H1 a xs := ⟨_, hS1⟩
    walk_at "ev"
    refine for_list (K := K) (a := a) (xs := (prs top).map V.int) (fun i σ H' => Hold (∃ (left : Int) (found : List Int) (s4 s5 : Option V), σ = [some (.int n), some (.ref a), some (.ref p), some (.int left), s4, s5] ∧ 1 ≤ left ∧ left ≤ n ∧ 2 ^ found.length * left.toNat ≤ n.toNat ∧ (∀ qs, Fac left qs → Fac n (found ++ qs)) ∧ (∀ x ∈ (prs top).take i, ¬ x ∣ left) ∧ Same H H' ∧ H' p = some (.lst (found.map V.int))))
      (.mk ⟨n, [], none, none, rfl, hn1, by omega, by simp, fun qs h => h, by simp, sm1, hp1⟩) ?_ ?_ ?_
    · intro i σ H' hi hP
      obtain ⟨left, found, s4, s5, rfl, h1, h2, h3, h4, h5, sm, hp'⟩ := hP.un
      exact sm.seq hS
    · intro i v σ H' hv hP
      obtain ⟨left, found, s4, s5, rfl, h1, h2, h3, h4, h5, sm, hp'⟩ := hP.un
      rw [List.getElem?_map] at hv
      obtain ⟨pr, hpr, ev⟩ := Option.map_eq_some_iff.mp hv
      subst ev
      obtain ⟨j, ej, j1, j2, j3⟩ := mem_prs.mp (List.mem_of_getElem? hpr)
      have hrough := rough_of h5 hpr
      walk_at "ev"
      refine for_range (lo := 0) (n := (20 : Int).toNat) (fun t σ H' => Hold (∃ (left' : Int) (found' : List Int) (s5 : Option V), σ = [some (.int n), some (.ref a), some (.ref p), some (.int left'), some (.int pr), s5] ∧ 1 ≤ left' ∧ left' ≤ n ∧ 2 ^ found'.length * left'.toNat ≤ n.toNat ∧ (∀ qs, Fac left' qs → Fac n (found' ++ qs)) ∧ left' ∣ left ∧ (pr ∣ left' → 2 ^ t * left'.toNat ≤ n.toNat) ∧ Same H H' ∧ H' p = some (.lst (found'.map V.int))))
        (.mk ⟨left, found, s5, rfl, h1, h2, h3, h4, Int.dvd_refl _, fun _ => by simp; omega, sm, hp'⟩) ?_ ?_
      · intro t σ H2 ht hP2
        obtain ⟨left', found', s5', rfl, g1, g2, g3, g4, g5, g6, sm2, hp2⟩ := hP2.un
        have hlen := pow_len g3 g1 (by omega)
        walk_at "ev"
        refine ite2 (fun e => ?_) (fun e => ?_)
        · have e1 : left' % pr = 0 := V.int.inj (of_decide_eq_true e)
          have hr' : Rough left' pr := fun d d1 d2 d3 => hrough d d1 d2 (Int.dvd_trans d3 g5)
          obtain ⟨o1, o2, o3, o4⟩ := Fac.out g4 (by omega) g1 hr' e1
          walk_at "ev"
          refine .mk ⟨left' / pr, found' ++ [pr], _, rfl, o2, by omega, ?_, o1, ?_, ?_, same_mut sm2 hp, by rw [upd_same, List.map_append]; rfl⟩
          · rw [List.length_append]
            exact pow_step g3 o4
          · exact Int.dvd_trans ⟨pr, (Int.ediv_mul_cancel (dvd_iff.mp e1)).symm⟩ g5
          · intro _
            exact pow_step (g6 (dvd_iff.mp e1)) o4
        · have e1 : ¬ left' % pr = 0 := fun z => e (decide_eq_true (congrArg V.int z))
          walk_at "ev"
          exact .mk ⟨left', found', _, rfl, g1, g2, g3, g4, g5, fun z => absurd (dvd_iff.mpr z) e1, sm2, hp2⟩
      · intro σ H2 hP2
        obtain ⟨left', found', s5', rfl, g1, g2, g3, g4, g5, g6, sm2, hp2⟩ := hP2.un
        refine .mk ⟨left', found', _, _, rfl, g1, g2, g3, g4, ?_, sm2, hp2⟩
        intro x hx hd
        rw [List.take_add_one, hpr] at hx
        rcases List.mem_append.mp hx with hx | hx
        · exact h5 x hx (Int.dvd_trans hd g5)
        · have ex : x = pr := by simpa using hx
          subst ex
          have := g6 hd
          have h20 : (2 : Nat) ^ (20 : Int).toNat = 1048576 := by decide
          rw [h20] at this
          omega
    · intro σ H' hP
      obtain ⟨left, found, s4, s5, rfl, h1, h2, h3, h4, h5, sm, hp'⟩ := hP.un
      rw [List.length_map, List.take_length] at h5
      have hlen := pow_len h3 h1 (by omega)
      walk_at "ev"
      intro p2 hp2
      generalize hG2 : upd _ p2 _ = H2
      obtain ⟨sm2, hp3⟩ := newO hG2 hp2
      have hp4 := sm2 _ _ hp'
      have hk1 : -(2 ^ 63 : Int) ≤ (if decide (1 < left) = true then 1 else 0) := by split <;> decide
      have hk2 : (if decide (1 < left) = true then 1 else 0 : Int) < 2 ^ 63 := by split <;> decide
      have hk3 : [V.int left].length * (if decide (1 < left) = true then 1 else 0 : Int).toNat ≤ sizeLine := by
        show 1 * _ ≤ sizeLine
        split <;> decide
      walk_at "ev"
      intro p5 hp5
      generalize hG5 : upd _ p5 _ = H5
      obtain ⟨sm5, hp6⟩ := newO hG5 hp5
      have hp7 := sm5 _ _ hp4
      have hk4 : (found.map V.int).length + (List.replicate (if decide (1 < left) = true then 1 else 0 : Int).toNat [V.int left]).flatten.length ≤ sizeLine := by
        rw [List.length_map]
        refine szl ?_
        split
        · show found.length + 1 ≤ _
          omega
        · show found.length + 0 ≤ _
          omega
      walk_at "ev"
      intro p8 hp8
      generalize hG8 : upd _ p8 _ = H8
      obtain ⟨sm8, hp9⟩ := newO hG8 hp8
      have sm9 := (sm.trans sm2).trans (sm5.trans sm8)
      have hpf : H p8 = none := ((sm.trans sm2).trans sm5).free hp8
      by_cases e : 1 < left
      · have e1 : decide (1 < left) = true := decide_eq_true e
        rw [if_pos e1] at hp9
        refine q (found ++ [left]) _ _ (h4 _ (Fac.self (by omega) ((rough_end h5).top (by omega) (by omega) (by omega)))) hpf sm9 ?_
        rw [hp9, List.map_append]
        rfl
      · have e1 : ¬ decide (1 < left) = true := fun z => e (of_decide_eq_true z)
        rw [if_neg e1] at hp9
        have e4 : left = 1 := by omega
        subst e4
        have fin := h4 [] .one
        rw [List.append_nil] at fin
        refine q found _ _ fin hpf sm9 ?_
        rw [hp9]
        show some (HO.lst (found.map V.int ++ [])) = _
        rw [List.append_nil]
end
theorem prs_pos {top : Nat} (h : 4 ≤ top) : 0 < (prs top).length := by
  have : (2 : Int) ∈ prs top := mem_prs.mpr ⟨2, rfl, by omega, by omega, pk_iff.mpr fun d h1 h2 h3 => by
    have : 2 * 2 ≤ d * d := Nat.mul_le_mul h1 h1
    omega⟩
  exact List.length_pos_of_mem this
theorem prs_in {top : Nat} {v : V} (h : v ∈ (prs top).map V.int) : ∃ c : Int, v = .int c ∧ 2 ≤ c ∧ c ≤ top := by
  obtain ⟨c, hc, e⟩ := int_mem h
  obtain ⟨j, ej, j1, j2, j3⟩ := mem_prs.mp hc
  exact ⟨c, e, by omega, by omega⟩
def isp (n : Nat) : Bool := decide (2 ≤ n) && pk 1001 n
theorem isp_iff {n : Nat} (h : n ≤ 1000) : isp n = true ↔ Fac (n : Int) [(n : Int)] := by
  unfold isp
  rw [Bool.and_eq_true, decide_eq_true_iff, pk_iff]
  constructor
  · rintro ⟨h2, hk⟩
    refine Fac.self (by omega) ?_
    intro e e1 e2 e3
    obtain ⟨q, hq⟩ := e3
    have q0 : 0 < q := by
      apply Int.lt_of_not_ge
      intro z
      have : e * q ≤ 0 := Int.mul_nonpos_of_nonneg_of_nonpos (by omega) z
      omega
    have q1 : q ≠ 1 := fun z => by
      rw [z, Int.mul_one] at hq
      omega
    have hnat : n = e.toNat * q.toNat := by
      have : ((e.toNat * q.toNat : Nat) : Int) = e * q := by rw [Int.natCast_mul, Int.toNat_of_nonneg (by omega), Int.toNat_of_nonneg (by omega)]
      omega
    by_cases hle : e ≤ q
    · refine hk e.toNat (by omega) (by omega) ?_ ⟨_, hnat⟩
      rw [hnat]
      exact Nat.mul_le_mul_left _ (by omega)
    · have hqn : n = q.toNat * e.toNat := by rw [Nat.mul_comm]; exact hnat
      have hqe : 1 * q.toNat ≤ e.toNat * q.toNat := Nat.mul_le_mul_right _ (by omega)
      refine hk q.toNat (by omega) (by omega) ?_ ⟨_, hqn⟩
      have : q.toNat * q.toNat ≤ q.toNat * e.toNat := Nat.mul_le_mul_left _ (by omega)
      omega
  · intro f
    obtain ⟨h2, hr⟩ := Rough.of_fac f
    refine ⟨by omega, fun d d1 d2 d3 d4 => ?_⟩
    have : 2 * d ≤ d * d := Nat.mul_le_mul_right d d1
    exact hr d (by omega) (by omega) (Int.natCast_dvd_natCast.mpr d4)
theorem prs60 : (prs 1000).filter (fun x => decide (x < 60)) = ((List.range' 2 58).filter (pk 1001)).map Int.ofNat := by
  unfold prs
  have e : List.range' 2 (1000 - 1) = List.range' 2 58 ++ List.range' 60 941 := by decide +kernel
  rw [e, List.filter_append, List.map_append, List.filter_append]
  have h1 : (((List.range' 60 941).filter (pk (1000 + 1))).map Int.ofNat).filter (fun x => decide (x < 60)) = [] := by
    rw [List.filter_eq_nil_iff]
    intro x hx
    obtain ⟨j, hj, ej⟩ := List.mem_map.mp hx
    have := (List.mem_range'_1.mp (List.mem_filter.mp hj).1).1
    have ex : x = (j : Int) := ej.symm
    rw [decide_eq_true_iff]
    omega
  have h2 : (((List.range' 2 58).filter (pk (1000 + 1))).map Int.ofNat).filter (fun x => decide (x < 60)) = ((List.range' 2 58).filter (pk (1000 + 1))).map Int.ofNat := by
    rw [List.filter_eq_self]
    intro x hx
    obtain ⟨j, hj, ej⟩ := List.mem_map.mp hx
    have := (List.mem_range'_1.mp (List.mem_filter.mp hj).1).2
    have ex : x = (j : Int) := ej.symm
    rw [decide_eq_true_iff]
    omega
  rw [h1, h2, List.append_nil]
theorem isp60 : (List.range 60).filter isp = (List.range' 2 58).filter (pk 1001) := by
  have e : List.range 60 = [0, 1] ++ List.range' 2 58 := by decide +kernel
  rw [e, List.filter_append]
  have h1 : [0, 1].filter isp = [] := rfl
  rw [h1, List.nil_append]
  refine List.filter_congr fun x hx => ?_
  have := (List.mem_range'_1.mp hx).1
  unfold isp
  rw [decide_eq_true this, Bool.true_and]
theorem big_prime : Fac 999983 [999983] := by
  refine Fac.self (by decide) (Rough.top (d := 1000) ?_ (by decide) (by decide) (by decide))
  intro e e1 e2 e3
  have h : ((List.range' 2 998).all fun d => decide (999983 % d ≠ 0)) = true := by decide +kernel
  rw [List.all_eq_true] at h
  have h1 := h e.toNat (List.mem_range'_1.mpr ⟨by omega, by omega⟩)
  rw [decide_eq_true_iff] at h1
  apply h1
  have h2 : (e.toNat : Int) ∣ ((999983 : Nat) : Int) := by
    rw [Int.toNat_of_nonneg (by omega)]
    exact e3
  exact Nat.mod_eq_zero_of_dvd (Int.natCast_dvd_natCast.mp h2)
theorem fit_bb {a b : Bool} : Fit 1 (.list [.bool a, .bool b]) := by
  refine ⟨by simp, fun e he => ?_⟩
  simp only [List.mem_cons, List.not_mem_nil, or_false] at he
  rcases he with h | h <;> rw [h] <;> exact True.intro
theorem mul_le6 {a b : Int} (a0 : 2 ≤ a) (a1 : a ≤ 1000) (b0 : 2 ≤ b) (b1 : b ≤ 1000) : 0 ≤ a * b ∧ a * b ≤ 1000000 := by
  have h1 : a * b ≤ 1000 * 1000 := Int.mul_le_mul a1 b1 (by omega) (by omega)
  exact ⟨Int.mul_nonneg (by omega) (by omega), by omega⟩
abbrev s_law : Stmt := top 12
abbrev N_law : List Str := ["_law_script", "_law_primes", "_law_thing", "_law_k", "_law_box_here", "_law_some", "_law_number_here", "_law_due", "_law_low", "_law_one", "_law_turn"]
abbrev P_law : List Str := ["_law_script"]
theorem sc_law : FnScope N_law P_law (defScope s_law) := ⟨rfl, rfl, rfl, by decide +kernel, rfl, by decide +kernel, by decide +kernel⟩
def spLaw (K : PySem.W.Frag) : Sp := fun vs H Q _ => ∃ (a : Addr) (ns : List Int), vs = [.ref a] ∧ SqL K H a (ns.map V.int) ∧ ns.length ≤ 63 ∧ ∀ H', Q (.bl true) H'
structure Fns (P : Program) (w : World) (K : PySem.W.Frag) (mg : Str → Option Value) (base : Heap) : Prop where
  box : ∃ f fd, Df K mg "_law_box" s__law_box P__law_box f fd
  take : ∃ f fd, Df K mg "_law_take" s__law_take P__law_take f fd
  pick : ∃ f fd, Df K mg "_law_pick" s__law_pick P__law_pick f fd
  same : ∃ f fd, Df K mg "_law_same" s__law_same P__law_same f fd
  number : ∃ f fd, Df K mg "_law_number" s__law_number P__law_number f fd
  sieve : ∃ f fd, Df K mg "_law_sieve" s__law_sieve P__law_sieve f fd
  parts : ∃ f fd, Df K mg "_law_parts_of" s__law_parts_of P__law_parts_of f fd
  whole : ∃ f fd, Df K mg "is_whole" s_is_whole P_is_whole f fd
  prime : ∃ f fd, Df K mg "is_prime" s_is_prime P_is_prime f fd
  factors : ∃ f fd, Df K mg "factors" s_factors P_factors f fd
section
variable {P : Program} {w : World} {K : PySem.W.Frag} {mg : Str → Option Value} {base : Heap}
theorem ok_law {f : Addr} {fd : FuncData} (F : Fun K "law" "law" s_law f fd) (T : Blt mg) (U : Fns P w K mg base) : FnOk P w K mg base CX0 4 f fd P_law (spLaw K) := by
  obtain ⟨⟨f1, d1, D__law_box⟩, ⟨f2, d2, D__law_take⟩, ⟨f3, d3, D__law_pick⟩, ⟨f4, d4, D__law_same⟩, ⟨f5, d5, D__law_number⟩, ⟨f6, d6, D__law_sieve⟩, ⟨f7, d7, D__law_parts_of⟩, ⟨f8, d8, D_is_whole⟩, ⟨f9, d9, D_is_prime⟩, ⟨f10, d10, D_factors⟩⟩ := U
  have G__law_box : FnOk P w K mg base CX0 1 f1 d1 P__law_box (spBox K) := ok_box D__law_box.F T
  have G__law_pick : FnOk P w K mg base CX0 2 f3 d3 P__law_pick (spPick K) := ok_pick D__law_pick.F T D__law_take
  have G__law_same : FnOk P w K mg base CX0 2 f4 d4 P__law_same (spSame K 1) := ok_same D__law_same T 1
  have G__law_number : FnOk P w K mg base CX0 3 f5 d5 P__law_number spNumber := ok_number D__law_number.F T D__law_take D__law_pick
  have G__law_sieve : FnOk P w K mg base CX0 1 f6 d6 P__law_sieve spSieve := ok_sieve D__law_sieve.F T
  have G__law_parts_of : FnOk P w K mg base CX0 1 f7 d7 P__law_parts_of (spParts K) := ok_parts D__law_parts_of.F T
  have G_is_prime : FnOk P w K mg base CX0 2 f9 d9 P_is_prime (spPrime K) := ok_prime D_is_prime.F T D_is_whole D_factors
  have nd := sc_law.nd
  refine F.ok sc_law (fun vs H Q E h => ?_) (fun cdv A outer s H vs Q E hr h => ?_)
  · obtain ⟨a, ns, rfl, _⟩ := h
    rfl
  · obtain ⟨a, ns, rfl, hS, hlen, q⟩ := h
    refine ⟨_, (pss_cons (ps_set (i := 1) nd rfl (Or.inr rfl) (pe_call G__law_sieve (hr.mono (by omega)) (by rfl) D__law_sieve.g D__law_sieve.F.kp D__law_sieve.b .nil pass0 (pa_cons (pe_int) pa_nil)))
      (pss_cons (ps_for PassesOwn.never rfl (pi_tup (pe_tup (pa_cons (pe_non) (pa_cons (pe_bl) (pa_cons (pe_bl) (pa_cons (pe_str) (pa_cons (pe_str) (pa_cons (pe_lst (pa_cons (pe_int) pa_nil)) (pa_cons (pe_tup (pa_cons (pe_int) pa_nil)) (pa_cons (pe_lst pa_nil) (pa_cons (pe_tup pa_nil) (pa_cons (pe_un un_neg (pe_int)) (pa_cons (pe_un un_neg (pe_int)) (pa_cons (pe_un un_neg (pe_int)) (pa_cons (pe_int) (pa_cons (pe_int) (pa_cons (pe_lst (pa_cons (pe_lst (pa_cons (pe_int) pa_nil)) pa_nil)) (pa_cons (pe_str) pa_nil)))))))))))))))))) (pg_name (i := 2) nd rfl (Or.inl rfl))
      (pss_one (ps_if (pt_cmpR op_notBl (pe_call G_is_prime (hr.mono (by omega)) (by rfl) D_is_prime.g D_is_prime.F.kp D_is_prime.b .nil pass0 (pa_cons (pv 2) pa_nil)) (pe_bl) (nomark _)) (pss_one (ps_ret (pe_bl))) pss_nil)))
      (pss_cons (ps_for PassesOwn.never rfl (pi_range1 (by rfl) T.b_range (pa_cons (pe_callB (call_max2 rfl) (by rfl) T.b_max (by decide +kernel) (pa_cons (pe_int) (pa_cons (pe_callB (call_min2 rfl) (by rfl) T.b_min (by decide +kernel) (pa_cons (pe_int) (pa_cons (pe_callB (r := rLenQ K) call_len_seq (by rfl) T.b_len (by decide +kernel) (pa_cons (pv 0) pa_nil)) pa_nil))) pa_nil))) pa_nil)) (pg_name (i := 3) nd rfl (Or.inl rfl))
      (pss_cons (ps_set (i := 4) nd rfl (Or.inr rfl) (pe_call G__law_box (hr.mono (by omega)) (by rfl) D__law_box.g D__law_box.F.kp D__law_box.b .nil pass0 (pa_cons (pv 0) (pa_cons (pv 3) pa_nil))))
      (pss_cons (ps_setLc (i := 5) (own := [("_law_turn", 10)]) (g := gName 10) (by rfl) nd rfl rfl (sw_true rfl rfl rfl (by decide +kernel)) (pi_range1 (by rfl) T.b_range (pa_cons (pe_int) pa_nil)) (blkOk_by (own := [("_law_turn", 10)]) (N := N_law) (sc := defScope s_law) (by decide +kernel)) (fun _ _ _ _ _ => (pg_name (i := 10) nd rfl (Or.inl rfl))) (fun _ _ _ _ _ => pts_nil) (fun _ _ _ _ _ => (pe_call G__law_number (hr.mono (by omega)) (by rfl) D__law_number.g D__law_number.F.kp D__law_number.b .nil pass0 (pa_cons (pv 4) pa_nil))))
      (pss_cons (ps_set (i := 5) nd rfl (Or.inl rfl) (pe_op op_cat (pv 5) (pe_lc (own := [("_law_turn", 10)]) (g := gName 10) (by rfl) nd (pi_range1 (by rfl) T.b_range (pa_cons (pe_int) pa_nil)) (blkOk_by (own := [("_law_turn", 10)]) (N := N_law) (sc := defScope s_law) (by decide +kernel)) (fun _ _ _ _ _ => (pg_name (i := 10) nd rfl (Or.inl rfl))) (fun _ _ _ _ _ => pts_nil) (fun _ _ _ _ _ => (pe_call G__law_pick (hr.mono (by omega)) (by rfl) D__law_pick.g D__law_pick.F.kp D__law_pick.b .nil pass0 (pa_cons (pv 4) (pa_cons (pv 1) pa_nil)))))))
      (pss_cons (ps_expr (pe_bm PySem.F.plainAttrs_list PySem.F.slot_list_append PySem.F.type_list_append mt_append (pv 5) (pa_cons (pe_op op_mul (pe_call G__law_pick (hr.mono (by omega)) (by rfl) D__law_pick.g D__law_pick.F.kp D__law_pick.b .nil pass0 (pa_cons (pv 4) (pa_cons (pv 1) pa_nil))) (pe_call G__law_pick (hr.mono (by omega)) (by rfl) D__law_pick.g D__law_pick.F.kp D__law_pick.b .nil pass0 (pa_cons (pv 4) (pa_cons (pv 1) pa_nil)))) pa_nil)))
      (pss_one (ps_for PassesOwn.never rfl (pi_list (pe_op op_cat (pv 5) (pe_lst (pa_cons (pe_op op_add (pe_call G__law_pick (hr.mono (by omega)) (by rfl) D__law_pick.g D__law_pick.F.kp D__law_pick.b .nil pass0 (pa_cons (pv 4) (pa_cons (pv 1) pa_nil))) (pe_int)) pa_nil)))) (pg_name (i := 6) nd rfl (Or.inl rfl))
      (pss_cons (ps_set (i := 7) nd rfl (Or.inl rfl) (pe_and (pe_cmpR op_gt (pv 6) (pe_int) (nomark _)) (pe_one (pe_cmpR op_eq (pe_callB (r := rLenQ K) call_len_seq (by rfl) T.b_len (by decide +kernel) (pa_cons (pe_call G__law_parts_of (hr.mono (by omega)) (by rfl) D__law_parts_of.g D__law_parts_of.F.kp D__law_parts_of.b .nil pass0 (pa_cons (pv 6) (pa_cons (pv 1) pa_nil))) pa_nil)) (pe_int) (nomark _)))))
      (pss_one (ps_if (pt_not (pt_val (pe_call G__law_same (hr.mono (by omega)) (by rfl) D__law_same.g D__law_same.F.kp D__law_same.b .nil pass0 (pa_cons (pe_lst (pa_cons (pe_call G_is_prime (hr.mono (by omega)) (by rfl) D_is_prime.g D_is_prime.F.kp D_is_prime.b .nil pass0 (pa_cons (pv 6) pa_nil)) (pa_cons (pe_call G_is_prime (hr.mono (by omega)) (by rfl) D_is_prime.g D_is_prime.F.kp D_is_prime.b .nil pass0 (pa_cons (pv 6) pa_nil)) pa_nil))) (pa_cons (pe_lst (pa_cons (pv 7) (pa_cons (pv 7) pa_nil))) pa_nil))))) (pss_one (ps_ret (pe_bl))) pss_nil))))))))))
      (pss_cons (ps_setLc (i := 8) (own := [("_law_one", 9)]) (g := gName 9) (by rfl) nd rfl rfl (sw_true rfl rfl rfl (by decide +kernel)) (pi_list (pv 1)) (blkOk_by (own := [("_law_one", 9)]) (N := N_law) (sc := defScope s_law) (by decide +kernel)) (fun _ _ _ _ _ => (pg_name (i := 9) nd rfl (Or.inl rfl))) (fun _ _ _ _ _ => pts_one (pt_cmpR op_lt (pv 9) (pe_int) (nomark _))) (fun _ _ _ _ _ => (pv 9)))
      (pss_one (ps_ret (pe_and (pe_cmpR (r := rEqD K) (op_eqD hr.units) (pe_lc (own := [("_law_one", 9)]) (g := gName 9) (by rfl) nd (pi_range1 (by rfl) T.b_range (pa_cons (pe_int) pa_nil)) (blkOk_by (own := [("_law_one", 9)]) (N := N_law) (sc := defScope s_law) (by decide +kernel)) (fun _ _ _ _ _ => (pg_name (i := 9) nd rfl (Or.inl rfl))) (fun _ _ _ _ _ => pts_one (pt_val (pe_call G_is_prime (hr.mono (by omega)) (by rfl) D_is_prime.g D_is_prime.F.kp D_is_prime.b .nil pass0 (pa_cons (pv 9) pa_nil)))) (fun _ _ _ _ _ => (pv 9))) (pv 8) (nomark _)) (pe_one (pe_cmpR op_isBl (pe_call G_is_prime (hr.mono (by omega)) (by rfl) D_is_prime.g D_is_prime.F.kp D_is_prime.b .nil pass0 (pa_cons (pe_int) pa_nil)) (pe_bl) (nomark _)))))))))), ?_⟩
    walk_at "ev"
    intro pr H1 hpr0 sm1 hpr1
    walk_at "ev"
    intro p1 hp1
    generalize hG1 : upd _ p1 _ = H2
    obtain ⟨sm2, hq1⟩ := newO hG1 hp1
    walk_at "ev"
    intro p2 hp2
    generalize hG2 : upd _ p2 _ = H3
    obtain ⟨sm3, hq2⟩ := newO hG2 hp2
    walk_at "ev"
    intro p3 hp3
    generalize hG3 : upd _ p3 _ = H4
    obtain ⟨sm4, hq3⟩ := newO hG3 hp3
    walk_at "ev"
    intro p4 hp4
    generalize hG4 : upd _ p4 _ = H5
    obtain ⟨sm5, hq4⟩ := newO hG4 hp4
    walk_at "ev"
    intro p5 hp5
    generalize hG5 : upd _ p5 _ = H6
    obtain ⟨sm6, hq5⟩ := newO hG5 hp5
    walk_at "ev"
    intro p6 hp6
    generalize hG6 : upd _ p6 _ = H7
    obtain ⟨sm7, hq6⟩ := newO hG6 hp6
    walk_at "ev"
    intro p7 hp7
    generalize hG7 : upd _ p7 _ = H8
    obtain ⟨sm8, hq7⟩ := newO hG7 hp7
    have hT : SqT K H8 p7 _ := SqT.of hq7
    have hT' : ∃ xs, SqT K H8 p7 xs := ⟨_, hT⟩
    have sm18 : Same H1 H8 := sm2.trans (sm3.trans (sm4.trans (sm5.trans (sm6.trans (sm7.trans sm8)))))
    have kinds : ∀ v, v ∈ [V.non, V.bl true, V.bl false, V.str "", V.str "7", V.ref p1, V.ref p2, V.ref p3, V.ref p4, V.int (-7), V.int (-2), V.int (-1), V.int 0, V.int 1, V.ref p6, V.str "x"] → ∃ t, Kd K H8 v t ∧ ∀ n, v = .int n → n ≤ 1 := by
      intro v hv
      simp only [List.mem_cons, List.not_mem_nil, or_false] at hv
      rcases hv with h | h | h | h | h | h | h | h | h | h | h | h | h | h | h | h <;> rw [h]
      · exact ⟨_, .non, fun n e => by cases e⟩
      · exact ⟨_, .bl _, fun n e => by cases e⟩
      · exact ⟨_, .bl _, fun n e => by cases e⟩
      · exact ⟨_, .str _, fun n e => by cases e⟩
      · exact ⟨_, .str _, fun n e => by cases e⟩
      · exact ⟨_, .lst (SqL.of ((sm3.trans (sm4.trans (sm5.trans (sm6.trans (sm7.trans sm8))))) _ _ hq1)), fun n e => by cases e⟩
      · exact ⟨_, .tup (SqT.of ((sm4.trans (sm5.trans (sm6.trans (sm7.trans sm8)))) _ _ hq2)), fun n e => by cases e⟩
      · exact ⟨_, .lst (SqL.of ((sm5.trans (sm6.trans (sm7.trans sm8))) _ _ hq3)), fun n e => by cases e⟩
      · exact ⟨_, .tup (SqT.of ((sm6.trans (sm7.trans sm8)) _ _ hq4)), fun n e => by cases e⟩
      · exact ⟨_, .int _, fun n e => by cases e; decide⟩
      · exact ⟨_, .int _, fun n e => by cases e; decide⟩
      · exact ⟨_, .int _, fun n e => by cases e; decide⟩
      · exact ⟨_, .int _, fun n e => by cases e; decide⟩
      · exact ⟨_, .int _, fun n e => by cases e; decide⟩
      · exact ⟨_, .lst (SqL.of (sm8 _ _ hq6)), fun n e => by cases e⟩
      · exact ⟨_, .str _, fun n e => by cases e⟩
    walk_at "ev"
    refine for_tup (K := K) (a := p7) (xs := [V.non, V.bl true, V.bl false, V.str "", V.str "7", V.ref p1, V.ref p2, V.ref p3, V.ref p4, V.int (-7), V.int (-2), V.int (-1), V.int 0, V.int 1, V.ref p6, V.str "x"]) (fun i σ H' => Hold (∃ s2, σ = [some (.ref a), some (.ref pr), s2, none, none, none, none, none, none, none, none] ∧ Same H8 H')) (.mk ⟨none, rfl, Same.refl _⟩) ?_ ?_ ?_
    · intro i σ H' hi hP
      obtain ⟨s2, rfl, sm⟩ := hP.un
      exact same_t sm hT
    · intro i v σ H' hv hP
      obtain ⟨s2, rfl, sm⟩ := hP.un
      obtain ⟨t, kd, hle⟩ := kinds v (List.mem_of_getElem? hv)
      have kd' := kd.same sm
      have hle' : ∀ n, v = .int n → n ≤ 1000000000 := fun n e => by
        have := hle n e
        omega
      walk_at "ev"
      intro b H9 sm9 hb
      have eb : b = false := by
        cases b with
        | false => rfl
        | true =>
          obtain ⟨n, e1, e2⟩ := hb.mp rfl
          have := hle n e1
          have := (Rough.of_fac e2).1
          omega
      subst eb
      walk_at "ev"
      exact .mk ⟨_, rfl, sm.trans sm9⟩
    · intro σ H' hP
      obtain ⟨s2, rfl, sm⟩ := hP.un
      have sm' : Same H1 H' := sm18.trans sm
      have hS' : SqL K H' a (ns.map V.int) := (sm1.trans sm').seq hS
      walk_at "ev"
      refine for_range (lo := 0) (n := _) (fun i σ H' => Hold (∃ s2 s3 s4 s5 s6 s7, σ = [some (.ref a), some (.ref pr), s2, s3, s4, s5, s6, s7, none, none, none] ∧ Same H1 H')) (.mk ⟨s2, none, none, none, none, none, rfl, sm'⟩) ?_ ?_
      · intro i σ H2 hi hP
        obtain ⟨s2, s3, s4, s5, s6, s7, rfl, sm2⟩ := hP.un
        have hi5 : i < 5 := by
          refine Nat.lt_of_lt_of_le hi ?_
          split <;> (try split) <;> omega
        have hSb : SqL K H2 a (ns.map V.int) := (sm1.trans sm2).seq hS
        walk_at "ev"
        intro b H3 hb0 sm3 hbx
        have smb : Same H1 H3 := sm2.trans sm3
        have hb1 : H1 b = none := sm2.free hb0
        walk_at "ev"
        intro D hD
        refine lc_range (lo := 0) (n := (16 : Int).toNat) (fun i H' => Hold (∃ ms : List Int, Same H1 H' ∧ BoxAt H' b (8 * (i : Int)) ∧ H' D = some (.lst (ms.map V.int)) ∧ ms.length = i ∧ ∀ m ∈ ms, 0 ≤ m ∧ m ≤ 1000000)) (.mk ⟨[], same_upd smb hD, hbx.same (same_new hD), upd_same, rfl, by simp⟩) ?_ ?_
        · intro j H4 hj hP4
          obtain ⟨ms, sm4, hb4, hD4, hl4, hm4⟩ := hP4.un
          have hj16 : j < 16 := hj
          have nDb : D ≠ b := hbx.ne hD
          walk_at "ev"
          intro r H5 r0 r1 k5 hb5
          have hD5 := k5 _ _ nDb hD4
          refine ⟨_, hD5, szm (by simp; omega), .mk ⟨ms ++ [r], ?_, ?_, ?_, ?_, ?_⟩⟩
          · exact same_mut (keep_same sm4 hb1 k5) (smb.free hD)
          · obtain ⟨x, y, z, e1, e2⟩ := hb5
            refine BoxAt.mono ⟨x, y, z, ?_, e2⟩ (by omega)
            rw [upd_ne nDb.symm]
            exact e1
          · rw [upd_same, List.map_append]
            rfl
          · simp [hl4]
          · intro m hm
            rcases List.mem_append.mp hm with hm | hm
            · exact hm4 m hm
            · have em : m = r := by simpa using hm
              subst em
              exact ⟨r0, r1⟩
        · intro H4 hP4
          obtain ⟨ms, sm4, hb4, hD4, hl4, hm4⟩ := hP4.un
          walk_at "ev"
          intro D2 hD2
          have npb : pr ≠ b := ne_of_none hpr1 hb1
          have npos : 0 < (((prs 1000).map V.int).length : Int) := by
            rw [List.length_map]
            have := prs_pos (top := 1000) (by decide)
            omega
          have nlt : (((prs 1000).map V.int).length : Int) < 1048576 := by
            rw [List.length_map]
            have := prs_len 1000
            omega
          have e16 : (16 : Int).toNat = 16 := rfl
          rw [e16] at hl4 hb4
          have nDb : D ≠ b := hbx.ne hD
          have nDD : D ≠ D2 := ne_of_none hD4 hD2
          have hD1 : H1 D = none := smb.free hD
          have nD2b : D2 ≠ b := hb4.ne hD2
          have hD21 : H1 D2 = none := sm4.free hD2
          refine lc_range (lo := 0) (n := (2 : Int).toNat) (fun i H' => Hold (∃ ms2 : List Int, Same H1 H' ∧ BoxAt H' b (200 + (i : Int)) ∧ H' D = some (.lst (ms.map V.int)) ∧ H' D2 = some (.lst (ms2.map V.int)) ∧ ms2.length = i ∧ ∀ m ∈ ms2, 0 ≤ m ∧ m ≤ 1000000)) (.mk ⟨[], same_upd sm4 hD2, (hb4.mono (by omega)).same (same_new hD2), by rw [upd_ne nDD]; exact hD4, upd_same, rfl, by simp⟩) ?_ ?_
          · intro j H5 hj hP5
            obtain ⟨ms2, sm5, hb5, hD5, hE5, hl5, hm5⟩ := hP5.un
            have hj2 : j < 2 := hj
            have hprL : SqL K H5 pr ((prs 1000).map V.int) := SqL.of (sm5 _ _ hpr1)
            walk_at "ev"
            intro v H6 hv k6 hb6
            obtain ⟨c, rfl, c1, c2⟩ := prs_in hv
            have hE6 := k6 _ _ nD2b hE5
            have hD6 := k6 _ _ nDb hD5
            refine ⟨_, hE6, szm (by simp; omega), .mk ⟨ms2 ++ [c], ?_, ?_, ?_, ?_, ?_, ?_⟩⟩
            · exact same_mut (keep_same sm5 hb1 k6) hD21
            · obtain ⟨x, y, z, e1, e2⟩ := hb6
              refine BoxAt.mono ⟨x, y, z, ?_, e2⟩ (by omega)
              rw [upd_ne nD2b.symm]
              exact e1
            · rw [upd_ne nDD]
              exact hD6
            · rw [upd_same, List.map_append]
              rfl
            · simp [hl5]
            · intro m hm
              rcases List.mem_append.mp hm with hm | hm
              · exact hm5 m hm
              · have em : m = c := by simpa using hm
                subst em
                omega
          · intro H5 hP5
            obtain ⟨ms2, sm5, hb5, hD5, hE5, hl5, hm5⟩ := hP5.un
            have e2' : (2 : Int).toNat = 2 := rfl
            rw [e2'] at hl5 hb5
            have hsz : (ms.map V.int).length + (ms2.map V.int).length ≤ sizeLine := by
              rw [List.length_map, List.length_map]
              exact szl (by omega)
            walk_at "ev"
            intro p8 hp8
            generalize hG8 : upd _ p8 _ = H6
            obtain ⟨sm6, hq8⟩ := newO hG8 hp8
            have n8b : p8 ≠ b := hb5.ne hp8
            have h81 : H1 p8 = none := sm5.free hp8
            have hb6 := hb5.same sm6
            have smB := sm5.trans sm6
            have hprL : SqL K H6 pr ((prs 1000).map V.int) := SqL.of (smB _ _ hpr1)
            walk_at "ev"
            intro v1 H7 hv1 k7 hb7
            obtain ⟨c, rfl, c1, c2⟩ := prs_in hv1
            have sm7' := keep_same smB hb1 k7
            have hprL7 : SqL K H7 pr ((prs 1000).map V.int) := SqL.of (sm7' _ _ hpr1)
            walk_at "ev"
            intro v2 H8' hv2 k8 hb8
            obtain ⟨c', rfl, c1', c2'⟩ := prs_in hv2
            have sm8' := keep_same sm7' hb1 k8
            have hq9 := k8 _ _ n8b (k7 _ _ n8b hq8)
            have hcm : CMul c c' := .inl ⟨by omega, by omega⟩
            have hsz2 : (ms.map V.int ++ ms2.map V.int).length < sizeLine := by
              rw [List.length_append, List.length_map, List.length_map]
              exact szm (by omega)
            walk_at "ev"
            generalize hG9 : upd H8' p8 _ = H9
            obtain ⟨k9, hq10⟩ := mutO hG9
            have sm9 : Same H1 H9 := keep_same sm8' h81 k9
            have hb9 : BoxAt H9 b (200 + ((2 : Nat) : Int) + 1 + 1) := by
              obtain ⟨x, y, z, e1, e2⟩ := hb8
              exact ⟨x, y, z, k9 _ _ n8b.symm e1, e2⟩
            have hprL9 : SqL K H9 pr ((prs 1000).map V.int) := SqL.of (sm9 _ _ hpr1)
            walk_at "ev"
            intro v3 H10 hv3 k10 hb10
            obtain ⟨c3, rfl, c31, c32⟩ := prs_in hv3
            have sm10 := keep_same sm9 hb1 k10
            have hq11 := k10 _ _ n8b hq10
            walk_at "ev"
            intro p11 hp11
            generalize hG11 : upd _ p11 _ = H11
            obtain ⟨sm11, hq12⟩ := newO hG11 hp11
            have hq13 := sm11 _ _ hq11
            have hsz3 : (ms.map V.int ++ ms2.map V.int ++ [V.int (c * c')]).length + [V.int (c3 + 1)].length ≤ sizeLine := by
              simp only [List.length_append, List.length_map, List.length_cons, List.length_nil]
              exact szl (by omega)
            walk_at "ev"
            intro p14 hp14
            generalize hG14 : upd _ p14 _ = H14
            obtain ⟨sm14, hq15⟩ := newO hG14 hp14
            have eL : (ms.map V.int ++ ms2.map V.int ++ [V.int (c * c')]) ++ [V.int (c3 + 1)] = (ms ++ ms2 ++ [c * c'] ++ [c3 + 1]).map V.int := by
              simp
            have hq16 : H14 p14 = some (.lst ((ms ++ ms2 ++ [c * c'] ++ [c3 + 1]).map V.int)) := by
              rw [← eL]
              exact hq15
            have hall : ∀ m ∈ ms ++ ms2 ++ [c * c'] ++ [c3 + 1], 0 ≤ m ∧ m ≤ 1000000 := by
              intro m hm
              simp only [List.mem_append, List.mem_singleton] at hm
              rcases hm with ((hm | hm) | hm) | hm
              · exact hm4 m hm
              · exact hm5 m hm
              · rw [hm]
                exact mul_le6 c1 c2 c1' c2'
              · omega
            generalize ms ++ ms2 ++ [c * c'] ++ [c3 + 1] = ms3 at hq16 hall
            have sm15 : Same H1 H14 := sm10.trans (sm11.trans sm14)
            have hLL : SqL K H14 p14 (ms3.map V.int) := SqL.of hq16
            refine ⟨p14, rfl, ⟨_, hLL⟩, ?_⟩
            refine for_list (K := K) (a := p14) (xs := ms3.map V.int) (fun j σ H' => Hold (∃ s6 s7, σ = [some (.ref a), some (.ref pr), s2, some (.int (0 + (i : Int))), some (.ref b), some (.ref p8), s6, s7, none, none, none] ∧ Same H1 H' ∧ H' p14 = some (.lst (ms3.map V.int)))) (.mk ⟨_, _, rfl, sm15, hq16⟩) ?_ ?_ ?_
            · intro j σ H' hj hP
              obtain ⟨s6, s7, rfl, smx, hx⟩ := hP.un
              exact SqL.of hx
            · intro j v σ Hx hv hP
              obtain ⟨s6, s7, rfl, smx, hx⟩ := hP.un
              obtain ⟨m, hm, rfl⟩ := int_mem (List.mem_of_getElem? hv)
              have hm2 := hall m hm
              have kd : Kd K Hx (.int m) "int" := .int m
              have hprx : SqL K Hx pr ((prs 1000).map V.int) := SqL.of (smx _ _ hpr1)
              clear hG14 hG11 hG9 hG8 hq15 hq12 hq13 hP hP5 hP4 hall
              have hmt : m < (((1000 : Nat) : Int) + 1) * (((1000 : Nat) : Int) + 1) := by
                have e : (((1000 : Nat) : Int) + 1) * (((1000 : Nat) : Int) + 1) = 1002001 := by decide
                omega
              have hm9 : ∀ n, V.int m = .int n → n ≤ 1000000000 := fun n e => by cases e; omega
              walk_at "ev"
              refine ite2 (fun e => ?_) (fun e => ?_)
              · have e1 : 1 < m := of_decide_eq_true e
                walk_at "ev"
                intro xs p15 Hy hfac hp15 smy hq17
                have hfl : decide (V.int (xs.length : Int) = V.int 1) = true ↔ Fac m [m] := by
                  rw [decide_eq_true_iff]
                  constructor
                  · intro z
                    have z1 : (xs.length : Int) = 1 := V.int.inj z
                    have z2 := hfac.len1 (by omega)
                    rw [z2] at hfac
                    exact hfac
                  · intro z
                    have z2 := hfac.uniq z
                    rw [z2]
                    rfl
                have kdy : Kd K Hy (.int m) "int" := .int m
                have hqL : SqL K Hy p15 (xs.map V.int) := SqL.of hq17
                have el : ((xs.map V.int).length : Int) = (xs.length : Int) := by rw [List.length_map]
                refine ⟨p15, _, rfl, .inl hqL, ?_⟩
                rw [el]
                refine ⟨rfl, ?_⟩
                generalize decide (V.int (xs.length : Int) = V.int 1) = due at hfl
                walk_at "ev"
                intro b1 Ha sma hba
                have kda : Kd K Ha (.int m) "int" := .int m
                walk_at "ev"
                intro b2 Hb smb' hbb
                have eb1 : b1 = due := pk_ext (hba.trans ⟨fun ⟨n, e, h⟩ => by cases e; exact hfl.mpr h, fun z => ⟨m, rfl, hfl.mp z⟩⟩)
                have eb2 : b2 = due := pk_ext (hbb.trans ⟨fun ⟨n, e, h⟩ => by cases e; exact hfl.mpr h, fun z => ⟨m, rfl, hfl.mp z⟩⟩)
                subst eb1 eb2
                walk_at "ev"
                intro p20 hp20
                generalize hG20 : upd _ p20 _ = H20
                obtain ⟨sm20, hq20⟩ := newO hG20 hp20
                walk_at "ev"
                intro p21 hp21
                generalize hG21 : upd _ p21 _ = H21
                obtain ⟨sm21, hq21⟩ := newO hG21 hp21
                have hdx : Dp K H21 (.ref p20) (.list [.bool b2, .bool b2]) := .lst (SqL.of (sm21 _ _ hq20)) (.cons (.bl _) (.cons (.bl _) .nil))
                have hdy : Dp K H21 (.ref p21) (.list [.bool b2, .bool b2]) := .lst (SqL.of hq21) (.cons (.bl _) (.cons (.bl _) .nil))
                have hfit : Fit 1 (.list [.bool b2, .bool b2]) := fit_bb
                walk_at "ev"
                intro Hc smc
                walk_at "ev"
                have smz := smy.trans (sma.trans (smb'.trans (sm20.trans (sm21.trans smc))))
                exact .mk ⟨_, _, rfl, smx.trans smz, smz _ _ hx⟩
              · have e1 : ¬ 1 < m := fun z => e (decide_eq_true z)
                have hfl : false = true ↔ Fac m [m] := ⟨fun z => Bool.noConfusion z, fun z => by
                  have := (Rough.of_fac z).1
                  omega⟩
                generalize false = due at hfl
                have smy : Same Hx Hx := Same.refl _
                walk_at "ev"
                intro b1 Ha sma hba
                have kda : Kd K Ha (.int m) "int" := .int m
                walk_at "ev"
                intro b2 Hb smb' hbb
                have eb1 : b1 = due := pk_ext (hba.trans ⟨fun ⟨n, e, h⟩ => by cases e; exact hfl.mpr h, fun z => ⟨m, rfl, hfl.mp z⟩⟩)
                have eb2 : b2 = due := pk_ext (hbb.trans ⟨fun ⟨n, e, h⟩ => by cases e; exact hfl.mpr h, fun z => ⟨m, rfl, hfl.mp z⟩⟩)
                subst eb1 eb2
                walk_at "ev"
                intro p20 hp20
                generalize hG20 : upd _ p20 _ = H20
                obtain ⟨sm20, hq20⟩ := newO hG20 hp20
                walk_at "ev"
                intro p21 hp21
                generalize hG21 : upd _ p21 _ = H21
                obtain ⟨sm21, hq21⟩ := newO hG21 hp21
                have hdx : Dp K H21 (.ref p20) (.list [.bool b2, .bool b2]) := .lst (SqL.of (sm21 _ _ hq20)) (.cons (.bl _) (.cons (.bl _) .nil))
                have hdy : Dp K H21 (.ref p21) (.list [.bool b2, .bool b2]) := .lst (SqL.of hq21) (.cons (.bl _) (.cons (.bl _) .nil))
                have hfit : Fit 1 (.list [.bool b2, .bool b2]) := fit_bb
                walk_at "ev"
                intro Hc smc
                walk_at "ev"
                have smz := smy.trans (sma.trans (smb'.trans (sm20.trans (sm21.trans smc))))
                exact .mk ⟨_, _, rfl, smx.trans smz, smz _ _ hx⟩
            · intro σ H' hP
              obtain ⟨s6, s7, rfl, smx, hx⟩ := hP.un
              exact .mk ⟨_, _, _, _, _, _, rfl, smx⟩
      · intro σ H2 hP
        obtain ⟨s2, s3, s4, s5, s6, s7, rfl, sm2⟩ := hP.un
        have hpr2 := sm2 _ _ hpr1
        have hprL : SqL K H2 pr ((prs 1000).map V.int) := SqL.of hpr2
        have hprL' : ∃ xs, SqL K H2 pr xs := ⟨_, hprL⟩
        walk_at "ev"
        intro D hD
        have hDp : pr ≠ D := ne_of_none hpr2 hD
        have hD1 : H1 D = none := sm2.free hD
        refine lc_list (K := K) (a := pr) (xs := (prs 1000).map V.int) (fun i H' => Hold (Same H1 H' ∧ H' D = some (.lst ((((prs 1000).take i).filter (fun x => decide (x < 60))).map V.int)))) (.mk ⟨same_upd sm2 hD, upd_same⟩) ?_ ?_ ?_
        · intro i H3 hi hP3
          obtain ⟨sm3, hD3⟩ := hP3.un
          exact SqL.of (sm3 _ _ hpr1)
        · intro i v H3 hv hP3
          obtain ⟨sm3, hD3⟩ := hP3.un
          rw [List.getElem?_map] at hv
          obtain ⟨x, hx, ev⟩ := Option.map_eq_some_iff.mp hv
          subst ev
          have hfl : ((((prs 1000).take i).filter (fun x => decide (x < 60))).map V.int).length < sizeLine := by
            rw [List.length_map]
            refine szm (Nat.le_trans (List.length_filter_le _ _) ?_)
            rw [List.length_take]
            have := prs_len 1000
            omega
          walk_at "ev"
          refine ite2 (fun e => ?_) (fun e => ?_)
          · walk_at "ev"
            refine .mk ⟨same_mut sm3 hD1, ?_⟩
            rw [upd_same, List.take_add_one, hx, List.filter_append, List.map_append]
            simp [of_decide_eq_true e]
          · have e1 : ¬ x < 60 := fun z => e (decide_eq_true z)
            refine .mk ⟨sm3, ?_⟩
            rw [hD3, List.take_add_one, hx, List.filter_append, List.map_append]
            simp [e1]
        · intro H3 hP3
          obtain ⟨sm3, hD3⟩ := hP3.un
          rw [List.length_map, List.take_length, prs60] at hD3
          walk_at "ev"
          intro D2 hD2
          have hDD : D ≠ D2 := ne_of_none hD3 hD2
          have hD21 : H1 D2 = none := sm3.free hD2
          refine lc_range (lo := 0) (n := (60 : Int).toNat) (fun i H' => Hold (Same H1 H' ∧ H' D = some (.lst ((((List.range' 2 58).filter (pk 1001)).map Int.ofNat).map V.int)) ∧ H' D2 = some (.lst (((((List.range i).filter isp).map Int.ofNat)).map V.int)))) (.mk ⟨same_upd sm3 hD2, by rw [upd_ne hDD]; exact hD3, upd_same⟩) ?_ ?_
          · intro i H4 hi hP4
            obtain ⟨sm4, hD4, hE4⟩ := hP4.un
            have hi60 : i < 60 := hi
            have kd : Kd K H4 (.int (0 + (i : Int))) "int" := .int _
            have hm9 : ∀ n, V.int (0 + (i : Int)) = .int n → n ≤ 1000000000 := fun n e => by cases e; omega
            walk_at "ev"
            intro b H5 sm5 hb
            have eb : b = isp i := pk_ext (hb.trans ⟨fun ⟨n, e, h⟩ => by
              cases e
              rw [Int.zero_add] at h
              exact (isp_iff (by omega)).mpr h, fun z => ⟨_, rfl, by rw [Int.zero_add]; exact (isp_iff (by omega)).mp z⟩⟩)
            have hD5 := sm5 _ _ hD4
            have hE5 := sm5 _ _ hE4
            have hfl : ((((List.range i).filter isp).map Int.ofNat).map V.int).length < sizeLine := by
              rw [List.length_map, List.length_map]
              refine szm (Nat.le_trans (List.length_filter_le _ _) ?_)
              rw [List.length_range]
              omega
            walk_at "ev"
            refine ite2 (fun e => ?_) (fun e => ?_)
            · walk_at "ev"
              refine .mk ⟨same_mut (sm4.trans sm5) hD21, by rw [upd_ne hDD]; exact hD5, ?_⟩
              rw [eb] at e
              rw [upd_same, List.range_succ, List.filter_append, List.map_append, List.map_append]
              simp [e]
            · refine .mk ⟨sm4.trans sm5, hD5, ?_⟩
              rw [eb] at e
              rw [hE5, List.range_succ, List.filter_append, List.map_append, List.map_append]
              simp [e]
          · intro H4 hP4
            obtain ⟨sm4, hD4, hE4⟩ := hP4.un
            have e60 : (60 : Int).toNat = 60 := rfl
            rw [e60, isp60] at hE4
            refine ⟨_, rfl, ?_⟩
            refine eqd_ints (SqL.of hE4) (SqL.of hD4) ?_
            rw [decide_eq_true rfl]
            have kd : Kd K H4 (.int 999983) "int" := .int _
            have hm9 : ∀ n, V.int 999983 = .int n → n ≤ 1000000000 := fun n e => by cases e; decide
            walk_at "ev"
            intro b H5 sm5 hb
            have eb : b = true := hb.mpr ⟨_, rfl, big_prime⟩
            subst eb
            walk_at "ev"
            exact q _
end
theorem all_mk {l : PySem.W.OpenLaw} {w : World} {K : PySem.W.Frag} {h : Heap} {mg : Str → Option Value} {fa : Addr} (X : K.In h) (G : h.Ns mainGlobals mg) (hfa : mg "law" = some (.ref fa))
    {od0 an0 : Option Addr} {sl0 : Array (Option Value)} {oc0 kV0 dc0 pm0 cd0 ct0 : Value} {f0 : Addr}
    {od1 an1 : Option Addr} {sl1 : Array (Option Value)} {oc1 kV1 dc1 pm1 cd1 ct1 : Value} {f1 : Addr}
    {od2 an2 : Option Addr} {sl2 : Array (Option Value)} {oc2 kV2 dc2 pm2 cd2 ct2 : Value} {f2 : Addr}
    {od3 an3 : Option Addr} {sl3 : Array (Option Value)} {oc3 kV3 dc3 pm3 cd3 ct3 : Value} {f3 : Addr}
    {od4 an4 : Option Addr} {sl4 : Array (Option Value)} {oc4 kV4 dc4 pm4 cd4 ct4 : Value} {f4 : Addr}
    {od5 an5 : Option Addr} {sl5 : Array (Option Value)} {oc5 kV5 dc5 pm5 cd5 ct5 : Value} {f5 : Addr}
    {od6 an6 : Option Addr} {sl6 : Array (Option Value)} {oc6 kV6 dc6 pm6 cd6 ct6 : Value} {f6 : Addr}
    {od7 an7 : Option Addr} {sl7 : Array (Option Value)} {oc7 kV7 dc7 pm7 cd7 ct7 : Value} {f7 : Addr}
    {od8 an8 : Option Addr} {sl8 : Array (Option Value)} {oc8 kV8 dc8 pm8 cd8 ct8 : Value} {f8 : Addr}
    {od9 an9 : Option Addr} {sl9 : Array (Option Value)} {oc9 kV9 dc9 pm9 cd9 ct9 : Value} {f9 : Addr}
    {od10 an10 : Option Addr} {sl10 : Array (Option Value)} {oc10 kV10 dc10 pm10 cd10 ct10 : Value} {f10 : Addr}
    (a0 : PySem.W.nsIn K mainGlobals "_law_box" = some (some (.ref f0))) (l0 : K.lookup f0 = some ⟨oc0, od0, .func (PySem.W.fnOf "_law_box" "_law_box" (defArgs s__law_box) (defBody s__law_box) (defScope s__law_box) .none kV0 dc0 pm0 an0 cd0 ct0), sl0⟩) (c0 : PySem.W.codeIn K cd0 "_law_box" = true) (k0 : PySem.W.keepIn K (.ref f0) = true)
    (a1 : PySem.W.nsIn K mainGlobals "_law_take" = some (some (.ref f1))) (l1 : K.lookup f1 = some ⟨oc1, od1, .func (PySem.W.fnOf "_law_take" "_law_take" (defArgs s__law_take) (defBody s__law_take) (defScope s__law_take) .none kV1 dc1 pm1 an1 cd1 ct1), sl1⟩) (c1 : PySem.W.codeIn K cd1 "_law_take" = true) (k1 : PySem.W.keepIn K (.ref f1) = true)
    (a2 : PySem.W.nsIn K mainGlobals "_law_pick" = some (some (.ref f2))) (l2 : K.lookup f2 = some ⟨oc2, od2, .func (PySem.W.fnOf "_law_pick" "_law_pick" (defArgs s__law_pick) (defBody s__law_pick) (defScope s__law_pick) .none kV2 dc2 pm2 an2 cd2 ct2), sl2⟩) (c2 : PySem.W.codeIn K cd2 "_law_pick" = true) (k2 : PySem.W.keepIn K (.ref f2) = true)
    (a3 : PySem.W.nsIn K mainGlobals "_law_same" = some (some (.ref f3))) (l3 : K.lookup f3 = some ⟨oc3, od3, .func (PySem.W.fnOf "_law_same" "_law_same" (defArgs s__law_same) (defBody s__law_same) (defScope s__law_same) .none kV3 dc3 pm3 an3 cd3 ct3), sl3⟩) (c3 : PySem.W.codeIn K cd3 "_law_same" = true) (k3 : PySem.W.keepIn K (.ref f3) = true)
    (a4 : PySem.W.nsIn K mainGlobals "_law_number" = some (some (.ref f4))) (l4 : K.lookup f4 = some ⟨oc4, od4, .func (PySem.W.fnOf "_law_number" "_law_number" (defArgs s__law_number) (defBody s__law_number) (defScope s__law_number) .none kV4 dc4 pm4 an4 cd4 ct4), sl4⟩) (c4 : PySem.W.codeIn K cd4 "_law_number" = true) (k4 : PySem.W.keepIn K (.ref f4) = true)
    (a5 : PySem.W.nsIn K mainGlobals "_law_sieve" = some (some (.ref f5))) (l5 : K.lookup f5 = some ⟨oc5, od5, .func (PySem.W.fnOf "_law_sieve" "_law_sieve" (defArgs s__law_sieve) (defBody s__law_sieve) (defScope s__law_sieve) .none kV5 dc5 pm5 an5 cd5 ct5), sl5⟩) (c5 : PySem.W.codeIn K cd5 "_law_sieve" = true) (k5 : PySem.W.keepIn K (.ref f5) = true)
    (a6 : PySem.W.nsIn K mainGlobals "_law_parts_of" = some (some (.ref f6))) (l6 : K.lookup f6 = some ⟨oc6, od6, .func (PySem.W.fnOf "_law_parts_of" "_law_parts_of" (defArgs s__law_parts_of) (defBody s__law_parts_of) (defScope s__law_parts_of) .none kV6 dc6 pm6 an6 cd6 ct6), sl6⟩) (c6 : PySem.W.codeIn K cd6 "_law_parts_of" = true) (k6 : PySem.W.keepIn K (.ref f6) = true)
    (a7 : PySem.W.nsIn K mainGlobals "is_whole" = some (some (.ref f7))) (l7 : K.lookup f7 = some ⟨oc7, od7, .func (PySem.W.fnOf "is_whole" "is_whole" (defArgs s_is_whole) (defBody s_is_whole) (defScope s_is_whole) .none kV7 dc7 pm7 an7 cd7 ct7), sl7⟩) (c7 : PySem.W.codeIn K cd7 "is_whole" = true) (k7 : PySem.W.keepIn K (.ref f7) = true)
    (a8 : PySem.W.nsIn K mainGlobals "is_prime" = some (some (.ref f8))) (l8 : K.lookup f8 = some ⟨oc8, od8, .func (PySem.W.fnOf "is_prime" "is_prime" (defArgs s_is_prime) (defBody s_is_prime) (defScope s_is_prime) .none kV8 dc8 pm8 an8 cd8 ct8), sl8⟩) (c8 : PySem.W.codeIn K cd8 "is_prime" = true) (k8 : PySem.W.keepIn K (.ref f8) = true)
    (a9 : PySem.W.nsIn K mainGlobals "factors" = some (some (.ref f9))) (l9 : K.lookup f9 = some ⟨oc9, od9, .func (PySem.W.fnOf "factors" "factors" (defArgs s_factors) (defBody s_factors) (defScope s_factors) .none kV9 dc9 pm9 an9 cd9 ct9), sl9⟩) (c9 : PySem.W.codeIn K cd9 "factors" = true) (k9 : PySem.W.keepIn K (.ref f9) = true)
    (a10 : PySem.W.nsIn K mainGlobals "law" = some (some (.ref f10))) (l10 : K.lookup f10 = some ⟨oc10, od10, .func (PySem.W.fnOf "law" "law" (defArgs s_law) (defBody s_law) (defScope s_law) .none kV10 dc10 pm10 an10 cd10 ct10), sl10⟩) (c10 : PySem.W.codeIn K cd10 "law" = true) (k10 : PySem.W.keepIn K (.ref f10) = true)
    (z0 : PySem.W.nsIn K mainGlobals "abs" = some none) (z1 : PySem.W.nsIn K mainGlobals "all" = some none) (z2 : PySem.W.nsIn K mainGlobals "bool" = some none) (z3 : PySem.W.nsIn K mainGlobals "int" = some none) (z4 : PySem.W.nsIn K mainGlobals "isinstance" = some none) (z5 : PySem.W.nsIn K mainGlobals "len" = some none) (z6 : PySem.W.nsIn K mainGlobals "list" = some none) (z7 : PySem.W.nsIn K mainGlobals "max" = some none) (z8 : PySem.W.nsIn K mainGlobals "min" = some none) (z9 : PySem.W.nsIn K mainGlobals "range" = some none) (z10 : PySem.W.nsIn K mainGlobals "str" = some none) (z11 : PySem.W.nsIn K mainGlobals "tuple" = some none) (z12 : PySem.W.nsIn K mainGlobals "zip" = some none) :
    ∃ fd : FuncData, (∀ (s : Shared) (v : Value), BindsTo s fd ⟨[v], []⟩ [("_law_script", v)]) ∧ ∀ base : Heap, K.In base → base.Ns mainGlobals mg → FnOk l.prog w K mg base CX0 4 fa fd ["_law_script"] (spLaw K) := by
  have e := hfa.symm.trans (PySem.W.mg_of X G a10)
  cases e
  have T : Blt mg := ⟨PySem.W.mg_none_of X G z0, PySem.W.mg_none_of X G z1, PySem.W.mg_none_of X G z2, PySem.W.mg_none_of X G z3, PySem.W.mg_none_of X G z4, PySem.W.mg_none_of X G z5, PySem.W.mg_none_of X G z6, PySem.W.mg_none_of X G z7, PySem.W.mg_none_of X G z8, PySem.W.mg_none_of X G z9, PySem.W.mg_none_of X G z10, PySem.W.mg_none_of X G z11, PySem.W.mg_none_of X G z12⟩
  have F0 := fun_mk (st := s__law_box) l0 c0 k0
  have b0 := F0.binds (ps := P__law_box) fun _ _ _ _ _ _ us hl => match us, hl with | [_, _], _ => rfl
  have F1 := fun_mk (st := s__law_take) l1 c1 k1
  have b1 := F1.binds (ps := P__law_take) fun _ _ _ _ _ _ us hl => match us, hl with | [_, _], _ => rfl
  have F2 := fun_mk (st := s__law_pick) l2 c2 k2
  have b2 := F2.binds (ps := P__law_pick) fun _ _ _ _ _ _ us hl => match us, hl with | [_, _], _ => rfl
  have F3 := fun_mk (st := s__law_same) l3 c3 k3
  have b3 := F3.binds (ps := P__law_same) fun _ _ _ _ _ _ us hl => match us, hl with | [_, _], _ => rfl
  have F4 := fun_mk (st := s__law_number) l4 c4 k4
  have b4 := F4.binds (ps := P__law_number) fun _ _ _ _ _ _ us hl => match us, hl with | [_], _ => rfl
  have F5 := fun_mk (st := s__law_sieve) l5 c5 k5
  have b5 := F5.binds (ps := P__law_sieve) fun _ _ _ _ _ _ us hl => match us, hl with | [_], _ => rfl
  have F6 := fun_mk (st := s__law_parts_of) l6 c6 k6
  have b6 := F6.binds (ps := P__law_parts_of) fun _ _ _ _ _ _ us hl => match us, hl with | [_, _], _ => rfl
  have F7 := fun_mk (st := s_is_whole) l7 c7 k7
  have b7 := F7.binds (ps := P_is_whole) fun _ _ _ _ _ _ us hl => match us, hl with | [_], _ => rfl
  have F8 := fun_mk (st := s_is_prime) l8 c8 k8
  have b8 := F8.binds (ps := P_is_prime) fun _ _ _ _ _ _ us hl => match us, hl with | [_], _ => rfl
  have F9 := fun_mk (st := s_factors) l9 c9 k9
  have b9 := F9.binds (ps := P_factors) fun _ _ _ _ _ _ us hl => match us, hl with | [_], _ => rfl
  have F10 := fun_mk (st := s_law) l10 c10 k10
  refine ⟨_, fun s v => .of_eq rfl, fun base _ _ => ok_law (P := l.prog) (w := w) (base := base) F10 T ⟨⟨_, _, F0, b0, PySem.W.mg_of X G a0⟩, ⟨_, _, F1, b1, PySem.W.mg_of X G a1⟩, ⟨_, _, F2, b2, PySem.W.mg_of X G a2⟩, ⟨_, _, F3, b3, PySem.W.mg_of X G a3⟩, ⟨_, _, F4, b4, PySem.W.mg_of X G a4⟩, ⟨_, _, F5, b5, PySem.W.mg_of X G a5⟩, ⟨_, _, F6, b6, PySem.W.mg_of X G a6⟩, ⟨_, _, F7, b7, PySem.W.mg_of X G a7⟩, ⟨_, _, F8, b8, PySem.W.mg_of X G a8⟩, ⟨_, _, F9, b9, PySem.W.mg_of X G a9⟩⟩⟩
end My
open PySem PySem.W PyProof.Rows
set_option maxRecDepth 100000 in
set_option maxHeartbeats 0 in
theorem PySem.Challenge.cw_turnsums_k02_primes_or_not_holds : PySem.Challenge.rw_turnsums_k02_primes_or_not.Holds := by
  w_on; o_law; k_head; (case hw => w_witness2)
  k_fill
  refine L2.walk_of (l := PySem.Challenge.rw_turnsums_k02_primes_or_not) (n := 63) (k := 4) (x := "_law_script") (CX := fun _ => L2.CX0) (sp := fun w => My.spLaw _) rfl (by decide) rfl ⟨rfl, by decide, by decide⟩ (fun w h Y => PySem.W.kIn_of Y) ?F (fun _ _ a ns hl _ hS => ⟨a, ns, rfl, hS, hl, fun _ => rfl⟩) (fun _ _ _ _ _ h => h)
  case F =>
    intro w mg fa h KX G hmg
    refine' My.all_mk KX G hmg ?a0 ?l0 ?c0 ?k0 ?a1 ?l1 ?c1 ?k1 ?a2 ?l2 ?c2 ?k2 ?a3 ?l3 ?c3 ?k3 ?a4 ?l4 ?c4 ?k4 ?a5 ?l5 ?c5 ?k5 ?a6 ?l6 ?c6 ?k6 ?a7 ?l7 ?c7 ?k7 ?a8 ?l8 ?c8 ?k8 ?a9 ?l9 ?c9 ?k9 ?a10 ?l10 ?c10 ?k10 ?z0 ?z1 ?z2 ?z3 ?z4 ?z5 ?z6 ?z7 ?z8 ?z9 ?z10 ?z11 ?z12
    (case a0 => k_is)
    (case l0 => k_is)
    (case c0 => k_is)
    (case k0 => k_is)
    (case a1 => k_is)
    (case l1 => k_is)
    (case c1 => k_is)
    (case k1 => k_is)
    (case a2 => k_is)
    (case l2 => k_is)
    (case c2 => k_is)
    (case k2 => k_is)
    (case a3 => k_is)
    (case l3 => k_is)
    (case c3 => k_is)
    (case k3 => k_is)
    (case a4 => k_is)
    (case l4 => k_is)
    (case c4 => k_is)
    (case k4 => k_is)
    (case a5 => k_is)
    (case l5 => k_is)
    (case c5 => k_is)
    (case k5 => k_is)
    (case a6 => k_is)
    (case l6 => k_is)
    (case c6 => k_is)
    (case k6 => k_is)
    (case a7 => k_is)
    (case l7 => k_is)
    (case c7 => k_is)
    (case k7 => k_is)
    (case a8 => k_is)
    (case l8 => k_is)
    (case c8 => k_is)
    (case k8 => k_is)
    (case a9 => k_is)
    (case l9 => k_is)
    (case c9 => k_is)
    (case k9 => k_is)
    (case a10 => k_is)
    (case l10 => k_is)
    (case c10 => k_is)
    (case k10 => k_is)
    (case z0 => k_is)
    (case z1 => k_is)
    (case z2 => k_is)
    (case z3 => k_is)
    (case z4 => k_is)
    (case z5 => k_is)
    (case z6 => k_is)
    (case z7 => k_is)
    (case z8 => k_is)
    (case z9 => k_is)
    (case z10 => k_is)
    (case z11 => k_is)
    (case z12 => k_is)

