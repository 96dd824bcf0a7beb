import PyProof.Rows.All
import Wide.All
import OpenK.AllK
import Wide.FinOn
import HandS.ForMost
import HandS.IsInst
import HandS.Style
import HandS.Wide
import HandS.WideMore
import HandS.Zip
import HandS.Flow
import HandS.SetFor
import HandS.Strs
import HandS.SortInts
import HandS.ExcInit
import HandS.ExcField
import HandS.ExcIs
import HandS.ExcValue
import HandS.WordsExc
import HandS.NoneIn
import HandS.Conv
import HandS.TupMul
import HandS.TupAny
import HandS.Dict
import HandS.Deep
import KE.KExcIs
import KE.GoesMore
import KE.GoesRaise
import HandS.Defaults
import HandS.CallSlots
import HandS.IterVal
import PyProof.Draws
import KE.OsRunLaw
import HandS.Text
import HandS.FStr
import HandS.Iter
import HandS.SetKeys
import HandS.Codes
import PySem.Challenge.RW_turnsums_k28_plans_by_names
set_option Elab.async false
set_option linter.all false
set_option maxRecDepth 100000
set_option maxHeartbeats 4000000
namespace My
open PySem L2
def top (i : Nat) : Stmt := PySem.Challenge.pw_turnsums_k28_plans_by_names.main.body.getD i (.Pass ⟨0, 0, 0, 0⟩)
/-- a def of the text: where it stands, how it is called -/
structure Df (K : PySem.W.Frag) (mg : Str → Option Value) (x : Str) (st : Stmt) (ps : List Str) (f : Addr) (fd : FuncData) : Prop where
  F : Fun K x x st f fd
  b : Binds K fd ps []
  g : mg x = some (.ref f)
/-! heaps: all but the box stays -/
theorem same_upd {H H' : Hp} {p : Addr} {o : HO} (h : Same H H') (n : H' p = none) : Same H (upd H' p o) := fun b x e => by
  rw [upd_ne (ne_of_none (h b x e) n)]
  exact h b x e
theorem same_new {H : Hp} {p : Addr} {o : HO} (n : H p = none) : Same H (upd H p o) := same_upd (Same.refl H) n
theorem same_mut {H H' : Hp} {p : Addr} {o : HO} (h : Same H H') (n : H p = none) : Same H (upd H' p o) := fun b x e => by
  rw [upd_ne (ne_of_none e n)]
  exact h b x e
theorem same_t {K : PySem.W.Frag} {H H' : Hp} {a : Addr} {xs : List V} (e : Same H H') (h : SqT K H a xs) : SqT K H' a xs := by
  rcases h with (h | ⟨o, h⟩) | h
  · exact .inl (.inl (e _ _ h))
  · exact .inl (.inr ⟨o, e _ _ h⟩)
  · exact .inr h
def Keep (b : Addr) (H H' : Hp) : Prop := ∀ a o, a ≠ b → H a = some o → H' a = some o
theorem Keep.refl (b : Addr) (H : Hp) : Keep b H H := fun _ _ _ h => h
theorem Keep.trans {b : Addr} {H H1 H2 : Hp} (a : Keep b H H1) (c : Keep b H1 H2) : Keep b H H2 := fun x o n h => c x o n (a x o n h)
theorem keepS {b : Addr} {H H' : Hp} (h : Same H H') : Keep b H H' := fun x o _ e => h x o e
theorem keep_same {b : Addr} {H0 H H' : Hp} (a : Same H0 H) (n : H0 b = none) (k : Keep b H H') : Same H0 H' := fun x o e => k x o (ne_of_none e n) (a x o e)
theorem keep_upd {b : Addr} {H H' : Hp} {o : HO} (h : Keep b H H') : Keep b H (upd H' b o) := fun a u n e => by
  rw [upd_ne n]
  exact h a u n e
theorem keep_new {b p : Addr} {H H' : Hp} {o : HO} (h : Keep b H H') (n : H' p = none) : Keep b H (upd H' p o) := fun a u na e => by
  rw [upd_ne (ne_of_none (h a u na e) n)]
  exact h a u na e
theorem Keep.seq {K : PySem.W.Frag} {b a : Addr} {H H' : Hp} {xs : List V} (e : Keep b H H') (n : a ≠ b) (h : SqL K H a xs) : SqL K H' a xs := by
  rcases h with (h | ⟨o, h⟩) | h
  · exact .inl (.inl (e _ _ n h))
  · exact .inl (.inr ⟨o, e _ _ n h⟩)
  · exact .inr h
def BoxAt (H : Hp) (b : Addr) (n : Int) : Prop := ∃ x y z : Int, H b = some (.lst [.int x, .int y, .int z]) ∧ 0 ≤ x ∧ 0 ≤ y ∧ y ≤ 4294967296 ∧ 0 ≤ z ∧ z ≤ n
theorem BoxAt.mono {H : Hp} {b : Addr} {n m : Int} (h : BoxAt H b n) (e : n ≤ m) : BoxAt H b m := by
  obtain ⟨x, y, z, a1, a2, a3, a4, a5, a6⟩ := h
  exact ⟨x, y, z, a1, a2, a3, a4, a5, by omega⟩
theorem BoxAt.same {H H' : Hp} {b : Addr} {n : Int} (h : BoxAt H b n) (e : Same H H') : BoxAt H' b n := by
  obtain ⟨x, y, z, a1, a2⟩ := h
  exact ⟨x, y, z, e _ _ a1, a2⟩
theorem BoxAt.some {H : Hp} {b : Addr} {n : Int} (h : BoxAt H b n) : ∃ o, H b = some o := by
  obtain ⟨x, y, z, a1, a2⟩ := h
  exact ⟨_, a1⟩
theorem BoxAt.ne {H : Hp} {b p : Addr} {n : Int} (h : BoxAt H b n) (e : H p = none) : p ≠ b := by
  obtain ⟨o, h⟩ := h.some
  exact (ne_of_none h e).symm
theorem szl {n : Nat} (h : n ≤ 60000) : n ≤ sizeLine := Nat.le_trans h (by decide)
theorem szm {n : Nat} (h : n ≤ 60000) : n < sizeLine := Nat.lt_of_le_of_lt h (by decide)
theorem pw6 : (10 : Int) ^ Int.toNat 6 = 1000000 := by decide
theorem pw9 : (10 : Int) ^ Int.toNat 9 = 1000000000 := by decide
theorem newO {H H' : Hp} {p : Addr} {o : HO} (e : upd H p o = H') (hp : H p = none) : Same H H' ∧ H' p = some o := by
  subst e
  exact ⟨same_new hp, upd_same⟩
theorem mutO {H H' : Hp} {p : Addr} {o : HO} (e : upd H p o = H') : Keep p H H' ∧ H' p = some o := by
  subst e
  exact ⟨keep_upd (Keep.refl _ _), upd_same⟩
/-- a word of ours that the walk must not open -/
inductive Hold (p : Prop) : Prop
  | mk : p → Hold p
theorem Hold.un {p : Prop} (h : Hold p) : p := by
  cases h with
  | mk h => exact h
theorem holdN {W : Nat → L2.St → Hp → Prop} {m : Nat} : ∀ (σ' : L2.St) (H' : Hp), Hold (∃ m', m' < m ∧ W m' σ' H') → ∃ m', m' < m ∧ W m' σ' H' := fun _ _ h => h.un
theorem ite_dec {c A B : Prop} [Decidable c] (hc : c) (h : A) : if decide c = true then A else B := by
  rw [decide_eq_true hc]
  exact iteT h
def rLenQ (K : PySem.W.Frag) : List V → Hp → VK → Prop := fun xs H Q => ∃ p ys, xs = [.ref p] ∧ (SqL K H p ys ∨ SqT K H p ys) ∧ Q (.int ys.length) H
theorem iteTe {b : Bool} {A B : Prop} (e : b = true) (h : A) : if b = true then A else B := by
  rw [if_pos e]
  exact h
theorem iteFe {b : Bool} {A B : Prop} (e : b = false) (h : B) : if b = true then A else B := by
  rw [e]
  exact iteF h
theorem cmul_b {i : Int} {b : Bool} : CMul i (if b then 1 else 0) := by
  refine .inr ?_
  cases b <;> exact ⟨by decide, by decide⟩
theorem at_ints {ns : List Int} {k : Int} (h0 : 0 ≤ k) (h : k < (ns.length : Int)) : ∃ c, c ∈ ns ∧ atI (ns.map V.int) k = some (.int c) := by
  have hk : k.toNat < ns.length := by omega
  refine ⟨ns[k.toNat], List.getElem_mem hk, at_of (j := k.toNat) (by omega) ?_⟩
  rw [List.getElem?_map, List.getElem?_eq_getElem hk]
  rfl
theorem at_some {xs : List V} {k : Int} (h0 : 0 ≤ k) (h : k < (xs.length : Int)) : ∃ v, v ∈ xs ∧ atI xs k = some v := by
  have hk : k.toNat < xs.length := by omega
  exact ⟨xs[k.toNat], List.getElem_mem hk, at_of (j := k.toNat) (by omega) (List.getElem?_eq_getElem hk)⟩
theorem int_mem {ns : List Int} {v : V} (h : v ∈ ns.map V.int) : ∃ c, c ∈ ns ∧ v = .int c := by
  obtain ⟨c, hc, e⟩ := List.mem_map.mp h
  exact ⟨c, hc, e.symm⟩
structure Blt (mg : Str → Option Value) : Prop where
  b_ValueError : mg "ValueError" = none
  b_abs : mg "abs" = none
  b_all : mg "all" = none
  b_any : mg "any" = none
  b_bool : mg "bool" = none
  b_enumerate : mg "enumerate" = none
  b_int : mg "int" = none
  b_isinstance : mg "isinstance" = none
  b_len : mg "len" = none
  b_list : mg "list" = none
  b_max : mg "max" = none
  b_min : mg "min" = none
  b_range : mg "range" = none
  b_repr : mg "repr" = none
  b_set : mg "set" = none
  b_sorted : mg "sorted" = none
  b_str : mg "str" = none
  b_tuple : mg "tuple" = none
  b_zip : mg "zip" = none
/-! the head: the top by one run -/
section
open PySem PySem.W PySem.Calls PyProof.Rows
abbrev hdR : OpenRow := OpenLaw.row PySem.Challenge.rw_turnsums_k28_plans_by_names
def hdV : Program := view hdR.prog [63]
def hdN : List PySem.Str := (["_wall", "__name__", "TurnError", "BadGround", "BadText", "is_whole", "is_prime", "factors", "divisors", "are_coprime", "power_rest", "generator", "SHORTS", "bare_length", "pair_length", "led_length", "length_if_plan", "is_plan", "plan_length", "inner_plans", "lengths_in", "plan_lengths", "plan_fits", "plan_depth", "FIGURES", "SIGNS", "plan_text", "word_of", "pieces_of", "number_in"] : List PySem.Str) ++ (["part_in", "bracket_plan", "plan_in", "MOST_PRIME", "Rests", "MOST_ORDER", "divided", "wheel", "Roots", "_law_box", "_law_take", "_law_pick", "_law_same", "_law_shares", "_law_is_plain_prime", "_law_raised", "_law_least_generator", "_law_divided", "_law_own_wheel", "_law_world", "_law_made", "_law_has", "_law_lengths", "_law_plan_of", "_law_plan_words", "_law_any_plan", "_law_right"] : List PySem.Str)
open HeadRun in
theorem hd_left {p q : Program} {loose : List PySem.Str} {Xt : Shared → Bool} {K : Params → Frag} {as : List Addr} {ek : ∀ P, as = (K P).map (·.1)} {N M : Nat}
    (e : opening p = plainProg p.main.scope.names) (hN : Nat.ble 600 N = true) (f : ∀ s, fenceModules? p s = some s) (le : Nat.ble M N = true)
    (run : ∀ (b : Bool) (w : World) (os : OsState), (fun w : World => (endF (stepQ (denQ tabQ) p w) M p w os).map (fun s => (looksF p (boot_heap w.params) s.abs, seenQ q loose (importedModules p.main.body) Xt s.abs, as.map (getT s))) = some (true, openGood q loose, (K w.params).map fun x => some x.2)) (w.withFollow "special-get-raises" b)) :
    LeftO p q loose Xt (Hook.obs (kHook K as ek)) (Hook.val (kHook K as ek)) N true :=
  left_oneK (M := M) e hN f le fun w => byRow2 "special-get-raises" (P := fun w => ∀ os : OsState, (endF (stepQ (denQ tabQ) p w) M p w os).map (fun s => (looksF p (boot_heap w.params) s.abs, seenQ q loose (importedModules p.main.body) Xt s.abs, as.map (getT s))) = some (true, openGood q loose, (K w.params).map fun x => some x.2)) (fun w os => run false w os) (fun w os => run true w os) w
local macro_rules
  | `(tactic| o_head $H) => `(tactic| (
    refine holds_open (q := hdV) (loose := hdN) (Xt := fun s => xlAt hdV [] s && recOk (RowW.records (OpenRow.toRowW hdR)) s) (XP := XL hdV []) (Yf := Hook.obs $H) (Ya := Hook.val $H) (YP := Hook.says $H) (N := 81000) ?hl (Hook.of $H) (Hook.keeps $H) (fun s e => xl_of s (Bool.and_eq_true_iff.mp e).1) XL.keeps (by rfl) (by rfl) (by rfl) (fun s e => recFacts_of (Bool.and_eq_true_iff.mp e).2) (by rfl) (by first | assumption | decide +kernel) (by decide +kernel) ⟨rfl, rfl, rfl, rfl, rfl, by decide +kernel⟩ ?hw ?hc
    (case hl =>
      refine hd_left (M := 80000) (by kernel_rfl) (by rfl) (fun s => by kernel_rfl) (by rfl) ?_
      intro b w os
      cases b
      · kernel_rfl
      · kernel_rfl)))
set_option maxHeartbeats 0 in
open_top hdtop for PySem.Challenge.rw_turnsums_k28_plans_by_names
end
/-! ### sorted(set(xs)), xs a list of few ints -/
section
open PySem.Spec PyProof.Rows PySem.Calls
abbrev bareSet (w : World) : Obj := { cls := .type "set", dict := none, data := .set #[] 0 (.fresh 0 0 (!w.params.followText "set-order")) }
/-- what set(xs) leaves behind -/
def SetLeft (w : World) (s : Shared) (ns : List Int) (h' : Heap) (c : Nat) : Prop := SetR w h' s.heap.objs.size (fun j => decide (j ∈ ns)) c ∧ c ≤ ns.length ∧ ∀ b o, s.heap.get? b = some o → h'.get? b = some o
variable {P : Program} {w : World} {A : Around} {E : Value → Shared → Prop} {s : Shared}
theorem items_ints {items : Array Value} {ns : List Int} (hi : IntsAre items.toList ns) (i : Nat) (v : Value) (hv : items[i]? = some v) : ∃ k t, ns[i]? = some k ∧ v = .int k t := by
  have hl : items.size = ns.length := by
    rw [← Array.length_toList]
    exact hi.length
  have hlt : i < ns.length := by
    rw [← hl]
    exact (Array.getElem?_eq_some_iff.mp hv).1
  obtain ⟨t, e⟩ := hi.int_at i v (by rw [Array.getElem?_toList]; exact hv)
  refine ⟨ns[i], t, List.getElem?_eq_getElem hlt, e.trans ?_⟩
  rw [List.getD_eq_getElem?_getD, List.getElem?_eq_getElem hlt]
  rfl
set_option maxHeartbeats 3200000 in
theorem set_of_list {l : Addr} {items : Array Value} {ns : List Int} {Q : Value → Shared → Prop} (hh : A.handled = none) (hl : s.heap.IsList l items) (hi : IntsAre items.toList ns) (hb : ns.length + 1 < scanBound)
    (h : ∀ (h' : Heap) (tk c : Nat), SetLeft w s ns h' c → Q (.ref s.heap.objs.size) { s with heap := h', toks := tk }) : wpAny (model P w) A (call (.type "set") [.ref l]) Q E s := by
  have hsz : items.size = ns.length := by
    rw [← Array.length_toList]
    exact hi.length
  obtain ⟨mc, mt, hmro⟩ := F.called_set.mro
  have a1 := F.called_set.made; have a2 := F.called_set.sub; have a3 := F.called_set.notType; have a4 := F.called_set.canCreate; have a5 := F.typeCall_set_1 (.ref l)
  refine wpAny_call (codeAny_of_tree (show wpAny _ _ (callAny (.type "set") _) _ _ _ from wpAny_pure ⟨Code.quiet_builtin _ (by decide +kernel), codeAny_builtin F.entry_type_call ?_⟩))
  rw [Around.under_plain (weight_type_call_type "set" [.ref l] []) rfl]; repeat (any_goals (first | assumption | wp_step))
  refine codeAny_mono (code_set_led1 (.ref l) (E := E) (Q₁ := fun v s' => v = .ref s.heap.objs.size ∧ s' = { s with heap := s.heap.push (bareSet w) }) ⟨rfl, rfl⟩) fun res s1 hres => ?_
  match res, hres with
  | .error e, hres => exact hres
  | .ok .next, hres => exact hres.elim
  | .ok .cont, hres => exact hres.elim
  | .ok .brk, hres => exact hres.elim
  | .ok (.ret v), hres =>
    obtain ⟨rfl, rfl⟩ := hres
    have g0 : (s.heap.push (bareSet w)).get? s.heap.objs.size = some (bareSet w) := Heap.get?_push_size _ rfl
    have ty0 : Shared.TypeIs { s with heap := s.heap.push (bareSet w) } (.ref s.heap.objs.size) "set" := ⟨_, g0, rfl⟩
    have i1 := F.called_set.init.lookup; have i2 := F.called_set.init.bind (.ref s.heap.objs.size)
    repeat (any_goals (first | assumption | wp_step))
    refine codeAny_mono (codeAny_call_builtin (R := wants (fun v s' => v = .none ∧ ∃ h' tk c, s' = { s with heap := h', toks := tk } ∧ SetLeft w s ns h' c) E) F.called_set.init.plain F.entry_set_init (check_set_init_1 ty0 ?_)) fun res2 s2 hres2 => ?_
    · obtain ⟨⟨lc, ld, la, ls⟩, hol, hcl, nl, hdl⟩ := hl
      simp only at hcl hdl; subst hcl; subst hdl
      have hol1 := Heap.get?_push_of_some (bareSet w) hol
      have hL1 : (s.heap.push (bareSet w)).IsList l items := ⟨_, hol1, rfl, nl, rfl⟩
      have n1 := F.sub_list_set; have n2 := F.sub_list_frozenset; have n3 : (Value.type "list" == Value.type "dict") = false := by decide
      unfold Builtin.«set.__init__» noKeywords Builtin.Frozenset.updateFrom; generalize hgo : pyIter = go; wp_walk; subst hgo
      refine wpAny_pyIter_list hL1 (wpAny_bind (wpAny_runValue ?_))
      have ll := Heap.lt_size hol
      have hhd : A.in1.in1.in1.handled = none := by simp [hh]
      have sz1 : (s.heap.push (bareSet w)).objs.size = s.heap.objs.size + 1 := Heap.size_push ..
      have off : l ≠ (s.heap.push (bareSet w)).objs.size := by rw [sz1]; exact Nat.ne_of_lt (Nat.lt_succ_of_lt ll)
      have out : s.heap.objs.size ∉ [(s.heap.push (bareSet w)).objs.size, l] := by
        intro z
        rcases List.mem_cons.mp z with z | z
        · rw [sz1] at z
          exact absurd z (Nat.ne_of_lt (Nat.lt_succ_self _))
        · exact absurd (List.mem_singleton.mp z) (Nat.ne_of_gt ll)
      refine set_update_ints ((Walks.list hhd _ l off items).toS) s.heap.objs.size out ns hsz hb (items_ints hi) (items.size - 0) 0 _ (by omega) (Nat.zero_le _) ⟨⟨_, Heap.get?_push_size _ rfl, rfl, rfl⟩, hL1.push _⟩ ⟨0, Nat.le_refl 0, setR_new_at (Heap.get?_push_of_some _ g0)⟩ ?_
      rintro ⟨h', g', d', tk', os'⟩ c' hm hc' hS'
      obtain ⟨e1, e2, e3⟩ := (show g' = s.gens ∧ d' = s.drawn ∧ os' = s.os from ⟨hm.gens, hm.drawn, hm.os⟩)
      subst e1; subst e2; subst e3
      refine wpAny_pure (show wpAny _ _ (ret Value.none) _ _ _ from wpAny_pure ⟨rfl, h', tk', c', rfl, hS', by omega, fun b o e => ?_⟩)
      have lb := Heap.lt_size e
      refine hm.heap b o ?_ (Heap.get?_push_of_some _ (Heap.get?_push_of_some _ e))
      intro z
      rcases List.mem_cons.mp z with z | z
      · exact absurd z (Nat.ne_of_lt lb)
      · have z2 := List.mem_singleton.mp z
        rw [sz1] at z2
        exact absurd z2 (Nat.ne_of_lt (Nat.lt_succ_of_lt lb))
    · match res2, hres2 with
      | .error e, hres2 => exact hres2
      | .ok .next, hres2 => exact hres2.elim
      | .ok .cont, hres2 => exact hres2.elim
      | .ok .brk, hres2 => exact hres2.elim
      | .ok (.ret v2), hres2 =>
        obtain ⟨rfl, h', tk, c', rfl, hS'⟩ := hres2
        repeat (any_goals (first | assumption | wp_step))
        exact h _ _ _ hS'
end
open PySem.Spec PyProof.Rows in
/-- sorted of a set of ints, however many -/
theorem set_sorted {P : Program} {w : World} {A : Around} {E : Value → Shared → Prop} {s : Shared} {a : Addr} {S : Int → Bool} {n : Nat} {Q : Value → Shared → Prop} (R : SetR w s.heap a S n) (hh : A.handled = none)
    (q : ∀ s' p (out : List Value) (c : Nat) (ms : List Int), (∀ b o, s.heap.get? b = some o → s'.heap.get? b = some o) → s'.gens = s.gens → s'.os = s.os → s.heap.objs.size ≤ p →
      s'.heap.get? p = some (seqObj "list" out.toArray c) → IntsAre out ms → ms.Pairwise (· < ·) → (∀ k, k ∈ ms ↔ S k = true) → ms.length = n → Q (.ref p) s') : wpAny (model P w) A (call (.builtin "sorted") [.ref a]) Q E s := by
  obtain ⟨o, es, ep, t, g1, g2, g3, good, nod, mem, g4, g5, g6, g7, g8⟩ := R
  refine Calls.call_function_entry kind_sorted plain_sorted entry_sorted (args_sorted1 _) ?_; unfold Builtin.«sorted»
  refine wpAny_bind (m := checkCount "sorted" 1 1 _) (wpAny_pure (wpAny_bind (collect_set (A := A.in1) hh ⟨o, g1, g2.1, g3⟩ g5 g4 g7 g8 fun s1 vs k1 z1 e1 e2 pm => ?_)))
  have len : vs.length = n := by
    rw [pm.length_eq, List.length_map, Array.length_toList]
    exact g6
  have ivs : ∀ e ∈ es.toList, SrtO.iv e.2 = keyOf e := fun e he => by
    obtain ⟨k, tk, h1, _⟩ := good e he
    unfold keyOf
    rw [h1]
    rfl
  have hI : IntsAre vs (vs.map SrtO.iv) := SrtO.ints_iv fun v hv => by
    obtain ⟨e, he, ev⟩ := List.mem_map.mp (pm.mem_iff.mp hv)
    obtain ⟨k, tk, h1, _⟩ := good e he
    exact ⟨k, tk, ev.symm.trans h1⟩
  have prm : (vs.map SrtO.iv).Perm (es.toList.map keyOf) := by
    refine (pm.map SrtO.iv).trans ?_
    rw [List.map_map]
    exact List.Perm.of_eq (List.map_congr_left ivs)
  have zn : n ≤ sizeLine := by
    unfold scanBound at g4
    exact szl (by omega)
  refine wpAny_bind (wpAny_newList ?_ (by rw [len]; exact zn))
  have at1 : (s1.heap.push (seqObj "list" vs.toArray 0)).get? s1.heap.objs.size = some (seqObj "list" vs.toArray 0) := Heap.get?_push_size _ rfl
  refine wpAny_bind (wpAny_holding (wpAny_call_entry slot_list_sort ⟨_, at1, rfl⟩ entry_list_sort (SrtO.list_sort_ord SrtO.swo_int at1 (by rw [len]; exact zn) (fun two => SrtO.ints_sortable hI two) fun out o1 o2 => ⟨_, rfl, ?_⟩) (args_list_sort _)))
  obtain ⟨j1, j2, j3⟩ := SrtO.ints_out hI o1 o2
  obtain ⟨c, at2⟩ := sortedHeap_at (vs := vs) (out := out.toArray) at1
  have prm2 := j2.trans prm
  refine wpAny_pure ⟨_, rfl, q _ s1.heap.objs.size out c _ (fun b u e => ?_) e1 e2 z1 at2 j1 (lt_of_le_nodup _ j3 (prm2.nodup_iff.mpr nod)) (fun k => by rw [prm2.mem_iff, ← mem k]) (by rw [prm2.length_eq, List.length_map, Array.length_toList]; exact g6)⟩
  have e3 := k1 b u e
  have l3 := Heap.lt_size e3
  exact (sortedHeap_old (vs := vs) (out := out.toArray) (Nat.ne_of_lt l3) (by rw [size_push']; exact Nat.lt_succ_of_lt l3)).trans (Heap.get?_push_of_some _ e3)
def tSortSet (K : PySem.W.Frag) (ta : TE) : TE := fun σ H Q => ta σ H fun x H1 => ∃ (l : Addr) (ns : List Int), x = .ref l ∧ SqL K H1 l (ns.map V.int) ∧ ns.length ≤ 4000 ∧
  ∀ (out : List Int) (p : Addr), H1 p = none → out.Pairwise (· < ·) → (∀ k, k ∈ out ↔ k ∈ ns) → out.length ≤ ns.length → Q (.ref p) (upd H1 p (.lst (out.map V.int)))
open PySem.Spec PyProof.Rows in
theorem pe_sortSet {X : Cx} {a : Expr} {ta : TE} {p p2 q pos : Pos} (hg : Gl X "sorted") (hm : X.mg "sorted" = none) (hg2 : Gl X "set") (hm2 : X.mg "set" = none) (ha : PE X a ta) (hc : X.calm = true := by rfl)
    (na : starEach [a] X.env = (false, eval a X.env) :: starEach [] X.env := by rfl) : PE X (.Call (.Name "sorted" p) [.Call (.Name "set" p2) [a] [] q] [] pos) (tSortSet X.K ta) := by
  refine ⟨fun pins s σ H Q I h => ?_⟩
  refine Call_ (ld_blt I hg hm boot_sorted (callWith_builtin1 (args_cons (Call_ (ld_blt I hg2 hm2 boot_set (callWith_type1 (args_cons (thn (ha.run pins s σ H _ I h) fun v s1 ⟨x, H1, I1, r1, q1⟩ => args_nil ?_) na) na rfl))) rfl) rfl rfl))
  obtain ⟨l, ns, rfl, hq, hn, q1⟩ := q1
  cases r1
  obtain ⟨its, r, pl, hz⟩ := I1.list hq
  have hd := I1.ok.hd hc
  refine set_of_list hd pl.isList (by simpa using ints_of_vals r) (by unfold scanBound; omega) fun h' tk c hL => args_nil ?_
  obtain ⟨R1, hcn, kept⟩ := hL
  refine set_sorted (s := { s1 with heap := h', toks := tk }) R1 hd fun s' pp out cc ms k g o hp hgt hi hs hmem hlen => ?_
  have kk : ∀ b u, s1.heap.get? b = some u → s'.heap.get? b = some u := fun b u e => k b u (kept b u e)
  have hpp : s1.heap.objs.size ≤ pp := Nat.le_trans (Nat.le_of_lt R1.lt) hp
  have fr : H1 pp = none := I1.hok.fresh hpp
  have sl : (ms.map V.int).length ≤ sizeLine := by
    rw [List.length_map, hlen]
    exact szl (by omega)
  have hos : s'.os = s1.os := o
  have J : Inv X pins σ (upd H1 pp (.lst (ms.map V.int))) { s1 with heap := s'.heap, gens := s'.gens, drawn := s'.drawn, toks := s'.toks } :=
    I1.call (ch := []) (Un.laid kk hpp fr) (I1.hok.laid kk hpp ⟨sl, out, cc, vals_of_ints hi, hgt⟩) (by rw [g]; exact I1.bare) (fun _ z => nomatch z)
  have es : s' = { s1 with heap := s'.heap, gens := s'.gens, drawn := s'.drawn, toks := s'.toks } := by
    obtain ⟨b1, b2, b3, b4, b5⟩ := s'
    simp only at hos
    subst hos
    rfl
  rw [es]
  exact ⟨.ref pp, _, J, rfl, q1 ms pp fr hs (fun j => (hmem j).trans decide_eq_true_iff) (by omega)⟩
local macro_rules | `(tactic| walk_at "ev1") => `(tactic| first
  | with_reducible assumption
  | ((with_reducible show _ = _); exact rfl)
  | ((first | with_reducible show (_ : Int) = _ | with_reducible show (_ : Int) < _ | with_reducible show (_ : Int) ≤ _ | with_reducible show (_ : Nat) < _ | with_reducible show (_ : Nat) ≤ _); first | omega | decide | (simp only [pw6, pw9]; omega) | (simp only [List.length_cons, List.length_nil, List.length_append, List.length_map, List.length_replicate]; omega))
  | assumption
  | exact upd_same
  | exact SqL.of upd_same
  | exact Or.inl (SqL.of upd_same)
  | exact Or.inl (by assumption)
  | exact Or.inr (by assumption)
  | omega
  | exact (show CDiv _ _ from ⟨by omega, by omega⟩)
  | exact (show CPow _ _ from ⟨by omega, by omega, by omega⟩)
  | exact (show CMul _ _ from .inl ⟨by omega, by omega⟩)
  | exact (show CMul _ _ from .inr ⟨by omega, by omega⟩)
  | exact (show CMul _ _ from cmul_b)
  | exact (show CDivW _ _ from wide_div (b := 31) (by omega) (by omega) (by decide) (by decide))
  | exact (Or.inl ⟨rfl, _, SqL.of (by assumption)⟩)
  | exact ClsV.ty _
  | exact .cons (.ty _) (.cons (.ty _) .nil)
  | (refine szl ?_; simp only [List.length_cons, List.length_nil, List.length_append, List.length_map, List.length_replicate]; omega)
  | (refine szm ?_; simp only [List.length_cons, List.length_nil, List.length_append, List.length_map, List.length_replicate]; omega))
local macro_rules | `(tactic| walk_at "s") => `(tactic| (first
  | (refine And.intro ?l ?_; (case l => walk_at "ev1"))
  | with_reducible refine iteT ?_
  | with_reducible refine iteF ?_
  | with_reducible refine ite_dec rfl ?_
  | with_reducible refine iteNS rfl ?_
  | with_reducible refine iteNS (by assumption) ?_
  | (apply Or.inl; apply Exists.intro; apply And.intro rfl)
  | (apply Or.inr; apply Exists.intro; apply And.intro rfl)
  | ((fail_if_success (refine @Exists.intro (Nat → Nat → L2.St → Hp → Prop) _ ?_ ?_)); (fail_if_success (refine @Exists.intro (Nat → L2.St → Hp → Prop) _ ?_ ?_)); (fail_if_success (refine @Exists.intro (L2.St → Hp → Prop) _ ?_ ?_)); (fail_if_success (refine @Exists.intro (Hp → Prop) _ ?_ ?_)); (fail_if_success (refine @Exists.intro (Nat → Nat → Hp → Prop) _ ?_ ?_)); apply Exists.intro)))
local macro_rules | `(tactic| walk_at "ev") => `(tactic| repeat (walk_at "s"))
local macro_rules | `(tactic| w_cond $i:ident) => do
  let b := (i.getId.toString.drop 1).toString
  let l := Lean.mkIdent (.mkSimple ("l" ++ b))
  let hl := Lean.mkIdent (.mkSimple ("hl" ++ b))
  let h := Lean.mkIdent (.mkSimple ("H" ++ b))
  let sm := Lean.mkIdent (.mkSimple ("sm" ++ b))
  let hq := Lean.mkIdent (.mkSimple ("hq" ++ b))
  `(tactic| (intro $l:ident $hl:ident; generalize hG : upd _ $l:ident _ = $h:ident; obtain ⟨$sm:ident, $hq:ident⟩ := newO hG $hl:ident; clear hG))
/-! ### a caught exception that a name keeps behind its clause -/
/-- at a: an exception of the class at C, its dict at d -/
def XOb (C d a : Addr) : HO := .ext fun h => ∃ (ob : Obj) (fl : Array Value), h.get? a = some ob ∧ Zc (.ref C) (some d) ob ∧ ob.data = .fields fl
theorem xob_ok {P : Program} {w : World} {H : Hp} {h : Heap} {C d a : Addr} {ob : Obj} {fl : Array Value} (q1 : h.get? a = some ob) (q2 : Zc (.ref C) (some d) ob) (q3 : ob.data = .fields fl) : ObjOk P w H h a (XOb C d a) :=
  ⟨⟨ob, fl, q1, q2, q3⟩, ⟨ob, q1⟩, fun _ _ ⟨u, v, r1, r2⟩ k => ⟨u, v, k u r1, r2⟩⟩
/-- an object of the heap that nobody tracks is tracked from now on -/
theorem track {X : Cx} {pins : List (Addr × Obj)} {σ : L2.St} {H : Hp} {s : Shared} {a : Addr} {o : HO} (I : Inv X pins σ H s) (n0 : X.s_0.heap.get? a = none) (hn : H a = none) (nL : a ≠ X.env.locals) (nC : ∀ x c, X.env.cells.lookup x = some c → c ≠ a)
    (nP : ∀ p ∈ X.pn ++ pins, p.1 ≠ a) (new : ObjOk X.prog X.w (upd H a o) s.heap a o) : Inv X pins σ (upd H a o) s := by
  have ne : ∀ {b : Addr} {u : HO}, H b = some u → b ≠ a := fun e => ne_of_none e hn
  refine ⟨I.ok, I.os, I.bare, ⟨I.base.keep, I.base.slot, fun b u e n hx => ?_, I.base.there, fun b xs e => ?_, fun b u v e => ?_, fun b ps e => ?_⟩, I.loc, I.cell, ?_, fun x c e => ?_, fun p hp => ?_, I.hok.laidN (fun _ _ z => z) hn new, I.len⟩
  · have : b ≠ a := fun z => by
      rw [z, n0] at e
      cases e
    rw [upd_ne this]
    exact I.base.free b u e n hx
  · have q := I.base.tups b xs e
    rw [upd_ne (ne q)]
    exact q
  · have q := I.base.frzs b u v e
    rw [upd_ne (ne q)]
    exact q
  · obtain ⟨m, q⟩ := I.base.tbls b ps e
    exact ⟨m, by rw [upd_ne (ne q)]; exact q⟩
  · rw [upd_ne nL.symm]
    exact I.free
  · rw [upd_ne (nC x c e)]
    exact I.freeC x c e
  · obtain ⟨e, n, r⟩ := I.pin p hp
    exact ⟨e, by rw [upd_ne (nP p hp)]; exact n, r⟩
/-- what 'except x as n: ..' wishes, the exception tracked behind it -/
def wKeep (K : PySem.W.Frag) (c : Value) (i : Nat) (ts : Addr → TS) (Wout : WX) (D : Ends) : WX := fun cls d σ H =>
  ∃ b, PySem.W.exmOne K cls c = some b ∧ (b = true → ∃ C dd, cls = .ref C ∧ d = some dd ∧ ∀ a, H a = none →
    ts a { nx := fun σ2 H2 => D.nx (σ2.set i none) (upd H2 a (XOb C dd a)), rt := fun _ _ => False, bk := fun _ _ => False, ct := fun _ _ => False } (σ.set i (some (.ref a))) H) ∧ (b = false → Wout cls d σ H)
section
variable {X : Cx} {x n : Str} {c : Value} {i : Nat} {body suite : List Stmt} {b₀ : Stmt} {np pos pos' : Pos} {tb : WX → TS} {ts : Addr → TS} {Wout : WX}
theorem ps_try_keep (hs : X.stack = X.env :: X.outer) (hf : X.env.frame = some X.env.locals) (hex : X.ex = []) (hN : X.N.Nodup) (hi : X.N[i]? = some n) (hln : X.env.kindOf n = some .local) (hc : Names X x c) (tk : Takes X Wout)
    (hb : ∀ (W : WX) (pn : List (Addr × Obj)) (xe : Value → Shared → Prop), Takes (X.tr pn xe) W → PassesOwn (model X.prog X.w) X.A X.env xe → PSs (X.tr pn xe) body (tb W))
    (hsu : ∀ (a : Addr) (pn : List (Addr × Obj)), PSs (X.suite a pn) (b₀ :: suite) (ts a)) :
    PS X (.Try body [.ExceptHandler (some (.Name x np)) (some n) (b₀ :: suite) pos'] [] [] pos) (fun D σ H => tb (wKeep X.K c i ts Wout D) D σ H) := by
  refine ⟨fun pins s σ H D I h => ?_⟩
  have ok := I.ok
  have fr : X.A.frames = some (X.env :: X.outer) := ok.frames.trans (congrArg some hs)
  refine wpAny_Try_except (wpAny_mono ((hb (wKeep X.K c i ts Wout D) (X.pn ++ pins) (fun e s1 => wpAny (model X.prog X.w) X.A (noteFrame e X.env)
    (fun _ s2 => wpAny (model X.prog X.w) X.A (setFlight e none) (fun _ s3 => wpAny (model X.prog X.w) X.A (handleBy e X.env [.ExceptHandler (some (.Name x np)) (some n) (b₀ :: suite) pos']) (SP X pins D) X.xe s3) X.xe s2) X.xe s1)
    (fun u s1 fly => ?_) PassesOwn.looking).run [] s σ H D (I.toTry _) h) (fun f s1 q => ?_) (fun _ _ z => z))
  · obtain ⟨a, B, s0, pins1, σ1, H1, cls, d, rfl, J0, nb, up, sky, na, os, ag, b, hm, yes, no⟩ := fly
    have J : Inv X pins σ1 H1 s0 := J0.ofTry ok
    have sky1 : Sky B (X.env :: X.outer) a (Zc cls d) X.env.locals s1.heap := hs ▸ sky
    show wpAny (model X.prog X.w) X.A (noteFrame (.ref a) X.env) _ _ _
    refine Sky.land Zc.steady fr hf sky1 fun g3 fly3 up3 => ?_
    have J3 : Inv X pins σ1 H1 { s1 with heap := g3 } := J.landed nb fly3.1 (up.trans up3) os ag
    obtain ⟨o3, f3, e3, z3, d3⟩ := fly3.there
    have away : a ∉ frs (X.env :: X.outer) := fun hmem => by
      obtain ⟨_, o', e', hnf⟩ := fly3.2.2.1.mem hmem
      cases e3.symm.trans e'
      exact hnf _ d3
    have nL : a ≠ X.env.locals := fun z => away (List.mem_filterMap.mpr ⟨X.env, List.mem_cons_self, hf.trans (congrArg some z.symm)⟩)
    have nF : a ∉ X.fs := fun hmem => by
      obtain ⟨e, he, q⟩ := List.mem_filterMap.mp hmem
      exact away (List.mem_filterMap.mpr ⟨e, List.mem_cons_of_mem _ he, q⟩)
    have nB : B.get? a = none := fly3.2.1
    have n0 : X.s_0.heap.get? a = none := by
      cases e : X.s_0.heap.get? a with
      | none => rfl
      | some o =>
        obtain ⟨o', q⟩ := J.base.there a o e (by rw [hex]; exact fun z => nomatch z)
        have q2 := nb a o' q (by rw [hs]; exact away)
        rw [nB] at q2
        cases q2
    have nP : ∀ p ∈ X.pn ++ pins, p.1 ≠ a := fun p hp z => by
      obtain ⟨q, _⟩ := J.pin p hp
      have q2 := nb p.1 p.2 q (by rw [hs, z]; exact away)
      rw [z, nB] at q2
      cases q2
    have S3 := J3.suite e3 d3 na nL nF
    have lt : PySem.W.Looks (model X.prog X.w) g3 (typeOf (.ref a)) cls := fun A Q E s k q => wpAny_typeOf_ref (k _ _ e3) (by rw [z3.1]; exact q)
    have lm := PySem.W.exm_one (M := model X.prog X.w) J3.kIn lt hm
    refine wpAny_handleBy_cons (codeAny_handlers_test ?_) (fun q => nomatch q)
    have named : ∀ {Q E : Value → Shared → Prop}, Q c { s1 with heap := g3 } → wpAny (model X.prog X.w) (X.A.mark (some (.ref a))) (eval (.Name x np) X.env) Q E { s1 with heap := g3 } := fun {Q E} q => by
      rcases hc with ⟨hg, hdb, hm1 | ⟨hm1, hv, hnn⟩⟩
      · exact ld_glob (X := X.suite a ((a, o3) :: (X.pn ++ pins))) S3 hg hm1 q hdb
      · exact ld_blt (X := X.suite a ((a, o3) :: (X.pn ++ pins))) S3 hg hm1 hv q hnn hdb
    refine named (lm.here ?_)
    cases b with
    | true =>
      obtain ⟨C, dd, ec, ed, yes⟩ := yes rfl
      refine codeAny_handlers_suite_as (HandSPX.lands_againZ fly3 fun g4 fly4 up4 => ?_)
      have J4 : Inv X pins σ1 H1 { s1 with heap := g4 } := J.landed nb fly4.1 ((up.trans up3).trans up4) os ag
      obtain ⟨o4, f4, e4, z4, d4⟩ := fly4.there
      refine store_ok (X := X.suite a ((a, o4) :: (X.pn ++ pins))) (v := .ref a) (J4.suite e4 d4 na nL nF) hN hi (.inl hln) rfl (fun s5 S5 => ?_) (.inr hln)
      refine wpAny_mono ((hsu a ((a, o4) :: (X.pn ++ pins))).run [] s5 _ H1 _ S5 (yes a na)) (fun f s6 q6 => ?_) (fun _ _ z => z.elim)
      cases f with
      | next =>
        obtain ⟨σ6, H6, S6, q6⟩ := q6
        refine gone_ok (X := X.suite a ((a, o4) :: (X.pn ++ pins))) (pins := []) S6 hN hi hln fun s7 S7 => ?_
        obtain ⟨e7, n7, _⟩ := S7.pin (a, o4) (List.mem_append_left _ List.mem_cons_self)
        refine ⟨_, _, track (S7.unsuite ok) n0 n7 nL (fun y c' ey z => ?_) nP (xob_ok (C := C) (d := dd) e7 (by rw [← ec, ← ed]; exact z4) d4), q6⟩
        obtain ⟨v, ob, q1, q2⟩ := S7.cell y c' ey
        subst z
        cases e7.symm.trans q1
        cases d4.symm.trans q2
      | brk =>
        obtain ⟨_, _, _, q6⟩ := q6
        exact q6.elim
      | cont =>
        obtain ⟨_, _, _, q6⟩ := q6
        exact q6.elim
      | ret u =>
        obtain ⟨_, _, _, _, _, q6⟩ := q6
        exact q6.elim
    | false =>
      show wpAny _ X.A (handleBy (.ref a) X.env []) _ _ _
      refine wpAny_handleBy_nil ?_
      obtain ⟨k1, k2, k3, ob, fl, T, oT, tl, he, hz, hd, h1, hr⟩ := id fly3
      unfold PySem.passOn
      refine wpAny_bind (wpAny_field he hd h1 ?_)
      rw [if_neg (show ¬ ((Value.ref T == Value.none) = true) from by simp)]
      have fin : wpAny (model X.prog X.w) X.A (setFlight (.ref a) X.env.frame) (fun _ s4 => wpAny (model X.prog X.w) X.A (throw (.ref a) : Sem Flow) (SP X pins D) X.xe s4) X.xe { s1 with heap := g3 } := by
        rw [hf]
        exact HandSPX.setFlight_upZ fly3 fun g4 held4 up4 => wpAny_throw (tk _ _ ⟨a, B, s0, pins, σ1, H1, cls, d, rfl, J, nb, (up.trans up3).trans up4, .inr (.inr (hs ▸ held4)), na, os, ag, no rfl⟩)
      first
        | exact wpAny_bind (wpAny_pure (wpAny_bind fin))
        | exact wpAny_bind fin
  · cases f with
    | next =>
      obtain ⟨σ1, H1, J, q⟩ := q
      exact wpAny_execs_nil ⟨σ1, H1, J.ofTry ok, q⟩
    | brk =>
      obtain ⟨σ1, H1, J, q⟩ := q
      exact ⟨σ1, H1, J.ofTry ok, q⟩
    | cont =>
      obtain ⟨σ1, H1, J, q⟩ := q
      exact ⟨σ1, H1, J.ofTry ok, q⟩
    | ret u =>
      obtain ⟨v, σ1, H1, J, r, q⟩ := q
      exact ⟨v, σ1, H1, J.ofTry ok, r, q⟩
end
/-- what is told of an own exception class -/
structure ExK (K : PySem.W.Frag) (C : Addr) : Prop where
  oex : OexC K C
  xf : XfC K C
  ec : ExcC K C
  nw : PySem.W.findIn K (.ref C) "what" = some none
/-- an exception object, tracked, with its fields -/
def XAt (H : Hp) (a C : Addr) (fs : List (Str × V)) : Prop := ∃ d, H a = some (XOb C d a) ∧ H d = some (.xd fs)
theorem XAt.same {H H' : Hp} {a C : Addr} {fs : List (Str × V)} (h : XAt H a C fs) (e : Same H H') : XAt H' a C fs := by
  obtain ⟨d, h1, h2⟩ := h
  exact ⟨d, e _ _ h1, e _ _ h2⟩
theorem xat_inst {X : Cx} {pins : List (Addr × Obj)} {σ : L2.St} {H : Hp} {s : Shared} {a C : Addr} {fs : List (Str × V)} (I : Inv X pins σ H s) (h : XAt H a C fs) : ∃ (ob od : Obj) (mA : Str → Option Value), PySem.W.InstAt s.heap a ob C (some od) ∧ (∀ name, PySem.W.lookIn name od = some (mA name)) ∧ ∀ f, RelO (fs.lookup f) (mA f) := by
  obtain ⟨d, h1, h2⟩ := h
  obtain ⟨⟨ob, fl, q1, q2, q3⟩, _, _⟩ := (show ObjOk X.prog X.w H s.heap a (XOb C d a) from I.hok a _ h1)
  obtain ⟨mA, hns, hr⟩ := (show ObjOk X.prog X.w H s.heap d (.xd fs) from I.hok d _ h2)
  obtain ⟨od, ho, hl⟩ := lookIn_ns hns
  exact ⟨ob, od, mA, ⟨q1, q2.1, by unfold PySem.W.notCls; rw [q3] <;> rfl, by rw [q2.2]; exact ho⟩, hl, hr⟩
/-- isinstance(e, c), e tracked -/
def rIsX (K : PySem.W.Frag) : List V → Hp → VK → Prop := fun xs H Q => ∃ (a C : Addr) (fs : List (Str × V)) (c : V) (cv : Value) (b : Bool), xs = [.ref a, c] ∧ XAt H a C fs ∧ ExK K C ∧ ClsV c cv ∧ PySem.W.kitOne K (.ref C) cv = some b ∧ Q (.bl b) H
def rIsXT (K : PySem.W.Frag) : List V → Hp → VK → Prop := fun xs H Q => ∃ (a C tp : Addr) (fs : List (Str × V)) (cs : List V) (us : List Value) (b : Bool), xs = [.ref a, .ref tp] ∧ H tp = some (.tup cs) ∧ XAt H a C fs ∧ ExK K C ∧ Paired ClsV cs us ∧ PySem.W.kitAny K (.ref C) us = some b ∧ Q (.bl b) H
theorem kit_x {K : PySem.W.Frag} {a C : Addr} {ob od : Obj} (E : ExK K C) : PySem.W.KitX K (.ref a) (.ref C) (fun h => PySem.W.InstAt h a ob C (some od)) := by
  obtain ⟨cd, hc, _⟩ := PySem.W.any_some E.ec.hd
  exact PySem.W.kitx_exc (by rw [hc]; rfl) E.ec.hg E.ec.hk E.ec.hs E.ec.ha E.ec.hn E.ec.ht E.ec.hm
theorem call_isX {X : Cx} : CallR X (.builtin "isinstance") (rIsX X.K) := by
  intro pins s σ H xs us Q I r h
  obtain ⟨a, C, fs, c, cv, b, rfl, hx, E, k, e, q⟩ := h
  obtain ⟨u1, u2, rfl, r1, r2⟩ := vals2 r
  cases (show u1 = Value.ref a from r1)
  have e2 := k.eq r2
  subst e2
  obtain ⟨ob, od, mA, J, _, _⟩ := xat_inst I hx
  exact PySem.W.kia_one (kit_x E) I.kIn J e (fun z => nomatch z) fun tk => ⟨.bl b, H, I.tok tk, rfl, q⟩
theorem call_isXT {X : Cx} : CallR X (.builtin "isinstance") (rIsXT X.K) := by
  intro pins s σ H xs us Q I r h
  obtain ⟨a, C, tp, fs, cs, ws, b, rfl, hT, hx, E, k, e, q⟩ := h
  obtain ⟨u1, u2, rfl, r1, r2⟩ := vals2 r
  cases (show u1 = Value.ref a from r1)
  cases (show u2 = Value.ref tp from r2)
  obtain ⟨ob, od, mA, J, _, _⟩ := xat_inst I hx
  obtain ⟨_, its, rv, o, h1, h2, n, h3⟩ := (show ObjOk X.prog X.w H s.heap tp (.tup cs) from I.hok tp _ hT)
  have e3 := ClsV.all k rv
  subst e3
  rcases o with ⟨oc, od', dt, sl⟩
  dsimp only at h2 h3
  cases h2
  cases h3
  exact PySem.W.kia_tup (kit_x E) I.kIn J h1 e (fun z => nomatch z) fun tk => ⟨.bl b, H, I.tok tk, rfl, q⟩
/-- e.f, e tracked -/
def tXw (K : PySem.W.Frag) (f : Str) (te : TE) : TE := fun σ H Q => te σ H fun x H1 => ∃ (a C : Addr) (fs : List (Str × V)) (v : V), x = .ref a ∧ XAt H1 a C fs ∧ ExK K C ∧ PySem.W.findIn K (.ref C) f = some none ∧ fs.lookup f = some v ∧ Q v H1
theorem pe_xw {X : Cx} {e : Expr} {te : TE} {pos : Pos} {n : Str} (he : PE X e te) (hb : attributeBase e n X.env (eval e X.env) = eval e X.env := by rfl) : PE X (.Attribute e n pos) (tXw X.K n te) := by
  refine ⟨fun pins s σ H Q I h => attr_of hb (thn (he.run pins s σ H _ I h) fun u s1 hh => ?_)⟩
  obtain ⟨x, H1, I1, rx, a, C, fs, v, ex, hx, E, hno, l, q⟩ := hh
  subst ex
  cases (show u = Value.ref a from rx)
  obtain ⟨ob, od, mA, J, hl, hr⟩ := xat_inst I1 hx
  obtain ⟨u, hu, ru⟩ := RelO.some_of (v := v) (o := mA n) (by rw [← l]; exact hr n)
  exact HandSPX.exc_get I1.kIn J E.xf.ga E.xf.gg E.xf.exC (PySem.W.findObj_own E.xf.hdC hno rfl (by rw [hl, hu])) (handed_of ru) ⟨v, H1, I1.tok _, ru, q⟩
/-! ### methods and classes, what they raise wished for at the caller's slots -/
def tMethS (C : Addr) (m : Str) (sp : Sp) (E : L2.St → XK) (ta : TE) (t : TA) : TE := fun σ H Q => ta σ H fun x H1 => ∃ a dx fs, x = .ref a ∧ H1 a = some (.ins C dx fs) ∧ fs.lookup m = none ∧ t σ H1 fun vs H2 => sp (x :: vs) H2 Q (E σ)
def tMakeS (C : Addr) (sp : Sp) (E : L2.St → XK) (t : TA) : TE := fun σ H Q => t σ H fun vs H1 => ∀ x dx, H1 x = none → H1 dx = none → dx ≠ x → sp (.ref x :: vs) (upd (upd H1 dx (.own x)) x (.ins C dx [])) (fun v H2 => v = .non ∧ Q (.ref x) H2) (E σ)
section
variable {X : Cx} {CX : CXT} {k : Nat} {f C : Addr} {fd : FuncData} {ps : List Str} {sp : Sp} {E : L2.St → XK} {x m : Str} {p pos apos : Pos} {e o : Expr} {es : List Expr} {ta : TE} {t : TA}
theorem pe_methS {pl : Sem Bool} (he : PE X o ta) (c : L2.Cls X.K C) (hm : Meth X.K C m f) (F : FnOk X.prog X.w X.K X.mg X.base CX k f fd ps sp) (hr : Room k X.A) (hb : Binds X.K fd ps []) (hx : ∀ σ, PassesAt CX X σ (E σ)) (ha : PA X (e :: es) t)
    (hst : starEach (e :: es) X.env = (false, eval e X.env) :: starEach es X.env := by rfl) (hpl : (backTo pos (starEach es X.env)).any (·.1) = false := by rfl)
    (ht : eval (.Call (.Attribute o m apos) (e :: es) [] pos) X.env = (do
      let ov ← eval o X.env
      standAt apos.atName
      let (f, first) ← holding [ov] (getMethod ov m pl)
      callWith pos f first (backTo pos (starEach (e :: es) X.env)) (backToKw pos (keywordEach [] X.env))) := by rfl) : PE X (.Call (.Attribute o m apos) (e :: es) [] pos) (tMethS C m sp E ta t) := by
  refine ⟨fun pins s σ H Q I h => PySem.W.methodCall_KW (pl := pl) (thn (he.run pins s σ H _ I h) fun u s1 q1 => ?_) ht⟩
  obtain ⟨y, H1, I1, ry, a, dx, fs, ey, ea, l, q⟩ := q1
  subst ey
  cases (show u = Value.ref a from ry)
  refine getmeth_ok I1 ea c hm l (PySem.W.callWith_K (first := [.ref a]) (h₀ := X.base) I.ok.mod.kin hm.kp (thn (ha.run pos pins s1 σ H1 _ I1 q) fun us s2 q2 => ?_) hst hpl)
  obtain ⟨vs, H2, I2, r, q2⟩ := q2
  exact ⟨I2.kIn, run_fnS (us := .ref a :: us) (vs := .ref a :: vs) F hr hb (hx σ) I2 (.cons rfl r) q2⟩
theorem run_makeS {pins : List (Addr × Obj)} {σ : L2.St} {H : Hp} {s : Shared} {Q : VK} {us : List Value} {vs : List V} (M : Mk X.K C f) (F : FnOk X.prog X.w X.K X.mg X.base CX k f fd ps sp) (hr : Room (k + 1) X.A) (hb : Binds X.K fd ps []) (hx : PassesAt CX X σ (E σ)) (I : Inv X pins σ H s) (r : Vals vs us)
    (h : ∀ y dx, H y = none → H dx = none → dx ≠ y → sp (.ref y :: vs) (upd (upd H dx (.own y)) y (.ins C dx [])) (fun v H2 => v = .non ∧ Q (.ref y) H2) (E σ)) : wpAny (model X.prog X.w) X.A (call (.ref C) us) (EP X pins σ Q) X.xe s := by
  have hq := h (s.heap.objs.size + 1) s.heap.objs.size (I.hok.fresh (Nat.le_succ _)) (I.hok.fresh (Nat.le_refl _)) (Nat.ne_of_lt (Nat.lt_succ_self _))
  have J := Inv.made (C := C) I
  have r2 : Vals (V.ref (s.heap.objs.size + 1) :: vs) (Value.ref (s.heap.objs.size + 1) :: us) := .cons rfl r
  have hl : (Value.ref (s.heap.objs.size + 1) :: us).length = ps.length := r2.length.symm.trans (F.len _ _ _ _ hq)
  have bi := hb _ (Value.ref (s.heap.objs.size + 1) :: us) J.kIn (by rw [List.append_nil]; exact hl)
  rw [List.append_nil] at bi
  refine wpAny_call (make_map (f := f) I.kIn M.makes M.init (beq_iff_eq.mp M.fn) (codeAny_mono (F.run _ X.stack _ _ ⟨_, []⟩ _ _ _ (E σ) (hr.make C us []) (J.env0.make C us []) bi r2 hq) fun rs s1 q1 => ?_))
  cases rs with
  | error er => exact hx pins _ _ er s1 J q1
  | ok fl =>
    cases fl with
    | ret u =>
      obtain ⟨v, H3, I3, rv, ev, q3⟩ := J.after q1
      subst ev
      exact ⟨rv, ⟨V.ref (s.heap.objs.size + 1), H3, I3, rfl, q3⟩⟩
    | next => exact q1.elim
    | brk => exact q1.elim
    | cont => exact q1.elim
theorem pe_makeS (M : Mk X.K C f) (F : FnOk X.prog X.w X.K X.mg X.base CX k f fd ps sp) (hr : Room (k + 1) X.A) (hg : Gl X x) (hm : X.mg x = some (.ref C)) (hb : Binds X.K fd ps []) (hx : ∀ σ, PassesAt CX X σ (E σ)) (ha : PA X (e :: es) t)
    (hdb : (x == ("__debug__" : Str)) = false := by decide) (he : starEach (e :: es) X.env = (false, eval e X.env) :: starEach es X.env := by rfl) (hpl : (backTo pos (starEach es X.env)).any (·.1) = false := by rfl) : PE X (.Call (.Name x p) (e :: es) [] pos) (tMakeS C sp E t) := by
  refine ⟨fun pins s σ H Q I h => wpAny_Call_Name_kw (ld_glob I hg hm (PySem.W.callWith_K (h₀ := X.base) I.ok.mod.kin M.kp (thn (ha.run pos pins s σ H _ I h) fun us s1 q1 => ?_) he hpl) hdb)⟩
  obtain ⟨vs, H1, I1, r, q⟩ := q1
  exact ⟨I1.kIn, run_makeS M F hr hb (hx σ) I1 r q⟩
end
/-! ### xs[i] op= e, xs a list -/
section
open PySem.Spec PyProof.Rows
variable {X : Cx}
theorem get_list : PGet X (rIxL X.K) := by
  intro pins s σ H o i ov iv Q I ro ri h
  obtain ⟨p, xs, k, z, rfl, rfl, hq, he, q⟩ := h
  cases ro
  obtain ⟨t, rfl⟩ := ri
  obtain ⟨its, r, pl, hz⟩ := I.list hq
  obtain ⟨j, h1, h2, h3, h4, h5⟩ := atI_get he
  obtain ⟨w, ew, rw'⟩ := r.get h2
  have hl := r.length
  have hn := line63
  have fin : EP X pins σ Q w s := ⟨z, H, I, rw', q⟩
  by_cases h0 : 0 ≤ k
  · have hj : k.toNat = j := by
      rw [seqIndex_of h0 h5] at h1
      exact Option.some.inj h1
    exact wpAny_getItem_list pl.isList h0 (by omega) (by rw [hj]; simpa using ew) fin
  · have hj : (k + (its.toArray.size : Int)).toNat = j := by
      rw [seqIndex_neg (by omega) h4] at h1
      rw [List.size_toArray, ← hl]
      exact Option.some.inj h1
    exact wpAny_getItem_list_neg pl.isList (by omega) (by rw [List.size_toArray] <;> omega) (by omega) (by rw [hj]; simpa using ew) fin
end
/-! ### the drawing -/
theorem log2_lt60 {t : Int} (h0 : 0 < t) (h : t < 1152921504606846976) : t.natAbs.log2 < 9000 := by
  have h1 : t.natAbs < 2 ^ 60 := by
    have : (2 : Nat) ^ 60 = 1152921504606846976 := by decide
    omega
  exact Nat.lt_trans ((Nat.log2_lt (by omega)).mpr h1) (by decide)
abbrev s__law_take : Stmt := top 46
abbrev N__law_take : List Str := ["_law_box_here", "_law_top", "_law_found", "_law_once"]
abbrev P__law_take : List Str := ["_law_box_here", "_law_top"]
theorem sc__law_take : FnScope N__law_take P__law_take (defScope s__law_take) := ⟨rfl, rfl, rfl, by decide +kernel, rfl, by decide +kernel, by decide +kernel⟩
def spTake : Sp := fun vs H Q _ => ∃ (b : Addr) (top n : Int), vs = [.ref b, .int top] ∧ BoxAt H b n ∧ 0 < top ∧ top < 1152921504606846976 ∧ n < 1048576 ∧ ∀ r H', 0 ≤ r → r < top → Keep b H H' → BoxAt H' b (n + 1) → Q (.int r) H'
section
variable {P : Program} {w : World} {K : PySem.W.Frag} {mg : Str → Option Value} {base : Heap}
theorem ok_take {f : Addr} {fd : FuncData} {k : Nat} (F : Fun K "_law_take" "_law_take" s__law_take f fd) : FnOk P w K mg base CX0 (k + 1) f fd P__law_take spTake := by
  have nd := sc__law_take.nd
  refine F.ok sc__law_take (fun vs H Q E h => ?_) (fun cdv A outer s H vs Q E hr h => ?_)
  · obtain ⟨b, top, n, rfl, _⟩ := h
    rfl
  · obtain ⟨b, top, n, rfl, ⟨x, y, z, hb, hx, hy, hy2, hz, hzn⟩, ht, ht2, hn, q⟩ := h
    refine ⟨_, (pss_cons (ps_if (pt_cmpR op_gt (pe_ix (r := rIxL K) ix_list (pv 0) (pe_int) (fun _ _ => rfl)) (pe_int) (nomark _)) (pss_cons (ps_set (i := 2) nd rfl (Or.inl rfl) (pe_op op_mod (pe_ix (r := rIxL K) ix_list (pv 0) (pe_int) (fun _ _ => rfl)) (pv 1)))
      (pss_cons (ps_asg (pe_op op_fdivW (pe_ix (r := rIxL K) ix_list (pv 0) (pe_int) (fun _ _ => rfl)) (pv 1)) (pg_sub (pv 0) (pe_int) set_list))
      (pss_one (ps_ret (pv 2))))) pss_nil)
      (pss_cons (ps_asg (pe_op op_add (pe_ix (r := rIxL K) ix_list (pv 0) (pe_int) (fun _ _ => rfl)) (pe_int)) (pg_sub (pv 0) (pe_int) set_list))
      (pss_cons (ps_set (i := 3) nd rfl (Or.inl rfl) (pe_op op_mod (pe_op op_pow (pe_op op_add (pe_ix (r := rIxL K) ix_list (pv 0) (pe_int) (fun _ _ => rfl)) (pe_op op_mul (pe_int) (pe_ix (r := rIxL K) ix_list (pv 0) (pe_int) (fun _ _ => rfl)))) (pe_int)) (pe_int)))
      (pss_one (ps_ret (pe_op op_mod (pe_op op_fdivW (pe_op op_mod (pe_op op_add (pe_op op_mul (pv 3) (pe_op op_add (pe_op op_mod (pv 3) (pe_int)) (pe_int))) (pe_op op_mul (pe_ix (r := rIxL K) ix_list (pv 0) (pe_int) (fun _ _ => rfl)) (pe_int))) (pe_int)) (pe_int)) (pv 1))))))), ?_⟩
    have hL : SqL K H b [.int x, .int y, .int z] := SqL.of hb
    have cw : ∀ i : Int, CDivW i top := fun i => ⟨ht, log2_lt60 ht ht2⟩
    have cw6 : ∀ i : Int, CDivW i 64 := fun i => ⟨by decide, by decide⟩
    have cw1 := cw x
    walk_at "ev"
    refine ite2 (fun e => ?_) (fun e => ?_)
    · have e1 : 0 < x := of_decide_eq_true e
      walk_at "ev"
      exact q _ _ (Int.emod_nonneg _ (by omega)) (Int.emod_lt_of_pos _ ht) (keep_upd (Keep.refl _ _)) ⟨_, _, _, upd_same, Int.ediv_nonneg hx (by omega), hy, hy2, hz, by omega⟩
    · walk_at "ev"
      exact q _ _ (Int.emod_nonneg _ (by omega)) (Int.emod_lt_of_pos _ ht) (keep_upd (Keep.refl _ _)) ⟨_, _, _, upd_same, hx, hy, hy2, by omega, by omega⟩
end
abbrev s__law_box : Stmt := top 45
abbrev N__law_box : List Str := ["_law_script", "_law_k", "_law_cell"]
abbrev P__law_box : List Str := ["_law_script", "_law_k"]
theorem sc__law_box : FnScope N__law_box P__law_box (defScope s__law_box) := ⟨rfl, rfl, rfl, by decide +kernel, rfl, by decide +kernel, by decide +kernel⟩
def spBox (K : PySem.W.Frag) : Sp := fun vs H Q _ => ∃ (a : Addr) (ns : List Int) (k : Int), vs = [.ref a, .int k] ∧ SqL K H a (ns.map V.int) ∧ 0 ≤ k ∧ k ≤ 100000 ∧ ∀ p H', H p = none → Same H H' → BoxAt H' p 0 → Q (.ref p) H'
section
variable {P : Program} {w : World} {K : PySem.W.Frag} {mg : Str → Option Value} {base : Heap}
theorem ok_box {f : Addr} {fd : FuncData} {k : Nat} (F : Fun K "_law_box" "_law_box" s__law_box f fd) (T : Blt mg) : FnOk P w K mg base CX0 (k + 1) f fd P__law_box (spBox K) := by
  have nd := sc__law_box.nd
  refine F.ok sc__law_box (fun vs H Q E h => ?_) (fun cdv A outer s H vs Q E hr h => ?_)
  · obtain ⟨b, top, n, rfl, _⟩ := h
    rfl
  · obtain ⟨a, ns, k, rfl, hL, h0, h1, q⟩ := h
    refine ⟨_, (pss_cons (ps_set (i := 2) nd rfl (Or.inl rfl) (pe_int))
      (pss_cons (ps_if (pt_cmpR op_lt (pv 1) (pe_callB (r := rLenQ K) call_len_seq (by rfl) T.b_len (by decide +kernel) (pa_cons (pv 0) pa_nil)) (nomark _)) (pss_one (ps_set (i := 2) nd rfl (Or.inl rfl) (pe_ix (r := rIxL K) ix_list (pv 0) (pv 1) (fun _ _ => rfl)))) pss_nil)
      (pss_one (ps_ret (pe_lst (pa_cons (pe_op op_mul (pe_callB call_abs (by rfl) T.b_abs (by decide +kernel) (pa_cons (pv 2) pa_nil)) (pe_callTy call_int1 (by rfl) T.b_int (by decide +kernel) (pa_cons (pe_cmpR op_ge (pe_callB call_abs (by rfl) T.b_abs (by decide +kernel) (pa_cons (pv 2) pa_nil)) (pe_op op_pow (pe_int) (pe_int)) (nomark _)) pa_nil))) (pa_cons (pe_op op_add (pe_op op_add (pe_op op_mod (pv 2) (pe_int)) (pe_op op_mul (pe_int) (pv 1))) (pe_int)) (pa_cons (pe_int) pa_nil)))))))), ?_⟩
    have fin : ∀ c : Int, ∀ p, H p = none → Q (.ref p) (upd H p (.lst [.int ((if c < 0 then -c else c) * (if decide ((10 : Int) ^ 18 ≤ if c < 0 then -c else c) then 1 else 0)), .int (c % 2147483629 + 7919 * k + 11), .int 0])) := by
      intro c p hp
      refine q p _ hp (same_new hp) ⟨_, _, _, upd_same, ?_, ?_, ?_, by omega, by omega⟩
      · refine Int.mul_nonneg ?_ ?_
        · split <;> omega
        · split <;> omega
      · have := Int.emod_nonneg c (show (2147483629 : Int) ≠ 0 by decide)
        omega
      · have := Int.emod_lt_of_pos c (show (0 : Int) < 2147483629 by decide)
        omega
    walk_at "ev"
    refine ite2 (fun e => ?_) (fun e => ?_)
    · have e1 : k < ((ns.map V.int).length : Int) := of_decide_eq_true e
      rw [List.length_map] at e1
      obtain ⟨c, hc, hat⟩ := at_ints h0 e1
      walk_at "ev"
      exact fin c
    · walk_at "ev"
      exact fin 0
end
/-! ### the mathematics of primes -/
def Rough (n d : Int) : Prop := ∀ e : Int, 2 ≤ e → e < d → ¬ e ∣ n
inductive Fac : Int → List Int → Prop
  | one : Fac 1 []
  | cons {n p q : Int} {ps : List Int} : 2 ≤ p → n = p * q → 1 ≤ q → Rough n p → Fac q ps → Fac n (p :: ps)
theorem Fac.uniq : ∀ {n : Int} {xs ys : List Int}, Fac n xs → Fac n ys → xs = ys := by
  intro n xs ys h
  induction h generalizing ys with
  | one =>
    intro k
    cases k with
    | one => rfl
    | cons h1 h2 h3 h4 h5 =>
      rename_i p q ps
      have : 2 * 1 ≤ p * q := Int.mul_le_mul h1 h3 (by omega) (by omega)
      omega
  | cons h1 h2 h3 h4 h5 ih =>
    rename_i n p q ps
    intro k
    cases k with
    | one =>
      have : 2 * 1 ≤ p * q := Int.mul_le_mul h1 h3 (by omega) (by omega)
      omega
    | cons g1 g2 g3 g4 g5 =>
      rename_i p' q' ps'
      have e : p = p' := by
        rcases Int.lt_trichotomy p p' with l | l | l
        · exact absurd ⟨q, h2⟩ (g4 p h1 l)
        · exact l
        · exact absurd ⟨q', g2⟩ (h4 p' g1 l)
      subst e
      have e2 : q = q' := by
        have : p * q = p * q' := by omega
        exact Int.eq_of_mul_eq_mul_left (by omega) this
      subst e2
      rw [ih g5]
theorem Fac.len1 {n : Int} {xs : List Int} (h : Fac n xs) (e : xs.length = 1) : xs = [n] := by
  cases h with
  | one => simp at e
  | cons h1 h2 h3 h4 h5 =>
    rename_i p q ps
    have : ps = [] := by
      cases ps with
      | nil => rfl
      | cons a r => simp at e
    subst this
    cases h5 with
    | one =>
      rw [h2, Int.mul_one]
theorem Fac.self {n : Int} (h : 2 ≤ n) (r : Rough n n) : Fac n [n] := .cons h (by omega) (by omega) r .one
theorem Rough.of_fac {n : Int} (h : Fac n [n]) : 2 ≤ n ∧ Rough n n := by
  cases h with
  | cons h1 h2 h3 h4 h5 => exact ⟨h1, h4⟩
theorem Rough.step {n d : Int} (h : Rough n d) (e : ¬ d ∣ n) : Rough n (d + 1) := fun c h1 h2 => by
  by_cases q : c = d
  · rw [q]; exact e
  · exact h c h1 (by omega)
theorem Rough.quot {n p q d : Int} (h : Rough n d) (e : n = p * q) : Rough q d := fun c h1 h2 k => h c h1 h2 (by rw [e]; exact Int.dvd_trans k (Int.dvd_mul_left p q))
/-- nothing below d divides n, d squared is above n: n has no divisor at all -/
theorem Rough.top {n d : Int} (h : Rough n d) (hd : 2 ≤ d) (hn : 2 ≤ n) (e : n < d * d) : Rough n n := fun c h1 h2 k => by
  obtain ⟨q, hq⟩ := k
  by_cases hc : c < d
  · exact h c h1 hc ⟨q, hq⟩
  · have hq0 : 0 < q := by
      apply Int.lt_of_not_ge
      intro z
      have : c * q ≤ 0 := Int.mul_nonpos_of_nonneg_of_nonpos (by omega) z
      omega
    have hq1 : q ≠ 1 := by
      intro z
      rw [z] at hq
      omega
    have hqd : q < d := by
      apply Int.lt_of_not_ge
      intro z
      have : d * d ≤ c * q := Int.mul_le_mul (by omega) z (by omega) (by omega)
      omega
    exact h q (by omega) hqd ⟨c, by rw [hq, Int.mul_comm]⟩
theorem dvd_iff {n d : Int} : n % d = 0 ↔ d ∣ n := ⟨Int.dvd_of_emod_eq_zero, Int.emod_eq_zero_of_dvd⟩
/-- a divisor taken out -/
theorem Fac.out {n num d : Int} {found : List Int} (h : ∀ ps, Fac num ps → Fac n (found ++ ps)) (hd : 2 ≤ d) (h1 : 1 ≤ num) (r : Rough num d) (e : num % d = 0) :
    (∀ ps, Fac (num / d) ps → Fac n ((found ++ [d]) ++ ps)) ∧ 1 ≤ num / d ∧ Rough (num / d) d ∧ 2 * (num / d) ≤ num := by
  have e1 : num = d * (num / d) := (Int.mul_ediv_cancel' (Int.dvd_of_emod_eq_zero e)).symm
  generalize num / d = q at *
  have q0 : 0 < q := by
    apply Int.lt_of_not_ge
    intro z
    have : d * q ≤ 0 := Int.mul_nonpos_of_nonneg_of_nonpos (by omega) z
    omega
  refine ⟨fun ps f => ?_, q0, r.quot e1, ?_⟩
  · rw [List.append_assoc]
    exact h _ (.cons hd e1 q0 r f)
  · have : 2 * q ≤ d * q := Int.mul_le_mul_of_nonneg_right hd (by omega)
    omega
theorem pow_len {L : Nat} {num n : Int} (h : 2 ^ L * num.toNat ≤ n.toNat) (h1 : 1 ≤ num) (hn : n ≤ 1000000000) : L ≤ 30 := by
  apply Nat.le_of_not_gt
  intro z
  have a : 2 ^ 31 ≤ 2 ^ L := Nat.pow_le_pow_right (by decide) z
  have b : 2 ^ L * 1 ≤ 2 ^ L * num.toNat := Nat.mul_le_mul_left _ (by omega)
  have h31 : (2 : Nat) ^ 31 = 2147483648 := by decide
  omega
theorem pow_step {L : Nat} {num q n : Int} (h : 2 ^ L * num.toNat ≤ n.toNat) (e : 2 * q ≤ num) : 2 ^ (L + 1) * q.toNat ≤ n.toNat := by
  have : 2 ^ (L + 1) * q.toNat = 2 ^ L * (2 * q.toNat) := by rw [Nat.pow_succ, Nat.mul_assoc]
  rw [this]
  exact Nat.le_trans (Nat.mul_le_mul_left _ (by omega)) h
/-! ### kinds of things -/
inductive Kd (K : PySem.W.Frag) (H : Hp) : V → String → Prop
  | non : Kd K H .non "NoneType"
  | bl (b : Bool) : Kd K H (.bl b) "bool"
  | int (i : Int) : Kd K H (.int i) "int"
  | str (x : Str) : Kd K H (.str x) "str"
  | lst {a : Addr} {xs : List V} : SqL K H a xs → Kd K H (.ref a) "list"
  | tup {a : Addr} {xs : List V} : SqT K H a xs → Kd K H (.ref a) "tuple"
theorem Kd.ty {K : PySem.W.Frag} {H : Hp} {x : V} {t : String} (h : Kd K H x t) : TyX K H x (.type t) := by
  cases h with
  | non => exact .base .non
  | bl b => exact .base (.bl b)
  | int i => exact .base (.int i)
  | str x => exact .base (.str x)
  | lst h =>
    rcases h with (h | ⟨o, h⟩) | ⟨o, its, n, h1, h2, _⟩
    · exact .base (.lst h)
    · exact .base (.frz h)
    · exact .kList h1 h2
  | tup h =>
    rcases h with (h | ⟨o, h⟩) | ⟨o, its, n, h1, h2, _⟩
    · exact .base (.tup h)
    · exact .fTuple h
    · exact .kTuple h1 h2
theorem Kd.same {K : PySem.W.Frag} {H H' : Hp} {x : V} {t : String} (h : Kd K H x t) (e : Same H H') : Kd K H' x t := by
  cases h with
  | non => exact .non
  | bl b => exact .bl b
  | int i => exact .int i
  | str x => exact .str x
  | lst h => exact .lst (e.seq h)
  | tup h => exact .tup (same_t e h)
def tis (t c : String) : Bool := t == c || (t == "bool" && c == "int")
theorem Kd.kit {K : PySem.W.Frag} {H : Hp} {x : V} {t : String} (h : Kd K H x t) : PySem.W.kitOne K (.type t) (.type "int") = some (tis t "int") ∧ PySem.W.kitOne K (.type t) (.type "bool") = some (tis t "bool") ∧ PySem.W.kitOne K (.type t) (.type "str") = some (tis t "str") ∧ PySem.W.kitOne K (.type t) (.type "list") = some (tis t "list") ∧ PySem.W.kitOne K (.type t) (.type "tuple") = some (tis t "tuple") := by
  cases h <;> exact ⟨kit_ty (by decide +kernel), kit_ty (by decide +kernel), kit_ty (by decide +kernel), kit_ty (by decide +kernel), kit_ty (by decide +kernel)⟩
theorem kit_lt {K : PySem.W.Frag} {t : String} {a b : Bool} (h1 : PySem.W.kitOne K (.type t) (.type "list") = some a) (h2 : PySem.W.kitOne K (.type t) (.type "tuple") = some b) : PySem.W.kitAny K (.type t) [.type "list", .type "tuple"] = some (a || b) := by
  refine kitAny_cons h1 (fun e => kitAny_cons h2 (fun e2 => ?_) (fun e2 => ?_)) (fun e => by rw [e]; rfl)
  · rw [e, e2]
    exact kitAny_nil
  · rw [e, e2]
    rfl
/-! ### == of lists of ints -/
theorem dp_ints {K : PySem.W.Frag} {H : Hp} : ∀ ns : List Int, DpAll K H (ns.map V.int) (ns.map PyData.int)
  | [] => .nil
  | n :: r => .cons (.int n) (dp_ints r)
theorem eqv_ints : ∀ ns ms : List Int, PyData.eqvAll (ns.map PyData.int) (ms.map PyData.int) = decide (ns = ms)
  | [], [] => by simp [PyData.eqvAll]
  | [], _ :: _ => by simp [PyData.eqvAll]
  | _ :: _, [] => by simp [PyData.eqvAll]
  | a :: r, b :: t => by
    simp only [List.map_cons, PyData.eqvAll, PyData.eqv, eqv_ints r t]
    by_cases h : a = b <;> by_cases h' : r = t <;> simp [h, h']
theorem eqd_ints {K : PySem.W.Frag} {H : Hp} {a b : Addr} {ns ms : List Int} {Q : VK} (ha : SqL K H a (ns.map V.int)) (hb : SqL K H b (ms.map V.int)) (q : Q (.bl (decide (ns = ms))) H) : rEqD K (.ref a) (.ref b) H Q := by
  refine ⟨_, _, .lst ha (dp_ints ns), .lst hb (dp_ints ms), PySem.W.ke_shaped_ints ns, PySem.W.ke_shaped_ints ms, ?_⟩
  have e : PyData.eqv (.list (ns.map PyData.int)) (.list (ms.map PyData.int)) = decide (ns = ms) := by
    rw [PyData.eqv]
    exact eqv_ints ns ms
  rw [e]
  exact q
abbrev s_factors : Stmt := top 8
abbrev N_factors : List Str := ["number", "found", "divisor"]
abbrev P_factors : List Str := ["number"]
theorem sc_factors : FnScope N_factors P_factors (defScope s_factors) := ⟨rfl, rfl, rfl, by decide +kernel, rfl, by decide +kernel, by decide +kernel⟩
def spFactors : Sp := fun vs H Q _ => ∃ (n : Int), vs = [.int n] ∧ 1 ≤ n ∧ n ≤ 1000000000 ∧ ∀ xs p H', Fac n xs → H p = none → Same H H' → H' p = some (.lst (xs.map V.int)) → Q (.ref p) H'
section
variable {P : Program} {w : World} {K : PySem.W.Frag} {mg : Str → Option Value} {base : Heap}
theorem ok_factors {f : Addr} {fd : FuncData} {k : Nat} (F : Fun K "factors" "factors" s_factors f fd) : FnOk P w K mg base CX0 (k + 1) f fd P_factors spFactors := by
  have nd := sc_factors.nd
  refine F.ok sc_factors (fun vs H Q E h => ?_) (fun cdv A outer s H vs Q E hr h => ?_)
  · obtain ⟨n, rfl, _⟩ := h
    rfl
  · obtain ⟨n, rfl, hn1, hn2, q⟩ := h
    refine ⟨_, (pss_cons (ps_set (i := 1) nd rfl (Or.inl rfl) (pe_lst pa_nil))
      (pss_cons (ps_set (i := 2) nd rfl (Or.inl rfl) (pe_int))
      (pss_cons (ps_while PassesOwn.never (pt_cmpR op_le (pe_op op_mul (pv 2) (pv 2)) (pv 0) (nomark _))
      (pss_one (ps_if (pt_cmpR op_eq (pe_op op_mod (pv 0) (pv 2)) (pe_int) (nomark _)) (pss_cons (ps_expr (pe_bm PySem.F.plainAttrs_list PySem.F.slot_list_append PySem.F.type_list_append mt_append (pv 1) (pa_cons (pv 2) pa_nil)))
      (pss_one (ps_aug (i := 0) nd rfl (Or.inl rfl) (pv 2) iop_fdivW))) (pss_one (ps_aug (i := 2) nd rfl (Or.inl rfl) (pe_int) ip_add)))))
      (pss_cons (ps_if (pt_cmpR op_gt (pv 0) (pe_int) (nomark _)) (pss_one (ps_expr (pe_bm PySem.F.plainAttrs_list PySem.F.slot_list_append PySem.F.type_list_append mt_append (pv 1) (pa_cons (pv 0) pa_nil)))) pss_nil)
      (pss_one (ps_ret (pv 1))))))), ?_⟩
    walk_at "ev"
    intro p hp
    generalize hG : upd _ p _ = H1
    obtain ⟨sm, hp1⟩ := newO hG hp
    refine ⟨fun m σ H' => ∃ (num d : Int) (found : List Int), σ = [some (.int num), some (.ref p), some (.int d)] ∧ m = (num - d).toNat + num.toNat ∧ 1 ≤ num ∧ num ≤ n ∧ 2 ≤ d ∧ d ≤ n + 2 ∧ 2 ^ found.length * num.toNat ≤ n.toNat ∧ Rough num d ∧ (∀ ps, Fac num ps → Fac n (found ++ ps)) ∧ Same H H' ∧ H' p = some (.lst (found.map V.int)), ⟨_, n, 2, [], rfl, rfl, hn1, by omega, by omega, by omega, by simp, fun e h1 h2 => by omega, fun ps f => f, sm, hp1⟩, ?_⟩
    rintro m σ H' ⟨num, d, found, rfl, rfl, h1, h2, h3, h4, h5, hr', hf, sm', hp'⟩
    have hL := pow_len h5 h1 hn2
    have cm : CMul d d := .inl ⟨by omega, by omega⟩
    walk_at "ev"
    refine ite2 (fun e => ?_) (fun e => ?_)
    · have e1 : d * d ≤ num := of_decide_eq_true e
      refine ⟨_, holdN, ?_⟩
      walk_at "ev"
      refine ite2 (fun e2 => ?_) (fun e2 => ?_)
      · have e3 : num % d = 0 := V.int.inj (of_decide_eq_true e2)
        obtain ⟨o1, o2, o3, o4⟩ := Fac.out hf h3 h1 hr' e3
        walk_at "ev"
        refine .mk ⟨(num / d - d).toNat + (num / d).toNat, by omega, num / d, d, found ++ [d], rfl, rfl, o2, by omega, h3, h4, ?_, o3, o1, same_mut sm' hp, by rw [upd_same, List.map_append]; rfl⟩
        rw [List.length_append]
        exact pow_step h5 o4
      · have e3 : ¬ num % d = 0 := fun z => e2 (decide_eq_true (congrArg V.int z))
        have e4 : 2 * d ≤ d * d := Int.mul_le_mul_of_nonneg_right h3 (by omega)
        walk_at "ev"
        exact .mk ⟨(num - (d + 1)).toNat + num.toNat, by omega, num, d + 1, found, rfl, rfl, h1, h2, by omega, by omega, h5, hr'.step (fun z => e3 (dvd_iff.mpr z)), hf, sm', hp'⟩
    · have e1 : ¬ d * d ≤ num := fun z => e (decide_eq_true z)
      walk_at "ev"
      refine ite2 (fun e2 => ?_) (fun e2 => ?_)
      · have e3 : 1 < num := of_decide_eq_true e2
        walk_at "ev"
        refine q (found ++ [num]) _ _ (hf _ (Fac.self (by omega) (hr'.top h3 (by omega) (by omega)))) hp (same_mut sm' hp) (by rw [upd_same, List.map_append]; rfl)
      · have e3 : ¬ 1 < num := fun z => e2 (decide_eq_true z)
        have e4 : num = 1 := by omega
        walk_at "ev"
        subst e4
        have fin := hf [] .one
        rw [List.append_nil] at fin
        exact q found _ _ fin hp sm' hp'
end
/-! ### the law's own comparing, of like things -/
def Fit : Nat → PyData → Prop
  | 0, .list _ => False
  | 0, .tuple _ => False
  | n + 1, .list ds => ds.length ≤ 4000 ∧ ∀ e ∈ ds, Fit n e
  | n + 1, .tuple ds => ds.length ≤ 4000 ∧ ∀ e ∈ ds, Fit n e
  | _, .dict _ => False
  | _, _ => True
theorem dpall_len {K : PySem.W.Frag} {H : Hp} : ∀ {xs : List V} {ds : List PyData}, DpAll K H xs ds → xs.length = ds.length
  | _, _, .nil => rfl
  | _, _, .cons _ h => by rw [List.length_cons, List.length_cons, dpall_len h]
theorem dpall_get {K : PySem.W.Frag} {H : Hp} : ∀ {xs : List V} {ds : List PyData} {i : Nat} {x : V}, DpAll K H xs ds → xs[i]? = some x → ∃ d, ds[i]? = some d ∧ Dp K H x d
  | _, _, _, _, .nil, h => by simp at h
  | _, _, 0, _, .cons (d := d) h1 h2, h => ⟨d, rfl, by
      have e := Option.some.inj h
      rw [← e]
      exact h1⟩
  | _, _, i + 1, _, .cons h1 h2, h => dpall_get (i := i) h2 h
mutual
theorem dp_same {K : PySem.W.Frag} {H H' : Hp} (e : Same H H') : ∀ {x : V} {d : PyData}, Dp K H x d → Dp K H' x d
  | _, _, .non => .non
  | _, _, .bl b => .bl b
  | _, _, .int i => .int i
  | _, _, .str x => .str x
  | _, _, .lst h a => .lst (e.seq h) (dpall_same e a)
  | _, _, .tup h a => .tup (same_t e h) (dpall_same e a)
theorem dpall_same {K : PySem.W.Frag} {H H' : Hp} (e : Same H H') : ∀ {xs : List V} {ds : List PyData}, DpAll K H xs ds → DpAll K H' xs ds
  | _, _, .nil => .nil
  | _, _, .cons h a => .cons (dp_same e h) (dpall_same e a)
end
def spSame (K : PySem.W.Frag) (n : Nat) : Sp := fun vs H Q _ => ∃ (x y : V) (d : PyData), vs = [x, y] ∧ Dp K H x d ∧ Dp K H y d ∧ Fit n d ∧ ∀ H', Same H H' → Q (.bl true) H'
/-- a comprehension over pairs -/
theorem lc_pairs {J : It} {xs ys : List V} {g : TG} {tt : TT} {te : TE} {vs : List Nat} {σ : L2.St} {H1 : Hp} {D : Addr} {Qd : Hp → Prop} (Pv : Nat → Hp → Prop) (h0 : Pv 0 (upd H1 D (.lst [])))
    (hgo : ∀ i H, Pv i H → i < xs.length → J.go i H) (hy : ∀ i H v H', Pv i H → i < xs.length → J.yld i H v H' → ∃ T x y, v = .ref T ∧ H T = none ∧ H' = upd H T (.tup [x, y]) ∧ xs[i]? = some x ∧ ys[i]? = some y)
    (hst : ∀ H, Pv xs.length H → J.stop xs.length H)
    (hs : ∀ i x y T H H', xs[i]? = some x → ys[i]? = some y → Pv i H → H T = none → H' = upd H T (.tup [x, y]) → g (.ref T) (wipe σ vs) H' fun σ2 H2 => wipe σ2 vs = wipe σ vs ∧ tt σ2 H2 fun b H3 =>
      if b = true then te σ2 H3 fun y H4 => ∃ acc, H4 D = some (.lst acc) ∧ acc.length < sizeLine ∧ Pv (i + 1) (upd H4 D (.lst (acc ++ [y]))) else Pv (i + 1) H3) (hd : ∀ H, Pv xs.length H → Qd H) :
    ∃ W : Nat → Nat → Hp → Prop, (∃ m, W 0 m (upd H1 D (.lst []))) ∧ ∀ i m H, W i m H →
      (J.stop i H ∧ Qd H) ∨ (J.go i H ∧ ∃ Nx : Hp → Prop, (∀ H', Nx H' → ∃ m', m' < m ∧ W (i + 1) m' H') ∧ ∀ x H', J.yld i H x H' → g x (wipe σ vs) H' fun σ2 H2 => wipe σ2 vs = wipe σ vs ∧ tt σ2 H2 fun b H3 =>
        if b = true then te σ2 H3 fun y H4 => ∃ acc, H4 D = some (.lst acc) ∧ acc.length < sizeLine ∧ Nx (upd H4 D (.lst (acc ++ [y]))) else Nx H3) := by
  refine ⟨fun i m H => m = xs.length - i ∧ i ≤ xs.length ∧ Pv i H, ⟨xs.length, by simp, Nat.zero_le _, h0⟩, ?_⟩
  rintro i m H ⟨rfl, hi, p⟩
  by_cases hlt : i < xs.length
  · refine .inr ⟨hgo i H p hlt, Pv (i + 1), fun H' p' => ⟨xs.length - (i + 1), by omega, rfl, hlt, p'⟩, fun v H' yl => ?_⟩
    obtain ⟨T, x, y, rfl, hT, e, f1, f2⟩ := hy i H v H' p hlt yl
    exact hs i x y T H H' f1 f2 p hT e
  · have e : i = xs.length := by omega
    subst e
    exact .inl ⟨hst H p, hd H p⟩
theorem q_dec {Q : VK} {x : V} {H : Hp} (h : Q (.bl true) H) : Q (.bl (decide (x = x))) H := by
  rw [decide_eq_true rfl]
  exact h
theorem all_true : ∀ n : Nat, (List.replicate n true).all id = true
  | 0 => rfl
  | n + 1 => by
    rw [List.replicate_succ, List.all_cons, all_true n]
    rfl
theorem srt_ext : ∀ {l m : List Int}, l.Pairwise (· < ·) → m.Pairwise (· < ·) → (∀ k, k ∈ l ↔ k ∈ m) → l = m
  | [], [], _, _, _ => rfl
  | [], y :: m, _, _, h => by
    have := (h y).mpr List.mem_cons_self
    simp at this
  | x :: l, [], _, _, h => by
    have := (h x).mp List.mem_cons_self
    simp at this
  | x :: l, y :: m, hl, hm, h => by
    obtain ⟨hx, hl'⟩ := List.pairwise_cons.mp hl
    obtain ⟨hy, hm'⟩ := List.pairwise_cons.mp hm
    have e : x = y := by
      have a1 := (h x).mp List.mem_cons_self
      have a2 := (h y).mpr List.mem_cons_self
      rcases List.mem_cons.mp a1 with e | e
      · exact e
      · rcases List.mem_cons.mp a2 with e2 | e2
        · exact e2.symm
        · have := hy x e
          have := hx y e2
          omega
    subst e
    rw [srt_ext hl' hm' fun k => ?_]
    constructor
    · intro hk
      rcases List.mem_cons.mp ((h k).mp (List.mem_cons_of_mem _ hk)) with e | e
      · have := hx k hk
        omega
      · exact e
    · intro hk
      rcases List.mem_cons.mp ((h k).mpr (List.mem_cons_of_mem _ hk)) with e | e
      · have := hy k hk
        omega
      · exact e
theorem Fac.len {n : Int} {xs : List Int} (h : Fac n xs) (hn : n ≤ 1000000000) : xs.length ≤ 30 := by
  have key : ∀ {n : Int} {xs : List Int}, Fac n xs → 2 ^ xs.length * 1 ≤ n.toNat ∧ 1 ≤ n := by
    intro n xs h
    induction h with
    | one => exact ⟨by decide, by decide⟩
    | cons h1 h2 h3 h4 h5 ih =>
      rename_i n p q ps
      obtain ⟨i1, i2⟩ := ih
      have : 2 * q ≤ p * q := Int.mul_le_mul_of_nonneg_right h1 (by omega)
      refine ⟨?_, by omega⟩
      rw [List.length_cons, Nat.pow_succ]
      omega
  obtain ⟨k1, k2⟩ := key h
  exact pow_len (num := 1) (n := n) (by simpa using k1) (by decide) hn
theorem Fac.pos {n : Int} {xs : List Int} (h : Fac n xs) : 1 ≤ n := by
  induction h with
  | one => decide
  | cons h1 h2 h3 h4 h5 ih =>
    rename_i n p q ps
    have : 1 * 1 ≤ p * q := Int.mul_le_mul (by omega) ih (by omega) (by omega)
    omega
theorem Fac.le {n : Int} {xs : List Int} (h : Fac n xs) : ∀ q ∈ xs, q ≤ n := by
  induction h with
  | one => intro q hq; simp at hq
  | cons h1 h2 h3 h4 h5 ih =>
    rename_i n p q ps
    intro x hx
    rcases List.mem_cons.mp hx with e | e
    · rw [e]
      have : p * 1 ≤ p * q := Int.mul_le_mul_of_nonneg_left h3 (by omega)
      omega
    · have := ih x e
      have : 1 * q ≤ p * q := Int.mul_le_mul_of_nonneg_right (by omega) (by omega)
      omega
theorem Fac.primes {n : Int} {xs : List Int} (h : Fac n xs) : ∀ q ∈ xs, 2 ≤ q ∧ Rough q q := by
  induction h with
  | one => intro q hq; simp at hq
  | cons h1 h2 h3 h4 h5 ih =>
    rename_i n p q ps
    intro x hx
    rcases List.mem_cons.mp hx with e | e
    · rw [e]
      exact ⟨h1, fun c c1 c2 c3 => h4 c c1 c2 (Int.dvd_trans c3 ⟨q, h2⟩)⟩
    · exact ih x e
/-! ### all divisors, rising -/
/-- ds is the rising list of all that divides n -/
def IsDv (n : Int) (ds : List Int) : Prop := ds.Pairwise (· < ·) ∧ ∀ k, k ∈ ds ↔ 1 ≤ k ∧ k ∣ n
theorem IsDv.uniq {n : Int} {l m : List Int} (a : IsDv n l) (b : IsDv n m) : l = m := srt_ext a.1 b.1 fun k => (a.2 k).trans (b.2 k).symm
theorem sq_lt {a b : Int} (ha : 0 ≤ a) (h : a * a < b * b) (hb : 0 ≤ b) : a < b := by
  apply Int.lt_of_not_ge
  intro z
  have : b * b ≤ a * a := Int.mul_le_mul z z hb ha
  omega
/-- low: those below c; high: the partners of those whose square is less, falling -/
structure Half (n c : Int) (low high : List Int) : Prop where
  up : low.Pairwise (· < ·)
  mem : ∀ k, k ∈ low ↔ 1 ≤ k ∧ k < c ∧ k ∣ n
  down : high.Pairwise (· > ·)
  part : ∀ y, y ∈ high ↔ ∃ d, 1 ≤ d ∧ d < c ∧ d * d < n ∧ y * d = n
  sq : ∀ d, 1 ≤ d → d < c → d * d ≤ n
theorem Half.start (n : Int) : Half n 1 [] [] := ⟨.nil, fun k => ⟨fun h => by simp at h, fun ⟨a, b, _⟩ => by omega⟩, .nil, fun y => ⟨fun h => by simp at h, fun ⟨d, a, b, _⟩ => by omega⟩, fun d a b => by omega⟩
theorem Half.skip {n c : Int} {low high : List Int} (h : Half n c low high) (hc : 1 ≤ c) (e : ¬ c ∣ n) (s : c * c ≤ n) : Half n (c + 1) low high := by
  refine ⟨h.up, fun k => ?_, h.down, fun y => ?_, fun d a b => ?_⟩
  · rw [h.mem]
    constructor
    · rintro ⟨a, b, d⟩
      exact ⟨a, by omega, d⟩
    · rintro ⟨a, b, d⟩
      refine ⟨a, ?_, d⟩
      have : k ≠ c := fun z => e (z ▸ d)
      omega
  · rw [h.part]
    constructor
    · rintro ⟨d, a, b, x, z⟩
      exact ⟨d, a, by omega, x, z⟩
    · rintro ⟨d, a, b, x, z⟩
      refine ⟨d, a, ?_, x, z⟩
      have : d ≠ c := fun w => e ⟨y, by rw [← w, Int.mul_comm]; exact z.symm⟩
      omega
  · by_cases z : d = c
    · rw [z]; exact s
    · exact h.sq d a (by omega)
theorem pw_append {R : Int → Int → Prop} {l : List Int} {x : Int} (h : l.Pairwise R) (k : ∀ y ∈ l, R y x) : (l ++ [x]).Pairwise R := by
  rw [List.pairwise_append]
  exact ⟨h, List.pairwise_singleton _ _, fun a ha b hb => by
    have e : b = x := by simpa using hb
    rw [e]
    exact k a ha⟩
theorem Half.low {n c : Int} {low high : List Int} (h : Half n c low high) (hc : 1 ≤ c) (e : c ∣ n) (s : c * c ≤ n) :
    (c * c < n → Half n (c + 1) (low ++ [c]) (high ++ [n / c])) ∧ (¬ c * c < n → Half n (c + 1) (low ++ [c]) high) := by
  have up : (low ++ [c]).Pairwise (· < ·) := pw_append h.up fun y hy => ((h.mem y).mp hy).2.1
  have mem : ∀ k, k ∈ low ++ [c] ↔ 1 ≤ k ∧ k < c + 1 ∧ k ∣ n := fun k => by
    rw [List.mem_append, h.mem, List.mem_singleton]
    constructor
    · rintro (⟨a, b, d⟩ | z)
      · exact ⟨a, by omega, d⟩
      · rw [z]
        exact ⟨hc, by omega, e⟩
    · rintro ⟨a, b, d⟩
      by_cases z : k = c
      · exact .inr z
      · exact .inl ⟨a, by omega, d⟩
  have sq : ∀ d, 1 ≤ d → d < c + 1 → d * d ≤ n := fun d a b => by
    by_cases z : d = c
    · rw [z]; exact s
    · exact h.sq d a (by omega)
  have ec : n / c * c = n := Int.ediv_mul_cancel e
  constructor
  · intro lt
    refine ⟨up, mem, pw_append h.down fun y hy => ?_, fun y => ?_, sq⟩
    · obtain ⟨d, a, b, x, z⟩ := (h.part y).mp hy
      show n / c < y
      apply Int.lt_of_not_ge
      intro w
      have p1 : y * d ≤ n / c * d := Int.mul_le_mul_of_nonneg_right w (by omega)
      have q0 : 0 < n / c := by
        apply Int.lt_of_not_ge
        intro v
        have : n / c * c ≤ 0 := Int.mul_nonpos_of_nonpos_of_nonneg v (by omega)
        have : 1 * 1 ≤ c * c := Int.mul_le_mul hc hc (by omega) (by omega)
        omega
      have p2 : n / c * d < n / c * c := Int.mul_lt_mul_of_pos_left b q0
      omega
    · rw [List.mem_append, h.part, List.mem_singleton]
      constructor
      · rintro (⟨d, a, b, x, z⟩ | w)
        · exact ⟨d, a, by omega, x, z⟩
        · rw [w]
          exact ⟨c, hc, by omega, lt, ec⟩
      · rintro ⟨d, a, b, x, z⟩
        by_cases w : d = c
        · right
          subst w
          have : y * d = n / d * d := by omega
          exact Int.eq_of_mul_eq_mul_right (by omega) this
        · exact .inl ⟨d, a, by omega, x, z⟩
  · intro nlt
    refine ⟨up, mem, h.down, fun y => ?_, sq⟩
    rw [h.part]
    constructor
    · rintro ⟨d, a, b, x, z⟩
      exact ⟨d, a, by omega, x, z⟩
    · rintro ⟨d, a, b, x, z⟩
      refine ⟨d, a, ?_, x, z⟩
      have : d ≠ c := fun w => nlt (w ▸ x)
      omega
theorem Half.done {n c : Int} {low high : List Int} (h : Half n c low high) (hn : 1 ≤ n) (hc : 1 ≤ c) (e : n < c * c) : IsDv n (low ++ high.reverse) := by
  constructor
  · rw [List.pairwise_append]
    refine ⟨h.up, ?_, fun x hx y hy => ?_⟩
    · rw [List.pairwise_reverse]
      exact h.down
    · obtain ⟨a, b, d⟩ := (h.mem x).mp hx
      obtain ⟨d', a', b', s', z'⟩ := (h.part y).mp (List.mem_reverse.mp hy)
      have sx := h.sq x a b
      -- y * y > n ≥ x * x
      have y0 : 0 < y := by
        apply Int.lt_of_not_ge
        intro v
        have : y * d' ≤ 0 := Int.mul_nonpos_of_nonpos_of_nonneg v (by omega)
        omega
      have yd : d' < y := by
        apply Int.lt_of_not_ge
        intro v
        have : y * d' ≤ d' * d' := Int.mul_le_mul_of_nonneg_right v (by omega)
        omega
      have : y * d' < y * y := Int.mul_lt_mul_of_pos_left yd y0
      exact sq_lt (by omega) (by omega) (by omega)
  · intro k
    rw [List.mem_append, List.mem_reverse, h.mem, h.part]
    constructor
    · rintro (⟨a, b, d⟩ | ⟨d, a, b, x, z⟩)
      · exact ⟨a, d⟩
      · refine ⟨?_, ⟨d, z.symm⟩⟩
        show 0 < k
        apply Int.lt_of_not_ge
        intro v
        have : k * d ≤ 0 := Int.mul_nonpos_of_nonpos_of_nonneg (by omega) (by omega)
        omega
    · rintro ⟨a, b⟩
      by_cases kc : k < c
      · exact .inl ⟨a, kc, b⟩
      · right
        obtain ⟨d, hd⟩ := b
        have d0 : 0 < d := by
          apply Int.lt_of_not_ge
          intro v
          have : k * d ≤ 0 := Int.mul_nonpos_of_nonneg_of_nonpos (by omega) v
          omega
        have dc : d < c := by
          apply Int.lt_of_not_ge
          intro v
          have : c * c ≤ k * d := Int.mul_le_mul (by omega) v (by omega) (by omega)
          omega
        have dk : d < k := by omega
        have : d * d < k * d := Int.mul_lt_mul_of_pos_right dk d0
        exact ⟨d, by omega, dc, by omega, hd.symm⟩
theorem half_len {m : Int} (hm : 1 ≤ m) (hm2 : m ≤ 1000000) : ∀ c : Nat, 1 ≤ c → (∃ (c' : Nat) (low high : List Int), 1 ≤ c' ∧ c' ≤ c ∧ m < (c' : Int) * c' ∧ Half m c' low high ∧ low.length + high.length + 2 ≤ 2 * c') ∨ (∃ low high : List Int, Half m c low high ∧ low.length + high.length + 2 ≤ 2 * c) := by
  intro c
  induction c with
  | zero => intro h; omega
  | succ c ih =>
    intro _
    by_cases c0 : c = 0
    · subst c0
      exact .inr ⟨[], [], Half.start m, by simp⟩
    · rcases ih (by omega) with ⟨c', low, high, a1, a2, a3, a4, a5⟩ | ⟨low, high, a4, a5⟩
      · exact .inl ⟨c', low, high, a1, by omega, a3, a4, a5⟩
      · by_cases z : m < (c : Int) * c
        · exact .inl ⟨c, low, high, by omega, by omega, z, a4, a5⟩
        · have e1 : (((c + 1 : Nat) : Int)) = (c : Int) + 1 := by omega
          by_cases dv : (c : Int) ∣ m
          · obtain ⟨b1, b2⟩ := a4.low (by omega) dv (by omega)
            by_cases lt : (c : Int) * c < m
            · refine .inr ⟨_, _, by rw [e1]; exact b1 lt, ?_⟩
              simp
              omega
            · refine .inr ⟨_, _, by rw [e1]; exact b2 lt, ?_⟩
              simp
              omega
          · refine .inr ⟨low, high, by rw [e1]; exact a4.skip (by omega) dv (by omega), by omega⟩
theorem IsDv.len {m : Int} {ds : List Int} (h : IsDv m ds) (hm : 1 ≤ m) (hm2 : m ≤ 1000000) : ds.length ≤ 2000 := by
  rcases half_len hm hm2 1001 (by decide) with ⟨c', low, high, a1, a2, a3, a4, a5⟩ | ⟨low, high, a4, a5⟩
  · have e := h.uniq (a4.done hm (by omega) a3)
    rw [e, List.length_append, List.length_reverse]
    omega
  · have big : m < ((1001 : Nat) : Int) * ((1001 : Nat) : Int) := by
      have e : ((1001 : Nat) : Int) * ((1001 : Nat) : Int) = 1002001 := by decide
      omega
    have e := h.uniq (a4.done hm (by omega) big)
    rw [e, List.length_append, List.length_reverse]
    omega
theorem dv_one : IsDv 1 [1] := by
  refine ⟨List.pairwise_singleton _ _, fun k => ?_⟩
  rw [List.mem_singleton]
  constructor
  · intro e
    rw [e]
    exact ⟨by decide, Int.dvd_refl _⟩
  · rintro ⟨a, b⟩
    exact Int.le_antisymm (Int.le_of_dvd (by decide) b) a
/-- d divides m * p, p a prime -/
theorem dv_prime {k m p : Int} (hk : 1 ≤ k) (hp : 2 ≤ p) (r : Rough p p) (h : k ∣ m * p) : k ∣ m ∨ ∃ e, k = e * p := by
  by_cases hpk : p ∣ k
  · obtain ⟨e, he⟩ := hpk
    exact .inr ⟨e, by rw [he, Int.mul_comm]⟩
  · left
    have hg : Nat.gcd k.natAbs p.natAbs = 1 := by
      have d1 := Nat.gcd_dvd_left k.natAbs p.natAbs
      have d2 := Nat.gcd_dvd_right k.natAbs p.natAbs
      generalize Nat.gcd k.natAbs p.natAbs = g at *
      have gp : (g : Int) ∣ p := by
        rw [← Int.natAbs_dvd_natAbs, Int.natAbs_natCast]
        exact d2
      have gk : (g : Int) ∣ k := by
        rw [← Int.natAbs_dvd_natAbs, Int.natAbs_natCast]
        exact d1
      have gle : (g : Int) ≤ p := Int.le_of_dvd (by omega) gp
      have g0 : g ≠ 0 := fun z => by
        rw [z] at gp
        have := Int.zero_dvd.mp gp
        omega
      by_cases g1 : g = 1
      · exact g1
      · exfalso
        by_cases gpe : (g : Int) = p
        · rw [gpe] at gk
          exact hpk gk
        · exact r g (by omega) (by omega) gp
    have h1 : k.natAbs ∣ m.natAbs * p.natAbs := by
      rw [← Int.natAbs_mul]
      exact Int.natAbs_dvd_natAbs.mpr h
    have h2 := Nat.Coprime.dvd_of_dvd_mul_right (show Nat.Coprime k.natAbs p.natAbs from hg) h1
    exact Int.natAbs_dvd_natAbs.mp h2
theorem dv_step {m p : Int} {found out : List Int} (h : IsDv m found) (hp : 2 ≤ p) (r : Rough p p) (hs : out.Pairwise (· < ·)) (hm : ∀ k, k ∈ out ↔ k ∈ found ++ found.map (· * p)) : IsDv (m * p) out := by
  refine ⟨hs, fun k => ?_⟩
  rw [hm, List.mem_append, List.mem_map, h.2]
  constructor
  · rintro (⟨a, b⟩ | ⟨x, hx, e⟩)
    · exact ⟨a, Int.dvd_trans b (Int.dvd_mul_right m p)⟩
    · obtain ⟨a, b⟩ := (h.2 x).mp hx
      rw [← e]
      refine ⟨?_, Int.mul_dvd_mul_right p b⟩
      have : 1 * 1 ≤ x * p := Int.mul_le_mul a (by omega) (by omega) (by omega)
      omega
  · rintro ⟨a, b⟩
    rcases dv_prime a hp r b with z | ⟨e, he⟩
    · exact .inl ⟨a, z⟩
    · right
      refine ⟨e, (h.2 e).mpr ⟨?_, ?_⟩, he.symm⟩
      · show 0 < e
        apply Int.lt_of_not_ge
        intro v
        have : e * p ≤ 0 := Int.mul_nonpos_of_nonpos_of_nonneg (by omega) (by omega)
        omega
      · rw [he] at b
        exact Int.dvd_of_mul_dvd_mul_right (by omega) b
abbrev s_divisors : Stmt := top 9
abbrev N_divisors : List Str := ["number", "low", "high", "divisor"]
abbrev P_divisors : List Str := ["number"]
theorem sc_divisors : FnScope N_divisors P_divisors (defScope s_divisors) := ⟨rfl, rfl, rfl, by decide +kernel, rfl, by decide +kernel, by decide +kernel⟩
def spDiv : Sp := fun vs H Q _ => ∃ (n : Int), vs = [.int n] ∧ 1 ≤ n ∧ n ≤ 1000000 ∧ ∀ ds l H', IsDv n ds → H l = none → Same H H' → H' l = some (.lst (ds.map V.int)) → Q (.ref l) H'
section
variable {P : Program} {w : World} {K : PySem.W.Frag} {mg : Str → Option Value} {base : Heap}
theorem ok_divisors {f : Addr} {fd : FuncData} {k : Nat} (F : Fun K "divisors" "divisors" s_divisors f fd) (T : Blt mg) : FnOk P w K mg base CX0 (k + 1) f fd P_divisors spDiv := by
  have nd := sc_divisors.nd
  refine F.ok sc_divisors (fun vs H Q E h => ?_) (fun cdv A outer s H vs Q E hr h => ?_)
  · obtain ⟨n, rfl, _⟩ := h
    rfl
  · obtain ⟨n, rfl, h1, h2, q⟩ := h
    refine ⟨_, (pss_cons (ps_set (i := 1) nd rfl (Or.inl rfl) (pe_lst pa_nil))
      (pss_cons (ps_set (i := 2) nd rfl (Or.inl rfl) (pe_lst pa_nil))
      (pss_cons (ps_set (i := 3) nd rfl (Or.inl rfl) (pe_int))
      (pss_cons (ps_while PassesOwn.never (pt_cmpR op_le (pe_op op_mul (pv 3) (pv 3)) (pv 0) (nomark _))
      (pss_cons (ps_if (pt_cmpR op_eq (pe_op op_mod (pv 0) (pv 3)) (pe_int) (nomark _)) (pss_cons (ps_expr (pe_bm PySem.F.plainAttrs_list PySem.F.slot_list_append PySem.F.type_list_append mt_append (pv 1) (pa_cons (pv 3) pa_nil)))
      (pss_one (ps_if (pt_cmpR op_lt (pe_op op_mul (pv 3) (pv 3)) (pv 0) (nomark _)) (pss_one (ps_expr (pe_bm PySem.F.plainAttrs_list PySem.F.slot_list_append PySem.F.type_list_append mt_append (pv 2) (pa_cons (pe_op op_fdiv (pv 0) (pv 3)) pa_nil)))) pss_nil))) pss_nil)
      (pss_one (ps_aug (i := 3) nd rfl (Or.inl rfl) (pe_int) ip_add))))
      (pss_one (ps_ret (pe_op op_cat (pv 1) (pe_revL (pv 2))))))))), ?_⟩
    walk_at "ev"
    intro a ha
    generalize hG1 : upd _ a _ = H1
    obtain ⟨sm1, hq1⟩ := newO hG1 ha
    walk_at "ev"
    intro b hb
    generalize hG2 : upd _ b _ = H2
    obtain ⟨sm2, hq2⟩ := newO hG2 hb
    have nab : a ≠ b := ne_of_none hq1 hb
    have hbf : H b = none := sm1.free hb
    refine ⟨fun m σ H' => ∃ (c : Int) (low high : List Int), σ = [some (.int n), some (.ref a), some (.ref b), some (.int c)] ∧ m = (n + 1 - c).toNat ∧ 1 ≤ c ∧ c ≤ 1001 ∧ c ≤ n + 1 ∧ Half n c low high ∧ low.length + high.length + 2 ≤ 2 * c.toNat ∧ Same H H' ∧ H' a = some (.lst (low.map V.int)) ∧ H' b = some (.lst (high.map V.int)), ⟨_, 1, [], [], rfl, rfl, by omega, by omega, by omega, Half.start n, by simp, sm1.trans sm2, sm2 _ _ hq1, hq2⟩, ?_⟩
    rintro m σ H' ⟨c, low, high, rfl, rfl, c1, c2, c3, hf, hl, sm, hqa, hqb⟩
    have cm : CMul c c := .inl ⟨by omega, by omega⟩
    walk_at "ev"
    refine ite2 (fun e => ?_) (fun e => ?_)
    · have e1 : c * c ≤ n := of_decide_eq_true e
      have cl : c ≤ c * c := by
        have : 1 * c ≤ c * c := Int.mul_le_mul_of_nonneg_right c1 (by omega)
        omega
      have c1000 : c ≤ 1000 := by
        apply Int.le_of_not_gt
        intro z
        have : 1001 * 1001 ≤ c * c := Int.mul_le_mul (by omega) (by omega) (by omega) (by omega)
        omega
      refine ⟨_, holdN, ?_⟩
      walk_at "ev"
      refine ite2 (fun e2 => ?_) (fun e2 => ?_)
      · have e3 : n % c = 0 := V.int.inj (of_decide_eq_true e2)
        obtain ⟨g1, g2⟩ := hf.low c1 (dvd_iff.mp e3) e1
        have hty : tyV K "list" (.ref a) H' := .inl ⟨rfl, _, SqL.of hqa⟩
        have hsa : (low.map V.int).length < sizeLine := by
          rw [List.length_map]
          exact szm (by omega)
        walk_at "ev"
        generalize hG3 : upd H' a _ = H3
        have hqa3 : H3 a = some (.lst ((low ++ [c]).map V.int)) := by
          rw [(mutO hG3).2, List.map_append]
          rfl
        have hqb3 : H3 b = some (.lst (high.map V.int)) := (mutO hG3).1 _ _ nab.symm hqb
        have sm3 : Same H H3 := by
          rw [← hG3]
          exact same_mut sm ha
        clear hG3
        refine ite2 (fun e4 => ?_) (fun e4 => ?_)
        · have e5 : c * c < n := of_decide_eq_true e4
          have hty3 : tyV K "list" (.ref b) H3 := .inl ⟨rfl, _, SqL.of hqb3⟩
          have hsb : (high.map V.int).length < sizeLine := by
            rw [List.length_map]
            exact szm (by omega)
          walk_at "ev"
          refine .mk ⟨(n + 1 - (c + 1)).toNat, by omega, c + 1, low ++ [c], high ++ [n / c], rfl, rfl, by omega, by omega, by omega, g1 e5, ?_, same_mut sm3 hbf, ?_, ?_⟩
          · simp
            omega
          · rw [upd_ne nab]
            exact hqa3
          · rw [upd_same, List.map_append]
            rfl
        · have e5 : ¬ c * c < n := fun z => e4 (decide_eq_true z)
          walk_at "ev"
          refine .mk ⟨(n + 1 - (c + 1)).toNat, by omega, c + 1, low ++ [c], high, rfl, rfl, by omega, by omega, by omega, g2 e5, ?_, sm3, hqa3, hqb3⟩
          simp
          omega
      · have e3 : ¬ n % c = 0 := fun z => e2 (decide_eq_true (congrArg V.int z))
        walk_at "ev"
        exact .mk ⟨(n + 1 - (c + 1)).toNat, by omega, c + 1, low, high, rfl, rfl, by omega, by omega, by omega, hf.skip c1 (fun z => e3 (dvd_iff.mpr z)) e1, by omega, sm, hqa, hqb⟩
    · have e1 : ¬ c * c ≤ n := fun z => e (decide_eq_true z)
      have hLb : SqL K H' b (high.map V.int) := SqL.of hqb
      walk_at "ev"
      intro r hr'
      generalize hG3 : upd _ r _ = H3
      obtain ⟨sm3, hq3⟩ := newO hG3 hr'
      have hqa3 := sm3 _ _ hqa
      have hsz : (low.map V.int).length + (high.map V.int).reverse.length ≤ sizeLine := by
        rw [List.length_map, List.length_reverse, List.length_map]
        exact szl (by omega)
      walk_at "ev"
      intro p hp
      generalize hG4 : upd _ p _ = H4
      obtain ⟨sm4, hq4⟩ := newO hG4 hp
      refine q (low ++ high.reverse) p H4 (hf.done h1 c1 (by omega)) ((sm.trans sm3).free hp) (sm.trans (sm3.trans sm4)) ?_
      rw [hq4, List.map_append, List.map_reverse]
end
/-! ### the sieve: mathematics -/
def pk (m j : Nat) : Bool := (List.range' 2 (m - 2)).all fun d => decide (j < d * d) || decide (j % d ≠ 0)
theorem pk_iff {m j : Nat} : pk m j = true ↔ ∀ d, 2 ≤ d → d < m → d * d ≤ j → ¬ d ∣ j := by
  unfold pk
  rw [List.all_eq_true]
  constructor
  · intro h d h1 h2 h3 h4
    have := h d (List.mem_range'_1.mpr ⟨h1, by omega⟩)
    rw [Bool.or_eq_true, decide_eq_true_iff, decide_eq_true_iff] at this
    rcases this with z | z
    · omega
    · exact z (Nat.mod_eq_zero_of_dvd h4)
  · intro h d hd
    have h1 := List.mem_range'_1.mp hd
    rw [Bool.or_eq_true, decide_eq_true_iff, decide_eq_true_iff]
    by_cases z : j < d * d
    · exact .inl z
    · exact .inr fun e => h d h1.1 (by omega) (by omega) (Nat.dvd_of_mod_eq_zero e)
theorem pk_ext {a b : Bool} (h : a = true ↔ b = true) : a = b := by
  cases a <;> cases b <;> simp at h ⊢
theorem pk_two (j : Nat) : pk 2 j = true := pk_iff.mpr fun d h1 h2 => by omega
/-- no marking at m: it was marked itself -/
theorem pk_skip {m j : Nat} (hm : 2 ≤ m) (h : pk m m = false) : pk (m + 1) j = pk m j := by
  refine pk_ext ?_
  rw [pk_iff, pk_iff]
  constructor
  · intro k d h1 h2
    exact k d h1 (by omega)
  · intro k d h1 h2 h3 h4
    by_cases e : d < m
    · exact k d h1 e h3 h4
    · have e2 : d = m := by omega
      subst e2
      have hn : ¬ pk d d = true := by rw [h]; exact Bool.false_ne_true
      apply hn
      rw [pk_iff]
      intro c c1 c2 c3 c4
      have hle : d * 1 ≤ d * d := Nat.mul_le_mul_left d (by omega)
      exact k c c1 c2 (by omega) (Nat.dvd_trans c4 h4)
/-- .. or its square is beyond -/
theorem pk_far {m j : Nat} (h : j < m * m) : pk (m + 1) j = pk m j := by
  refine pk_ext ?_
  rw [pk_iff, pk_iff]
  constructor
  · intro k d h1 h2
    exact k d h1 (by omega)
  · intro k d h1 h2 h3 h4
    by_cases e : d < m
    · exact k d h1 e h3 h4
    · have e2 : d = m := by omega
      subst e2
      omega
/-- what is marked behind t turns at m -/
def mk (m t j : Nat) : Bool := pk m j && !(decide (m * m ≤ j) && decide (j % m = 0) && decide (j < m * m + t * m))
theorem mk_zero (m j : Nat) : mk m 0 j = pk m j := by
  unfold mk
  by_cases h : m * m ≤ j
  · have : decide (j < m * m + 0 * m) = false := decide_eq_false (by omega)
    rw [this, Bool.and_false, Bool.not_false, Bool.and_true]
  · simp [h]
theorem mk_step {m t j : Nat} (hm : 0 < m) : mk m (t + 1) j = if j = m * m + t * m then false else mk m t j := by
  unfold mk
  have es : (t + 1) * m = t * m + m := by rw [Nat.add_mul, Nat.one_mul]
  split
  · rename_i e
    have h1 : j % m = 0 := by
      rw [e, ← Nat.add_mul]
      exact Nat.mul_mod_left _ _
    have h2 : m * m ≤ j := by omega
    have h3 : j < m * m + (t + 1) * m := by omega
    simp [h1, h2, h3]
  · rename_i e
    by_cases h1 : j % m = 0
    · by_cases h2 : m * m ≤ j
      · have h3 : (j < m * m + (t + 1) * m) ↔ (j < m * m + t * m) := by
          constructor
          · intro z
            apply Nat.lt_of_not_ge
            intro y
            apply e
            obtain ⟨q, hq⟩ := Nat.dvd_of_mod_eq_zero h1
            have a1 : m * (m + t) ≤ m * q := by rw [Nat.mul_add, Nat.mul_comm m t, ← hq]; omega
            have a2 : m * q < m * (m + t + 1) := by rw [Nat.mul_add, Nat.mul_add, Nat.mul_comm m t, ← hq]; omega
            have b1 := Nat.le_of_mul_le_mul_left a1 hm
            have b2 := Nat.lt_of_mul_lt_mul_left a2
            have b3 : q = m + t := by omega
            rw [hq, b3, Nat.mul_add, Nat.mul_comm m t]
          · intro z
            omega
        simp only [h3]
      · simp [h2]
    · simp [h1]
theorem mk_last {m t j : Nat} (hm : 2 ≤ m) (h : j < m * m + t * m) : mk m t j = pk (m + 1) j := by
  refine pk_ext ?_
  unfold mk
  rw [Bool.and_eq_true, pk_iff, pk_iff]
  constructor
  · rintro ⟨k, z⟩ d h1 h2 h3 h4
    by_cases e : d < m
    · exact k d h1 e h3 h4
    · have e2 : d = m := by omega
      subst e2
      have := Nat.mod_eq_zero_of_dvd h4
      simp [h, h3, this] at z
  · intro k
    refine ⟨fun d h1 h2 => k d h1 (by omega), ?_⟩
    by_cases h2 : m * m ≤ j
    · have h3 : ¬ j % m = 0 := fun e => k m hm (by omega) h2 (Nat.dvd_of_mod_eq_zero e)
      simp [h3]
    · simp [h2]
/-- the list of truths -/
def bls (n : Nat) (f : Nat → Bool) : List V := (List.range n).map fun j => V.bl (f j)
theorem bls_len (n : Nat) (f : Nat → Bool) : (bls n f).length = n := by
  unfold bls
  rw [List.length_map, List.length_range]
theorem bls_get {n j : Nat} {f : Nat → Bool} (h : j < n) : (bls n f)[j]? = some (.bl (f j)) := by
  unfold bls
  rw [List.getElem?_map, List.getElem?_range h]
  rfl
theorem bls_at {n : Nat} {f : Nat → Bool} {k : Int} (h0 : 0 ≤ k) (h : k < (n : Int)) : atI (bls n f) k = some (.bl (f k.toNat)) := at_of (j := k.toNat) (by omega) (bls_get (by omega))
theorem bls_ext {n : Nat} {f g : Nat → Bool} (h : ∀ j, j < n → f j = g j) : bls n f = bls n g := by
  unfold bls
  refine List.map_congr_left fun j hj => ?_
  rw [h j (List.mem_range.mp hj)]
theorem bls_set {n j : Nat} {f : Nat → Bool} {b : Bool} : (bls n f).set j (.bl b) = bls n fun i => if i = j then b else f i := by
  refine List.ext_getElem? fun i => ?_
  rw [List.getElem?_set]
  by_cases hi : i < n
  · rw [bls_get hi, bls_get hi, bls_len]
    by_cases e : j = i
    · subst e
      simp [hi]
    · have e2 : ¬ i = j := fun z => e z.symm
      simp [e, e2]
  · have h1 : (bls n f)[i]? = none := List.getElem?_eq_none (by rw [bls_len]; omega)
    have h2 : (bls n fun i => if i = j then b else f i)[i]? = none := List.getElem?_eq_none (by rw [bls_len]; omega)
    rw [h1, h2, bls_len]
    by_cases e : j = i
    · subst e
      simp [hi]
    · simp [e]
theorem bls_rep : ∀ n : Nat, (List.replicate n [V.bl true]).flatten = bls n fun _ => true
  | 0 => rfl
  | n + 1 => by
    have ih := bls_rep n
    rw [List.replicate_succ', List.flatten_append, ih]
    unfold bls
    rw [List.range_succ, List.map_append]
    rfl
theorem rg_pos {i j c : Int} (hc : 0 < c) (hc2 : c < 1073741824) (hi : 0 ≤ i) (hij : i < j) (hj : j < 1099511627776) : RgC i j c ((j - i - 1) / c + 1).toNat := by
  have h0 : 0 ≤ (j - i - 1) / c := Int.ediv_nonneg (by omega) (by omega)
  have h1 : (j - i - 1) / c ≤ j - i - 1 := Int.ediv_le_self _ (by omega)
  have e : Builtin.Range.rangeSize i j c = (j - i - 1) / c + 1 := by
    unfold Builtin.Range.rangeSize
    rw [if_pos hc, if_pos hij]
  refine ⟨by omega, by omega, ?_, by rw [e]; omega⟩
  unfold Builtin.Range.small
  rw [e]
  generalize (j - i - 1) / c = z at *
  simp only [Builtin.Range.rangeFitsLong, Bool.and_eq_true, Bool.or_eq_true, decide_eq_true_eq, beq_iff_eq]
  rw [if_pos hc, Bool.and_eq_true, decide_eq_true_iff, decide_eq_true_iff]
  omega
def prs (top : Nat) : List Int := ((List.range' 2 (top - 1)).filter (pk (top + 1))).map Int.ofNat
/-! ### the law's own dividing -/
theorem mem_prs {top : Nat} {x : Int} : x ∈ prs top ↔ ∃ j : Nat, x = (j : Int) ∧ 2 ≤ j ∧ j ≤ top ∧ pk (top + 1) j = true := by
  unfold prs
  rw [List.mem_map]
  constructor
  · rintro ⟨j, hj, e⟩
    have h1 := List.mem_filter.mp hj
    have h2 := List.mem_range'_1.mp h1.1
    exact ⟨j, e.symm, h2.1, by omega, h1.2⟩
  · rintro ⟨j, e, h1, h2, h3⟩
    exact ⟨j, List.mem_filter.mpr ⟨List.mem_range'_1.mpr ⟨h1, by omega⟩, h3⟩, e.symm⟩
theorem prs_sorted (top : Nat) : (prs top).Pairwise (· < ·) := by
  unfold prs
  rw [List.pairwise_map]
  refine List.Pairwise.imp (R := fun a b : Nat => a < b) (fun {a b} h => ?_) ((List.pairwise_lt_range' (s := 2) (n := top - 1) (step := 1)).sublist List.filter_sublist)
  show (a : Int) < (b : Int)
  omega
theorem prs_len (top : Nat) : (prs top).length ≤ top := by
  unfold prs
  rw [List.length_map]
  refine Nat.le_trans (List.length_filter_le _ _) ?_
  rw [List.length_range']
  omega
theorem prs_div {top : Nat} : ∀ d : Nat, 2 ≤ d → d ≤ top → ∃ x : Nat, (x : Int) ∈ prs top ∧ x ≤ d ∧ x ∣ d := by
  intro d
  induction d using Nat.strongRecOn with
  | ind d ih =>
    intro h1 h2
    by_cases h : pk (top + 1) d = true
    · exact ⟨d, mem_prs.mpr ⟨d, rfl, h1, h2, h⟩, Nat.le_refl _, Nat.dvd_refl _⟩
    · have : ∃ c, 2 ≤ c ∧ c * c ≤ d ∧ c ∣ d := by
        apply Classical.byContradiction
        intro z
        apply h
        rw [pk_iff]
        intro c c1 c2 c3 c4
        exact z ⟨c, c1, c3, c4⟩
      obtain ⟨c, c1, c2, c3⟩ := this
      have c4 : 2 * c ≤ c * c := Nat.mul_le_mul_right c c1
      obtain ⟨x, x1, x2, x3⟩ := ih c (by omega) c1 (by omega)
      exact ⟨x, x1, by omega, Nat.dvd_trans x3 c3⟩
theorem rough_of {top : Nat} {m p : Int} {i : Nat} (h : ∀ x ∈ (prs top).take i, ¬ x ∣ m) (hp : (prs top)[i]? = some p) : Rough m p := by
  intro d h1 h2 h3
  have hm : p ∈ prs top := List.mem_of_getElem? hp
  obtain ⟨j, ej, j1, j2, j3⟩ := mem_prs.mp hm
  obtain ⟨x, x1, x2, x3⟩ := prs_div d.toNat (by omega) (by omega : d.toNat ≤ top)
  have x4 : (x : Int) ∣ d := by
    have := Int.natCast_dvd_natCast.mpr x3
    rwa [Int.toNat_of_nonneg (by omega)] at this
  refine h x ?_ (Int.dvd_trans x4 h3)
  obtain ⟨l, hl⟩ := List.getElem?_of_mem x1
  obtain ⟨l1, l2⟩ := List.getElem?_eq_some_iff.mp hl
  obtain ⟨i1, i2⟩ := List.getElem?_eq_some_iff.mp hp
  have hli : l < i := by
    apply Nat.lt_of_not_ge
    intro z
    rcases Nat.lt_or_eq_of_le z with y | y
    · have := (List.pairwise_iff_getElem.mp (prs_sorted top)) i l i1 l1 y
      omega
    · subst y
      omega
  refine List.mem_iff_getElem?.mpr ⟨l, ?_⟩
  rw [List.getElem?_take_of_lt hli]
  exact hl
theorem rough_end {top : Nat} {m : Int} (h : ∀ x ∈ prs top, ¬ x ∣ m) : Rough m (top + 1) := by
  intro d h1 h2 h3
  obtain ⟨x, x1, x2, x3⟩ := prs_div d.toNat (by omega) (by omega : d.toNat ≤ top)
  have x4 : (x : Int) ∣ d := by
    have := Int.natCast_dvd_natCast.mpr x3
    rwa [Int.toNat_of_nonneg (by omega)] at this
  exact h x x1 (Int.dvd_trans x4 h3)
/-! ### powers by rests -/
theorem emod_pow (a m : Int) : ∀ k : Nat, (a % m) ^ k % m = a ^ k % m
  | 0 => by rw [Int.pow_zero, Int.pow_zero]
  | k + 1 => by rw [Int.pow_succ, Int.pow_succ, Int.mul_emod, emod_pow a m k, Int.emod_emod_of_dvd _ (Int.dvd_refl m), ← Int.mul_emod]
theorem mul_pow_mod (t b m : Int) (k : Nat) : t * (b % m) ^ k % m = t * b ^ k % m := by
  rw [Int.mul_emod, emod_pow, ← Int.mul_emod]
theorem mod_mul_mod (t x m : Int) : t % m * x % m = t * x % m := by
  rw [Int.mul_emod, Int.emod_emod_of_dvd _ (Int.dvd_refl m), ← Int.mul_emod]
theorem pow_sq (b : Int) : ∀ k : Nat, (b * b) ^ k = b ^ (2 * k)
  | 0 => by rw [Nat.mul_zero, Int.pow_zero, Int.pow_zero]
  | k + 1 => by
    rw [Int.pow_succ, pow_sq b k, show 2 * (k + 1) = 2 * k + 1 + 1 by omega, Int.pow_succ, Int.pow_succ, Int.mul_assoc]
theorem step_odd {t b m e : Int} (h : e % 2 = 1) (he : 0 ≤ e) : t * b % m * (b * b % m) ^ (e / 2).toNat % m = t * b ^ e.toNat % m := by
  rw [mul_pow_mod, mod_mul_mod, pow_sq]
  have : e.toNat = 2 * (e / 2).toNat + 1 := by omega
  rw [this, Int.pow_succ, Int.mul_comm (b ^ _) b, ← Int.mul_assoc]
theorem step_even {t b m e : Int} (h : ¬ e % 2 = 1) (he : 0 ≤ e) : t * (b * b % m) ^ (e / 2).toNat % m = t * b ^ e.toNat % m := by
  rw [mul_pow_mod, pow_sq]
  have : e.toNat = 2 * (e / 2).toNat := by omega
  rw [← this]
abbrev s_power_rest : Stmt := top 11
abbrev N_power_rest : List Str := ["number", "power", "by", "told"]
abbrev P_power_rest : List Str := ["number", "power", "by"]
theorem sc_power_rest : FnScope N_power_rest P_power_rest (defScope s_power_rest) := ⟨rfl, rfl, rfl, by decide +kernel, rfl, by decide +kernel, by decide +kernel⟩
def spPow : Sp := fun vs H Q _ => ∃ (b e m : Int), vs = [.int b, .int e, .int m] ∧ 0 ≤ e ∧ 1 ≤ m ∧ m ≤ 1000000 ∧ Q (.int (b ^ e.toNat % m)) H
section
variable {P : Program} {w : World} {K : PySem.W.Frag} {mg : Str → Option Value} {base : Heap}
theorem ok_power {f : Addr} {fd : FuncData} {k : Nat} (F : Fun K "power_rest" "power_rest" s_power_rest f fd) : FnOk P w K mg base CX0 (k + 1) f fd P_power_rest spPow := by
  have nd := sc_power_rest.nd
  refine F.ok sc_power_rest (fun vs H Q E h => ?_) (fun cdv A outer s H vs Q E hr h => ?_)
  · obtain ⟨b, e, m, rfl, _⟩ := h
    rfl
  · obtain ⟨b, e, m, rfl, he, hm1, hm2, q⟩ := h
    refine ⟨_, (pss_cons (ps_set (i := 3) nd rfl (Or.inl rfl) (pe_op op_mod (pe_int) (pv 2)))
      (pss_cons (ps_set (i := 0) nd rfl (Or.inl rfl) (pe_op op_mod (pv 0) (pv 2)))
      (pss_cons (ps_while PassesOwn.never (pt_cmpR op_gt (pv 1) (pe_int) (nomark _))
      (pss_cons (ps_if (pt_cmpR op_eq (pe_op op_mod (pv 1) (pe_int)) (pe_int) (nomark _)) (pss_one (ps_set (i := 3) nd rfl (Or.inl rfl) (pe_op op_mod (pe_op op_mul (pv 3) (pv 0)) (pv 2)))) pss_nil)
      (pss_cons (ps_set (i := 0) nd rfl (Or.inl rfl) (pe_op op_mod (pe_op op_mul (pv 0) (pv 0)) (pv 2)))
      (pss_one (ps_aug (i := 1) nd rfl (Or.inl rfl) (pe_int) iop_fdivW)))))
      (pss_one (ps_ret (pv 3)))))), ?_⟩
    walk_at "ev"
    have r0 : ∀ x : Int, 0 ≤ x % m ∧ x % m < m := fun x => ⟨Int.emod_nonneg _ (by omega), Int.emod_lt_of_pos _ (by omega)⟩
    refine ⟨fun z σ H' => H' = H ∧ ∃ (x p t : Int), σ = [some (.int x), some (.int p), some (.int m), some (.int t)] ∧ z = p.toNat ∧ 0 ≤ p ∧ 0 ≤ t ∧ t < m ∧ 0 ≤ x ∧ x < m ∧ t * x ^ p.toNat % m = b ^ e.toNat % m, ⟨_, rfl, b % m, e, 1 % m, rfl, rfl, he, (r0 _).1, (r0 _).2, (r0 _).1, (r0 _).2, ?_⟩, ?_⟩
    · rw [mod_mul_mod, mul_pow_mod, Int.one_mul]
    · rintro z σ H' ⟨rfl, x, p, t, rfl, rfl, p0, t0, t1, x0, x1, inv⟩
      have cm1 : CMul t x := .inl ⟨by omega, by omega⟩
      have cm2 : CMul x x := .inl ⟨by omega, by omega⟩
      walk_at "ev"
      refine ite2 (fun c => ?_) (fun c => ?_)
      · have c1 : 0 < p := of_decide_eq_true c
        refine ⟨_, holdN, ?_⟩
        walk_at "ev"
        refine ite2 (fun d => ?_) (fun d => ?_)
        · have d1 : p % 2 = 1 := V.int.inj (of_decide_eq_true d)
          walk_at "ev"
          exact .mk ⟨(p / 2).toNat, by omega, rfl, x * x % m, p / 2, t * x % m, rfl, rfl, by omega, (r0 _).1, (r0 _).2, (r0 _).1, (r0 _).2, by rw [step_odd d1 p0]; exact inv⟩
        · have d1 : ¬ p % 2 = 1 := fun z => d (decide_eq_true (congrArg V.int z))
          walk_at "ev"
          exact .mk ⟨(p / 2).toNat, by omega, rfl, x * x % m, p / 2, t, rfl, rfl, by omega, t0, t1, (r0 _).1, (r0 _).2, by rw [step_even d1 p0]; exact inv⟩
      · have c1 : p = 0 := by
          have : ¬ 0 < p := fun z => c (decide_eq_true z)
          omega
        subst c1
        walk_at "ev"
        have et : t = b ^ e.toNat % m := by
          rw [← inv]
          show t = t * x ^ (0 : Nat) % m
          rw [Int.pow_zero, Int.mul_one, Int.emod_eq_of_lt t0 t1]
        rw [et]
        exact q
end
abbrev s_generator : Stmt := top 12
abbrev N_generator : List Str := ["prime", "early", "number", "factor", "power"]
abbrev P_generator : List Str := ["prime"]
theorem sc_generator : FnScope N_generator P_generator (defScope s_generator) := ⟨rfl, rfl, rfl, by decide +kernel, rfl, by decide +kernel, by decide +kernel⟩
/-- the exponents at which powers may come round too early -/
def erl (p : Int) (fs : List Int) : List Int := fs.map fun f => (p - 1) / f
def GenOk (p g : Int) (es : List Int) : Prop := ∀ e ∈ es, ¬ g ^ e.toNat % p = 1
def LeastGen (p g : Int) (es : List Int) : Prop := 1 ≤ g ∧ g < p ∧ GenOk p g es ∧ ∀ x, 1 ≤ x → x < g → ¬ GenOk p x es
def spGen : Sp := fun vs H Q _ => ∃ (p g0 : Int) (fs out : List Int), vs = [.int p] ∧ 2 ≤ p ∧ p ≤ 1000000 ∧ Fac (p - 1) fs ∧ out.Pairwise (· < ·) ∧ (∀ k, k ∈ out ↔ k ∈ fs) ∧ 1 ≤ g0 ∧ g0 < p ∧ GenOk p g0 (erl p out) ∧ ∀ g H', Same H H' → LeastGen p g (erl p out) → Q (.int g) H'
section
variable {P : Program} {w : World} {K : PySem.W.Frag} {mg : Str → Option Value} {base : Heap}
theorem ok_generator {f f1 f2 : Addr} {fd d1 d2 : FuncData} {k : Nat} (F : Fun K "generator" "generator" s_generator f fd) (T : Blt mg) (D_factors : Df K mg "factors" s_factors P_factors f1 d1) (D_power_rest : Df K mg "power_rest" s_power_rest P_power_rest f2 d2) : FnOk P w K mg base CX0 (k + 2) f fd P_generator spGen := by
  have G_factors : FnOk P w K mg base CX0 (k + 1) f1 d1 P_factors spFactors := ok_factors D_factors.F
  have G_power_rest : FnOk P w K mg base CX0 (k + 1) f2 d2 P_power_rest spPow := ok_power D_power_rest.F
  have nd := sc_generator.nd
  refine F.ok sc_generator (fun vs H Q E h => ?_) (fun cdv A outer s H vs Q E hr h => ?_)
  · obtain ⟨p, g0, fs, out, rfl, _⟩ := h
    rfl
  · obtain ⟨p, g0, fs, out, rfl, p2, p6, hfac, hso, hmo, g1, gp, hg0, q⟩ := h
    refine ⟨_, (pss_cons (ps_setLc (i := 1) (own := [("factor", 3)]) (g := gName 3) (by rfl) nd rfl rfl (sw_true rfl rfl rfl (by decide +kernel)) (pi_list (pe_sortSet (by rfl) T.b_sorted (by rfl) T.b_set (pe_call G_factors (hr.mono (by omega)) (by rfl) D_factors.g D_factors.F.kp D_factors.b .nil pass0 (pa_cons (pe_op op_sub (pv 0) (pe_int)) pa_nil)))) (blkOk_by (own := [("factor", 3)]) (N := N_generator) (sc := defScope s_generator) (by decide +kernel)) (fun _ _ _ _ _ => (pg_name (i := 3) nd rfl (Or.inl rfl))) (fun _ _ _ _ _ => pts_nil) (fun _ _ _ _ _ => (pe_op op_fdiv (pe_op op_sub (pv 0) (pe_int)) (pv 3))))
      (pss_cons (ps_set (i := 2) nd rfl (Or.inr rfl) (pe_int))
      (pss_cons (ps_while PassesOwn.never (pt_val (pe_callB (r := rAny K) (cr_any rfl) (by rfl) T.b_any (by decide +kernel) (pa_cons (pe_lc (own := [("power", 4)]) (g := gName 4) (by rfl) nd (pi_list (pv 1)) (blkOk_by (own := [("power", 4)]) (N := N_generator) (sc := defScope s_generator) (by decide +kernel)) (fun _ _ _ _ _ => (pg_name (i := 4) nd rfl (Or.inl rfl))) (fun _ _ _ _ _ => pts_nil) (fun _ _ _ _ _ => (pe_cmpR op_eq (pe_call G_power_rest (hr.mono (by omega)) (by rfl) D_power_rest.g D_power_rest.F.kp D_power_rest.b .nil pass0 (pa_cons (pv 2) (pa_cons (pv 4) (pa_cons (pv 0) pa_nil)))) (pe_int) (nomark _)))) pa_nil)))
      (pss_one (ps_aug (i := 2) nd rfl (Or.inr rfl) (pe_int) ip_add)))
      (pss_one (ps_ret (pv 2)))))), ?_⟩
    walk_at "ev"
    intro xs l H1 hf1 hl sm1 hq1
    have ex : xs = fs := hf1.uniq hfac
    subst ex
    have hxl := hfac.len (by omega)
    have hL1 : SqL K H1 l (xs.map V.int) := SqL.of hq1
    refine ⟨l, xs, rfl, hL1, by omega, ?_⟩
    intro out2 l2 hl2 hs2 hm2 ho2
    have eo : out2 = out := srt_ext hs2 hso fun k => (hm2 k).trans (hmo k).symm
    subst eo
    generalize hG2 : upd _ l2 _ = H2
    obtain ⟨sm2, hq2⟩ := newO hG2 hl2
    have hL2 : SqL K H2 l2 (out2.map V.int) := SqL.of hq2
    refine ⟨l2, rfl, ⟨_, hL2⟩, fun D hD => ?_⟩
    refine lc_list (K := K) (a := l2) (xs := out2.map V.int) (fun i H' => Hold (Same H2 H' ∧ H' D = some (.lst ((erl p (out2.take i)).map V.int)))) (.mk ⟨same_new hD, upd_same⟩) ?_ ?_ ?_
    · intro i H3 hi hP
      obtain ⟨sm3, hD3⟩ := hP.un
      exact sm3.seq hL2
    · intro i v H3 hv hP
      obtain ⟨sm3, hD3⟩ := hP.un
      rw [List.getElem?_map] at hv
      obtain ⟨x, hx, ev⟩ := Option.map_eq_some_iff.mp hv
      subst ev
      have hxm := (hmo x).mp (List.mem_of_getElem? hx)
      obtain ⟨x2, _⟩ := hfac.primes x hxm
      have hx6 : x ≤ p - 1 := hfac.le x hxm
      have hil : i < out2.length := (List.getElem?_eq_some_iff.mp hx).1
      have hsz : ((erl p (out2.take i)).map V.int).length < sizeLine := by
        unfold erl
        rw [List.length_map, List.length_map, List.length_take]
        exact szm (by omega)
      walk_at "ev"
      refine .mk ⟨same_mut sm3 hD, ?_⟩
      unfold erl
      rw [upd_same, List.take_add_one, hx, List.map_append, List.map_append]
      rfl
    · intro H3 hP
      obtain ⟨sm3, hD3⟩ := hP.un
      rw [List.length_map, List.take_length] at hD3
      have sm03 := sm1.trans (sm2.trans sm3)
      have hlE : (erl p out2).length ≤ 30 := by
        unfold erl
        rw [List.length_map]
        omega
      have he0 : ∀ e ∈ erl p out2, 0 ≤ e := by
        intro e he
        obtain ⟨x, hx, ee⟩ := List.mem_map.mp he
        obtain ⟨x2, _⟩ := hfac.primes x ((hmo x).mp hx)
        rw [← ee]
        exact Int.ediv_nonneg (by omega) (by omega)
      generalize erl p out2 = es at *
      clear hG2 hP
      have hD1 : H D = none := (sm1.trans sm2).free hD
      walk_at "ev"
      refine ⟨fun z σ H' => ∃ (x : Int) (s3 s4 : Option V), σ = [some (.int p), some (.ref D), some (.int x), s3, s4] ∧ z = (g0 - x).toNat ∧ 1 ≤ x ∧ x ≤ g0 ∧ (∀ y, 1 ≤ y → y < x → ¬ GenOk p y es) ∧ Same H3 H', ⟨_, 1, _, _, rfl, rfl, by omega, by omega, fun y a b => by omega, Same.refl _⟩, ?_⟩
      rintro z σ H4 ⟨x, s3, s4, rfl, rfl, x1, x2, hless, sm4⟩
      have hL4 : SqL K H4 D (es.map V.int) := SqL.of (sm4 _ _ hD3)
      have hL4' : ∃ xs, SqL K H4 D xs := ⟨_, hL4⟩
      walk_at "ev"
      intro D5 hD5
      refine lc_list (K := K) (a := D) (xs := es.map V.int) (fun i H' => Hold (Same H4 H' ∧ H' D5 = some (.lst (((es.take i).map fun e => decide (x ^ e.toNat % p = 1)).map V.bl)))) (.mk ⟨same_new hD5, upd_same⟩) ?_ ?_ ?_
      · intro i H5 hi hP
        obtain ⟨sm5, hq5⟩ := hP.un
        exact sm5.seq hL4
      · intro i v H5 hv hP
        obtain ⟨sm5, hq5⟩ := hP.un
        rw [List.getElem?_map] at hv
        obtain ⟨e, he, ev⟩ := Option.map_eq_some_iff.mp hv
        subst ev
        have e0 := he0 e (List.mem_of_getElem? he)
        have hil : i < es.length := (List.getElem?_eq_some_iff.mp he).1
        have hsz : (((es.take i).map fun e => decide (x ^ e.toNat % p = 1)).map V.bl).length < sizeLine := by
          rw [List.length_map, List.length_map, List.length_take]
          exact szm (by omega)
        walk_at "ev"
        refine .mk ⟨same_mut sm5 hD5, ?_⟩
        have ed : decide (V.int (x ^ e.toNat % p) = V.int 1) = decide (x ^ e.toNat % p = 1) := by
          by_cases c : x ^ e.toNat % p = 1
          · rw [decide_eq_true c, decide_eq_true (congrArg V.int c)]
          · rw [decide_eq_false c, decide_eq_false fun z => c (V.int.inj z)]
        rw [upd_same, List.take_add_one, he, List.map_append, List.map_append, ed]
        rfl
      · intro H5 hP
        obtain ⟨sm5, hq5⟩ := hP.un
        rw [List.length_map, List.take_length] at hq5
        refine ⟨D5, _, rfl, SqL.of hq5, _, rfl, ?_⟩
        refine ite2 (fun c => ?_) (fun c => ?_)
        · have bad : ¬ GenOk p x es := by
            obtain ⟨b, hb, eb⟩ := List.any_eq_true.mp c
            obtain ⟨e, he, ee⟩ := List.mem_map.mp hb
            intro ok
            refine ok e he ?_
            rw [← ee] at eb
            exact of_decide_eq_true eb
          have xne : x ≠ g0 := fun z => bad (z ▸ hg0)
          refine ⟨_, holdN, ?_⟩
          walk_at "ev"
          refine .mk ⟨(g0 - (x + 1)).toNat, by omega, x + 1, _, _, rfl, rfl, by omega, by omega, fun y a b => ?_, sm4.trans sm5⟩
          by_cases yx : y = x
          · rw [yx]; exact bad
          · exact hless y a (by omega)
        · have good : GenOk p x es := by
            intro e he z
            apply c
            rw [List.any_eq_true]
            exact ⟨true, List.mem_map.mpr ⟨e, he, decide_eq_true z⟩, rfl⟩
          walk_at "ev"
          exact q _ _ (sm03.trans (sm4.trans sm5)) ⟨x1, by omega, good, hless⟩
end
def IsPf (n : Int) (out : List Int) : Prop := out.Pairwise (· < ·) ∧ ∀ k, k ∈ out ↔ 2 ≤ k ∧ k ∣ n ∧ Rough k k
/-! ### what stands in a list of primes; counts to 300 -/
theorem Fac.dvds {n : Int} {xs : List Int} (h : Fac n xs) : ∀ q ∈ xs, q ∣ n := by
  induction h with
  | one => intro q hq; simp at hq
  | cons h1 h2 h3 h4 h5 ih =>
    rename_i n p q ps
    intro x hx
    rcases List.mem_cons.mp hx with e | e
    · rw [e]
      exact ⟨q, h2⟩
    · exact Int.dvd_trans (ih x e) ⟨p, by rw [h2, Int.mul_comm]⟩
theorem Fac.mem_iff {n : Int} {xs : List Int} (h : Fac n xs) : ∀ k, k ∈ xs ↔ 2 ≤ k ∧ k ∣ n ∧ Rough k k := by
  intro k
  constructor
  · intro hk
    obtain ⟨a, b⟩ := h.primes k hk
    exact ⟨a, h.dvds k hk, b⟩
  · rintro ⟨k2, kn, kr⟩
    induction h with
    | one =>
      have := Int.le_of_dvd (by decide) kn
      omega
    | cons h1 h2 h3 h4 h5 ih =>
      rename_i n p q ps
      have pr : Rough p p := fun c c1 c2 c3 => h4 c c1 c2 (Int.dvd_trans c3 ⟨q, h2⟩)
      have kn' : k ∣ q * p := by
        rw [Int.mul_comm, ← h2]
        exact kn
      rcases dv_prime (by omega) h1 pr kn' with z | ⟨e, he⟩
      · exact List.mem_cons_of_mem _ (ih z)
      · have pk : p ∣ k := ⟨e, by rw [he, Int.mul_comm]⟩
        have ple := Int.le_of_dvd (by omega) pk
        have : ¬ p < k := fun z => kr p h1 z pk
        have : k = p := by omega
        rw [this]
        exact List.mem_cons_self
theorem fac_ex : ∀ n : Nat, 1 ≤ n → ∃ xs, Fac (n : Int) xs := by
  intro n
  induction n using Nat.strongRecOn with
  | ind n ih =>
    intro h1
    by_cases n1 : n = 1
    · subst n1
      exact ⟨[], .one⟩
    · -- the least divisor
      have ex : ∃ d : Nat, 2 ≤ d ∧ d ∣ n := ⟨n, by omega, Nat.dvd_refl n⟩
      obtain ⟨d, ⟨d2, dn⟩, least⟩ : ∃ d : Nat, (2 ≤ d ∧ d ∣ n) ∧ ∀ c, c < d → ¬ (2 ≤ c ∧ c ∣ n) := by
        obtain ⟨m, hm⟩ := ex
        revert hm
        induction m using Nat.strongRecOn with
        | ind m im =>
          intro hm
          by_cases hc : ∃ c, c < m ∧ 2 ≤ c ∧ c ∣ n
          · obtain ⟨c, c1, c2⟩ := hc
            exact im c c1 c2
          · exact ⟨m, hm, fun c c1 c2 => hc ⟨_, c1, c2⟩⟩
      obtain ⟨q, hq⟩ := dn
      have q1 : 1 ≤ q := by
        apply Nat.pos_of_ne_zero
        intro z
        rw [z] at hq
        omega
      have qn : q < n := by
        have : 2 * q ≤ d * q := Nat.mul_le_mul_right q d2
        omega
      obtain ⟨xs, hx⟩ := ih q qn q1
      refine ⟨(d : Int) :: xs, .cons (by omega) (by rw [hq, Int.natCast_mul]) (by omega) ?_ hx⟩
      intro e e2 ed en
      refine least e.toNat (by omega) ⟨by omega, ?_⟩
      rw [← Int.natCast_dvd_natCast, Int.toNat_of_nonneg (by omega)]
      exact en
theorem pf_ex {n : Int} (h1 : 1 ≤ n) : ∃ fs out, Fac n fs ∧ out.Pairwise (· < ·) ∧ (∀ k, k ∈ out ↔ k ∈ fs) ∧ IsPf n out := by
  obtain ⟨fs, hf⟩ := fac_ex n.toNat (by omega)
  rw [Int.toNat_of_nonneg (by omega)] at hf
  have hs : (((List.range' 2 n.toNat : List Nat).filter (fun (k : Nat) => decide ((k : Int) ∈ fs))).map Int.ofNat).Pairwise (· < ·) := by
    rw [List.pairwise_map]
    refine List.Pairwise.imp (R := fun a b : Nat => a < b) (fun {a b} h => ?_) ((List.pairwise_lt_range' (s := 2) (n := n.toNat) (step := 1)).sublist List.filter_sublist)
    show (a : Int) < (b : Int)
    omega
  have hm : ∀ k, k ∈ ((List.range' 2 n.toNat : List Nat).filter (fun (k : Nat) => decide ((k : Int) ∈ fs))).map Int.ofNat ↔ k ∈ fs := by
    intro k
    rw [List.mem_map]
    constructor
    · rintro ⟨j, hj, e⟩
      have := of_decide_eq_true (List.mem_filter.mp hj).2
      rw [← e]
      exact this
    · intro hk
      obtain ⟨k2, kd, _⟩ := (hf.mem_iff k).mp hk
      have kn := Int.le_of_dvd (by omega) kd
      have ek : ((k.toNat : Nat) : Int) = k := Int.toNat_of_nonneg (by omega)
      refine ⟨k.toNat, List.mem_filter.mpr ⟨List.mem_range'_1.mpr ⟨by omega, by omega⟩, decide_eq_true (by rw [ek]; exact hk)⟩, ek⟩
  exact ⟨fs, _, hf, hs, hm, hs, fun k => (hm k).trans (hf.mem_iff k)⟩
/-! ### a list or a tuple -/
section
open PySem.Spec PyProof.Rows
variable {X : Cx}
def rIxQ (K : PySem.W.Frag) : R2 := fun x y H Q => ∃ p xs i v, x = .ref p ∧ y = .int i ∧ (SqL K H p xs ∨ SqT K H p xs) ∧ atI xs i = some v ∧ Q v H
theorem ix_seq : IxR X (rIxQ X.K) := by
  intro value slice pins s σ H x y v u Q I rx ry h hs
  obtain ⟨p, xs, i, z, e1, e2, hq | hq, he, q⟩ := h
  · exact ix_list value slice pins s σ H x y v u Q I rx ry ⟨p, xs, i, z, e1, e2, hq, he, q⟩ hs
  · exact ix_tup value slice pins s σ H x y v u Q I rx ry ⟨p, xs, i, z, e1, e2, hq, he, q⟩ hs
end
theorem sq_same {K : PySem.W.Frag} {H H' : Hp} {a : Addr} {xs : List V} (e : Same H H') (h : SqL K H a xs ∨ SqT K H a xs) : SqL K H' a xs ∨ SqT K H' a xs := by
  rcases h with h | h
  · exact .inl (e.seq h)
  · exact .inr (same_t e h)
/-! ### the refusals' own making -/
abbrev s_init : Stmt := inClass (top 2) 0
abbrev N_init : List Str := ["self", "what"]
theorem sc_init : FnScope N_init N_init (defScope s_init) := ⟨rfl, rfl, rfl, by decide +kernel, rfl, by decide +kernel, by decide +kernel⟩
def spInit (K : PySem.W.Frag) : Sp := fun vs H Q _ => ∃ (a C : Addr) (v : V), vs = [.ref a, v] ∧ OexC K C ∧ PySem.W.findIn K (.ref C) "what" = some none ∧ H a = some (exo a C none) ∧
  ∀ dx, H dx = none → dx ≠ a → Q .non (upd (upd H dx (exd dx [(("what" : Str), v)])) a (exo a C (some dx)))
section
variable {P : Program} {w : World} {K : PySem.W.Frag} {mg : Str → Option Value} {base : Heap}
theorem ok_init {f : Addr} {fd : FuncData} {k : Nat} (F : Fun K "__init__" "TurnError.__init__" s_init f fd) : FnOk P w K mg base CX0 (k + 1) f fd N_init (spInit K) := by
  refine F.ok sc_init (fun vs H Q E h => ?_) (fun cdv A outer s H vs Q E hr h => ?_)
  · obtain ⟨a, C, v, rfl, _⟩ := h
    rfl
  · obtain ⟨a, C, v, rfl, T, nw, ha, q⟩ := h
    refine ⟨_, pss_one (ps_ost (pv 0) (pv 1)), ?_⟩
    exact ⟨_, rfl, _, rfl, a, C, rfl, T, nw, .inl ⟨ha, q⟩⟩
end
/-- C(v), made to be raised -/
theorem mk_what {K : PySem.W.Frag} {C : Addr} {v : V} {Q : XK} {H1 : Hp} (E : ExK K C) (h : ∀ d H', H1 d = none → Same H1 H' → H' d = some (.xd [(("what" : Str), v)]) → Q (.ref C) (some d) H') : ∀ a, H1 a = none → spInit K (.ref a :: ([v] ++ [])) (upd H1 a (exo a C none))
    (fun v' H2 => v' = .non ∧ ∃ (d : Addr) (fs : List (Str × V)), H2 a = some (exo a C (some d)) ∧ H2 d = some (exd d fs) ∧ H1 d = none ∧ Q (.ref C) (some d) (upd (del H2 a) d (.xd fs))) (fun _ _ _ => False) := by
  intro a ha
  refine ⟨a, C, v, rfl, E.oex, E.nw, upd_same, fun dx hd ne => ?_⟩
  rw [upd_ne ne] at hd
  refine ⟨rfl, dx, _, upd_same, ?_, hd, h dx _ hd (fun b o e => ?_) upd_same⟩
  · rw [upd_ne ne, upd_same]
  · have n1 := ne_of_none e hd
    have n2 := ne_of_none e ha
    rw [upd_ne n1, del_ne n2, upd_ne n2, upd_ne n1, upd_ne n2]
    exact e
/-- what is told of the class of a refusal, under TurnError at CT -/
structure Ref (K : PySem.W.Frag) (CT C fI : Addr) : Prop where
  ek : ExK K C
  ini : PySem.W.findIn K (.ref C) "__init__" = some (some (.ref fI))
  em : PySem.W.exmOne K (.ref C) (.ref CT) = some true
  kv : PySem.W.kitOne K (.ref C) (.type "ValueError") = some true
  kt : PySem.W.kitOne K (.ref C) (.ref CT) = some true
/-! ### divisors in common -/
theorem gcd_step {a b : Int} (ha : 0 ≤ a) (hb : 0 ≤ b) : Int.gcd b (a % b) = Int.gcd a b := by
  obtain ⟨m, rfl⟩ := Int.eq_ofNat_of_zero_le ha
  obtain ⟨n, rfl⟩ := Int.eq_ofNat_of_zero_le hb
  have e : ((m : Int) % (n : Int)).natAbs = m % n := by rw [← Int.natCast_emod]; rfl
  show Nat.gcd n ((m : Int) % (n : Int)).natAbs = Nat.gcd m n
  rw [e, Nat.gcd_comm n, ← Nat.gcd_rec, Nat.gcd_comm]
theorem emod_half {a b : Int} (hb : 0 < b) (h : b ≤ a) : 2 * (a % b) ≤ a := by
  have h1 := Int.emod_lt_of_pos a hb
  have h2 : a % b + b * (a / b) = a := Int.emod_add_mul_ediv a b
  have h3 : 1 ≤ a / b := (Int.le_ediv_iff_mul_le hb).mpr (by omega)
  have h4 : b * 1 ≤ b * (a / b) := Int.mul_le_mul_of_nonneg_left h3 (by omega)
  omega
/-- a product has the rest 1: no divisor in common -/
theorem gcd_of_inv {n x m : Int} (h : n * x % m = 1) : Int.gcd n m = 1 := by
  have h1 : ((Int.gcd n m : Nat) : Int) ∣ n * x := Int.dvd_mul_of_dvd_left (Int.gcd_dvd_left n m)
  have h2 : ((Int.gcd n m : Nat) : Int) ∣ m * (n * x / m) := Int.dvd_mul_of_dvd_left (Int.gcd_dvd_right n m)
  have h3 : n * x % m + m * (n * x / m) = n * x := Int.emod_add_mul_ediv _ _
  have h4 : ((Int.gcd n m : Nat) : Int) ∣ 1 := by
    have : (1 : Int) = n * x - m * (n * x / m) := by omega
    rw [this]
    exact Int.dvd_sub h1 h2
  have h5 := Int.le_of_dvd (by decide) h4
  have h6 : Int.gcd n m ≠ 0 := by
    intro z
    rw [z] at h4
    exact absurd (Int.zero_dvd.mp h4) (by decide)
  omega
abbrev s_is_whole : Stmt := top 6
abbrev N_is_whole : List Str := ["thing"]
abbrev P_is_whole : List Str := ["thing"]
theorem sc_is_whole : FnScope N_is_whole P_is_whole (defScope s_is_whole) := ⟨rfl, rfl, rfl, by decide +kernel, rfl, by decide +kernel, by decide +kernel⟩
def spWhole (K : PySem.W.Frag) : Sp := fun vs H Q _ => ∃ (x : V) (t : String), vs = [x] ∧ Kd K H x t ∧ Q (.bl (t == "int")) H
section
variable {P : Program} {w : World} {K : PySem.W.Frag} {mg : Str → Option Value} {base : Heap}
theorem ok_whole {f : Addr} {fd : FuncData} {k : Nat} (F : Fun K "is_whole" "is_whole" s_is_whole f fd) (T : Blt mg) : FnOk P w K mg base CX0 (k + 1) f fd P_is_whole (spWhole K) := by
  have nd := sc_is_whole.nd
  refine F.ok sc_is_whole (fun vs H Q E h => ?_) (fun cdv A outer s H vs Q E hr h => ?_)
  · obtain ⟨x, t, rfl, _⟩ := h
    rfl
  · obtain ⟨x, t, rfl, kd, q⟩ := h
    refine ⟨_, (pss_one (ps_ret (pe_and (pe_callB (r := rIsi K) call_isi (by rfl) T.b_isinstance (by decide +kernel) (pa_cons (pv 0) (pa_cons (pe_bltn (v := .ty "int") (by rfl) T.b_int (by decide +kernel) rfl) pa_nil))) (pe_one (pe_not (pe_callB (r := rIsi K) call_isi (by rfl) T.b_isinstance (by decide +kernel) (pa_cons (pv 0) (pa_cons (pe_bltn (v := .ty "bool") (by rfl) T.b_bool (by decide +kernel) rfl) pa_nil)))))))), ?_⟩
    have ty := kd.ty
    obtain ⟨k1, k2, k3, k4, k5⟩ := kd.kit
    walk_at "ev"
    cases kd
    all_goals (walk_at "ev"; exact q)
end
abbrev s_is_prime : Stmt := top 7
abbrev N_is_prime : List Str := ["thing"]
abbrev P_is_prime : List Str := ["thing"]
theorem sc_is_prime : FnScope N_is_prime P_is_prime (defScope s_is_prime) := ⟨rfl, rfl, rfl, by decide +kernel, rfl, by decide +kernel, by decide +kernel⟩
def spPrime (K : PySem.W.Frag) : Sp := fun vs H Q _ => ∃ (x : V) (t : String), vs = [x] ∧ Kd K H x t ∧ (∀ n, x = .int n → n ≤ 1000000000) ∧ ∀ b H', Same H H' → (b = true ↔ ∃ n, x = .int n ∧ Fac n [n]) → Q (.bl b) H'
section
variable {P : Program} {w : World} {K : PySem.W.Frag} {mg : Str → Option Value} {base : Heap}
theorem ok_prime {f fW fF : Addr} {fd fdW fdF : FuncData} {k : Nat} (F : Fun K "is_prime" "is_prime" s_is_prime f fd) (T : Blt mg) (D_is_whole : Df K mg "is_whole" s_is_whole P_is_whole fW fdW) (D_factors : Df K mg "factors" s_factors P_factors fF fdF) : FnOk P w K mg base CX0 (k + 2) f fd P_is_prime (spPrime K) := by
  have G_is_whole : FnOk P w K mg base CX0 (k + 1) fW fdW P_is_whole (spWhole K) := ok_whole D_is_whole.F T
  have G_factors : FnOk P w K mg base CX0 (k + 1) fF fdF P_factors spFactors := ok_factors D_factors.F
  have nd := sc_is_prime.nd
  refine F.ok sc_is_prime (fun vs H Q E h => ?_) (fun cdv A outer s H vs Q E hr h => ?_)
  · obtain ⟨x, t, rfl, _⟩ := h
    rfl
  · obtain ⟨x, t, rfl, kd, hb, q⟩ := h
    refine ⟨_, (pss_one (ps_ret (pe_and (pe_call G_is_whole (hr.mono (by omega)) (by rfl) D_is_whole.g D_is_whole.F.kp D_is_whole.b .nil pass0 (pa_cons (pv 0) pa_nil)) (pe_and (pe_cmpR op_gt (pv 0) (pe_int) (nomark _)) (pe_one (pe_cmpR (r := rEqD K) (op_eqD hr.units) (pe_call G_factors (hr.mono (by omega)) (by rfl) D_factors.g D_factors.F.kp D_factors.b .nil pass0 (pa_cons (pv 0) pa_nil)) (pe_lst (pa_cons (pv 0) pa_nil)) (nomark _))))))), ?_⟩
    walk_at "ev"
    cases kd with
    | int n =>
      have hn := hb n rfl
      walk_at "ev"
      refine ite2 (fun e => ?_) (fun e => ?_)
      · have e1 : 1 < n := of_decide_eq_true e
        walk_at "ev"
        intro xs p H' hf hp sm hp'
        walk_at "ev"
        intro p2 hp2
        generalize hG : upd _ p2 _ = H2
        obtain ⟨sm2, hp3⟩ := newO hG hp2
        refine eqd_ints (ns := xs) (ms := [n]) (SqL.of (sm2 _ _ hp')) (SqL.of hp3) ?_
        refine q _ _ (sm.trans sm2) ?_
        rw [decide_eq_true_iff]
        constructor
        · intro z
          exact ⟨n, rfl, z ▸ hf⟩
        · rintro ⟨m, z, hm⟩
          cases z
          exact hf.uniq hm
      · have e1 : ¬ 1 < n := fun z => e (decide_eq_true z)
        refine q _ _ (Same.refl _) ⟨fun z => Bool.noConfusion z, ?_⟩
        rintro ⟨m, z, hm⟩
        cases z
        have := (Rough.of_fac hm).1
        omega
    | _ =>
      walk_at "ev"
      refine q _ _ (Same.refl _) ⟨fun z => Bool.noConfusion z, ?_⟩
      rintro ⟨m, z, hm⟩
      cases z
end
abbrev s__law_pick : Stmt := top 47
abbrev N__law_pick : List Str := ["_law_box_here", "_law_things"]
abbrev P__law_pick : List Str := ["_law_box_here", "_law_things"]
theorem sc__law_pick : FnScope N__law_pick P__law_pick (defScope s__law_pick) := ⟨rfl, rfl, rfl, by decide +kernel, rfl, by decide +kernel, by decide +kernel⟩
def spPick (K : PySem.W.Frag) : Sp := fun vs H Q _ => ∃ (b a : Addr) (xs : List V) (n : Int), vs = [.ref b, .ref a] ∧ BoxAt H b n ∧ SqL K H a xs ∧ a ≠ b ∧ 0 < (xs.length : Int) ∧ (xs.length : Int) < 1048576 ∧ n < 1048576 ∧ ∀ v H', v ∈ xs → Keep b H H' → BoxAt H' b (n + 1) → Q v H'
section
variable {P : Program} {w : World} {K : PySem.W.Frag} {mg : Str → Option Value} {base : Heap}
theorem ok_pick {f fT : Addr} {fd fdT : FuncData} {k : Nat} (F : Fun K "_law_pick" "_law_pick" s__law_pick f fd) (T : Blt mg) (D__law_take : Df K mg "_law_take" s__law_take P__law_take fT fdT) : FnOk P w K mg base CX0 (k + 2) f fd P__law_pick (spPick K) := by
  have G__law_take : FnOk P w K mg base CX0 (k + 1) fT fdT P__law_take spTake := ok_take D__law_take.F
  have nd := sc__law_pick.nd
  refine F.ok sc__law_pick (fun vs H Q E h => ?_) (fun cdv A outer s H vs Q E hr h => ?_)
  · obtain ⟨b, a, xs, n, rfl, _⟩ := h
    rfl
  · obtain ⟨b, a, xs, n, rfl, hb, hL, hne, h0, h1, hn, q⟩ := h
    refine ⟨_, (pss_one (ps_ret (pe_ix (r := rIxL K) ix_list (pv 1) (pe_call G__law_take (hr.mono (by omega)) (by rfl) D__law_take.g D__law_take.F.kp D__law_take.b .nil pass0 (pa_cons (pv 0) (pa_cons (pe_callB (r := rLenQ K) call_len_seq (by rfl) T.b_len (by decide +kernel) (pa_cons (pv 1) pa_nil)) pa_nil))) (fun _ _ => rfl)))), ?_⟩
    walk_at "ev"
    intro r H' hr0 hr1 hk hb'
    obtain ⟨v, hv, hat⟩ := at_some hr0 hr1
    have hL' := hk.seq hne hL
    walk_at "ev"
    exact q _ _ hv hk hb'
end
theorem keep_fresh {b D : Addr} {H H' : Hp} {o : HO} (h : Keep b H H') (n : H D = none) : Keep b H (upd H' D o) := fun a u na e => by
  rw [upd_ne (ne_of_none e n)]
  exact h a u na e
theorem BoxAt.upd {H : Hp} {b D : Addr} {n : Int} {o : HO} (h : BoxAt H b n) (e : D ≠ b) : BoxAt (L2.upd H D o) b n := by
  obtain ⟨x, y, z, a1, a2⟩ := h
  exact ⟨x, y, z, by rw [upd_ne e.symm]; exact a1, a2⟩
theorem dpl {K : PySem.W.Frag} {H : Hp} {a : Addr} (ns : List Int) (h : SqL K H a (ns.map V.int)) : Dp K H (.ref a) (.list (ns.map PyData.int)) := .lst h (dp_ints ns)
theorem fitl (ns : List Int) (h : ns.length ≤ 4000) : Fit 1 (.list (ns.map PyData.int)) := by
  refine ⟨by rw [List.length_map]; exact h, fun e he => ?_⟩
  obtain ⟨c, _, rfl⟩ := List.mem_map.mp he
  exact True.intro
theorem fit_ni {x : Str} {a : Int} : Fit 1 (.tuple [.str x, .int a]) := by
  refine ⟨by simp, fun e he => ?_⟩
  simp only [List.mem_cons, List.not_mem_nil, or_false] at he
  rcases he with h | h <;> rw [h] <;> exact True.intro
/-! ### a loop over enumerate -/
theorem for_enumL {K : PySem.W.Frag} {a : Addr} {xs : List V} {g : TG} {tb : TS} {D : Ends} {σ : L2.St} {H : Hp} (Pv : Nat → L2.St → Hp → Prop) (h0 : Pv 0 σ H) (hq : ∀ i σ H, Pv i σ H → SqL K H a xs)
    (hs : ∀ (i : Nat) (x : V) (T : Addr) (σ : L2.St) (H : Hp), xs[i]? = some x → Pv i σ H → H T = none → g (.ref T) σ (upd H T (.tup [.int (i : Nat), x])) fun σ2 H2 => tb { D with nx := Pv (i + 1), ct := Pv (i + 1), bk := D.nx } σ2 H2) (hd : ∀ σ H, Pv xs.length σ H → D.nx σ H) :
    ∃ W : Nat → Nat → L2.St → Hp → Prop, (∃ m, W 0 m σ H) ∧ ∀ i m σ H, W i m σ H →
      ((Ite K a).stop i H ∧ D.nx σ H) ∨ ((Ite K a).go i H ∧ ∃ N : L2.St → Hp → Prop, (∀ σ' H', N σ' H' → ∃ m', m' < m ∧ W (i + 1) m' σ' H') ∧ ∀ v H', (Ite K a).yld i H v H' → g v σ H' fun σ2 H2 => tb { D with nx := N, ct := N, bk := D.nx } σ2 H2) := by
  refine ⟨fun i m σ H => m = xs.length - i ∧ i ≤ xs.length ∧ Pv i σ H, ⟨xs.length, rfl, Nat.zero_le _, h0⟩, ?_⟩
  rintro i m σ H ⟨rfl, hi, p⟩
  have q := hq i σ H p
  by_cases hlt : i < xs.length
  · refine .inr ⟨⟨xs, xs[i], q, List.getElem?_eq_getElem hlt⟩, Pv (i + 1), fun σ' H' p' => ⟨xs.length - (i + 1), by omega, rfl, hlt, p'⟩, fun v H' y => ?_⟩
    obtain ⟨T, x', rfl, hT, rfl, f1⟩ := y
    exact hs i x' T σ H (f1 xs q) p hT
  · have e : i = xs.length := by omega
    subst e
    exact .inl ⟨⟨xs, q, Nat.le_refl _⟩, hd σ H p⟩
/-! ### enumerate of a tuple -/
section
open PySem.Spec PyProof.Rows
abbrev tIt (t : Addr) : Obj := { cls := .type "tuple_iterator", data := .fields #[.ref t, .int 0 0] }
abbrev tEn (i : Addr) : Obj := { cls := .type "enumerate", data := .fields #[.none, .bool false, .ref i, rawInt 0, .none, .none] }
theorem meets_enumT (l : Addr) (items : Array Value) (n : Nat) (dct : Option Addr) (sl : Array (Option Value)) :
    Meets (Builtin.«enumerate.__new__» ⟨[.type "enumerate", .ref l], []⟩) (fun _ R s => s.heap.get? l = some { cls := .type "tuple", dict := dct, data := .seq items n, slots := sl } ∧
      R (.ok (.ret (.ref (s.heap.push (tIt l)).objs.size))) { s with heap := (s.heap.push (tIt l)).push (tEn s.heap.objs.size) }) :=
  .of_wp fun prog w A R s h => by
    obtain ⟨hp, g, d, tk, os⟩ := s
    obtain ⟨hl, h⟩ := h
    have hsub := sub_enumerate
    have hT : Heap.IsTuple (Shared.heap ⟨hp, g, d, tk, os⟩) l items := ⟨_, hl, rfl, n, rfl⟩
    have q1 : ∀ {A' : Around} {E : Value → Shared → Prop} {Q : Value → Shared → Prop}, Q (.ref hp.objs.size) ⟨hp.push (tIt l), g, d, tk, os⟩ → wpAny (model prog w) A' (pyIter (.ref l)) Q E ⟨hp, g, d, tk, os⟩ := fun q => wpAny_pyIter_tuple hT q
    wp_walk using AutoSeq1.wpAny_loadPart' hl
    refine wpAny_stack_any fun st => wpAny_pure ?_
    split
    · rename_i c _ _ _ _ _
      cases (c == Value.type "enumerate")
      · wp_walk using AutoSeq1.wpAny_loadPart' hl, q1
        exact ⟨_, rfl, h⟩
      · wp_walk using AutoSeq1.wpAny_loadPart' hl, q1
        exact ⟨_, rfl, h⟩
    · wp_walk using AutoSeq1.wpAny_loadPart' hl, q1
      exact ⟨_, rfl, h⟩
theorem call_enumT {prog : Program} {w : World} {A : Around} {E : Value → Shared → Prop} {s : Shared} {l : Addr} {items : Array Value} {Q : Value → Shared → Prop} (hL : s.heap.IsTuple l items)
    (h : ∀ h', IsEnum h' (s.heap.objs.size + 1) s.heap.objs.size 0 .none → h'.IsTupleIter s.heap.objs.size l 0 → (∀ b o, s.heap.get? b = some o → h'.get? b = some o) → Q (.ref (s.heap.objs.size + 1)) { s with heap := h' }) :
    wpAny (model prog w) A (call (.type "enumerate") [.ref l]) Q E s := by
  obtain ⟨⟨c, dct, dt, sl⟩, hl, hc, n, hd⟩ := hL
  replace hc : c = .type "tuple" := hc
  replace hd : dt = .seq items n := hd
  subst hc hd
  refine callType_new F.called_enumerate (by decide) (F.typeCall_enumerate_1 _) (F.newCall_enumerate_1 _) (fun obj => F.args_object_init_2 obj _) F.entry_enumerate_new (meets_enumT l items n dct sl) ⟨hl, ?_⟩
  have hz : (s.heap.push (tIt l)).objs.size = s.heap.objs.size + 1 := Heap.size_push ..
  show _ ∧ _
  rw [hz]
  have he : IsEnum ((s.heap.push (tIt l)).push (tEn s.heap.objs.size)) (s.heap.objs.size + 1) s.heap.objs.size 0 .none := by
    have k := Heap.get?_push_size (s.heap.push (tIt l)) (o := tEn s.heap.objs.size) rfl
    rw [hz] at k
    exact k
  exact ⟨⟨_, he, rfl⟩, h _ he ⟨_, Heap.get?_push_of_some _ (Heap.get?_push_size _ rfl), rfl, rfl⟩ fun b o x => Heap.get?_push_of_some _ (Heap.get?_push_of_some _ x)⟩
/-- the tuple at a, each item in a new pair -/
def IteT (K : PySem.W.Frag) (a : Addr) : It :=
  ⟨fun i H => ∃ (xs : List V) (x : V), SqT K H a xs ∧ xs[i]? = some x, fun i H v H' => ∃ T x, v = .ref T ∧ H T = none ∧ H' = upd H T (.tup [.int (i : Nat), x]) ∧ ∀ xs, SqT K H a xs → xs[i]? = some x, fun i H => ∃ xs : List V, SqT K H a xs ∧ xs.length = i⟩
theorem turn_enumT {P : Program} {w : World} {K : PySem.W.Frag} {elts : List Expr} {kk : Nat} {tpos : Pos} (a e it : Addr) :
    Turn P w K (.Tuple elts kk tpos) (IteT K a) [e, it] e (fun i h => (∃ old, IsEnum h e it ((i : Nat) : Int) old) ∧ h.IsTupleIter it a i ∧ e ≠ it ∧ a ≠ it ∧ a ≠ e) where
  mem := by simp
  obj := fun i h st b hb => by
    obtain ⟨⟨old, he⟩, ⟨o, ho, hc, hd⟩, _⟩ := st
    have z : b = e ∨ b = it := by simpa using hb
    rcases z with z | z
    · rw [z]
      exact ⟨_, he, fun v q => nomatch q⟩
    · rw [z]
      exact ⟨o, ho, fun v q => by rw [hd] at q; cases q⟩
  keep := fun i h h' st k => by
    obtain ⟨⟨old, he⟩, hi, hne⟩ := st
    exact ⟨⟨old, k e (by simp) _ he⟩, hi.at fun o q => k it (by simp) o q, hne⟩
  item := by
    intro X hP hw hK hc i pins s σ H E I hf st hg
    subst hP hw hK
    obtain ⟨⟨old, he⟩, hit, hne, hna, hnb⟩ := st
    obtain ⟨xs, x, hq, hx⟩ := hg
    obtain ⟨its, rv, p, hz⟩ := I.tuple hq
    obtain ⟨u, hu, ru⟩ := rv.get hx
    have hel : e < s.heap.objs.size := Heap.lt_size he
    have hil : it < s.heap.objs.size := by
      obtain ⟨_, q, _⟩ := hit
      exact Heap.lt_size q
    have hlt : i < its.toArray.size := by
      rw [List.size_toArray]
      exact (List.getElem?_eq_some_iff.mp hu).1
    have dr : Draws X.prog X.w X.A.in1 it [it, a] its.toArray.size (fun i v => its.toArray[i]? = some v) (fun i h => h.IsTupleIter it a i ∧ h.IsTuple a its.toArray) := Draws.tuple (A := X.A.in1) (I.ok.hd hc) it a hna its.toArray
    refine wpAny_pyNext_enum_itemD dr he ⟨hit, p⟩ hlt hne (by simp [hne, hnb.symm]) fun y h' tk hy ho hst hT hsz hk => ?_
    have ey : y = u := by
      have h1 : its.toArray[i]? = some u := by simpa using hu
      rw [h1] at hy
      exact (Option.some.inj hy).symm
    subst ey
    refine ⟨_, rfl, wpAny_letOwnedTupleGo_enum (s := { s with heap := h', toks := tk + 1 }) ho fun h'' he' sb => ?_⟩
    have hT2 := (sb.2 _ (Nat.ne_of_gt hel)).trans hT
    have new : ObjOk X.prog X.w (upd H s.heap.objs.size (.tup [.int (i : Nat), x])) h'' s.heap.objs.size (.tup [.int (i : Nat), x]) := ⟨by show 2 ≤ sizeLine; decide, [.int i tk, y], .cons ⟨_, rfl⟩ (.cons ru .nil), ⟨_, hT2, rfl, _, rfl⟩⟩
    have I1 : Inv X pins σ (upd H s.heap.objs.size (.tup [.int (i : Nat), x])) { s with heap := h'', toks := tk + 1 } :=
      I.turnedNew (ch := [e, it]) (fun b ob hb q => (sb.2 b (fun z => hb (by simp [z]))).trans (hk b ob (fun z => hb (by simp [z])) (fun z => hb (by simp [z])) q)) hf (Nat.le_refl _) new
    refine ⟨.ref s.heap.objs.size, _, I1, rfl, ⟨_, x, rfl, I.hok.fresh (Nat.le_refl _), rfl, fun ys hy => by rw [I.tuple_inj hy hq]; exact hx⟩, ⟨⟨y, ?_⟩, hst.1.at fun o q => (sb.2 it hne.symm).trans q, hne, hna, hnb⟩, fun b hb => ?_⟩
    · rw [show ((i + 1 : Nat) : Int) = (i : Int) + 1 by omega]
      exact he'
    · have hb' : b < s.heap.objs.size := by
        have z : b = e ∨ b = it := by simpa using hb
        rcases z with z | z <;> rw [z]
        · exact hel
        · exact hil
      rw [upd_ne (Nat.ne_of_lt hb')]
      exact (hf b hb).1
  done := by
    intro X hP hw hK hc i pins s σ H E I hf st hg
    subst hP hw hK
    obtain ⟨⟨old, he⟩, hit, hne, hna, hnb⟩ := st
    obtain ⟨xs, hq, hx⟩ := hg
    obtain ⟨its, rv, p, hz⟩ := I.tuple hq
    obtain ⟨f0, f1, f2, f3, f4, f5⟩ := hf it (by simp)
    have hl : its.toArray.size = i := by
      rw [List.size_toArray, ← rv.length]
      exact hx
    have dr : Draws X.prog X.w X.A.in1 it [it, a] its.toArray.size (fun i v => its.toArray[i]? = some v) (fun i h => h.IsTupleIter it a i ∧ h.IsTuple a its.toArray) := Draws.tuple (A := X.A.in1) (I.ok.hd hc) it a hna its.toArray
    exact wpAny_pyNext_enum_endD dr he (by rw [hl]; exact ⟨hit, p⟩) fun h' eb => ⟨rfl, I.turned (t' := s.toks) (fun b o hb q => eb b o hb q) f0 f1 f3 f4 f5⟩
  self := fun A i s Q E st h => by
    obtain ⟨⟨_, he⟩, _⟩ := st
    exact wpAny_pyIter_enum he h
def iEnumT (K : PySem.W.Frag) (ta : TA) : TI := fun σ H R => ta σ H fun vs H1 => ∃ a xs, vs = [.ref a] ∧ SqT K H1 a xs ∧ R (IteT K a) H1
theorem pi_enumT {X : Cx} {e : Expr} {ta : TA} {p pos tpos : Pos} {elts : List Expr} {kk : Nat} (hg : Gl X "enumerate") (hm : X.mg "enumerate" = none) (ha : PA X [e] ta) (hs : starEach [e] X.env = [(false, eval e X.env)] := by rfl) :
    PI X (.Tuple elts kk tpos) (.Call (.Name "enumerate" p) [e] [] pos) (iEnumT X.K ta) := by
  refine ⟨fun pins s σ H R I h => ?_⟩
  refine Call_ (ld_blt I hg hm boot_enumerate (PyProof.Rows.callWith_type1 (thn (ha.run pos pins s σ H _ I h) fun us s1 ⟨vs, H1, I1, r1, q1⟩ => ?_) hs rfl))
  obtain ⟨a, xs, ex, hq, q⟩ := q1
  subst ex
  obtain ⟨u, rfl, ru⟩ := r1.one
  cases ru
  obtain ⟨its, rv, p', hz⟩ := I1.tuple hq
  have hal : a < s1.heap.objs.size := by
    obtain ⟨o, ho, _⟩ := p'
    exact Heap.lt_size ho
  refine call_enumT p' fun h' he hit hk => wpAny_pyIter_enum he ?_
  have I2 : Inv X pins σ H1 { s1 with heap := h' } := I1.kept (t' := s1.toks) hk
  refine ⟨s1.heap.objs.size + 1, [s1.heap.objs.size + 1, s1.heap.objs.size], _, _, H1, rfl, I2, turn_enumT a (s1.heap.objs.size + 1) s1.heap.objs.size, ⟨⟨.none, he⟩, hit, Nat.succ_ne_self _, Nat.ne_of_lt hal, Nat.ne_of_lt (Nat.lt_succ_of_lt hal)⟩, fun b hb => ?_, q⟩
  have hle : s1.heap.objs.size ≤ b := by
    have z : b = s1.heap.objs.size + 1 ∨ b = s1.heap.objs.size := by simpa using hb
    rcases z with z | z <;> rw [z]
    · exact Nat.le_add_right _ _
    · exact Nat.le_refl _
  exact I1.fpOk hle (I1.hok.fresh hle)
end
theorem for_enumT {K : PySem.W.Frag} {a : Addr} {xs : List V} {g : TG} {tb : TS} {D : Ends} {σ : L2.St} {H : Hp} (Pv : Nat → L2.St → Hp → Prop) (h0 : Pv 0 σ H) (hq : ∀ i σ H, Pv i σ H → SqT K H a xs)
    (hs : ∀ (i : Nat) (x : V) (T : Addr) (σ : L2.St) (H : Hp), xs[i]? = some x → Pv i σ H → H T = none → g (.ref T) σ (upd H T (.tup [.int (i : Nat), x])) fun σ2 H2 => tb { D with nx := Pv (i + 1), ct := Pv (i + 1), bk := D.nx } σ2 H2) (hd : ∀ σ H, Pv xs.length σ H → D.nx σ H) :
    ∃ W : Nat → Nat → L2.St → Hp → Prop, (∃ m, W 0 m σ H) ∧ ∀ i m σ H, W i m σ H →
      ((IteT K a).stop i H ∧ D.nx σ H) ∨ ((IteT K a).go i H ∧ ∃ N : L2.St → Hp → Prop, (∀ σ' H', N σ' H' → ∃ m', m' < m ∧ W (i + 1) m' σ' H') ∧ ∀ v H', (IteT K a).yld i H v H' → g v σ H' fun σ2 H2 => tb { D with nx := N, ct := N, bk := D.nx } σ2 H2) := by
  refine ⟨fun i m σ H => m = xs.length - i ∧ i ≤ xs.length ∧ Pv i σ H, ⟨xs.length, rfl, Nat.zero_le _, h0⟩, ?_⟩
  rintro i m σ H ⟨rfl, hi, p⟩
  have q := hq i σ H p
  by_cases hlt : i < xs.length
  · refine .inr ⟨⟨xs, xs[i], q, List.getElem?_eq_getElem hlt⟩, Pv (i + 1), fun σ' H' p' => ⟨xs.length - (i + 1), by omega, rfl, hlt, p'⟩, fun v H' y => ?_⟩
    obtain ⟨T, x', rfl, hT, rfl, f1⟩ := y
    exact hs i x' T σ H (f1 xs q) p hT
  · have e : i = xs.length := by omega
    subst e
    exact .inl ⟨⟨xs, q, rfl⟩, hd σ H p⟩
/-! ### repr of lists and tuples in one another, whatever repr is under way around them -/
section
open PySem.Spec PyProof.Rows
/-- things with their addresses -/
inductive AT where
  | leaf (d : PyData)
  | lst (a : Addr) (l : List AT)
  | tup (a : Addr) (l : List AT)
mutual
inductive Ap (K : PySem.W.Frag) (H : Hp) : V → AT → Prop
  | non : Ap K H .non (.leaf .none)
  | bl (b : Bool) : Ap K H (.bl b) (.leaf (.bool b))
  | int (i : Int) : Ap K H (.int i) (.leaf (.int i))
  | str (x : Str) : Ap K H (.str x) (.leaf (.str x))
  | lst {a : Addr} {xs : List V} {l : List AT} : SqL K H a xs → ApAll K H xs l → Ap K H (.ref a) (.lst a l)
  | tup {a : Addr} {xs : List V} {l : List AT} : SqT K H a xs → ApAll K H xs l → Ap K H (.ref a) (.tup a l)
inductive ApAll (K : PySem.W.Frag) (H : Hp) : List V → List AT → Prop
  | nil : ApAll K H [] []
  | cons {v : V} {vs : List V} {t : AT} {l : List AT} : Ap K H v t → ApAll K H vs l → ApAll K H (v :: vs) (t :: l)
end
/-- list.__repr__'s loop over this very list is under way -/
def loopF (self : Value) : Code × Pos → Bool := fun
  | (.builtin "list.__repr__.loop" ⟨v :: _, _⟩, _) => Builtin.List.listSameRef v self
  | _ => false
theorem loopF_pos (self : Value) (c : Code) (p : Pos) : loopF self (c, p) = loopF self (c, default) := by
  unfold loopF
  split
  · next v r k q heq =>
    cases heq
    rfl
  · next h =>
    split
    · next v r k q heq =>
      cases heq
      exact absurd rfl (h v r k p)
    · rfl
theorem loopF_off (self : Value) (c : Code) (p : Pos) (h : c.isGuard = false) : loopF self (c, p) = false := by
  unfold loopF
  split
  · next v r k q heq =>
    cases heq
    simp [Code.isGuard, guardIds] at h
  · rfl
def blkL (g : List Code) (b : Addr) : Bool := g.any fun c => loopF (.ref b) (c, default)
def blkT (g : List Code) (b : Addr) : Bool := g.any fun c => tupGuardF (.ref b) (c, default)
mutual
def AT.data : AT → PyData
  | .leaf d => d
  | .lst _ l => .list (AT.dataAll l)
  | .tup _ l => .tuple (AT.dataAll l)
def AT.dataAll : List AT → List PyData
  | [] => []
  | t :: l => AT.data t :: AT.dataAll l
end
mutual
def AT.txt (g : List Code) : AT → Str
  | .leaf d => d.shown
  | .lst _ [] => "[]"
  | .lst a (t :: l) => if blkL g a then "[...]" else listText (AT.txt g t :: AT.txtAll g l)
  | .tup a l => if blkT g a then "(...)" else tupleText (AT.txtAll g l)
def AT.txtAll (g : List Code) : List AT → List Str
  | [] => []
  | t :: l => AT.txt g t :: AT.txtAll g l
end
/-! how long it may come to be -/
mutual
def AT.wid : AT → Nat
  | .leaf d => d.shown.length
  | .lst _ l => 6 + AT.widAll l
  | .tup _ l => 6 + AT.widAll l
def AT.widAll : List AT → Nat
  | [] => 0
  | t :: l => AT.wid t + 2 + AT.widAll l
end
theorem txtAll_sum (g : List Code) : ∀ (l : List AT), (∀ t ∈ l, (AT.txt g t).length ≤ AT.wid t) → ((AT.txtAll g l).map (·.length)).sum + 2 * (AT.txtAll g l).length ≤ AT.widAll l
  | [], _ => by simp [AT.txtAll, AT.widAll]
  | t :: l, h => by
    have h1 := h t List.mem_cons_self
    have h2 := txtAll_sum g l fun u hu => h u (List.mem_cons_of_mem _ hu)
    simp only [AT.txtAll, AT.widAll, List.map_cons, List.sum_cons, List.length_cons]
    omega
mutual
theorem txt_wid (g : List Code) : ∀ t : AT, (AT.txt g t).length ≤ AT.wid t
  | .leaf d => by rw [AT.txt, AT.wid]; exact Nat.le_refl _
  | .lst a [] => by
    rw [AT.txt, AT.wid]
    have : (("[]" : String) : Str).length = 2 := rfl
    omega
  | .lst a (t :: l) => by
    rw [AT.txt, AT.wid]
    split
    · have : (("[...]" : String) : Str).length = 5 := rfl
      omega
    · have h := listText_len_le (AT.txt g t :: AT.txtAll g l)
      have h2 := txtAll_sum g (t :: l) (txt_widAll g (t :: l))
      rw [AT.txtAll] at h2
      omega
  | .tup a l => by
    rw [AT.txt, AT.wid]
    split
    · have : (("(...)" : String) : Str).length = 5 := rfl
      omega
    · have h := tupleText_len_le (AT.txtAll g l)
      have h2 := txtAll_sum g l (txt_widAll g l)
      omega
theorem txt_widAll (g : List Code) : ∀ l : List AT, ∀ t ∈ l, (AT.txt g t).length ≤ AT.wid t
  | [], _, h => nomatch h
  | u :: l, t, h => by
    rcases List.mem_cons.mp h with e | h
    · rw [e]
      exact txt_wid g u
    · exact txt_widAll g l t h
end
def Agr (g0 g : List Code) (as : List Addr) : Prop := ∀ b ∈ as, blkL g b = blkL g0 b ∧ blkT g b = blkT g0 b
theorem Agr.refl (g : List Code) (as : List Addr) : Agr g g as := fun _ _ => ⟨rfl, rfl⟩
theorem ref_beq {a b : Addr} (n : a ≠ b) : (Value.ref a == Value.ref b) = false := beq_eq_false_iff_ne.mpr fun e => n (Value.ref.inj e)
theorem Agr.cons {g0 g : List Code} {as : List Addr} {a : Addr} {id : String} {rest : List Value} {kw : List (Str × Value)} (h : Agr g0 g as) (n : a ∉ as) : Agr g0 (.builtin id ⟨.ref a :: rest, kw⟩ :: g) as := by
  intro b hb
  have ne : a ≠ b := fun e => n (e ▸ hb)
  obtain ⟨h1, h2⟩ := h b hb
  constructor
  · rw [← h1]
    unfold blkL
    rw [List.any_cons]
    have : loopF (.ref b) (Code.builtin id ⟨.ref a :: rest, kw⟩, default) = false := by
      unfold loopF
      split
      · next v r k q heq =>
        cases heq
        exact listSameRef_of_ne fun e => ne (Value.ref.inj e)
      · rfl
    rw [this, Bool.false_or]
  · rw [← h2]
    unfold blkT
    rw [List.any_cons]
    have : tupGuardF (.ref b) (Code.builtin id ⟨.ref a :: rest, kw⟩, default) = false := by
      simp only [tupGuardF, ref_beq ne, Bool.false_and]
    rw [this, Bool.false_or]
end
section
open PySem.Spec PyProof.Rows
open Sem (wp)
open Builtin Builtin.List
variable {prog : Program} {w : World} {g0 : List Code}
def ReprD (prog : Program) (w : World) (g0 : List Code) (as : List Addr) (h0 : Heap) (d : Nat) (x : Value) (t : Str) : Prop :=
  ∀ (n : Nat), n + t.length ≤ sizeLine → ∀ (A : Around) (g : List Code) (E : Value → Shared → Prop) (s : Shared) (Q : Str → Shared → Prop), A.guards = some g → Agr g0 g as → A.units + d < cLine →
    (∀ b o, h0.get? b = some o → s.heap.get? b = some o) → (∀ h' tk, (∀ b o, s.heap.get? b = some o → h'.get? b = some o) → Q t { s with heap := h', toks := tk }) → wpAny (model prog w) A (pyReprUnder n x) Q E s
theorem ReprD.leaf {x : Value} {t : Str} (h : ReprIs prog w x t) (as : List Addr) (h0 : Heap) (d : Nat) : ReprD prog w g0 as h0 d x t :=
  fun n hn A _ E s Q _ _ _ _ q => h n hn A E s Q fun tk => q s.heap tk fun _ _ e => e
theorem ReprD.wide {as bs : List Addr} {h0 : Heap} {d e : Nat} {x : Value} {t : Str} (h : ReprD prog w g0 as h0 d x t) (i : ∀ b ∈ as, b ∈ bs) (l : d ≤ e) : ReprD prog w g0 bs h0 e x t :=
  fun n hn A g E s Q hg ha hu hk q => h n hn A g E s Q hg (fun b hb => ha b (i b hb)) (by omega) hk q
/-- the loop of list.__repr__ -/
theorem loopD {A : Around} {R : Result → Shared → Prop} {a P : Addr} (hne : a ≠ P) {items : Array Value} {ts : List Str} {as : List Addr} {h0 : Heap} {d n : Nat} {g : List Code} (hg : A.guards = some g) (hag : Agr g0 g as)
    (hu : A.units + (d + 1) < cLine) (hna : a ∉ as) (hPf : h0.get? P = none) (hlen : ts.length = items.size)
    (hT : ∀ (i : Nat) (x : Value), items[i]? = some x → ∃ t, ts[i]? = some t ∧ ReprD prog w g0 as h0 d x t) (hsz : n + (listText ts).length ≤ sizeLine) :
    ∀ (k i : Nat) (s : Shared) (oa : Obj) (na : Nat) (acc : Array Value) (c : Nat) (done : List (Str × Tok)), items.size - i = k → i ≤ items.size → (∀ b o, h0.get? b = some o → s.heap.get? b = some o) →
      s.heap.get? a = some oa → oa.data = .seq items na → s.heap.get? P = some { cls := .type "list", dict := none, data := .seq acc c, slots := #[] } → acc.toList = strValues done → done.map (·.1) = ts.take i →
      (∀ h' u tk, (∀ b o, b ≠ P → s.heap.get? b = some o → h'.get? b = some o) → R (.ok (.ret (.str (listText ts) u))) { s with heap := h', toks := tk }) →
      codeAny (model prog w) A (.builtin "list.__repr__.loop" ⟨[.ref a, rawInt i, .ref P, rawInt ((n + piled (ts.take i) : Nat) : Int)], []⟩) R s := by
  have hX : (listText ts).length = (textFrom 0 "[" ts).length + 1 := by
    show ((textFrom 0 "[" ts) ++ ("]" : Str)).length = _
    rw [strLen_append]
    rfl
  obtain ⟨hL1, hL2, _⟩ := textFrom_len ts 0 "["
  rw [if_neg (Nat.lt_irrefl 0)] at hL1
  have hsz1 : items.size ≤ sizeLine := by omega
  have hp3 := piled_le_listText ts
  intro k
  induction k with
  | zero =>
    intro i s oa na acc c done hk hi hk0 ha hda hP hacc hdone hR
    have hin : i = items.size := by omega
    refine codeAny_builtin F.entry_list_repr_loop ?_
    show wpAny _ _ («list.__repr__.loop» ⟨[.ref a, .int i 0, .ref P, .int ((n + piled (ts.take i) : Nat) : Int) 0], []⟩) _ _ s
    rw [repr_loop_tree]
    refine wpAny_bind (wpAny_listItems ha hda ?_)
    have e0 : items[(i : Int).toNat]? = none := by simp [hin]
    simp only [e0]
    unfold reprEnd
    refine wpAny_bind (wpAny_listItems hP rfl ?_)
    rw [hacc, repr_fold]
    refine wpAny_bind (wpAny_pure ?_)
    have e1 : done.map (·.1) = ts := by rw [hdone, hin, ← hlen, List.take_length]
    rw [e1]
    exact wpAny_bind (wpAny_mkStr (wpAny_pure (hR s.heap _ _ fun _ _ _ e => e)) (show (listText ts).length ≤ sizeLine by omega))
  | succ k ih =>
    intro i s oa na acc c done hk hi hk0 ha hda hP hacc hdone hR
    have hlt : i < items.size := by omega
    obtain ⟨t, ht, hrep⟩ := hT i items[i] (by simp [hlt])
    have hp1 := piled_take_succ ht
    have hp2 := piled_take_le ts (i + 1)
    have ht2 := hL2 t (List.mem_of_getElem? ht)
    refine codeAny_builtin F.entry_list_repr_loop ?_
    show wpAny _ _ («list.__repr__.loop» ⟨[.ref a, .int i 0, .ref P, .int ((n + piled (ts.take i) : Nat) : Int) 0], []⟩) _ _ s
    rw [repr_loop_tree]
    refine wpAny_bind (wpAny_listItems ha hda ?_)
    have e0 : items[(i : Int).toNat]? = some items[i] := by simp [hlt]
    simp only [e0]
    rw [Int.toNat_natCast]
    refine wpAny_bind (wpAny_holding (hrep (n + piled (ts.take i) + 1) (by omega) _ _ _ _ _ (guards_under_guard (isGuard_list_loop _) hg) (hag.cons (a := a) hna) (by rw [units_under_list_loop]; omega) hk0 fun h' tk hkp => ?_))
    refine wpAny_bind (wpAny_mkStr ?_ (by omega))
    refine wpAny_bind ?_
    show wpAny _ _ (updateSeq P _) _ _ _
    have hasz : acc.size ≤ sizeLine := by
      have e1 : acc.toList.length = acc.size := by simp
      have e2 : (strValues done).length = (done.map (·.1)).length := by simp [strValues]
      rw [hdone, List.length_take] at e2
      rw [hacc] at e1
      omega
    refine wpAny_updateSeq (hkp _ _ hP) rfl (wpAny_pure ⟨F.quiet_list_repr_loop _, ?_⟩) hasz
    have f1 : ((i : Int) + 1) = ((i + 1 : Nat) : Int) := by omega
    have f2 : n + piled (ts.take i) + (t.length + 2) = n + piled (ts.take (i + 1)) := by omega
    rw [f1, f2]
    have out : ∀ {b : Addr}, b ≠ P → P ≠ b := fun z e => z e.symm
    refine ih (i + 1) _ oa na (acc.push (.str t tk)) _ (done ++ [(t, tk)]) (by omega) hlt (fun b o e => (Heap.get?_update_other _ _ (out fun z => by rw [z, hPf] at e; cases e)).trans (hkp _ _ (hk0 _ _ e)))
      ((Heap.get?_update_other _ _ (out hne)).trans (hkp _ _ ha)) hda (Heap.get?_update_self _ (hkp _ _ hP) rfl) (by simp [hacc, strValues]) (by simp [List.take_add_one, ht, hdone]) fun h'' u tk' hh => ?_
    exact hR h'' u tk' fun b o hb e => hh b o hb ((Heap.get?_update_other _ _ (out hb)).trans (hkp _ _ e))
end
section
open PySem.Spec PyProof.Rows
open Sem (wp)
open Builtin Builtin.List
variable {prog : Program} {w : World} {g0 : List Code}
abbrev finE (prog : Program) (w : World) (A : Around) (R : Result → Shared → Prop) : Fin → Shared → Prop := fun f s => match f with
  | .done v => R (.ok v) s
  | .again c => c.quiet = true ∧ codeAny (model prog w) A c R s
/-- the list is being shown already -/
theorem list_way {A : Around} {g : List Code} {c : Code} {a : Addr} {o : Obj} {x : Value} {l : List Value} {m n : Nat} {s : Shared} {Q : Fin → Shared → Prop} {E : Value → Shared → Prop} (hg : A.guards = some g) (hb : blkL g a = true)
    (ha : s.heap.get? a = some o) (hd : o.data = .seq (x :: l).toArray m) (h : ∀ u tk, Q (.done (.ret (.str "[...]" u))) { s with toks := tk }) : wpOwn (model prog w) A c (listReprAt n ⟨[.ref a], []⟩) Q E s := by
  intro Γ p hc hΓ
  have k : wpAny (model prog w) (A.under c) (do rule "list.__repr__.in-itself"; retStr "[...]") Q E s :=
    wpAny_bind (wpAny_rule (wpAny_bind (wpAny_mkStr (wpAny_pure (h _ _)) (by decide +kernel))))
  have k1 := k Γ p (hc ▸ hΓ.in)
  unfold listReprAt
  simp [slotArgs, listItems, seqItems?, Sem.wp_load_of (h := ha), hd, stack]
  show wp _ Γ (if (Γ.below.any (loopF (.ref a))) = true then _ else _) _ _ p s
  rw [if_pos]
  · exact k1
  · rw [any_eq_guards (loopF_off _) (loopF_pos _), hΓ.2.2.2.1 g hg]
    exact hb
theorem list_no {g : List Code} {a : Addr} (h : blkL g a = false) (v : Value) (rest : List Value) (kw : List (Str × Value)) (hm : Code.builtin "list.__repr__.loop" ⟨v :: rest, kw⟩ ∈ g) : listSameRef v (.ref a) = false := by
  have := List.any_eq_false.mp h _ hm
  simpa [loopF] using this
theorem list_at {as : List Addr} {h0 : Heap} {d : Nat} {a : Addr} {oa : Obj} {x : Value} {l : List Value} {na : Nat} {ts : List Str} (ha : h0.get? a = some oa) (hda : oa.data = .seq (x :: l).toArray na) (hna : a ∉ as)
    (hlen : ts.length = (x :: l).toArray.size) (hT : ∀ (i : Nat) (y : Value), (x :: l).toArray[i]? = some y → ∃ t, ts[i]? = some t ∧ ReprD prog w g0 as h0 d y t) {A : Around} {g : List Code} {s : Shared} {R : Result → Shared → Prop} {n : Nat} {id : String} {rest : List Value}
    (hpl : plainId id = true) (hg : A.guards = some g) (hag : Agr g0 g (a :: as)) (hu : A.units + (d + 1) < cLine) (hk0 : ∀ b o, h0.get? b = some o → s.heap.get? b = some o)
    (hR : ∀ h' u tk, (∀ b o, s.heap.get? b = some o → h'.get? b = some o) → R (.ok (.ret (.str (if blkL g0 a then "[...]" else listText ts) u))) { s with heap := h', toks := tk })
    (hsz : blkL g0 a = false → n + (listText ts).length ≤ sizeLine) : wpOwn (model prog w) A (.builtin id ⟨.ref a :: rest, []⟩) (listReprAt n ⟨[.ref a], []⟩) (finE prog w A R) (fun e s' => R (.error e) s') s := by
  have e := (hag a List.mem_cons_self).1
  cases hB : blkL g0 a with
  | true =>
    rw [hB] at e
    simp only [hB] at hR
    exact list_way hg e (hk0 _ _ ha) hda fun u tk => hR s.heap u tk fun _ _ z => z
  | false =>
    rw [hB] at e
    simp only [hB] at hR
    have hPf : h0.get? s.heap.objs.size = none := by
      cases q : h0.get? s.heap.objs.size with
      | none => rfl
      | some o => exact absurd (Heap.lt_size (hk0 _ _ q)) (Nat.lt_irrefl _)
    refine wpOwn_of_wpAny ?_
    rw [Around.under_plainId hpl]
    refine wpAny_list_repr_head (A := A.in1) hg (list_no e) (hk0 _ _ ha) hda ?_
    refine wpAny_bind (m := newList []) (wpAny_newObj_type (wpAny_pure ⟨F.quiet_list_repr_loop _, ?_⟩))
    refine loopD (P := s.heap.objs.size) (g0 := g0) (Nat.ne_of_lt (Heap.lt_size (hk0 _ _ ha))) hg (fun b hb => hag b (List.mem_cons_of_mem _ hb)) hu hna hPf hlen hT (hsz hB) _ 0 _ oa na #[] _ [] rfl (Nat.zero_le _)
      (fun b o z => Heap.get?_push_of_some _ (hk0 _ _ z)) (Heap.get?_push_of_some _ (hk0 _ _ ha)) hda (Heap.get?_push_size _ rfl) rfl (by simp) fun h' u tk hk => ?_
    exact hR h' u tk fun b o z => hk b o (Nat.ne_of_lt (Heap.lt_size z)) (Heap.get?_push_of_some _ z)
inductive ReprDs (prog : Program) (w : World) (g0 : List Code) (as : List Addr) (h0 : Heap) (d : Nat) : List Value → List Str → Prop
  | nil : ReprDs prog w g0 as h0 d [] []
  | cons {x : Value} {t : Str} {l : List Value} {ts : List Str} : ReprD prog w g0 as h0 d x t → ReprDs prog w g0 as h0 d l ts → ReprDs prog w g0 as h0 d (x :: l) (t :: ts)
theorem ReprDs.len {as : List Addr} {h0 : Heap} {d : Nat} : ∀ {l : List Value} {ts : List Str}, ReprDs prog w g0 as h0 d l ts → ts.length = l.length
  | _, _, .nil => rfl
  | _, _, .cons _ h => by rw [List.length_cons, List.length_cons, h.len]
theorem ReprDs.item {as : List Addr} {h0 : Heap} {d : Nat} : ∀ {l : List Value} {ts : List Str}, ReprDs prog w g0 as h0 d l ts → ∀ (i : Nat) (y : Value), l[i]? = some y → ∃ t, ts[i]? = some t ∧ ReprD prog w g0 as h0 d y t
  | _, _, .nil, i, y, e => by simp at e
  | _, _, .cons hx _, 0, y, e => by
    cases Option.some.inj e
    exact ⟨_, rfl, hx⟩
  | _, _, .cons _ hl, i + 1, y, e => hl.item i y e
theorem ReprDs.wide {as bs : List Addr} {h0 : Heap} {d e : Nat} (i : ∀ b ∈ as, b ∈ bs) (l : d ≤ e) : ∀ {vs : List Value} {ts : List Str}, ReprDs prog w g0 as h0 d vs ts → ReprDs prog w g0 bs h0 e vs ts
  | _, _, .nil => .nil
  | _, _, .cons hx hl => .cons (hx.wide i l) (hl.wide i l)
theorem tup_fold {A : Around} {E : Value → Shared → Prop} {as : List Addr} {h0 : Heap} {d : Nat} {g : List Code} (hg : A.guards = some g) (hag : Agr g0 g as) (hu : A.units + d < cLine) :
    ∀ (l : List Value) (ts : List Str) (acc : Array Str) (n : Nat) (s : Shared) (Q : (Array Str × Nat) → Shared → Prop), ReprDs prog w g0 as h0 d l ts → n + piled ts ≤ sizeLine → (∀ b o, h0.get? b = some o → s.heap.get? b = some o) →
      (∀ h' tk, (∀ b o, s.heap.get? b = some o → h'.get? b = some o) → Q ⟨acc ++ ts.toArray, n + piled ts⟩ { s with heap := h', toks := tk }) → wpAny (model prog w) A (forIn l (⟨acc, n⟩ : (Array Str × Nat)) tupBody) Q E s := by
  intro l
  induction l with
  | nil =>
    intro ts acc n s Q hT _ _ q
    cases hT
    have q0 := q s.heap s.toks fun _ _ e => e
    simp only [List.forIn_nil]
    exact wpAny_pure (by simpa [piled] using q0)
  | cons x l ih =>
    intro ts acc n s Q hT hn hk0 q
    cases hT with
    | cons hx hl =>
      rename_i t ts'
      rw [piled_cons] at hn
      rw [List.forIn_cons]
      refine wpAny_bind (wpAny_bind (hx (n + 1) (by omega) _ _ _ _ _ hg hag hu hk0 fun h' tk hk1 => wpAny_pure ?_))
      refine ih ts' (acc.push t) (n + (t.length + 2)) _ Q hl (by omega) (fun b o z => hk1 _ _ (hk0 _ _ z)) fun h'' tk' hk2 => ?_
      have q1 := q h'' tk' fun b o z => hk2 _ _ (hk1 _ _ z)
      rw [show n + piled (t :: ts') = n + (t.length + 2) + piled ts' by rw [piled_cons]; omega] at q1
      simpa using q1
theorem tup_at {as : List Addr} {h0 : Heap} {d : Nat} {a : Addr} {o : Obj} {items : Array Value} {na : Nat} {ts : List Str} (ha : h0.get? a = some o) (hd : o.data = .seq items na) (hna : a ∉ as) (hT : ReprDs prog w g0 as h0 d items.toList ts)
    {A : Around} {g : List Code} {s : Shared} {R : Result → Shared → Prop} {n : Nat} {id : String} {rest : List Value} (hcg : (Code.builtin id ⟨.ref a :: rest, []⟩).isGuard = true) (hcu : (A.under (.builtin id ⟨.ref a :: rest, []⟩)).units = A.units + 1)
    (hg : A.guards = some g) (hag : Agr g0 g (a :: as)) (hu : A.units + (d + 1) < cLine) (hk0 : ∀ b o, h0.get? b = some o → s.heap.get? b = some o)
    (hR : ∀ h' u tk, (∀ b o, s.heap.get? b = some o → h'.get? b = some o) → R (.ok (.ret (.str (if blkT g0 a then "(...)" else tupleText ts) u))) { s with heap := h', toks := tk })
    (hsz : blkT g0 a = false → n + (tupleText ts).length ≤ sizeLine) : wpOwn (model prog w) A (.builtin id ⟨.ref a :: rest, []⟩) (tupleReprAt n ⟨[.ref a], []⟩) (finE prog w A R) (fun e s' => R (.error e) s') s := by
  have e := (hag a List.mem_cons_self).2
  unfold blkT at e
  have hlen : ts.length = items.size := by simpa using hT.len
  have hp := piled_le_tupleText ts
  rw [tuple_repr_tree, tupleReprUnderWay_eq]
  refine wpOwn_bind (wpOwn_stackTailAny hg (tupGuardF_off _) (tupGuardF_pos _) ?_)
  rw [e]
  show wpOwn _ _ _ (if blkT g0 a = true then _ else _) _ _ _
  refine wpOwn_of_wpAny ?_
  cases hB : blkT g0 a with
  | true =>
    simp only [hB] at hR
    refine PySem.W.KFB.if_so rfl ?_
    exact wpAny_bind (wpAny_rule (wpAny_bind (wpAny_mkStr (wpAny_pure (hR s.heap _ _ fun _ _ z => z)) (by decide +kernel))))
  | false =>
    simp only [hB] at hR
    have hz := hsz hB
    refine PySem.W.KFB.if_not rfl ?_
    unfold tupleReprRest Builtin.Tuple.tupleItemsOf
    refine wpAny_bind (wpAny_bind (wpAny_seqItems (hk0 _ _ ha) hd (wpAny_pure ?_)))
    rw [← Array.forIn_toList]
    refine wpAny_bind (tup_fold (g0 := g0) (guards_under_guard hcg hg) (Agr.cons (a := a) (fun b hb => hag b (List.mem_cons_of_mem _ hb)) hna) (by rw [hcu]; omega) _ ts _ _ _ _ hT (by omega) hk0 fun h' tk hk1 => ?_)
    refine wpAny_bind (wpAny_mkStr (wpAny_pure ?_) (by simpa [tupleText, hlen] using (show (tupleText ts).length ≤ sizeLine by omega)))
    have q := hR h' tk (tk + 1) hk1
    simpa [tupleText, hlen] using q
end
section
open PySem.Spec PyProof.Rows
open Sem (wp)
open Builtin Builtin.List
variable {prog : Program} {w : World} {g0 : List Code}
theorem ReprD.lst {as : List Addr} {h0 : Heap} {d : Nat} {a : Addr} {oa : Obj} {x : Value} {l : List Value} {na : Nat} {ts : List Str} (ha : h0.get? a = some oa) (hc : oa.cls = .type "list") (hda : oa.data = .seq (x :: l).toArray na) (hna : a ∉ as)
    (hT : ReprDs prog w g0 as h0 d (x :: l) ts) : ReprD prog w g0 (a :: as) h0 (d + 1) (.ref a) (if blkL g0 a then "[...]" else listText ts) := by
  intro n hn A g E s Q hg hag hu hk q
  have hl : ts.length = (x :: l).toArray.size := by simpa using hT.len
  refine wpAny_pyReprUnder_ref (by omega) (wpAny_pyReprObjUnder_twin (twin := "list.__repr__.under") ⟨oa, hk _ _ ha, hc⟩ F.slot_list_repr.toG rfl (by omega) ?_)
  refine call_twin_own (Code.quiet_builtin _ (by decide +kernel)) F.entry_list_repr_under F.check_list_repr_under ⟨oa, hk _ _ ha, hc⟩ F.slot_list_repr.toG (F.args_list_repr_1 _) ?_
  refine list_at (R := callEnd _ E) ha hda hna hl (fun i y e => hT.item i y (by simpa using e)) F.plain_list_repr_under hg hag hu hk (fun h' u tk hk1 => ⟨⟨_, _, rfl⟩, _, _, rfl, q h' tk hk1⟩) fun hB => ?_
  rw [hB] at hn
  exact hn
theorem ReprD.bare {as : List Addr} {h0 : Heap} {d : Nat} {a : Addr} {oa : Obj} {na : Nat} (ha : h0.get? a = some oa) (hc : oa.cls = .type "list") (hda : oa.data = .seq #[] na) : ReprD prog w g0 as h0 d (.ref a) "[]" := by
  intro n hn A g E s Q _ _ hu hk q
  exact wpAny_pyReprUnder_ref (by omega) (wpAny_pyReprObjUnder_list_empty ⟨oa, hk _ _ ha, hc⟩ (by omega) (hk _ _ ha) hda ⟨_, _, rfl, q s.heap _ fun _ _ e => e⟩)
theorem ReprD.tup {as : List Addr} {h0 : Heap} {d : Nat} {a : Addr} {oa : Obj} {items : Array Value} {na : Nat} {ts : List Str} (ha : h0.get? a = some oa) (hc : oa.cls = .type "tuple") (hda : oa.data = .seq items na) (hna : a ∉ as)
    (hT : ReprDs prog w g0 as h0 d items.toList ts) : ReprD prog w g0 (a :: as) h0 (d + 1) (.ref a) (if blkT g0 a then "(...)" else tupleText ts) := by
  intro n hn A g E s Q hg hag hu hk q
  refine wpAny_pyReprUnder_ref (by omega) (wpAny_pyReprObjUnder_twin (twin := "tuple.__repr__.under") ⟨oa, hk _ _ ha, hc⟩ F.slot_tuple_repr rfl (by omega) ?_)
  refine call_twin_own (F.quiet_tuple_repr_under _) F.entry_tuple_repr_under F.check_tuple_repr_under ⟨oa, hk _ _ ha, hc⟩ F.slot_tuple_repr (F.args_tuple_repr_1 _) ?_
  refine tup_at (R := callEnd _ E) ha hda hna hT (isGuard_tuple_repr_under _) (units_under_tuple_repr_under _ _) hg hag hu hk (fun h' u tk hk1 => ⟨⟨_, _, rfl⟩, _, _, rfl, q h' tk hk1⟩) fun hB => ?_
  rw [hB] at hn
  exact hn
mutual
theorem Ap.dp {K : PySem.W.Frag} {H : Hp} : ∀ {v : V} {t : AT}, Ap K H v t → Dp K H v t.data
  | _, _, .non => .non
  | _, _, .bl b => .bl b
  | _, _, .int i => .int i
  | _, _, .str x => .str x
  | _, _, .lst h a => by rw [AT.data]; exact .lst h a.dp
  | _, _, .tup h a => by rw [AT.data]; exact .tup h a.dp
theorem ApAll.dp {K : PySem.W.Frag} {H : Hp} : ∀ {vs : List V} {l : List AT}, ApAll K H vs l → DpAll K H vs (AT.dataAll l)
  | _, _, .nil => by rw [AT.dataAll]; exact .nil
  | _, _, .cons h a => by rw [AT.dataAll]; exact .cons h.dp a.dp
end
mutual
theorem Ap.same {K : PySem.W.Frag} {H H' : Hp} (e : Same H H') : ∀ {v : V} {t : AT}, Ap K H v t → Ap K H' v t
  | _, _, .non => .non
  | _, _, .bl b => .bl b
  | _, _, .int i => .int i
  | _, _, .str x => .str x
  | _, _, .lst h a => .lst (e.seq h) (ApAll.same e a)
  | _, _, .tup h a => .tup (same_t e h) (ApAll.same e a)
theorem ApAll.same {K : PySem.W.Frag} {H H' : Hp} (e : Same H H') : ∀ {vs : List V} {l : List AT}, ApAll K H vs l → ApAll K H' vs l
  | _, _, .nil => .nil
  | _, _, .cons h a => .cons (Ap.same e h) (ApAll.same e a)
end
section
variable {X : Cx} {pins : List (Addr × Obj)} {σ : L2.St} {H : Hp} {s : Shared}
mutual
theorem repr_of (I : Inv X pins σ H s) : ∀ (t : AT) (v : V) (u : Value), Ap X.K H v t → RelV v u → t.data.showable = true → t.wid ≤ sizeLine → ∃ bs, ReadAtMost s.heap t.data.depth bs ∧ ReprD X.prog X.w g0 bs s.heap t.data.depth u (t.txt g0)
  | .leaf d, v, u, h, r, hs, hw => by
    refine ⟨[], (fun _ z => nomatch z), ?_⟩
    rw [AT.txt]
    rw [AT.wid] at hw
    cases h with
    | non =>
      cases r
      exact .leaf ReprIs.none _ _ _
    | bl b =>
      cases r
      exact .leaf (ReprIs.bool b) _ _ _
    | int i =>
      obtain ⟨k, rfl⟩ := r
      exact .leaf (ReprIs.int k (by simpa [AT.data, PyData.showable] using hs)) _ _ _
    | str x =>
      obtain ⟨k, rfl⟩ := r
      exact .leaf (ReprIs.str x k (by simpa only [PyData.shown] using hw)) _ _ _
  | .lst a [], v, u, h, r, hs, hw => by
    cases h with
    | lst hq ha =>
      cases ha
      cases r
      obtain ⟨its, rv, ⟨o, n, ho, hc, _, hd⟩, _⟩ := I.list hq
      cases rv
      rw [AT.txt]
      exact ⟨[], (fun _ z => nomatch z), ReprD.bare ho hc hd⟩
  | .lst a (t :: l), v, u, h, r, hs, hw => by
    obtain ⟨as, hR⟩ := Dp.reads I _ v u h.dp r
    cases h with
    | lst hq ha =>
      cases r
      obtain ⟨its, rv, ⟨o, n, ho, hc, _, hd⟩, _⟩ := I.list hq
      rw [AT.data, PyData.showable] at hs
      rw [AT.wid] at hw
      obtain ⟨bs, hb, hk⟩ := repr_ofAll I (t :: l) _ its ha rv hs (by omega)
      rw [AT.data] at hR
      have hna : a ∉ bs := not_mem_of_deeper hR (by simp only [PyData.depth]; omega) hb
      refine ⟨a :: bs, ?_, ?_⟩
      · rw [AT.data]
        exact ReadAtMost.cons hR (by simp only [PyData.depth]; omega) hb
      · rw [AT.txt, AT.data, PyData.depth]
        cases ha with
        | cons h1 h2 =>
          cases rv with
          | cons r1 r2 =>
            rw [AT.txtAll] at hk
            exact .lst ho hc hd hna hk
  | .tup a l, v, u, h, r, hs, hw => by
    obtain ⟨as, hR⟩ := Dp.reads I _ v u h.dp r
    cases h with
    | tup hq ha =>
      cases r
      obtain ⟨its, rv, ⟨o, ho, hc, n, hd⟩, _⟩ := I.tuple hq
      rw [AT.data, PyData.showable] at hs
      rw [AT.wid] at hw
      obtain ⟨bs, hb, hk⟩ := repr_ofAll I l _ its ha rv hs (by omega)
      rw [AT.data] at hR
      have hna : a ∉ bs := not_mem_of_deeper hR (by simp only [PyData.depth]; omega) hb
      refine ⟨a :: bs, ?_, ?_⟩
      · rw [AT.data]
        exact ReadAtMost.cons hR (by simp only [PyData.depth]; omega) hb
      · rw [AT.txt, AT.data, PyData.depth]
        exact .tup ho hc hd hna (by simpa using hk)
theorem repr_ofAll (I : Inv X pins σ H s) : ∀ (l : List AT) (vs : List V) (us : List Value), ApAll X.K H vs l → Vals vs us → PyData.showableAll (AT.dataAll l) = true → AT.widAll l ≤ sizeLine → ∃ bs, ReadAtMost s.heap (PyData.depthAll (AT.dataAll l)) bs ∧ ReprDs X.prog X.w g0 bs s.heap (PyData.depthAll (AT.dataAll l)) us (AT.txtAll g0 l)
  | [], _, _, h, r, _, _ => by
    cases h
    cases r
    exact ⟨[], (fun _ z => nomatch z), by rw [AT.txtAll]; exact .nil⟩
  | t :: l, _, _, h, r, hs, hw => by
    cases h with
    | cons h1 h2 =>
      cases r with
      | cons r1 r2 =>
        have hs' : t.data.showable = true ∧ PyData.showableAll (AT.dataAll l) = true := by simpa [AT.dataAll, PyData.showableAll] using hs
        rw [AT.widAll] at hw
        obtain ⟨b1, k1, m1⟩ := repr_of I t _ _ h1 r1 hs'.1 (by omega)
        obtain ⟨b2, k2, m2⟩ := repr_ofAll I l _ _ h2 r2 hs'.2 (by omega)
        rw [AT.dataAll, AT.txtAll, PyData.depthAll]
        exact ⟨b1 ++ b2, (k1.mono (Nat.le_max_left _ _)).append (k2.mono (Nat.le_max_right _ _)), .cons (m1.wide (fun b hb => List.mem_append_left _ hb) (Nat.le_max_left _ _)) (m2.wide (fun b hb => List.mem_append_right _ hb) (Nat.le_max_right _ _))⟩
end
end
end
section
open PySem.Spec PyProof.Rows
variable {X : Cx}
def gdX (X : Cx) (g : List Code) : Cx := { X with A := { X.A with guards := some g } }
theorem gd_inv {pins : List (Addr × Obj)} {σ : L2.St} {H : Hp} {s : Shared} {g : List Code} (I : Inv X pins σ H s) : Inv (gdX X g) pins σ H s :=
  ⟨⟨I.ok.mod, I.ok.kind, I.ok.glob, I.ok.blt, I.ok.above, I.ok.inj, I.ok.has, I.ok.cab, I.ok.hd, I.ok.frames, I.ok.stk, I.ok.exf, I.ok.bs, I.ok.bsz, I.ok.noex, I.ok.exfs, I.ok.funs, I.ok.frf⟩, I.os, I.bare, I.base, I.loc, I.cell, I.free, I.freeC, I.pin, I.hok, I.len⟩
theorem ungd_inv {pins : List (Addr × Obj)} {σ : L2.St} {H : Hp} {s : Shared} {g : List Code} (I : Inv (gdX X g) pins σ H s) : Inv X pins σ H s :=
  ⟨⟨I.ok.mod, I.ok.kind, I.ok.glob, I.ok.blt, I.ok.above, I.ok.inj, I.ok.has, I.ok.cab, I.ok.hd, I.ok.frames, I.ok.stk, I.ok.exf, I.ok.bs, I.ok.bsz, I.ok.noex, I.ok.exfs, I.ok.funs, I.ok.frf⟩, I.os, I.bare, I.base, I.loc, I.cell, I.free, I.freeC, I.pin, I.hok, I.len⟩
theorem gd_in {Γ : PySem.Ctx} {A : Around} (h : Γ.In A) : Γ.In { A with guards := some (Γ.code.guards ++ guardsOf Γ.below) } :=
  ⟨h.1, h.2.1, h.2.2.1, fun g hg => Option.some.inj hg, h.2.2.2.2⟩
theorem gd_room {k : Nat} {g : List Code} {A : Around} (h : Room k A) : Room k { A with guards := some g } := ⟨h.hd, h.dp, h.un⟩
/-- a block, for each list of what is being shown around it -/
theorem pss_gd {b : List Stmt} {t : List Code → TS} (h : ∀ g, PSs (gdX X g) b (t g)) : PSs X b (fun D σ H => ∀ g, t g D σ H) := by
  refine ⟨fun pins s σ H D I q Γ p hΓ => ?_⟩
  have k := (h (Γ.code.guards ++ guardsOf Γ.below)).run pins s σ H D (gd_inv I) (q _)
  refine (wpAny_mono k (fun f s' z => ?_) fun e s' z => z) Γ p (gd_in hΓ)
  cases f with
  | next =>
    obtain ⟨σ', H', J, z⟩ := z
    exact ⟨σ', H', ungd_inv J, z⟩
  | brk =>
    obtain ⟨σ', H', J, z⟩ := z
    exact ⟨σ', H', ungd_inv J, z⟩
  | cont =>
    obtain ⟨σ', H', J, z⟩ := z
    exact ⟨σ', H', ungd_inv J, z⟩
  | ret u =>
    obtain ⟨v, σ', H', J, r, z⟩ := z
    exact ⟨v, σ', H', ungd_inv J, r, z⟩
def rRepr (K : PySem.W.Frag) (g : List Code) : List V → Hp → VK → Prop := fun xs H Q => ∃ (v : V) (t : AT), xs = [v] ∧ Ap K H v t ∧ t.data.showable = true ∧ t.wid ≤ sizeLine ∧ t.data.depth ≤ 40 ∧ Q (.str (t.txt g)) H
theorem call_reprA {g : List Code} (hg : X.A.guards = some g) (hu : X.A.units + 64 < cLine) : CallR X (.builtin "repr") (rRepr X.K g) := by
  intro pins s σ H xs us Q I r h
  obtain ⟨v, t, rfl, ha, hs, hw, hd, q⟩ := h
  obtain ⟨u, rfl, ru⟩ := r.one
  have fin : ∀ (h' : Heap) (k tk : Tok), (∀ b o, s.heap.get? b = some o → h'.get? b = some o) → EP X pins σ Q (.str (t.txt g) k) { s with heap := h', toks := tk } := fun h' k tk hk => ⟨.str _, H, I.kept hk, ⟨_, rfl⟩, q⟩
  have fin0 : EP X pins σ Q (.str (t.txt g) s.toks) { s with toks := s.toks + 1 } := fin s.heap _ _ fun _ _ e => e
  cases t with
  | leaf d =>
    rw [AT.txt] at fin0
    rw [AT.wid] at hw
    cases ha with
    | non =>
      cases ru
      exact PySem.P.repr_of_none fin0
    | bl b =>
      cases ru
      exact PySem.P.repr_of_bool fin0
    | int i =>
      obtain ⟨k, rfl⟩ := ru
      exact PySem.P.repr_of_int (by simpa [AT.data, PyData.showable] using hs) fin0
    | str x =>
      obtain ⟨k, rfl⟩ := ru
      exact PySem.P.repr_of_str fin0 (by simpa only [PyData.shown] using hw)
  | lst a l =>
    have ha0 := ha
    obtain ⟨as, hR⟩ := Dp.reads I _ v u ha.dp ru
    cases ha with
    | lst hq hl =>
      cases ru
      obtain ⟨its, rv, ⟨o, n, ho, hc, _, hdt⟩, _⟩ := I.list hq
      refine call_repr_slot (by omega) ⟨o, ho, hc⟩ F.slot_list_repr.toG ?_
      cases l with
      | nil =>
        cases hl
        cases rv
        rw [AT.txt] at fin
        exact call_list_repr_empty ⟨o, ho, hc⟩ ho hdt ⟨_, _, rfl, fin s.heap _ _ fun _ _ e => e⟩
      | cons t l =>
        rw [AT.data, PyData.showable] at hs
        rw [AT.wid] at hw
        rw [AT.data, PyData.depth] at hd
        obtain ⟨bs, hb, hk⟩ := repr_ofAll (g0 := g) I (t :: l) _ its hl rv hs (by omega)
        rw [AT.data] at hR
        have hna : a ∉ bs := not_mem_of_deeper hR (by simp only [PyData.depth]; omega) hb
        cases hl with
        | cons h1 h2 =>
          cases rv with
          | cons r1 r2 =>
            rw [AT.txtAll] at hk
            rw [AT.txt] at fin
            have hz := txt_wid g (AT.lst a (t :: l))
            rw [AT.txt, AT.wid] at hz
            refine wpAny_call (codeAny_call_builtin_own (Code.quiet_builtin _ (by decide +kernel)) F.entry_list_repr (F.slot_list_repr.toG.check _ _ _ _ _ _ _ _ ⟨o, ho, hc⟩ (F.args_list_repr_1 _) ?_))
            refine list_at (R := callEnd _ _) (n := 0) ho hdt hna (by simpa using hk.len) (fun i y e => hk.item i y (by simpa using e)) F.slot_list_repr.plain hg (Agr.refl _ _) (by show X.A.units + 1 + _ < _; omega) (fun _ _ e => e) (fun h' u tk hk1 => ⟨_, _, rfl, fin h' u tk hk1⟩) fun hB => ?_
            rw [hB] at hz
            have hz2 : (listText (AT.txt g t :: AT.txtAll g l)).length ≤ 6 + AT.widAll (t :: l) := hz
            omega
  | tup a l =>
    obtain ⟨as, hR⟩ := Dp.reads I _ v u ha.dp ru
    cases ha with
    | tup hq hl =>
      cases ru
      obtain ⟨its, rv, ⟨o, ho, hc, n, hdt⟩, _⟩ := I.tuple hq
      refine call_repr_slot (by omega) ⟨o, ho, hc⟩ F.slot_tuple_repr ?_
      rw [AT.data, PyData.showable] at hs
      rw [AT.wid] at hw
      rw [AT.data, PyData.depth] at hd
      obtain ⟨bs, hb, hk⟩ := repr_ofAll (g0 := g) I l _ its hl rv hs (by omega)
      rw [AT.data] at hR
      have hna : a ∉ bs := not_mem_of_deeper hR (by simp only [PyData.depth]; omega) hb
      rw [AT.txt] at fin
      have hz := txt_wid g (AT.tup a l)
      rw [AT.txt, AT.wid] at hz
      refine wpAny_call (codeAny_call_builtin_own (Code.quiet_builtin _ (by decide +kernel)) F.entry_tuple_repr (F.slot_tuple_repr.check _ _ _ _ _ _ _ _ ⟨o, ho, hc⟩ (F.args_tuple_repr_1 _) ?_))
      refine tup_at (R := callEnd _ _) (n := 0) ho hdt hna (by simpa using hk) (isGuard_tuple_repr _) (units_under_tuple_repr _ _) hg (Agr.refl _ _) (by show X.A.units + 1 + _ < _; omega) (fun _ _ e => e) (fun h' u tk hk1 => ⟨_, _, rfl, fin h' u tk hk1⟩) fun hB => ?_
      rw [hB] at hz
      have hz2 : (tupleText (AT.txtAll g l)).length ≤ 6 + AT.widAll l := hz
      omega
end
/-! ### repr, where none is under way: by what the thing is -/
mutual
def dw : PyData → Nat
  | .list xs => 6 + dwAll xs
  | .tuple xs => 6 + dwAll xs
  | d => d.shown.length
def dwAll : List PyData → Nat
  | [] => 0
  | x :: xs => dw x + 2 + dwAll xs
end
section
open PySem.Spec PyProof.Rows
mutual
theorem dp_ap {K : PySem.W.Frag} {H : Hp} : ∀ {v : V} {d : PyData}, Dp K H v d → ∃ t : AT, Ap K H v t ∧ t.data = d ∧ t.wid = dw d ∧ t.txt [] = d.shown
  | _, _, .non => ⟨.leaf .none, .non, by rw [AT.data], by rw [AT.wid, dw] <;> nofun, by rw [AT.txt]⟩
  | _, _, .bl b => ⟨.leaf (.bool b), .bl b, by rw [AT.data], by rw [AT.wid, dw] <;> nofun, by rw [AT.txt]⟩
  | _, _, .int i => ⟨.leaf (.int i), .int i, by rw [AT.data], by rw [AT.wid, dw] <;> nofun, by rw [AT.txt]⟩
  | _, _, .str x => ⟨.leaf (.str x), .str x, by rw [AT.data], by rw [AT.wid, dw] <;> nofun, by rw [AT.txt]⟩
  | _, _, .lst (a := a) h q => by
    obtain ⟨l, h1, h2, h3, h4⟩ := dp_apAll q
    refine ⟨.lst a l, .lst h h1, by rw [AT.data, h2], by rw [AT.wid, dw, h3], ?_⟩
    rw [PyData.shown, ← h4]
    cases l with
    | nil =>
      rw [AT.txt, AT.txtAll]
      exact listText_nil.symm
    | cons t l =>
      rw [AT.txt, AT.txtAll]
      rfl
  | _, _, .tup (a := a) h q => by
    obtain ⟨l, h1, h2, h3, h4⟩ := dp_apAll q
    refine ⟨.tup a l, .tup h h1, by rw [AT.data, h2], by rw [AT.wid, dw, h3], ?_⟩
    rw [PyData.shown, ← h4, AT.txt]
    rfl
theorem dp_apAll {K : PySem.W.Frag} {H : Hp} : ∀ {vs : List V} {ds : List PyData}, DpAll K H vs ds → ∃ l : List AT, ApAll K H vs l ∧ AT.dataAll l = ds ∧ AT.widAll l = dwAll ds ∧ AT.txtAll [] l = PyData.shownAll ds
  | _, _, .nil => ⟨[], .nil, by rw [AT.dataAll], by rw [AT.widAll, dwAll], by rw [AT.txtAll, PyData.shownAll]⟩
  | _, _, .cons h q => by
    obtain ⟨t, a1, a2, a3, a4⟩ := dp_ap h
    obtain ⟨l, b1, b2, b3, b4⟩ := dp_apAll q
    exact ⟨t :: l, .cons a1 b1, by rw [AT.dataAll, a2, b2], by rw [AT.widAll, dwAll, a3, b3], by rw [AT.txtAll, PyData.shownAll, a4, b4]⟩
end
structure Shn (d : PyData) : Prop where
  s : d.showable = true
  w : dw d ≤ sizeLine
  d : d.depth ≤ 40
def rRepG (K : PySem.W.Frag) : List V → Hp → VK → Prop := fun xs H Q => ∃ (v : V) (d : PyData), xs = [v] ∧ Dp K H v d ∧ Shn d ∧ Q (.str d.shown) H
theorem call_reprG {X : Cx} (hg : X.A.guards = some []) (hu : X.A.units + 64 < cLine) : CallR X (.builtin "repr") (rRepG X.K) := by
  intro pins s σ H xs us Q I r h
  obtain ⟨v, d, rfl, hd, hs, q⟩ := h
  obtain ⟨t, h1, h2, h3, h4⟩ := dp_ap hd
  refine call_reprA hg hu pins s σ H _ us Q I r ⟨v, t, rfl, h1, by rw [h2]; exact hs.s, by rw [h3]; exact hs.w, by rw [h2]; exact hs.d, ?_⟩
  rw [h4]
  exact q
end
theorem dw_ints : ∀ {ns : List Int}, (∀ x ∈ ns, -1000000 ≤ x ∧ x ≤ 1000000) → PyData.showableAll (ns.map PyData.int) = true ∧ dwAll (ns.map PyData.int) ≤ 15 * ns.length ∧ PyData.depthAll (ns.map PyData.int) = 0
  | [], _ => ⟨by rw [List.map_nil, PyData.showableAll], by rw [List.map_nil, dwAll]; exact Nat.le_refl _, by rw [List.map_nil, PyData.depthAll]⟩
  | x :: r, h => by
    obtain ⟨a, b, c⟩ := dw_ints fun y hy => h y (List.mem_cons_of_mem _ hy)
    have hx := h x List.mem_cons_self
    have h1 : PyData.showable (.int x) = true := by
      rw [PyData.showable]
      refine decide_eq_true ?_
      have h1 : x.natAbs < 2 ^ 20 := by
        have : (2 : Nat) ^ 20 = 1048576 := by decide
        omega
      by_cases c : x.natAbs = 0
      · rw [c]
        decide
      · exact Nat.lt_trans ((Nat.log2_lt c).mpr h1) (by decide)
    have h2 : (PyData.shown (.int x)).length ≤ 13 := PyData.shown_int_le2 (by omega) (by omega)
    refine ⟨?_, ?_, ?_⟩
    · rw [List.map_cons, PyData.showableAll, h1, a]
      rfl
    · rw [List.map_cons, dwAll, List.length_cons]
      have : dw (.int x) = (PyData.shown (.int x)).length := by rw [dw] <;> nofun
      omega
    · rw [List.map_cons, PyData.depthAll, c, PyData.depth]
      rfl
theorem dw_rows : ∀ {ls : List (List Int)}, (∀ l ∈ ls, l.length ≤ 1000 ∧ ∀ x ∈ l, -1000000 ≤ x ∧ x ≤ 1000000) → PyData.showableAll (ls.map fun l => .list (l.map PyData.int)) = true ∧ dwAll (ls.map fun l => .list (l.map PyData.int)) ≤ 15100 * ls.length ∧ PyData.depthAll (ls.map fun l => .list (l.map PyData.int)) ≤ 1
  | [], _ => ⟨by rw [List.map_nil, PyData.showableAll], by rw [List.map_nil, dwAll]; exact Nat.le_refl _, by rw [List.map_nil, PyData.depthAll]; exact Nat.zero_le _⟩
  | x :: r, h => by
    obtain ⟨a, b, c⟩ := dw_rows fun y hy => h y (List.mem_cons_of_mem _ hy)
    obtain ⟨hl, hx⟩ := h x List.mem_cons_self
    obtain ⟨a1, b1, c1⟩ := dw_ints hx
    refine ⟨?_, ?_, ?_⟩
    · rw [List.map_cons, PyData.showableAll, PyData.showable, a1, a]
      rfl
    · rw [List.map_cons, dwAll, dw, List.length_cons]
      omega
    · rw [List.map_cons, PyData.depthAll, PyData.depth, c1]
      exact Nat.max_le.mpr ⟨by omega, c⟩
theorem shn_rows {ls : List (List Int)} (h : ∀ l ∈ ls, l.length ≤ 1000 ∧ ∀ x ∈ l, -1000000 ≤ x ∧ x ≤ 1000000) (k : ls.length ≤ 100) : Shn (.list (ls.map fun l => .list (l.map PyData.int))) := by
  obtain ⟨a, b, c⟩ := dw_rows h
  have hz : sizeLine = 16777216 := by decide
  refine ⟨?_, ?_, ?_⟩
  · rw [PyData.showable]
    exact a
  · rw [dw]
    omega
  · rw [PyData.depth]
    omega
/-! ### defs that are called while nothing is being shown -/
section
open PySem.Spec PyProof.Rows
/-- a def's promise where no repr is under way -/
structure FnG (P : Program) (w : World) (K : PySem.W.Frag) (mg : Str → Option Value) (base : Heap) (CX : CXT) (k : Nat) (f : Addr) (fd : FuncData) (ps : List Str) (sp : Sp) : Prop where
  len : ∀ vs H Q E, sp vs H Q E → vs.length = ps.length
  run : ∀ (A : Around) (outer : List Env) (s : Shared) (H : Hp) (args : Args) (us : List Value) (vs : List V) (Q : VK) (E : XK), A.guards = some [] → Room k A → Env0 P w K mg base A outer s H → BindsTo s fd args (ps.zip us) → Vals vs us → sp vs H Q E →
    codeAny (model P w) A (.call (.ref f) args) (CR CX outer P w H s Q E) s
variable {P : Program} {w : World} {K : PySem.W.Frag} {mg : Str → Option Value} {base : Heap} {CX : CXT} {k : Nat} {f : Addr} {fd : FuncData} {N ps : List Str} {sp : Sp}
theorem FnG.of (F : FnOk P w K mg base CX k f fd ps sp) : FnG P w K mg base CX k f fd ps sp := ⟨F.len, fun A outer s H args us vs Q E _ => F.run A outer s H args us vs Q E⟩
theorem okG {x qual : Str} {st : Stmt} (F : Fun K x qual st f fd) (S : FnScope N ps (defScope st)) (len : ∀ vs H Q E, sp vs H Q E → vs.length = ps.length)
    (body : ∀ (cdv : Value) (A : Around) (outer : List Env) (s : Shared) (H : Hp) (vs : List V) (Q : VK) (E : XK), A.guards = some [] → Room k (A.deeper (envOfC qual (defScope st) s.heap.objs.size f cdv)) → sp vs H Q E →
      ∃ t, PSs (cxOf CX0 P w K mg base N qual (defScope st) f cdv A outer s H E).nox (defBody st) t ∧ t { nx := fun _ H' => Q .non H', rt := Q } (L2.start N vs) H) : FnG P w K mg base CX0 (k + 1) f fd ps sp := by
  obtain ⟨oc, od, kV, doc, pm, an, cdv, ct, osl, rfl, lk, hcd⟩ := F.ex
  refine ⟨len, fun A outer s H args us vs Q E hgd hr e0 hb r hsp => ?_⟩
  have keeps : ∀ b o, base.get? b = some o → s.heap.get? b = some o := fun b o e => (e0.bs b o e).1
  have KX : K.In s.heap := e0.mod.kin.keeps keeps
  have kinds : ∀ y ∈ ps.zip us, (defScope st).names.lookup y.1 = some .local ∨ ((defScope st).names.lookup y.1 = some .cell ∧ ((cellsFrom (s.heap.objs.size + 1) (defScope st).names []).lookup y.1).isSome = true) := by
    rintro ⟨n, v⟩ hy
    rcases S.par n (List.of_mem_zip hy).1 with q | q
    · exact .inl q
    · exact .inr ⟨q, PySem.W.cellsFrom_some _ _ _ (.inl q)⟩
  refine codeAny_call_function hr.depth (KX _ _ lk) rfl S.co S.gen rfl (PySem.W.codeRec_of KX hcd) (hb _ _ _ _ (wpAny_newFunctionEnv_cells S.kind kinds fun env he s1 x => ?_))
  subst he
  refine ⟨(e0.mod.nolimit.keeps keeps).keeps x.toInCall.keep, codeAny_func ?_⟩
  obtain ⟨t, ht, hq⟩ := body cdv A outer s H vs Q E hgd (hr.deeper _) hsp
  have I := inv_start (CX := CX0) (E := E) S hr.hd e0 (len _ _ _ _ hsp) r x
  refine wpAny_mono (ht.nox.run [] s1 (L2.start N vs) H _ I hq) (fun fl s' z => ?_) fun e s' z => z
  cases fl with
  | ret u =>
    obtain ⟨v, σ', H', J, rv, z⟩ := z
    exact ⟨v, H', J.os, J.bare, J.base, J.hok, rv, z⟩
  | next =>
    obtain ⟨σ', H', J, z⟩ := z
    exact ⟨V.non, H', J.os, J.bare, J.base, J.hok, rfl, z⟩
  | brk =>
    obtain ⟨_, _, _, z⟩ := z
    exact z.elim
  | cont =>
    obtain ⟨_, _, _, z⟩ := z
    exact z.elim
variable {X : Cx} {dvs : List V} {ds : List Value} {E : XK} {x : Str} {p pos : Pos} {e : Expr} {es : List Expr} {t : TA}
theorem pe_callG (F : FnG X.prog X.w X.K X.mg X.base CX k f fd ps sp) (gd : X.A.guards = some []) (hr : Room k X.A) (hg : Gl X x) (hm : X.mg x = some (.ref f)) (hk : PySem.W.keepIn X.K (.ref f) = true) (hb : Binds X.K fd ps ds) (hd : Vals dvs ds) (hx : Passes CX X E) (ha : PA X (e :: es) t)
    (hdb : (x == ("__debug__" : Str)) = false := by decide) (he : starEach (e :: es) X.env = (false, eval e X.env) :: starEach es X.env := by rfl) (hpl : (backTo pos (starEach es X.env)).any (·.1) = false := by rfl) : PE X (.Call (.Name x p) (e :: es) [] pos) (tCall sp dvs E t) := by
  refine ⟨fun pins s σ H Q I h => wpAny_Call_Name_kw (ld_glob I hg hm ?_ hdb)⟩
  refine PySem.W.callWith_K (h₀ := X.base) I.ok.mod.kin hk (thn (ha.run pos pins s σ H _ I h) fun us s1 ⟨vs, H1, J, r, q⟩ => ⟨J.kIn, ?_⟩) he hpl
  have r2 : Vals (vs ++ dvs) (us ++ ds) := r.append hd
  refine wpAny_call (codeAny_mono (F.run X.A X.stack s1 H1 ⟨us, []⟩ (us ++ ds) (vs ++ dvs) Q E gd hr J.env0 (hb s1 us J.kIn (by rw [← r2.length]; exact F.len _ _ _ _ q)) r2 q) fun z s' hz => ?_)
  cases z with
  | error u => exact hx pins σ H1 s1 u s' J hz
  | ok fl =>
    cases fl with
    | ret u => exact J.after hz
    | next => exact hz.elim
    | brk => exact hz.elim
    | cont => exact hz.elim
end
section
open PySem.Spec PyProof.Rows
/-- the law's own call: nothing is being shown around it -/
theorem law_callG {P : Program} {w : World} {K : PySem.W.Frag} {mg mb : Str → Option Value} {k : Nat} {fa a : Addr} {fd : FuncData} {x : Str} {sp : Sp} {s1 : Shared} {vs : List Value} {ns : List Int} (KX : K.In s1.heap) (hns : s1.heap.Ns mainGlobals mg) (hb : s1.heap.Ns builtinsNs mb)
    (hbb : ∀ x : Str, x ≠ "__name__" → mb x = bootBuiltins x) (hlim : s1.heap.NoLimit) (hg : s1.gens = #[]) (ha : s1.heap.get? a = some { cls := .type "list", data := .seq vs.toArray }) (hi : IntsAre vs ns) (hl : ns.length ≤ sizeLine) (hr : Room k callerA)
    (F : ∀ base : Heap, K.In base → base.Ns mainGlobals mg → FnG P w K mg base CX0 k fa fd [x] sp) (hbind : ∀ (s : Shared) (u : Value), BindsTo s fd ⟨[u], []⟩ [(x, u)]) (hsp : ∀ H : Hp, Only H → SqL K H a (ns.map V.int) → sp [.ref a] H (fun v _ => v = .bl true) fun _ _ _ => False)
    : codeAny (model P w) callerA (.call (.ref fa) ⟨[.ref a], []⟩) (fun r s' => r = .ok (.ret (.bool true)) ∧ OldK s1.heap s'.heap ∧ s'.os = s1.os ∧ AllBare s'.gens) s1 := by
  have rv := vals_ints hi
  have lv := hi.length
  have main : ∀ H : Hp, Only H → SqL K H a (ns.map V.int) → HOk P w H s1.heap → (∀ b u, H b = some u → b = a) → (∀ u, H a = some u → K.lookup a = none) →
      codeAny (model P w) callerA (.call (.ref fa) ⟨[.ref a], []⟩) (fun r s' => r = .ok (.ret (.bool true)) ∧ OldK s1.heap s'.heap ∧ s'.os = s1.os ∧ AllBare s'.gens) s1 := by
    intro H hO hS hok hA hK
    have isn : ∀ {b : Addr}, b ≠ a → H b = none := fun {b} n => by
      cases q : H b with
      | none => rfl
      | some u => exact absurd (hA b u q) n
    have bn : ∀ {b : Addr} {m : Str → Option Value}, s1.heap.Ns b m → (hidT s1.heap H).Ns b m := by
      rintro b m ⟨o, es, ep, e, d, r⟩
      refine ⟨o, es, ep, hidT_get e (isn fun z => ?_), d, r⟩
      rw [z, ha] at e
      cases e
      cases d
    have bK : K.In (hidT s1.heap H) := fun b o e => hidT_get (KX b o e) (by
      cases q : H b with
      | none => rfl
      | some u =>
        have z := hA b u q
        subst z
        rw [hK u q] at e
        cases e)
    have lm : (hidT s1.heap H).NoLimit := by
      obtain ⟨mc, h1, h2⟩ := hlim
      exact ⟨mc, bn h1, h2⟩
    have e0 : Env0 P w K mg (hidT s1.heap H) callerA [] s1 H := ⟨rfl, ⟨bK, bn hns, ⟨mb, bn hb, hbb⟩, lm⟩, fun b o e => of_hidT e, Nat.le_of_eq (hidT_size _ _), trivial, (fun b z => nomatch z), hok, .of_eq hg⟩
    refine codeAny_mono ((F _ bK (bn hns)).run callerA [] s1 H ⟨[.ref a], []⟩ [.ref a] [.ref a] _ _ rfl hr e0 (hbind s1 (.ref a)) (.cons rfl .nil) (hsp H hO hS)) fun r s' h => ?_
    cases r with
    | error e => exact False.elim h
    | ok fl =>
      cases fl with
      | next => exact False.elim h
      | brk => exact False.elim h
      | cont => exact False.elim h
      | ret u =>
        obtain ⟨v, H', os, bare, un, hok', r', q⟩ := h
        have qv : v = .bl true := q
        subst qv
        obtain rfl : u = Value.bool true := r'
        refine ⟨rfl, OldK.of_keep fun b o e => ?_, os, bare⟩
        cases q : H b with
        | none => exact un.keep b o e q (fun z => nomatch z) (fun z => nomatch z)
        | some u =>
          rcases hO b with z | ⟨ob, xs, z⟩
          · rw [z] at q
            cases q
          · obtain ⟨e1, _⟩ := hok b _ z
            obtain ⟨e2, _⟩ := hok' b _ (un.frzs b ob _ z)
            rw [e1] at e
            cases e
            exact e2
  cases hk : K.lookup a with
  | some o =>
    have e := (KX a o hk).symm.trans ha
    cases e
    exact main (fun _ => none) (fun _ => .inl rfl) (.inr ⟨_, vs.toArray, _, hk, rfl, rfl, rfl, by rw [List.size_toArray, lv]; exact hl, by simpa using rv⟩) (fun b u z => nomatch z) (fun b u z => nomatch z) fun u z => nomatch z
  | none =>
    have gA : ∀ b u, (if b = a then some (HO.frz { cls := .type "list", data := .seq vs.toArray } (.lst (ns.map V.int))) else none) = some u → b = a ∧ u = HO.frz { cls := .type "list", data := .seq vs.toArray } (.lst (ns.map V.int)) := by
      intro b u z
      by_cases c : b = a
      · rw [if_pos c] at z
        exact ⟨c, (Option.some.inj z).symm⟩
      · rw [if_neg c] at z
        cases z
    refine main (fun b => if b = a then some (.frz { cls := .type "list", data := .seq vs.toArray } (.lst (ns.map V.int))) else none) (fun b => ?_) (.inl (.inr ⟨{ cls := .type "list", data := .seq vs.toArray }, if_pos rfl⟩)) (fun b u z => ?_) (fun b u z => (gA b u z).1) fun _ _ => hk
    · by_cases c : b = a
      · exact .inr ⟨_, _, if_pos c⟩
      · exact .inl (if_neg c)
    · obtain ⟨rfl, rfl⟩ := gA b u z
      exact ⟨ha, by rw [List.length_map]; exact hl, vs, _, rv, ha⟩
theorem walk_ofG {l : PySem.W.OpenLaw} {n k : Nat} {q : Program} {loose : List Str} {XP : (Str → Option Value) → Heap → Prop} {YP : World → Heap → Prop} {d : DefRec} {K : Params → PySem.W.Frag} {sp : World → Sp} {x : Str} (hn : l.most = some n) (hn2 : n ≤ sizeLine) (hdf : d.params.defaults = []) (hr : Room k callerA)
    (hY : ∀ (w : World) (h : Heap), YP w h → (K w.params).In h)
    (F : ∀ (w : World) (mg : Str → Option Value) (fa : Addr) (h : Heap), (K w.params).In h → h.Ns mainGlobals mg → mg d.name = some (.ref fa) → ∃ fd : FuncData, (∀ (s : Shared) (u : Value), BindsTo s fd ⟨[u], []⟩ [(x, u)]) ∧ ∀ base : Heap, (K w.params).In base → base.Ns mainGlobals mg → FnG l.prog w (K w.params) mg base CX0 k fa fd [x] (sp w))
    (hsp : ∀ (w : World) (H : Hp) (a : Addr) (ns : List Int), ns.length ≤ n → Only H → SqL (K w.params) H a (ns.map V.int) → sp w [.ref a] H (fun v _ => v = .bl true) fun _ _ _ => False) : PySem.W.WalkO q loose XP YP l.row.toRowW d [] (fun f vs => PySem.call f vs) := by
  refine Att.attach_call hn hdf fun w s₀ s1 mg mb fa o pm cd doc a vs ns G Y ho hd hcd hmg hobj hints hlen hg => ?_
  obtain ⟨fd, hb, hF⟩ := F w mg fa _ (hY w _ Y) G.T.g hmg
  exact law_callG (hY w _ Y) G.T.g G.T.b G.T.builtins G.T.nolimit hg hobj hints (Nat.le_trans hlen hn2) hr hF hb fun H hO hS => hsp w H a ns hlen hO hS
end
theorem ned_ints {K : PySem.W.Frag} {H : Hp} {a b : Addr} {ns ms : List Int} {Q : VK} (ha : SqL K H a (ns.map V.int)) (hb : SqL K H b (ms.map V.int)) (q : Q (.bl (!decide (ns = ms))) H) : rNeD K (.ref a) (.ref b) H Q := by
  refine ⟨_, _, .lst ha (dp_ints ns), .lst hb (dp_ints ms), PySem.W.ke_shaped_ints ns, PySem.W.ke_shaped_ints ms, ?_⟩
  have e : PyData.eqv (.list (ns.map PyData.int)) (.list (ms.map PyData.int)) = decide (ns = ms) := by
    rw [PyData.eqv]
    exact eqv_ints ns ms
  rw [e]
  exact q
/-! ### things, by what they are -/
def intD : PyData → Bool
  | .int _ => true
  | _ => false
def tyD : PyData → String
  | .none => "NoneType"
  | .bool _ => "bool"
  | .int _ => "int"
  | .str _ => "str"
  | .list _ => "list"
  | .tuple _ => "tuple"
  | .dict _ => "dict"
theorem kdD {K : PySem.W.Frag} {H : Hp} {v : V} {d : PyData} (h : Dp K H v d) : Kd K H v (tyD d) := by
  cases h with
  | non => exact .non
  | bl b => exact .bl b
  | int i => exact .int i
  | str x => exact .str x
  | lst h _ => exact .lst h
  | tup h _ => exact .tup h
theorem tyD_int (d : PyData) : (tyD d == "int") = intD d := by
  cases d <;> rfl
/-! ### small things -/
structure Sm (B k : Nat) (d : PyData) : Prop where
  l : d.canLay0 = true
  s : d.showable = true
  w : dw d ≤ B
  p : d.depth ≤ k
theorem Sm.up {B k B' k' : Nat} {d : PyData} (h : Sm B k d) (e : B ≤ B') (f : k ≤ k') : Sm B' k' d := ⟨h.l, h.s, Nat.le_trans h.w e, Nat.le_trans h.p f⟩
theorem sm_all {B k : Nat} : ∀ {ds : List PyData}, (∀ d ∈ ds, Sm B k d) → PyData.canLayAll0 ds = true ∧ PyData.showableAll ds = true ∧ dwAll ds ≤ (B + 2) * ds.length ∧ PyData.depthAll ds ≤ k
  | [], _ => ⟨by rw [PyData.canLayAll0], by rw [PyData.showableAll], by rw [dwAll]; exact Nat.zero_le _, by rw [PyData.depthAll]; exact Nat.zero_le _⟩
  | d :: r, h => by
    obtain ⟨a, b, c, e⟩ := sm_all fun x hx => h x (List.mem_cons_of_mem _ hx)
    have hd := h d List.mem_cons_self
    refine ⟨by rw [PyData.canLayAll0, hd.l, a]; rfl, by rw [PyData.showableAll, hd.s, b]; rfl, ?_, by rw [PyData.depthAll]; exact Nat.max_le.mpr ⟨hd.p, e⟩⟩
    have := hd.w
    rw [dwAll, List.length_cons, Nat.mul_succ]
    omega
theorem Sm.lst {B k n : Nat} {ds : List PyData} (hn : ds.length ≤ n) (h : ∀ d ∈ ds, Sm B k d) : Sm (6 + (B + 2) * n) (k + 1) (.list ds) := by
  obtain ⟨a, b, c, e⟩ := sm_all h
  have := Nat.mul_le_mul_left (B + 2) hn
  exact ⟨by rw [PyData.canLay0]; exact a, by rw [PyData.showable]; exact b, by rw [dw]; omega, by rw [PyData.depth]; omega⟩
theorem Sm.tup {B k n : Nat} {ds : List PyData} (hn : ds.length ≤ n) (h : ∀ d ∈ ds, Sm B k d) : Sm (6 + (B + 2) * n) (k + 1) (.tuple ds) := by
  obtain ⟨a, b, c, e⟩ := sm_all h
  have := Nat.mul_le_mul_left (B + 2) hn
  exact ⟨by rw [PyData.canLay0]; exact a, by rw [PyData.showable]; exact b, by rw [dw]; omega, by rw [PyData.depth]; omega⟩
theorem Sm.shn {B k : Nat} {d : PyData} (h : Sm B k d) (e : B ≤ 16777216) (f : k ≤ 40) : Shn d := by
  have hz : sizeLine = 16777216 := by decide
  exact ⟨h.s, by have := h.w; omega, Nat.le_trans h.p f⟩
theorem Sm.shaped {B k : Nat} {d : PyData} (h : Sm B k d) (f : k ≤ 64) : SeqAt.shaped d = true := by
  unfold SeqAt.shaped
  rw [h.l, decide_eq_true (Nat.le_trans h.p f)]
  rfl
theorem sm_int {i : Int} (h : i.natAbs ≤ 100000000000) : Sm 13 0 (.int i) := by
  have h1 : PyData.showable (.int i) = true := by
    rw [PyData.showable]
    refine decide_eq_true ?_
    have h1 : i.natAbs < 2 ^ 40 := by
      have : (2 : Nat) ^ 40 = 1099511627776 := by decide
      omega
    by_cases c : i.natAbs = 0
    · rw [c]
      decide
    · exact Nat.lt_trans ((Nat.log2_lt c).mpr h1) (by decide)
  have h2 : (PyData.shown (.int i)).length ≤ 13 := PyData.shown_int_le2 (by omega) (by omega)
  have h3 : dw (.int i) = (PyData.shown (.int i)).length := by rw [dw] <;> nofun
  exact ⟨by rw [PyData.canLay0], h1, by omega, by rw [PyData.depth]; exact Nat.le_refl _⟩
theorem sm_non : Sm 13 0 .none := ⟨by rw [PyData.canLay0], by rw [PyData.showable], by decide +kernel, by rw [PyData.depth]; exact Nat.le_refl _⟩
theorem sm_bl (b : Bool) : Sm 13 0 (.bool b) := ⟨by rw [PyData.canLay0], by rw [PyData.showable], by cases b <;> decide +kernel, by rw [PyData.depth]; exact Nat.le_refl _⟩
theorem sm_e : Sm 13 0 (.str "") := ⟨by decide +kernel, by rw [PyData.showable], by decide +kernel, by rw [PyData.depth]; exact Nat.le_refl _⟩
theorem sm_0 : Sm 13 0 (.str "0") := ⟨by decide +kernel, by rw [PyData.showable], by decide +kernel, by rw [PyData.depth]; exact Nat.le_refl _⟩
section
open PySem.Spec PyProof.Rows
variable {P : Program} {w : World} {K : PySem.W.Frag} {mg : Str → Option Value} {base : Heap}
theorem fnor {CX : CXT} {k : Nat} {f : Addr} {fd : FuncData} {ps : List Str} {sp sp1 sp2 : Sp} (G1 : FnOk P w K mg base CX k f fd ps sp1) (G2 : FnOk P w K mg base CX k f fd ps sp2) (h : ∀ vs H Q E, sp vs H Q E → sp1 vs H Q E ∨ sp2 vs H Q E) : FnOk P w K mg base CX k f fd ps sp :=
  ⟨fun vs H Q E x => (h vs H Q E x).elim (G1.len vs H Q E) (G2.len vs H Q E), fun A outer s H args us vs Q E hr e0 hb r x => (h vs H Q E x).elim (G1.run A outer s H args us vs Q E hr e0 hb r) (G2.run A outer s H args us vs Q E hr e0 hb r)⟩
end
/-! ### each prime has a generator: looked up by the kernel -/
def pm (m : Nat) : Nat → Nat → Nat → Nat
  | 0, _, _ => 1 % m
  | k + 1, b, e => if e % 2 = 1 then b * pm m k (b * b % m) (e / 2) % m else pm m k (b * b % m) (e / 2)
theorem npow_mod (a m : Nat) (k : Nat) : (a % m) ^ k % m = a ^ k % m := (Nat.pow_mod a k m).symm
theorem npow_sq (b k : Nat) : (b * b) ^ k = b ^ (2 * k) := by
  rw [Nat.pow_mul, Nat.pow_two]
theorem pm_eq (m : Nat) : ∀ k b e : Nat, e < 2 ^ k → pm m k b e = b ^ e % m
  | 0, b, e, h => by
    have : e = 0 := by
      have : (2 : Nat) ^ 0 = 1 := rfl
      omega
    subst this
    show 1 % m = b ^ 0 % m
    rw [Nat.pow_zero]
  | k + 1, b, e, h => by
    have he : e / 2 < 2 ^ k := by
      rw [Nat.pow_succ] at h
      omega
    have ih := pm_eq m k (b * b % m) (e / 2) he
    show (if e % 2 = 1 then b * pm m k (b * b % m) (e / 2) % m else pm m k (b * b % m) (e / 2)) = _
    rw [ih, npow_mod, npow_sq]
    split
    · rename_i o
      have e2 : e = 2 * (e / 2) + 1 := by omega
      conv => rhs; rw [e2, Nat.pow_succ, Nat.mul_comm (b ^ _) b, Nat.mul_mod]
      rw [Nat.mul_mod, Nat.mod_mod]
    · have e2 : e = 2 * (e / 2) := by omega
      conv => rhs; rw [e2]
def okGn (p g d : Nat) : Bool := if (p - 1) % d = 0 then (pm p 20 g ((p - 1) / d) != 1) && (decide (d = p - 1) || (pm p 20 g d != 1)) else true
def okAll (p g s : Nat) : Bool := decide (2 ≤ g) && (decide (g < p) && (List.range' 2 (s - 1)).all (okGn p g))
def fnd (p s : Nat) : Nat → Nat → Nat
  | 0, g => g
  | k + 1, g => if okAll p g s = true then g else fnd p s k (g + 1)
def isPr (p : Nat) : Bool := (List.range' 2 99).all fun d => decide (p < d * d) || decide (p % d ≠ 0)
def chk (p : Nat) : Bool := !isPr p || okAll p (fnd p 100 60 2) 100
theorem chk1 : (List.range' 3 2498).all chk = true := by decide +kernel
theorem chk2 : (List.range' 2501 2500).all chk = true := by decide +kernel
theorem chk3 : (List.range' 5001 2500).all chk = true := by decide +kernel
theorem chk4 : (List.range' 7501 2500).all chk = true := by decide +kernel
theorem far1 : okAll 10007 (fnd 10007 101 60 2) 101 = true := by decide +kernel
theorem far2 : okAll 40961 (fnd 40961 203 60 2) 203 = true := by decide +kernel
theorem far3 : okAll 65537 (fnd 65537 257 60 2) 257 = true := by decide +kernel
theorem far4 : okAll 786433 (fnd 786433 888 60 2) 888 = true := by decide +kernel
theorem far5 : okAll 999983 (fnd 999983 1000 60 2) 1000 = true := by decide +kernel
theorem okG_at {p g s : Nat} (h : okAll p g s = true) {d : Nat} (d2 : 2 ≤ d) (ds : d ≤ s) (hd : d ∣ p - 1) (hp : p ≤ 1048576) (hp3 : 3 ≤ p) : ¬ g ^ ((p - 1) / d) % p = 1 ∧ (d ≠ p - 1 → ¬ g ^ d % p = 1) := by
  unfold okAll at h
  simp only [Bool.and_eq_true, decide_eq_true_eq, List.all_eq_true] at h
  have h1 := h.2.2 d (List.mem_range'_1.mpr ⟨d2, by omega⟩)
  unfold okGn at h1
  rw [if_pos (Nat.mod_eq_zero_of_dvd hd)] at h1
  have e20 : (2 : Nat) ^ 20 = 1048576 := by decide
  have dle : d ≤ p - 1 := Nat.le_of_dvd (by omega) hd
  have qle : (p - 1) / d ≤ p - 1 := Nat.div_le_self _ _
  rw [pm_eq p 20 g _ (by omega), pm_eq p 20 g _ (by omega)] at h1
  simp only [Bool.and_eq_true, Bool.or_eq_true, decide_eq_true_eq, bne_iff_ne, ne_eq] at h1
  exact ⟨h1.1, fun z => h1.2.resolve_left z⟩
/-- what was looked up is enough -/
theorem gen_of {p g s : Nat} (h : okAll p g s = true) (hp : p ≤ 1048576) (hp3 : 3 ≤ p) (hs : p ≤ (s + 1) * (s + 1)) {out : List Int} (ho : ∀ k ∈ out, 2 ≤ k ∧ k ∣ (p : Int) - 1) : 1 ≤ (g : Int) ∧ (g : Int) < p ∧ GenOk p g (erl p out) := by
  have h0 := h
  unfold okAll at h0
  simp only [Bool.and_eq_true, decide_eq_true_eq] at h0
  refine ⟨by omega, by omega, ?_⟩
  intro e he z
  obtain ⟨f, hf, ef⟩ := List.mem_map.mp he
  obtain ⟨f2, fd⟩ := ho f hf
  -- all in naturals
  have ep : ((p - 1 : Nat) : Int) = (p : Int) - 1 := by omega
  have fN : ((f.toNat : Nat) : Int) = f := Int.toNat_of_nonneg (by omega)
  have fdN : f.toNat ∣ p - 1 := by
    rw [← Int.natCast_dvd_natCast, fN, ep]
    exact fd
  have eN : e.toNat = (p - 1) / f.toNat := by
    rw [← ef]
    have : ((p : Int) - 1) / f = (((p - 1) / f.toNat : Nat) : Int) := by
      rw [Int.natCast_ediv, ep, fN]
    rw [this]
    rfl
  have zN : g ^ e.toNat % p = 1 := by
    have : ((g ^ e.toNat % p : Nat) : Int) = 1 := by
      rw [Int.natCast_emod, Int.natCast_pow]
      exact z
    omega
  rw [eN] at zN
  by_cases fs : f.toNat ≤ s
  · exact (okG_at h (by omega) fs fdN hp hp3).1 zN
  · -- the partner is small
    have hq : (p - 1) / f.toNat * f.toNat = p - 1 := Nat.div_mul_cancel fdN
    have hqs : (p - 1) / f.toNat ≤ s := by
      apply Nat.le_of_not_gt
      intro v
      have : (s + 1) * (s + 1) ≤ (p - 1) / f.toNat * f.toNat := Nat.mul_le_mul v (by omega)
      omega
    have hq0 : (p - 1) / f.toNat ≠ 0 := fun v => by
      rw [v] at hq
      omega
    by_cases q1 : (p - 1) / f.toNat = 1
    · rw [q1, Nat.pow_one, Nat.mod_eq_of_lt h0.2.1] at zN
      omega
    · refine (okG_at h (d := (p - 1) / f.toNat) (by omega) hqs ⟨f.toNat, hq.symm⟩ hp hp3).2 ?_ zN
      intro v
      have : (p - 1) / f.toNat * 2 ≤ (p - 1) / f.toNat * f.toNat := Nat.mul_le_mul_left _ (by omega)
      omega
theorem isPr_of {p : Nat} (hp : p ≤ 10000) (h : ∀ d, 2 ≤ d → d * d ≤ p → ¬ d ∣ p) : isPr p = true := by
  unfold isPr
  rw [List.all_eq_true]
  intro d hd
  have h1 := List.mem_range'_1.mp hd
  rw [Bool.or_eq_true, decide_eq_true_iff, decide_eq_true_iff]
  by_cases z : p < d * d
  · exact .inl z
  · exact .inr fun e => h d h1.1 (by omega) (Nat.dvd_of_mod_eq_zero e)
theorem gen_small {p : Nat} (h3 : 3 ≤ p) (hp : p ≤ 10000) (h : ∀ d, 2 ≤ d → d * d ≤ p → ¬ d ∣ p) {out : List Int} (ho : ∀ k ∈ out, 2 ≤ k ∧ k ∣ (p : Int) - 1) : ∃ g0 : Int, 1 ≤ g0 ∧ g0 < p ∧ GenOk p g0 (erl p out) := by
  have hc : chk p = true := by
    by_cases a : p ≤ 2500
    · exact (List.all_eq_true.mp chk1) p (List.mem_range'_1.mpr ⟨h3, by omega⟩)
    · by_cases b : p ≤ 5000
      · exact (List.all_eq_true.mp chk2) p (List.mem_range'_1.mpr ⟨by omega, by omega⟩)
      · by_cases c : p ≤ 7500
        · exact (List.all_eq_true.mp chk3) p (List.mem_range'_1.mpr ⟨by omega, by omega⟩)
        · exact (List.all_eq_true.mp chk4) p (List.mem_range'_1.mpr ⟨by omega, by omega⟩)
  unfold chk at hc
  rw [isPr_of hp h] at hc
  have hk : okAll p (fnd p 100 60 2) 100 = true := by simpa using hc
  obtain ⟨a, b, c⟩ := gen_of hk (by omega) h3 (by omega) ho
  exact ⟨_, a, b, c⟩
abbrev s__law_same : Stmt := top 48
abbrev N__law_same : List Str := ["_law_found", "_law_due", "_law_one", "_law_two"]
abbrev P__law_same : List Str := ["_law_found", "_law_due"]
theorem sc__law_same : FnScope N__law_same P__law_same (defScope s__law_same) := ⟨rfl, rfl, rfl, by decide +kernel, rfl, by decide +kernel, by decide +kernel⟩
section
variable {P : Program} {w : World} {K : PySem.W.Frag} {mg : Str → Option Value} {base : Heap}
theorem same_step {f : Addr} {fd : FuncData} {n : Nat} {spI : Sp} (D__law_same : Df K mg "_law_same" s__law_same P__law_same f fd) (T : Blt mg) (G__law_same : FnOk P w K mg base CX0 n f fd P__law_same spI) (hG : ∀ m, n = m + 1 → spI = spSame K m) : FnOk P w K mg base CX0 (n + 1) f fd P__law_same (spSame K n) := by
  have nd := sc__law_same.nd
  refine D__law_same.F.ok sc__law_same (fun vs H Q E h => ?_) (fun cdv A outer s H vs Q E hr h => ?_)
  · obtain ⟨x, y, d, rfl, _⟩ := h
    rfl
  · obtain ⟨x, y, d, rfl, hx, hy, hf, q⟩ := h
    refine ⟨_, (pss_cons (ps_if (pt_val (pe_callB (r := rIsiT K) call_isiT (by rfl) T.b_isinstance (by decide +kernel) (pa_cons (pv 1) (pa_cons (pe_tup (pa_cons (pe_bltn (v := .ty "list") (by rfl) T.b_list (by decide +kernel) rfl) (pa_cons (pe_bltn (v := .ty "tuple") (by rfl) T.b_tuple (by decide +kernel) rfl) pa_nil))) pa_nil)))) (pss_cons (ps_if (PW.pt (pw_or (pt_cmpR op_ne (pe_callB (r := rIsi K) call_isi (by rfl) T.b_isinstance (by decide +kernel) (pa_cons (pv 0) (pa_cons (pe_bltn (v := .ty "list") (by rfl) T.b_list (by decide +kernel) rfl) pa_nil))) (pe_callB (r := rIsi K) call_isi (by rfl) T.b_isinstance (by decide +kernel) (pa_cons (pv 1) (pa_cons (pe_bltn (v := .ty "list") (by rfl) T.b_list (by decide +kernel) rfl) pa_nil))) (nomark _)) (pw_or1 (pt_cmpR op_ne (pe_callB (r := rIsi K) call_isi (by rfl) T.b_isinstance (by decide +kernel) (pa_cons (pv 0) (pa_cons (pe_bltn (v := .ty "tuple") (by rfl) T.b_tuple (by decide +kernel) rfl) pa_nil))) (pe_callB (r := rIsi K) call_isi (by rfl) T.b_isinstance (by decide +kernel) (pa_cons (pv 1) (pa_cons (pe_bltn (v := .ty "tuple") (by rfl) T.b_tuple (by decide +kernel) rfl) pa_nil))) (nomark _))))) (pss_one (ps_ret (pe_bl))) pss_nil)
      (pss_cons (ps_if (pt_cmpR op_ne (pe_callB (r := rLenQ K) call_len_seq (by rfl) T.b_len (by decide +kernel) (pa_cons (pv 0) pa_nil)) (pe_callB (r := rLenQ K) call_len_seq (by rfl) T.b_len (by decide +kernel) (pa_cons (pv 1) pa_nil)) (nomark _)) (pss_one (ps_ret (pe_bl))) pss_nil)
      (pss_one (ps_ret (pe_callB (r := rAll K) (cr_all rfl) (by rfl) T.b_all (by decide +kernel) (pa_cons (pe_lc (own := [("_law_one", 2), ("_law_two", 3)]) (g := gTup K 2 (gCons (gName 2) (gCons (gName 3) gNil))) (by rfl) nd (RZ.pi_zipA (by rfl) T.b_zip (pa_cons (pv 0) (pa_cons (pv 1) pa_nil))) (blkOk_by (own := [("_law_one", 2), ("_law_two", 3)]) (N := N__law_same) (sc := defScope s__law_same) (by decide +kernel)) (fun _ _ _ _ _ => (pg_tup (by rfl) (pgs_cons (pg_name (i := 2) nd rfl (Or.inl rfl)) (pgs_cons (pg_name (i := 3) nd rfl (Or.inl rfl)) pgs_nil)))) (fun _ _ _ _ _ => pts_nil) (fun _ _ _ _ _ => (pe_call G__law_same (hr.mono (by omega)) (by rfl) D__law_same.g D__law_same.F.kp D__law_same.b .nil pass0 (pa_cons (pv 2) (pa_cons (pv 3) pa_nil))))) pa_nil)))))) pss_nil)
      (pss_cons (ps_if (PW.pt (pw_or (pt_cmpR op_isN (pv 1) (pe_non) (nomark _)) (pw_or1 (pt_val (pe_callB (r := rIsi K) call_isi (by rfl) T.b_isinstance (by decide +kernel) (pa_cons (pv 1) (pa_cons (pe_bltn (v := .ty "str") (by rfl) T.b_str (by decide +kernel) rfl) pa_nil))))))) (pss_one (ps_ret (pe_and (pe_cmpR op_eq (pv 0) (pv 1) (nomark _)) (pe_one (pe_cmpR op_eq (pe_callB (r := rIsi K) call_isi (by rfl) T.b_isinstance (by decide +kernel) (pa_cons (pv 0) (pa_cons (pe_bltn (v := .ty "str") (by rfl) T.b_str (by decide +kernel) rfl) pa_nil))) (pe_callB (r := rIsi K) call_isi (by rfl) T.b_isinstance (by decide +kernel) (pa_cons (pv 1) (pa_cons (pe_bltn (v := .ty "str") (by rfl) T.b_str (by decide +kernel) rfl) pa_nil))) (nomark _)))))) pss_nil)
      (pss_one (ps_ret (pe_and (pe_callB (r := rIsi K) call_isi (by rfl) T.b_isinstance (by decide +kernel) (pa_cons (pv 0) (pa_cons (pe_bltn (v := .ty "int") (by rfl) T.b_int (by decide +kernel) rfl) pa_nil))) (pe_and (pe_cmpR op_eq (pe_callB (r := rIsi K) call_isi (by rfl) T.b_isinstance (by decide +kernel) (pa_cons (pv 0) (pa_cons (pe_bltn (v := .ty "bool") (by rfl) T.b_bool (by decide +kernel) rfl) pa_nil))) (pe_callB (r := rIsi K) call_isi (by rfl) T.b_isinstance (by decide +kernel) (pa_cons (pv 1) (pa_cons (pe_bltn (v := .ty "bool") (by rfl) T.b_bool (by decide +kernel) rfl) pa_nil))) (nomark _)) (pe_one (pe_cmpR op_eq (pv 0) (pv 1) (nomark _))))))))), ?_⟩
    cases hx with
    | non =>
      cases hy
      walk_at "ev"
      intro p hp
      generalize hH : upd _ p _ = H1
      obtain ⟨sm, hp1⟩ := newO hH hp
      have kd : Kd K H1 .non "NoneType" := .non
      have ty := kd.ty
      obtain ⟨k1, k2, k3, k4, k5⟩ := kd.kit
      have ka := kit_lt k4 k5
      walk_at "ev"
      exact q_dec (q _ sm)
    | bl b =>
      cases hy
      walk_at "ev"
      intro p hp
      generalize hH : upd _ p _ = H1
      obtain ⟨sm, hp1⟩ := newO hH hp
      have kd : Kd K H1 (.bl b) "bool" := .bl b
      have ty := kd.ty
      obtain ⟨k1, k2, k3, k4, k5⟩ := kd.kit
      have ka := kit_lt k4 k5
      walk_at "ev"
      exact q_dec (q _ sm)
    | int i =>
      cases hy
      walk_at "ev"
      intro p hp
      generalize hH : upd _ p _ = H1
      obtain ⟨sm, hp1⟩ := newO hH hp
      have kd : Kd K H1 (.int i) "int" := .int i
      have ty := kd.ty
      obtain ⟨k1, k2, k3, k4, k5⟩ := kd.kit
      have ka := kit_lt k4 k5
      walk_at "ev"
      exact q_dec (q _ sm)
    | str z =>
      cases hy
      walk_at "ev"
      intro p hp
      generalize hH : upd _ p _ = H1
      obtain ⟨sm, hp1⟩ := newO hH hp
      have kd : Kd K H1 (.str z) "str" := .str z
      have ty := kd.ty
      obtain ⟨k1, k2, k3, k4, k5⟩ := kd.kit
      have ka := kit_lt k4 k5
      walk_at "ev"
      exact q_dec (q _ sm)
    | lst hs ha =>
      rename_i a xs ds
      cases hy with
      | lst ht hb =>
      rename_i b ys
      have el : ys.length = xs.length := (dpall_len hb).trans (dpall_len ha).symm
      have el' : V.int (xs.length : Int) = V.int (ys.length : Int) := by rw [el]
      cases n with
      | zero => exact hf.elim
      | succ n =>
      have hf' : ds.length ≤ 4000 ∧ ∀ e ∈ ds, Fit n e := hf
      have hS := hG n rfl
      subst hS
      walk_at "ev"
      intro p hp
      generalize hH : upd _ p _ = H1
      obtain ⟨sm, hp1⟩ := newO hH hp
      have hs1 := sm.seq hs
      have ht1 := sm.seq ht
      have kd : Kd K H1 (.ref a) "list" := .lst hs1
      have ty := kd.ty
      have kd' : Kd K H1 (.ref b) "list" := .lst ht1
      have ty' := kd'.ty
      obtain ⟨k1, k2, k3, k4, k5⟩ := kd.kit
      have ka := kit_lt k4 k5
      walk_at "ev"
      refine .inl ⟨hs1, ht1, fun D hD => ?_⟩
      refine lc_pairs (xs := xs) (ys := ys) (fun i H' => Hold (Same H1 H' ∧ H' D = some (.lst ((List.replicate i true).map V.bl)))) (.mk ⟨same_new hD, upd_same⟩) ?_ ?_ ?_ ?_ ?_
      · intro i H' hP hi
        obtain ⟨sm2, hD2⟩ := hP.un
        have hi2 : i < ys.length := by omega
        exact ⟨xs, ys, _, _, sm2.seq hs1, sm2.seq ht1, List.getElem?_eq_getElem hi, List.getElem?_eq_getElem hi2⟩
      · intro i H' v H'' hP hi yl
        obtain ⟨sm2, hD2⟩ := hP.un
        obtain ⟨T, x, y, e1, e2, e3, f1, f2⟩ := yl
        exact ⟨T, x, y, e1, e2, e3, f1 _ (sm2.seq hs1), f2 _ (sm2.seq ht1)⟩
      · intro H' hP
        obtain ⟨sm2, hD2⟩ := hP.un
        exact ⟨xs, ys, sm2.seq hs1, sm2.seq ht1, .inl (Nat.le_refl _)⟩
      · intro i x y T' H' H'' hx hy hP hT e
        obtain ⟨sm2, hD2⟩ := hP.un
        obtain ⟨sm3, hT3⟩ := newO e.symm hT
        have hT4 : SqT K H'' T' [x, y] := SqT.of hT3
        obtain ⟨d, hd, hdx⟩ := dpall_get ha hx
        obtain ⟨d', hd', hdy⟩ := dpall_get hb hy
        have ed : d' = d := Option.some.inj (hd'.symm.trans hd)
        subst ed
        have sm4 : Same H H'' := (sm.trans sm2).trans sm3
        have dx := dp_same sm4 hdx
        have dy := dp_same sm4 hdy
        have ft := hf'.2 _ (List.mem_of_getElem? hd)
        have hil : i < xs.length := (List.getElem?_eq_some_iff.mp hx).1
        have hdl := dpall_len ha
        have hlen : i ≤ 4000 := by omega
        walk_at "ev"
        intro H5 sm5
        have hD5 := sm5 _ _ (sm3 _ _ hD2)
        refine ⟨_, hD5, szm (by simp; omega), .mk ⟨same_mut ((sm2.trans sm3).trans sm5) hD, ?_⟩⟩
        rw [upd_same, List.replicate_succ', List.map_append]
        rfl
      · intro H' hP
        obtain ⟨sm2, hD2⟩ := hP.un
        refine ⟨D, List.replicate xs.length true, rfl, SqL.of hD2, ?_⟩
        rw [all_true]
        exact q _ (sm.trans sm2)
    | tup hs ha =>
      rename_i a xs ds
      cases hy with
      | tup ht hb =>
      rename_i b ys
      have el : ys.length = xs.length := (dpall_len hb).trans (dpall_len ha).symm
      have el' : V.int (xs.length : Int) = V.int (ys.length : Int) := by rw [el]
      cases n with
      | zero => exact hf.elim
      | succ n =>
      have hf' : ds.length ≤ 4000 ∧ ∀ e ∈ ds, Fit n e := hf
      have hS := hG n rfl
      subst hS
      walk_at "ev"
      intro p hp
      generalize hH : upd _ p _ = H1
      obtain ⟨sm, hp1⟩ := newO hH hp
      have hs1 := same_t sm hs
      have ht1 := same_t sm ht
      have kd : Kd K H1 (.ref a) "tuple" := .tup hs1
      have ty := kd.ty
      have kd' : Kd K H1 (.ref b) "tuple" := .tup ht1
      have ty' := kd'.ty
      obtain ⟨k1, k2, k3, k4, k5⟩ := kd.kit
      have ka := kit_lt k4 k5
      walk_at "ev"
      refine .inr ⟨hs1, ht1, fun D hD => ?_⟩
      refine lc_pairs (xs := xs) (ys := ys) (fun i H' => Hold (Same H1 H' ∧ H' D = some (.lst ((List.replicate i true).map V.bl)))) (.mk ⟨same_new hD, upd_same⟩) ?_ ?_ ?_ ?_ ?_
      · intro i H' hP hi
        obtain ⟨sm2, hD2⟩ := hP.un
        have hi2 : i < ys.length := by omega
        exact ⟨xs, ys, _, _, same_t sm2 hs1, same_t sm2 ht1, List.getElem?_eq_getElem hi, List.getElem?_eq_getElem hi2⟩
      · intro i H' v H'' hP hi yl
        obtain ⟨sm2, hD2⟩ := hP.un
        obtain ⟨T, x, y, e1, e2, e3, f1, f2⟩ := yl
        exact ⟨T, x, y, e1, e2, e3, f1 _ (same_t sm2 hs1), f2 _ (same_t sm2 ht1)⟩
      · intro H' hP
        obtain ⟨sm2, hD2⟩ := hP.un
        exact ⟨xs, ys, same_t sm2 hs1, same_t sm2 ht1, .inl (Nat.le_refl _)⟩
      · intro i x y T' H' H'' hx hy hP hT e
        obtain ⟨sm2, hD2⟩ := hP.un
        obtain ⟨sm3, hT3⟩ := newO e.symm hT
        have hT4 : SqT K H'' T' [x, y] := SqT.of hT3
        obtain ⟨d, hd, hdx⟩ := dpall_get ha hx
        obtain ⟨d', hd', hdy⟩ := dpall_get hb hy
        have ed : d' = d := Option.some.inj (hd'.symm.trans hd)
        subst ed
        have sm4 : Same H H'' := (sm.trans sm2).trans sm3
        have dx := dp_same sm4 hdx
        have dy := dp_same sm4 hdy
        have ft := hf'.2 _ (List.mem_of_getElem? hd)
        have hil : i < xs.length := (List.getElem?_eq_some_iff.mp hx).1
        have hdl := dpall_len ha
        have hlen : i ≤ 4000 := by omega
        walk_at "ev"
        intro H5 sm5
        have hD5 := sm5 _ _ (sm3 _ _ hD2)
        refine ⟨_, hD5, szm (by simp; omega), .mk ⟨same_mut ((sm2.trans sm3).trans sm5) hD, ?_⟩⟩
        rw [upd_same, List.replicate_succ', List.map_append]
        rfl
      · intro H' hP
        obtain ⟨sm2, hD2⟩ := hP.un
        refine ⟨D, List.replicate xs.length true, rfl, SqL.of hD2, ?_⟩
        rw [all_true]
        exact q _ (sm.trans sm2)
theorem ok_same {f : Addr} {fd : FuncData} (D__law_same : Df K mg "_law_same" s__law_same P__law_same f fd) (T : Blt mg) : ∀ n : Nat, FnOk P w K mg base CX0 (n + 1) f fd P__law_same (spSame K n)
  | 0 => same_step (spI := fun _ _ _ _ => False) D__law_same T ⟨fun _ _ _ _ h => h.elim, fun _ _ _ _ _ _ _ _ _ _ _ _ _ h => h.elim⟩ (fun m h => by omega)
  | n + 1 => same_step D__law_same T (ok_same D__law_same T n) (fun m h => by cases h; rfl)
end
/-! ### long division of rows, as the program walks it -/
def subAt (start : Nat) (top : Int) (bs : List Int) (r : List Int) : Nat → List Int
  | 0 => r
  | i + 1 => (subAt start top bs r i).set (start + i) ((subAt start top bs r i).getD (start + i) 0 - top * bs.getD i 0)
theorem subAt_len {start : Nat} {top : Int} {bs r : List Int} {i : Nat} : (subAt start top bs r i).length = r.length := by
  induction i with
  | zero => rfl
  | succ i ih => rw [subAt, List.length_set, ih]
def dvS (bs : List Int) (x : List Int × List Int) : List Int × List Int :=
  (subAt (x.1.length - 1 - (bs.length - 1)) (x.1.getD (x.1.length - 1) 0) bs x.1.dropLast (bs.length - 1), x.2 ++ [x.1.getD (x.1.length - 1) 0])
def dvN (bs : List Int) (row : List Int) : Nat → List Int × List Int
  | 0 => (row, [])
  | n + 1 => dvS bs (dvN bs row n)
theorem dvN_len {bs row : List Int} {n : Nat} : (dvN bs row n).1.length = row.length - n ∧ (dvN bs row n).2.length = n := by
  induction n with
  | zero => exact ⟨rfl, rfl⟩
  | succ n ih =>
    rw [dvN, dvS]
    refine ⟨?_, ?_⟩
    · show (subAt _ _ _ _ _).length = _
      rw [subAt_len, List.length_dropLast, ih.1]
      omega
    · show List.length (_ ++ _) = _
      rw [List.length_append, ih.2]
      rfl
theorem at_nat {xs : List V} {v : V} {i : Int} {j : Nat} (h : xs[j]? = some v) (e : i = (j : Int)) : atI xs i = some v := at_of (j := j) (by omega) (by rw [← h])
theorem at_map {ns : List Int} {i : Int} {j : Nat} (h : j < ns.length) (e : i = (j : Int)) : atI (ns.map V.int) i = some (.int (ns.getD j 0)) := by
  refine at_nat ?_ e
  rw [List.getElem?_map, List.getD_eq_getElem?_getD, List.getElem?_eq_getElem h]
  rfl
theorem ixn_of {n j : Nat} {i : Int} (h : j < n) (e : i = (j : Int)) : ixN n i = some j := by
  subst e
  unfold ixN
  simp [h]
theorem rep_len {n : Nat} {v : V} : (List.replicate n [v]).flatten.length = n := by
  induction n with
  | zero => rfl
  | succ n ih =>
    rw [List.replicate_succ, List.flatten_cons, List.length_append, ih]
    show 1 + n = n + 1
    omega
/-- the share of row by bs -/
def dvQ (bs row : List Int) : List Int := (dvN bs row (row.length - (bs.length - 1))).2.reverse
/-- the rest of row by bs -/
def dvR (bs row : List Int) : List Int := (dvN bs row (row.length - (bs.length - 1))).1 ++ List.replicate (bs.length - 1 - (dvN bs row (row.length - (bs.length - 1))).1.length) 0
theorem rep_flat2 {n : Nat} {v : V} : (List.replicate n [v]).flatten = List.replicate n v := by
  induction n with
  | zero => rfl
  | succ n ih =>
    rw [List.replicate_succ, List.flatten_cons, ih]
    rfl
section
open PySem.Spec PyProof.Rows
variable {P : Program} {w : World} {K : PySem.W.Frag} {mg : Str → Option Value} {base : Heap}
theorem fnsub {CX : CXT} {k : Nat} {f : Addr} {fd : FuncData} {ps : List Str} {sp sp1 : Sp} (G1 : FnOk P w K mg base CX k f fd ps sp1) (h : ∀ vs H Q E, sp vs H Q E → sp1 vs H Q E) : FnOk P w K mg base CX k f fd ps sp :=
  ⟨fun vs H Q E x => G1.len vs H Q E (h vs H Q E x), fun A outer s H args us vs Q E hr e0 hb r x => G1.run A outer s H args us vs Q E hr e0 hb r (h vs H Q E x)⟩
end
abbrev s_divided : Stmt := top 41
abbrev N_divided : List Str := ["row", "by", "degree", "rest", "falling", "top", "start", "at"]
abbrev P_divided : List Str := ["row", "by"]
theorem sc_divided : FnScope N_divided P_divided (defScope s_divided) := ⟨rfl, rfl, rfl, by decide +kernel, rfl, by decide +kernel, by decide +kernel⟩
def spDvd (K : PySem.W.Frag) : Sp := fun vs H Q _ => ∃ (a b : Addr) (row bs : List Int), vs = [.ref a, .ref b] ∧ SqL K H a (row.map V.int) ∧ SqL K H b (bs.map V.int) ∧ 1 ≤ bs.length ∧ bs.length ≤ 1000 ∧ row.length ≤ 1000 ∧ (∀ x ∈ bs, -1000000 ≤ x ∧ x ≤ 1000000) ∧
  ∀ t q z H', H q = none → Same H H' → SqT K H' t [.ref q, .ref z] → H' q = some (.lst ((dvQ bs row).map V.int)) → Q (.ref t) H'
def spDvd2 (K : PySem.W.Frag) : Sp := fun vs H Q _ => ∃ (a b : Addr) (row bs : List Int), vs = [.ref a, .ref b] ∧ SqL K H a (row.map V.int) ∧ (SqL K H b (bs.map V.int) ∨ SqT K H b (bs.map V.int)) ∧ 1 ≤ bs.length ∧ bs.length ≤ 1000 ∧ row.length ≤ 1000 ∧ (∀ x ∈ bs, -1000000 ≤ x ∧ x ≤ 1000000) ∧
  ∀ t q z H', H q = none → Same H H' → SqT K H' t [.ref q, .ref z] → H' q = some (.lst ((dvQ bs row).map V.int)) → H z = none → H' z = some (.lst ((dvR bs row).map V.int)) → Q (.ref t) H'
section
variable {P : Program} {w : World} {K : PySem.W.Frag} {mg : Str → Option Value} {base : Heap}
theorem ok_divided2 {f : Addr} {fd : FuncData} {k : Nat} (F : Fun K "divided" "divided" s_divided f fd) (T : Blt mg) : FnOk P w K mg base CX0 (k + 1) f fd P_divided (spDvd2 K) := by
  have nd := sc_divided.nd
  refine F.ok sc_divided (fun vs H Q E h => ?_) (fun cdv A outer s H vs Q E hr h => ?_)
  · obtain ⟨a, b, row, bs, rfl, _⟩ := h
    rfl
  · obtain ⟨a, b, row, bs, rfl, ha, hb, b1, b2, r1, hbb, q⟩ := h
    refine ⟨_, (pss_cons (ps_set (i := 2) nd rfl (Or.inl rfl) (pe_op op_sub (pe_callB (r := rLenQ K) call_len_seq (by rfl) T.b_len (by decide +kernel) (pa_cons (pv 1) pa_nil)) (pe_int)))
      (pss_cons (ps_set (i := 3) nd rfl (Or.inl rfl) (pe_callTy call_list_of (by rfl) T.b_list (by decide +kernel) (pa_cons (pv 0) pa_nil)))
      (pss_cons (ps_set (i := 4) nd rfl (Or.inl rfl) (pe_lst pa_nil))
      (pss_cons (ps_while PassesOwn.never (pt_cmpR op_gt (pe_callB (r := rLenQ K) call_len_seq (by rfl) T.b_len (by decide +kernel) (pa_cons (pv 3) pa_nil)) (pv 2) (nomark _))
      (pss_cons (ps_set (i := 5) nd rfl (Or.inl rfl) (pe_bm0 PySem.F.plainAttrs_list PySem.F.slot_list_pop PySem.F.type_list_pop mt_pop (pv 3)))
      (pss_cons (ps_expr (pe_bm PySem.F.plainAttrs_list PySem.F.slot_list_append PySem.F.type_list_append mt_append (pv 4) (pa_cons (pv 5) pa_nil)))
      (pss_cons (ps_set (i := 6) nd rfl (Or.inl rfl) (pe_op op_sub (pe_callB (r := rLenQ K) call_len_seq (by rfl) T.b_len (by decide +kernel) (pa_cons (pv 3) pa_nil)) (pv 2)))
      (pss_one (ps_for PassesOwn.never rfl (pi_range1 (by rfl) T.b_range (pa_cons (pv 2) pa_nil)) (pg_name (i := 7) nd rfl (Or.inl rfl))
      (pss_one (ps_augS (pv 3) (pe_op op_add (pv 6) (pv 7)) (get_list (X := _)) (pe_op op_mul (pv 5) (pe_ix (r := rIxQ K) ix_seq (pv 1) (pv 7) (fun _ _ => rfl))) ip_sub set_list))))))))
      (pss_one (ps_ret (pe_tup (pa_cons (pe_revL (pv 4)) (pa_cons (pe_op op_cat (pv 3) (pe_op op_rep (pe_lst (pa_cons (pe_int) pa_nil)) (pe_op op_sub (pv 2) (pe_callB (r := rLenQ K) call_len_seq (by rfl) T.b_len (by decide +kernel) (pa_cons (pv 3) pa_nil))))) pa_nil))))))))), ?_⟩
    walk_at "ev"
    intro l1 hl1
    generalize hG : upd _ l1 _ = H1
    obtain ⟨sm1, hq1⟩ := newO hG hl1
    clear hG
    walk_at "ev"
    intro l2 hl2
    generalize hG : upd _ l2 _ = H2
    obtain ⟨sm2, hq2⟩ := newO hG hl2
    clear hG
    have n12 : l1 ≠ l2 := ne_of_none hq1 hl2
    have f2 : H l2 = none := sm1.free hl2
    walk_at "ev"
    refine ⟨fun m σ H' => ∃ (n : Nat) (s5 s6 s7 : Option V), σ = [some (.ref a), some (.ref b), some (.int (((bs.map V.int).length : Int) - 1)), some (.ref l1), some (.ref l2), s5, s6, s7] ∧ m = row.length - n ∧ n ≤ row.length - (bs.length - 1) ∧ Same H H' ∧ H' l1 = some (.lst ((dvN bs row n).1.map V.int)) ∧ H' l2 = some (.lst ((dvN bs row n).2.map V.int)), ⟨_, 0, none, none, none, rfl, rfl, Nat.zero_le _, sm1.trans sm2, sm2 _ _ hq1, hq2⟩, ?_⟩
    rintro m σ H3 ⟨n, s5, s6, s7, rfl, rfl, hn, sm3, h1, h2⟩
    obtain ⟨e1, e2⟩ := dvN_len (bs := bs) (row := row) (n := n)
    have hL1 := SqL.of (K := K) h1
    walk_at "ev"
    refine ite2 (fun c => ?_) (fun c => ?_)
    · have c1 := of_decide_eq_true c
      simp only [List.length_map, e1] at c1
      refine ⟨_, holdN, ?_⟩
      have hy : ((dvN bs row n).1.map V.int)[((dvN bs row n).1.map V.int).length - 1]? = some (.int ((dvN bs row n).1.getD ((dvN bs row n).1.length - 1) 0)) := by
        rw [List.getElem?_map, List.length_map, List.getD_eq_getElem?_getD, List.getElem?_eq_getElem (by omega)]
        rfl
      have etop : ∃ top, (dvN bs row n).1.getD ((dvN bs row n).1.length - 1) 0 = top := ⟨_, rfl⟩
      obtain ⟨top, htop⟩ := etop
      rw [htop] at hy
      walk_at "ev"
      generalize hG : upd _ l1 _ = H4
      obtain ⟨k4, hq4⟩ := mutO hG
      have sm4 : Same H H4 := by rw [← hG]; exact same_mut sm3 hl1
      clear hG
      have h24 := k4 _ _ n12.symm h2
      have h14 : upd H4 l2 (.lst ((dvN bs row n).2.map V.int ++ [.int top])) l1 = some (.lst ((dvN bs row n).1.map V.int).dropLast) := by
        rw [upd_ne n12]
        exact hq4
      have hL5 := SqL.of (K := K) h14
      walk_at "ev"
      generalize hG : upd H4 l2 _ = H5
      have sm5 : Same H H5 := by rw [← hG]; exact same_mut sm4 f2
      have h25 := (mutO hG).2
      rw [hG] at h14
      clear hG hL5
      have edl : ((dvN bs row n).1.map V.int).dropLast = (dvN bs row n).1.dropLast.map V.int := by
        rw [List.map_dropLast]
      rw [edl] at h14
      refine for_range (lo := 0) (n := (((bs.map V.int).length : Int) - 1).toNat) (fun i σ H' => Hold (∃ s7, σ = [some (.ref a), some (.ref b), some (.int (((bs.map V.int).length : Int) - 1)), some (.ref l1), some (.ref l2), some (.int top), some (.int (((((dvN bs row n).1.map V.int).dropLast).length : Int) - (((bs.map V.int).length : Int) - 1))), s7] ∧ Same H H' ∧ H' l1 = some (.lst ((subAt ((dvN bs row n).1.length - 1 - (bs.length - 1)) top bs (dvN bs row n).1.dropLast i).map V.int)) ∧ H' l2 = some (.lst ((dvN bs row n).2.map V.int ++ [.int top])))) (.mk ⟨_, rfl, sm5, h14, h25⟩) ?_ ?_
      · intro i σ H6 hi hP
        obtain ⟨s7, rfl, sm6, h16, h26⟩ := hP.un
        have hi1 : i < bs.length - 1 := by
          rw [List.length_map] at hi
          omega
        have hb6 := sq_same sm6 hb
        have hL6 := SqL.of (K := K) h16
        have hsl := subAt_len (start := (dvN bs row n).1.length - 1 - (bs.length - 1)) (top := top) (bs := bs) (r := (dvN bs row n).1.dropLast) (i := i)
        rw [List.length_dropLast] at hsl
        have eix : ((((dvN bs row n).1.map V.int).dropLast).length : Int) - (((bs.map V.int).length : Int) - 1) + (0 + (i : Int)) = (((dvN bs row n).1.length - 1 - (bs.length - 1) + i : Nat) : Int) := by
          rw [List.length_dropLast, List.length_map, List.length_map]
          omega
        have hlt : (dvN bs row n).1.length - 1 - (bs.length - 1) + i < (dvN bs row n).1.length - 1 := by omega
        have at1 : atI ((subAt ((dvN bs row n).1.length - 1 - (bs.length - 1)) top bs (dvN bs row n).1.dropLast i).map V.int) (((((dvN bs row n).1.map V.int).dropLast).length : Int) - (((bs.map V.int).length : Int) - 1) + (0 + (i : Int))) = some (.int ((subAt ((dvN bs row n).1.length - 1 - (bs.length - 1)) top bs (dvN bs row n).1.dropLast i).getD ((dvN bs row n).1.length - 1 - (bs.length - 1) + i) 0)) := by
          refine at_nat ?_ eix
          rw [List.getElem?_map, List.getD_eq_getElem?_getD, List.getElem?_eq_getElem (by omega)]
          rfl
        have hix : ixN ((subAt ((dvN bs row n).1.length - 1 - (bs.length - 1)) top bs (dvN bs row n).1.dropLast i).map V.int).length (((((dvN bs row n).1.map V.int).dropLast).length : Int) - (((bs.map V.int).length : Int) - 1) + (0 + (i : Int))) = some ((dvN bs row n).1.length - 1 - (bs.length - 1) + i) := by
          exact ixn_of (by rw [List.length_map]; omega) eix
        have at2 : atI (bs.map V.int) (0 + (i : Int)) = some (.int (bs.getD i 0)) := by
          refine at_nat (j := i) ?_ (by omega)
          rw [List.getElem?_map, List.getD_eq_getElem?_getD, List.getElem?_eq_getElem (by omega)]
          rfl
        have hbi : -1000000 ≤ bs.getD i 0 ∧ bs.getD i 0 ≤ 1000000 := by
          rw [List.getD_eq_getElem?_getD, List.getElem?_eq_getElem (by omega)]
          exact hbb _ (List.getElem_mem _)
        have cm : CMul top (bs.getD i 0) := .inr ⟨by omega, by omega⟩
        walk_at "ev"
        refine .mk ⟨_, rfl, same_mut sm6 hl1, ?_, ?_⟩
        · rw [upd_same, subAt, List.map_set]
        · rw [upd_ne n12.symm]
          exact h26
      · intro σ H6 hP
        obtain ⟨s7, rfl, sm6, h16, h26⟩ := hP.un
        have edg : (((bs.map V.int).length : Int) - 1).toNat = bs.length - 1 := by
          rw [List.length_map]
          omega
        rw [edg] at h16
        refine .mk ⟨row.length - (n + 1), by omega, n + 1, _, _, _, rfl, rfl, by omega, sm6, ?_, ?_⟩
        · rw [h16, dvN, dvS, htop]
        · rw [h26, dvN, dvS, htop]
          show _ = some (HO.lst (List.map _ (_ ++ _)))
          rw [List.map_append]
          rfl
    · have c1 : ¬ _ := fun z => c (decide_eq_true z)
      simp only [List.length_map, e1] at c1
      have hL2 := SqL.of (K := K) h2
      have en : n = row.length - (bs.length - 1) := by omega
      walk_at "ev"
      intro q1 hq
      generalize hG : upd _ q1 _ = H4
      obtain ⟨sm4, hq4⟩ := newO hG hq
      clear hG
      have hL4 := sm4.seq hL1
      walk_at "ev"
      intro l5 hl5
      generalize hG : upd _ l5 _ = H5
      obtain ⟨sm5, hq5⟩ := newO hG hl5
      clear hG
      have hL5 := sm5.seq hL4
      have z1 : ([V.int 0] : List V).length * ((((bs.map V.int).length : Int) - 1) - (((dvN bs row n).1.map V.int).length : Int)).toNat ≤ sizeLine := szl (by rw [List.length_map, List.length_map]; show 1 * _ ≤ 60000; omega)
      have z2 : -(2 ^ 63) ≤ (((bs.map V.int).length : Int) - 1) - (((dvN bs row n).1.map V.int).length : Int) := by rw [List.length_map, List.length_map]; omega
      have z3 : (((bs.map V.int).length : Int) - 1) - (((dvN bs row n).1.map V.int).length : Int) < 2 ^ 63 := by rw [List.length_map, List.length_map]; omega
      walk_at "ev"
      intro l6 hl6
      generalize hG : upd _ l6 _ = H6
      obtain ⟨sm6, hq6⟩ := newO hG hl6
      clear hG
      have h16 := (sm4.trans (sm5.trans sm6)) _ _ h1
      have z4 : ((dvN bs row n).1.map V.int).length + (List.replicate ((((bs.map V.int).length : Int) - 1) - (((dvN bs row n).1.map V.int).length : Int)).toNat [V.int 0]).flatten.length ≤ sizeLine := szl (by
        rw [rep_len, List.length_map, List.length_map]
        show _ ≤ 60000
        omega)
      walk_at "ev"
      intro l7 hl7
      generalize hG : upd _ l7 _ = H7
      obtain ⟨sm7, hq7⟩ := newO hG hl7
      clear hG
      walk_at "ev"
      intro t8 ht8
      generalize hG : upd _ t8 _ = H8
      obtain ⟨sm8, hq8⟩ := newO hG ht8
      clear hG
      have s48 := sm5.trans (sm6.trans (sm7.trans sm8))
      refine q t8 q1 l7 H8 (sm3.free hq) (sm3.trans (sm4.trans s48)) (SqT.of hq8) ?_ ((sm3.trans (sm4.trans (sm5.trans sm6))).free hl7) ?_
      · rw [s48 _ _ hq4, dvQ, ← en, List.map_reverse]
      · rw [sm8 _ _ hq7, dvR, ← en, List.map_append, rep_flat2, List.map_replicate, List.length_map, List.length_map]
        congr 4
        omega
theorem ok_divided {f : Addr} {fd : FuncData} {k : Nat} (F : Fun K "divided" "divided" s_divided f fd) (T : Blt mg) : FnOk P w K mg base CX0 (k + 1) f fd P_divided (spDvd K) :=
  fnsub (ok_divided2 F T) fun vs H Q E ⟨a, b, row, bs, h1, h2, h3, h4, h5, h6, h7, q⟩ => ⟨a, b, row, bs, h1, h2, .inl h3, h4, h5, h6, h7, fun t y z H' e1 e2 e3 e4 _ _ => q t y z H' e1 e2 e3 e4⟩
end
/-! ### wheels to thirty, by a table -/
def WT : List (List Int) := [[], [-1, 1], [1, 1], [1, 1, 1], [1, 0, 1], [1, 1, 1, 1, 1], [1, -1, 1], [1, 1, 1, 1, 1, 1, 1], [1, 0, 0, 0, 1], [1, 0, 0, 1, 0, 0, 1], [1, -1, 1, -1, 1], [1, 1, 1, 1, 1, 1, 1, 1, 1, 1, 1], [1, 0, -1, 0, 1], [1, 1, 1, 1, 1, 1, 1, 1, 1, 1, 1, 1, 1], [1, -1, 1, -1, 1, -1, 1], [1, -1, 0, 1, -1, 1, 0, -1, 1], [1, 0, 0, 0, 0, 0, 0, 0, 1], [1, 1, 1, 1, 1, 1, 1, 1, 1, 1, 1, 1, 1, 1, 1, 1, 1], [1, 0, 0, -1, 0, 0, 1], [1, 1, 1, 1, 1, 1, 1, 1, 1, 1, 1, 1, 1, 1, 1, 1, 1, 1, 1], [1, 0, -1, 0, 1, 0, -1, 0, 1], [1, -1, 0, 1, -1, 0, 1, 0, -1, 1, 0, -1, 1], [1, -1, 1, -1, 1, -1, 1, -1, 1, -1, 1], [1, 1, 1, 1, 1, 1, 1, 1, 1, 1, 1, 1, 1, 1, 1, 1, 1, 1, 1, 1, 1, 1, 1], [1, 0, 0, 0, -1, 0, 0, 0, 1], [1, 0, 0, 0, 0, 1, 0, 0, 0, 0, 1, 0, 0, 0, 0, 1, 0, 0, 0, 0, 1], [1, -1, 1, -1, 1, -1, 1, -1, 1, -1, 1, -1, 1], [1, 0, 0, 0, 0, 0, 0, 0, 0, 1, 0, 0, 0, 0, 0, 0, 0, 0, 1], [1, 0, -1, 0, 1, 0, -1, 0, 1, 0, -1, 0, 1], [1, 1, 1, 1, 1, 1, 1, 1, 1, 1, 1, 1, 1, 1, 1, 1, 1, 1, 1, 1, 1, 1, 1, 1, 1, 1, 1, 1, 1], [1, 1, 0, -1, -1, -1, 0, 1, 1]]
def whl (n : Nat) : List Int := WT.getD n []
def pdv (n : Nat) : List Nat := (List.range' 1 (n - 1)).filter fun d => decide (n % d = 0)
def whS (n : Nat) : List Int := [-1] ++ List.replicate (n - 1) 0 ++ [1]
theorem whl_ok : ∀ n < 31, 1 ≤ n → (pdv n).foldl (fun t d => dvQ (whl d) t) (whS n) = whl n := by decide +kernel
theorem whl_len : ∀ n < 31, 1 ≤ n → 1 ≤ (whl n).length ∧ (whl n).length ≤ 31 := by decide +kernel
theorem whl_bnd : ∀ n < 31, ∀ x ∈ whl n, -1000000 ≤ x ∧ x ≤ 1000000 := by decide +kernel
theorem dvQ_len {bs row : List Int} : (dvQ bs row).length ≤ row.length := by
  unfold dvQ
  rw [List.length_reverse, dvN_len.2]
  omega
theorem pdv_dv {n : Nat} (h : 1 ≤ n) : IsDv (n : Int) ((pdv n ++ [n]).map Int.ofNat) := by
  refine ⟨?_, fun k => ?_⟩
  · rw [List.pairwise_map, List.pairwise_append]
    refine ⟨?_, List.pairwise_singleton _ _, fun x hx y hy => ?_⟩
    · refine (List.Pairwise.filter _ (List.pairwise_lt_range' (s := 1) (n := n - 1))).imp fun {x y} z => ?_
      exact Int.ofNat_lt.mpr z
    · have h1 := (List.mem_filter.mp hx).1
      rw [List.mem_range'_1] at h1
      rw [List.mem_singleton.mp hy]
      exact Int.ofNat_lt.mpr (by omega)
  · rw [List.mem_map]
    constructor
    · rintro ⟨x, hx, rfl⟩
      rcases List.mem_append.mp hx with z | z
      · obtain ⟨h1, h2⟩ := List.mem_filter.mp z
        rw [List.mem_range'_1] at h1
        exact ⟨Int.ofNat_le.mpr h1.1, Int.ofNat_dvd.mpr (Nat.dvd_of_mod_eq_zero (of_decide_eq_true h2))⟩
      · rw [List.mem_singleton.mp z]
        exact ⟨Int.ofNat_le.mpr h, Int.dvd_refl _⟩
    · rintro ⟨h1, h2⟩
      obtain ⟨m, rfl⟩ := Int.eq_ofNat_of_zero_le (show 0 ≤ k by omega)
      have h3 : m ∣ n := Int.ofNat_dvd.mp h2
      have h4 := Nat.le_of_dvd (by omega) h3
      refine ⟨m, List.mem_append.mpr ?_, rfl⟩
      by_cases c : m = n
      · exact .inr (by rw [c]; exact List.mem_singleton.mpr rfl)
      · refine .inl (List.mem_filter.mpr ⟨?_, decide_eq_true (Nat.mod_eq_zero_of_dvd h3)⟩)
        rw [List.mem_range'_1]
        omega
theorem rep_flat {n : Nat} {v : V} : (List.replicate n [v]).flatten = List.replicate n v := by
  induction n with
  | zero => rfl
  | succ n ih =>
    rw [List.replicate_succ, List.flatten_cons, ih]
    rfl
theorem cut_last {xs : List V} {v : V} : cutV (xs ++ [v]) none (some (-1)) = xs := by
  unfold cutV
  have e : HT.sIx (xs ++ [v]).length (xs ++ [v]).length (some (-1)) = xs.length := by
    simp [HT.sIx]
    try omega
  have e0 : HT.sIx (xs ++ [v]).length 0 none = 0 := by simp [HT.sIx]
  rw [e, e0, List.drop_zero, Nat.sub_zero, List.take_left]
abbrev s_wheel : Stmt := top 42
abbrev N_wheel : List Str := ["order", "told", "divisor"]
abbrev P_wheel : List Str := ["order"]
theorem sc_wheel : FnScope N_wheel P_wheel (defScope s_wheel) := ⟨rfl, rfl, rfl, by decide +kernel, rfl, by decide +kernel, by decide +kernel⟩
def spWheel (j : Nat) : Sp := fun vs H Q _ => ∃ (n : Nat), vs = [.int (n : Int)] ∧ 1 ≤ n ∧ n < 31 ∧ n < 2 ^ j ∧ ∀ l H', H l = none → Same H H' → H' l = some (.lst ((whl n).map V.int)) → Q (.ref l) H'
section
variable {P : Program} {w : World} {K : PySem.W.Frag} {mg : Str → Option Value} {base : Heap}
theorem wheel_step {f f1 f2 : Addr} {fd d1 d2 : FuncData} {j : Nat} (D_wheel : Df K mg "wheel" s_wheel P_wheel f fd) (T : Blt mg) (D_divisors : Df K mg "divisors" s_divisors P_divisors f1 d1) (D_divided : Df K mg "divided" s_divided P_divided f2 d2)
    (G_wheel : FnOk P w K mg base CX0 (j + 1) f fd P_wheel (spWheel j)) : FnOk P w K mg base CX0 (j + 2) f fd P_wheel (spWheel (j + 1)) := by
  have F := D_wheel.F
  have G_divisors : FnOk P w K mg base CX0 1 f1 d1 P_divisors spDiv := ok_divisors D_divisors.F T
  have G_divided : FnOk P w K mg base CX0 1 f2 d2 P_divided (spDvd K) := ok_divided D_divided.F T
  have nd := sc_wheel.nd
  refine F.ok sc_wheel (fun vs H Q E h => ?_) (fun cdv A outer s H vs Q E hr h => ?_)
  · obtain ⟨n, rfl, _⟩ := h
    rfl
  · obtain ⟨n, rfl, n1, n31, nj, q⟩ := h
    refine ⟨_, (pss_cons (ps_set (i := 1) nd rfl (Or.inl rfl) (pe_op op_cat (pe_op op_cat (pe_lst (pa_cons (pe_un un_neg (pe_int)) pa_nil)) (pe_op op_rep (pe_lst (pa_cons (pe_int) pa_nil)) (pe_op op_sub (pv 0) (pe_int)))) (pe_lst (pa_cons (pe_int) pa_nil))))
      (pss_cons (ps_for PassesOwn.never rfl (pi_list (pe_slice (r := rSlL K) sl_list (pe_call G_divisors (hr.mono (by omega)) (by rfl) D_divisors.g D_divisors.F.kp D_divisors.b .nil pass0 (pa_cons (pv 0) pa_nil)) po_none (po_some (pe_un un_neg (pe_int))))) (pg_name (i := 2) nd rfl (Or.inl rfl))
      (pss_one (ps_set (i := 1) nd rfl (Or.inl rfl) (pe_ix (r := rIxT K) ix_tup (pe_call G_divided (hr.mono (by omega)) (by rfl) D_divided.g D_divided.F.kp D_divided.b .nil pass0 (pa_cons (pv 1) (pa_cons (pe_call G_wheel (hr.mono (by omega)) (by rfl) D_wheel.g D_wheel.F.kp D_wheel.b .nil pass0 (pa_cons (pv 2) pa_nil)) pa_nil))) (pe_int) (fun _ _ => rfl)))))
      (pss_one (ps_ret (pv 1))))), ?_⟩
    walk_at "ev"
    intro l1 hl1
    generalize hG : upd _ l1 _ = H1
    obtain ⟨sm1, hq1⟩ := newO hG hl1
    clear hG
    walk_at "ev"
    intro l2 hl2
    generalize hG : upd _ l2 _ = H2
    obtain ⟨sm2, hq2⟩ := newO hG hl2
    clear hG
    have z1 : ([V.int 0] : List V).length * ((n : Int) - 1).toNat ≤ sizeLine := szl (by show 1 * _ ≤ 60000; omega)
    walk_at "ev"
    intro l3 hl3
    generalize hG : upd _ l3 _ = H3
    obtain ⟨sm3, hq3⟩ := newO hG hl3
    clear hG
    have h13 := (sm2.trans sm3) _ _ hq1
    have z2 : ([(fun i => V.int (-i)) 1] : List V).length + (List.replicate ((n : Int) - 1).toNat [V.int 0]).flatten.length ≤ sizeLine := szl (by rw [rep_len]; show 1 + _ ≤ 60000; omega)
    walk_at "ev"
    intro l4 hl4
    generalize hG : upd _ l4 _ = H4
    obtain ⟨sm4, hq4⟩ := newO hG hl4
    clear hG
    walk_at "ev"
    intro l5 hl5
    generalize hG : upd _ l5 _ = H5
    obtain ⟨sm5, hq5⟩ := newO hG hl5
    clear hG
    have h45 := sm5 _ _ hq4
    have z3 : ([(fun i => V.int (-i)) 1] ++ (List.replicate ((n : Int) - 1).toNat [V.int 0]).flatten).length + ([V.int 1] : List V).length ≤ sizeLine := szl (by rw [List.length_append, rep_len]; show 1 + _ + 1 ≤ 60000; omega)
    walk_at "ev"
    intro l6 hl6
    generalize hG : upd _ l6 _ = H6
    obtain ⟨sm6, hq6⟩ := newO hG hl6
    clear hG
    have ew : [(fun i => V.int (-i)) 1] ++ (List.replicate ((n : Int) - 1).toNat [V.int 0]).flatten ++ [V.int 1] = (whS n).map V.int := by
      unfold whS
      rw [List.map_append, List.map_append, show ((n : Int) - 1).toNat = n - 1 by omega, List.map_replicate, rep_flat]
      rfl
    rw [ew] at hq6
    have s06 := sm1.trans (sm2.trans (sm3.trans (sm4.trans (sm5.trans sm6))))
    have f6 : H l6 = none := (sm1.trans (sm2.trans (sm3.trans (sm4.trans sm5)))).free hl6
    walk_at "ev"
    intro ds l7 H7 hdv hl7 sm7 hq7
    have eds := hdv.uniq (pdv_dv n1)
    subst eds
    have hL7 := SqL.of (K := K) hq7
    walk_at "ev"
    intro l8 hl8
    generalize hG : upd _ l8 _ = H8
    obtain ⟨sm8, hq8⟩ := newO hG hl8
    clear hG
    have ec : cutV (((pdv n ++ [n]).map Int.ofNat).map V.int) none (some (-1)) = (pdv n).map fun (d : Nat) => V.int (d : Int) := by
      rw [List.map_map, List.map_append]
      exact cut_last
    have hq8' : H8 l8 = some (.lst ((pdv n).map fun (d : Nat) => V.int (d : Int))) := by
      rw [hq8, ← ec]
    clear hq8
    have s08 := s06.trans (sm7.trans sm8)
    have f8 : H l8 = none := (s06.trans sm7).free hl8
    refine ⟨l8, rfl, ⟨_, SqL.of hq8'⟩, ?_⟩
    refine for_list (K := K) (a := l8) (xs := (pdv n).map fun (d : Nat) => V.int (d : Int)) (fun i σ H' => Hold (∃ (lt : Addr) (s2 : Option V), σ = [some (.int (n : Int)), some (.ref lt), s2] ∧ H lt = none ∧ Same H H' ∧ H' l8 = some (.lst ((pdv n).map fun (d : Nat) => V.int (d : Int))) ∧ (((pdv n).take i).foldl (fun t d => dvQ (whl d) t) (whS n)).length ≤ 1000 ∧ H' lt = some (.lst ((((pdv n).take i).foldl (fun t d => dvQ (whl d) t) (whS n)).map V.int)))) (.mk ⟨l6, _, rfl, f6, s08, hq8', ?_, (sm7.trans sm8) _ _ hq6⟩) ?_ ?_ ?_
    · show (whS n).length ≤ 1000
      unfold whS
      rw [List.length_append, List.length_append, List.length_replicate]
      show 1 + (n - 1) + 1 ≤ 1000
      omega
    · intro i σ Hx hi hP
      obtain ⟨lt, s2, rfl, ft, smx, hx8, hlen, hxt⟩ := hP.un
      exact SqL.of hx8
    · intro i v σ Hx hv hP
      obtain ⟨lt, s2, rfl, ft, smx, hx8, hlen, hxt⟩ := hP.un
      rw [List.getElem?_map] at hv
      obtain ⟨d, hd, ev⟩ := Option.map_eq_some_iff.mp hv
      subst ev
      obtain ⟨hd1, hd2⟩ := List.mem_filter.mp (List.mem_of_getElem? hd)
      rw [List.mem_range'_1] at hd1
      have hd3 := of_decide_eq_true hd2
      have hdn : 2 * d ≤ n := by
        obtain ⟨c, hc⟩ := Nat.dvd_of_mod_eq_zero hd3
        have c2 : 2 ≤ c := by
          apply Nat.le_of_not_lt
          intro z
          have : c = 0 ∨ c = 1 := by omega
          rcases this with z | z <;> subst z <;> omega
        have := Nat.mul_le_mul_left d c2
        omega
      have hdj : d < 2 ^ j := by
        rw [Nat.pow_succ] at nj
        omega
      have hd31 : d < 31 := by omega
      have hd0 : 1 ≤ d := hd1.1
      have hLt := SqL.of (K := K) hxt
      obtain ⟨wl1, wl2⟩ := whl_len d hd31 hd0
      have wl3 : (whl d).length ≤ 1000 := by omega
      have wb := whl_bnd d hd31
      walk_at "ev"
      intro lw H9 hlw sm9 hq9
      have hLw := SqL.of (K := K) hq9
      have hLt9 := sm9.seq hLt
      have et : ((pdv n).take (i + 1)).foldl (fun t d => dvQ (whl d) t) (whS n) = dvQ (whl d) (((pdv n).take i).foldl (fun t d => dvQ (whl d) t) (whS n)) := by
        rw [List.take_succ, hd, List.foldl_append]
        rfl
      have el := dvQ_len (bs := whl d) (row := ((pdv n).take i).foldl (fun t d => dvQ (whl d) t) (whS n))
      walk_at "ev"
      intro t10 q10 z10 H10 hq sm10 hT hq10
      have at0 : atI [V.ref q10, V.ref z10] 0 = some (.ref q10) := rfl
      walk_at "ev"
      refine .mk ⟨q10, _, rfl, (smx.trans sm9).free hq, smx.trans (sm9.trans sm10), (sm9.trans sm10) _ _ hx8, ?_, ?_⟩
      · rw [et]
        omega
      · rw [et]
        exact hq10
    · intro σ Hx hP
      obtain ⟨lt, s2, rfl, ft, smx, hx8, hlen, hxt⟩ := hP.un
      rw [List.length_map, List.take_length, whl_ok n n31 n1] at hxt
      walk_at "ev"
      exact q lt Hx ft smx hxt
theorem ok_wheel {f f1 f2 : Addr} {fd d1 d2 : FuncData} (D_wheel : Df K mg "wheel" s_wheel P_wheel f fd) (T : Blt mg) (D_divisors : Df K mg "divisors" s_divisors P_divisors f1 d1) (D_divided : Df K mg "divided" s_divided P_divided f2 d2) : ∀ j : Nat, FnOk P w K mg base CX0 (j + 1) f fd P_wheel (spWheel j)
  | 0 => ⟨fun _ _ _ _ ⟨n, _, h1, _, h2, _⟩ => absurd h2 (by rw [Nat.pow_zero]; omega), fun _ _ _ _ _ _ _ _ _ _ _ _ _ ⟨n, _, h1, _, h2, _⟩ => absurd h2 (by rw [Nat.pow_zero]; omega)⟩
  | j + 1 => wheel_step D_wheel T D_divisors D_divided (ok_wheel D_wheel T D_divisors D_divided j)
end
/-! ### the law's own dividing -/
def ldN (bs row : List Int) : Nat → List Int × List Int
  | 0 => (row, [])
  | n + 1 => (subAt (row.length - bs.length - n) ((ldN bs row n).1.getD (row.length - bs.length - n + bs.length - 1) 0) bs (ldN bs row n).1 bs.length, (ldN bs row n).2 ++ [(ldN bs row n).1.getD (row.length - bs.length - n + bs.length - 1) 0])
theorem ldN_len {bs row : List Int} {n : Nat} : (ldN bs row n).1.length = row.length ∧ (ldN bs row n).2.length = n := by
  induction n with
  | zero => exact ⟨rfl, rfl⟩
  | succ n ih =>
    rw [ldN]
    refine ⟨?_, ?_⟩
    · show (subAt _ _ _ _ _).length = _
      rw [subAt_len, ih.1]
    · show List.length (_ ++ _) = _
      rw [List.length_append, ih.2]
      rfl
def ldQ (bs row : List Int) : List Int := (ldN bs row (row.length + 1 - bs.length)).2.reverse
theorem ldQ_len {bs row : List Int} (h : 1 ≤ bs.length) : (ldQ bs row).length ≤ row.length := by
  unfold ldQ
  rw [List.length_reverse, ldN_len.2]
  omega
abbrev s__law_divided : Stmt := top 53
abbrev N__law_divided : List Str := ["_law_top", "_law_low", "_law_rest", "_law_found", "_law_place", "_law_many", "_law_spot", "_law_number"]
abbrev P__law_divided : List Str := ["_law_top", "_law_low"]
theorem sc__law_divided : FnScope N__law_divided P__law_divided (defScope s__law_divided) := ⟨rfl, rfl, rfl, by decide +kernel, rfl, by decide +kernel, by decide +kernel⟩
def spLdv (K : PySem.W.Frag) : Sp := fun vs H Q _ => ∃ (a b : Addr) (row bs : List Int), vs = [.ref a, .ref b] ∧ SqL K H a (row.map V.int) ∧ SqL K H b (bs.map V.int) ∧ 1 ≤ bs.length ∧ bs.length ≤ 1000 ∧ row.length ≤ 1000 ∧ (∀ x ∈ bs, -1000000 ≤ x ∧ x ≤ 1000000) ∧
  ∀ q H', H q = none → Same H H' → H' q = some (.lst ((ldQ bs row).map V.int)) → Q (.ref q) H'
section
variable {P : Program} {w : World} {K : PySem.W.Frag} {mg : Str → Option Value} {base : Heap}
theorem ok_ldv {f : Addr} {fd : FuncData} {k : Nat} (F : Fun K "_law_divided" "_law_divided" s__law_divided f fd) (T : Blt mg) : FnOk P w K mg base CX0 (k + 1) f fd P__law_divided (spLdv K) := by
  have nd := sc__law_divided.nd
  refine F.ok sc__law_divided (fun vs H Q E h => ?_) (fun cdv A outer s H vs Q E hr h => ?_)
  · obtain ⟨a, b, row, bs, rfl, _⟩ := h
    rfl
  · obtain ⟨a, b, row, bs, rfl, ha, hb, b1, b2, r1, hbb, q⟩ := h
    refine ⟨_, (pss_cons (ps_par (i := 2) (j := 3) (by rfl) nd rfl rfl (by decide) rfl rfl (pa_cons (pe_callTy call_list_of (by rfl) T.b_list (by decide +kernel) (pa_cons (pv 0) pa_nil)) (pa_cons (pe_lst pa_nil) pa_nil)) (by rfl))
      (pss_cons (ps_for PassesOwn.never rfl (pi_range3 (by rfl) T.b_range (pa_cons (pe_op op_sub (pe_callB (r := rLenQ K) call_len_seq (by rfl) T.b_len (by decide +kernel) (pa_cons (pv 0) pa_nil)) (pe_callB (r := rLenQ K) call_len_seq (by rfl) T.b_len (by decide +kernel) (pa_cons (pv 1) pa_nil))) (pa_cons (pe_un un_neg (pe_int)) (pa_cons (pe_un un_neg (pe_int)) pa_nil)))) (pg_name (i := 4) nd rfl (Or.inl rfl))
      (pss_cons (ps_set (i := 5) nd rfl (Or.inl rfl) (pe_ix (r := rIxL K) ix_list (pv 2) (pe_op op_sub (pe_op op_add (pv 4) (pe_callB (r := rLenQ K) call_len_seq (by rfl) T.b_len (by decide +kernel) (pa_cons (pv 1) pa_nil))) (pe_int)) (fun _ _ => rfl)))
      (pss_cons (ps_expr (pe_bm PySem.F.plainAttrs_list PySem.F.slot_list_append PySem.F.type_list_append mt_append (pv 3) (pa_cons (pv 5) pa_nil)))
      (pss_one (ps_for PassesOwn.never rfl (pi_enum (by rfl) T.b_enumerate (pa_cons (pv 1) pa_nil)) (pg_tup (by rfl) (pgs_cons (pg_name (i := 6) nd rfl (Or.inl rfl)) (pgs_cons (pg_name (i := 7) nd rfl (Or.inl rfl)) pgs_nil)))
      (pss_one (ps_asg (pe_op op_sub (pe_ix (r := rIxL K) ix_list (pv 2) (pe_op op_add (pv 4) (pv 6)) (fun _ _ => rfl)) (pe_op op_mul (pv 5) (pv 7))) (pg_sub (pv 2) (pe_op op_add (pv 4) (pv 6)) set_list))))))))
      (pss_one (ps_ret (pe_revL (pv 3)))))), ?_⟩
    walk_at "ev"
    intro l1 hl1
    generalize hG : upd _ l1 _ = H1
    obtain ⟨sm1, hq1⟩ := newO hG hl1
    clear hG
    walk_at "ev"
    intro l2 hl2
    generalize hG : upd _ l2 _ = H2
    obtain ⟨sm2, hq2⟩ := newO hG hl2
    clear hG
    have n12 : l1 ≠ l2 := ne_of_none hq1 hl2
    have f2 : H l2 = none := sm1.free hl2
    have sm02 := sm1.trans sm2
    have ha2 := sm02.seq ha
    have hb2 := sm02.seq hb
    have rg : RgC (((row.map V.int).length : Int) - ((bs.map V.int).length : Int)) (-1) (-1) ((((row.map V.int).length : Int) - ((bs.map V.int).length : Int)) - (-1)).toNat := RgC.neg (by rw [List.length_map, List.length_map]; omega) (by rw [List.length_map, List.length_map]; omega) (by decide) (by decide)
    walk_at "ev"
    have en : ((((row.map V.int).length : Int) - ((bs.map V.int).length : Int)) - (-1)).toNat = row.length + 1 - bs.length := by
      rw [List.length_map, List.length_map]
      omega
    refine for_rangeC (lo := _) (c := _) (n := _) (fun n σ H' => Hold (∃ (s4 s5 s6 s7 : Option V), σ = [some (.ref a), some (.ref b), some (.ref l1), some (.ref l2), s4, s5, s6, s7] ∧ Same H H' ∧ H' l1 = some (.lst ((ldN bs row n).1.map V.int)) ∧ H' l2 = some (.lst ((ldN bs row n).2.map V.int)))) (.mk ⟨none, none, none, none, rfl, sm02, sm2 _ _ hq1, hq2⟩) ?_ ?_
    · intro n σ H3 hn hP
      obtain ⟨s4, s5, s6, s7, rfl, sm3, h1, h2⟩ := hP.un
      rw [en] at hn
      obtain ⟨e1, e2⟩ := ldN_len (bs := bs) (row := row) (n := n)
      have hL1 := SqL.of (K := K) h1
      have hb3 := sm3.seq hb
      have epl : (((row.map V.int).length : Int) - ((bs.map V.int).length : Int)) + (n : Nat) * (-1) = ((row.length - bs.length - n : Nat) : Int) := by
        rw [List.length_map, List.length_map]
        omega
      rw [epl]
      have at1 : atI ((ldN bs row n).1.map V.int) (((row.length - bs.length - n : Nat) : Int) + ((bs.map V.int).length : Int) - 1) = some (.int ((ldN bs row n).1.getD (row.length - bs.length - n + bs.length - 1) 0)) := at_map (by omega) (by rw [List.length_map]; omega)
      obtain ⟨top, htop⟩ : ∃ top, (ldN bs row n).1.getD (row.length - bs.length - n + bs.length - 1) 0 = top := ⟨_, rfl⟩
      rw [htop] at at1
      walk_at "ev"
      generalize hG : upd _ l2 _ = H4
      obtain ⟨k4, hq4⟩ := mutO hG
      have sm4 : Same H H4 := by rw [← hG]; exact same_mut sm3 f2
      clear hG
      have h14 := k4 _ _ n12 h1
      have hb4 := sm4.seq hb
      refine ⟨hb4, for_enumL (K := K) (a := b) (xs := bs.map V.int) (fun i σ H' => Hold (∃ (s6 s7 : Option V), σ = [some (.ref a), some (.ref b), some (.ref l1), some (.ref l2), some (.int ((row.length - bs.length - n : Nat) : Int)), some (.int top), s6, s7] ∧ Same H H' ∧ H' l1 = some (.lst ((subAt (row.length - bs.length - n) top bs (ldN bs row n).1 i).map V.int)) ∧ H' l2 = some (.lst ((ldN bs row n).2.map V.int ++ [.int top])))) (.mk ⟨_, _, rfl, sm4, h14, hq4⟩) ?_ ?_ ?_⟩
      · intro i σ H5 hP
        obtain ⟨s6, s7, rfl, sm5, h15, h25⟩ := hP.un
        exact sm5.seq hb
      · intro i v T' σ H5 hv hP hT
        obtain ⟨s6, s7, rfl, sm5, h15, h25⟩ := hP.un
        rw [List.getElem?_map] at hv
        obtain ⟨x, hx, ev⟩ := Option.map_eq_some_iff.mp hv
        subst ev
        have hil : i < bs.length := (List.getElem?_eq_some_iff.mp hx).1
        have exi : bs.getD i 0 = x := by rw [List.getD_eq_getElem?_getD, hx]; rfl
        have hxb := hbb x (List.mem_of_getElem? hx)
        generalize hG : upd _ T' _ = H6
        obtain ⟨sm6, hq6⟩ := newO hG hT
        clear hG
        have hT6 : SqT K H6 T' [.int (i : Nat), .int x] := SqT.of hq6
        have h16 := sm6 _ _ h15
        have hL6 := SqL.of (K := K) h16
        have hsl := subAt_len (start := row.length - bs.length - n) (top := top) (bs := bs) (r := (ldN bs row n).1) (i := i)
        have at2 : atI ((subAt (row.length - bs.length - n) top bs (ldN bs row n).1 i).map V.int) (((row.length - bs.length - n : Nat) : Int) + (i : Nat)) = some (.int ((subAt (row.length - bs.length - n) top bs (ldN bs row n).1 i).getD (row.length - bs.length - n + i) 0)) := at_map (by omega) (by omega)
        have hix : ixN ((subAt (row.length - bs.length - n) top bs (ldN bs row n).1 i).map V.int).length (((row.length - bs.length - n : Nat) : Int) + (i : Nat)) = some (row.length - bs.length - n + i) := ixn_of (by rw [List.length_map]; omega) (by omega)
        have cm : CMul top x := .inr ⟨by omega, by omega⟩
        walk_at "ev"
        refine .mk ⟨_, _, rfl, same_mut (sm5.trans sm6) hl1, ?_, ?_⟩
        · rw [upd_same, subAt, List.map_set, exi]
        · rw [upd_ne n12.symm]
          exact sm6 _ _ h25
      · intro σ H5 hP
        obtain ⟨s6, s7, rfl, sm5, h15, h25⟩ := hP.un
        rw [List.length_map] at h15
        refine .mk ⟨_, _, _, _, rfl, sm5, ?_, ?_⟩
        · rw [h15, ldN, htop]
        · rw [h25, ldN, htop, List.map_append]
          rfl
    · intro σ H3 hP
      obtain ⟨s4, s5, s6, s7, rfl, sm3, h1, h2⟩ := hP.un
      rw [en] at h2
      have hL2 := SqL.of (K := K) h2
      walk_at "ev"
      intro q1 hq
      generalize hG : upd _ q1 _ = H4
      obtain ⟨sm4, hq4⟩ := newO hG hq
      clear hG
      refine q q1 H4 (sm3.free hq) (sm3.trans sm4) ?_
      rw [hq4, ldQ, List.map_reverse]
end
theorem owl_ok : ∀ n < 31, 1 ≤ n → (pdv n).foldl (fun t d => ldQ (whl d) t) (whS n) = whl n := by decide +kernel
theorem pdv_step {n i : Nat} (h : i < n - 1) : (List.range' 1 (i + 1)).filter (fun d => decide (n % d = 0)) = (List.range' 1 i).filter (fun d => decide (n % d = 0)) ++ (if n % (1 + i) = 0 then [1 + i] else []) := by
  rw [List.range'_concat, List.filter_append, Nat.one_mul]
  congr 1
  by_cases c : n % (1 + i) = 0
  · rw [if_pos c]
    simp [c]
  · rw [if_neg c]
    simp [c]
abbrev s__law_own_wheel : Stmt := top 54
abbrev N__law_own_wheel : List Str := ["_law_number", "_law_found", "_law_part"]
abbrev P__law_own_wheel : List Str := ["_law_number"]
theorem sc__law_own_wheel : FnScope N__law_own_wheel P__law_own_wheel (defScope s__law_own_wheel) := ⟨rfl, rfl, rfl, by decide +kernel, rfl, by decide +kernel, by decide +kernel⟩
section
variable {P : Program} {w : World} {K : PySem.W.Frag} {mg : Str → Option Value} {base : Heap}
theorem own_step {f f2 : Addr} {fd d2 : FuncData} {j : Nat} (D__law_own_wheel : Df K mg "_law_own_wheel" s__law_own_wheel P__law_own_wheel f fd) (T : Blt mg) (D__law_divided : Df K mg "_law_divided" s__law_divided P__law_divided f2 d2)
    (G__law_own_wheel : FnOk P w K mg base CX0 (j + 1) f fd P__law_own_wheel (spWheel j)) : FnOk P w K mg base CX0 (j + 2) f fd P__law_own_wheel (spWheel (j + 1)) := by
  have F := D__law_own_wheel.F
  have G__law_divided : FnOk P w K mg base CX0 1 f2 d2 P__law_divided (spLdv K) := ok_ldv D__law_divided.F T
  have nd := sc__law_own_wheel.nd
  refine F.ok sc__law_own_wheel (fun vs H Q E h => ?_) (fun cdv A outer s H vs Q E hr h => ?_)
  · obtain ⟨n, rfl, _⟩ := h
    rfl
  · obtain ⟨n, rfl, n1, n31, nj, q⟩ := h
    refine ⟨_, (pss_cons (ps_set (i := 1) nd rfl (Or.inl rfl) (pe_op op_cat (pe_op op_cat (pe_lst (pa_cons (pe_un un_neg (pe_int)) pa_nil)) (pe_op op_rep (pe_lst (pa_cons (pe_int) pa_nil)) (pe_op op_sub (pv 0) (pe_int)))) (pe_lst (pa_cons (pe_int) pa_nil))))
      (pss_cons (ps_for PassesOwn.never rfl (pi_range2 (by rfl) T.b_range (pa_cons (pe_int) (pa_cons (pv 0) pa_nil))) (pg_name (i := 2) nd rfl (Or.inl rfl))
      (pss_one (ps_if (pt_cmpR op_eq (pe_op op_mod (pv 0) (pv 2)) (pe_int) (nomark _)) (pss_one (ps_set (i := 1) nd rfl (Or.inl rfl) (pe_call G__law_divided (hr.mono (by omega)) (by rfl) D__law_divided.g D__law_divided.F.kp D__law_divided.b .nil pass0 (pa_cons (pv 1) (pa_cons (pe_call G__law_own_wheel (hr.mono (by omega)) (by rfl) D__law_own_wheel.g D__law_own_wheel.F.kp D__law_own_wheel.b .nil pass0 (pa_cons (pv 2) pa_nil)) pa_nil))))) pss_nil)))
      (pss_one (ps_ret (pv 1))))), ?_⟩
    walk_at "ev"
    intro l1 hl1
    generalize hG : upd _ l1 _ = H1
    obtain ⟨sm1, hq1⟩ := newO hG hl1
    clear hG
    walk_at "ev"
    intro l2 hl2
    generalize hG : upd _ l2 _ = H2
    obtain ⟨sm2, hq2⟩ := newO hG hl2
    clear hG
    have z1 : ([V.int 0] : List V).length * ((n : Int) - 1).toNat ≤ sizeLine := szl (by show 1 * _ ≤ 60000; omega)
    walk_at "ev"
    intro l3 hl3
    generalize hG : upd _ l3 _ = H3
    obtain ⟨sm3, hq3⟩ := newO hG hl3
    clear hG
    have h13 := (sm2.trans sm3) _ _ hq1
    have z2 : ([(fun i => V.int (-i)) 1] : List V).length + (List.replicate ((n : Int) - 1).toNat [V.int 0]).flatten.length ≤ sizeLine := szl (by rw [rep_len]; show 1 + _ ≤ 60000; omega)
    walk_at "ev"
    intro l4 hl4
    generalize hG : upd _ l4 _ = H4
    obtain ⟨sm4, hq4⟩ := newO hG hl4
    clear hG
    walk_at "ev"
    intro l5 hl5
    generalize hG : upd _ l5 _ = H5
    obtain ⟨sm5, hq5⟩ := newO hG hl5
    clear hG
    have h45 := sm5 _ _ hq4
    have z3 : ([(fun i => V.int (-i)) 1] ++ (List.replicate ((n : Int) - 1).toNat [V.int 0]).flatten).length + ([V.int 1] : List V).length ≤ sizeLine := szl (by rw [List.length_append, rep_len]; show 1 + _ + 1 ≤ 60000; omega)
    walk_at "ev"
    intro l6 hl6
    generalize hG : upd _ l6 _ = H6
    obtain ⟨sm6, hq6⟩ := newO hG hl6
    clear hG
    have ew : [(fun i => V.int (-i)) 1] ++ (List.replicate ((n : Int) - 1).toNat [V.int 0]).flatten ++ [V.int 1] = (whS n).map V.int := by
      unfold whS
      rw [List.map_append, List.map_append, show ((n : Int) - 1).toNat = n - 1 by omega, List.map_replicate, rep_flat]
      rfl
    rw [ew] at hq6
    have s06 := sm1.trans (sm2.trans (sm3.trans (sm4.trans (sm5.trans sm6))))
    have f6 : H l6 = none := (sm1.trans (sm2.trans (sm3.trans (sm4.trans sm5)))).free hl6
    walk_at "ev"
    refine for_range (lo := 1) (n := _) (fun i σ H' => Hold (∃ (lt : Addr) (s2 : Option V), σ = [some (.int (n : Int)), some (.ref lt), s2] ∧ H lt = none ∧ Same H H' ∧ ((((List.range' 1 i).filter fun d => decide (n % d = 0))).foldl (fun t d => ldQ (whl d) t) (whS n)).length ≤ 1000 ∧ H' lt = some (.lst (((((List.range' 1 i).filter fun d => decide (n % d = 0))).foldl (fun t d => ldQ (whl d) t) (whS n)).map V.int)))) (.mk ⟨l6, _, rfl, f6, s06, ?_, hq6⟩) ?_ ?_
    · show (whS n).length ≤ 1000
      unfold whS
      rw [List.length_append, List.length_append, List.length_replicate]
      show 1 + (n - 1) + 1 ≤ 1000
      omega
    · intro i σ Hx hi hP
      obtain ⟨lt, s2, rfl, ft, smx, hlen, hxt⟩ := hP.un
      have hi1 : i < n - 1 := by omega
      have hst := pdv_step hi1
      have ei : (1 : Int) + (i : Nat) = ((1 + i : Nat) : Int) := by omega
      rw [ei]
      walk_at "ev"
      refine ite2 (fun c => ?_) (fun c => ?_)
      · have c1 : n % (1 + i) = 0 := by
          have := V.int.inj (of_decide_eq_true c)
          omega
        rw [if_pos c1] at hst
        have hdn : 2 * (1 + i) ≤ n := by
          obtain ⟨m, hc⟩ := Nat.dvd_of_mod_eq_zero c1
          have c2 : 2 ≤ m := by
            apply Nat.le_of_not_lt
            intro z
            have : m = 0 ∨ m = 1 := by omega
            rcases this with z | z <;> subst z <;> omega
          have := Nat.mul_le_mul_left (1 + i) c2
          omega
        have hdj : 1 + i < 2 ^ j := by
          rw [Nat.pow_succ] at nj
          omega
        have hd31 : 1 + i < 31 := by omega
        have hd0 : 1 ≤ 1 + i := by omega
        have hLt := SqL.of (K := K) hxt
        obtain ⟨wl1, wl2⟩ := whl_len (1 + i) hd31 hd0
        have wl3 : (whl (1 + i)).length ≤ 1000 := by omega
        have wb := whl_bnd (1 + i) hd31
        walk_at "ev"
        intro lw H9 hlw sm9 hq9
        have hLw := SqL.of (K := K) hq9
        have hLt9 := sm9.seq hLt
        have el := ldQ_len (bs := whl (1 + i)) (row := ((List.range' 1 i).filter fun d => decide (n % d = 0)).foldl (fun t d => ldQ (whl d) t) (whS n)) wl1
        walk_at "ev"
        intro q10 H10 hq sm10 hq10
        refine .mk ⟨q10, _, rfl, (smx.trans sm9).free hq, smx.trans (sm9.trans sm10), ?_, ?_⟩
        · rw [hst, List.foldl_append]
          show (ldQ _ _).length ≤ 1000
          omega
        · rw [hst, List.foldl_append]
          exact hq10
      · have c1 : ¬ n % (1 + i) = 0 := fun z => c (decide_eq_true (congrArg V.int (by omega)))
        rw [if_neg c1, List.append_nil] at hst
        walk_at "ev"
        refine .mk ⟨lt, _, rfl, ft, smx, ?_, ?_⟩
        · rw [hst]
          exact hlen
        · rw [hst]
          exact hxt
    · intro σ Hx hP
      obtain ⟨lt, s2, rfl, ft, smx, hlen, hxt⟩ := hP.un
      have en : ((n : Int) - 1).toNat = n - 1 := by omega
      rw [en] at hxt
      have hk := owl_ok n n31 n1
      unfold pdv at hk
      rw [hk] at hxt
      walk_at "ev"
      exact q lt Hx ft smx hxt
theorem ok_own {f f2 : Addr} {fd d2 : FuncData} (D__law_own_wheel : Df K mg "_law_own_wheel" s__law_own_wheel P__law_own_wheel f fd) (T : Blt mg) (D__law_divided : Df K mg "_law_divided" s__law_divided P__law_divided f2 d2) : ∀ j : Nat, FnOk P w K mg base CX0 (j + 1) f fd P__law_own_wheel (spWheel j)
  | 0 => ⟨fun _ _ _ _ ⟨n, _, h1, _, h2, _⟩ => absurd h2 (by rw [Nat.pow_zero]; omega), fun _ _ _ _ _ _ _ _ _ _ _ _ _ ⟨n, _, h1, _, h2, _⟩ => absurd h2 (by rw [Nat.pow_zero]; omega)⟩
  | j + 1 => own_step D__law_own_wheel T D__law_divided (ok_own D__law_own_wheel T D__law_divided j)
end
abbrev s__law_is_plain_prime : Stmt := top 50
abbrev N__law_is_plain_prime : List Str := ["_law_number", "_law_small", "_law_part"]
abbrev P__law_is_plain_prime : List Str := ["_law_number"]
theorem sc__law_is_plain_prime : FnScope N__law_is_plain_prime P__law_is_plain_prime (defScope s__law_is_plain_prime) := ⟨rfl, rfl, rfl, by decide +kernel, rfl, by decide +kernel, by decide +kernel⟩
def spPlainPrime : Sp := fun vs H Q _ => ∃ (n : Int), vs = [.int n] ∧ 0 ≤ n ∧ n ≤ 10000 ∧ ∀ (b : Bool) H', Same H H' → Q (.bl b) H'
section
variable {P : Program} {w : World} {K : PySem.W.Frag} {mg : Str → Option Value} {base : Heap}
theorem ok_plainprime {f : Addr} {fd : FuncData} {k : Nat} (F : Fun K "_law_is_plain_prime" "_law_is_plain_prime" s__law_is_plain_prime f fd) (T : Blt mg) : FnOk P w K mg base CX0 (k + 1) f fd P__law_is_plain_prime spPlainPrime := by
  have nd := sc__law_is_plain_prime.nd
  refine F.ok sc__law_is_plain_prime (fun vs H Q E h => ?_) (fun cdv A outer s H vs Q E hr h => ?_)
  · obtain ⟨n, rfl, _⟩ := h
    rfl
  · obtain ⟨n, rfl, h0, h1, q⟩ := h
    refine ⟨_, (pss_cons (ps_setLc (i := 1) (own := [("_law_part", 2)]) (g := gName 2) (by rfl) nd rfl rfl (sw_true rfl rfl rfl (by decide +kernel)) (pi_range2 (by rfl) T.b_range (pa_cons (pe_int) (pa_cons (pv 0) pa_nil))) (blkOk_by (own := [("_law_part", 2)]) (N := N__law_is_plain_prime) (sc := defScope s__law_is_plain_prime) (by decide +kernel)) (fun _ _ _ _ _ => (pg_name (i := 2) nd rfl (Or.inl rfl))) (fun _ _ _ _ _ => pts_one (pt_cmpR op_le (pe_op op_mul (pv 2) (pv 2)) (pv 0) (nomark _))) (fun _ _ _ _ _ => (pv 2)))
      (pss_one (ps_ret (pe_and (pe_cmpR op_gt (pv 0) (pe_int) (nomark _)) (pe_one (pe_callB (r := rAll K) (cr_all rfl) (by rfl) T.b_all (by decide +kernel) (pa_cons (pe_lc (own := [("_law_part", 2)]) (g := gName 2) (by rfl) nd (pi_list (pv 1)) (blkOk_by (own := [("_law_part", 2)]) (N := N__law_is_plain_prime) (sc := defScope s__law_is_plain_prime) (by decide +kernel)) (fun _ _ _ _ _ => (pg_name (i := 2) nd rfl (Or.inl rfl))) (fun _ _ _ _ _ => pts_nil) (fun _ _ _ _ _ => (pe_cmpR op_gt (pe_op op_mod (pv 0) (pv 2)) (pe_int) (nomark _)))) pa_nil))))))), ?_⟩
    walk_at "ev"
    intro D hD
    refine lc_range (lo := 2) (n := _) (fun i H' => Hold (∃ ms : List Int, Same H H' ∧ H' D = some (.lst (ms.map V.int)) ∧ ms.length ≤ i ∧ ∀ m ∈ ms, 2 ≤ m)) (.mk ⟨[], same_new hD, upd_same, Nat.zero_le _, by simp⟩) ?_ ?_
    · intro i H2 hi hP
      obtain ⟨ms, sm2, hD2, hl, hm⟩ := hP.un
      have hcm : CMul (2 + (i : Int)) (2 + i) := .inl ⟨by omega, by omega⟩
      have hfl : (ms.map V.int).length < sizeLine := by
        rw [List.length_map]
        exact szm (by omega)
      walk_at "ev"
      refine ite2 (fun e => ?_) (fun e => ?_)
      · walk_at "ev"
        refine .mk ⟨ms ++ [2 + (i : Int)], same_mut sm2 hD, ?_, ?_, ?_⟩
        · rw [upd_same, List.map_append]
          rfl
        · simp
          omega
        · intro m hmm
          rcases List.mem_append.mp hmm with h | h
          · exact hm m h
          · have e : m = 2 + (i : Int) := by simpa using h
            omega
      · exact .mk ⟨ms, sm2, hD2, by omega, hm⟩
    · intro H2 hP
      obtain ⟨ms, sm2, hD2, hl, hm⟩ := hP.un
      have hL : SqL K H2 D (ms.map V.int) := SqL.of hD2
      have hL' : ∃ xs, SqL K H2 D xs := ⟨_, hL⟩
      walk_at "ev"
      refine ite2 (fun e => ?_) (fun e => ?_)
      · walk_at "ev"
        intro D3 hD3
        refine lc_list (K := K) (a := D) (xs := ms.map V.int) (fun i H' => Hold (∃ bs : List Bool, Same H2 H' ∧ H' D3 = some (.lst (bs.map V.bl)) ∧ bs.length = i)) (.mk ⟨[], same_new hD3, upd_same, rfl⟩) ?_ ?_ ?_
        · intro i H3 hi hP3
          obtain ⟨bs, sm3, hD4, hl4⟩ := hP3.un
          exact sm3.seq hL
        · intro i x H3 hx hP3
          obtain ⟨bs, sm3, hD4, hl4⟩ := hP3.un
          obtain ⟨m, hmm, rfl⟩ := int_mem (List.mem_of_getElem? hx)
          have := hm m hmm
          have hil : i < (ms.map V.int).length := (List.getElem?_eq_some_iff.mp hx).1
          rw [List.length_map] at hil
          walk_at "ev"
          refine .mk ⟨bs ++ [decide (0 < n % m)], same_mut sm3 hD3, ?_, ?_⟩
          · rw [upd_same, List.map_append]
            rfl
          · simp [hl4]
        · intro H3 hP3
          obtain ⟨bs, sm3, hD4, hl4⟩ := hP3.un
          exact ⟨D3, bs, rfl, SqL.of hD4, q _ _ (sm2.trans sm3)⟩
      · exact q _ _ sm2
end
abbrev s__law_raised : Stmt := top 51
abbrev N__law_raised : List Str := ["_law_base", "_law_exponent", "_law_by", "_law_found", "_law_turn"]
abbrev P__law_raised : List Str := ["_law_base", "_law_exponent", "_law_by"]
theorem sc__law_raised : FnScope N__law_raised P__law_raised (defScope s__law_raised) := ⟨rfl, rfl, rfl, by decide +kernel, rfl, by decide +kernel, by decide +kernel⟩
def spRaise : Sp := fun vs H Q _ => ∃ (b e p : Int), vs = [.int b, .int e, .int p] ∧ 0 ≤ b ∧ b < 10000 ∧ 0 ≤ e ∧ e < 10000 ∧ 2 ≤ p ∧ p ≤ 10000 ∧ ∀ (r : Int), 0 ≤ r → r < p → Q (.int r) H
section
variable {P : Program} {w : World} {K : PySem.W.Frag} {mg : Str → Option Value} {base : Heap}
theorem ok_raise {f : Addr} {fd : FuncData} {k : Nat} (F : Fun K "_law_raised" "_law_raised" s__law_raised f fd) (T : Blt mg) : FnOk P w K mg base CX0 (k + 1) f fd P__law_raised spRaise := by
  have nd := sc__law_raised.nd
  refine F.ok sc__law_raised (fun vs H Q E h => ?_) (fun cdv A outer s H vs Q E hr h => ?_)
  · obtain ⟨b, e, p, rfl, _⟩ := h
    rfl
  · obtain ⟨b, e, p, rfl, b0, b1, e0, e1, p0, p1, q⟩ := h
    refine ⟨_, (pss_cons (ps_set (i := 3) nd rfl (Or.inl rfl) (pe_op op_mod (pe_int) (pv 2)))
      (pss_cons (ps_for PassesOwn.never rfl (pi_range1 (by rfl) T.b_range (pa_cons (pe_int) pa_nil)) (pg_name (i := 4) nd rfl (Or.inl rfl))
      (pss_cons (ps_if (pt_cmpR op_eq (pe_op op_mod (pv 1) (pe_int)) (pe_int) (nomark _)) (pss_one (ps_set (i := 3) nd rfl (Or.inl rfl) (pe_op op_mod (pe_op op_mul (pv 3) (pv 0)) (pv 2)))) pss_nil)
      (pss_one (ps_par (i := 0) (j := 1) (by rfl) nd rfl rfl (by decide) rfl rfl (pa_cons (pe_op op_mod (pe_op op_mul (pv 0) (pv 0)) (pv 2)) (pa_cons (pe_op op_fdiv (pv 1) (pe_int)) pa_nil)) (by rfl)))))
      (pss_one (ps_ret (pv 3))))), ?_⟩
    have hr1 : 0 ≤ 1 % p ∧ 1 % p < p := ⟨Int.emod_nonneg _ (by omega), Int.emod_lt_of_pos _ (by omega)⟩
    walk_at "ev"
    refine for_range (lo := 0) (n := _) (fun i σ H' => Hold (∃ (b e r : Int) (s4 : Option V), σ = [some (.int b), some (.int e), some (.int p), some (.int r), s4] ∧ H' = H ∧ 0 ≤ b ∧ b < 10000 ∧ 0 ≤ e ∧ e < 10000 ∧ 0 ≤ r ∧ r < p)) (.mk ⟨b, e, _, none, rfl, rfl, b0, b1, e0, e1, hr1.1, hr1.2⟩) ?_ ?_
    · intro i σ H1 hi hP
      obtain ⟨b, e, r, s4, rfl, rfl, b0, b1, e0, e1, r0, r1⟩ := hP.un
      have hb : 0 ≤ b * b % p ∧ b * b % p < p := ⟨Int.emod_nonneg _ (by omega), Int.emod_lt_of_pos _ (by omega)⟩
      have hrb : 0 ≤ r * b % p ∧ r * b % p < p := ⟨Int.emod_nonneg _ (by omega), Int.emod_lt_of_pos _ (by omega)⟩
      have c1 : CMul r b := .inl ⟨by omega, by omega⟩
      have c2 : CMul b b := .inl ⟨by omega, by omega⟩
      walk_at "ev"
      refine ite2 (fun c => ?_) (fun c => ?_)
      · walk_at "ev"
        exact .mk ⟨_, _, _, _, rfl, rfl, hb.1, by omega, by omega, by omega, hrb.1, hrb.2⟩
      · walk_at "ev"
        exact .mk ⟨_, _, _, _, rfl, rfl, hb.1, by omega, by omega, by omega, r0, r1⟩
    · intro σ H1 hP
      obtain ⟨b, e, r, s4, rfl, rfl, b0, b1, e0, e1, r0, r1⟩ := hP.un
      walk_at "ev"
      exact q r r0 r1
end
abbrev s__law_least_generator : Stmt := top 52
abbrev N__law_least_generator : List Str := ["_law_prime", "_law_parts", "_law_one", "_law_part"]
abbrev P__law_least_generator : List Str := ["_law_prime"]
theorem sc__law_least_generator : FnScope N__law_least_generator P__law_least_generator (defScope s__law_least_generator) := ⟨rfl, rfl, rfl, by decide +kernel, rfl, by decide +kernel, by decide +kernel⟩
def spLeastN : Sp := fun vs H Q _ => ∃ (p : Int), vs = [.int p] ∧ 2 ≤ p ∧ p ≤ 10000 ∧ ∀ (g : Int) H', Same H H' → Q (.int g) H'
section
variable {P : Program} {w : World} {K : PySem.W.Frag} {mg : Str → Option Value} {base : Heap}
theorem ok_leastN {f f1 f2 : Addr} {fd d1 d2 : FuncData} {k : Nat} (F : Fun K "_law_least_generator" "_law_least_generator" s__law_least_generator f fd) (T : Blt mg) (D__law_is_plain_prime : Df K mg "_law_is_plain_prime" s__law_is_plain_prime P__law_is_plain_prime f1 d1) (D__law_raised : Df K mg "_law_raised" s__law_raised P__law_raised f2 d2) : FnOk P w K mg base CX0 (k + 2) f fd P__law_least_generator spLeastN := by
  have G__law_is_plain_prime : FnOk P w K mg base CX0 1 f1 d1 P__law_is_plain_prime spPlainPrime := ok_plainprime (k := 0) D__law_is_plain_prime.F T
  have G__law_raised : FnOk P w K mg base CX0 1 f2 d2 P__law_raised spRaise := ok_raise (k := 0) D__law_raised.F T
  have nd := sc__law_least_generator.nd
  refine F.ok sc__law_least_generator (fun vs H Q E h => ?_) (fun cdv A outer s H vs Q E hr h => ?_)
  · obtain ⟨p, rfl, _⟩ := h
    rfl
  · obtain ⟨p, rfl, p0, p1, q⟩ := h
    refine ⟨_, (pss_cons (ps_setLc (i := 1) (own := [("_law_part", 3)]) (g := gName 3) (by rfl) nd rfl rfl (sw_true rfl rfl rfl (by decide +kernel)) (pi_range2 (by rfl) T.b_range (pa_cons (pe_int) (pa_cons (pv 0) pa_nil))) (blkOk_by (own := [("_law_part", 3)]) (N := N__law_least_generator) (sc := defScope s__law_least_generator) (by decide +kernel)) (fun _ _ _ _ _ => (pg_name (i := 3) nd rfl (Or.inl rfl))) (fun _ _ _ _ _ => pts_one (PW.pt (pw_and (pt_cmpR op_eq (pe_op op_mod (pe_op op_sub (pv 0) (pe_int)) (pv 3)) (pe_int) (nomark _)) (pw_and1 (pt_val (pe_call G__law_is_plain_prime (hr.mono (by omega)) (by rfl) D__law_is_plain_prime.g D__law_is_plain_prime.F.kp D__law_is_plain_prime.b .nil pass0 (pa_cons (pv 3) pa_nil))))))) (fun _ _ _ _ _ => (pv 3)))
      (pss_cons (ps_for PassesOwn.never rfl (pi_range2 (by rfl) T.b_range (pa_cons (pe_int) (pa_cons (pv 0) pa_nil))) (pg_name (i := 2) nd rfl (Or.inr rfl))
      (pss_one (ps_if (pt_val (pe_callB (r := rAll K) (cr_all rfl) (by rfl) T.b_all (by decide +kernel) (pa_cons (pe_lc (own := [("_law_part", 3)]) (g := gName 3) (by rfl) nd (pi_list (pv 1)) (blkOk_by (own := [("_law_part", 3)]) (N := N__law_least_generator) (sc := defScope s__law_least_generator) (by decide +kernel)) (fun _ _ _ _ _ => (pg_name (i := 3) nd rfl (Or.inl rfl))) (fun _ _ _ _ _ => pts_nil) (fun _ _ _ _ _ => (pe_cmpR op_ne (pe_call G__law_raised (hr.mono (by omega)) (by rfl) D__law_raised.g D__law_raised.F.kp D__law_raised.b .nil pass0 (pa_cons (pv 2) (pa_cons (pe_op op_fdiv (pe_op op_sub (pv 0) (pe_int)) (pv 3)) (pa_cons (pv 0) pa_nil)))) (pe_int) (nomark _)))) pa_nil))) (pss_one (ps_ret (pv 2))) pss_nil)))
      (pss_one (ps_ret (pe_int))))), ?_⟩
    walk_at "ev"
    intro D hD
    refine lc_range (lo := 2) (n := _) (fun i H' => Hold (∃ ms : List Int, Same H H' ∧ H' D = some (.lst (ms.map V.int)) ∧ ms.length ≤ i ∧ ∀ m ∈ ms, 2 ≤ m ∧ m ≤ 10000)) (.mk ⟨[], same_new hD, upd_same, Nat.zero_le _, by simp⟩) ?_ ?_
    · intro i H2 hi hP
      obtain ⟨ms, sm2, hD2, hl, hm⟩ := hP.un
      have hfl : (ms.map V.int).length < sizeLine := by
        rw [List.length_map]
        exact szm (by omega)
      walk_at "ev"
      refine ite2 (fun e => ?_) (fun e => ?_)
      · walk_at "ev"
        intro b H3 sm3
        have hD3 := sm3 _ _ hD2
        cases b with
        | true =>
          walk_at "ev"
          refine .mk ⟨ms ++ [2 + (i : Int)], same_mut (sm2.trans sm3) hD, ?_, ?_, ?_⟩
          · rw [upd_same, List.map_append]
            rfl
          · simp
            omega
          · intro m hmm
            rcases List.mem_append.mp hmm with h | h
            · exact hm m h
            · have e : m = 2 + (i : Int) := by simpa using h
              omega
        | false =>
          walk_at "ev"
          exact .mk ⟨ms, sm2.trans sm3, hD3, by omega, hm⟩
      · walk_at "ev"
        exact .mk ⟨ms, sm2, hD2, by omega, hm⟩
    · intro H2 hP
      obtain ⟨ms, sm2, hD2, hl, hm⟩ := hP.un
      have hL := SqL.of (K := K) hD2
      walk_at "ev"
      refine for_range (lo := 1) (n := _) (fun i σ H' => Hold (∃ s2 s3, σ = [some (.int p), some (.ref D), s2, s3] ∧ Same H2 H')) (.mk ⟨none, none, rfl, Same.refl _⟩) ?_ ?_
      · intro i σ H3 hi hP3
        obtain ⟨s2, s3, rfl, sm3⟩ := hP3.un
        have hL3 := sm3.seq hL
        have hL' : ∃ xs, SqL K H3 D xs := ⟨_, hL3⟩
        walk_at "ev"
        intro D3 hD3
        refine lc_list (K := K) (a := D) (xs := ms.map V.int) (fun i H' => Hold (∃ bs : List Bool, Same H3 H' ∧ H' D3 = some (.lst (bs.map V.bl)) ∧ bs.length = i)) (.mk ⟨[], same_new hD3, upd_same, rfl⟩) ?_ ?_ ?_
        · intro i H4 hi hP4
          obtain ⟨bs, sm4, hD4, hl4⟩ := hP4.un
          exact sm4.seq hL3
        · intro j x H4 hx hP4
          obtain ⟨bs, sm4, hD4, hl4⟩ := hP4.un
          obtain ⟨m, hmm, rfl⟩ := int_mem (List.mem_of_getElem? hx)
          obtain ⟨m2, m3⟩ := hm m hmm
          have hil : j < (ms.map V.int).length := (List.getElem?_eq_some_iff.mp hx).1
          rw [List.length_map] at hil
          have hd0 : 0 ≤ (p - 1) / m ∧ (p - 1) / m < 10000 := ⟨Int.ediv_nonneg (by omega) (by omega), Int.ediv_lt_of_lt_mul (by omega) (by omega)⟩
          have hfl : (bs.map V.bl).length < sizeLine := by
            rw [List.length_map]
            exact szm (by omega)
          walk_at "ev"
          intro r r0 r1
          walk_at "ev"
          refine .mk ⟨bs ++ [_], same_mut sm4 hD3, by rw [upd_same, List.map_append]; rfl, by rw [List.length_append, hl4]; rfl⟩
        · intro H4 hP4
          obtain ⟨bs, sm4, hD4, hl4⟩ := hP4.un
          refine ⟨D3, bs, rfl, SqL.of hD4, ?_⟩
          cases bs.all id with
          | true =>
            walk_at "ev"
            exact q _ _ (sm2.trans (sm3.trans sm4))
          | false =>
            walk_at "ev"
            exact .mk ⟨_, _, rfl, sm3.trans sm4⟩
      · intro σ H3 hP3
        obtain ⟨s2, s3, rfl, sm3⟩ := hP3.un
        walk_at "ev"
        exact q _ _ (sm2.trans sm3)
end
theorem du {k : Nat} {A : Around} (h : Room k A) : A.units + 1 < cLine := by
  have := h.units
  omega
theorem keep_free {b p : Addr} {H H' : Hp} (k : Keep b H H') (n : p ≠ b) (h : H' p = none) : H p = none := by
  cases u : H p with
  | none => rfl
  | some o =>
    rw [k p o n u] at h
    cases h
abbrev wrldK (n : Nat) (l : Addr) : List (Key × V) := [(.inr "kind", .str "roots"), (.inr "by", .int (n : Int)), (.inr "wheel", .ref l), (.inr "first", .non)]

abbrev wrldR (p g : Int) : List (Key × V) := [(.inr "kind", .str "rests"), (.inr "by", .int p), (.inr "wheel", .non), (.inr "first", .int g)]
inductive Gk
  | rests (p : Int)
  | roots (n : Nat)
def numM : Gk → Int
  | .rests p => p - 1
  | .roots n => (n : Int)
def prL : List Int := [97, 13, 31, 37, 61, 73, 181, 241, 337, 421, 257, 2521, 41, 17, 7, 5, 3, 2]
theorem prL_b : ∀ x ∈ prL, 2 ≤ x ∧ x ≤ 2521 := by decide
/-- a world of one kind -/
def WdM (H : Hp) (b d : Addr) (g : Gk) : Prop := d ≠ b ∧ match g with
  | .rests p => p ∈ prL ∧ ∃ q, H d = some (.dK (wrldR p q))
  | .roots n => 1 ≤ n ∧ n < 31 ∧ ∃ l, H d = some (.dK (wrldK n l))
theorem WdM.keep {H H' : Hp} {b d : Addr} {g : Gk} (h : WdM H b d g) (e : Keep b H H') : WdM H' b d g := by
  cases g with
  | rests p =>
    obtain ⟨h1, h2, q, h3⟩ := h
    exact ⟨h1, h2, q, e _ _ h1 h3⟩
  | roots n =>
    obtain ⟨h1, h2, h3, l, h4⟩ := h
    exact ⟨h1, h2, h3, l, e _ _ h1 h4⟩
theorem WdM.up {H H' : Hp} {b d : Addr} {g : Gk} (h : WdM H b d g) (e : Same H H') : WdM H' b d g := h.keep (keepS e)
theorem WdM.mut {H : Hp} {b d D : Addr} {g : Gk} {xs : List V} {o : HO} (h : WdM H b d g) (e : H D = some (.lst xs)) : WdM (upd H D o) b d g := by
  cases g with
  | rests p =>
    obtain ⟨h1, h2, q, h3⟩ := h
    exact ⟨h1, h2, q, by rw [upd_ne (fun z => by rw [z, e] at h3; cases h3)]; exact h3⟩
  | roots n =>
    obtain ⟨h1, h2, h3, l, h4⟩ := h
    exact ⟨h1, h2, h3, l, by rw [upd_ne (fun z => by rw [z, e] at h4; cases h4)]; exact h4⟩
theorem WdM.num {H : Hp} {b d : Addr} {g : Gk} (h : WdM H b d g) : 1 ≤ numM g ∧ numM g ≤ 2520 := by
  cases g with
  | rests p =>
    obtain ⟨h1, h2, q, h3⟩ := h
    have := prL_b p h2
    exact ⟨by show 1 ≤ p - 1; omega, by show p - 1 ≤ 2520; omega⟩
  | roots n =>
    obtain ⟨h1, h2, h3, l, h4⟩ := h
    exact ⟨by show (1 : Int) ≤ (n : Int); omega, by show (n : Int) ≤ 2520; omega⟩
theorem dget_w {H : Hp} {d l : Addr} {n : Nat} (h : H d = some (.dK (wrldK n l))) : DGet H d (.str "kind") (some (.str "roots")) ∧ DGet H d (.str "by") (some (.int (n : Int))) ∧ DGet H d (.str "wheel") (some (.ref l)) :=
  ⟨DGet.k (k := .inr "kind") h, DGet.k (k := .inr "by") h, DGet.k (k := .inr "wheel") h⟩
theorem dget_r {H : Hp} {d : Addr} {p g : Int} (h : H d = some (.dK (wrldR p g))) : DGet H d (.str "kind") (some (.str "rests")) ∧ DGet H d (.str "by") (some (.int p)) :=
  ⟨DGet.k (k := .inr "kind") h, DGet.k (k := .inr "by") h⟩
theorem whl_l23 : ∀ n < 31, 1 ≤ n → 2 ≤ (whl n).length ∧ (whl n).length ≤ 31 := by decide +kernel
abbrev s__law_world : Stmt := top 55
abbrev N__law_world : List Str := ["_law_box_here", "_law_primes", "_law_prime", "_law_number"]
abbrev P__law_world : List Str := ["_law_box_here"]
theorem sc__law_world : FnScope N__law_world P__law_world (defScope s__law_world) := ⟨rfl, rfl, rfl, by decide +kernel, rfl, by decide +kernel, by decide +kernel⟩
def spWorld : Sp := fun vs H Q _ => ∃ (b : Addr) (c : Int), vs = [.ref b] ∧ BoxAt H b c ∧ c < 900000 ∧ ∀ d H', H d = none → Keep b H H' → BoxAt H' b (c + 4) → ∀ g, WdM H' b d g → Q (.ref d) H'
section
variable {P : Program} {w : World} {K : PySem.W.Frag} {mg : Str → Option Value} {base : Heap}
theorem ok_world {f f1 f2 f3 f4 f5 f6 : Addr} {fd d1 d2 d3 d4 d5 d6 : FuncData} (F : Fun K "_law_world" "_law_world" s__law_world f fd) (T : Blt mg) (D__law_take : Df K mg "_law_take" s__law_take P__law_take f1 d1) (D__law_own_wheel : Df K mg "_law_own_wheel" s__law_own_wheel P__law_own_wheel f2 d2) (D__law_divided : Df K mg "_law_divided" s__law_divided P__law_divided f3 d3)
    (D__law_least_generator : Df K mg "_law_least_generator" s__law_least_generator P__law_least_generator f4 d4) (D__law_is_plain_prime : Df K mg "_law_is_plain_prime" s__law_is_plain_prime P__law_is_plain_prime f5 d5) (D__law_raised : Df K mg "_law_raised" s__law_raised P__law_raised f6 d6) : FnOk P w K mg base CX0 7 f fd P__law_world spWorld := by
  have G__law_take : FnOk P w K mg base CX0 1 f1 d1 P__law_take spTake := ok_take D__law_take.F
  have G__law_own_wheel : FnOk P w K mg base CX0 6 f2 d2 P__law_own_wheel (spWheel 5) := ok_own D__law_own_wheel T D__law_divided 5
  have G__law_least_generator : FnOk P w K mg base CX0 2 f4 d4 P__law_least_generator spLeastN := ok_leastN (k := 0) D__law_least_generator.F T D__law_is_plain_prime D__law_raised
  have nd := sc__law_world.nd
  refine F.ok sc__law_world (fun vs H Q E h => ?_) (fun cdv A outer s H vs Q E hr h => ?_)
  · obtain ⟨b, c, rfl, _⟩ := h
    rfl
  · obtain ⟨b, c, rfl, hb, hc, q⟩ := h
    refine ⟨_, (pss_cons (ps_if (pt_cmpR op_gt (pe_call G__law_take (hr.mono (by omega)) (by rfl) D__law_take.g D__law_take.F.kp D__law_take.b .nil pass0 (pa_cons (pv 0) (pa_cons (pe_int) pa_nil))) (pe_int) (nomark _)) (pss_cons (ps_set (i := 1) nd rfl (Or.inl rfl) (pe_lst (pa_cons (pe_int) (pa_cons (pe_int) (pa_cons (pe_int) (pa_cons (pe_int) (pa_cons (pe_int) (pa_cons (pe_int) (pa_cons (pe_int) (pa_cons (pe_int) (pa_cons (pe_int) (pa_cons (pe_int) (pa_cons (pe_int) (pa_cons (pe_int) (pa_cons (pe_int) (pa_cons (pe_int) (pa_cons (pe_int) (pa_cons (pe_int) (pa_cons (pe_int) (pa_cons (pe_int) pa_nil))))))))))))))))))))
      (pss_cons (ps_set (i := 2) nd rfl (Or.inl rfl) (pe_ix (r := rIxL K) ix_list (pv 1) (pe_call G__law_take (hr.mono (by omega)) (by rfl) D__law_take.g D__law_take.F.kp D__law_take.b .nil pass0 (pa_cons (pv 0) (pa_cons (pe_ix (r := rIxL K) ix_list (pe_lst (pa_cons (pe_int) (pa_cons (pe_int) pa_nil))) (pe_call G__law_take (hr.mono (by omega)) (by rfl) D__law_take.g D__law_take.F.kp D__law_take.b .nil pass0 (pa_cons (pv 0) (pa_cons (pe_int) pa_nil))) (fun _ _ => rfl)) pa_nil))) (fun _ _ => rfl)))
      (pss_one (ps_ret (pe_disp (pps_cons (pe_str) (pe_str) (pps_cons (pe_str) (pv 2) (pps_cons (pe_str) (pe_non) (pps_cons (pe_str) (pe_call G__law_least_generator (hr.mono (by omega)) (by rfl) D__law_least_generator.g D__law_least_generator.F.kp D__law_least_generator.b .nil pass0 (pa_cons (pv 2) pa_nil)) pps_nil)))) (by rfl) (by rfl) (by simp) (by decide)))))) pss_nil)
      (pss_cons (ps_set (i := 3) nd rfl (Or.inl rfl) (pe_ix (r := rIxL K) ix_list (pe_lst (pa_cons (pe_int) (pa_cons (pe_int) (pa_cons (pe_int) (pa_cons (pe_int) (pa_cons (pe_int) (pa_cons (pe_int) (pa_cons (pe_op op_add (pe_int) (pe_call G__law_take (hr.mono (by omega)) (by rfl) D__law_take.g D__law_take.F.kp D__law_take.b .nil pass0 (pa_cons (pv 0) (pa_cons (pe_int) pa_nil)))) (pa_cons (pe_op op_add (pe_int) (pe_call G__law_take (hr.mono (by omega)) (by rfl) D__law_take.g D__law_take.F.kp D__law_take.b .nil pass0 (pa_cons (pv 0) (pa_cons (pe_int) pa_nil)))) pa_nil))))))))) (pe_call G__law_take (hr.mono (by omega)) (by rfl) D__law_take.g D__law_take.F.kp D__law_take.b .nil pass0 (pa_cons (pv 0) (pa_cons (pe_int) pa_nil))) (fun _ _ => rfl)))
      (pss_one (ps_ret (pe_disp (pps_cons (pe_str) (pe_str) (pps_cons (pe_str) (pv 3) (pps_cons (pe_str) (pe_call G__law_own_wheel (hr.mono (by omega)) (by rfl) D__law_own_wheel.g D__law_own_wheel.F.kp D__law_own_wheel.b .nil pass0 (pa_cons (pv 3) pa_nil)) (pps_cons (pe_str) (pe_non) pps_nil)))) (by rfl) (by rfl) (by simp) (by decide)))))), ?_⟩
    walk_at "ev"
    intro r1 H1 r10 r11 k1 hb1
    walk_at "ev"
    refine ite2 (fun c1 => ?_) (fun c1 => ?_)
    · walk_at "ev"
      w_cond _2
      have hb2 := hb1.same sm2
      have n2b := hb1.ne hl2
      walk_at "ev"
      w_cond _3
      have hb3 := hb2.same sm3
      have n3b := hb2.ne hl3
      walk_at "ev"
      intro r4 H4 r40 r41 k4 hb4
      have hL4 := SqL.of (K := K) (k4 _ _ n3b hq3)
      obtain ⟨t, ht, hat⟩ : ∃ t : Int, (1 ≤ t ∧ t ≤ 18) ∧ atI [V.int 8, V.int 18] r4 = some (.int t) := by
        have : r4 = 0 ∨ r4 = 1 := by omega
        rcases this with z | z <;> subst z
        · exact ⟨8, by omega, rfl⟩
        · exact ⟨18, by omega, rfl⟩
      obtain ⟨t1, t2⟩ := ht
      walk_at "ev"
      intro r5 H5 r50 r51 k5 hb5
      have hL5 : SqL K H5 l2 (prL.map V.int) := SqL.of (k5 _ _ n2b (k4 _ _ n2b (sm3 _ _ hq2)))
      obtain ⟨pr, hpm, hpa⟩ := at_ints (ns := prL) (k := r5) r50 (by show r5 < 18; omega)
      obtain ⟨p2, p3⟩ := prL_b pr hpm
      walk_at "ev"
      intro p hp
      generalize hG : upd H5 p _ = H6
      obtain ⟨sm6, hq6⟩ := newO hG hp
      clear hG
      have hb6 := hb5.same sm6
      have npb : p ≠ b := hb5.ne hp
      walk_at "ev"
      intro g H7 sm7
      have hq7 := sm7 _ _ hq6
      have em : mergeK [] (wrldR pr g) = wrldR pr g := rfl
      have k15 : Keep b H H5 := k1.trans ((keepS (sm2.trans sm3)).trans (k4.trans k5))
      walk_at "ev"
      refine ⟨(show _ = List.map (fun kv : Key × V => (kV kv.1, kv.2)) (wrldR pr g) from rfl), (by show 4 ≤ 15; decide), ?_⟩
      rw [em]
      exact q p _ (keep_free k15 npb hp) (keep_fresh (k15.trans (keepS (sm6.trans sm7))) (keep_free k15 npb hp)) (((hb6.same sm7).upd npb).mono (by omega)) (.rests pr) ⟨npb, hpm, g, upd_same⟩
    · walk_at "ev"
      intro r2 H2 r20 r21 k2 hb2
      walk_at "ev"
      intro r3 H3 r30 r31 k3 hb3
      walk_at "ev"
      w_cond _4
      have hb4 := hb3.same sm4
      have n4b := hb3.ne hl4
      walk_at "ev"
      intro r5 H5 r50 r51 k5 hb5
      have hL5 := SqL.of (K := K) (k5 _ _ n4b hq4)
      obtain ⟨n, hn, hat⟩ : ∃ n : Nat, (1 ≤ n ∧ n < 31) ∧ atI [V.int 12, V.int 4, V.int 6, V.int 8, V.int 12, V.int 20, V.int (1 + r2), V.int (1 + r3)] r5 = some (.int (n : Int)) := by
        have : r5 = 0 ∨ r5 = 1 ∨ r5 = 2 ∨ r5 = 3 ∨ r5 = 4 ∨ r5 = 5 ∨ r5 = 6 ∨ r5 = 7 := by omega
        rcases this with z | z | z | z | z | z | z | z <;> subst z
        · exact ⟨12, by decide, rfl⟩
        · exact ⟨4, by decide, rfl⟩
        · exact ⟨6, by decide, rfl⟩
        · exact ⟨8, by decide, rfl⟩
        · exact ⟨12, by decide, rfl⟩
        · exact ⟨20, by decide, rfl⟩
        · obtain ⟨m, hm⟩ := Int.eq_ofNat_of_zero_le (show 0 ≤ 1 + r2 by omega)
          exact ⟨m, by omega, by rw [← hm]; rfl⟩
        · obtain ⟨m, hm⟩ := Int.eq_ofNat_of_zero_le (show 0 ≤ 1 + r3 by omega)
          exact ⟨m, by omega, by rw [← hm]; rfl⟩
      obtain ⟨n1, n31⟩ := hn
      have n32 : n < 2 ^ 5 := by omega
      walk_at "ev"
      intro p hp
      generalize hG : upd H5 p _ = H6
      obtain ⟨sm6, hq6⟩ := newO hG hp
      clear hG
      have hb6 := hb5.same sm6
      walk_at "ev"
      intro l H7 hl sm7 hq7
      have hq67 := sm7 _ _ hq6
      have npl : l ≠ p := (ne_of_none hq6 hl).symm
      have npb : p ≠ b := hb5.ne hp
      have nlb : l ≠ b := hb6.ne hl
      have em : mergeK [] (wrldK n l) = wrldK n l := rfl
      have k15 : Keep b H H5 := k1.trans (k2.trans (k3.trans ((keepS sm4).trans k5)))
      walk_at "ev"
      refine ⟨(show _ = List.map (fun kv : Key × V => (kV kv.1, kv.2)) (wrldK n l) from rfl), (by show 4 ≤ 15; decide), ?_⟩
      rw [em]
      exact q p _ (keep_free k15 npb hp) (keep_fresh (k15.trans (keepS (sm6.trans sm7))) (keep_free k15 npb hp)) (((hb6.same sm7).upd npb).mono (by omega)) (.roots n) ⟨npb, n1, n31, l, upd_same⟩
end
abbrev s__law_has : Stmt := top 57
abbrev N__law_has : List Str := ["_law_world_here", "_law_length"]
abbrev P__law_has : List Str := ["_law_world_here", "_law_length"]
theorem sc__law_has : FnScope N__law_has P__law_has (defScope s__law_has) := ⟨rfl, rfl, rfl, by decide +kernel, rfl, by decide +kernel, by decide +kernel⟩
def spHas : Sp := fun vs H Q _ => ∃ (b d : Addr) (g : Gk) (l : Int), vs = [.ref d, .int l] ∧ WdM H b d g ∧ 1 ≤ l ∧ l ≤ 100000 ∧ Q (.bl (decide (numM g % l = 0))) H
abbrev s__law_lengths : Stmt := top 58
abbrev N__law_lengths : List Str := ["_law_world_here", "_law_top", "_law_length"]
abbrev P__law_lengths : List Str := ["_law_world_here", "_law_top"]
theorem sc__law_lengths : FnScope N__law_lengths P__law_lengths (defScope s__law_lengths) := ⟨rfl, rfl, rfl, by decide +kernel, rfl, by decide +kernel, by decide +kernel⟩
def spLns : Sp := fun vs H Q _ => ∃ (b d : Addr) (g : Gk) (t : Int), vs = [.ref d, .int t] ∧ WdM H b d g ∧ 1 ≤ t ∧ t ≤ 100 ∧ ∀ p (ks : List Int) H', H p = none → Same H H' → H' p = some (.lst (ks.map V.int)) → 0 < ks.length → ks.length ≤ 100 → (∀ k ∈ ks, 1 ≤ k ∧ k ≤ t ∧ numM g % k = 0) → Q (.ref p) H'
section
variable {P : Program} {w : World} {K : PySem.W.Frag} {mg : Str → Option Value} {base : Heap}
theorem ok_has {f : Addr} {fd : FuncData} {k : Nat} (F : Fun K "_law_has" "_law_has" s__law_has f fd) (T : Blt mg) : FnOk P w K mg base CX0 (k + 1) f fd P__law_has spHas := by
  have nd := sc__law_has.nd
  refine F.ok sc__law_has (fun vs H Q E h => ?_) (fun cdv A outer s H vs Q E hr h => ?_)
  · obtain ⟨b, d, g, l, rfl, _⟩ := h
    rfl
  · obtain ⟨b, d, g, l, rfl, hW, l1, l2, q⟩ := h
    refine ⟨_, (pss_one (ps_ret (pe_cmpR op_eq (pe_op op_mod (pe_op op_sub (pe_dget (du hr) (pv 0) (pe_str) (fun _ _ => rfl)) (pe_callTy call_int1 (by rfl) T.b_int (by decide +kernel) (pa_cons (pe_cmpR op_eq (pe_dget (du hr) (pv 0) (pe_str) (fun _ _ => rfl)) (pe_str) (nomark _)) pa_nil))) (pv 1)) (pe_int) (nomark _)))), ?_⟩
    have e : ∀ m : Int, decide (V.int (m % l) = V.int 0) = decide (m % l = 0) := fun m => decide_eq_decide.mpr ⟨fun h => V.int.inj h, fun h => congrArg V.int h⟩
    cases g with
    | rests p =>
      obtain ⟨h1, h2, gg, h3⟩ := hW
      obtain ⟨g1, g2⟩ := dget_r h3
      walk_at "ev"
      refine Eq.mp ?_ q
      congr 2
      exact (e _).symm
    | roots n =>
      obtain ⟨h1, h2, h3, ll, h4⟩ := hW
      obtain ⟨g1, g2, g3⟩ := dget_w h4
      walk_at "ev"
      refine Eq.mp ?_ q
      congr 2
      exact (e _).symm
theorem ok_lns {f f1 : Addr} {fd d1 : FuncData} {k : Nat} (F : Fun K "_law_lengths" "_law_lengths" s__law_lengths f fd) (T : Blt mg) (D__law_has : Df K mg "_law_has" s__law_has P__law_has f1 d1) : FnOk P w K mg base CX0 (k + 2) f fd P__law_lengths spLns := by
  have G__law_has : FnOk P w K mg base CX0 1 f1 d1 P__law_has spHas := ok_has (k := 0) D__law_has.F T
  have nd := sc__law_lengths.nd
  refine F.ok sc__law_lengths (fun vs H Q E h => ?_) (fun cdv A outer s H vs Q E hr h => ?_)
  · obtain ⟨b, d, g, t, rfl, _⟩ := h
    rfl
  · obtain ⟨b, d, g, t, rfl, hW, t1, t2, q⟩ := h
    refine ⟨_, (pss_one (ps_ret (pe_lc (own := [("_law_length", 2)]) (g := gName 2) (by rfl) nd (pi_range2 (by rfl) T.b_range (pa_cons (pe_int) (pa_cons (pe_op op_add (pv 1) (pe_int)) pa_nil))) (blkOk_by (own := [("_law_length", 2)]) (N := N__law_lengths) (sc := defScope s__law_lengths) (by decide +kernel)) (fun _ _ _ _ _ => (pg_name (i := 2) nd rfl (Or.inl rfl))) (fun _ _ _ _ _ => pts_one (pt_val (pe_call G__law_has (hr.mono (by omega)) (by rfl) D__law_has.g D__law_has.F.kp D__law_has.b .nil pass0 (pa_cons (pv 0) (pa_cons (pv 2) pa_nil))))) (fun _ _ _ _ _ => (pv 2))))), ?_⟩
    walk_at "ev"
    intro D hD
    refine lc_range (lo := 1) (n := _) (fun i H' => Hold (∃ ks : List Int, Same H H' ∧ H' D = some (.lst (ks.map V.int)) ∧ ks.length ≤ i ∧ (0 < i → 0 < ks.length) ∧ ∀ k ∈ ks, 1 ≤ k ∧ k ≤ t ∧ numM g % k = 0)) (.mk ⟨[], same_new hD, upd_same, Nat.zero_le _, fun z => absurd z (by decide), fun k hk => by cases hk⟩) ?_ ?_
    · intro i H3 hi hP
      obtain ⟨ks, sm3, hD3, hl3, hp3, hk3⟩ := hP.un
      have hW3 := hW.up sm3
      have hfl : (ks.map V.int).length < sizeLine := szm (by rw [List.length_map]; omega)
      walk_at "ev"
      refine ite2 (fun e => ?_) (fun e => ?_)
      · have e1 : numM g % (1 + (i : Int)) = 0 := of_decide_eq_true e
        walk_at "ev"
        refine .mk ⟨ks ++ [1 + (i : Int)], same_mut sm3 hD, by rw [upd_same, List.map_append]; rfl, by rw [List.length_append]; show _ + 1 ≤ _; omega, fun _ => by rw [List.length_append]; show 0 < _ + 1; omega, fun k hk => ?_⟩
        rcases List.mem_append.mp hk with h | h
        · exact hk3 k h
        · rw [List.mem_singleton.mp h]
          exact ⟨by omega, by omega, e1⟩
      · refine .mk ⟨ks, sm3, hD3, by omega, fun _ => ?_, hk3⟩
        cases i with
        | zero => exact absurd (decide_eq_true (by simp)) e
        | succ i => exact hp3 (by omega)
    · intro H3 hP
      obtain ⟨ks, sm3, hD3, hl3, hp3, hk3⟩ := hP.un
      exact q D ks H3 hD sm3 hD3 (hp3 (by omega)) (by omega) hk3
end
def shM : Nat → Int → Int → Bool
  | 0, _, _ => true
  | k + 1, x, y => if y = 0 then decide (1 < x) else shM k y (x % y)
abbrev s__law_shares : Stmt := top 49
abbrev N__law_shares : List Str := ["_law_one", "_law_two", "_law_turn"]
abbrev P__law_shares : List Str := ["_law_one", "_law_two"]
theorem sc__law_shares : FnScope N__law_shares P__law_shares (defScope s__law_shares) := ⟨rfl, rfl, rfl, by decide +kernel, rfl, by decide +kernel, by decide +kernel⟩
def spShM : Sp := fun vs H Q _ => ∃ (x y : Int), vs = [.int x, .int y] ∧ 0 ≤ x ∧ 0 ≤ y ∧ Q (.bl (shM 64 x y)) H
section
variable {P : Program} {w : World} {K : PySem.W.Frag} {mg : Str → Option Value} {base : Heap}
theorem ok_shm {f : Addr} {fd : FuncData} {k : Nat} (F : Fun K "_law_shares" "_law_shares" s__law_shares f fd) (T : Blt mg) : FnOk P w K mg base CX0 (k + 1) f fd P__law_shares spShM := by
  have nd := sc__law_shares.nd
  refine F.ok sc__law_shares (fun vs H Q E h => ?_) (fun cdv A outer s H vs Q E hr h => ?_)
  · obtain ⟨x, y, rfl, _⟩ := h
    rfl
  · obtain ⟨x, y, rfl, hx, hy, q⟩ := h
    refine ⟨_, (pss_cons (ps_for PassesOwn.never rfl (pi_range1 (by rfl) T.b_range (pa_cons (pe_int) pa_nil)) (pg_name (i := 2) nd rfl (Or.inl rfl))
      (pss_cons (ps_if (pt_cmpR op_eq (pv 1) (pe_int) (nomark _)) (pss_one (ps_ret (pe_cmpR op_gt (pv 0) (pe_int) (nomark _)))) pss_nil)
      (pss_one (ps_par (i := 0) (j := 1) (by rfl) nd rfl rfl (by decide) rfl rfl (pa_cons (pv 1) (pa_cons (pe_op op_mod (pv 0) (pv 1)) pa_nil)) (by rfl)))))
      (pss_one (ps_ret (pe_bl)))), ?_⟩
    walk_at "ev"
    refine for_range (lo := 0) (n := (64 : Int).toNat) (fun i σ H' => Hold (∃ (x' y' : Int) (s2 : Option V), σ = [some (.int x'), some (.int y'), s2] ∧ 0 ≤ x' ∧ 0 ≤ y' ∧ i ≤ 64 ∧ shM (64 - i) x' y' = shM 64 x y ∧ H' = H)) (.mk ⟨x, y, none, rfl, hx, hy, by omega, rfl, rfl⟩) ?_ ?_
    · intro i σ H' hi hP
      obtain ⟨x', y', s2, rfl, hx', hy', h64, inv, rfl⟩ := hP.un
      have hi64 : i < 64 := hi
      have e64 : 64 - i = (64 - (i + 1)) + 1 := by omega
      have est : shM (64 - i) x' y' = if y' = 0 then decide (1 < x') else shM (64 - (i + 1)) y' (x' % y') := by
        rw [e64]
        rfl
      rw [est] at inv
      walk_at "ev"
      refine ite2 (fun e => ?_) (fun e => ?_)
      · have e1 : y' = 0 := V.int.inj (of_decide_eq_true e)
        rw [if_pos e1] at inv
        walk_at "ev"
        rw [← inv] at q
        exact q
      · have e1 : y' ≠ 0 := fun z => e (decide_eq_true (congrArg V.int z))
        rw [if_neg e1] at inv
        walk_at "ev"
        exact .mk ⟨_, _, _, rfl, hy', Int.emod_nonneg _ e1, by omega, inv, rfl⟩
    · intro σ H' hP
      obtain ⟨x', y', s2, rfl, hx', hy', h64, inv, rfl⟩ := hP.un
      walk_at "ev"
      have e0 : shM (64 - (64 : Int).toNat) x' y' = true := rfl
      rw [e0] at inv
      rw [← inv] at q
      exact q
end
def prN (k : Nat) : Bool := (List.range' 2 (k - 2)).all fun d => decide (k % d ≠ 0)
def outC (s : Nat) : List Int := ((List.range' 2 (s - 1)).filter fun k => decide (s % k = 0) && prN k).map Int.ofNat
theorem shM_end {n : Nat} {a : Int} (ha : 0 ≤ a) : shM (n + 1) a 0 = decide (1 < Int.gcd a 0) := by
  show (if (0 : Int) = 0 then decide (1 < a) else _) = _
  rw [if_pos rfl, Int.gcd_zero_right]
  exact decide_eq_decide.mpr ⟨fun h => by omega, fun h => by omega⟩
theorem shM_gcd : ∀ (n : Nat) {a b : Int}, 0 ≤ b → b ≤ a → a * b < 2 ^ n → shM (n + 1) a b = decide (1 < Int.gcd a b)
  | n, a, b, hb, h, hm => by
    by_cases e : b = 0
    · subst e
      exact shM_end h
    · have b1 : 0 < b := by omega
      cases n with
      | zero =>
        have : 1 * 1 ≤ a * b := Int.mul_le_mul (by omega) (by omega) (by omega) (by omega)
        rw [Int.pow_zero] at hm
        omega
      | succ n =>
        show (if b = 0 then decide (1 < a) else shM (n + 1) b (a % b)) = _
        rw [if_neg e, shM_gcd n (Int.emod_nonneg _ e) (Int.le_of_lt (Int.emod_lt_of_pos _ b1)) ?_, gcd_step (by omega) hb]
        have h1 : b * (2 * (a % b)) ≤ b * a := Int.mul_le_mul_of_nonneg_left (emod_half b1 h) hb
        have h2 : b * (2 * (a % b)) = 2 * (b * (a % b)) := by rw [← Int.mul_assoc, Int.mul_comm b 2, Int.mul_assoc]
        have h3 : b * a = a * b := Int.mul_comm _ _
        rw [Int.pow_succ] at hm
        omega
theorem shM64 {a b : Int} (ha : 0 ≤ a) (hb : 0 ≤ b) (a6 : a ≤ 1000000000) (b6 : b ≤ 1000000000) : shM 64 a b = decide (1 < Int.gcd a b) := by
  by_cases e : b = 0
  · subst e
    exact shM_end ha
  · have b1 : 0 < b := by omega
    show (if b = 0 then decide (1 < a) else shM (62 + 1) b (a % b)) = _
    rw [if_neg e, shM_gcd 62 (Int.emod_nonneg _ e) (Int.le_of_lt (Int.emod_lt_of_pos _ b1)) ?_, gcd_step ha hb]
    have h1 : a % b < b := Int.emod_lt_of_pos _ b1
    have h0 : 0 ≤ a % b := Int.emod_nonneg _ e
    have h2 : b * (a % b) ≤ 1000000000 * 1000000000 := Int.mul_le_mul b6 (by omega) h0 (by omega)
    have h3 : (2 : Int) ^ 62 = 4611686018427387904 := by decide
    omega
theorem gcd_ne {a b : Int} (ha : 1 ≤ a) : (!decide (1 < Int.gcd a b)) = decide (Int.gcd a b = 1) := by
  have h : 0 < Int.gcd a b := Int.gcd_pos_of_ne_zero_left _ (by omega)
  by_cases e : Int.gcd a b = 1
  · rw [decide_eq_true e, decide_eq_false (by omega)]
    rfl
  · rw [decide_eq_false e, decide_eq_true (by omega)]
    rfl
theorem gcd_ne' {a b : Int} (hb : 1 ≤ b) : (!decide (1 < Int.gcd a b)) = decide (Int.gcd a b = 1) := by
  rw [Int.gcd_comm]
  exact gcd_ne hb
def spPrm : Sp := fun vs H Q _ => ∃ (n : Int), vs = [.int n] ∧ 0 ≤ n ∧ n ≤ 3000 ∧ ∀ (b : Bool) H', Same H H' → (b = true ↔ 2 ≤ n ∧ Rough n n) → Q (.bl b) H'
theorem rough_sq {n : Int} (h2 : 2 ≤ n) : Rough n n ↔ ∀ d, 2 ≤ d → d * d ≤ n → ¬ d ∣ n := by
  constructor
  · intro r d d2 dd
    have : 2 * d ≤ d * d := Int.mul_le_mul_of_nonneg_right d2 (by omega)
    exact r d d2 (by omega)
  · intro h e e2 en ed
    obtain ⟨q, hq⟩ := ed
    have q0 : 0 < q := by
      apply Int.lt_of_not_ge
      intro z
      have : e * q ≤ 0 := Int.mul_nonpos_of_nonneg_of_nonpos (by omega) z
      omega
    have q1 : q ≠ 1 := fun z => by
      rw [z, Int.mul_one] at hq
      omega
    by_cases le : e ≤ q
    · have : e * e ≤ e * q := Int.mul_le_mul_of_nonneg_left le (by omega)
      exact h e e2 (by omega) ⟨q, hq⟩
    · have : q * q ≤ e * q := Int.mul_le_mul_of_nonneg_right (by omega) (by omega)
      exact h q (by omega) (by omega) ⟨e, by rw [hq, Int.mul_comm]⟩
section
variable {P : Program} {w : World} {K : PySem.W.Frag} {mg : Str → Option Value} {base : Heap}
theorem ok_prm {f : Addr} {fd : FuncData} {k : Nat} (F : Fun K "_law_is_plain_prime" "_law_is_plain_prime" s__law_is_plain_prime f fd) (T : Blt mg) : FnOk P w K mg base CX0 (k + 1) f fd P__law_is_plain_prime spPrm := by
  have nd := sc__law_is_plain_prime.nd
  refine F.ok sc__law_is_plain_prime (fun vs H Q E h => ?_) (fun cdv A outer s H vs Q E hr h => ?_)
  · obtain ⟨n, rfl, _⟩ := h
    rfl
  · obtain ⟨n, rfl, h0, h1, q⟩ := h
    refine ⟨_, (pss_cons (ps_setLc (i := 1) (own := [("_law_part", 2)]) (g := gName 2) (by rfl) nd rfl rfl (sw_true rfl rfl rfl (by decide +kernel)) (pi_range2 (by rfl) T.b_range (pa_cons (pe_int) (pa_cons (pv 0) pa_nil))) (blkOk_by (own := [("_law_part", 2)]) (N := N__law_is_plain_prime) (sc := defScope s__law_is_plain_prime) (by decide +kernel)) (fun _ _ _ _ _ => (pg_name (i := 2) nd rfl (Or.inl rfl))) (fun _ _ _ _ _ => pts_one (pt_cmpR op_le (pe_op op_mul (pv 2) (pv 2)) (pv 0) (nomark _))) (fun _ _ _ _ _ => (pv 2)))
      (pss_one (ps_ret (pe_and (pe_cmpR op_gt (pv 0) (pe_int) (nomark _)) (pe_one (pe_callB (r := rAll K) (cr_all rfl) (by rfl) T.b_all (by decide +kernel) (pa_cons (pe_lc (own := [("_law_part", 2)]) (g := gName 2) (by rfl) nd (pi_list (pv 1)) (blkOk_by (own := [("_law_part", 2)]) (N := N__law_is_plain_prime) (sc := defScope s__law_is_plain_prime) (by decide +kernel)) (fun _ _ _ _ _ => (pg_name (i := 2) nd rfl (Or.inl rfl))) (fun _ _ _ _ _ => pts_nil) (fun _ _ _ _ _ => (pe_cmpR op_gt (pe_op op_mod (pv 0) (pv 2)) (pe_int) (nomark _)))) pa_nil))))))), ?_⟩
    walk_at "ev"
    intro D hD
    refine lc_range (lo := 2) (n := _) (fun i H' => Hold (∃ ms : List Int, Same H H' ∧ H' D = some (.lst (ms.map V.int)) ∧ ms.length ≤ i ∧ (∀ m, m ∈ ms ↔ 2 ≤ m ∧ m < 2 + (i : Int) ∧ m * m ≤ n))) (.mk ⟨[], same_new hD, upd_same, Nat.zero_le _, fun m => ⟨fun z => by simp at z, fun z => by omega⟩⟩) ?_ ?_
    · intro i H2 hi hP
      obtain ⟨ms, sm2, hD2, hl, hm⟩ := hP.un
      have hcm : CMul (2 + (i : Int)) (2 + i) := .inl ⟨by omega, by omega⟩
      have hfl : (ms.map V.int).length < sizeLine := by
        rw [List.length_map]
        exact szm (by omega)
      walk_at "ev"
      refine ite2 (fun e => ?_) (fun e => ?_)
      · have e1 : (2 + (i : Int)) * (2 + i) ≤ n := of_decide_eq_true e
        walk_at "ev"
        refine .mk ⟨ms ++ [2 + (i : Int)], same_mut sm2 hD, ?_, ?_, fun m => ?_⟩
        · rw [upd_same, List.map_append]
          rfl
        · simp
          omega
        · rw [List.mem_append, List.mem_singleton, hm]
          constructor
          · rintro (⟨a, b, c⟩ | z)
            · exact ⟨a, by omega, c⟩
            · rw [z]
              exact ⟨by omega, by omega, e1⟩
          · rintro ⟨a, b, c⟩
            by_cases z : m = 2 + (i : Int)
            · exact .inr z
            · exact .inl ⟨a, by omega, c⟩
      · have e1 : ¬ (2 + (i : Int)) * (2 + i) ≤ n := fun z => e (decide_eq_true z)
        refine .mk ⟨ms, sm2, hD2, by omega, fun m => ?_⟩
        rw [hm]
        constructor
        · rintro ⟨a, b, c⟩
          exact ⟨a, by omega, c⟩
        · rintro ⟨a, b, c⟩
          refine ⟨a, ?_, c⟩
          have : m ≠ 2 + (i : Int) := fun z => e1 (z ▸ c)
          omega
    · intro H2 hP
      obtain ⟨ms, sm2, hD2, hl, hm⟩ := hP.un
      have hL : SqL K H2 D (ms.map V.int) := SqL.of hD2
      have hL' : ∃ xs, SqL K H2 D xs := ⟨_, hL⟩
      walk_at "ev"
      refine ite2 (fun e => ?_) (fun e => ?_)
      · have e1 : 1 < n := of_decide_eq_true e
        walk_at "ev"
        intro D3 hD3
        refine lc_list (K := K) (a := D) (xs := ms.map V.int) (fun i H' => Hold (Same H2 H' ∧ H' D3 = some (.lst (((ms.take i).map fun m => decide (0 < n % m)).map V.bl)))) (.mk ⟨same_new hD3, upd_same⟩) ?_ ?_ ?_
        · intro i H3 hi hP3
          obtain ⟨sm3, hD4⟩ := hP3.un
          exact sm3.seq hL
        · intro i v H3 hv hP3
          obtain ⟨sm3, hD4⟩ := hP3.un
          rw [List.getElem?_map] at hv
          obtain ⟨m, hmm, ev⟩ := Option.map_eq_some_iff.mp hv
          subst ev
          obtain ⟨m2, _, _⟩ := (hm m).mp (List.mem_of_getElem? hmm)
          have hil : i < ms.length := (List.getElem?_eq_some_iff.mp hmm).1
          have hsz : (((ms.take i).map fun m => decide (0 < n % m)).map V.bl).length < sizeLine := by
            rw [List.length_map, List.length_map, List.length_take]
            exact szm (by omega)
          walk_at "ev"
          refine .mk ⟨same_mut sm3 hD3, ?_⟩
          rw [upd_same, List.take_add_one, hmm, List.map_append, List.map_append]
          rfl
        · intro H3 hP3
          obtain ⟨sm3, hD4⟩ := hP3.un
          rw [List.length_map, List.take_length] at hD4
          refine ⟨D3, _, rfl, SqL.of hD4, q _ _ (sm2.trans sm3) ?_⟩
          rw [List.all_eq_true, rough_sq (by omega)]
          constructor
          · intro h
            refine ⟨by omega, fun d d2 dd hdv => ?_⟩
            have dn : d < 2 + ((n - 2).toNat : Int) := by
              have : 2 * d ≤ d * d := Int.mul_le_mul_of_nonneg_right d2 (by omega)
              omega
            have := h _ (List.mem_map.mpr ⟨d, (hm d).mpr ⟨d2, dn, dd⟩, rfl⟩)
            have z := of_decide_eq_true this
            rw [Int.emod_eq_zero_of_dvd hdv] at z
            omega
          · rintro ⟨_, h⟩ b hb
            obtain ⟨d, hd, ed⟩ := List.mem_map.mp hb
            obtain ⟨d2, _, dd⟩ := (hm d).mp hd
            rw [← ed]
            refine decide_eq_true ?_
            have : n % d ≠ 0 := fun z => h d d2 dd (Int.dvd_of_emod_eq_zero z)
            have := Int.emod_nonneg n (show d ≠ 0 by omega)
            omega
      · have e1 : ¬ 1 < n := fun z => e (decide_eq_true z)
        exact q _ _ sm2 ⟨fun z => Bool.noConfusion z, fun z => by omega⟩
end
abbrev s_are_coprime : Stmt := top 10
abbrev N_are_coprime : List Str := ["one", "other"]
abbrev P_are_coprime : List Str := ["one", "other"]
theorem sc_are_coprime : FnScope N_are_coprime P_are_coprime (defScope s_are_coprime) := ⟨rfl, rfl, rfl, by decide +kernel, rfl, by decide +kernel, by decide +kernel⟩
def spCop : Sp := fun vs H Q _ => ∃ (x y : Int), vs = [.int x, .int y] ∧ 0 ≤ x ∧ 0 ≤ y ∧ Q (.bl (decide (Int.gcd x y = 1))) H
section
variable {P : Program} {w : World} {K : PySem.W.Frag} {mg : Str → Option Value} {base : Heap}
theorem ok_coprime {f : Addr} {fd : FuncData} {k : Nat} (F : Fun K "are_coprime" "are_coprime" s_are_coprime f fd) : FnOk P w K mg base CX0 (k + 1) f fd P_are_coprime spCop := by
  have nd := sc_are_coprime.nd
  refine F.ok sc_are_coprime (fun vs H Q E h => ?_) (fun cdv A outer s H vs Q E hr h => ?_)
  · obtain ⟨x, y, rfl, _⟩ := h
    rfl
  · obtain ⟨x, y, rfl, hx, hy, q⟩ := h
    refine ⟨_, (pss_cons (ps_while PassesOwn.never (pt_cmpR op_ne (pv 1) (pe_int) (nomark _))
      (pss_one (ps_par (i := 0) (j := 1) (by rfl) nd rfl rfl (by decide) rfl rfl (pa_cons (pv 1) (pa_cons (pe_op op_mod (pv 0) (pv 1)) pa_nil)) (by rfl))))
      (pss_one (ps_ret (pe_cmpR op_eq (pv 0) (pe_int) (nomark _))))), ?_⟩
    refine ⟨fun z σ H' => H' = H ∧ ∃ (a b : Int), σ = [some (.int a), some (.int b)] ∧ z = b.toNat ∧ 0 ≤ a ∧ 0 ≤ b ∧ Int.gcd a b = Int.gcd x y, ⟨_, rfl, x, y, rfl, rfl, hx, hy, rfl⟩, ?_⟩
    rintro z σ H' ⟨rfl, a, b, rfl, rfl, ha, hb, hg⟩
    walk_at "ev"
    by_cases c : b = 0
    · subst c
      refine iteFe (by simp) ?_
      walk_at "ev"
      have e : decide (V.int a = V.int 1) = decide (Int.gcd x y = 1) := by
        rw [← hg, Int.gcd_zero_right]
        exact decide_eq_decide.mpr ⟨fun h => by have := V.int.inj h; omega, fun h => congrArg V.int (by omega)⟩
      rw [e]
      exact q
    · refine iteTe (by simp [c]) ?_
      refine ⟨_, holdN, ?_⟩
      walk_at "ev"
      have h1 := Int.emod_lt_of_pos a (show 0 < b by omega)
      have h0 := Int.emod_nonneg a c
      exact .mk ⟨(a % b).toNat, by omega, rfl, b, a % b, rfl, rfl, hb, h0, by rw [gcd_step ha hb]; exact hg⟩
end
/-! ### plans as data -/
inductive Pl
  | leaf (w : Str) (n : Int)
  | two (w : Str) (a b : Pl)
  | led (w : Str) (n : Int) (a : Pl)
def plen : Pl → Int
  | .leaf _ n => n
  | .two _ a b => plen a * plen b
  | .led _ n _ => n
def pdep : Pl → Nat
  | .leaf _ _ => 0
  | .two _ a b => 1 + max (pdep a) (pdep b)
  | .led _ _ a => 1 + pdep a
def Ok : Pl → Prop
  | .leaf _ n => 1 ≤ n ∧ n ≤ 1000
  | .two _ a b => Ok a ∧ Ok b ∧ 1 ≤ plen a * plen b ∧ plen a * plen b ≤ 1000
  | .led _ n a => 1 ≤ n ∧ n ≤ 1000 ∧ Ok a
theorem Ok.len : ∀ {p : Pl}, Ok p → 1 ≤ plen p ∧ plen p ≤ 1000
  | .leaf _ _, h => h
  | .two _ _ _, h => ⟨h.2.2.1, h.2.2.2⟩
  | .led _ _ _, h => ⟨h.1, h.2.1⟩
inductive PlAt (K : PySem.W.Frag) (H : Hp) : V → Pl → Prop
  | leaf {a : Addr} {w : Str} {n : Int} : (w = "plain" ∨ w = "short") → SqT K H a [.str w, .int n] → PlAt K H (.ref a) (.leaf w n)
  | two {a : Addr} {w : Str} {x y : V} {p q : Pl} : (w = "split" ∨ w = "parts") → SqT K H a [.str w, x, y] → PlAt K H x p → PlAt K H y q → PlAt K H (.ref a) (.two w p q)
  | led {a : Addr} {w : Str} {n : Int} {x : V} {p : Pl} : (w = "powers" ∨ w = "stretch") → SqT K H a [.str w, .int n, x] → PlAt K H x p → PlAt K H (.ref a) (.led w n p)
theorem PlAt.same {K : PySem.W.Frag} {H H' : Hp} {v : V} {p : Pl} (h : PlAt K H v p) (e : Same H H') : PlAt K H' v p := by
  induction h with
  | leaf a b => exact .leaf a (same_t e b)
  | two a b c d i1 i2 => exact .two a (same_t e b) i1 i2
  | led a b c i1 => exact .led a (same_t e b) i1
theorem PlAt.kd {K : PySem.W.Frag} {H : Hp} {v : V} {p : Pl} (h : PlAt K H v p) : Kd K H v "tuple" := by
  cases h with
  | leaf a b => exact .tup b
  | two a b c d => exact .tup b
  | led a b c => exact .tup b
theorem in_sp {w : Str} (h : w = "split" ∨ w = "parts") : inV (.str w) [.str "split", .str "parts"] = true := by
  rcases h with h | h <;> rw [h] <;> decide
theorem in_sp_leaf {w : Str} (h : w = "plain" ∨ w = "short") : inV (.str w) [.str "split", .str "parts"] = false := by
  rcases h with h | h <;> rw [h] <;> decide
theorem in_sp_led {w : Str} (h : w = "powers" ∨ w = "stretch") : inV (.str w) [.str "split", .str "parts"] = false := by
  rcases h with h | h <;> rw [h] <;> decide
abbrev s_plan_length : Stmt := top 20
abbrev N_plan_length : List Str := ["plan"]
abbrev P_plan_length : List Str := ["plan"]
theorem sc_plan_length : FnScope N_plan_length P_plan_length (defScope s_plan_length) := ⟨rfl, rfl, rfl, by decide +kernel, rfl, by decide +kernel, by decide +kernel⟩
def spPlen (K : PySem.W.Frag) (d : Nat) : Sp := fun vs H Q _ => ∃ (v : V) (p : Pl), vs = [v] ∧ PlAt K H v p ∧ pdep p ≤ d ∧ Ok p ∧ ∀ H', Same H H' → Q (.int (plen p)) H'
section
variable {P : Program} {w : World} {K : PySem.W.Frag} {mg : Str → Option Value} {base : Heap}
theorem plen_step {f : Addr} {fd : FuncData} {n : Nat} {spI : Sp} (D_plan_length : Df K mg "plan_length" s_plan_length P_plan_length f fd) (T : Blt mg) (G_plan_length : FnOk P w K mg base CX0 n f fd P_plan_length spI) (hG : ∀ m, n = m + 1 → spI = spPlen K m) : FnOk P w K mg base CX0 (n + 1) f fd P_plan_length (spPlen K n) := by
  have nd := sc_plan_length.nd
  refine D_plan_length.F.ok sc_plan_length (fun vs H Q E h => ?_) (fun cdv A outer s H vs Q E hr h => ?_)
  · obtain ⟨v, p, rfl, _⟩ := h
    rfl
  · obtain ⟨v, p, rfl, hp, hd, ok, q⟩ := h
    refine ⟨_, (pss_cons (ps_if (pt_cmpR (r := rIn K false) op_in_seq (pe_ix (r := rIxT K) ix_tup (pv 0) (pe_int) (fun _ _ => rfl)) (pe_tup (pa_cons (pe_str) (pa_cons (pe_str) pa_nil))) (by rfl)) (pss_one (ps_ret (pe_op op_mul (pe_call G_plan_length (hr.mono (by omega)) (by rfl) D_plan_length.g D_plan_length.F.kp D_plan_length.b .nil pass0 (pa_cons (pe_ix (r := rIxT K) ix_tup (pv 0) (pe_int) (fun _ _ => rfl)) pa_nil)) (pe_call G_plan_length (hr.mono (by omega)) (by rfl) D_plan_length.g D_plan_length.F.kp D_plan_length.b .nil pass0 (pa_cons (pe_ix (r := rIxT K) ix_tup (pv 0) (pe_int) (fun _ _ => rfl)) pa_nil))))) pss_nil)
      (pss_one (ps_ret (pe_ix (r := rIxT K) ix_tup (pv 0) (pe_int) (fun _ _ => rfl))))), ?_⟩
    cases hp with
    | leaf hw hs =>
      rename_i a wd n
      have hat0 : atI [V.str wd, V.int n] 0 = some (.str wd) := rfl
      walk_at "ev"
      intro p1 hp1
      generalize hG1 : upd _ p1 _ = H1
      obtain ⟨sm1, hq1⟩ := newO hG1 hp1
      have ht : SqL K H1 p1 [.str "split", .str "parts"] ∨ SqT K H1 p1 [.str "split", .str "parts"] := .inr (SqT.of hq1)
      have hs1 := same_t sm1 hs
      walk_at "ev"
      refine iteFe (in_sp_leaf hw) ?_
      walk_at "ev"
      exact q _ sm1
    | two hw hs hx hy =>
      rename_i a wd x y p1 p2
      cases n with
      | zero =>
        have : 1 + max (pdep p1) (pdep p2) ≤ 0 := hd
        omega
      | succ n =>
      have hS := hG n rfl
      subst hS
      have hd' : 1 + max (pdep p1) (pdep p2) ≤ n + 1 := hd
      obtain ⟨ok1, ok2, ok3, ok4⟩ := (show Ok p1 ∧ Ok p2 ∧ 1 ≤ plen p1 * plen p2 ∧ plen p1 * plen p2 ≤ 1000 from ok)
      walk_at "ev"
      intro t1 ht1
      generalize hG1 : upd _ t1 _ = H1
      obtain ⟨sm1, hq1⟩ := newO hG1 ht1
      have ht : SqL K H1 t1 [.str "split", .str "parts"] ∨ SqT K H1 t1 [.str "split", .str "parts"] := .inr (SqT.of hq1)
      have hs1 := same_t sm1 hs
      walk_at "ev"
      refine iteTe (in_sp hw) ?_
      have hx1 := hx.same sm1
      have hdx : pdep p1 ≤ n := by omega
      have hdy : pdep p2 ≤ n := by omega
      walk_at "ev"
      intro H2 sm2
      have hs2 := same_t sm2 hs1
      have hy2 := (hy.same sm1).same sm2
      walk_at "ev"
      intro H3 sm3
      have l1 := ok1.len
      have hcm : CMul (plen p1) (plen p2) := .inl ⟨by omega, by omega⟩
      walk_at "ev"
      exact q _ (sm1.trans (sm2.trans sm3))
    | led hw hs hx =>
      rename_i a wd m x p1
      walk_at "ev"
      intro t1 ht1
      generalize hG1 : upd _ t1 _ = H1
      obtain ⟨sm1, hq1⟩ := newO hG1 ht1
      have ht : SqL K H1 t1 [.str "split", .str "parts"] ∨ SqT K H1 t1 [.str "split", .str "parts"] := .inr (SqT.of hq1)
      have hs1 := same_t sm1 hs
      walk_at "ev"
      refine iteFe (in_sp_led hw) ?_
      walk_at "ev"
      exact q _ sm1
theorem ok_plen {f : Addr} {fd : FuncData} (D_plan_length : Df K mg "plan_length" s_plan_length P_plan_length f fd) (T : Blt mg) : ∀ n : Nat, FnOk P w K mg base CX0 (n + 1) f fd P_plan_length (spPlen K n)
  | 0 => plen_step (spI := fun _ _ _ _ => False) D_plan_length T ⟨fun _ _ _ _ h => h.elim, fun _ _ _ _ _ _ _ _ _ _ _ _ _ h => h.elim⟩ (fun m h => by omega)
  | n + 1 => plen_step D_plan_length T (ok_plen D_plan_length T n) (fun m h => by cases h; rfl)
end
/-! ### depths -/
inductive PlAll (K : PySem.W.Frag) (H : Hp) : List V → List Pl → Prop
  | nil : PlAll K H [] []
  | cons {v : V} {p : Pl} {vs : List V} {ps : List Pl} : PlAt K H v p → PlAll K H vs ps → PlAll K H (v :: vs) (p :: ps)
theorem PlAll.same {K : PySem.W.Frag} {H H' : Hp} {vs : List V} {ps : List Pl} (h : PlAll K H vs ps) (e : Same H H') : PlAll K H' vs ps := by
  induction h with
  | nil => exact .nil
  | cons a b i => exact .cons (a.same e) i
theorem PlAll.len {K : PySem.W.Frag} {H : Hp} {vs : List V} {ps : List Pl} (h : PlAll K H vs ps) : vs.length = ps.length := by
  induction h with
  | nil => rfl
  | cons a b i => rw [List.length_cons, List.length_cons, i]
theorem PlAll.get {K : PySem.W.Frag} {H : Hp} : ∀ {vs : List V} {ps : List Pl} {i : Nat} {v : V}, PlAll K H vs ps → vs[i]? = some v → ∃ p, ps[i]? = some p ∧ PlAt K H v p
  | _, _, _, _, .nil, h => by simp at h
  | _, _, 0, _, .cons (p := p) a b, h => ⟨p, rfl, by
      have e := Option.some.inj h
      rw [← e]
      exact a⟩
  | _, _, i + 1, _, .cons a b, h => PlAll.get (i := i) b h
theorem PlAt.mut {K : PySem.W.Frag} {H : Hp} {v : V} {p : Pl} {a : Addr} {xs : List V} {o : HO} (h : PlAt K H v p) (ha : H a = some (.lst xs)) : PlAt K (upd H a o) v p := by
  have go : ∀ {b : Addr} {ys : List V}, SqT K H b ys → SqT K (upd H a o) b ys := fun {b ys} e => by
    rcases e with (e | ⟨u, e⟩) | e
    · refine .inl (.inl ?_)
      rw [upd_ne (ne_of e ha (by intro q; cases q))]
      exact e
    · refine .inl (.inr ⟨u, ?_⟩)
      rw [upd_ne (ne_of e ha (by intro q; cases q))]
      exact e
    · exact .inr e
  induction h with
  | leaf a b => exact .leaf a (go b)
  | two a b c d i1 i2 => exact .two a (go b) i1 i2
  | led a b c i1 => exact .led a (go b) i1
theorem PlAll.mut {K : PySem.W.Frag} {H : Hp} {vs : List V} {ps : List Pl} {a : Addr} {xs : List V} {o : HO} (h : PlAll K H vs ps) (ha : H a = some (.lst xs)) : PlAll K (upd H a o) vs ps := by
  induction h with
  | nil => exact .nil
  | cons x y i => exact .cons (x.mut ha) i
def inn : Pl → List Pl
  | .leaf _ _ => []
  | .two _ a b => [a, b]
  | .led _ _ a => [a]
theorem inn_dep {p q : Pl} (h : q ∈ inn p) : pdep q + 1 ≤ pdep p := by
  cases p with
  | leaf w n => simp [inn] at h
  | two w a b =>
    have h' : q = a ∨ q = b := by simpa [inn] using h
    show pdep q + 1 ≤ 1 + max (pdep a) (pdep b)
    rcases h' with h | h <;> rw [h] <;> omega
  | led w n a =>
    have h' : q = a := by simpa [inn] using h
    show pdep q + 1 ≤ 1 + pdep a
    rw [h']
    omega
theorem inn_max {p : Pl} {m : Int} (h : m ∈ (inn p).map fun q => (pdep q : Int)) (hm : ∀ y ∈ (inn p).map (fun q => (pdep q : Int)), y ≤ m) : 1 + m = (pdep p : Int) := by
  cases p with
  | leaf w n => simp [inn] at h
  | two w a b =>
    have h' : m = (pdep a : Int) ∨ m = (pdep b : Int) := by simpa [inn] using h
    have h1 := hm (pdep a) (by simp [inn])
    have h2 := hm (pdep b) (by simp [inn])
    show 1 + m = ((1 + max (pdep a) (pdep b) : Nat) : Int)
    omega
  | led w n a =>
    have h' : m = (pdep a : Int) := by simpa [inn] using h
    show 1 + m = ((1 + pdep a : Nat) : Int)
    omega
def isT : V → Bool
  | .ref _ => true
  | _ => false
abbrev s_inner_plans : Stmt := top 21
abbrev N_inner_plans : List Str := ["plan", "part"]
abbrev P_inner_plans : List Str := ["plan"]
theorem sc_inner_plans : FnScope N_inner_plans P_inner_plans (defScope s_inner_plans) := ⟨rfl, rfl, rfl, by decide +kernel, rfl, by decide +kernel, by decide +kernel⟩
def spInner (K : PySem.W.Frag) : Sp := fun vs H Q _ => ∃ (v : V) (p : Pl), vs = [v] ∧ PlAt K H v p ∧ ∀ xs l H', H l = none → Same H H' → H' l = some (.lst xs) → PlAll K H' xs (inn p) → Q (.ref l) H'
section
variable {P : Program} {w : World} {K : PySem.W.Frag} {mg : Str → Option Value} {base : Heap}
theorem ok_inner {f : Addr} {fd : FuncData} {k : Nat} (F : Fun K "inner_plans" "inner_plans" s_inner_plans f fd) (T : Blt mg) : FnOk P w K mg base CX0 (k + 1) f fd P_inner_plans (spInner K) := by
  have nd := sc_inner_plans.nd
  refine F.ok sc_inner_plans (fun vs H Q E h => ?_) (fun cdv A outer s H vs Q E hr h => ?_)
  · obtain ⟨v, p, rfl, _⟩ := h
    rfl
  · obtain ⟨v, p, rfl, hp, q⟩ := h
    refine ⟨_, (pss_one (ps_ret (pe_lc (own := [("part", 1)]) (g := gName 1) (by rfl) nd (pi_tup (pe_slice (r := rSlT K) sl_tup (pv 0) (po_some (pe_int)) po_none)) (blkOk_by (own := [("part", 1)]) (N := N_inner_plans) (sc := defScope s_inner_plans) (by decide +kernel)) (fun _ _ _ _ _ => (pg_name (i := 1) nd rfl (Or.inl rfl))) (fun _ _ _ _ _ => pts_one (pt_val (pe_callB (r := rIsi K) call_isi (by rfl) T.b_isinstance (by decide +kernel) (pa_cons (pv 1) (pa_cons (pe_bltn (v := .ty "tuple") (by rfl) T.b_tuple (by decide +kernel) rfl) pa_nil))))) (fun _ _ _ _ _ => (pv 1))))), ?_⟩
    have key : ∃ a ys zs, v = .ref a ∧ SqT K H a ys ∧ cutV ys (some 1) none = zs ∧ (¬ (HT.sIx ys.length 0 (some 1) = 0 ∧ HT.sIx ys.length ys.length none = ys.length)) ∧ zs.length ≤ 2 ∧ (∀ x ∈ zs, ∃ t, Kd K H x t ∧ tis t "tuple" = isT x) ∧ PlAll K H (zs.filter isT) (inn p) := by
      cases hp with
      | leaf hw hs =>
        refine ⟨_, _, _, rfl, hs, rfl, (fun z => absurd z.1 (show ¬ HT.sIx 2 0 (some 1) = 0 by decide)), (show 1 ≤ 2 by decide), ?_, ?_⟩
        · intro x hx
          have e : x = .int _ := List.mem_singleton.mp hx
          rw [e]
          exact ⟨_, .int _, (show tis "int" "tuple" = false by decide)⟩
        · exact .nil
      | two hw hs hx hy =>
        rename_i a wd x y p1 p2
        refine ⟨_, _, [x, y], rfl, hs, rfl, (fun z => absurd z.1 (show ¬ HT.sIx 3 0 (some 1) = 0 by decide)), (show 2 ≤ 2 by decide), ?_, ?_⟩
        · intro z hz
          have e : z = x ∨ z = y := by simpa using hz
          have tt : tis "tuple" "tuple" = true := by decide
          rcases e with e | e
          · rw [e]
            refine ⟨_, hx.kd, ?_⟩
            cases hx <;> exact tt
          · rw [e]
            refine ⟨_, hy.kd, ?_⟩
            cases hy <;> exact tt
        · have e1 : isT x = true := by cases hx <;> rfl
          have e2 : isT y = true := by cases hy <;> rfl
          have e : [x, y].filter isT = [x, y] := by simp [e1, e2]
          rw [e]
          exact .cons hx (.cons hy .nil)
      | led hw hs hx =>
        rename_i a wd m x p1
        refine ⟨_, _, [.int m, x], rfl, hs, rfl, (fun z => absurd z.1 (show ¬ HT.sIx 3 0 (some 1) = 0 by decide)), (show 2 ≤ 2 by decide), ?_, ?_⟩
        · intro z hz
          have e : z = .int m ∨ z = x := by simpa using hz
          rcases e with e | e
          · rw [e]
            exact ⟨_, .int _, (show tis "int" "tuple" = false by decide)⟩
          · rw [e]
            refine ⟨_, hx.kd, ?_⟩
            have tt : tis "tuple" "tuple" = true := by decide
            cases hx <;> exact tt
        · have e1 : isT x = true := by cases hx <;> rfl
          have e2 : isT (.int m) = false := rfl
          have e : [.int m, x].filter isT = [x] := by simp [e1, e2]
          rw [e]
          exact .cons hx .nil
    obtain ⟨a, ys, zs, rfl, hs, hcut, hnw, hzl, hkd, hall⟩ := key
    walk_at "ev"
    intro t1 ht1
    rw [hcut]
    generalize hG1 : upd _ t1 _ = H1
    obtain ⟨sm1, hq1⟩ := newO hG1 ht1
    have ht : SqT K H1 t1 zs := SqT.of hq1
    have ht' : ∃ xs, SqT K H1 t1 xs := ⟨_, ht⟩
    walk_at "ev"
    intro D hD
    refine lc_tup (K := K) (a := t1) (xs := zs) (fun i H' => Hold (Same H1 H' ∧ H' D = some (.lst ((zs.take i).filter isT)))) (.mk ⟨same_new hD, upd_same⟩) ?_ ?_ ?_
    · intro i H2 hi hP
      obtain ⟨sm2, hD2⟩ := hP.un
      exact same_t sm2 ht
    · intro i x H2 hx hP
      obtain ⟨sm2, hD2⟩ := hP.un
      obtain ⟨t, kd0, et⟩ := hkd x (List.mem_of_getElem? hx)
      have kd := (kd0.same sm1).same sm2
      have ty := kd.ty
      obtain ⟨k1, k2, k3, k4, k5⟩ := kd.kit
      rw [et] at k5
      have hfl : ((zs.take i).filter isT).length < sizeLine := by
        refine szm (Nat.le_trans (List.length_filter_le _ _) ?_)
        rw [List.length_take]
        omega
      walk_at "ev"
      refine ite2 (fun e => ?_) (fun e => ?_)
      · walk_at "ev"
        refine .mk ⟨same_mut sm2 hD, ?_⟩
        rw [upd_same, List.take_add_one, hx, List.filter_append]
        simp [e]
      · refine .mk ⟨sm2, ?_⟩
        rw [hD2, List.take_add_one, hx, List.filter_append]
        simp [e]
    · intro H2 hP
      obtain ⟨sm2, hD2⟩ := hP.un
      rw [List.take_length] at hD2
      exact q _ D H2 (sm1.free hD) (sm1.trans sm2) hD2 ((hall.same sm1).same sm2)
end
/-! ### the law's own plans, good ones -/
/-- a plan as the document has it -/
def PlN : Pl → Prop
  | .leaf w n => 1 ≤ n ∧ n ≤ 1000 ∧ (w = "short" → n ≤ 4)
  | .two w a b => PlN a ∧ PlN b ∧ 2 ≤ plen a ∧ 2 ≤ plen b ∧ plen a * plen b ≤ 1000 ∧ (w = "parts" → Int.gcd (plen a) (plen b) = 1)
  | .led w n a => PlN a ∧ 2 ≤ n ∧ n ≤ 1000 ∧ (w = "powers" → 3 ≤ n ∧ Fac n [n] ∧ plen a = n - 1) ∧ (w = "stretch" → 2 * n - 1 ≤ plen a)
theorem PlN.ok : ∀ {p : Pl}, PlN p → 1 ≤ plen p ∧ plen p ≤ 1000 ∧ Ok p
  | .leaf w n, ⟨h1, h2, _⟩ => ⟨h1, h2, h1, h2⟩
  | .two w a b, ⟨h1, h2, h3, h4, h5, _⟩ => by
    have m1 : 1 * 1 ≤ plen a * plen b := Int.mul_le_mul (by omega) (by omega) (by decide) (by omega)
    exact ⟨by show 1 ≤ plen a * plen b; omega, h5, h1.ok.2.2, h2.ok.2.2, by omega, h5⟩
  | .led w n a, ⟨h1, h2, h3, _⟩ => ⟨by show 1 ≤ n; omega, h3, by omega, h3, h1.ok.2.2⟩
def spShG : Sp := fun vs H Q _ => ∃ (x y : Int), vs = [.int x, .int y] ∧ 0 ≤ x ∧ 0 ≤ y ∧ x ≤ 1000000000 ∧ y ≤ 1000000000 ∧ Q (.bl (decide (1 < Int.gcd x y))) H
abbrev s__law_any_plan : Stmt := top 61
abbrev N__law_any_plan : List Str := ["_law_box_here", "_law_length", "_law_deep", "_law_some", "_law_parts", "_law_way", "_law_one", "_law_part"]
abbrev P__law_any_plan : List Str := ["_law_box_here", "_law_length", "_law_deep"]
theorem sc__law_any_plan : FnScope N__law_any_plan P__law_any_plan (defScope s__law_any_plan) := ⟨rfl, rfl, rfl, by decide +kernel, rfl, by decide +kernel, by decide +kernel⟩
inductive Way (H : Hp) (n : Int) (d : Nat) : V → Prop
  | leaf {a : Addr} {w : Str} : (w = "plain" ∨ w = "short") → (w = "short" → n < 5) → H a = some (.tup [.str w]) → Way H n d (.ref a)
  | pow {a : Addr} : 0 < d → 2 < n → Fac n [n] → H a = some (.tup [.str "powers"]) → Way H n d (.ref a)
  | two {a : Addr} {w : Str} {k : Int} : (w = "split" ∨ w = "parts") → 0 < d → 2 ≤ k → k < n → n % k = 0 → (w = "parts" → Int.gcd k (n / k) = 1) → H a = some (.tup [.str w, .int k]) → Way H n d (.ref a)
  | str {a : Addr} {m : Int} : 0 < d → 1 < n → 2 * n - 1 ≤ m → m ≤ 242 → H a = some (.tup [.str "stretch", .int m]) → Way H n d (.ref a)
theorem Way.same {H H' : Hp} {n : Int} {d : Nat} {v : V} (h : Way H n d v) (e : Same H H') : Way H' n d v := by
  cases h with
  | leaf a y b => exact .leaf a y (e _ _ b)
  | pow a b y c => exact .pow a b y (e _ _ c)
  | two a b c d f y g => exact .two a b c d f y (e _ _ g)
  | str a b c d f => exact .str a b c d (e _ _ f)
theorem keep_at {H H' : Hp} {b a : Addr} {c : Int} {xs : List V} (e : Keep b H H') (hb : BoxAt H b c) (h : H a = some (.tup xs)) : H' a = some (.tup xs) := by
  obtain ⟨x, y, z, e1, e2⟩ := hb
  exact e _ _ (ne_of h e1 (by intro q; cases q)) h
theorem Way.keep {H H' : Hp} {n : Int} {d : Nat} {v : V} {b : Addr} {c : Int} (h : Way H n d v) (e : Keep b H H') (hb : BoxAt H b c) : Way H' n d v := by
  cases h with
  | leaf a y b => exact .leaf a y (keep_at e hb b)
  | pow a b y c => exact .pow a b y (keep_at e hb c)
  | two a b c d f y g => exact .two a b c d f y (keep_at e hb g)
  | str a b c d f => exact .str a b c d (keep_at e hb f)
theorem Way.mut {H : Hp} {n : Int} {d : Nat} {v : V} {p : Addr} {xs : List V} {o : HO} (h : Way H n d v) (hp : H p = some (.lst xs)) : Way (upd H p o) n d v := by
  have go : ∀ {a : Addr} {ys : List V}, H a = some (.tup ys) → upd H p o a = some (.tup ys) := fun {a ys} e => by
    rw [upd_ne (ne_of e hp (by intro q; cases q))]
    exact e
  cases h with
  | leaf a y b => exact .leaf a y (go b)
  | pow a b y c => exact .pow a b y (go c)
  | two a b c d f y g => exact .two a b c d f y (go g)
  | str a b c d f => exact .str a b c d (go f)
theorem iteDn {c A B : Prop} [Decidable c] (hc : ¬ c) (h : B) : if decide c = true then A else B := by
  rw [decide_eq_false hc]
  exact iteF h
theorem iteNp {c A B : Prop} [Decidable c] (hc : ¬ c) (h : A) : if (!decide c) = true then A else B := by
  rw [decide_eq_false hc]
  exact iteT h
theorem ne_pow {w : Str} (h : w = "plain" ∨ w = "short") : ¬ V.str w = V.str "powers" := by
  rcases h with h | h <;> rw [h] <;> decide
theorem mem_rep {k : Nat} {ys : List V} {x : V} (h : x ∈ (List.replicate k ys).flatten) : x ∈ ys ∧ 0 < k := by
  obtain ⟨l, hl, hx⟩ := List.mem_flatten.mp h
  have h1 := List.mem_replicate.mp hl
  rw [h1.2] at hx
  exact ⟨hx, by omega⟩
theorem len_rep {ys : List V} : ∀ k : Nat, (List.replicate k ys).flatten.length = k * ys.length
  | 0 => by simp
  | k + 1 => by
    rw [List.replicate_succ, List.flatten_cons, List.length_append, len_rep k, Nat.add_mul]
    omega
theorem in_pq_two {w : Str} (h : w = "split" ∨ w = "parts") : inV (.str w) [.str "powers", .str "stretch"] = false := by
  rcases h with h | h <;> rw [h] <;> decide
def tks : Nat → Int
  | 0 => 2
  | d + 1 => 2 + 2 * tks d
theorem tks_pos : ∀ d : Nat, 0 ≤ tks d
  | 0 => by decide
  | d + 1 => by
    show 0 ≤ 2 + 2 * tks d
    have := tks_pos d
    omega
/-- a plan all of whose objects are tracked tuples -/
inductive PlT (H : Hp) : V → Pl → Prop
  | leaf {a : Addr} {w : Str} {n : Int} : (w = "plain" ∨ w = "short") → H a = some (.tup [.str w, .int n]) → PlT H (.ref a) (.leaf w n)
  | two {a : Addr} {w : Str} {x y : V} {p q : Pl} : (w = "split" ∨ w = "parts") → H a = some (.tup [.str w, x, y]) → PlT H x p → PlT H y q → PlT H (.ref a) (.two w p q)
  | led {a : Addr} {w : Str} {n : Int} {x : V} {p : Pl} : (w = "powers" ∨ w = "stretch") → H a = some (.tup [.str w, .int n, x]) → PlT H x p → PlT H (.ref a) (.led w n p)
theorem PlT.same {H H' : Hp} {v : V} {p : Pl} (h : PlT H v p) (e : Same H H') : PlT H' v p := by
  induction h with
  | leaf a b => exact .leaf a (e _ _ b)
  | two a b c d i1 i2 => exact .two a (e _ _ b) i1 i2
  | led a b c i1 => exact .led a (e _ _ b) i1
theorem PlT.keep {H H' : Hp} {v : V} {p : Pl} {b : Addr} {c : Int} (h : PlT H v p) (e : Keep b H H') (hb : BoxAt H b c) : PlT H' v p := by
  induction h with
  | leaf a b => exact .leaf a (keep_at e hb b)
  | two a b c d i1 i2 => exact .two a (keep_at e hb b) i1 i2
  | led a b c i1 => exact .led a (keep_at e hb b) i1
theorem PlT.mut {H : Hp} {v : V} {p : Pl} {a : Addr} {xs : List V} {o : HO} (h : PlT H v p) (ha : H a = some (.lst xs)) : PlT (upd H a o) v p := by
  have go : ∀ {b : Addr} {ys : List V}, H b = some (.tup ys) → upd H a o b = some (.tup ys) := fun {b ys} e => by
    rw [upd_ne (ne_of e ha (by intro q; cases q))]
    exact e
  induction h with
  | leaf a b => exact .leaf a (go b)
  | two a b c d i1 i2 => exact .two a (go b) i1 i2
  | led a b c i1 => exact .led a (go b) i1
theorem PlT.at {K : PySem.W.Frag} {H : Hp} {v : V} {p : Pl} (h : PlT H v p) : PlAt K H v p := by
  induction h with
  | leaf a b => exact .leaf a (SqT.of b)
  | two a b c d i1 i2 => exact .two a (SqT.of b) i1 i2
  | led a b c i1 => exact .led a (SqT.of b) i1
def spAny (K : PySem.W.Frag) (d : Nat) : Sp := fun vs H Q _ => ∃ (b : Addr) (n c dd : Int), vs = [.ref b, .int n, .int dd] ∧ dd = (d : Int) ∧ BoxAt H b c ∧ c + tks d < 1000000 ∧ 1 ≤ n ∧ n ≤ 242 ∧ ∀ v p H', PlT H' v p → plen p = n → pdep p ≤ d → PlN p → Keep b H H' → BoxAt H' b (c + tks d) → Q v H'
section
variable {P : Program} {w : World} {K : PySem.W.Frag} {mg : Str → Option Value} {base : Heap}
theorem any_step {f f1 f2 f3 f4 : Addr} {fd d1 d2 d3 d4 : FuncData} {d : Nat} {spI : Sp} (D__law_any_plan : Df K mg "_law_any_plan" s__law_any_plan P__law_any_plan f fd) (T : Blt mg) (D__law_take : Df K mg "_law_take" s__law_take P__law_take f1 d1) (D__law_pick : Df K mg "_law_pick" s__law_pick P__law_pick f2 d2) (D__law_shares : Df K mg "_law_shares" s__law_shares P__law_shares f3 d3) (D__law_is_plain_prime : Df K mg "_law_is_plain_prime" s__law_is_plain_prime P__law_is_plain_prime f4 d4)
    (G__law_any_plan : FnOk P w K mg base CX0 (d + 2) f fd P__law_any_plan spI) (hG : ∀ m, d = m + 1 → spI = spAny K m) : FnOk P w K mg base CX0 (d + 3) f fd P__law_any_plan (spAny K d) := by
  have G__law_take : FnOk P w K mg base CX0 1 f1 d1 P__law_take spTake := ok_take D__law_take.F
  have G__law_pick : FnOk P w K mg base CX0 2 f2 d2 P__law_pick (spPick K) := ok_pick D__law_pick.F T D__law_take
  have G__law_shares : FnOk P w K mg base CX0 1 f3 d3 P__law_shares spShG := fnsub (ok_shm (k := 0) D__law_shares.F T) fun vs H Q E h => by
    obtain ⟨x, y, e, x0, y0, x9, y9, q⟩ := h
    exact ⟨x, y, e, x0, y0, by rw [shM64 x0 y0 x9 y9]; exact q⟩
  have G__law_is_plain_prime : FnOk P w K mg base CX0 1 f4 d4 P__law_is_plain_prime spPrm := ok_prm (k := 0) D__law_is_plain_prime.F T
  have nd := sc__law_any_plan.nd
  refine D__law_any_plan.F.ok sc__law_any_plan (fun vs H Q E h => ?_) (fun cdv A outer s H vs Q E hr h => ?_)
  · obtain ⟨b, n, c, dd, rfl, _⟩ := h
    rfl
  · obtain ⟨b, n, c, dd, rfl, rfl, hb, hc, hn1, hn2, q⟩ := h
    have htp := tks_pos d
    have tail : ∃ tl, PSs (cxOf CX0 P w K mg base N__law_any_plan "_law_any_plan" (defScope s__law_any_plan) f cdv A outer s H E).nox ((defBody s__law_any_plan).drop 3) tl ∧ ∀ (l : Addr) (xs : List V) (H1 : Hp) (s4 s5 s6 s7 : Option V) (e : Int), Keep b H H1 → BoxAt H1 b (c + e) → (e = 0 ∨ (e = 1 ∧ 0 < d)) → H1 l = some (.lst xs) → l ≠ b → (∀ x ∈ xs, Way H1 n d x) → 0 < xs.length → xs.length ≤ 3000 → tl { nx := fun _ H' => Q .non H', rt := Q } [some (.ref b), some (.int n), some (.int (d : Int)), some (.ref l), s4, s5, s6, s7] H1 := by
      refine ⟨_, (pss_cons (ps_set (i := 5) nd rfl (Or.inl rfl) (pe_call G__law_pick (hr.mono (by omega)) (by rfl) D__law_pick.g D__law_pick.F.kp D__law_pick.b .nil pass0 (pa_cons (pv 0) (pa_cons (pv 3) pa_nil))))
      (pss_cons (ps_if (PW.pt (pw_and (pt_cmpR op_eq (pe_callB (r := rLenQ K) call_len_seq (by rfl) T.b_len (by decide +kernel) (pa_cons (pv 5) pa_nil)) (pe_int) (nomark _)) (pw_and1 (pt_cmpR op_ne (pe_ix (r := rIxT K) ix_tup (pv 5) (pe_int) (fun _ _ => rfl)) (pe_str) (nomark _))))) (pss_one (ps_ret (pe_tup (pa_cons (pe_ix (r := rIxT K) ix_tup (pv 5) (pe_int) (fun _ _ => rfl)) (pa_cons (pv 1) pa_nil))))) pss_nil)
      (pss_cons (ps_if (pt_cmpR (r := rIn K false) op_in_seq (pe_ix (r := rIxT K) ix_tup (pv 5) (pe_int) (fun _ _ => rfl)) (pe_tup (pa_cons (pe_str) (pa_cons (pe_str) pa_nil))) (by rfl)) (pss_one (ps_ret (pe_tup (pa_cons (pe_ix (r := rIxT K) ix_tup (pv 5) (pe_int) (fun _ _ => rfl)) (pa_cons (pv 1) (pa_cons (pe_call G__law_any_plan (hr.mono (by omega)) (by rfl) D__law_any_plan.g D__law_any_plan.F.kp D__law_any_plan.b .nil pass0 (pa_cons (pv 0) (pa_cons (pe_ifExp (pt_cmpR op_eq (pe_ix (r := rIxT K) ix_tup (pv 5) (pe_int) (fun _ _ => rfl)) (pe_str) (nomark _)) (pe_op op_sub (pv 1) (pe_int)) (pe_ix (r := rIxT K) ix_tup (pv 5) (pe_int) (fun _ _ => rfl))) (pa_cons (pe_op op_sub (pv 2) (pe_int)) pa_nil)))) pa_nil)))))) pss_nil)
      (pss_cons (ps_set (i := 6) nd rfl (Or.inl rfl) (pe_call G__law_any_plan (hr.mono (by omega)) (by rfl) D__law_any_plan.g D__law_any_plan.F.kp D__law_any_plan.b .nil pass0 (pa_cons (pv 0) (pa_cons (pe_ix (r := rIxT K) ix_tup (pv 5) (pe_int) (fun _ _ => rfl)) (pa_cons (pe_op op_sub (pv 2) (pe_int)) pa_nil)))))
      (pss_one (ps_ret (pe_tup (pa_cons (pe_ix (r := rIxT K) ix_tup (pv 5) (pe_int) (fun _ _ => rfl)) (pa_cons (pv 6) (pa_cons (pe_call G__law_any_plan (hr.mono (by omega)) (by rfl) D__law_any_plan.g D__law_any_plan.F.kp D__law_any_plan.b .nil pass0 (pa_cons (pv 0) (pa_cons (pe_op op_fdiv (pv 1) (pe_ix (r := rIxT K) ix_tup (pv 5) (pe_int) (fun _ _ => rfl))) (pa_cons (pe_op op_sub (pv 2) (pe_int)) pa_nil)))) pa_nil)))))))))), ?_⟩
      intro l xs H1 s4 s5 s6 s7 e kp hb1 he hl hlb hw h0 hln
      have hL : SqL K H1 l xs := SqL.of hl
      have h0' : 0 < (xs.length : Int) := by omega
      have hx1 : (xs.length : Int) < 1048576 := by omega
      walk_at "ev"
      intro v H2 hv k2 hb2
      have hway := (hw v hv).keep k2 hb1
      have hb2' := hb2
      cases hway with
      | leaf hww hsh hs =>
        rename_i a wd
        have hT : SqT K H2 a [.str wd] := SqT.of hs
        walk_at "ev"
        refine iteNp (ne_pow hww) ?_
        walk_at "ev"
        intro t3 ht3
        generalize hG3 : upd _ t3 _ = H3
        obtain ⟨sm3, hq3⟩ := newO hG3 ht3
        have h2 : 2 ≤ tks d := by
          cases d with
          | zero => exact (by decide : (2 : Int) ≤ 2)
          | succ m =>
            show 2 ≤ 2 + 2 * tks m
            have := tks_pos m
            omega
        exact q _ (.leaf wd n) _ (.leaf hww hq3) rfl (Nat.zero_le _) ⟨by omega, by omega, fun z => by have := hsh z; omega⟩ (kp.trans (k2.trans (keepS sm3))) ((hb2.same sm3).mono (by omega))
      | pow hd0 hn3 hpr hs =>
        rename_i a
        obtain ⟨m, rfl⟩ : ∃ m, d = m + 1 := ⟨d - 1, by omega⟩
        have hS := hG m rfl
        subst hS
        have htm := tks_pos m
        have etk : tks (m + 1) = 2 + 2 * tks m := rfl
        have edm : (((m + 1 : Nat) : Int) - 1) = (m : Int) := by omega
        have hT : SqT K H2 a [.str "powers"] := SqT.of hs
        walk_at "ev"
        intro t3 ht3
        generalize hG3 : upd _ t3 _ = H3
        obtain ⟨sm3, hq3⟩ := newO hG3 ht3
        have hT3 := same_t sm3 hT
        have hin : SqL K H3 t3 [.str "powers", .str "stretch"] ∨ SqT K H3 t3 [.str "powers", .str "stretch"] := .inr (SqT.of hq3)
        have hb3 := hb2.same sm3
        walk_at "ev"
        intro v4 p4 H4 hpl hl4 hd4 ok4 k4 hb4
        walk_at "ev"
        intro t5 ht5
        generalize hG5 : upd _ t5 _ = H5
        obtain ⟨sm5, hq5⟩ := newO hG5 ht5
        refine q _ (.led "powers" n p4) _ (.led (.inl rfl) hq5 (hpl.same sm5)) rfl ?_ ⟨ok4, by omega, by omega, fun _ => ⟨by omega, hpr, hl4⟩, fun z => absurd z (by decide)⟩ (kp.trans (k2.trans ((keepS sm3).trans (k4.trans (keepS sm5))))) ((hb4.same sm5).mono (by omega))
        show 1 + pdep p4 ≤ m + 1
        omega
      | two hww hd0 hk2 hkn hkm hgc hs =>
        rename_i a wd kk
        obtain ⟨m, rfl⟩ : ∃ m, d = m + 1 := ⟨d - 1, by omega⟩
        have hS := hG m rfl
        subst hS
        have htm := tks_pos m
        have etk : tks (m + 1) = 2 + 2 * tks m := rfl
        have edm : (((m + 1 : Nat) : Int) - 1) = (m : Int) := by omega
        have hT : SqT K H2 a [.str wd, .int kk] := SqT.of hs
        walk_at "ev"
        intro t3 ht3
        generalize hG3 : upd _ t3 _ = H3
        obtain ⟨sm3, hq3⟩ := newO hG3 ht3
        have hT3 := same_t sm3 hT
        have hs3 := sm3 _ _ hs
        have hin : SqL K H3 t3 [.str "powers", .str "stretch"] ∨ SqT K H3 t3 [.str "powers", .str "stretch"] := .inr (SqT.of hq3)
        walk_at "ev"
        refine iteFe (in_pq_two hww) ?_
        have hb3 := hb2.same sm3
        walk_at "ev"
        intro v4 p4 H4 hpl hl4 hd4 ok4 k4 hb4
        have hs4 := keep_at k4 hb3 hs3
        have hT4 : SqT K H4 a [.str wd, .int kk] := SqT.of hs4
        have hq0 : 1 ≤ n / kk := by
          have := Int.le_ediv_of_mul_le (show (0 : Int) < kk by omega) (show 1 * kk ≤ n by omega)
          exact this
        have hq1 : n / kk ≤ n := Int.ediv_le_self _ (by omega)
        have hq2 : 2 ≤ n / kk := by
          have m1 := Int.mul_ediv_cancel' (Int.dvd_of_emod_eq_zero hkm)
          by_cases z : 2 ≤ n / kk
          · exact z
          · have z1 : n / kk = 1 := by omega
            rw [z1] at m1
            omega
        have hmul : kk * (n / kk) = n := Int.mul_ediv_cancel' (Int.dvd_of_emod_eq_zero hkm)
        walk_at "ev"
        intro v5 p5 H5 hpl5 hl5 hd5 ok5 k5 hb5
        have hpl' := hpl.keep k5 hb4
        walk_at "ev"
        intro t6 ht6
        generalize hG6 : upd _ t6 _ = H6
        obtain ⟨sm6, hq6⟩ := newO hG6 ht6
        have epl : plen p4 * plen p5 = n := by rw [hl4, hl5, hmul]
        refine q _ (.two wd p4 p5) _ (.two hww hq6 (hpl'.same sm6) (hpl5.same sm6)) epl ?_ ⟨ok4, ok5, by rw [hl4]; omega, by rw [hl5]; omega, by rw [epl]; omega, fun z => by rw [hl4, hl5]; exact hgc z⟩ (kp.trans (k2.trans ((keepS sm3).trans (k4.trans (k5.trans (keepS sm6)))))) ((hb5.same sm6).mono (by omega))
        show 1 + max (pdep p4) (pdep p5) ≤ m + 1
        omega
      | str hd0 hn1' hm1 hm2 hs =>
        rename_i a mm
        obtain ⟨m, rfl⟩ : ∃ m, d = m + 1 := ⟨d - 1, by omega⟩
        have hS := hG m rfl
        subst hS
        have htm := tks_pos m
        have etk : tks (m + 1) = 2 + 2 * tks m := rfl
        have edm : (((m + 1 : Nat) : Int) - 1) = (m : Int) := by omega
        have hT : SqT K H2 a [.str "stretch", .int mm] := SqT.of hs
        walk_at "ev"
        intro t3 ht3
        generalize hG3 : upd _ t3 _ = H3
        obtain ⟨sm3, hq3⟩ := newO hG3 ht3
        have hT3 := same_t sm3 hT
        have hin : SqL K H3 t3 [.str "powers", .str "stretch"] ∨ SqT K H3 t3 [.str "powers", .str "stretch"] := .inr (SqT.of hq3)
        have hb3 := hb2.same sm3
        walk_at "ev"
        intro v4 p4 H4 hpl hl4 hd4 ok4 k4 hb4
        walk_at "ev"
        intro t5 ht5
        generalize hG5 : upd _ t5 _ = H5
        obtain ⟨sm5, hq5⟩ := newO hG5 ht5
        refine q _ (.led "stretch" n p4) _ (.led (.inr rfl) hq5 (hpl.same sm5)) rfl ?_ ⟨ok4, by omega, by omega, fun z => absurd z (by decide), fun _ => by omega⟩ (kp.trans (k2.trans ((keepS sm3).trans (k4.trans (keepS sm5))))) ((hb4.same sm5).mono (by omega))
        show 1 + pdep p4 ≤ m + 1
        omega
    obtain ⟨tl, htl, fin⟩ := tail
    refine ⟨_, (pss_cons (ps_par (i := 3) (j := 4) (by rfl) nd rfl rfl (by decide) rfl rfl (pa_cons (pe_lst (pa_cons (pe_tup (pa_cons (pe_str) pa_nil)) pa_nil)) (pa_cons (pe_lc (own := [("_law_part", 7)]) (g := gName 7) (by rfl) nd (pi_range2 (by rfl) T.b_range (pa_cons (pe_int) (pa_cons (pv 1) pa_nil))) (blkOk_by (own := [("_law_part", 7)]) (N := N__law_any_plan) (sc := defScope s__law_any_plan) (by decide +kernel)) (fun _ _ _ _ _ => (pg_name (i := 7) nd rfl (Or.inl rfl))) (fun _ _ _ _ _ => pts_one (pt_cmpR op_eq (pe_op op_mod (pv 1) (pv 7)) (pe_int) (nomark _))) (fun _ _ _ _ _ => (pv 7))) pa_nil)) (by rfl))
      (pss_cons (ps_set (i := 3) nd rfl (Or.inl rfl) (pe_op op_cat (pv 3) (pe_op op_rep (pe_lst (pa_cons (pe_tup (pa_cons (pe_str) pa_nil)) pa_nil)) (pe_op op_mul (pe_int) (pe_callTy call_int1 (by rfl) T.b_int (by decide +kernel) (pa_cons (pe_cmpR op_lt (pv 1) (pe_int) (nomark _)) pa_nil))))))
      (pss_cons (ps_if (pt_cmpR op_gt (pv 2) (pe_int) (nomark _)) (pss_cons (ps_set (i := 3) nd rfl (Or.inl rfl) (pe_op op_cat (pv 3) (pe_op op_rep (pe_lc (own := [("_law_part", 7)]) (g := gName 7) (by rfl) nd (pi_list (pv 4)) (blkOk_by (own := [("_law_part", 7)]) (N := N__law_any_plan) (sc := defScope s__law_any_plan) (by decide +kernel)) (fun _ _ _ _ _ => (pg_name (i := 7) nd rfl (Or.inl rfl))) (fun _ _ _ _ _ => pts_nil) (fun _ _ _ _ _ => (pe_tup (pa_cons (pe_str) (pa_cons (pv 7) pa_nil))))) (pe_int))))
      (pss_cons (ps_set (i := 3) nd rfl (Or.inl rfl) (pe_op op_cat (pv 3) (pe_op op_rep (pe_lc (own := [("_law_part", 7)]) (g := gName 7) (by rfl) nd (pi_list (pv 4)) (blkOk_by (own := [("_law_part", 7)]) (N := N__law_any_plan) (sc := defScope s__law_any_plan) (by decide +kernel)) (fun _ _ _ _ _ => (pg_name (i := 7) nd rfl (Or.inl rfl))) (fun _ _ _ _ _ => pts_one (pt_not (pt_val (pe_call G__law_shares (hr.mono (by omega)) (by rfl) D__law_shares.g D__law_shares.F.kp D__law_shares.b .nil pass0 (pa_cons (pv 7) (pa_cons (pe_op op_fdiv (pv 1) (pv 7)) pa_nil)))))) (fun _ _ _ _ _ => (pe_tup (pa_cons (pe_str) (pa_cons (pv 7) pa_nil))))) (pe_int))))
      (pss_cons (ps_set (i := 3) nd rfl (Or.inl rfl) (pe_op op_cat (pv 3) (pe_op op_rep (pe_lst (pa_cons (pe_tup (pa_cons (pe_str) pa_nil)) pa_nil)) (pe_op op_mul (pe_int) (pe_callTy call_int1 (by rfl) T.b_int (by decide +kernel) (pa_cons (pe_and (pe_cmpR op_gt (pv 1) (pe_int) (nomark _)) (pe_one (pe_call G__law_is_plain_prime (hr.mono (by omega)) (by rfl) D__law_is_plain_prime.g D__law_is_plain_prime.F.kp D__law_is_plain_prime.b .nil pass0 (pa_cons (pv 1) pa_nil)))) pa_nil))))))
      (pss_one (ps_if (pt_chain op_lt op_lt (pe_int) (pv 1) (pe_int)) (pss_one (ps_expr (pe_bm PySem.F.plainAttrs_list PySem.F.slot_list_append PySem.F.type_list_append mt_append (pv 3) (pa_cons (pe_tup (pa_cons (pe_str) (pa_cons (pe_op op_add (pe_op op_sub (pe_op op_mul (pe_int) (pv 1)) (pe_int)) (pe_call G__law_take (hr.mono (by omega)) (by rfl) D__law_take.g D__law_take.F.kp D__law_take.b .nil pass0 (pa_cons (pv 0) (pa_cons (pe_callB (call_min2 rfl) (by rfl) T.b_min (by decide +kernel) (pa_cons (pe_op op_add (pe_op op_mul (pe_int) (pv 1)) (pe_int)) (pa_cons (pe_op op_sub (pe_int) (pe_op op_mul (pe_int) (pv 1))) pa_nil))) pa_nil)))) pa_nil))) pa_nil)))) pss_nil))))) pss_nil)
      htl))), ?_⟩
    walk_at "ev"
    intro t0 ht0
    generalize hG0 : upd _ t0 _ = H1
    obtain ⟨sm1, hq0⟩ := newO hG0 ht0
    walk_at "ev"
    intro l0 hl0
    generalize hG1 : upd _ l0 _ = H2
    obtain ⟨sm2, hq1⟩ := newO hG1 hl0
    have sm02 := sm1.trans sm2
    walk_at "ev"
    intro D hD
    have hDf : H D = none := sm02.free hD
    refine lc_range (lo := 2) (n := _) (fun i H' => Hold (∃ ks : List Int, Same H2 H' ∧ H' D = some (.lst (ks.map V.int)) ∧ ks.length ≤ i ∧ ∀ k ∈ ks, 2 ≤ k ∧ k < n ∧ n % k = 0)) (.mk ⟨[], same_new hD, upd_same, Nat.zero_le _, by simp⟩) ?_ ?_
    · intro i H3 hi hP
      obtain ⟨ks, sm3, hD3, hl3, hk3⟩ := hP.un
      have hfl : (ks.map V.int).length < sizeLine := by
        rw [List.length_map]
        exact szm (by omega)
      walk_at "ev"
      refine ite2 (fun e => ?_) (fun e => ?_)
      · have e1 : n % (2 + (i : Int)) = 0 := V.int.inj (of_decide_eq_true e)
        walk_at "ev"
        refine .mk ⟨ks ++ [2 + (i : Int)], same_mut sm3 hD, ?_, ?_, ?_⟩
        · rw [upd_same, List.map_append]
          rfl
        · simp
          omega
        · intro k hk
          rcases List.mem_append.mp hk with h | h
          · exact hk3 k h
          · have e2 : k = 2 + (i : Int) := by simpa using h
            subst e2
            exact ⟨by omega, by omega, e1⟩
      · exact .mk ⟨ks, sm3, hD3, by omega, hk3⟩
    · intro H3 hP
      obtain ⟨ks, sm3, hD3, hl3, hk3⟩ := hP.un
      have hkl : ks.length ≤ 242 := by omega
      have sm03 := sm02.trans sm3
      walk_at "ev"
      intro t1 ht1
      generalize hG3 : upd _ t1 _ = H4
      obtain ⟨sm4, hq4⟩ := newO hG3 ht1
      walk_at "ev"
      intro l1 hl1
      generalize hG4 : upd _ l1 _ = H5
      obtain ⟨sm5, hq5⟩ := newO hG4 hl1
      have hcm : CMul 2 (if decide (n < 5) = true then 1 else 0) := .inl ⟨by decide, by decide⟩
      have hk0 : 0 ≤ (2 * (if decide (n < 5) = true then 1 else 0) : Int) ∧ (2 * (if decide (n < 5) = true then 1 else 0) : Int) ≤ 2 := by split <;> decide
      walk_at "ev"
      have hkn5 : 0 < (2 * (if decide (n < 5) = true then 1 else 0) : Int).toNat → n < 5 := fun z => by
        by_cases c : n < 5
        · exact c
        · rw [decide_eq_false c] at z
          exact absurd z (by decide)
      generalize hkk : (2 * (if decide (n < 5) = true then 1 else 0) : Int) = kk at *
      have hr1 : -(2 ^ 63 : Int) ≤ kk := by omega
      have hr2 : kk < (2 ^ 63 : Int) := by omega
      have hr3 : [V.ref t1].length * kk.toNat ≤ sizeLine := by
        show 1 * kk.toNat ≤ sizeLine
        exact szl (by omega)
      walk_at "ev"
      intro l2 hl2
      generalize hG5 : upd _ l2 _ = H6
      obtain ⟨sm6, hq6⟩ := newO hG5 hl2
      have hq7 := (sm3.trans (sm4.trans (sm5.trans sm6))) _ _ hq1
      have hr4 : [V.ref t0].length + (List.replicate kk.toNat [V.ref t1]).flatten.length ≤ sizeLine := by
        rw [len_rep]
        show 1 + kk.toNat * 1 ≤ sizeLine
        exact szl (by omega)
      walk_at "ev"
      intro l3 hl3
      generalize hG6 : upd _ l3 _ = H7
      obtain ⟨sm7, hq8⟩ := newO hG6 hl3
      have sm47 : Same H3 H7 := sm4.trans (sm5.trans (sm6.trans sm7))
      have sm07 : Same H H7 := sm03.trans sm47
      have hb7 := hb.same sm07
      have hw7 : ∀ x ∈ [V.ref t0] ++ (List.replicate kk.toNat [V.ref t1]).flatten, Way H7 n d x := by
        intro x hx
        rcases List.mem_append.mp hx with h | h
        · have e : x = .ref t0 := by simpa using h
          rw [e]
          exact .leaf (.inl rfl) (fun z => absurd z (by decide)) ((sm2.trans (sm3.trans sm47)) _ _ hq0)
        · have e : x = .ref t1 := by simpa using (mem_rep h).1
          rw [e]
          exact .leaf (.inr rfl) (fun _ => hkn5 (mem_rep h).2) ((sm5.trans (sm6.trans sm7)) _ _ hq4)
      have hl7 : ([V.ref t0] ++ (List.replicate kk.toNat [V.ref t1]).flatten).length ≤ 3 ∧ 0 < ([V.ref t0] ++ (List.replicate kk.toNat [V.ref t1]).flatten).length := by
        rw [List.length_append, len_rep]
        show 1 + kk.toNat * 1 ≤ 3 ∧ 0 < 1 + kk.toNat * 1
        omega
      generalize [V.ref t0] ++ (List.replicate kk.toNat [V.ref t1]).flatten = xs7 at *
      have nl3b : l3 ≠ b := (hb.same (sm03.trans (sm4.trans (sm5.trans sm6)))).ne hl3
      have hD7 := sm47 _ _ hD3
      walk_at "ev"
      refine ite2 (fun e => ?_) (fun e => ?_)
      · have hd0 : 0 < d := by
          have := of_decide_eq_true e
          omega
        have hLD : SqL K H7 D (ks.map V.int) := SqL.of hD7
        have hLD' : ∃ xs, SqL K H7 D xs := ⟨_, hLD⟩
        clear hG0 hG1 hG3 hG4 hG5 hG6 hP
        walk_at "ev"
        intro E1 hE1
        refine lc_list (K := K) (a := D) (xs := ks.map V.int) (fun i H' => Hold (∃ ys : List V, Same H7 H' ∧ H' E1 = some (.lst ys) ∧ ys.length = i ∧ ∀ y ∈ ys, Way H' n d y)) (.mk ⟨[], same_new hE1, upd_same, rfl, by simp⟩) ?_ ?_ ?_
        · intro i H8 hi hP8
          obtain ⟨ys, sm8, hE8, hl8, hw8⟩ := hP8.un
          exact sm8.seq hLD
        · intro i x H8 hx hP8
          obtain ⟨ys, sm8, hE8, hl8, hw8⟩ := hP8.un
          obtain ⟨k, hk, rfl⟩ := int_mem (List.mem_of_getElem? hx)
          obtain ⟨k1, k2, k3⟩ := hk3 k hk
          have hil : i < (ks.map V.int).length := (List.getElem?_eq_some_iff.mp hx).1
          rw [List.length_map] at hil
          walk_at "ev"
          intro t9 ht9
          generalize hG9 : upd _ t9 _ = H9
          obtain ⟨sm9, hq9⟩ := newO hG9 ht9
          have hE9 := sm9 _ _ hE8
          refine ⟨_, hE9, szm (by omega), .mk ⟨ys ++ [.ref t9], same_mut (sm8.trans sm9) hE1, upd_same, by simp [hl8], ?_⟩⟩
          have nt : t9 ≠ E1 := (ne_of_none hE8 ht9).symm
          intro y hy
          have h9 : Way H9 n d y := by
            rcases List.mem_append.mp hy with h | h
            · exact (hw8 y h).same sm9
            · have ey : y = .ref t9 := by simpa using h
              rw [ey]
              exact .two (.inl rfl) hd0 k1 k2 k3 (fun z => absurd z (by decide)) hq9
          exact h9.mut hE9
        · intro H8 hP8
          obtain ⟨ys, sm8, hE8, hl8, hw8⟩ := hP8.un
          rw [List.length_map] at hl8
          have hr5 : ys.length * (2 : Int).toNat ≤ sizeLine := by
            show ys.length * 2 ≤ sizeLine
            exact szl (by omega)
          walk_at "ev"
          intro l9 hl9
          generalize hG9 : upd _ l9 _ = H9
          obtain ⟨sm9, hq9⟩ := newO hG9 hl9
          have hq10 := (sm8.trans sm9) _ _ hq8
          have hlr : (List.replicate (2 : Int).toNat ys).flatten.length = 2 * ys.length := len_rep 2
          have hr6 : xs7.length + (List.replicate (2 : Int).toNat ys).flatten.length ≤ sizeLine := by
            rw [hlr]
            exact szl (by omega)
          walk_at "ev"
          intro l10 hl10
          generalize hG10 : upd _ l10 _ = H10
          obtain ⟨sm10, hq11⟩ := newO hG10 hl10
          have sm710 : Same H7 H10 := sm8.trans (sm9.trans sm10)
          have hw10 : ∀ x ∈ xs7 ++ (List.replicate (2 : Int).toNat ys).flatten, Way H10 n d x := by
            intro x hx
            rcases List.mem_append.mp hx with h | h
            · exact (hw7 x h).same sm710
            · exact (hw8 x (mem_rep h).1).same (sm9.trans sm10)
          have hl10' : (xs7 ++ (List.replicate (2 : Int).toNat ys).flatten).length ≤ 500 ∧ 0 < (xs7 ++ (List.replicate (2 : Int).toNat ys).flatten).length := by
            rw [List.length_append, hlr]
            omega
          generalize xs7 ++ (List.replicate (2 : Int).toNat ys).flatten = xs10 at *
          have hD10 := sm710 _ _ hD7
          have hLD10 : SqL K H10 D (ks.map V.int) := SqL.of hD10
          have hLD10' : ∃ xs, SqL K H10 D xs := ⟨_, hLD10⟩
          clear hG9 hG10 hP8
          walk_at "ev"
          intro E2 hE2
          refine lc_list (K := K) (a := D) (xs := ks.map V.int) (fun i H' => Hold (∃ ys : List V, Same H10 H' ∧ H' E2 = some (.lst ys) ∧ ys.length ≤ i ∧ ∀ y ∈ ys, Way H' n d y)) (.mk ⟨[], same_new hE2, upd_same, Nat.zero_le _, by simp⟩) ?_ ?_ ?_
          · intro i H11 hi hP11
            obtain ⟨zs, sm11, hE11, hl11, hw11⟩ := hP11.un
            exact sm11.seq hLD10
          · intro i x H11 hx hP11
            obtain ⟨zs, sm11, hE11, hl11, hw11⟩ := hP11.un
            obtain ⟨k, hk, rfl⟩ := int_mem (List.mem_of_getElem? hx)
            obtain ⟨k1, k2, k3⟩ := hk3 k hk
            have hil : i < (ks.map V.int).length := (List.getElem?_eq_some_iff.mp hx).1
            rw [List.length_map] at hil
            have hq0' : 0 ≤ n / k := Int.ediv_nonneg (by omega) (by omega)
            have hq1' : n / k ≤ n := Int.ediv_le_self _ (by omega)
            walk_at "ev"
            refine ite2 (fun e2 => ?_) (fun e2 => ?_)
            · have hgk : Int.gcd k (n / k) = 1 := by
                have z : ¬ 1 < Int.gcd k (n / k) := fun y => by
                  rw [decide_eq_true y] at e2
                  cases e2
                have := Int.gcd_pos_of_ne_zero_left (n / k) (show k ≠ 0 by omega)
                omega
              walk_at "ev"
              intro t9 ht9
              generalize hG9 : upd _ t9 _ = H12
              obtain ⟨sm12, hq12⟩ := newO hG9 ht9
              have hE12 := sm12 _ _ hE11
              refine ⟨_, hE12, szm (by omega), .mk ⟨zs ++ [.ref t9], same_mut (sm11.trans sm12) hE2, upd_same, by simp; omega, ?_⟩⟩
              intro y hy
              have h9 : Way H12 n d y := by
                rcases List.mem_append.mp hy with h | h
                · exact (hw11 y h).same sm12
                · have ey : y = .ref t9 := by simpa using h
                  rw [ey]
                  exact .two (.inr rfl) hd0 k1 k2 k3 (fun _ => hgk) hq12
              exact h9.mut hE12
            · exact .mk ⟨zs, sm11, hE11, by omega, hw11⟩
          · intro H11 hP11
            obtain ⟨zs, sm11, hE11, hl11, hw11⟩ := hP11.un
            rw [List.length_map] at hl11
            have hr7 : zs.length * (2 : Int).toNat ≤ sizeLine := by
              show zs.length * 2 ≤ sizeLine
              exact szl (by omega)
            walk_at "ev"
            intro l12 hl12
            generalize hG12 : upd _ l12 _ = H12
            obtain ⟨sm12, hq12⟩ := newO hG12 hl12
            have hq13 := (sm11.trans sm12) _ _ hq11
            have hlr2 : (List.replicate (2 : Int).toNat zs).flatten.length = 2 * zs.length := len_rep 2
            have hr8 : xs10.length + (List.replicate (2 : Int).toNat zs).flatten.length ≤ sizeLine := by
              rw [hlr2]
              exact szl (by omega)
            walk_at "ev"
            intro l13 hl13
            generalize hG13 : upd _ l13 _ = H13
            obtain ⟨sm13, hq14⟩ := newO hG13 hl13
            have sm1013 : Same H10 H13 := sm11.trans (sm12.trans sm13)
            have hw13 : ∀ x ∈ xs10 ++ (List.replicate (2 : Int).toNat zs).flatten, Way H13 n d x := by
              intro x hx
              rcases List.mem_append.mp hx with h | h
              · exact (hw10 x h).same sm1013
              · exact (hw11 x (mem_rep h).1).same (sm12.trans sm13)
            have hl13' : (xs10 ++ (List.replicate (2 : Int).toNat zs).flatten).length ≤ 1000 ∧ 0 < (xs10 ++ (List.replicate (2 : Int).toNat zs).flatten).length := by
              rw [List.length_append, hlr2]
              omega
            generalize xs10 ++ (List.replicate (2 : Int).toNat zs).flatten = xs13 at *
            clear hG12 hG13 hP11
            walk_at "ev"
            intro t14 ht14
            generalize hG14 : upd _ t14 _ = H14
            obtain ⟨sm14, hq15⟩ := newO hG14 ht14
            walk_at "ev"
            intro l15 hl15
            generalize hG15 : upd _ l15 _ = H15
            obtain ⟨sm15, hq16⟩ := newO hG15 hl15
            have key : ∀ (σ : L2.St) (R : VK), σ[1]? = some (some (.int n)) → (∀ kk H16, Same H15 H16 → 0 ≤ kk → kk ≤ 3 → (0 < kk → 2 < n ∧ Fac n [n]) → R (.int kk) H16) → tOp (rI CMul fun i j => V.int (i * j)) (tC (V.int 3)) (tCB (fun xs H Q => (∃ i, xs = [V.int i] ∧ Q (V.int i) H) ∨ ∃ k, xs = [V.bl k] ∧ Q (V.int (if k = true then 1 else 0)) H) (tCons (tAndV (tOp (rI0 fun i j => V.bl (decide (j < i))) (tVar 1) (tC (V.int 2))) (tCall spPrm [] E0 (tCons (tVar 1) tNil))) tNil)) σ H15 R := by
              intro σ R h1 hR
              have cm3 : ∀ z : Int, CMul 3 z := fun z => .inl ⟨by decide, by decide⟩
              refine ⟨_, h1, _, _, rfl, rfl, _, rfl, ?_⟩
              refine ite2 (fun e3 => ?_) (fun e3 => ?_)
              · have e4 : 2 < n := of_decide_eq_true e3
                refine ⟨_, h1, n, rfl, by omega, by omega, ?_⟩
                intro bb H16 sm16 hbb
                refine .inr ⟨bb, rfl, _, _, rfl, rfl, cm3 _, ?_⟩
                refine hR _ _ sm16 ?_ ?_ (fun z => ⟨e4, ?_⟩)
                · cases bb <;> decide
                · cases bb <;> decide
                · cases bb with
                  | true => exact Fac.self (by omega) (hbb.mp rfl).2
                  | false => exact absurd z (by decide)
              · refine .inr ⟨false, rfl, _, _, rfl, rfl, cm3 _, ?_⟩
                exact hR _ _ (Same.refl _) (by decide) (by decide) (fun z => absurd z (by decide))
            refine key _ _ rfl (fun kk H16 sm16 k0 k3 kn => ?_)
            have hq17 := sm16 _ _ hq16
            have hr9 : -(2 ^ 63 : Int) ≤ kk := by omega
            have hr10 : kk < (2 ^ 63 : Int) := by omega
            have hr11 : [V.ref t14].length * kk.toNat ≤ sizeLine := by
              show 1 * kk.toNat ≤ sizeLine
              exact szl (by omega)
            clear key
            walk_at "ev"
            intro l17 hl17
            generalize hG17 : upd _ l17 _ = H17
            obtain ⟨sm17, hq18⟩ := newO hG17 hl17
            have hq19 := (sm14.trans (sm15.trans (sm16.trans sm17))) _ _ hq14
            have hr12 : xs13.length + (List.replicate kk.toNat [V.ref t14]).flatten.length ≤ sizeLine := by
              rw [len_rep]
              exact szl (by simp; omega)
            walk_at "ev"
            intro l18 hl18
            generalize hG18 : upd _ l18 _ = H18
            obtain ⟨sm18, hq20⟩ := newO hG18 hl18
            have sm1318 : Same H13 H18 := sm14.trans (sm15.trans (sm16.trans (sm17.trans sm18)))
            have hw18 : ∀ x ∈ xs13 ++ (List.replicate kk.toNat [V.ref t14]).flatten, Way H18 n d x := by
              intro x hx
              rcases List.mem_append.mp hx with h | h
              · exact (hw13 x h).same sm1318
              · have hm := mem_rep h
                have ex : x = .ref t14 := by simpa using hm.1
                rw [ex]
                exact .pow hd0 (kn (by omega)).1 (kn (by omega)).2 ((sm15.trans (sm16.trans (sm17.trans sm18))) _ _ hq15)
            have hl18' : (xs13 ++ (List.replicate kk.toNat [V.ref t14]).flatten).length ≤ 1100 ∧ 0 < (xs13 ++ (List.replicate kk.toNat [V.ref t14]).flatten).length := by
              rw [List.length_append, len_rep]
              simp
              omega
            generalize xs13 ++ (List.replicate kk.toNat [V.ref t14]).flatten = xs18 at *
            have sm018 : Same H H18 := sm07.trans (sm710.trans (sm1013.trans sm1318))
            have hb18 : BoxAt H18 b (c + 0) := by
              rw [Int.add_zero]
              exact hb.same sm018
            have hb17 : BoxAt H17 b c := hb.same (sm07.trans (sm710.trans (sm1013.trans (sm14.trans (sm15.trans (sm16.trans sm17))))))
            have nl18 : l18 ≠ b := hb17.ne hl18
            clear hG14 hG15 hG17 hG18
            walk_at "ev"
            refine ite2 (fun e5 => ?_) (fun e5 => ?_)
            · have e6 : 1 < n := of_decide_eq_true e5
              walk_at "ev"
              refine ite2 (fun e7 => ?_) (fun e7 => ?_)
              · have e8 : n < 121 := of_decide_eq_true e7
                have hL18 : SqL K H18 l18 xs18 := SqL.of hq20
                have hty : tyV K "list" (.ref l18) H18 := .inl ⟨rfl, _, hL18⟩
                have cm2 : CMul 2 n := .inl ⟨by decide, by decide⟩
                have hmin : 0 < (if 242 - 2 * n < 2 * n + 2 then 242 - 2 * n else 2 * n + 2) ∧ (if 242 - 2 * n < 2 * n + 2 then 242 - 2 * n else 2 * n + 2) ≤ 242 - 2 * n := by split <;> omega
                walk_at "ev"
                intro r H19 r0 r1 k19 hb19
                walk_at "ev"
                intro t20 ht20
                generalize hG20 : upd _ t20 _ = H20
                obtain ⟨sm20, hq21⟩ := newO hG20 ht20
                have hq22 := sm20 _ _ (k19 _ _ nl18 hq20)
                have hsz18 : xs18.length < sizeLine := szm (by omega)
                refine ⟨l18, xs18, _, rfl, rfl, hq22, hsz18, ?_⟩
                generalize hG21 : upd _ l18 _ = H21
                obtain ⟨k21, hq23⟩ := mutO hG21
                have hb20 := hb19.same sm20
                have hb21 : BoxAt H21 b (c + 1) := by
                  obtain ⟨x, y, z, e1, e2⟩ := hb20
                  refine BoxAt.mono ⟨x, y, z, k21 _ _ nl18.symm e1, e2⟩ (by omega)
                have hl18f : H l18 = none := (sm07.trans (sm710.trans (sm1013.trans (sm14.trans (sm15.trans (sm16.trans sm17)))))).free hl18
                have kf : Keep b H H21 := fun x o nx hx => k21 _ _ (ne_of_none hx hl18f) ((keepS sm20) _ _ nx (k19 _ _ nx (sm018 _ _ hx)))
                refine fin l18 _ H21 _ _ _ _ 1 kf hb21 (.inr ⟨rfl, hd0⟩) hq23 nl18 ?_ (by simp) (by simp; omega)
                intro x hx
                have h20 : Way H20 n d x := by
                  rcases List.mem_append.mp hx with h | h
                  · exact ((hw18 x h).keep k19 hb18).same sm20
                  · have ex : x = .ref t20 := by simpa using h
                    rw [ex]
                    exact .str hd0 e6 (by omega) (by omega) hq21
                rw [← hG21]
                exact h20.mut hq22
              · exact fin l18 xs18 H18 _ _ _ _ 0 (keepS sm018) hb18 (.inl rfl) hq20 nl18 hw18 hl18'.2 (by omega)
            · walk_at "ev"
              exact fin l18 xs18 H18 _ _ _ _ 0 (keepS sm018) hb18 (.inl rfl) hq20 nl18 hw18 hl18'.2 (by omega)
      · have hbz : BoxAt H7 b (c + 0) := by rw [Int.add_zero]; exact hb7
        exact fin l3 xs7 H7 _ _ _ _ 0 (keepS sm07) hbz (.inl rfl) hq8 nl3b hw7 hl7.2 (by omega)
theorem ok_any {f f1 f2 f3 f4 : Addr} {fd d1 d2 d3 d4 : FuncData} (D__law_any_plan : Df K mg "_law_any_plan" s__law_any_plan P__law_any_plan f fd) (T : Blt mg) (D__law_take : Df K mg "_law_take" s__law_take P__law_take f1 d1) (D__law_pick : Df K mg "_law_pick" s__law_pick P__law_pick f2 d2) (D__law_shares : Df K mg "_law_shares" s__law_shares P__law_shares f3 d3) (D__law_is_plain_prime : Df K mg "_law_is_plain_prime" s__law_is_plain_prime P__law_is_plain_prime f4 d4) : ∀ d : Nat, FnOk P w K mg base CX0 (d + 3) f fd P__law_any_plan (spAny K d)
  | 0 => any_step (spI := fun _ _ _ _ => False) D__law_any_plan T D__law_take D__law_pick D__law_shares D__law_is_plain_prime ⟨fun _ _ _ _ h => h.elim, fun _ _ _ _ _ _ _ _ _ _ _ _ _ h => h.elim⟩ (fun m h => by omega)
  | d + 1 => any_step D__law_any_plan T D__law_take D__law_pick D__law_shares D__law_is_plain_prime (ok_any D__law_any_plan T D__law_take D__law_pick D__law_shares D__law_is_plain_prime d) (fun m h => by cases h; rfl)
end
/-! ### the primes that are drawn -/
def GenAt (p : Int) : Prop := 2 ≤ p ∧ p ≤ 1000000 ∧ ∃ (fs out : List Int) (g0 : Int), Fac (p - 1) fs ∧ out.Pairwise (· < ·) ∧ (∀ k, k ∈ out ↔ k ∈ fs) ∧ IsPf (p - 1) out ∧ 1 ≤ g0 ∧ g0 < p ∧ GenOk p g0 (erl p out)
theorem gen_two : GenAt 2 := by
  refine ⟨by decide, by decide, [], [], 1, .one, .nil, fun k => Iff.rfl, ⟨.nil, fun k => ⟨fun h => by simp at h, fun ⟨a, b, _⟩ => ?_⟩⟩, by decide, by decide, fun e he => by simp [erl] at he⟩
  have := Int.le_of_dvd (by decide) b
  omega
theorem gen_odd {p : Nat} (h3 : 3 ≤ p) (hp : p ≤ 1000000) (h : ∀ out : List Int, (∀ k ∈ out, 2 ≤ k ∧ k ∣ (p : Int) - 1) → ∃ g0 : Int, 1 ≤ g0 ∧ g0 < p ∧ GenOk p g0 (erl p out)) : GenAt (p : Int) := by
  obtain ⟨fs, out, a, b, c, d⟩ := pf_ex (n := (p : Int) - 1) (by omega)
  obtain ⟨g0, e, f, g⟩ := h out fun k hk => by
    obtain ⟨u, v, _⟩ := (d.2 k).mp hk
    exact ⟨u, v⟩
  exact ⟨by omega, by omega, fs, out, g0, a, b, c, d, e, f, g⟩
theorem gen_prs {x : Int} (h : x ∈ prs 10000) : GenAt x := by
  obtain ⟨j, ej, j1, j2, j3⟩ := mem_prs.mp h
  rw [ej]
  by_cases j2' : j = 2
  · rw [j2']
    exact gen_two
  · refine gen_odd (by omega) (by omega) fun out ho => gen_small (by omega) (by omega) ?_ ho
    intro d d2 dd
    have : d * 2 ≤ d * d := Nat.mul_le_mul_left d d2
    exact pk_iff.mp j3 d d2 (by omega) dd
theorem gen_9973 : GenAt 9973 := gen_prs (mem_prs.mpr ⟨9973, rfl, by decide, by decide, by decide +kernel⟩)
theorem gen_7681 : GenAt 7681 := gen_prs (mem_prs.mpr ⟨7681, rfl, by decide, by decide, by decide +kernel⟩)
theorem prs_pos {top : Nat} (h : 4 ≤ top) : 0 < (prs top).length := by
  have : (2 : Int) ∈ prs top := mem_prs.mpr ⟨2, rfl, by omega, by omega, pk_iff.mpr fun d h1 h2 h3 => by
    have : 2 * 2 ≤ d * d := Nat.mul_le_mul h1 h1
    omega⟩
  exact List.length_pos_of_mem this
theorem cut12 {xs : List V} (h : 0 < xs.length) : 0 < (cutV xs none (some 12)).length ∧ ∀ v ∈ cutV xs none (some 12), v ∈ xs := by
  have e : cutV xs none (some 12) = xs.take (min 12 xs.length) := rfl
  rw [e]
  refine ⟨?_, fun v hv => List.mem_of_mem_take hv⟩
  rw [List.length_take]
  omega
theorem in_9973 : (9973 : Int) ∈ prs 10000 := mem_prs.mpr ⟨9973, rfl, by decide, by decide, by decide +kernel⟩
theorem in_two : (2 : Int) ∈ prs 10000 := mem_prs.mpr ⟨2, rfl, by decide, by decide, by decide +kernel⟩
theorem in_7681 : (7681 : Int) ∈ prs 10000 := mem_prs.mpr ⟨7681, rfl, by decide, by decide, by decide +kernel⟩
/-- a prime to ten thousand, as the law's sieve and as factors have it -/
theorem prs_iff {x : Int} : x ∈ prs 10000 ↔ x ≤ 10000 ∧ Fac x [x] := by
  constructor
  · intro h
    obtain ⟨j, ej, j1, j2, j3⟩ := mem_prs.mp h
    refine ⟨by omega, Fac.self (by omega) fun e e2 e3 k => ?_⟩
    obtain ⟨q, hq⟩ := k
    have q0 : 0 < q := by
      apply Int.lt_of_not_ge
      intro z
      have : e * q ≤ 0 := Int.mul_nonpos_of_nonneg_of_nonpos (by omega) z
      omega
    have q1 : q ≠ 1 := fun z => by
      rw [z, Int.mul_one] at hq
      omega
    have nat : ∀ u v : Int, 2 ≤ u → 2 ≤ v → u ≤ v → x = u * v → False := fun u v u2 v2 uv e => by
      have h1 : u * u ≤ x := by rw [e]; exact Int.mul_le_mul_of_nonneg_left uv (by omega)
      have h2 : u * 2 ≤ u * u := Int.mul_le_mul_of_nonneg_left u2 (by omega)
      have hu : ((u.toNat : Nat) : Int) = u := Int.toNat_of_nonneg (by omega)
      refine pk_iff.mp j3 u.toNat (by omega) (by omega) ?_ ?_
      · have : ((u.toNat * u.toNat : Nat) : Int) ≤ (j : Int) := by rw [Int.natCast_mul, hu]; omega
        omega
      · rw [← Int.natCast_dvd_natCast, hu, ← ej, e]
        exact ⟨v, rfl⟩
    rcases Int.le_total e q with z | z
    · exact nat e q e2 (by omega) z hq
    · exact nat q e (by omega) e2 z (by rw [Int.mul_comm]; exact hq)
  · rintro ⟨h1, h2⟩
    obtain ⟨h3, h4⟩ := Rough.of_fac h2
    refine mem_prs.mpr ⟨x.toNat, by omega, by omega, by omega, pk_iff.mpr fun d d2 _ dd k => ?_⟩
    have e : ((x.toNat : Nat) : Int) = x := Int.toNat_of_nonneg (by omega)
    have k2 := Int.natCast_dvd_natCast.mpr k
    rw [e] at k2
    have : d * 2 ≤ d * d := Nat.mul_le_mul_left d d2
    exact h4 (d : Int) (by omega) (by omega) k2
/-! ### the law's own plans that fit -/
def inB (l : List Stmt) (i k : Nat) : List Stmt := match l.drop i with
  | .If _ b _ _ :: _ => b.drop k
  | _ => []
abbrev s__law_plan_of : Stmt := top 59
abbrev N__law_plan_of : List Str := ["_law_box_here", "_law_world_here", "_law_length", "_law_deep", "_law_far", "_law_some", "_law_parts", "_law_longer", "_law_way", "_law_one", "_law_part", "_law_other"]
abbrev P__law_plan_of : List Str := ["_law_box_here", "_law_world_here", "_law_length", "_law_deep", "_law_far"]
theorem sc__law_plan_of : FnScope N__law_plan_of P__law_plan_of (defScope s__law_plan_of) := ⟨rfl, rfl, rfl, by decide +kernel, rfl, by decide +kernel, by decide +kernel⟩
inductive Wy (M : Int) (fr : Bool) (H : Hp) (n : Int) (d : Nat) : V → Prop
  | leaf {a : Addr} {w : Str} : (w = "plain" ∨ w = "short") → (w = "short" → n < 5) → H a = some (.tup [.str w]) → Wy M fr H n d (.ref a)
  | pow {a : Addr} : 0 < d → 2 < n → n ∈ prs 10000 → M % (n - 1) = 0 → H a = some (.tup [.str "powers"]) → Wy M fr H n d (.ref a)
  | two {a : Addr} {w : Str} {k : Int} : (w = "split" ∨ w = "parts") → 0 < d → 2 ≤ k → k < n → n % k = 0 → (w = "parts" → ¬ 1 < Int.gcd k (n / k)) → H a = some (.tup [.str w, .int k]) → Wy M fr H n d (.ref a)
  | str {a : Addr} {m : Int} : 0 < d → 1 < n → fr = true → 2 * n - 1 ≤ m → m ≤ 4 * n → M % m = 0 → H a = some (.tup [.str "stretch", .int m]) → Wy M fr H n d (.ref a)
theorem Wy.same {M : Int} {fr : Bool} {H H' : Hp} {n : Int} {d : Nat} {v : V} (h : Wy M fr H n d v) (e : Same H H') : Wy M fr H' n d v := by
  cases h with
  | leaf a a2 b => exact .leaf a a2 (e _ _ b)
  | pow a b pp c x => exact .pow a b pp c (e _ _ x)
  | two a b c d f cp g => exact .two a b c d f cp (e _ _ g)
  | str a b c d f x y => exact .str a b c d f x (e _ _ y)
theorem Wy.keep {M : Int} {fr : Bool} {H H' : Hp} {n : Int} {d : Nat} {v : V} {b : Addr} {c : Int} (h : Wy M fr H n d v) (e : Keep b H H') (hb : BoxAt H b c) : Wy M fr H' n d v := by
  cases h with
  | leaf a a2 b => exact .leaf a a2 (keep_at e hb b)
  | pow a b pp c x => exact .pow a b pp c (keep_at e hb x)
  | two a b c d f cp g => exact .two a b c d f cp (keep_at e hb g)
  | str a b c d f x y => exact .str a b c d f x (keep_at e hb y)
theorem Wy.mut {M : Int} {fr : Bool} {H : Hp} {n : Int} {d : Nat} {v : V} {p : Addr} {xs : List V} {o : HO} (h : Wy M fr H n d v) (hp : H p = some (.lst xs)) : Wy M fr (upd H p o) n d v := by
  have go : ∀ {a : Addr} {ys : List V}, H a = some (.tup ys) → upd H p o a = some (.tup ys) := fun {a ys} e => by
    rw [upd_ne (ne_of e hp (by intro q; cases q))]
    exact e
  cases h with
  | leaf a a2 b => exact .leaf a a2 (go b)
  | pow a b pp c x => exact .pow a b pp c (go x)
  | two a b c d f cp g => exact .two a b c d f cp (go g)
  | str a b c d f x y => exact .str a b c d f x (go y)
theorem in_ps_leaf {w : Str} (h : w = "plain" ∨ w = "short") : inV (.str w) [.str "plain", .str "short"] = true := by
  rcases h with h | h <;> rw [h] <;> decide
theorem in_ps_two {w : Str} (h : w = "split" ∨ w = "parts") : inV (.str w) [.str "plain", .str "short"] = false ∧ ¬ V.str w = V.str "powers" ∧ ¬ V.str w = V.str "stretch" := by
  rcases h with h | h <;> rw [h] <;> decide
theorem mod_dvd34 {M n k : Int} (h : M % n = 0) (h2 : n % k = 0) : M % k = 0 := Int.emod_eq_zero_of_dvd (Int.dvd_trans (Int.dvd_of_emod_eq_zero h2) (Int.dvd_of_emod_eq_zero h))
def spPof (K : PySem.W.Frag) (d : Nat) : Sp := fun vs H Q _ => ∃ (b wd : Addr) (g : Gk) (n c dd : Int) (fr : Bool), vs = [.ref b, .ref wd, .int n, .int dd, .bl fr] ∧ dd = (d : Int) ∧ BoxAt H b c ∧ c + tks d < 1000000 ∧ 1 ≤ n ∧ n ≤ 240 ∧ (fr = true → n ≤ 60) ∧ numM g % n = 0 ∧ WdM H b wd g ∧
  ∀ v p H', PlT H' v p → PlN p → plen p = n → pdep p ≤ d → Keep b H H' → BoxAt H' b (c + tks d) → Q v H'
def spHasI : Sp := fun vs H Q _ => ∃ (b d : Addr) (g : Gk) (n : Int), vs = [.ref d, .int n] ∧ WdM H b d g ∧ 1 ≤ n ∧ n ≤ 1000 ∧ Q (.bl (decide (numM g % n = 0))) H
def spShH : Sp := fun vs H Q _ => ∃ (x y : Int), vs = [.int x, .int y] ∧ 0 ≤ x ∧ 0 ≤ y ∧ x ≤ 1000000000 ∧ y ≤ 1000000000 ∧ ∀ b : Bool, (b = true ↔ 1 < Int.gcd x y) → Q (.bl b) H
section
variable {P : Program} {w : World} {K : PySem.W.Frag} {mg : Str → Option Value} {base : Heap}
theorem pof_step {f f1 f2 f3 f4 f5 : Addr} {fd d1 d2 d3 d4 d5 : FuncData} {d : Nat} {spI : Sp} (D__law_plan_of : Df K mg "_law_plan_of" s__law_plan_of P__law_plan_of f fd) (T : Blt mg) (D__law_take : Df K mg "_law_take" s__law_take P__law_take f1 d1) (D__law_pick : Df K mg "_law_pick" s__law_pick P__law_pick f2 d2) (D__law_shares : Df K mg "_law_shares" s__law_shares P__law_shares f3 d3) (D__law_is_plain_prime : Df K mg "_law_is_plain_prime" s__law_is_plain_prime P__law_is_plain_prime f4 d4) (D__law_has : Df K mg "_law_has" s__law_has P__law_has f5 d5)
    (G__law_plan_of : FnOk P w K mg base CX0 (d + 2) f fd P__law_plan_of spI) (hG : ∀ m, d = m + 1 → spI = spPof K m) : FnOk P w K mg base CX0 (d + 3) f fd P__law_plan_of (spPof K d) := by
  have G__law_pick : FnOk P w K mg base CX0 2 f2 d2 P__law_pick (spPick K) := ok_pick D__law_pick.F T D__law_take
  have G__law_shares : FnOk P w K mg base CX0 1 f3 d3 P__law_shares spShH := fnsub (ok_shm (k := 0) D__law_shares.F T) fun vs H Q E h => by
    obtain ⟨x, y, e, x0, y0, x1, y1, q⟩ := h
    exact ⟨x, y, e, x0, y0, q _ (by rw [shM64 x0 y0 x1 y1, decide_eq_true_iff])⟩
  have G__law_is_plain_prime : FnOk P w K mg base CX0 1 f4 d4 P__law_is_plain_prime spPrm := ok_prm (k := 0) D__law_is_plain_prime.F T
  have G__law_has : FnOk P w K mg base CX0 1 f5 d5 P__law_has spHasI := fnsub (ok_has (k := 0) D__law_has.F T) fun vs H Q E h => by
    obtain ⟨b, d, g, n, e, hW, n1, n2, q⟩ := h
    exact ⟨b, d, g, n, e, hW, n1, by omega, q⟩
  have nd := sc__law_plan_of.nd
  refine D__law_plan_of.F.ok sc__law_plan_of (fun vs H Q E h => ?_) (fun cdv A outer s H vs Q E hr h => ?_)
  · obtain ⟨b, wd, g, n, c, dd, fr, rfl, _⟩ := h
    rfl
  · obtain ⟨b, wd, g, n, c, dd, fr, rfl, rfl, hb, hc, hn1, hn2, hfr, hMn, hW, q⟩ := h
    have htp := tks_pos d
    have h2 : 2 ≤ tks d := by
      cases d with
      | zero => exact (by decide : (2 : Int) ≤ 2)
      | succ m =>
        show 2 ≤ 2 + 2 * tks m
        have := tks_pos m
        omega
    have tail : ∃ tl, PSs (cxOf CX0 P w K mg base N__law_plan_of "_law_plan_of" (defScope s__law_plan_of) f cdv A outer s H E).nox ((defBody s__law_plan_of).drop 3) tl ∧ ∀ (l : Addr) (xs : List V) (H1 : Hp) (s6 s7 s8 s9 s10 s11 : Option V), Same H H1 → H1 l = some (.lst xs) → l ≠ b → (∀ x ∈ xs, Wy (numM g) fr H1 n d x) → 0 < xs.length → xs.length ≤ 3000 → tl { nx := fun _ H' => Q .non H', rt := Q } [some (.ref b), some (.ref wd), some (.int n), some (.int (d : Int)), some (.bl fr), some (.ref l), s6, s7, s8, s9, s10, s11] H1 := by
      refine ⟨_, (pss_cons (ps_set (i := 8) nd rfl (Or.inl rfl) (pe_call G__law_pick (hr.mono (by omega)) (by rfl) D__law_pick.g D__law_pick.F.kp D__law_pick.b .nil pass0 (pa_cons (pv 0) (pa_cons (pv 5) pa_nil))))
      (pss_cons (ps_if (pt_cmpR (r := rIn K false) op_in_seq (pe_ix (r := rIxT K) ix_tup (pv 8) (pe_int) (fun _ _ => rfl)) (pe_tup (pa_cons (pe_str) (pa_cons (pe_str) pa_nil))) (by rfl)) (pss_one (ps_ret (pe_tup (pa_cons (pe_ix (r := rIxT K) ix_tup (pv 8) (pe_int) (fun _ _ => rfl)) (pa_cons (pv 2) pa_nil))))) pss_nil)
      (pss_cons (ps_if (pt_cmpR op_eq (pe_ix (r := rIxT K) ix_tup (pv 8) (pe_int) (fun _ _ => rfl)) (pe_str) (nomark _)) (pss_one (ps_ret (pe_tup (pa_cons (pe_str) (pa_cons (pv 2) (pa_cons (pe_call G__law_plan_of (hr.mono (by omega)) (by rfl) D__law_plan_of.g D__law_plan_of.F.kp D__law_plan_of.b .nil pass0 (pa_cons (pv 0) (pa_cons (pv 1) (pa_cons (pe_op op_sub (pv 2) (pe_int)) (pa_cons (pe_op op_sub (pv 3) (pe_int)) (pa_cons (pv 4) pa_nil)))))) pa_nil)))))) pss_nil)
      (pss_cons (ps_if (pt_cmpR op_eq (pe_ix (r := rIxT K) ix_tup (pv 8) (pe_int) (fun _ _ => rfl)) (pe_str) (nomark _)) (pss_one (ps_ret (pe_tup (pa_cons (pe_str) (pa_cons (pv 2) (pa_cons (pe_call G__law_plan_of (hr.mono (by omega)) (by rfl) D__law_plan_of.g D__law_plan_of.F.kp D__law_plan_of.b .nil pass0 (pa_cons (pv 0) (pa_cons (pv 1) (pa_cons (pe_ix (r := rIxT K) ix_tup (pv 8) (pe_int) (fun _ _ => rfl)) (pa_cons (pe_op op_sub (pv 3) (pe_int)) (pa_cons (pe_bl) pa_nil)))))) pa_nil)))))) pss_nil)
      (pss_cons (ps_set (i := 9) nd rfl (Or.inl rfl) (pe_call G__law_plan_of (hr.mono (by omega)) (by rfl) D__law_plan_of.g D__law_plan_of.F.kp D__law_plan_of.b .nil pass0 (pa_cons (pv 0) (pa_cons (pv 1) (pa_cons (pe_ix (r := rIxT K) ix_tup (pv 8) (pe_int) (fun _ _ => rfl)) (pa_cons (pe_op op_sub (pv 3) (pe_int)) (pa_cons (pv 4) pa_nil)))))))
      (pss_one (ps_ret (pe_tup (pa_cons (pe_ix (r := rIxT K) ix_tup (pv 8) (pe_int) (fun _ _ => rfl)) (pa_cons (pv 9) (pa_cons (pe_call G__law_plan_of (hr.mono (by omega)) (by rfl) D__law_plan_of.g D__law_plan_of.F.kp D__law_plan_of.b .nil pass0 (pa_cons (pv 0) (pa_cons (pv 1) (pa_cons (pe_op op_fdiv (pv 2) (pe_ix (r := rIxT K) ix_tup (pv 8) (pe_int) (fun _ _ => rfl))) (pa_cons (pe_op op_sub (pv 3) (pe_int)) (pa_cons (pv 4) pa_nil)))))) pa_nil))))))))))), ?_⟩
      intro l xs H1 s6 s7 s8 s9 s10 s11 sm1 hl hlb hw h0 hln
      have hb1 := hb.same sm1
      have hL : SqL K H1 l xs := SqL.of hl
      have h0' : 0 < (xs.length : Int) := by omega
      have hx1 : (xs.length : Int) < 1048576 := by omega
      walk_at "ev"
      intro v H2 hv k2 hb2
      have kH2 : Keep b H H2 := (keepS sm1).trans k2
      have hW2 := hW.keep kH2
      have hway := (hw v hv).keep k2 hb1
      cases hway with
      | leaf hww hsh hs =>
        rename_i a wo
        have hT : SqT K H2 a [.str wo] := SqT.of hs
        walk_at "ev"
        w_cond _3
        have hT3 := same_t sm3 hT
        have hin : SqL K H3 l3 [.str "plain", .str "short"] ∨ SqT K H3 l3 [.str "plain", .str "short"] := .inr (SqT.of hq3)
        walk_at "ev"
        refine iteTe (in_ps_leaf hww) ?_
        walk_at "ev"
        w_cond _4
        have s24 := sm3.trans sm4
        exact q _ (.leaf wo n) _ (.leaf hww hq4) ⟨hn1, by omega, fun z => by have := hsh z; omega⟩ rfl (Nat.zero_le _) (kH2.trans (keepS s24)) ((hb2.same s24).mono (by omega))
      | pow hd0 hn3 hpr hMk hs =>
        rename_i a
        obtain ⟨m, rfl⟩ : ∃ m, d = m + 1 := ⟨d - 1, by omega⟩
        have hS := hG m rfl
        subst hS
        have htm := tks_pos m
        have etk : tks (m + 1) = 2 + 2 * tks m := rfl
        have edm : (((m + 1 : Nat) : Int) - 1) = (m : Int) := by omega
        have hT : SqT K H2 a [.str "powers"] := SqT.of hs
        walk_at "ev"
        w_cond _3
        have hT3 := same_t sm3 hT
        have hin : SqL K H3 l3 [.str "plain", .str "short"] ∨ SqT K H3 l3 [.str "plain", .str "short"] := .inr (SqT.of hq3)
        have hb3 := hb2.same sm3
        have hW3 := hW2.up sm3
        have hfr' : fr = true → n - 1 ≤ 60 := fun z => by have := hfr z; omega
        walk_at "ev"
        intro v4 p4 H4 hpl ok4 hl4 hd4 k4 hb4
        walk_at "ev"
        w_cond _5
        refine q _ (.led "powers" n p4) _ (.led (.inl rfl) hq5 (hpl.same sm5)) ⟨ok4, (show (2 : Int) ≤ n by omega), (show n ≤ 1000 by omega), fun _ => ⟨(show (3 : Int) ≤ n by omega), (prs_iff.mp hpr).2, hl4⟩, fun z => absurd z (by decide)⟩ rfl ?_ (kH2.trans ((keepS sm3).trans (k4.trans (keepS sm5)))) ((hb4.same sm5).mono (by omega))
        · show 1 + pdep p4 ≤ m + 1
          omega
      | two hww hd0 hk2 hkn hkm hcp hs =>
        rename_i a wo kk
        obtain ⟨m, rfl⟩ : ∃ m, d = m + 1 := ⟨d - 1, by omega⟩
        have hS := hG m rfl
        subst hS
        have htm := tks_pos m
        have etk : tks (m + 1) = 2 + 2 * tks m := rfl
        have edm : (((m + 1 : Nat) : Int) - 1) = (m : Int) := by omega
        have hT : SqT K H2 a [.str wo, .int kk] := SqT.of hs
        walk_at "ev"
        w_cond _3
        have hT3 := same_t sm3 hT
        have hs3 := sm3 _ _ hs
        have hin : SqL K H3 l3 [.str "plain", .str "short"] ∨ SqT K H3 l3 [.str "plain", .str "short"] := .inr (SqT.of hq3)
        obtain ⟨n1, n2, n3⟩ := in_ps_two hww
        have hb3 := hb2.same sm3
        have hW3 := hW2.up sm3
        have hMk : numM g % kk = 0 := mod_dvd34 hMn hkm
        have hfr' : fr = true → kk ≤ 60 := fun z => by have := hfr z; omega
        walk_at "ev"
        refine iteFe n1 ?_
        walk_at "ev"
        refine iteFe (decide_eq_false n2) ?_
        walk_at "ev"
        refine iteFe (decide_eq_false n3) ?_
        walk_at "ev"
        intro v4 p4 H4 hpl ok4 hl4 hd4 k4 hb4
        have hs4 := keep_at k4 hb3 hs3
        have hT4 : SqT K H4 a [.str wo, .int kk] := SqT.of hs4
        have hq0 : 1 ≤ n / kk := by
          have := Int.le_ediv_of_mul_le (show (0 : Int) < kk by omega) (show 1 * kk ≤ n by omega)
          exact this
        have hq1 : n / kk ≤ n := Int.ediv_le_self _ (by omega)
        have hmul : kk * (n / kk) = n := Int.mul_ediv_cancel' (Int.dvd_of_emod_eq_zero hkm)
        have hMq : numM g % (n / kk) = 0 := mod_dvd34 hMn (Int.emod_eq_zero_of_dvd ⟨kk, by rw [Int.mul_comm]; exact hmul.symm⟩)
        have hfq : fr = true → n / kk ≤ 60 := fun z => by have := hfr z; omega
        have hW4 := hW3.keep k4
        walk_at "ev"
        intro v5 p5 H5 hpl5 ok5 hl5 hd5 k5 hb5
        have hpl' := hpl.keep k5 hb4
        have hT5 : SqT K H5 a [.str wo, .int kk] := SqT.of (keep_at k5 hb4 hs4)
        walk_at "ev"
        w_cond _6
        have epl : plen p4 * plen p5 = n := by rw [hl4, hl5, hmul]
        have hq2 : 2 ≤ n / kk := by
          apply Classical.byContradiction
          intro z
          have z1 : n / kk = 1 := by omega
          rw [z1] at hmul
          omega
        refine q _ (.two wo p4 p5) _ (.two hww hq6 (hpl'.same sm6) (hpl5.same sm6)) ⟨ok4, ok5, by omega, by omega, (show plen p4 * plen p5 ≤ 1000 by rw [epl]; omega), fun z => ?_⟩ epl ?_ (kH2.trans ((keepS sm3).trans (k4.trans (k5.trans (keepS sm6))))) ((hb5.same sm6).mono (by omega))
        · have h1 := hcp z
          rw [← hl5, ← hl4] at h1
          have g2 : Int.gcd (plen p4) (plen p5) ≠ 0 := fun z0 => by
            have := (Int.gcd_eq_zero_iff.mp z0).1
            omega
          omega
        · show 1 + max (pdep p4) (pdep p5) ≤ m + 1
          omega
      | str hd0 hn1' hfrt hm1 hm2 hMk hs =>
        rename_i a mm
        obtain ⟨m, rfl⟩ : ∃ m, d = m + 1 := ⟨d - 1, by omega⟩
        have hS := hG m rfl
        subst hS
        have htm := tks_pos m
        have etk : tks (m + 1) = 2 + 2 * tks m := rfl
        have edm : (((m + 1 : Nat) : Int) - 1) = (m : Int) := by omega
        have hn60 := hfr hfrt
        have hT : SqT K H2 a [.str "stretch", .int mm] := SqT.of hs
        walk_at "ev"
        w_cond _3
        have hT3 := same_t sm3 hT
        have hin : SqL K H3 l3 [.str "plain", .str "short"] ∨ SqT K H3 l3 [.str "plain", .str "short"] := .inr (SqT.of hq3)
        have hb3 := hb2.same sm3
        have hW3 := hW2.up sm3
        have hff : false = true → mm ≤ 60 := fun z => by cases z
        walk_at "ev"
        intro v4 p4 H4 hpl ok4 hl4 hd4 k4 hb4
        walk_at "ev"
        w_cond _5
        refine q _ (.led "stretch" n p4) _ (.led (.inr rfl) hq5 (hpl.same sm5)) ⟨ok4, (show (2 : Int) ≤ n by omega), (show n ≤ 1000 by omega), fun z => absurd z (by decide), fun _ => (show 2 * n - 1 ≤ plen p4 by omega)⟩ rfl ?_ (kH2.trans ((keepS sm3).trans (k4.trans (keepS sm5)))) ((hb4.same sm5).mono (by omega))
        · show 1 + pdep p4 ≤ m + 1
          omega
    obtain ⟨tl, htl, fin⟩ := tail
    have far : ∃ tf, PSs (cxOf CX0 P w K mg base N__law_plan_of "_law_plan_of" (defScope s__law_plan_of) f cdv A outer s H E).nox (inB (defBody s__law_plan_of) 2 3) tf ∧ ∀ (X : Ends) (l : Addr) (xs : List V) (H1 : Hp) (s6 s7 s8 s9 s10 s11 : Option V), 0 < d → Same H H1 → H1 l = some (.lst xs) → l ≠ b → (∀ x ∈ xs, Wy (numM g) fr H1 n d x) → 0 < xs.length → xs.length ≤ 2000 →
        (∀ (l' : Addr) (xs' : List V) (H2 : Hp) (t6 t7 t8 t9 t10 t11 : Option V), Same H H2 → H2 l' = some (.lst xs') → l' ≠ b → (∀ x ∈ xs', Wy (numM g) fr H2 n d x) → 0 < xs'.length → xs'.length ≤ 3000 → X.nx [some (.ref b), some (.ref wd), some (.int n), some (.int (d : Int)), some (.bl fr), some (.ref l'), t6, t7, t8, t9, t10, t11] H2) →
        tf X [some (.ref b), some (.ref wd), some (.int n), some (.int (d : Int)), some (.bl fr), some (.ref l), s6, s7, s8, s9, s10, s11] H1 := by
      refine ⟨_, (pss_one (ps_if (PW.pt (pw_and (pt_val (pv 4)) (pw_and1 (pt_cmpR op_gt (pv 2) (pe_int) (nomark _))))) (pss_cons (ps_setLc (i := 7) (own := [("_law_other", 11)]) (g := gName 11) (by rfl) nd rfl rfl (sw_true rfl rfl rfl (by decide +kernel)) (pi_range2 (by rfl) T.b_range (pa_cons (pe_op op_sub (pe_op op_mul (pe_int) (pv 2)) (pe_int)) (pa_cons (pe_op op_add (pe_op op_mul (pe_int) (pv 2)) (pe_int)) pa_nil))) (blkOk_by (own := [("_law_other", 11)]) (N := N__law_plan_of) (sc := defScope s__law_plan_of) (by decide +kernel)) (fun _ _ _ _ _ => (pg_name (i := 11) nd rfl (Or.inl rfl))) (fun _ _ _ _ _ => pts_one (pt_val (pe_call G__law_has (hr.mono (by omega)) (by rfl) D__law_has.g D__law_has.F.kp D__law_has.b .nil pass0 (pa_cons (pv 1) (pa_cons (pv 11) pa_nil))))) (fun _ _ _ _ _ => (pv 11)))
      (pss_one (ps_set (i := 5) nd rfl (Or.inl rfl) (pe_op op_cat (pv 5) (pe_lc (own := [("_law_other", 11)]) (g := gName 11) (by rfl) nd (pi_list (pe_slice (r := rSlL K) sl_list (pv 7) po_none (po_some (pe_int)))) (blkOk_by (own := [("_law_other", 11)]) (N := N__law_plan_of) (sc := defScope s__law_plan_of) (by decide +kernel)) (fun _ _ _ _ _ => (pg_name (i := 11) nd rfl (Or.inl rfl))) (fun _ _ _ _ _ => pts_nil) (fun _ _ _ _ _ => (pe_tup (pa_cons (pe_str) (pa_cons (pv 11) pa_nil))))))))) pss_nil)), ?_⟩
      intro X l xs H1 s6 s7 s8 s9 s10 s11 hd0 sm1 hl hlb hw h0 hln nx
      cases fr with
      | false =>
        walk_at "ev"
        exact nx l xs H1 _ _ _ _ _ _ sm1 hl hlb hw h0 (by omega)
      | true =>
        walk_at "ev"
        refine ite2 (fun e => ?_) (fun e => ?_)
        · have e1 : 1 < n := of_decide_eq_true e
          have hn60 := hfr rfl
          have cm2 : CMul 2 n := .inl ⟨by decide, by decide⟩
          have cm4 : CMul 4 n := .inl ⟨by decide, by decide⟩
          walk_at "ev"
          intro D hD
          refine lc_range (lo := 2 * n - 1) (n := _) (fun i H' => Hold (∃ ks : List Int, Same H1 H' ∧ H' D = some (.lst (ks.map V.int)) ∧ ks.length ≤ i ∧ ∀ k ∈ ks, 2 * n - 1 ≤ k ∧ k ≤ 4 * n ∧ numM g % k = 0)) (.mk ⟨[], same_new hD, upd_same, Nat.zero_le _, fun k hk => by cases hk⟩) ?_ ?_
          · intro i H3 hi hP
            obtain ⟨ks, sm3, hD3, hl3, hk3⟩ := hP.un
            have hW3 := hW.up (sm1.trans sm3)
            have hfl : (ks.map V.int).length < sizeLine := szm (by rw [List.length_map]; omega)
            walk_at "ev"
            refine ite2 (fun e => ?_) (fun e => ?_)
            · have e1 : numM g % (2 * n - 1 + (i : Int)) = 0 := of_decide_eq_true e
              walk_at "ev"
              refine .mk ⟨ks ++ [2 * n - 1 + (i : Int)], same_mut sm3 hD, by rw [upd_same, List.map_append]; rfl, by rw [List.length_append]; show _ + 1 ≤ _; omega, fun k hk => ?_⟩
              rcases List.mem_append.mp hk with h | h
              · exact hk3 k h
              · rw [List.mem_singleton.mp h]
                exact ⟨by omega, by omega, e1⟩
            · exact .mk ⟨ks, sm3, hD3, by omega, hk3⟩
          · intro H3 hP
            obtain ⟨ks, sm3, hD3, hl3, hk3⟩ := hP.un
            have hLD := SqL.of (K := K) hD3
            walk_at "ev"
            w_cond _4
            have hcm : ∀ v ∈ cutV (ks.map V.int) none (some 3), ∃ k, v = .int k ∧ k ∈ ks := fun v hv => by
              have : v ∈ ks.map V.int := by
                unfold cutV at hv
                exact List.mem_of_mem_drop (List.mem_of_mem_take hv)
              obtain ⟨k, hk, rfl⟩ := List.mem_map.mp this
              exact ⟨k, rfl, hk⟩
            have hcl : (cutV (ks.map V.int) none (some 3)).length ≤ 3 := by
              have e : cutV (ks.map V.int) none (some 3) = ((ks.map V.int).drop 0).take (HT.sIx (ks.map V.int).length (ks.map V.int).length (some 3) - 0) := rfl
              rw [e, List.length_take]
              have : HT.sIx (ks.map V.int).length (ks.map V.int).length (some 3) ≤ 3 := by
                unfold HT.sIx
                simp
                omega
              omega
            generalize cutV (ks.map V.int) none (some 3) = cc at *
            have hLc := SqL.of (K := K) hq4
            have hLc' : ∃ xs, SqL K H4 l4 xs := ⟨_, hLc⟩
            walk_at "ev"
            intro E1 hE1
            refine lc_list (K := K) (a := l4) (xs := cc) (fun i H' => Hold (∃ ys : List V, Same H4 H' ∧ H' E1 = some (.lst ys) ∧ ys.length = i ∧ ∀ y ∈ ys, Wy (numM g) true H' n d y)) (.mk ⟨[], same_new hE1, upd_same, rfl, by simp⟩) ?_ ?_ ?_
            · intro i H8 hi hP8
              obtain ⟨ys, sm8, hE8, hl8, hw8⟩ := hP8.un
              exact sm8.seq hLc
            · intro i x H8 hx hP8
              obtain ⟨ys, sm8, hE8, hl8, hw8⟩ := hP8.un
              obtain ⟨k, rfl, hk⟩ := hcm x (List.mem_of_getElem? hx)
              obtain ⟨k1, k2, k3⟩ := hk3 k hk
              have hil : i < cc.length := (List.getElem?_eq_some_iff.mp hx).1
              walk_at "ev"
              intro t9 ht9
              generalize hG9 : upd _ t9 _ = H9
              obtain ⟨sm9, hq9⟩ := newO hG9 ht9
              have hE9 := sm9 _ _ hE8
              refine ⟨_, hE9, szm (by omega), .mk ⟨ys ++ [.ref t9], same_mut (sm8.trans sm9) hE1, upd_same, by simp [hl8], ?_⟩⟩
              intro y hy
              have h9 : Wy (numM g) true H9 n d y := by
                rcases List.mem_append.mp hy with h | h
                · exact (hw8 y h).same sm9
                · have ey : y = .ref t9 := by simpa using h
                  rw [ey]
                  exact .str hd0 e1 rfl k1 k2 k3 hq9
              exact h9.mut hE9
            · intro H8 hP8
              obtain ⟨ys, sm8, hE8, hl8, hw8⟩ := hP8.un
              have hq8 := (sm3.trans (sm4.trans sm8)) _ _ hl
              have hz : xs.length + ys.length ≤ sizeLine := szl (by omega)
              walk_at "ev"
              w_cond _9
              have s19 : Same H1 H9 := sm3.trans (sm4.trans (sm8.trans sm9))
              refine nx l9 _ H9 _ _ _ _ _ _ (sm1.trans s19) hq9 ((hb.same (sm1.trans (sm3.trans (sm4.trans sm8)))).ne hl9) (fun x hx => ?_) (by rw [List.length_append]; omega) (by rw [List.length_append]; omega)
              rcases List.mem_append.mp hx with h | h
              · exact (hw x h).same s19
              · exact (hw8 x h).same sm9
        · walk_at "ev"
          exact nx l xs H1 _ _ _ _ _ _ sm1 hl hlb hw h0 (by omega)
    obtain ⟨tf, hfar, ffin⟩ := far
    have tail2 : ∃ tl2, PSs (cxOf CX0 P w K mg base N__law_plan_of "_law_plan_of" (defScope s__law_plan_of) f cdv A outer s H E).nox ((defBody s__law_plan_of).drop 2) tl2 ∧ ∀ (l D : Addr) (xs : List V) (ks : List Int) (H7 : Hp) (s7 s8 s9 s10 s11 : Option V), Same H H7 → H7 l = some (.lst xs) → l ≠ b → (∀ x ∈ xs, Wy (numM g) fr H7 n d x) → 0 < xs.length → xs.length ≤ 10 → H7 D = some (.lst (ks.map V.int)) → ks.length ≤ 240 → (∀ k ∈ ks, 2 ≤ k ∧ k < n ∧ n % k = 0) →
        tl2 { nx := fun _ H' => Q .non H', rt := Q } [some (.ref b), some (.ref wd), some (.int n), some (.int (d : Int)), some (.bl fr), some (.ref l), some (.ref D), s7, s8, s9, s10, s11] H7 := by
      refine ⟨_, (pss_cons (ps_if (pt_cmpR op_gt (pv 3) (pe_int) (nomark _)) (pss_cons (ps_set (i := 5) nd rfl (Or.inl rfl) (pe_op op_cat (pv 5) (pe_op op_rep (pe_lc (own := [("_law_part", 10)]) (g := gName 10) (by rfl) nd (pi_list (pv 6)) (blkOk_by (own := [("_law_part", 10)]) (N := N__law_plan_of) (sc := defScope s__law_plan_of) (by decide +kernel)) (fun _ _ _ _ _ => (pg_name (i := 10) nd rfl (Or.inl rfl))) (fun _ _ _ _ _ => pts_nil) (fun _ _ _ _ _ => (pe_tup (pa_cons (pe_str) (pa_cons (pv 10) pa_nil))))) (pe_int))))
      (pss_cons (ps_set (i := 5) nd rfl (Or.inl rfl) (pe_op op_cat (pv 5) (pe_op op_rep (pe_lc (own := [("_law_part", 10)]) (g := gName 10) (by rfl) nd (pi_list (pv 6)) (blkOk_by (own := [("_law_part", 10)]) (N := N__law_plan_of) (sc := defScope s__law_plan_of) (by decide +kernel)) (fun _ _ _ _ _ => (pg_name (i := 10) nd rfl (Or.inl rfl))) (fun _ _ _ _ _ => pts_one (pt_not (pt_val (pe_call G__law_shares (hr.mono (by omega)) (by rfl) D__law_shares.g D__law_shares.F.kp D__law_shares.b .nil pass0 (pa_cons (pv 10) (pa_cons (pe_op op_fdiv (pv 2) (pv 10)) pa_nil)))))) (fun _ _ _ _ _ => (pe_tup (pa_cons (pe_str) (pa_cons (pv 10) pa_nil))))) (pe_int))))
      (pss_cons (ps_if (PW.pt (pw_and (pt_cmpR op_gt (pv 2) (pe_int) (nomark _)) (pw_and (pt_val (pe_call G__law_is_plain_prime (hr.mono (by omega)) (by rfl) D__law_is_plain_prime.g D__law_is_plain_prime.F.kp D__law_is_plain_prime.b .nil pass0 (pa_cons (pv 2) pa_nil))) (pw_and1 (pt_val (pe_call G__law_has (hr.mono (by omega)) (by rfl) D__law_has.g D__law_has.F.kp D__law_has.b .nil pass0 (pa_cons (pv 1) (pa_cons (pe_op op_sub (pv 2) (pe_int)) pa_nil)))))))) (pss_one (ps_set (i := 5) nd rfl (Or.inl rfl) (pe_op op_cat (pv 5) (pe_op op_rep (pe_lst (pa_cons (pe_tup (pa_cons (pe_str) pa_nil)) pa_nil)) (pe_int))))) pss_nil)
      hfar))) pss_nil)
      htl), ?_⟩
      intro l D xs7 ks H7 s7 s8 s9 s10 s11 sm07 hq8 nlb hw7 hl70 hl7 hD7 hkl hk3
      walk_at "ev"
      refine ite2 (fun e => ?_) (fun e => ?_)
      · have hd0 : 0 < d := by
          have := of_decide_eq_true e
          omega
        have hLD : SqL K H7 D (ks.map V.int) := SqL.of hD7
        have hLD' : ∃ xs, SqL K H7 D xs := ⟨_, hLD⟩
        walk_at "ev"
        intro E1 hE1
        refine lc_list (K := K) (a := D) (xs := ks.map V.int) (fun i H' => Hold (∃ ys : List V, Same H7 H' ∧ H' E1 = some (.lst ys) ∧ ys.length = i ∧ ∀ y ∈ ys, Wy (numM g) fr H' n d y)) (.mk ⟨[], same_new hE1, upd_same, rfl, by simp⟩) ?_ ?_ ?_
        · intro i H8 hi hP8
          obtain ⟨ys, sm8, hE8, hl8, hw8⟩ := hP8.un
          exact sm8.seq hLD
        · intro i x H8 hx hP8
          obtain ⟨ys, sm8, hE8, hl8, hw8⟩ := hP8.un
          obtain ⟨k, hk, rfl⟩ := int_mem (List.mem_of_getElem? hx)
          obtain ⟨k1, k2, k3⟩ := hk3 k hk
          have hil : i < (ks.map V.int).length := (List.getElem?_eq_some_iff.mp hx).1
          rw [List.length_map] at hil
          walk_at "ev"
          intro t9 ht9
          generalize hG9 : upd _ t9 _ = H9
          obtain ⟨sm9, hq9⟩ := newO hG9 ht9
          have hE9 := sm9 _ _ hE8
          refine ⟨_, hE9, szm (by omega), .mk ⟨ys ++ [.ref t9], same_mut (sm8.trans sm9) hE1, upd_same, by simp [hl8], ?_⟩⟩
          intro y hy
          have h9 : Wy (numM g) fr H9 n d y := by
            rcases List.mem_append.mp hy with h | h
            · exact (hw8 y h).same sm9
            · have ey : y = .ref t9 := by simpa using h
              rw [ey]
              exact .two (.inl rfl) hd0 k1 k2 k3 (fun z => absurd z (by decide)) hq9
          exact h9.mut hE9
        · intro H8 hP8
          obtain ⟨ys, sm8, hE8, hl8, hw8⟩ := hP8.un
          rw [List.length_map] at hl8
          have hr5 : ys.length * (2 : Int).toNat ≤ sizeLine := by
            show ys.length * 2 ≤ sizeLine
            exact szl (by omega)
          walk_at "ev"
          w_cond _9
          have hq10 := (sm8.trans sm9) _ _ hq8
          have hlr : (List.replicate (2 : Int).toNat ys).flatten.length = 2 * ys.length := len_rep 2
          have hr6 : xs7.length + (List.replicate (2 : Int).toNat ys).flatten.length ≤ sizeLine := by
            rw [hlr]
            exact szl (by omega)
          walk_at "ev"
          w_cond _10
          have sm710 : Same H7 H10 := sm8.trans (sm9.trans sm10)
          have hw10 : ∀ x ∈ xs7 ++ (List.replicate (2 : Int).toNat ys).flatten, Wy (numM g) fr H10 n d x := by
            intro x hx
            rcases List.mem_append.mp hx with h | h
            · exact (hw7 x h).same sm710
            · exact (hw8 x (mem_rep h).1).same (sm9.trans sm10)
          have hl10' : (xs7 ++ (List.replicate (2 : Int).toNat ys).flatten).length ≤ 500 ∧ 0 < (xs7 ++ (List.replicate (2 : Int).toNat ys).flatten).length := by
            rw [List.length_append, hlr]
            omega
          generalize xs7 ++ (List.replicate (2 : Int).toNat ys).flatten = xs10 at *
          have hD10 := sm710 _ _ hD7
          have hLD10 : SqL K H10 D (ks.map V.int) := SqL.of hD10
          have hLD10' : ∃ xs, SqL K H10 D xs := ⟨_, hLD10⟩
          clear hP8
          walk_at "ev"
          intro E2 hE2
          refine lc_list (K := K) (a := D) (xs := ks.map V.int) (fun i H' => Hold (∃ ys : List V, Same H10 H' ∧ H' E2 = some (.lst ys) ∧ ys.length ≤ i ∧ ∀ y ∈ ys, Wy (numM g) fr H' n d y)) (.mk ⟨[], same_new hE2, upd_same, Nat.zero_le _, by simp⟩) ?_ ?_ ?_
          · intro i H11 hi hP11
            obtain ⟨zs, sm11, hE11, hl11, hw11⟩ := hP11.un
            exact sm11.seq hLD10
          · intro i x H11 hx hP11
            obtain ⟨zs, sm11, hE11, hl11, hw11⟩ := hP11.un
            obtain ⟨k, hk, rfl⟩ := int_mem (List.mem_of_getElem? hx)
            obtain ⟨k1, k2, k3⟩ := hk3 k hk
            have hil : i < (ks.map V.int).length := (List.getElem?_eq_some_iff.mp hx).1
            rw [List.length_map] at hil
            have hq0' : 0 ≤ n / k := Int.ediv_nonneg (by omega) (by omega)
            have hq1' : n / k ≤ n := Int.ediv_le_self _ (by omega)
            walk_at "ev"
            intro bb hbb
            cases bb with
            | true =>
              walk_at "ev"
              exact .mk ⟨zs, sm11, hE11, by omega, hw11⟩
            | false =>
              have hg1 : ¬ 1 < Int.gcd k (n / k) := fun z => absurd (hbb.mpr z) (by decide)
              walk_at "ev"
              intro t9 ht9
              generalize hG9 : upd _ t9 _ = H12
              obtain ⟨sm12, hq12⟩ := newO hG9 ht9
              have hE12 := sm12 _ _ hE11
              refine ⟨_, hE12, szm (by omega), .mk ⟨zs ++ [.ref t9], same_mut (sm11.trans sm12) hE2, upd_same, by simp; omega, ?_⟩⟩
              intro y hy
              have h9 : Wy (numM g) fr H12 n d y := by
                rcases List.mem_append.mp hy with h | h
                · exact (hw11 y h).same sm12
                · have ey : y = .ref t9 := by simpa using h
                  rw [ey]
                  exact .two (.inr rfl) hd0 k1 k2 k3 (fun _ => hg1) hq12
              exact h9.mut hE12
          · intro H11 hP11
            obtain ⟨zs, sm11, hE11, hl11, hw11⟩ := hP11.un
            rw [List.length_map] at hl11
            have hr7 : zs.length * (2 : Int).toNat ≤ sizeLine := by
              show zs.length * 2 ≤ sizeLine
              exact szl (by omega)
            walk_at "ev"
            w_cond _12
            have hq13 := (sm11.trans sm12) _ _ hq10
            have hlr2 : (List.replicate (2 : Int).toNat zs).flatten.length = 2 * zs.length := len_rep 2
            have hr8 : xs10.length + (List.replicate (2 : Int).toNat zs).flatten.length ≤ sizeLine := by
              rw [hlr2]
              exact szl (by omega)
            walk_at "ev"
            w_cond _13
            have sm1013 : Same H10 H13 := sm11.trans (sm12.trans sm13)
            have hw13 : ∀ x ∈ xs10 ++ (List.replicate (2 : Int).toNat zs).flatten, Wy (numM g) fr H13 n d x := by
              intro x hx
              rcases List.mem_append.mp hx with h | h
              · exact (hw10 x h).same sm1013
              · exact (hw11 x (mem_rep h).1).same (sm12.trans sm13)
            have hl13' : (xs10 ++ (List.replicate (2 : Int).toNat zs).flatten).length ≤ 1000 ∧ 0 < (xs10 ++ (List.replicate (2 : Int).toNat zs).flatten).length := by
              rw [List.length_append, hlr2]
              omega
            generalize xs10 ++ (List.replicate (2 : Int).toNat zs).flatten = xs13 at *
            clear hP11
            have s013 := sm07.trans (sm710.trans sm1013)
            have n13b : l13 ≠ b := (hb.same (sm07.trans (sm710.trans (sm11.trans sm12)))).ne hl13
            have goF : ∀ (H' : Hp) (s7 s8 s9 s10 s11 : Option V), Same H13 H' → tf { nx := tl { nx := fun _ H' => Q .non H', rt := Q }, rt := Q } [some (.ref b), some (.ref wd), some (.int n), some (.int (d : Int)), some (.bl fr), some (.ref l13), some (.ref D), s7, s8, s9, s10, s11] H' := fun H' s7 s8 s9 s10 s11 sm => ffin _ l13 xs13 H' _ _ _ _ _ _ hd0 (s013.trans sm) (sm _ _ hq13) n13b (fun x hx => (hw13 x hx).same sm) hl13'.2 (by omega) fun l' xs' H2 t6 t7 t8 t9 t10 t11 h1 h2 h3 h4 h5 h6 => fin l' xs' H2 _ _ _ _ _ _ h1 h2 h3 h4 h5 h6
            walk_at "ev"
            refine ite2 (fun e1 => ?_) (fun e1 => ?_)
            · have e2 : 2 < n := of_decide_eq_true e1
              walk_at "ev"
              intro bb H14 sm14 hbb
              have hW14 := hW.up (s013.trans sm14)
              walk_at "ev"
              refine ite2 (fun e3 => ?_) (fun e3 => ?_)
              · walk_at "ev"
                refine ite2 (fun e4 => ?_) (fun e4 => ?_)
                · have e5 : numM g % (n - 1) = 0 := of_decide_eq_true e4
                  walk_at "ev"
                  w_cond _15
                  walk_at "ev"
                  w_cond _16
                  have hr9 : 1 * 4 ≤ sizeLine := szl (by decide)
                  walk_at "ev"
                  w_cond _17
                  have hqq := (sm14.trans (sm15.trans (sm16.trans sm17))) _ _ hq13
                  have hr10 : xs13.length + 4 ≤ sizeLine := szl (by omega)
                  walk_at "ev"
                  w_cond _18
                  have s1318 : Same H13 H18 := sm14.trans (sm15.trans (sm16.trans (sm17.trans sm18)))
                  have n18b : l18 ≠ b := (hb.same (s013.trans (sm14.trans (sm15.trans (sm16.trans sm17))))).ne hl18
                  refine ffin _ l18 _ H18 _ _ _ _ _ _ hd0 (s013.trans s1318) hq18 n18b (fun x hx => ?_) (by rw [List.length_append]; omega) (by rw [List.length_append]; show _ + 4 ≤ 2000; omega) fun l' xs' H2 t6 t7 t8 t9 t10 t11 h1 h2 h3 h4 h5 h6 => fin l' xs' H2 _ _ _ _ _ _ h1 h2 h3 h4 h5 h6
                  rcases List.mem_append.mp hx with h | h
                  · exact (hw13 x h).same s1318
                  · have ex : x = .ref l15 := by simpa using (mem_rep h).1
                    rw [ex]
                    exact .pow hd0 e2 (prs_iff.mpr ⟨by omega, Fac.self (hbb.mp e3).1 (hbb.mp e3).2⟩) e5 ((sm16.trans (sm17.trans sm18)) _ _ hq15)
                · walk_at "ev"
                  exact goF _ _ _ _ _ _ sm14
              · walk_at "ev"
                exact goF _ _ _ _ _ _ sm14
            · walk_at "ev"
              exact goF _ _ _ _ _ _ (Same.refl _)
      · walk_at "ev"
        exact fin l xs7 H7 _ _ _ _ _ _ sm07 hq8 nlb hw7 hl70 (by omega)
    obtain ⟨tl2, htl, fin2⟩ := tail2
    clear fin ffin
    refine ⟨_, (pss_cons (ps_par (i := 5) (j := 6) (by rfl) nd rfl rfl (by decide) rfl rfl (pa_cons (pe_lst (pa_cons (pe_tup (pa_cons (pe_str) pa_nil)) pa_nil)) (pa_cons (pe_lc (own := [("_law_part", 10)]) (g := gName 10) (by rfl) nd (pi_range2 (by rfl) T.b_range (pa_cons (pe_int) (pa_cons (pv 2) pa_nil))) (blkOk_by (own := [("_law_part", 10)]) (N := N__law_plan_of) (sc := defScope s__law_plan_of) (by decide +kernel)) (fun _ _ _ _ _ => (pg_name (i := 10) nd rfl (Or.inl rfl))) (fun _ _ _ _ _ => pts_one (pt_cmpR op_eq (pe_op op_mod (pv 2) (pv 10)) (pe_int) (nomark _))) (fun _ _ _ _ _ => (pv 10))) pa_nil)) (by rfl))
      (pss_cons (ps_if (pt_cmpR op_lt (pv 2) (pe_int) (nomark _)) (pss_one (ps_set (i := 5) nd rfl (Or.inl rfl) (pe_op op_cat (pv 5) (pe_op op_rep (pe_lst (pa_cons (pe_tup (pa_cons (pe_str) pa_nil)) pa_nil)) (pe_int))))) pss_nil)
      htl)), ?_⟩
    walk_at "ev"
    w_cond _1
    walk_at "ev"
    w_cond _2
    have sm02 := sm1.trans sm2
    walk_at "ev"
    intro D hD
    refine lc_range (lo := 2) (n := _) (fun i H' => Hold (∃ ks : List Int, Same H2 H' ∧ H' D = some (.lst (ks.map V.int)) ∧ ks.length ≤ i ∧ ∀ k ∈ ks, 2 ≤ k ∧ k < n ∧ n % k = 0)) (.mk ⟨[], same_new hD, upd_same, Nat.zero_le _, by simp⟩) ?_ ?_
    · intro i H3 hi hP
      obtain ⟨ks, sm3, hD3, hl3, hk3⟩ := hP.un
      have hfl : (ks.map V.int).length < sizeLine := by
        rw [List.length_map]
        exact szm (by omega)
      walk_at "ev"
      refine ite2 (fun e => ?_) (fun e => ?_)
      · have e1 : n % (2 + (i : Int)) = 0 := V.int.inj (of_decide_eq_true e)
        walk_at "ev"
        refine .mk ⟨ks ++ [2 + (i : Int)], same_mut sm3 hD, ?_, ?_, ?_⟩
        · rw [upd_same, List.map_append]
          rfl
        · simp
          omega
        · intro k hk
          rcases List.mem_append.mp hk with h | h
          · exact hk3 k h
          · have e2 : k = 2 + (i : Int) := by simpa using h
            subst e2
            exact ⟨by omega, by omega, e1⟩
      · exact .mk ⟨ks, sm3, hD3, by omega, hk3⟩
    · intro H3 hP
      obtain ⟨ks, sm3, hD3, hl3, hk3⟩ := hP.un
      have hkl : ks.length ≤ 240 := by omega
      have sm03 := sm02.trans sm3
      have n2b : l2 ≠ b := (hb.same sm1).ne hl2
      have w3 : ∀ x ∈ [V.ref l1], Wy (numM g) fr H3 n d x := fun x hx => by
        rw [List.mem_singleton.mp hx]
        exact .leaf (.inl rfl) (fun z => absurd z (by decide)) ((sm2.trans sm3) _ _ hq1)
      walk_at "ev"
      refine ite2 (fun e => ?_) (fun e => ?_)
      · walk_at "ev"
        w_cond _4
        walk_at "ev"
        w_cond _5
        have hr9 : 1 * 3 ≤ sizeLine := szl (by decide)
        walk_at "ev"
        w_cond _6
        have hqq := (sm3.trans (sm4.trans (sm5.trans sm6))) _ _ hq2
        have hr10 : 1 + 3 ≤ sizeLine := szl (by decide)
        walk_at "ev"
        w_cond _7
        have s37 : Same H3 H7 := sm4.trans (sm5.trans (sm6.trans sm7))
        refine fin2 l7 D _ ks H7 _ _ _ _ _ (sm03.trans s37) hq7 ((hb.same (sm03.trans (sm4.trans (sm5.trans sm6)))).ne hl7) (fun x hx => ?_) (by show 0 < 4; decide) (by show 4 ≤ 10; decide) (s37 _ _ hD3) hkl hk3
        rcases List.mem_append.mp hx with h | h
        · exact (w3 x h).same s37
        · have ex : x = .ref l4 := by simpa using (mem_rep h).1
          rw [ex]
          exact .leaf (.inr rfl) (fun _ => of_decide_eq_true e) ((sm5.trans (sm6.trans sm7)) _ _ hq4)
      · walk_at "ev"
        exact fin2 l2 D _ ks H3 _ _ _ _ _ sm03 (sm3 _ _ hq2) n2b w3 (by show 0 < 1; decide) (by show 1 ≤ 10; decide) hD3 hkl hk3
theorem ok_pof {f f1 f2 f3 f4 f5 : Addr} {fd d1 d2 d3 d4 d5 : FuncData} (D__law_plan_of : Df K mg "_law_plan_of" s__law_plan_of P__law_plan_of f fd) (T : Blt mg) (D__law_take : Df K mg "_law_take" s__law_take P__law_take f1 d1) (D__law_pick : Df K mg "_law_pick" s__law_pick P__law_pick f2 d2) (D__law_shares : Df K mg "_law_shares" s__law_shares P__law_shares f3 d3) (D__law_is_plain_prime : Df K mg "_law_is_plain_prime" s__law_is_plain_prime P__law_is_plain_prime f4 d4) (D__law_has : Df K mg "_law_has" s__law_has P__law_has f5 d5) : ∀ d : Nat, FnOk P w K mg base CX0 (d + 3) f fd P__law_plan_of (spPof K d)
  | 0 => pof_step (spI := fun _ _ _ _ => False) D__law_plan_of T D__law_take D__law_pick D__law_shares D__law_is_plain_prime D__law_has ⟨fun _ _ _ _ h => h.elim, fun _ _ _ _ _ _ _ _ _ _ _ _ _ h => h.elim⟩ (fun m h => by omega)
  | d + 1 => pof_step D__law_plan_of T D__law_take D__law_pick D__law_shares D__law_is_plain_prime D__law_has (ok_pof D__law_plan_of T D__law_take D__law_pick D__law_shares D__law_is_plain_prime D__law_has d) (fun m h => by cases h; rfl)
end
abbrev s_bare_length : Stmt := top 15
abbrev N_bare_length : List Str := ["word", "length"]
abbrev P_bare_length : List Str := ["word", "length"]
theorem sc_bare_length : FnScope N_bare_length P_bare_length (defScope s_bare_length) := ⟨rfl, rfl, rfl, by decide +kernel, rfl, by decide +kernel, by decide +kernel⟩
def spBare : Sp := fun vs H Q _ => ∃ (x : Str) (n : Int), vs = [.str x, .int n] ∧ (x = "plain" ∨ x = "short") ∧ 1 ≤ n ∧ (x = "short" → n < 5) ∧ Q (.int n) H
section
variable {P : Program} {w : World} {K : PySem.W.Frag} {mg : Str → Option Value} {base : Heap}
theorem ok_bare {f f1 aS : Addr} {fd d1 : FuncData} {k : Nat} (F : Fun K "bare_length" "bare_length" s_bare_length f fd) (T : Blt mg) (D_is_whole : Df K mg "is_whole" s_is_whole P_is_whole f1 d1) (M_SHORTS : mg "SHORTS" = some (.ref aS)) (QS : ∀ H : Hp, SqT K H aS (([1, 2, 3, 4] : List Int).map V.int)) : FnOk P w K mg base CX0 (k + 2) f fd P_bare_length spBare := by
  have G_is_whole : FnOk P w K mg base CX0 (k + 1) f1 d1 P_is_whole (spWhole K) := ok_whole D_is_whole.F T
  have nd := sc_bare_length.nd
  refine F.ok sc_bare_length (fun vs H Q E h => ?_) (fun cdv A outer s H vs Q E hr h => ?_)
  · obtain ⟨x, n, rfl, _⟩ := h
    rfl
  · obtain ⟨x, n, rfl, hw, n1, n5, q⟩ := h
    refine ⟨_, (pss_cons (ps_if (pt_not (pt_val (pe_call G_is_whole (hr.mono (by omega)) (by rfl) D_is_whole.g D_is_whole.F.kp D_is_whole.b .nil pass0 (pa_cons (pv 1) pa_nil)))) (pss_one (ps_ret (pe_int))) pss_nil)
      (pss_cons (ps_if (PW.pt (pw_and (pt_cmpR op_eq (pv 0) (pe_str) (nomark _)) (pw_and1 (pt_cmpR op_ge (pv 1) (pe_int) (nomark _))))) (pss_one (ps_ret (pv 1))) pss_nil)
      (pss_cons (ps_if (PW.pt (pw_and (pt_cmpR op_eq (pv 0) (pe_str) (nomark _)) (pw_and1 (pt_cmpR (r := rIn K false) op_in_seq (pv 1) (pe_glob (v := .ref _) (by rfl) M_SHORTS rfl) (by rfl))))) (pss_one (ps_ret (pv 1))) pss_nil)
      (pss_one (ps_ret (pe_int)))))), ?_⟩
    have hk : Kd K H (.int n) "int" := .int n
    have hin : SqL K H aS (([1, 2, 3, 4] : List Int).map V.int) ∨ SqT K H aS (([1, 2, 3, 4] : List Int).map V.int) := .inr (QS H)
    rcases hw with rfl | rfl
    · walk_at "ev"
      refine iteTe (decide_eq_true n1) ?_
      walk_at "ev"
      exact q
    · have n4 := n5 rfl
      have e : inV (.int n) (([1, 2, 3, 4] : List Int).map V.int) = true := by
        have : n = 1 ∨ n = 2 ∨ n = 3 ∨ n = 4 := by omega
        rcases this with z | z | z | z <;> rw [z] <;> decide
      walk_at "ev"
      refine iteTe e ?_
      walk_at "ev"
      exact q
end
abbrev s_pair_length : Stmt := top 16
abbrev N_pair_length : List Str := ["word", "first", "second"]
abbrev P_pair_length : List Str := ["word", "first", "second"]
theorem sc_pair_length : FnScope N_pair_length P_pair_length (defScope s_pair_length) := ⟨rfl, rfl, rfl, by decide +kernel, rfl, by decide +kernel, by decide +kernel⟩
def spPair : Sp := fun vs H Q _ => ∃ (x : Str) (m n : Int), vs = [.str x, .int m, .int n] ∧ (x = "split" ∨ (x = "parts" ∧ Int.gcd m n = 1)) ∧ 2 ≤ m ∧ 2 ≤ n ∧ n ≤ 1000 ∧ Q (.int (m * n)) H
section
variable {P : Program} {w : World} {K : PySem.W.Frag} {mg : Str → Option Value} {base : Heap}
theorem ok_pair {f f1 : Addr} {fd d1 : FuncData} {k : Nat} (F : Fun K "pair_length" "pair_length" s_pair_length f fd) (T : Blt mg) (D_are_coprime : Df K mg "are_coprime" s_are_coprime P_are_coprime f1 d1) : FnOk P w K mg base CX0 (k + 2) f fd P_pair_length spPair := by
  have G_are_coprime : FnOk P w K mg base CX0 (k + 1) f1 d1 P_are_coprime spCop := ok_coprime D_are_coprime.F
  have nd := sc_pair_length.nd
  refine F.ok sc_pair_length (fun vs H Q E h => ?_) (fun cdv A outer s H vs Q E hr h => ?_)
  · obtain ⟨x, m, n, rfl, _⟩ := h
    rfl
  · obtain ⟨x, m, n, rfl, hw, m2, n2, n1000, q⟩ := h
    refine ⟨_, (pss_cons (ps_if (PW.pt (pw_or (pt_cmpR op_lt (pv 1) (pe_int) (nomark _)) (pw_or1 (pt_cmpR op_lt (pv 2) (pe_int) (nomark _))))) (pss_one (ps_ret (pe_int))) pss_nil)
      (pss_cons (ps_if (PW.pt (pw_and (pt_cmpR op_eq (pv 0) (pe_str) (nomark _)) (pw_and1 (pt_not (pt_val (pe_call G_are_coprime (hr.mono (by omega)) (by rfl) D_are_coprime.g D_are_coprime.F.kp D_are_coprime.b .nil pass0 (pa_cons (pv 1) (pa_cons (pv 2) pa_nil)))))))) (pss_one (ps_ret (pe_int))) pss_nil)
      (pss_one (ps_ret (pe_op op_mul (pv 1) (pv 2)))))), ?_⟩
    have m0 : 0 ≤ m := by omega
    have n0 : 0 ≤ n := by omega
    have hcm : CMul m n := .inr ⟨by omega, by omega⟩
    walk_at "ev"
    refine iteFe (decide_eq_false (by omega)) ?_
    walk_at "ev"
    refine iteFe (decide_eq_false (by omega)) ?_
    walk_at "ev"
    rcases hw with rfl | ⟨rfl, hg⟩
    · walk_at "ev"
      exact q
    · walk_at "ev"
      exact q
end
abbrev s_led_length : Stmt := top 17
abbrev N_led_length : List Str := ["word", "length", "inner"]
abbrev P_led_length : List Str := ["word", "length", "inner"]
theorem sc_led_length : FnScope N_led_length P_led_length (defScope s_led_length) := ⟨rfl, rfl, rfl, by decide +kernel, rfl, by decide +kernel, by decide +kernel⟩
def spLedl (K : PySem.W.Frag) : Sp := fun vs H Q _ => ∃ (x : Str) (n m : Int), vs = [.str x, .int n, .int m] ∧ ((x = "powers" ∧ 3 ≤ n ∧ m = n - 1 ∧ Fac n [n]) ∨ (x = "stretch" ∧ 2 ≤ n ∧ 2 * n - 1 ≤ m)) ∧ n ≤ 1000 ∧ ∀ H', Same H H' → Q (.int n) H'
section
variable {P : Program} {w : World} {K : PySem.W.Frag} {mg : Str → Option Value} {base : Heap}
theorem ok_ledl {f f1 f2 f3 : Addr} {fd d1 d2 d3 : FuncData} {k : Nat} (F : Fun K "led_length" "led_length" s_led_length f fd) (T : Blt mg) (D_is_whole : Df K mg "is_whole" s_is_whole P_is_whole f1 d1) (D_is_prime : Df K mg "is_prime" s_is_prime P_is_prime f2 d2) (D_factors : Df K mg "factors" s_factors P_factors f3 d3) : FnOk P w K mg base CX0 (k + 3) f fd P_led_length (spLedl K) := by
  have G_is_whole : FnOk P w K mg base CX0 (k + 1) f1 d1 P_is_whole (spWhole K) := ok_whole D_is_whole.F T
  have G_is_prime : FnOk P w K mg base CX0 (k + 2) f2 d2 P_is_prime (spPrime K) := ok_prime D_is_prime.F T D_is_whole D_factors
  have nd := sc_led_length.nd
  refine F.ok sc_led_length (fun vs H Q E h => ?_) (fun cdv A outer s H vs Q E hr h => ?_)
  · obtain ⟨x, n, m, rfl, _⟩ := h
    rfl
  · obtain ⟨x, n, m, rfl, hw, n1000, q⟩ := h
    refine ⟨_, (pss_cons (ps_if (pt_not (pt_val (pe_call G_is_whole (hr.mono (by omega)) (by rfl) D_is_whole.g D_is_whole.F.kp D_is_whole.b .nil pass0 (pa_cons (pv 1) pa_nil)))) (pss_one (ps_ret (pe_int))) pss_nil)
      (pss_cons (ps_if (PW.pt (pw_and (pt_cmpR op_eq (pv 0) (pe_str) (nomark _)) (pw_and (pt_cmpR op_ge (pv 1) (pe_int) (nomark _)) (pw_and (pt_cmpR op_eq (pv 2) (pe_op op_sub (pv 1) (pe_int)) (nomark _)) (pw_and1 (pt_val (pe_call G_is_prime (hr.mono (by omega)) (by rfl) D_is_prime.g D_is_prime.F.kp D_is_prime.b .nil pass0 (pa_cons (pv 1) pa_nil)))))))) (pss_one (ps_ret (pv 1))) pss_nil)
      (pss_cons (ps_if (PW.pt (pw_and (pt_cmpR op_eq (pv 0) (pe_str) (nomark _)) (pw_and (pt_cmpR op_ge (pv 1) (pe_int) (nomark _)) (pw_and1 (pt_cmpR op_ge (pv 2) (pe_op op_sub (pe_op op_mul (pe_int) (pv 1)) (pe_int)) (nomark _)))))) (pss_one (ps_ret (pv 1))) pss_nil)
      (pss_one (ps_ret (pe_int)))))), ?_⟩
    have hk : Kd K H (.int n) "int" := .int n
    have hb : ∀ z, V.int n = .int z → z ≤ 1000000000 := fun z e => by
      cases e
      omega
    have cm2 : CMul 2 n := .inl ⟨by decide, by decide⟩
    rcases hw with ⟨rfl, n3, rfl, hf⟩ | ⟨rfl, n2, hm⟩
    · walk_at "ev"
      refine iteTe (decide_eq_true n3) ?_
      walk_at "ev"
      intro b H1 sm1 hbb
      have : b = true := hbb.mpr ⟨n, rfl, hf⟩
      subst this
      walk_at "ev"
      exact q _ sm1
    · walk_at "ev"
      refine iteTe (decide_eq_true n2) ?_
      walk_at "ev"
      refine iteTe (decide_eq_true hm) ?_
      walk_at "ev"
      exact q _ (Same.refl _)
end
abbrev s_length_if_plan : Stmt := top 18
abbrev N_length_if_plan : List Str := ["thing", "word", "first", "second", "inner"]
abbrev P_length_if_plan : List Str := ["thing"]
theorem sc_length_if_plan : FnScope N_length_if_plan P_length_if_plan (defScope s_length_if_plan) := ⟨rfl, rfl, rfl, by decide +kernel, rfl, by decide +kernel, by decide +kernel⟩
def spLip (K : PySem.W.Frag) (d : Nat) : Sp := fun vs H Q _ => ∃ (v : V) (p : Pl), vs = [v] ∧ PlAt K H v p ∧ PlN p ∧ pdep p ≤ d ∧ ∀ H', Same H H' → Q (.int (plen p)) H'
section
variable {P : Program} {w : World} {K : PySem.W.Frag} {mg : Str → Option Value} {base : Heap}
theorem lip_step {f f1 f2 f3 f4 f5 f6 f7 aS : Addr} {fd d1 d2 d3 d4 d5 d6 d7 : FuncData} {n : Nat} {spI : Sp} (D_length_if_plan : Df K mg "length_if_plan" s_length_if_plan P_length_if_plan f fd) (T : Blt mg) (M_SHORTS : mg "SHORTS" = some (.ref aS)) (QS : ∀ H : Hp, SqT K H aS (([1, 2, 3, 4] : List Int).map V.int)) (D_is_whole : Df K mg "is_whole" s_is_whole P_is_whole f1 d1) (D_is_prime : Df K mg "is_prime" s_is_prime P_is_prime f2 d2) (D_factors : Df K mg "factors" s_factors P_factors f3 d3) (D_are_coprime : Df K mg "are_coprime" s_are_coprime P_are_coprime f4 d4) (D_bare_length : Df K mg "bare_length" s_bare_length P_bare_length f5 d5) (D_pair_length : Df K mg "pair_length" s_pair_length P_pair_length f6 d6) (D_led_length : Df K mg "led_length" s_led_length P_led_length f7 d7) (G_length_if_plan : FnOk P w K mg base CX0 (n + 3) f fd P_length_if_plan spI) (hG : ∀ m, n = m + 1 → spI = spLip K m) : FnOk P w K mg base CX0 (n + 4) f fd P_length_if_plan (spLip K n) := by
  have G_bare_length : FnOk P w K mg base CX0 2 f5 d5 P_bare_length spBare := ok_bare (k := 0) D_bare_length.F T D_is_whole M_SHORTS QS
  have G_pair_length : FnOk P w K mg base CX0 2 f6 d6 P_pair_length spPair := ok_pair (k := 0) D_pair_length.F T D_are_coprime
  have G_led_length : FnOk P w K mg base CX0 3 f7 d7 P_led_length (spLedl K) := ok_ledl (k := 0) D_led_length.F T D_is_whole D_is_prime D_factors
  have nd := sc_length_if_plan.nd
  refine D_length_if_plan.F.ok sc_length_if_plan (fun vs H Q E h => ?_) (fun cdv A outer s H vs Q E hr h => ?_)
  · obtain ⟨v, p, rfl, _⟩ := h
    rfl
  · obtain ⟨v, p, rfl, hp, hg, hd, q⟩ := h
    refine ⟨_, (pss_cons (ps_if (pt_not (pt_val (pe_callB (r := rIsi K) call_isi (by rfl) T.b_isinstance (by decide +kernel) (pa_cons (pv 0) (pa_cons (pe_bltn (v := .ty "tuple") (by rfl) T.b_tuple (by decide +kernel) rfl) pa_nil))))) (pss_one (ps_ret (pe_int))) pss_nil)
      (pss_cons (ps_if (pt_cmpR op_eq (pe_callB (r := rLenQ K) call_len_seq (by rfl) T.b_len (by decide +kernel) (pa_cons (pv 0) pa_nil)) (pe_int) (nomark _)) (pss_one (ps_ret (pe_call G_bare_length (hr.mono (by omega)) (by rfl) D_bare_length.g D_bare_length.F.kp D_bare_length.b .nil pass0 (pa_cons (pe_ix (r := rIxT K) ix_tup (pv 0) (pe_int) (fun _ _ => rfl)) (pa_cons (pe_ix (r := rIxT K) ix_tup (pv 0) (pe_int) (fun _ _ => rfl)) pa_nil))))) pss_nil)
      (pss_cons (ps_if (pt_cmpR op_ne (pe_callB (r := rLenQ K) call_len_seq (by rfl) T.b_len (by decide +kernel) (pa_cons (pv 0) pa_nil)) (pe_int) (nomark _)) (pss_one (ps_ret (pe_int))) pss_nil)
      (pss_cons (ps_asg (pv 0) (pg_tup (by rfl) (pgs_cons (pg_name (i := 1) nd rfl (Or.inl rfl)) (pgs_cons (pg_name (i := 2) nd rfl (Or.inl rfl)) (pgs_cons (pg_name (i := 3) nd rfl (Or.inl rfl)) pgs_nil)))))
      (pss_cons (ps_set (i := 4) nd rfl (Or.inl rfl) (pe_call G_length_if_plan (hr.mono (by omega)) (by rfl) D_length_if_plan.g D_length_if_plan.F.kp D_length_if_plan.b .nil pass0 (pa_cons (pv 3) pa_nil)))
      (pss_cons (ps_if (pt_cmpR (r := rIn K false) op_in_seq (pv 1) (pe_tup (pa_cons (pe_str) (pa_cons (pe_str) pa_nil))) (by rfl)) (pss_one (ps_ret (pe_call G_pair_length (hr.mono (by omega)) (by rfl) D_pair_length.g D_pair_length.F.kp D_pair_length.b .nil pass0 (pa_cons (pv 1) (pa_cons (pe_call G_length_if_plan (hr.mono (by omega)) (by rfl) D_length_if_plan.g D_length_if_plan.F.kp D_length_if_plan.b .nil pass0 (pa_cons (pv 2) pa_nil)) (pa_cons (pv 4) pa_nil)))))) pss_nil)
      (pss_one (ps_ret (pe_call G_led_length (hr.mono (by omega)) (by rfl) D_led_length.g D_led_length.F.kp D_led_length.b .nil pass0 (pa_cons (pv 1) (pa_cons (pv 2) (pa_cons (pv 4) pa_nil)))))))))))), ?_⟩
    have kd := hp.kd
    have ty := kd.ty
    obtain ⟨k1, k2, k3, k4, k5⟩ := kd.kit
    clear kd
    have ok := hg.ok
    cases hp with
    | leaf hw hs =>
      rename_i a wd n
      obtain ⟨n1, n60, n5⟩ := hg
      have hat0 : atI [V.str wd, V.int n] 0 = some (.str wd) := rfl
      have hat1 : atI [V.str wd, V.int n] 1 = some (.int n) := rfl
      have n5' : wd = "short" → n < 5 := fun z => by have := n5 z; omega
      have n1' : 1 ≤ n := n1
      walk_at "ev"
      exact q _ (Same.refl _)
    | two hw hs hx' hy' =>
      rename_i a wd x y p1 p2
      cases n with
      | zero =>
        have : 1 + max (pdep p1) (pdep p2) ≤ 0 := hd
        omega
      | succ n =>
      have hS := hG n rfl
      subst hS
      have hd' : 1 + max (pdep p1) (pdep p2) ≤ n + 1 := hd
      obtain ⟨g1, g2, l1, l2, g4, g5⟩ := hg
      have hdx : pdep p1 ≤ n := by omega
      have hdy : pdep p2 ≤ n := by omega
      have l1000 := g2.ok.2.1
      have hwp : wd = "split" ∨ (wd = "parts" ∧ Int.gcd (plen p1) (plen p2) = 1) := by
        rcases hw with z | z
        · exact .inl z
        · exact .inr ⟨z, g5 z⟩
      walk_at "ev"
      intro H2 sm2
      have hs2 := same_t sm2 hs
      walk_at "ev"
      w_cond _3
      have ht : SqL K H3 l3 [.str "split", .str "parts"] ∨ SqT K H3 l3 [.str "split", .str "parts"] := .inr (SqT.of hq3)
      have hs3 := same_t sm3 hs2
      have hx3 := (hx'.same sm2).same sm3
      walk_at "ev"
      refine iteTe (in_sp hw) ?_
      walk_at "ev"
      intro H4 sm4
      walk_at "ev"
      exact q H4 (sm2.trans (sm3.trans sm4))
    | led hw hs hx' =>
      rename_i a wd m x p1
      cases n with
      | zero =>
        have : 1 + pdep p1 ≤ 0 := hd
        omega
      | succ n =>
      have hS := hG n rfl
      subst hS
      have hd' : 1 + pdep p1 ≤ n + 1 := hd
      obtain ⟨g1, g2, g3, g5, g6⟩ := hg
      have hdx : pdep p1 ≤ n := by omega
      have m1000 : m ≤ 1000 := g3
      have hwp : (wd = "powers" ∧ 3 ≤ m ∧ plen p1 = m - 1 ∧ Fac m [m]) ∨ (wd = "stretch" ∧ 2 ≤ m ∧ 2 * m - 1 ≤ plen p1) := by
        rcases hw with z | z
        · obtain ⟨a1, a2, a3⟩ := g5 z
          exact .inl ⟨z, a1, a3, a2⟩
        · exact .inr ⟨z, g2, g6 z⟩
      walk_at "ev"
      intro H2 sm2
      have hs2 := same_t sm2 hs
      walk_at "ev"
      w_cond _3
      have ht : SqL K H3 l3 [.str "split", .str "parts"] ∨ SqT K H3 l3 [.str "split", .str "parts"] := .inr (SqT.of hq3)
      have hs3 := same_t sm3 hs2
      walk_at "ev"
      refine iteFe (in_sp_led hw) ?_
      walk_at "ev"
      intro H4 sm4
      exact q H4 (sm2.trans (sm3.trans sm4))
theorem ok_lip {f f1 f2 f3 f4 f5 f6 f7 aS : Addr} {fd d1 d2 d3 d4 d5 d6 d7 : FuncData} (D_length_if_plan : Df K mg "length_if_plan" s_length_if_plan P_length_if_plan f fd) (T : Blt mg) (M_SHORTS : mg "SHORTS" = some (.ref aS)) (QS : ∀ H : Hp, SqT K H aS (([1, 2, 3, 4] : List Int).map V.int)) (D_is_whole : Df K mg "is_whole" s_is_whole P_is_whole f1 d1) (D_is_prime : Df K mg "is_prime" s_is_prime P_is_prime f2 d2) (D_factors : Df K mg "factors" s_factors P_factors f3 d3) (D_are_coprime : Df K mg "are_coprime" s_are_coprime P_are_coprime f4 d4) (D_bare_length : Df K mg "bare_length" s_bare_length P_bare_length f5 d5) (D_pair_length : Df K mg "pair_length" s_pair_length P_pair_length f6 d6) (D_led_length : Df K mg "led_length" s_led_length P_led_length f7 d7) : ∀ n : Nat, FnOk P w K mg base CX0 (n + 4) f fd P_length_if_plan (spLip K n)
  | 0 => lip_step (spI := fun _ _ _ _ => False) D_length_if_plan T M_SHORTS QS D_is_whole D_is_prime D_factors D_are_coprime D_bare_length D_pair_length D_led_length ⟨fun _ _ _ _ h => h.elim, fun _ _ _ _ _ _ _ _ _ _ _ _ _ h => h.elim⟩ (fun m h => by omega)
  | n + 1 => lip_step D_length_if_plan T M_SHORTS QS D_is_whole D_is_prime D_factors D_are_coprime D_bare_length D_pair_length D_led_length (ok_lip D_length_if_plan T M_SHORTS QS D_is_whole D_is_prime D_factors D_are_coprime D_bare_length D_pair_length D_led_length n) (fun m h => by cases h; rfl)
end
abbrev s_is_plan : Stmt := top 19
abbrev N_is_plan : List Str := ["thing"]
abbrev P_is_plan : List Str := ["thing"]
theorem sc_is_plan : FnScope N_is_plan P_is_plan (defScope s_is_plan) := ⟨rfl, rfl, rfl, by decide +kernel, rfl, by decide +kernel, by decide +kernel⟩
def spIsp (K : PySem.W.Frag) (d : Nat) : Sp := fun vs H Q _ => ∃ (v : V) (p : Pl), vs = [v] ∧ PlAt K H v p ∧ PlN p ∧ pdep p ≤ d ∧ ∀ H', Same H H' → Q (.bl true) H'
section
variable {P : Program} {w : World} {K : PySem.W.Frag} {mg : Str → Option Value} {base : Heap}
theorem ok_isp (dd : Nat) {f f0 f1 f2 f3 f4 f5 f6 f7 aS : Addr} {fd d0 d1 d2 d3 d4 d5 d6 d7 : FuncData} (F : Fun K "is_plan" "is_plan" s_is_plan f fd) (D_length_if_plan : Df K mg "length_if_plan" s_length_if_plan P_length_if_plan f0 d0) (T : Blt mg) (M_SHORTS : mg "SHORTS" = some (.ref aS)) (QS : ∀ H : Hp, SqT K H aS (([1, 2, 3, 4] : List Int).map V.int)) (D_is_whole : Df K mg "is_whole" s_is_whole P_is_whole f1 d1) (D_is_prime : Df K mg "is_prime" s_is_prime P_is_prime f2 d2) (D_factors : Df K mg "factors" s_factors P_factors f3 d3) (D_are_coprime : Df K mg "are_coprime" s_are_coprime P_are_coprime f4 d4) (D_bare_length : Df K mg "bare_length" s_bare_length P_bare_length f5 d5) (D_pair_length : Df K mg "pair_length" s_pair_length P_pair_length f6 d6) (D_led_length : Df K mg "led_length" s_led_length P_led_length f7 d7) : FnOk P w K mg base CX0 (dd + 5) f fd P_is_plan (spIsp K dd) := by
  have G_length_if_plan : FnOk P w K mg base CX0 (dd + 4) f0 d0 P_length_if_plan (spLip K dd) := ok_lip D_length_if_plan T M_SHORTS QS D_is_whole D_is_prime D_factors D_are_coprime D_bare_length D_pair_length D_led_length dd
  have nd := sc_is_plan.nd
  refine F.ok sc_is_plan (fun vs H Q E h => ?_) (fun cdv A outer s H vs Q E hr h => ?_)
  · obtain ⟨v, p, rfl, _⟩ := h
    rfl
  · obtain ⟨v, p, rfl, hp, hg, hd, q⟩ := h
    refine ⟨_, (pss_one (ps_ret (pe_cmpR op_gt (pe_call G_length_if_plan (hr.mono (by omega)) (by rfl) D_length_if_plan.g D_length_if_plan.F.kp D_length_if_plan.b .nil pass0 (pa_cons (pv 0) pa_nil)) (pe_int) (nomark _)))), ?_⟩
    have p1 := hg.ok.1
    walk_at "ev"
    intro H1 sm1
    walk_at "ev"
    have e : decide (0 < plen p) = true := decide_eq_true (by omega)
    have z := q H1 sm1
    rw [← e] at z
    exact z
end
/-! ### for k in D, D a dict of the module's top with text keys -/
section
open PySem.Spec PyProof.Rows
/-- the keys of a dict of the module's top, in their order -/
def KKs (K : PySem.W.Frag) (d : Addr) (ks : List Str) : Prop :=
  (d == sysModules) = false ∧ ∃ es n, K.lookup d = some ⟨.type "dict", none, .dict es n, #[]⟩ ∧ Paired (fun (e : DictEntry) (x : Str) => ∃ t, e.key = .str x t) es.toList ks
def Itkc (K : PySem.W.Frag) (d : Addr) (ks : List Str) : It := ⟨fun i _ => KKs K d ks ∧ i < ks.length, fun i H v H' => H' = H ∧ ∃ x, ks[i]? = some x ∧ v = .str x, fun i _ => KKs K d ks ∧ ks.length ≤ i⟩
theorem turn_kc {P : Program} {w : World} {K : PySem.W.Frag} {tg : Expr} {d : Addr} {ks : List Str} {es : Array DictEntry} {ep : Nat} (it : Addr) (hl : K.lookup d = some ⟨.type "dict", none, .dict es ep, #[]⟩) (hp : Paired (fun (e : DictEntry) (x : Str) => ∃ t, e.key = .str x t) es.toList ks) :
    Turn P w K tg (Itkc K d ks) [it] it (fun i h => h.IsKeyIter it d i ks.length ep) where
  mem := by simp
  obj := fun i h st b hb => by
    have e : b = it := by simpa using hb
    subst e
    obtain ⟨oi, e, c, dd⟩ := st
    exact ⟨oi, e, fun v z => by rw [dd] at z; cases z⟩
  keep := fun i h h' st k => st.at fun oi e => k it (by simp) oi e
  item := by
    intro X hP hw hK hc i pins s σ H E I hf st hg
    subst hP hw hK
    obtain ⟨_, hi⟩ := hg
    obtain ⟨f0, f1, f2, f3, f4, f5⟩ := hf it (by simp)
    have hgd := I.kIn d _ hl
    have hsz : es.size = ks.length := by rw [← Array.length_toList]; exact Paired.length hp
    obtain ⟨en, hen, hkey⟩ : ∃ en, es[i]? = some en ∧ ∃ t, en.key = .str ks[i] t := by
      have hil : i < es.toList.length := by rw [Array.length_toList]; omega
      obtain ⟨b, hb, hr⟩ := paired_get hp (List.getElem?_eq_getElem hil)
      have e : ks[i] = b := by rw [List.getElem?_eq_getElem hi] at hb; exact Option.some.inj hb
      refine ⟨es.toList[i], ?_, by rw [e]; exact hr⟩
      rw [← Array.getElem?_toList]
      exact List.getElem?_eq_getElem hil
    obtain ⟨t, hkey⟩ := hkey
    refine next_key_item st hgd rfl hsz hen fun h' st' sb => ?_
    have I1 : Inv X pins σ H { s with heap := h' } := I.turned (t' := s.toks) (fun b ob hb e => (sb.2 b hb).trans e) f0 f1 f3 f4 f5
    obtain ⟨oi, e, c, dd⟩ := id st'
    exact ⟨en.key, rfl, go_of (s := { s with heap := h' }) e c dd (by decide) ⟨.str ks[i], H, I1, ⟨t, hkey⟩, ⟨rfl, _, List.getElem?_eq_getElem hi, rfl⟩, st', fun b hb => (hf b hb).1⟩⟩
  done := by
    intro X hP hw hK hc i pins s σ H E I hf st hg
    subst hP hw hK
    obtain ⟨_, hi⟩ := hg
    obtain ⟨f0, f1, f2, f3, f4, f5⟩ := hf it (by simp)
    have hgd := I.kIn d _ hl
    have hsz : es.size = ks.length := by rw [← Array.length_toList]; exact Paired.length hp
    exact next_key_end (I.ok.hd hc) st hgd rfl hsz hi fun h' eb => ⟨rfl, I.turned (t' := s.toks) (fun b ob hb e => eb b ob hb e) f0 f1 f3 f4 f5⟩
  self := fun A i s Q E st h => by
    refine wpAny_pyIter_slot st.typeIs F.slot_dict_keyiterator_iter (wpAny_call_entry F.slot_dict_keyiterator_iter st.typeIs F.entry_dict_keyiterator_iter ?_ (F.args_dict_keyiterator_iter_1 _))
    show wpAny _ _ (ret (.ref it)) _ _ s
    exact wpAny_pure ⟨_, rfl, "dict_keyiterator", _, st.typeIs, F.slot_dict_keyiterator_next.lookup, h⟩
def iKc (K : PySem.W.Frag) (td : TE) : TI := fun σ H R => td σ H fun x H1 => ∃ d ks, x = .ref d ∧ KKs K d ks ∧ R (Itkc K d ks) H1
theorem pi_kc {X : Cx} {tg e : Expr} {td : TE} (he : PE X e td) : PI X tg e (iKc X.K td) := by
  refine ⟨fun pins s σ H R I h => ?_⟩
  refine thn (he.run pins s σ H _ I h) fun u s1 ⟨x, H1, I1, rx, d, ks, ex, hk, q⟩ => ?_
  subst ex
  obtain rfl : u = Value.ref d := rx
  obtain ⟨hs, es, n, hl, hp⟩ := hk
  have hgd := I1.kIn d _ hl
  have hsz : es.size = ks.length := by rw [← Array.length_toList]; exact Paired.length hp
  refine iter_keys hs hgd ⟨rfl, rfl, rfl⟩ rfl (pi_one (tk := s1.toks) I1 _ (turn_kc _ hl hp) ⟨_, Heap.get?_push_size _ rfl, rfl, ?_⟩ q)
  rw [hsz] <;> rfl
theorem for_kc {K : PySem.W.Frag} {a : Addr} {xs : List Str} {g : TG} {tb : TS} {D : Ends} {σ : L2.St} {H : Hp} (hk : KKs K a xs) (Pv : Nat → L2.St → Hp → Prop) (h0 : Pv 0 σ H)
    (hs : ∀ i x σ H, xs[i]? = some x → Pv i σ H → g (.str x) σ H fun σ2 H2 => tb { D with nx := Pv (i + 1), ct := Pv (i + 1), bk := D.nx } σ2 H2) (hd : ∀ σ H, Pv xs.length σ H → D.nx σ H) :
    ∃ W : Nat → Nat → L2.St → Hp → Prop, (∃ m, W 0 m σ H) ∧ ∀ i m σ H, W i m σ H →
      ((Itkc K a xs).stop i H ∧ D.nx σ H) ∨ ((Itkc K a xs).go i H ∧ ∃ N : L2.St → Hp → Prop, (∀ σ' H', N σ' H' → ∃ m', m' < m ∧ W (i + 1) m' σ' H') ∧ ∀ x H', (Itkc K a xs).yld i H x H' → g x σ H' fun σ2 H2 => tb { D with nx := N, ct := N, bk := D.nx } σ2 H2) := by
  refine ⟨fun i m σ H => m = xs.length - i ∧ i ≤ xs.length ∧ Pv i σ H, ⟨xs.length, by simp, Nat.zero_le _, h0⟩, ?_⟩
  rintro i m σ H ⟨rfl, hi, p⟩
  by_cases hlt : i < xs.length
  · refine .inr ⟨⟨hk, hlt⟩, Pv (i + 1), fun σ' H' p' => ⟨xs.length - (i + 1), by omega, rfl, hlt, p'⟩, fun x H' y => ?_⟩
    obtain ⟨e, z, hz, ev⟩ := y
    subst e
    subst ev
    exact hs i z σ _ hz p
  · have e : i = xs.length := by omega
    subst e
    exact .inl ⟨⟨hk, Nat.le_refl _⟩, hd σ H p⟩
end
/-! ### plans as texts -/
def tS (l : List Nat) : Str := ⟨l.toArray⟩
theorem tl_tS (l : List Nat) : (tS l).cps.toList = l := rfl
theorem tS_len (l : List Nat) : (tS l).length = l.length := by
  show l.toArray.size = l.length
  simp
theorem tS_inj {a b : List Nat} (h : tS a = tS b) : a = b := congrArg (fun z : Str => z.cps.toList) h
theorem tS_app (a b : List Nat) : tS a ++ tS b = tS (a ++ b) := TL.ext_tl (by rw [TL.tl_append]; rfl)
theorem tS_emp : Str.empty = tS [] := rfl
theorem tS_num (n : Nat) : (Str.ofString (toString ((n : Nat) : Int))) = tS (TL.numL n) := TL.ext_tl (TL.tl_num n)
def sgn (w : Str) : Nat := if w = "plain" then 112 else if w = "short" then 115 else if w = "split" then 42 else if w = "parts" then 46 else if w = "powers" then 94 else 126
def txt : Pl → List Nat
  | .leaf w n => sgn w :: TL.numL n.toNat
  | .two w a b => 40 :: (txt a ++ sgn w :: (txt b ++ [41]))
  | .led w n a => 40 :: (TL.numL n.toNat ++ sgn w :: (txt a ++ [41]))
/-- the words are the document's -/
def Wds : Pl → Prop
  | .leaf w _ => w = "plain" ∨ w = "short"
  | .two w a b => (w = "split" ∨ w = "parts") ∧ Wds a ∧ Wds b
  | .led w _ a => (w = "powers" ∨ w = "stretch") ∧ Wds a
theorem PlAt.wds {K : PySem.W.Frag} {H : Hp} {v : V} {p : Pl} (h : PlAt K H v p) : Wds p := by
  induction h with
  | leaf a _ => exact a
  | two a _ _ _ i1 i2 => exact ⟨a, i1, i2⟩
  | led a _ _ i1 => exact ⟨a, i1⟩
theorem num4 {n : Int} (h1 : 1 ≤ n) (h2 : n ≤ 1000) : (TL.numL n.toNat).length ≤ 4 := TL.numL_len (by decide) (by omega)
theorem txt_len : ∀ {p : Pl}, PlN p → (txt p).length + 3 ≤ 8 * 2 ^ pdep p
  | .leaf w n, ⟨h1, h2, _⟩ => by
    have := num4 h1 h2
    show (TL.numL n.toNat).length + 1 + 3 ≤ 8 * 2 ^ 0
    omega
  | .two w a b, ⟨h1, h2, _⟩ => by
    have i1 := txt_len h1
    have i2 := txt_len h2
    have e : pdep (.two w a b) = 1 + max (pdep a) (pdep b) := rfl
    have p1 : 2 ^ pdep a ≤ 2 ^ max (pdep a) (pdep b) := Nat.pow_le_pow_right (by decide) (Nat.le_max_left _ _)
    have p2 : 2 ^ pdep b ≤ 2 ^ max (pdep a) (pdep b) := Nat.pow_le_pow_right (by decide) (Nat.le_max_right _ _)
    have l : (txt (.two w a b)).length = (txt a).length + (txt b).length + 3 := by
      show (40 :: (txt a ++ sgn w :: (txt b ++ [41]))).length = _
      simp only [List.length_cons, List.length_append, List.length_nil]
      omega
    rw [l, e, Nat.pow_add]
    omega
  | .led w n a, ⟨h1, h2, h3, _⟩ => by
    have i1 := txt_len h1
    have := num4 (show 1 ≤ n by omega) h3
    have e : pdep (.led w n a) = 1 + pdep a := rfl
    have l : (txt (.led w n a)).length = (TL.numL n.toNat).length + (txt a).length + 3 := by
      show (40 :: (TL.numL n.toNat ++ sgn w :: (txt a ++ [41]))).length = _
      simp only [List.length_cons, List.length_append, List.length_nil]
      omega
    have q : 1 ≤ 2 ^ pdep a := Nat.one_le_two_pow
    rw [l, e, Nat.pow_add]
    omega
theorem txt_b {p : Pl} (h : PlN p) (hd : pdep p ≤ 12) : (txt p).length ≤ 32768 := by
  have := txt_len h
  have : 2 ^ pdep p ≤ 2 ^ 12 := Nat.pow_le_pow_right (by decide) hd
  omega
/-! the pieces -/
def dg (c : Nat) : Bool := decide (c ∈ ("0123456789" : Str).cps.toList)
def fg (c : Nat) : Bool := decide (c ∈ (("ps" : Str) ++ ("0123456789" : Str)).cps.toList)
theorem dg_iff (c : Nat) : dg c = true ↔ 48 ≤ c ∧ c ≤ 57 := by
  unfold dg
  rw [decide_eq_true_eq, show ("0123456789" : Str).cps.toList = [48, 49, 50, 51, 52, 53, 54, 55, 56, 57] from by decide +kernel]
  simp only [List.mem_cons, List.not_mem_nil, or_false]
  omega
theorem fg_iff (c : Nat) : fg c = true ↔ c = 112 ∨ c = 115 ∨ (48 ≤ c ∧ c ≤ 57) := by
  unfold fg
  rw [decide_eq_true_eq, show (("ps" : Str) ++ ("0123456789" : Str)).cps.toList = [112, 115, 48, 49, 50, 51, 52, 53, 54, 55, 56, 57] from by decide +kernel]
  simp only [List.mem_cons, List.not_mem_nil, or_false]
  omega
def pcs : Nat → List Nat → List (List Nat)
  | 0, _ => []
  | _, [] => []
  | n + 1, c :: r => if fg c = true then (c :: r.takeWhile dg) :: pcs n (r.dropWhile dg) else [c] :: pcs n r
theorem pcs_fuel : ∀ (n m : Nat) (l : List Nat), l.length ≤ n → l.length ≤ m → pcs n l = pcs m l
  | 0, 0, _, _, _ => rfl
  | 0, m + 1, [], _, _ => rfl
  | 0, m + 1, c :: r, h, _ => by simp at h
  | n + 1, 0, [], _, _ => rfl
  | n + 1, 0, c :: r, _, h => by simp at h
  | n + 1, m + 1, [], _, _ => rfl
  | n + 1, m + 1, c :: r, h1, h2 => by
    rw [List.length_cons] at h1 h2
    have e1 : (r.dropWhile dg).length ≤ r.length := (List.dropWhile_sublist dg).length_le
    show (if fg c = true then _ else _) = (if fg c = true then _ else _)
    rw [pcs_fuel n m (r.dropWhile dg) (by omega) (by omega), pcs_fuel n m r (by omega) (by omega)]
/-- the pieces of a text -/
def pcL (l : List Nat) : List (List Nat) := pcs l.length l
theorem pcL_nil : pcL [] = [] := rfl
theorem pcL_fg {c : Nat} {r : List Nat} (h : fg c = true) : pcL (c :: r) = (c :: r.takeWhile dg) :: pcL (r.dropWhile dg) := by
  have e1 : (r.dropWhile dg).length ≤ r.length := (List.dropWhile_sublist dg).length_le
  show (if fg c = true then _ else _) = _
  rw [if_pos h, pcs_fuel r.length (r.dropWhile dg).length _ e1 (Nat.le_refl _)]
  rfl
theorem pcL_one {c : Nat} {r : List Nat} (h : fg c = false) : pcL (c :: r) = [c] :: pcL r := by
  show (if fg c = true then _ else _) = _
  rw [if_neg (by rw [h]; exact Bool.false_ne_true)]
  rfl
/-- what stands behind a number doesn't go on with it -/
def Stp (r : List Nat) : Prop := ∀ c, r.head? = some c → dg c = false
theorem tw_app {a r : List Nat} (ha : ∀ c ∈ a, dg c = true) (hr : Stp r) : (a ++ r).takeWhile dg = a ∧ (a ++ r).dropWhile dg = r := by
  induction a with
  | nil =>
    cases r with
    | nil => exact ⟨rfl, rfl⟩
    | cons c t =>
      have := hr c rfl
      rw [List.nil_append, List.takeWhile_cons, List.dropWhile_cons, if_neg (by rw [this]; exact Bool.false_ne_true), if_neg (by rw [this]; exact Bool.false_ne_true)]
      exact ⟨rfl, rfl⟩
  | cons c t ih =>
    have hc := ha c List.mem_cons_self
    obtain ⟨i1, i2⟩ := ih fun x hx => ha x (List.mem_cons_of_mem _ hx)
    rw [List.cons_append, List.takeWhile_cons, List.dropWhile_cons, if_pos hc, if_pos hc, i1, i2]
    exact ⟨rfl, rfl⟩
theorem num_dg (n : Nat) : ∀ c ∈ TL.numL n, dg c = true := fun c hc => (dg_iff c).mpr (TL.numL_digits n c hc)
def tks' : Pl → List (List Nat)
  | .leaf w n => [sgn w :: TL.numL n.toNat]
  | .two w a b => [40] :: (tks' a ++ [sgn w] :: (tks' b ++ [[41]]))
  | .led w n a => [40] :: TL.numL n.toNat :: [sgn w] :: (tks' a ++ [[41]])
theorem stp_cons {c : Nat} {r : List Nat} (h : dg c = false) : Stp (c :: r) := fun x hx => by
  cases hx
  exact h
theorem sgn_two {w : Str} (h : w = "split" ∨ w = "parts") : sgn w = 42 ∨ sgn w = 46 := by
  rcases h with rfl | rfl
  · exact .inl (by decide +kernel)
  · exact .inr (by decide +kernel)
theorem sgn_led {w : Str} (h : w = "powers" ∨ w = "stretch") : sgn w = 94 ∨ sgn w = 126 := by
  rcases h with rfl | rfl
  · exact .inl (by decide +kernel)
  · exact .inr (by decide +kernel)
theorem sgn_leaf {w : Str} (h : w = "plain" ∨ w = "short") : sgn w = 112 ∨ sgn w = 115 := by
  rcases h with rfl | rfl
  · exact .inl (by decide +kernel)
  · exact .inr (by decide +kernel)
theorem dgF {c : Nat} (h : c < 48 ∨ 57 < c) : dg c = false := by
  cases e : dg c with
  | false => rfl
  | true => have := (dg_iff c).mp e; omega
theorem fgF {c : Nat} (h : c < 48 ∨ 57 < c) (h1 : c ≠ 112) (h2 : c ≠ 115) : fg c = false := by
  cases e : fg c with
  | false => rfl
  | true => have := (fg_iff c).mp e; omega
theorem fgT {c : Nat} (h : c = 112 ∨ c = 115 ∨ (48 ≤ c ∧ c ≤ 57)) : fg c = true := (fg_iff c).mpr h
theorem pcL_pl : ∀ {p : Pl}, Wds p → ∀ {r : List Nat}, Stp r → pcL (txt p ++ r) = tks' p ++ pcL r
  | .leaf w n, hw, r, hr => by
    have hs := sgn_leaf hw
    obtain ⟨t1, t2⟩ := tw_app (num_dg n.toNat) hr
    show pcL (sgn w :: (TL.numL n.toNat ++ r)) = _
    rw [pcL_fg (fgT (by omega)), t1, t2]
    rfl
  | .two w a b, ⟨hw, ha, hb⟩, r, hr => by
    have hs := sgn_two hw
    have e : txt (.two w a b) ++ r = 40 :: (txt a ++ (sgn w :: (txt b ++ (41 :: r)))) := by
      show (40 :: (txt a ++ sgn w :: (txt b ++ [41]))) ++ r = _
      simp only [List.cons_append, List.append_assoc, List.nil_append]
    rw [e, pcL_one (fgF (by omega) (by omega) (by omega)), pcL_pl ha (stp_cons (dgF (by omega))), pcL_one (fgF (by omega) (by omega) (by omega)), pcL_pl hb (stp_cons (dgF (by omega))), pcL_one (fgF (by omega) (by omega) (by omega))]
    show [40] :: (tks' a ++ [sgn w] :: (tks' b ++ [41] :: pcL r)) = ([40] :: (tks' a ++ [sgn w] :: (tks' b ++ [[41]]))) ++ pcL r
    simp only [List.cons_append, List.append_assoc, List.nil_append]
  | .led w n a, ⟨hw, ha⟩, r, hr => by
    have hs := sgn_led hw
    have e : txt (.led w n a) ++ r = 40 :: (TL.numL n.toNat ++ (sgn w :: (txt a ++ (41 :: r)))) := by
      show (40 :: (TL.numL n.toNat ++ sgn w :: (txt a ++ [41]))) ++ r = _
      simp only [List.cons_append, List.append_assoc, List.nil_append]
    rw [e, pcL_one (fgF (by omega) (by omega) (by omega))]
    obtain ⟨c, t, hct⟩ : ∃ c t, TL.numL n.toNat = c :: t := by
      cases hz : TL.numL n.toNat with
      | nil => exact absurd hz (TL.numL_ne _)
      | cons c t => exact ⟨c, t, rfl⟩
    have hd := num_dg n.toNat
    rw [hct] at hd
    have hc := (dg_iff c).mp (hd c List.mem_cons_self)
    obtain ⟨t1, t2⟩ := tw_app (a := t) (r := sgn w :: (txt a ++ (41 :: r))) (fun x hx => hd x (List.mem_cons_of_mem _ hx)) (stp_cons (dgF (by omega)))
    rw [hct, List.cons_append, pcL_fg (fgT (.inr (.inr hc))), t1, t2, pcL_one (fgF (by omega) (by omega) (by omega)), pcL_pl ha (stp_cons (dgF (by omega))), pcL_one (fgF (by omega) (by omega) (by omega))]
    show [40] :: (c :: t) :: [sgn w] :: (tks' a ++ [41] :: pcL r) = ([40] :: TL.numL n.toNat :: [sgn w] :: (tks' a ++ [[41]])) ++ pcL r
    rw [hct]
    simp only [List.cons_append, List.append_assoc, List.nil_append]
/-! the parts, as they are put together -/
inductive Sk
  | sg (c : Nat)
  | num (n : Int)
  | pl (p : Pl)
inductive Run : List Sk → List (List Nat) → List Sk → Prop
  | done {s : List Sk} : Run s [] s
  | lf {s f : List Sk} {r : List (List Nat)} {w : Str} {n : Int} : (w = "plain" ∨ w = "short") → PlN (.leaf w n) → Run (s ++ [.pl (.leaf w n)]) r f → Run s ((sgn w :: TL.numL n.toNat) :: r) f
  | nm {s f : List Sk} {r : List (List Nat)} {n : Int} : 1 ≤ n → n ≤ 1000 → Run (s ++ [.num n]) r f → Run s (TL.numL n.toNat :: r) f
  | sg {s f : List Sk} {r : List (List Nat)} {c : Nat} : (c = 40 ∨ c = 42 ∨ c = 46 ∨ c = 94 ∨ c = 126) → Run (s ++ [.sg c]) r f → Run s ([c] :: r) f
  | two {s f : List Sk} {r : List (List Nat)} {w : Str} {a b : Pl} : (w = "split" ∨ w = "parts") → PlN (.two w a b) → pdep (.two w a b) ≤ 12 → Run (s ++ [.pl (.two w a b)]) r f → Run (s ++ [.sg 40, .pl a, .sg (sgn w), .pl b]) ([41] :: r) f
  | led {s f : List Sk} {r : List (List Nat)} {w : Str} {n : Int} {a : Pl} : (w = "powers" ∨ w = "stretch") → PlN (.led w n a) → pdep (.led w n a) ≤ 12 → Run (s ++ [.pl (.led w n a)]) r f → Run (s ++ [.sg 40, .num n, .sg (sgn w), .pl a]) ([41] :: r) f
theorem run_pl : ∀ {p : Pl}, Wds p → PlN p → pdep p ≤ 12 → ∀ {s f : List Sk} {r : List (List Nat)}, Run (s ++ [.pl p]) r f → Run s (tks' p ++ r) f
  | .leaf w n, hw, hn, _, s, f, r, h => .lf hw hn h
  | .two w a b, ⟨hw, ha, hb⟩, hn, hd, s, f, r, h => by
    have hd' : 1 + max (pdep a) (pdep b) ≤ 12 := hd
    have hs := sgn_two hw
    have e : tks' (.two w a b) ++ r = [40] :: (tks' a ++ ([sgn w] :: (tks' b ++ ([41] :: r)))) := by
      show ([40] :: (tks' a ++ [sgn w] :: (tks' b ++ [[41]]))) ++ r = _
      simp only [List.cons_append, List.append_assoc, List.nil_append]
    rw [e]
    refine .sg (.inl rfl) (run_pl ha hn.1 (by omega) (.sg (by omega) (run_pl hb hn.2.1 (by omega) ?_)))
    have es : s ++ [Sk.sg 40] ++ [Sk.pl a] ++ [Sk.sg (sgn w)] ++ [Sk.pl b] = s ++ [.sg 40, .pl a, .sg (sgn w), .pl b] := by simp only [List.append_assoc, List.cons_append, List.nil_append]
    rw [es]
    exact .two hw hn hd h
  | .led w n a, ⟨hw, ha⟩, hn, hd, s, f, r, h => by
    have hd' : 1 + pdep a ≤ 12 := hd
    have hs := sgn_led hw
    have e : tks' (.led w n a) ++ r = [40] :: TL.numL n.toNat :: [sgn w] :: (tks' a ++ ([41] :: r)) := by
      show ([40] :: TL.numL n.toNat :: [sgn w] :: (tks' a ++ [[41]])) ++ r = _
      simp only [List.cons_append, List.append_assoc, List.nil_append]
    rw [e]
    have hn0 := hn
    obtain ⟨n1, n2, n3, _⟩ := hn
    refine .sg (.inl rfl) (.nm (by omega) n3 (.sg (by omega) (run_pl ha n1 (by omega) ?_)))
    have es : s ++ [Sk.sg 40] ++ [Sk.num n] ++ [Sk.sg (sgn w)] ++ [Sk.pl a] = s ++ [.sg 40, .num n, .sg (sgn w), .pl a] := by simp only [List.append_assoc, List.cons_append, List.nil_append]
    rw [es]
    exact .led hw hn0 hd h
structure Sg (K : PySem.W.Frag) (w : World) (mg : Str → Option Value) (aS : Addr) : Prop where
  m : mg "SIGNS" = some (.ref aS)
  ks : KKs K aS ["plain", "short", "split", "parts", "powers", "stretch"]
  k1 : KDct K w aS "plain" (.str "p")
  k2 : KDct K w aS "short" (.str "s")
  k3 : KDct K w aS "split" (.str "*")
  k4 : KDct K w aS "parts" (.str ".")
  k5 : KDct K w aS "powers" (.str "^")
  k6 : KDct K w aS "stretch" (.str "~")
theorem sg_str {w : Str} (h : w = "plain" ∨ w = "short" ∨ w = "split" ∨ w = "parts" ∨ w = "powers" ∨ w = "stretch") : tS [sgn w] = (if w = "plain" then "p" else if w = "short" then "s" else if w = "split" then "*" else if w = "parts" then "." else if w = "powers" then "^" else "~" : Str) := by
  rcases h with rfl | rfl | rfl | rfl | rfl | rfl <;> decide +kernel
theorem Sg.at {K : PySem.W.Frag} {w : World} {mg : Str → Option Value} {aS : Addr} (S : Sg K w mg aS) {x : Str} (h : x = "plain" ∨ x = "short" ∨ x = "split" ∨ x = "parts" ∨ x = "powers" ∨ x = "stretch") : KDct K w aS x (.str (tS [sgn x])) := by
  rcases h with rfl | rfl | rfl | rfl | rfl | rfl
  · rw [show tS [sgn "plain"] = ("p" : Str) from by decide +kernel]; exact S.k1
  · rw [show tS [sgn "short"] = ("s" : Str) from by decide +kernel]; exact S.k2
  · rw [show tS [sgn "split"] = ("*" : Str) from by decide +kernel]; exact S.k3
  · rw [show tS [sgn "parts"] = ("." : Str) from by decide +kernel]; exact S.k4
  · rw [show tS [sgn "powers"] = ("^" : Str) from by decide +kernel]; exact S.k5
  · rw [show tS [sgn "stretch"] = ("~" : Str) from by decide +kernel]; exact S.k6
theorem w_leaf {x : Str} (h : x = "plain" ∨ x = "short") : x = "plain" ∨ x = "short" ∨ x = "split" ∨ x = "parts" ∨ x = "powers" ∨ x = "stretch" := h.elim .inl fun h => .inr (.inl h)
theorem w_two {x : Str} (h : x = "split" ∨ x = "parts") : x = "plain" ∨ x = "short" ∨ x = "split" ∨ x = "parts" ∨ x = "powers" ∨ x = "stretch" := h.elim (fun h => .inr (.inr (.inl h))) fun h => .inr (.inr (.inr (.inl h)))
theorem w_led {x : Str} (h : x = "powers" ∨ x = "stretch") : x = "plain" ∨ x = "short" ∨ x = "split" ∨ x = "parts" ∨ x = "powers" ∨ x = "stretch" := h.elim (fun h => .inr (.inr (.inr (.inr (.inl h))))) fun h => .inr (.inr (.inr (.inr (.inr h))))
theorem s_op : ("(" : Str) = tS [40] := by decide +kernel
theorem s_cl : (")" : Str) = tS [41] := by decide +kernel
theorem num_T {n : Int} (h : 1 ≤ n) : (Str.ofString (toString n)) = tS (TL.numL n.toNat) := by
  obtain ⟨k, rfl⟩ := Int.eq_ofNat_of_zero_le (show 0 ≤ n by omega)
  rw [tS_num]
  rfl
theorem log9 {n : Int} (h1 : 1 ≤ n) (h2 : n ≤ 1000) : n.natAbs.log2 < 1920 := by
  have : n.natAbs < 2 ^ 1920 := Nat.lt_of_le_of_lt (show n.natAbs ≤ 2 ^ 10 by omega) (Nat.pow_lt_pow_right (by decide) (by decide))
  by_cases c : n.natAbs = 0
  · rw [c]; decide
  · exact (Nat.log2_lt c).mpr this
abbrev s_plan_text : Stmt := top 29
abbrev N_plan_text : List Str := ["plan", "sign", "first"]
abbrev P_plan_text : List Str := ["plan"]
theorem sc_plan_text : FnScope N_plan_text P_plan_text (defScope s_plan_text) := ⟨rfl, rfl, rfl, by decide +kernel, rfl, by decide +kernel, by decide +kernel⟩
def spPtx (K : PySem.W.Frag) (d : Nat) : Sp := fun vs H Q _ => ∃ (v : V) (p : Pl), vs = [v] ∧ PlAt K H v p ∧ PlN p ∧ pdep p ≤ d ∧ ∀ H', Same H H' → Q (.str (tS (txt p))) H'
section
variable {P : Program} {w : World} {K : PySem.W.Frag} {mg : Str → Option Value} {base : Heap}
theorem ptx_step {f aS : Addr} {fd : FuncData} {n : Nat} {spI : Sp} (D_plan_text : Df K mg "plan_text" s_plan_text P_plan_text f fd) (T : Blt mg) (S : Sg K w mg aS) (n12 : n ≤ 12)
    (G_plan_text : FnOk P w K mg base CX0 (n + 1) f fd P_plan_text spI) (hG : ∀ m, n = m + 1 → spI = spPtx K m) : FnOk P w K mg base CX0 (n + 2) f fd P_plan_text (spPtx K n) := by
  have M_SIGNS := S.m
  have nd := sc_plan_text.nd
  refine D_plan_text.F.ok sc_plan_text (fun vs H Q E h => ?_) (fun cdv A outer s H vs Q E hr h => ?_)
  · obtain ⟨v, p, rfl, _⟩ := h
    rfl
  · obtain ⟨v, p, rfl, hp, hn, hd, q⟩ := h
    refine ⟨_, (pss_cons (ps_set (i := 1) nd rfl (Or.inl rfl) (pe_ix ix_kdict (pe_glob (v := .ref _) (by rfl) M_SIGNS rfl) (pe_ix (r := rIxT K) ix_tup (pv 0) (pe_int) (fun _ _ => rfl)) (fun _ _ => rfl)))
      (pss_cons (ps_if (pt_cmpR op_eq (pe_callB (r := rLenQ K) call_len_seq (by rfl) T.b_len (by decide +kernel) (pa_cons (pv 0) pa_nil)) (pe_int) (nomark _)) (pss_one (ps_ret (pe_joined (PJ.cons (pe_fmt (pv 1)) (PJ.cons (pe_fmt (pe_ix (r := rIxT K) ix_tup (pv 0) (pe_int) (fun _ _ => rfl))) PJ.nil))))) pss_nil)
      (pss_cons (ps_set (i := 2) nd rfl (Or.inl rfl) (pe_ifExp (pt_val (pe_callB (r := rIsi K) call_isi (by rfl) T.b_isinstance (by decide +kernel) (pa_cons (pe_ix (r := rIxT K) ix_tup (pv 0) (pe_int) (fun _ _ => rfl)) (pa_cons (pe_bltn (v := .ty "tuple") (by rfl) T.b_tuple (by decide +kernel) rfl) pa_nil)))) (pe_call G_plan_text (hr.mono (by omega)) (by rfl) D_plan_text.g D_plan_text.F.kp D_plan_text.b .nil pass0 (pa_cons (pe_ix (r := rIxT K) ix_tup (pv 0) (pe_int) (fun _ _ => rfl)) pa_nil)) (pe_callTy call_str_int (by rfl) T.b_str (by decide +kernel) (pa_cons (pe_ix (r := rIxT K) ix_tup (pv 0) (pe_int) (fun _ _ => rfl)) pa_nil))))
      (pss_one (ps_ret (pe_joined (PJ.cons (pe_str) (PJ.cons (pe_fmt (pv 2)) (PJ.cons (pe_fmt (pv 1)) (PJ.cons (pe_fmt (pe_call G_plan_text (hr.mono (by omega)) (by rfl) D_plan_text.g D_plan_text.F.kp D_plan_text.b .nil pass0 (pa_cons (pe_ix (r := rIxT K) ix_tup (pv 0) (pe_int) (fun _ _ => rfl)) pa_nil))) (PJ.cons (pe_str) PJ.nil))))))))))), ?_⟩
    have hb := txt_b hn (by omega)
    cases hp with
    | leaf hw hs =>
      rename_i a wd m
      have at0 : atI [V.str wd, V.int m] 0 = some (.str wd) := rfl
      have at1 : atI [V.str wd, V.int m] 1 = some (.int m) := rfl
      have hk := S.at (w_leaf hw)
      obtain ⟨m1, m2, _⟩ := hn
      have e1 : Str.empty ++ tS [sgn wd] ++ Str.ofString (toString m) = tS (txt (.leaf wd m)) := by
        rw [num_T m1, tS_emp, tS_app, tS_app]
        rfl
      walk_at "ev"
      refine ⟨log9 m1 m2, _, rfl, ?_, ?_⟩
      · rw [e1, tS_len]
        exact szl (by omega)
      · have z := q H (Same.refl _)
        rw [← e1] at z
        exact z
    | two hw hs hx hy =>
      rename_i a wd x y p1 p2
      cases n with
      | zero =>
        have : 1 + max (pdep p1) (pdep p2) ≤ 0 := hd
        omega
      | succ n =>
      have hS := hG n rfl
      subst hS
      have hd' : 1 + max (pdep p1) (pdep p2) ≤ n + 1 := hd
      obtain ⟨n1, n2, _⟩ := hn
      have hdx : pdep p1 ≤ n := by omega
      have hdy : pdep p2 ≤ n := by omega
      have at0 : atI [V.str wd, x, y] 0 = some (.str wd) := rfl
      have at1 : atI [V.str wd, x, y] 1 = some x := rfl
      have at2 : atI [V.str wd, x, y] 2 = some y := rfl
      have hk := S.at (w_two hw)
      have kd := hx.kd
      have ty := kd.ty
      obtain ⟨kk1, kk2, kk3, kk4, kk5⟩ := kd.kit
      clear kd
      have bl : (txt (.two wd p1 p2)).length = (txt p1).length + (txt p2).length + 3 := by
        show (40 :: (txt p1 ++ sgn wd :: (txt p2 ++ [41]))).length = _
        simp only [List.length_cons, List.length_append, List.length_nil]
        omega
      walk_at "ev"
      intro H2 sm2
      have hs2 := same_t sm2 hs
      have hy2 := hy.same sm2
      have l1 : (tS (txt p1)).length ≤ sizeLine := by rw [tS_len]; exact szl (by omega)
      have l2 : (tS (txt p2)).length ≤ sizeLine := by rw [tS_len]; exact szl (by omega)
      have l3 : (tS [sgn wd]).length ≤ sizeLine := by rw [tS_len]; exact szl (by show 1 ≤ 60000; decide)
      have eA : Str.empty ++ Str.ofString "(" ++ tS (txt p1) = tS (40 :: txt p1) := by
        rw [show Str.ofString "(" = tS [40] from s_op, tS_emp, tS_app, tS_app]
        rfl
      have eB : Str.empty ++ Str.ofString "(" ++ tS (txt p1) ++ tS [sgn wd] = tS (40 :: (txt p1 ++ [sgn wd])) := by
        rw [eA, tS_app]
        rfl
      have eC : Str.empty ++ Str.ofString "(" ++ tS (txt p1) ++ tS [sgn wd] ++ tS (txt p2) = tS (40 :: (txt p1 ++ [sgn wd] ++ txt p2)) := by
        rw [eB, tS_app]
        rfl
      have eD : Str.empty ++ Str.ofString "(" ++ tS (txt p1) ++ tS [sgn wd] ++ tS (txt p2) ++ Str.ofString ")" = tS (txt (.two wd p1 p2)) := by
        rw [eC, show Str.ofString ")" = tS [41] from s_cl, tS_app]
        show tS (40 :: (txt p1 ++ [sgn wd] ++ txt p2) ++ [41]) = tS (40 :: (txt p1 ++ sgn wd :: (txt p2 ++ [41])))
        simp only [List.append_assoc, List.cons_append, List.nil_append]
      have hA : (Str.empty ++ Str.ofString "(" ++ tS (txt p1)).length ≤ sizeLine := by rw [eA, tS_len, List.length_cons]; exact szl (by omega)
      have hB : (Str.empty ++ Str.ofString "(" ++ tS (txt p1) ++ tS [sgn wd]).length ≤ sizeLine := by rw [eB, tS_len]; simp only [List.length_cons, List.length_append, List.length_nil]; exact szl (by omega)
      have hC : (Str.empty ++ Str.ofString "(" ++ tS (txt p1) ++ tS [sgn wd] ++ tS (txt p2)).length ≤ sizeLine := by rw [eC, tS_len]; simp only [List.length_cons, List.length_append, List.length_nil]; exact szl (by omega)
      have hD : (Str.empty ++ Str.ofString "(" ++ tS (txt p1) ++ tS [sgn wd] ++ tS (txt p2) ++ Str.ofString ")").length ≤ sizeLine := by rw [eD, tS_len]; exact szl (by omega)
      clear eA eB eC
      walk_at "ev"
      intro H3 sm3
      walk_at "ev"
      have z := q H3 (sm2.trans sm3)
      rw [← eD] at z
      exact z
    | led hw hs hx =>
      rename_i a wd m x p1
      cases n with
      | zero =>
        have : 1 + pdep p1 ≤ 0 := hd
        omega
      | succ n =>
      have hS := hG n rfl
      subst hS
      have hd' : 1 + pdep p1 ≤ n + 1 := hd
      obtain ⟨n1, m2, m1000, _⟩ := hn
      have m1 : 1 ≤ m := by omega
      have hdx : pdep p1 ≤ n := by omega
      have at0 : atI [V.str wd, V.int m, x] 0 = some (.str wd) := rfl
      have at1 : atI [V.str wd, V.int m, x] 1 = some (.int m) := rfl
      have at2 : atI [V.str wd, V.int m, x] 2 = some x := rfl
      have hk := S.at (w_led hw)
      have kd : Kd K H (.int m) "int" := .int m
      have ty := kd.ty
      obtain ⟨kk1, kk2, kk3, kk4, kk5⟩ := kd.kit
      clear kd
      have lg := log9 m1 m1000
      have bl : (txt (.led wd m p1)).length = (TL.numL m.toNat).length + (txt p1).length + 3 := by
        show (40 :: (TL.numL m.toNat ++ sgn wd :: (txt p1 ++ [41]))).length = _
        simp only [List.length_cons, List.length_append, List.length_nil]
        omega
      have l1 : (Str.ofString (toString m)).length ≤ sizeLine := by rw [num_T m1, tS_len]; exact szl (by omega)
      have l2 : (tS (txt p1)).length ≤ sizeLine := by rw [tS_len]; exact szl (by omega)
      have l3 : (tS [sgn wd]).length ≤ sizeLine := by rw [tS_len]; exact szl (by show 1 ≤ 60000; decide)
      have eA : Str.empty ++ Str.ofString "(" ++ Str.ofString (toString m) = tS (40 :: TL.numL m.toNat) := by
        rw [num_T m1, show Str.ofString "(" = tS [40] from s_op, tS_emp, tS_app, tS_app]
        rfl
      have eB : Str.empty ++ Str.ofString "(" ++ Str.ofString (toString m) ++ tS [sgn wd] = tS (40 :: (TL.numL m.toNat ++ [sgn wd])) := by
        rw [eA, tS_app]
        rfl
      have eC : Str.empty ++ Str.ofString "(" ++ Str.ofString (toString m) ++ tS [sgn wd] ++ tS (txt p1) = tS (40 :: (TL.numL m.toNat ++ [sgn wd] ++ txt p1)) := by
        rw [eB, tS_app]
        rfl
      have eD : Str.empty ++ Str.ofString "(" ++ Str.ofString (toString m) ++ tS [sgn wd] ++ tS (txt p1) ++ Str.ofString ")" = tS (txt (.led wd m p1)) := by
        rw [eC, show Str.ofString ")" = tS [41] from s_cl, tS_app]
        show tS (40 :: (TL.numL m.toNat ++ [sgn wd] ++ txt p1) ++ [41]) = tS (40 :: (TL.numL m.toNat ++ sgn wd :: (txt p1 ++ [41])))
        simp only [List.append_assoc, List.cons_append, List.nil_append]
      have hA : (Str.empty ++ Str.ofString "(" ++ Str.ofString (toString m)).length ≤ sizeLine := by rw [eA, tS_len, List.length_cons]; exact szl (by omega)
      have hB : (Str.empty ++ Str.ofString "(" ++ Str.ofString (toString m) ++ tS [sgn wd]).length ≤ sizeLine := by rw [eB, tS_len]; simp only [List.length_cons, List.length_append, List.length_nil]; exact szl (by omega)
      have hC : (Str.empty ++ Str.ofString "(" ++ Str.ofString (toString m) ++ tS [sgn wd] ++ tS (txt p1)).length ≤ sizeLine := by rw [eC, tS_len]; simp only [List.length_cons, List.length_append, List.length_nil]; exact szl (by omega)
      have hD : (Str.empty ++ Str.ofString "(" ++ Str.ofString (toString m) ++ tS [sgn wd] ++ tS (txt p1) ++ Str.ofString ")").length ≤ sizeLine := by rw [eD, tS_len]; exact szl (by omega)
      clear eA eB eC
      walk_at "ev"
      intro H3 sm3
      walk_at "ev"
      have z := q H3 sm3
      rw [← eD] at z
      exact z
theorem ok_ptx {f aS : Addr} {fd : FuncData} (D_plan_text : Df K mg "plan_text" s_plan_text P_plan_text f fd) (T : Blt mg) (S : Sg K w mg aS) : ∀ n : Nat, n ≤ 12 → FnOk P w K mg base CX0 (n + 2) f fd P_plan_text (spPtx K n)
  | 0, h => ptx_step (spI := fun _ _ _ _ => False) D_plan_text T S h ⟨fun _ _ _ _ h => h.elim, fun _ _ _ _ _ _ _ _ _ _ _ _ _ h => h.elim⟩ (fun m h => by omega)
  | n + 1, h => ptx_step D_plan_text T S h (ok_ptx D_plan_text T S n (by omega)) (fun m h => by cases h; rfl)
end
theorem atL {α : Type} {xs : List α} {j : Nat} {v : α} {i : Int} (e : i = (j : Int)) (h : xs[j]? = some v) : atI xs i = some v := by
  subst e
  have hj : j < xs.length := (List.getElem?_eq_some_iff.mp h).1
  unfold atI ixN
  simp [hj]
  exact (List.getElem?_eq_some_iff.mp h).2
theorem cutS_nat {l : List Nat} {a b : Nat} {i j : Int} (ei : i = (a : Int)) (ej : j = (b : Int)) (ha : a ≤ l.length) (hb : b ≤ l.length) : cutS (tS l) (some i) (some j) = tS ((l.drop a).take (b - a)) := by
  subst ei ej
  unfold cutS
  rw [tS_len, HT.sIx_nat, HT.sIx_nat, Nat.min_eq_left ha, Nat.min_eq_left hb]
  rfl
theorem cutS_from {l : List Nat} {a : Nat} {i : Int} (ei : i = (a : Int)) (ha : a ≤ l.length) : cutS (tS l) (some i) none = tS (l.drop a) := by
  subst ei
  unfold cutS
  rw [tS_len, HT.sIx_nat, Nat.min_eq_left ha]
  show tS ((l.drop a).take (l.length - a)) = _
  rw [List.take_of_length_le (by rw [List.length_drop]; omega)]
abbrev s_word_of : Stmt := top 30
abbrev N_word_of : List Str := ["sign", "word"]
abbrev P_word_of : List Str := ["sign"]
theorem sc_word_of : FnScope N_word_of P_word_of (defScope s_word_of) := ⟨rfl, rfl, rfl, by decide +kernel, rfl, by decide +kernel, by decide +kernel⟩
def spWof : Sp := fun vs H Q _ => ∃ (x : Str), vs = [.str (tS [sgn x])] ∧ (x = "plain" ∨ x = "short" ∨ x = "split" ∨ x = "parts" ∨ x = "powers" ∨ x = "stretch") ∧ Q (.str x) H
theorem sgn_inj {x y : Str} (hx : x = "plain" ∨ x = "short" ∨ x = "split" ∨ x = "parts" ∨ x = "powers" ∨ x = "stretch") (hy : y = "plain" ∨ y = "short" ∨ y = "split" ∨ y = "parts" ∨ y = "powers" ∨ y = "stretch") (h : sgn x = sgn y) : x = y := by
  have k1 : sgn "plain" = 112 := by decide +kernel
  have k2 : sgn "short" = 115 := by decide +kernel
  have k3 : sgn "split" = 42 := by decide +kernel
  have k4 : sgn "parts" = 46 := by decide +kernel
  have k5 : sgn "powers" = 94 := by decide +kernel
  have k6 : sgn "stretch" = 126 := by decide +kernel
  rcases hx with rfl | rfl | rfl | rfl | rfl | rfl <;> rcases hy with rfl | rfl | rfl | rfl | rfl | rfl <;> first | rfl | (exfalso; simp only [k1, k2, k3, k4, k5, k6] at h; omega)
def six : List Str := ["plain", "short", "split", "parts", "powers", "stretch"]
theorem six_mem {x : Str} : x ∈ six ↔ (x = "plain" ∨ x = "short" ∨ x = "split" ∨ x = "parts" ∨ x = "powers" ∨ x = "stretch") := by
  unfold six
  simp only [List.mem_cons, List.not_mem_nil, or_false]
section
variable {P : Program} {w : World} {K : PySem.W.Frag} {mg : Str → Option Value} {base : Heap}
theorem ok_wof {f aS : Addr} {fd : FuncData} {k : Nat} (F : Fun K "word_of" "word_of" s_word_of f fd) (T : Blt mg) (S : Sg K w mg aS) : FnOk P w K mg base CX0 (k + 1) f fd P_word_of spWof := by
  have M_SIGNS := S.m
  have nd := sc_word_of.nd
  refine F.ok sc_word_of (fun vs H Q E h => ?_) (fun cdv A outer s H vs Q E hr h => ?_)
  · obtain ⟨x, rfl, _⟩ := h
    rfl
  · obtain ⟨x, rfl, hx, q⟩ := h
    refine ⟨_, (pss_cons (ps_for PassesOwn.never rfl (pi_kc (pe_glob (v := .ref _) (by rfl) M_SIGNS rfl)) (pg_name (i := 1) nd rfl (Or.inl rfl))
      (pss_one (ps_if (pt_cmpR op_eq (pe_ix ix_kdict (pe_glob (v := .ref _) (by rfl) M_SIGNS rfl) (pv 1) (fun _ _ => rfl)) (pv 0) (nomark _)) (pss_one (ps_ret (pv 1))) pss_nil)))
      (pss_one (ps_ret (pe_non)))), ?_⟩
    have hks : KKs K aS six := S.ks
    walk_at "ev"
    refine for_kc hks (fun i σ H' => Hold (∃ s1, σ = [some (.str (tS [sgn x])), s1] ∧ H' = H ∧ x ∈ six.drop i)) (.mk ⟨none, rfl, rfl, six_mem.mpr hx⟩) ?_ ?_
    · intro i y σ H' hy hP
      obtain ⟨s1, rfl, rfl, hm⟩ := hP.un
      have hy6 := six_mem.mp (List.mem_of_getElem? hy)
      have hk := S.at hy6
      walk_at "ev"
      refine ite2 (fun e => ?_) (fun e => ?_)
      · have e1 : y = x := sgn_inj hy6 hx (List.cons.inj (tS_inj (V.str.inj (of_decide_eq_true e)))).1
        subst e1
        walk_at "ev"
        exact q
      · refine .mk ⟨_, rfl, rfl, ?_⟩
        have e2 : y ≠ x := fun z => e (decide_eq_true (by rw [z]))
        have hd : six.drop i = y :: six.drop (i + 1) := (List.drop_eq_getElem_cons (List.getElem?_eq_some_iff.mp hy).1).trans (by rw [(List.getElem?_eq_some_iff.mp hy).2])
        rw [hd] at hm
        rcases List.mem_cons.mp hm with z | z
        · exact absurd z.symm e2
        · exact z
    · intro σ H' hP
      obtain ⟨s1, rfl, rfl, hm⟩ := hP.un
      exact absurd hm (by rw [List.drop_of_length_le (Nat.le_refl _)]; exact List.not_mem_nil)
end
abbrev s_pieces_of : Stmt := top 31
abbrev N_pieces_of : List Str := ["text", "pieces", "start", "end"]
abbrev P_pieces_of : List Str := ["text"]
theorem sc_pieces_of : FnScope N_pieces_of P_pieces_of (defScope s_pieces_of) := ⟨rfl, rfl, rfl, by decide +kernel, rfl, by decide +kernel, by decide +kernel⟩
def spPie (K : PySem.W.Frag) : Sp := fun vs H Q _ => ∃ (l : List Nat), vs = [.str (tS l)] ∧ l.length ≤ 50000 ∧ ∀ p H', H p = none → Same H H' → H' p = some (.lst ((pcL l).map fun a => V.str (tS a))) → Q (.ref p) H'
theorem pcL_len : ∀ (n : Nat) (l : List Nat), l.length ≤ n → (pcL l).length ≤ l.length
  | _, [], _ => Nat.le_refl _
  | 0, c :: r, h => by simp at h
  | n + 1, c :: r, h => by
    rw [List.length_cons] at h
    have e1 : (r.dropWhile dg).length ≤ r.length := (List.dropWhile_sublist dg).length_le
    cases hf : fg c with
    | true =>
      have := pcL_len n (r.dropWhile dg) (by omega)
      rw [pcL_fg hf, List.length_cons, List.length_cons]
      omega
    | false =>
      have := pcL_len n r (by omega)
      rw [pcL_one hf, List.length_cons, List.length_cons]
      omega
section
variable {P : Program} {w : World} {K : PySem.W.Frag} {mg : Str → Option Value} {base : Heap}
theorem ok_pie {f : Addr} {fd : FuncData} {k : Nat} {tk : Tok} (F : Fun K "pieces_of" "pieces_of" s_pieces_of f fd) (T : Blt mg) (M_FIGURES : mg "FIGURES" = some (.str "0123456789" tk)) : FnOk P w K mg base CX0 (k + 1) f fd P_pieces_of (spPie K) := by
  have nd := sc_pieces_of.nd
  refine F.ok sc_pieces_of (fun vs H Q E h => ?_) (fun cdv A outer s H vs Q E hr h => ?_)
  · obtain ⟨l, rfl, _⟩ := h
    rfl
  · obtain ⟨l, rfl, hl, q⟩ := h
    refine ⟨_, (pss_cons (ps_set (i := 1) nd rfl (Or.inl rfl) (pe_lst pa_nil))
      (pss_cons (ps_set (i := 2) nd rfl (Or.inl rfl) (pe_int))
      (pss_cons (ps_while PassesOwn.never (pt_cmpR op_lt (pv 2) (pe_callB call_len_str (by rfl) T.b_len (by decide +kernel) (pa_cons (pv 0) pa_nil)) (nomark _))
      (pss_cons (ps_set (i := 3) nd rfl (Or.inl rfl) (pe_op op_add (pv 2) (pe_int)))
      (pss_cons (ps_if (pt_cmpR op_in_sign (pe_ix ix_str (pv 0) (pv 2) (fun _ _ => rfl)) (pe_op op_add_str (pe_str) (pe_glob (v := .str "0123456789") (by rfl) M_FIGURES ⟨_, rfl⟩)) (by rfl)) (pss_one (ps_while PassesOwn.never (PW.pt (pw_and (pt_cmpR op_lt (pv 3) (pe_callB call_len_str (by rfl) T.b_len (by decide +kernel) (pa_cons (pv 0) pa_nil)) (nomark _)) (pw_and1 (pt_cmpR op_in_sign (pe_ix ix_str (pv 0) (pv 3) (fun _ _ => rfl)) (pe_glob (v := .str "0123456789") (by rfl) M_FIGURES ⟨_, rfl⟩) (by rfl)))))
      (pss_one (ps_aug (i := 3) nd rfl (Or.inl rfl) (pe_int) ip_add)))) pss_nil)
      (pss_cons (ps_expr (pe_bm PySem.F.plainAttrs_list PySem.F.slot_list_append PySem.F.type_list_append mt_append (pv 1) (pa_cons (pe_slice sl_str (pv 0) (po_some (pv 2)) (po_some (pv 3))) pa_nil)))
      (pss_one (ps_set (i := 2) nd rfl (Or.inl rfl) (pv 3)))))))
      (pss_one (ps_ret (pv 1)))))), ?_⟩
    have hlen := tS_len l
    have hsz : (tS l).length ≤ sizeLine := by rw [hlen]; exact szl (by omega)
    walk_at "ev"
    w_cond _1
    refine ⟨fun m σ H' => ∃ (st : Nat) (dn : List (List Nat)) (s3 : Option V), σ = [some (.str (tS l)), some (.ref l1), some (.int (st : Int)), s3] ∧ m = l.length - st ∧ st ≤ l.length ∧ Same H H' ∧ H' l1 = some (.lst (dn.map fun a => V.str (tS a))) ∧ dn ++ pcL (l.drop st) = pcL l, ⟨_, 0, [], none, rfl, rfl, Nat.zero_le _, sm1, hq1, rfl⟩, ?_⟩
    rintro m σ H' ⟨st, dn, s3, rfl, rfl, hst, sm', hp', hinv⟩
    have hdn : dn.length ≤ 50000 := by
      have := congrArg List.length hinv
      rw [List.length_append] at this
      have := pcL_len _ l (Nat.le_refl _)
      omega
    walk_at "ev"
    refine ite2 (fun e => ?_) (fun e => ?_)
    · have e1 : (st : Int) < ((tS l).length : Nat) := of_decide_eq_true e
      have hlt : st < l.length := by omega
      refine ⟨_, holdN, ?_⟩
      have hc : l[st]? = some l[st] := List.getElem?_eq_getElem hlt
      have hat : atI (tS l).cps.toList (st : Int) = some l[st] := atL rfl hc
      have hdr : l.drop st = l[st] :: l.drop (st + 1) := List.drop_eq_getElem_cons hlt
      generalize l[st] = c at *
      have hps : (Str.ofString "ps" : Str).length + (Str.ofString "0123456789" : Str).length ≤ sizeLine := by decide +kernel
      walk_at "ev"
      refine ite2 (fun e2 => ?_) (fun e2 => ?_)
      · have hf : fg c = true := e2
        rw [hdr, pcL_fg hf] at hinv
        refine ⟨fun m σ H2 => ∃ (en : Nat), σ = [some (.str (tS l)), some (.ref l1), some (.int (st : Int)), some (.int (en : Int))] ∧ m = l.length - en ∧ st + 1 ≤ en ∧ en ≤ l.length ∧ (∀ c ∈ (l.drop (st + 1)).take (en - (st + 1)), dg c = true) ∧ H2 = H', ⟨_, st + 1, rfl, rfl, Nat.le_refl _, hlt, (by rw [Nat.sub_self, List.take_zero]; intro c hc; cases hc), rfl⟩, ?_⟩
        rintro m σ H2 ⟨en, rfl, rfl, en1, en2, hdg, rfl⟩
        have fin : Stp (l.drop en) → ∀ H3, H3 = H2 → Hold (∃ m', m' < l.length - st ∧ ∃ (st' : Nat) (dn' : List (List Nat)) (s3' : Option V), [some (V.str (tS l)), some (V.ref l1), some (V.int (en : Int)), some (V.int (en : Int))] = [some (V.str (tS l)), some (V.ref l1), some (V.int (st' : Int)), s3'] ∧ m' = l.length - st' ∧ st' ≤ l.length ∧ Same H (upd H2 l1 (.lst (dn.map (fun a => V.str (tS a)) ++ [.str (cutS (tS l) (some (st : Int)) (some (en : Int)))]))) ∧ (upd H2 l1 (.lst (dn.map (fun a => V.str (tS a)) ++ [.str (cutS (tS l) (some (st : Int)) (some (en : Int)))]))) l1 = some (.lst (dn'.map fun a => V.str (tS a))) ∧ dn' ++ pcL (l.drop st') = pcL l) := fun hs H3 _ => by
          have er : l.drop (st + 1) = (l.drop (st + 1)).take (en - (st + 1)) ++ l.drop en := by
            have := (List.take_append_drop (en - (st + 1)) (l.drop (st + 1))).symm
            rw [List.drop_drop, show st + 1 + (en - (st + 1)) = en by omega] at this
            exact this
          obtain ⟨t1, t2⟩ := tw_app hdg hs
          rw [← er] at t1 t2
          rw [t1, t2] at hinv
          refine .mk ⟨l.length - en, by omega, en, dn ++ [c :: (l.drop (st + 1)).take (en - (st + 1))], _, rfl, rfl, en2, same_mut sm' hl1, ?_, ?_⟩
          · rw [upd_same, List.map_append, cutS_nat rfl rfl (by omega) en2, hdr, show en - st = (en - (st + 1)) + 1 by omega]
            rfl
          · rw [List.append_assoc]
            exact hinv
        walk_at "ev"
        refine ite2 (fun e3 => ?_) (fun e3 => ?_)
        · have e4 : (en : Int) < ((tS l).length : Nat) := of_decide_eq_true e3
          have hlt2 : en < l.length := by omega
          have hc2 : l[en]? = some l[en] := List.getElem?_eq_getElem hlt2
          have hat2 : atI (tS l).cps.toList (en : Int) = some l[en] := atL rfl hc2
          have hdr2 : l.drop en = l[en] :: l.drop (en + 1) := List.drop_eq_getElem_cons hlt2
          generalize l[en] = c2 at *
          walk_at "ev"
          refine ite2 (fun e5 => ?_) (fun e5 => ?_)
          · refine ⟨_, holdN, ?_⟩
            walk_at "ev"
            refine .mk ⟨l.length - (en + 1), by omega, en + 1, rfl, rfl, by omega, by omega, ?_, rfl⟩
            rw [show en + 1 - (st + 1) = (en - (st + 1)) + 1 by omega, List.take_add_one]
            intro x hx
            rcases List.mem_append.mp hx with z | z
            · exact hdg x z
            · rw [List.getElem?_drop, show st + 1 + (en - (st + 1)) = en by omega, hc2] at z
              have z : x ∈ [c2] := z
              cases List.mem_singleton.mp z
              exact e5
          · have hs : Stp (l.drop en) := by
              rw [hdr2]
              refine stp_cons ?_
              cases hz : dg c2 with
              | false => rfl
              | true => exact absurd hz e5
            have fin := fin hs H2 rfl
            have hcz : (cutS (tS l) (some (st : Int)) (some (en : Int))).length ≤ sizeLine := by rw [cutS_nat rfl rfl (by omega) en2, tS_len, List.length_take, List.length_drop]; exact szl (by omega)
            have hfl : (dn.map fun a => V.str (tS a)).length < sizeLine := szm (by rw [List.length_map]; omega)
            walk_at "ev"
            exact fin
        · have e4 : ¬ (en : Int) < ((tS l).length : Nat) := fun z => e3 (decide_eq_true z)
          have hen : en = l.length := by omega
          have hs : Stp (l.drop en) := by
            rw [List.drop_of_length_le (by omega)]
            exact fun c hc => nomatch hc
          have fin := fin hs H2 rfl
          have hfl : (dn.map fun a => V.str (tS a)).length < sizeLine := szm (by rw [List.length_map]; omega)
          walk_at "ev"
          exact fin
      · have hf : fg c = false := by
          cases hz : fg c with
          | false => rfl
          | true => exact absurd hz e2
        rw [hdr, pcL_one hf] at hinv
        have hfl : (dn.map fun a => V.str (tS a)).length < sizeLine := szm (by rw [List.length_map]; omega)
        walk_at "ev"
        refine .mk ⟨l.length - (st + 1), by omega, st + 1, dn ++ [[c]], _, rfl, rfl, by omega, same_mut sm' hl1, ?_, ?_⟩
        · rw [upd_same, List.map_append, cutS_nat (b := st + 1) rfl (by omega) (by omega) (by omega), hdr, show st + 1 - st = 1 by omega]
          rfl
        · rw [List.append_assoc]
          exact hinv
    · have e1 : ¬ (st : Int) < ((tS l).length : Nat) := fun z => e (decide_eq_true z)
      rw [List.drop_of_length_le (show l.length ≤ st by omega), pcL_nil, List.append_nil] at hinv
      rw [hinv] at hp'
      walk_at "ev"
      exact q l1 H' hl1 sm' hp'
end
theorem num_head : ∀ (k n : Nat), n ≤ k → 1 ≤ n → ∀ c t, TL.numL n = c :: t → c ≠ 48
  | 0, n, h, h1, _, _, _ => by omega
  | k + 1, n, h, h1, c, t, e => by
    by_cases z : n < 10
    · rw [TL.numL_lt z] at e
      have := (List.cons.inj e).1
      omega
    · rw [TL.numL_step (by omega)] at e
      cases hz : TL.numL (n / 10) with
      | nil => exact absurd hz (TL.numL_ne _)
      | cons c' t' =>
        rw [hz] at e
        have e1 : c' = c := (List.cons.inj e).1
        subst e1
        exact num_head k (n / 10) (by omega) (by omega) c' t' hz
theorem num_cons {n : Int} (h1 : 1 ≤ n) : ∃ c t, TL.numL n.toNat = c :: t ∧ c ≠ 48 ∧ dg c = true := by
  cases hz : TL.numL n.toNat with
  | nil => exact absurd hz (TL.numL_ne _)
  | cons c t => exact ⟨c, t, rfl, num_head _ _ (Nat.le_refl _) (by omega) c t hz, num_dg n.toNat c (by rw [hz]; exact List.mem_cons_self)⟩
theorem int_T {n : Int} (h1 : 1 ≤ n) (h2 : n ≤ 1000) : PySem.intText? (tS (TL.numL n.toNat)) = some n := by
  obtain ⟨k, rfl⟩ := Int.eq_ofNat_of_zero_le (show 0 ≤ n by omega)
  have := TL.int_num (n := k) (Nat.le_trans (num4 h1 h2) (by decide))
  rw [tS_num] at this
  exact this
abbrev s_number_in : Stmt := top 32
abbrev N_number_in : List Str := ["figures"]
abbrev P_number_in : List Str := ["figures"]
theorem sc_number_in : FnScope N_number_in P_number_in (defScope s_number_in) := ⟨rfl, rfl, rfl, by decide +kernel, rfl, by decide +kernel, by decide +kernel⟩
def spNin : Sp := fun vs H Q _ => ∃ (n : Int), vs = [.str (tS (TL.numL n.toNat))] ∧ 1 ≤ n ∧ n ≤ 1000 ∧ Q (.int n) H
section
variable {P : Program} {w : World} {K : PySem.W.Frag} {mg : Str → Option Value} {base : Heap}
theorem ok_nin {f : Addr} {fd : FuncData} {k : Nat} (F : Fun K "number_in" "number_in" s_number_in f fd) (T : Blt mg) : FnOk P w K mg base CX0 (k + 1) f fd P_number_in spNin := by
  have nd := sc_number_in.nd
  refine F.ok sc_number_in (fun vs H Q E h => ?_) (fun cdv A outer s H vs Q E hr h => ?_)
  · obtain ⟨n, rfl, _⟩ := h
    rfl
  · obtain ⟨n, rfl, h1, h2, q⟩ := h
    refine ⟨_, (pss_cons (ps_if (PW.pt (pw_or (pt_cmpR op_eq (pv 0) (pe_str) (nomark _)) (pw_or1 (pt_cmpR op_eq (pe_ix ix_str (pv 0) (pe_int) (fun _ _ => rfl)) (pe_str) (nomark _))))) (pss_one (ps_ret (pe_non))) pss_nil)
      (pss_one (ps_ret (pe_callTy call_int_str (by rfl) T.b_int (by decide +kernel) (pa_cons (pv 0) pa_nil))))), ?_⟩
    have hi := int_T h1 h2
    have hl := num4 h1 h2
    obtain ⟨c, t, hct, c48, cd⟩ := num_cons h1
    have hsz : (tS (TL.numL n.toNat)).length ≤ sizeLine := by rw [tS_len]; exact szl (by omega)
    have h640 : (tS (TL.numL n.toNat)).length ≤ 640 := by rw [tS_len]; omega
    have hat : atI (tS (TL.numL n.toNat)).cps.toList 0 = some c := atL (j := 0) rfl (by rw [tl_tS, hct]; rfl)
    have e1 : decide (V.str (tS (TL.numL n.toNat)) = V.str "") = false := decide_eq_false fun z => by
      have := tS_inj (b := []) ((V.str.inj z).trans (by decide +kernel))
      rw [hct] at this
      cases this
    have e2 : decide (V.str ⟨#[c]⟩ = V.str "0") = false := decide_eq_false fun z => by
      have := tS_inj (a := [c]) (b := [48]) ((V.str.inj z).trans (by decide +kernel))
      exact c48 (List.cons.inj this).1
    walk_at "ev"
    refine iteFe e1 ?_
    walk_at "ev"
    refine iteFe e2 ?_
    walk_at "ev"
    exact q
end
abbrev s_part_in : Stmt := top 33
abbrev N_part_in : List Str := ["piece"]
abbrev P_part_in : List Str := ["piece"]
theorem sc_part_in : FnScope N_part_in P_part_in (defScope s_part_in) := ⟨rfl, rfl, rfl, by decide +kernel, rfl, by decide +kernel, by decide +kernel⟩
def spPrt (K : PySem.W.Frag) : Sp := fun vs H Q _ =>
  (∃ n : Int, vs = [.str (tS (TL.numL n.toNat))] ∧ 1 ≤ n ∧ n ≤ 1000 ∧ Q (.int n) H) ∨
  (∃ (x : Str) (n : Int), vs = [.str (tS (sgn x :: TL.numL n.toNat))] ∧ (x = "plain" ∨ x = "short") ∧ 1 ≤ n ∧ n ≤ 1000 ∧ ∀ a H', H a = none → Same H H' → H' a = some (.tup [.str x, .int n]) → Q (.ref a) H') ∨
  (∃ c : Nat, vs = [.str (tS [c])] ∧ (c = 40 ∨ c = 42 ∨ c = 46 ∨ c = 94 ∨ c = 126) ∧ Q (.str (tS [c])) H)
section
variable {P : Program} {w : World} {K : PySem.W.Frag} {mg : Str → Option Value} {base : Heap}
theorem ps_iff (c : Nat) : decide (c ∈ (Str.ofString "ps" : Str).cps.toList) = decide (c = 112 ∨ c = 115) := by
  rw [show (Str.ofString "ps" : Str).cps.toList = [112, 115] from by decide +kernel]
  simp only [List.mem_cons, List.not_mem_nil, or_false]
theorem ok_prt {f f1 f2 aS : Addr} {fd d1 d2 : FuncData} {k : Nat} {tk : Tok} (F : Fun K "part_in" "part_in" s_part_in f fd) (T : Blt mg) (S : Sg K w mg aS) (M_FIGURES : mg "FIGURES" = some (.str "0123456789" tk)) (D_number_in : Df K mg "number_in" s_number_in P_number_in f1 d1) (D_word_of : Df K mg "word_of" s_word_of P_word_of f2 d2) : FnOk P w K mg base CX0 (k + 2) f fd P_part_in (spPrt K) := by
  have G_number_in : FnOk P w K mg base CX0 (k + 1) f1 d1 P_number_in spNin := ok_nin D_number_in.F T
  have G_word_of : FnOk P w K mg base CX0 (k + 1) f2 d2 P_word_of spWof := ok_wof D_word_of.F T S
  have nd := sc_part_in.nd
  refine F.ok sc_part_in (fun vs H Q E h => ?_) (fun cdv A outer s H vs Q E hr h => ?_)
  · rcases h with ⟨n, rfl, _⟩ | ⟨x, n, rfl, _⟩ | ⟨c, rfl, _⟩ <;> rfl
  · refine ⟨_, (pss_cons (ps_if (pt_cmpR op_in_sign (pe_ix ix_str (pv 0) (pe_int) (fun _ _ => rfl)) (pe_glob (v := .str "0123456789") (by rfl) M_FIGURES ⟨_, rfl⟩) (by rfl)) (pss_one (ps_ret (pe_call G_number_in (hr.mono (by omega)) (by rfl) D_number_in.g D_number_in.F.kp D_number_in.b .nil pass0 (pa_cons (pv 0) pa_nil)))) pss_nil)
      (pss_cons (ps_if (pt_cmpR op_in_sign (pe_ix ix_str (pv 0) (pe_int) (fun _ _ => rfl)) (pe_str) (by rfl)) (pss_one (ps_ret (pe_tup (pa_cons (pe_call G_word_of (hr.mono (by omega)) (by rfl) D_word_of.g D_word_of.F.kp D_word_of.b .nil pass0 (pa_cons (pe_ix ix_str (pv 0) (pe_int) (fun _ _ => rfl)) pa_nil)) (pa_cons (pe_call G_number_in (hr.mono (by omega)) (by rfl) D_number_in.g D_number_in.F.kp D_number_in.b .nil pass0 (pa_cons (pe_slice sl_str (pv 0) (po_some (pe_int)) po_none) pa_nil)) pa_nil))))) pss_nil)
      (pss_one (ps_ret (pv 0))))), ?_⟩
    rcases h with ⟨n, rfl, h1, h2, q⟩ | ⟨x, n, rfl, hx, h1, h2, q⟩ | ⟨c, rfl, hc, q⟩
    · have hl := num4 h1 h2
      obtain ⟨c, t, hct, c48, cd⟩ := num_cons h1
      have hsz : (tS (TL.numL n.toNat)).length ≤ sizeLine := by rw [tS_len]; exact szl (by omega)
      have hat : atI (tS (TL.numL n.toNat)).cps.toList 0 = some c := atL (j := 0) rfl (by rw [tl_tS, hct]; rfl)
      walk_at "ev"
      refine iteTe (show decide _ = true from cd) ?_
      walk_at "ev"
      exact q
    · have hl := num4 h1 h2
      have hsz : (tS (sgn x :: TL.numL n.toNat)).length ≤ sizeLine := by rw [tS_len, List.length_cons]; exact szl (by omega)
      have hat : atI (tS (sgn x :: TL.numL n.toNat)).cps.toList 0 = some (sgn x) := atL (j := 0) rfl rfl
      have hs := sgn_leaf hx
      have hx6 := w_leaf hx
      have ecut : cutS (tS (sgn x :: TL.numL n.toNat)) (some 1) none = tS (TL.numL n.toNat) := cutS_from (a := 1) rfl (by rw [List.length_cons]; omega)
      have e0 : (⟨#[sgn x]⟩ : Str) = tS [sgn x] := rfl
      walk_at "ev"
      refine iteFe (show decide _ = false from dgF (by omega)) ?_
      walk_at "ev"
      refine iteTe (by rw [ps_iff]; exact decide_eq_true (by omega)) ?_
      walk_at "ev"
      rw [ecut]
      walk_at "ev"
      w_cond _1
      exact q l1 H1 hl1 sm1 hq1
    · have hsz : (tS [c]).length ≤ sizeLine := by rw [tS_len]; exact szl (by show 1 ≤ 60000; decide)
      have hat : atI (tS [c]).cps.toList 0 = some c := atL (j := 0) rfl rfl
      walk_at "ev"
      refine iteFe (show decide _ = false from dgF (by omega)) ?_
      walk_at "ev"
      refine iteFe (by rw [ps_iff]; exact decide_eq_false (by omega)) ?_
      walk_at "ev"
      exact q
end
/-- what stands in the parts -/
inductive SkAt (K : PySem.W.Frag) (H : Hp) : V → Sk → Prop
  | sg (c : Nat) : SkAt K H (.str (tS [c])) (.sg c)
  | num (n : Int) : SkAt K H (.int n) (.num n)
  | pl {v : V} {p : Pl} : PlAt K H v p → SkAt K H v (.pl p)
theorem SkAt.same {K : PySem.W.Frag} {H H' : Hp} {v : V} {s : Sk} (h : SkAt K H v s) (e : Same H H') : SkAt K H' v s := by
  cases h with
  | sg c => exact .sg c
  | num n => exact .num n
  | pl h => exact .pl (h.same e)
def Sks (K : PySem.W.Frag) (H : Hp) : List V → List Sk → Prop := Paired (SkAt K H)
theorem Sks.same {K : PySem.W.Frag} {H H' : Hp} {xs : List V} {ss : List Sk} (h : Sks K H xs ss) (e : Same H H') : Sks K H' xs ss := Paired.mapP h fun _ _ z => z.same e
theorem sks_app {K : PySem.W.Frag} {H : Hp} : ∀ {xs ys : List V} {ss ts : List Sk}, Sks K H xs ss → Sks K H ys ts → Sks K H (xs ++ ys) (ss ++ ts)
  | _, _, _, _, .nil, h => h
  | _, _, _, _, .cons a b, h => .cons a (sks_app b h)
theorem sks_split {K : PySem.W.Frag} {H : Hp} : ∀ {ss ts : List Sk} {xs : List V}, Sks K H xs (ss ++ ts) → ∃ ys zs, xs = ys ++ zs ∧ Sks K H ys ss ∧ Sks K H zs ts
  | [], ts, xs, h => ⟨[], xs, rfl, .nil, h⟩
  | s :: ss, ts, _, .cons (a := x) a b => by
    obtain ⟨ys, zs, rfl, h1, h2⟩ := sks_split b
    exact ⟨x :: ys, zs, rfl, .cons a h1, h2⟩
theorem at_end {xs : List V} {a b c d : V} : atI (xs ++ [a, b, c, d]) (-4) = some a ∧ atI (xs ++ [a, b, c, d]) (-3) = some b ∧ atI (xs ++ [a, b, c, d]) (-2) = some c ∧ atI (xs ++ [a, b, c, d]) (-1) = some d := by
  have l : (xs ++ [a, b, c, d]).length = xs.length + 4 := by rw [List.length_append]; rfl
  refine ⟨?_, ?_, ?_, ?_⟩
  · unfold atI ixN
    rw [if_neg (by decide), if_pos (by rw [l]; omega), l, show ((-4 : Int) + ((xs.length + 4 : Nat) : Int)).toNat = xs.length + 0 by omega]
    show (xs ++ [a, b, c, d])[xs.length + 0]? = _
    rw [List.getElem?_append_right (by omega), Nat.add_sub_cancel_left]
    rfl
  · unfold atI ixN
    rw [if_neg (by decide), if_pos (by rw [l]; omega), l, show ((-3 : Int) + ((xs.length + 4 : Nat) : Int)).toNat = xs.length + 1 by omega]
    show (xs ++ [a, b, c, d])[xs.length + 1]? = _
    rw [List.getElem?_append_right (by omega), Nat.add_sub_cancel_left]
    rfl
  · unfold atI ixN
    rw [if_neg (by decide), if_pos (by rw [l]; omega), l, show ((-2 : Int) + ((xs.length + 4 : Nat) : Int)).toNat = xs.length + 2 by omega]
    show (xs ++ [a, b, c, d])[xs.length + 2]? = _
    rw [List.getElem?_append_right (by omega), Nat.add_sub_cancel_left]
    rfl
  · unfold atI ixN
    rw [if_neg (by decide), if_pos (by rw [l]; omega), l, show ((-1 : Int) + ((xs.length + 4 : Nat) : Int)).toNat = xs.length + 3 by omega]
    show (xs ++ [a, b, c, d])[xs.length + 3]? = _
    rw [List.getElem?_append_right (by omega), Nat.add_sub_cancel_left]
    rfl
abbrev s_bracket_plan : Stmt := top 34
abbrev N_bracket_plan : List Str := ["parts", "made"]
abbrev P_bracket_plan : List Str := ["parts"]
theorem sc_bracket_plan : FnScope N_bracket_plan P_bracket_plan (defScope s_bracket_plan) := ⟨rfl, rfl, rfl, by decide +kernel, rfl, by decide +kernel, by decide +kernel⟩
def spBkp (K : PySem.W.Frag) (n : Nat) : Sp := fun vs H Q _ => ∃ (p : Addr) (ts : List V) (x y : V) (wd : Str) (q : Pl), vs = [.ref p] ∧ SqL K H p (ts ++ [.str (tS [40]), x, .str (tS [sgn wd]), y]) ∧ ts.length ≤ 50000 ∧ PlN q ∧ pdep q ≤ n ∧
  ((∃ a b, (wd = "split" ∨ wd = "parts") ∧ q = .two wd a b ∧ PlAt K H x a ∧ PlAt K H y b) ∨ (∃ m a, (wd = "powers" ∨ wd = "stretch") ∧ q = .led wd m a ∧ x = .int m ∧ PlAt K H y a)) ∧
  ∀ a H', H a = none → Same H H' → PlAt K H' (.ref a) q → Q (.ref a) H'
section
variable {P : Program} {w : World} {K : PySem.W.Frag} {mg : Str → Option Value} {base : Heap}
theorem ok_bkp {f f1 f2 aS : Addr} {fd d1 d2 : FuncData} {n : Nat} (F : Fun K "bracket_plan" "bracket_plan" s_bracket_plan f fd) (T : Blt mg) (S : Sg K w mg aS) (D_word_of : Df K mg "word_of" s_word_of P_word_of f1 d1) (D_is_plan : Df K mg "is_plan" s_is_plan P_is_plan f2 d2) (G_is_plan : FnOk P w K mg base CX0 (n + 5) f2 d2 P_is_plan (spIsp K n)) : FnOk P w K mg base CX0 (n + 6) f fd P_bracket_plan (spBkp K n) := by
  have G_word_of : FnOk P w K mg base CX0 1 f1 d1 P_word_of spWof := ok_wof (k := 0) D_word_of.F T S
  have nd := sc_bracket_plan.nd
  refine F.ok sc_bracket_plan (fun vs H Q E h => ?_) (fun cdv A outer s H vs Q E hr h => ?_)
  · obtain ⟨p, ts, x, y, wd, q, rfl, _⟩ := h
    rfl
  · obtain ⟨p, ts, x, y, wd, q, rfl, hS, hl, hn, hd, hc, nx⟩ := h
    refine ⟨_, (pss_cons (ps_if (PW.pt (pw_or (pt_cmpR op_lt (pe_callB (r := rLenQ K) call_len_seq (by rfl) T.b_len (by decide +kernel) (pa_cons (pv 0) pa_nil)) (pe_int) (nomark _)) (pw_or1 (pt_cmpR (r := rNeD K) (op_neD hr.units) (pe_ix (r := rIxL K) ix_list (pv 0) (pe_un un_neg (pe_int)) (fun _ _ => rfl)) (pe_str) (nomark _))))) (pss_one (ps_ret (pe_non))) pss_nil)
      (pss_cons (ps_set (i := 1) nd rfl (Or.inl rfl) (pe_tup (pa_cons (pe_call G_word_of (hr.mono (by omega)) (by rfl) D_word_of.g D_word_of.F.kp D_word_of.b .nil pass0 (pa_cons (pe_ix (r := rIxL K) ix_list (pv 0) (pe_un un_neg (pe_int)) (fun _ _ => rfl)) pa_nil)) (pa_cons (pe_ix (r := rIxL K) ix_list (pv 0) (pe_un un_neg (pe_int)) (fun _ _ => rfl)) (pa_cons (pe_ix (r := rIxL K) ix_list (pv 0) (pe_un un_neg (pe_int)) (fun _ _ => rfl)) pa_nil)))))
      (pss_one (ps_ret (pe_ifExp (pt_val (pe_call G_is_plan (hr.mono (by omega)) (by rfl) D_is_plan.g D_is_plan.F.kp D_is_plan.b .nil pass0 (pa_cons (pv 1) pa_nil))) (pv 1) (pe_non)))))), ?_⟩
    obtain ⟨t4, t3, t2, t1⟩ := at_end (xs := ts) (a := .str (tS [40])) (b := x) (c := .str (tS [sgn wd])) (d := y)
    have hw6 : wd = "plain" ∨ wd = "short" ∨ wd = "split" ∨ wd = "parts" ∨ wd = "powers" ∨ wd = "stretch" := by
      rcases hc with ⟨a, b, z, _⟩ | ⟨m, a, z, _⟩
      · exact w_two z
      · exact w_led z
    generalize hxs : ts ++ [V.str (tS [40]), x, V.str (tS [sgn wd]), y] = xs at *
    have hxl : (xs.length : Int) = (ts.length : Int) + 4 := by rw [← hxs, List.length_append]; rfl
    walk_at "ev"
    refine iteFe (decide_eq_false (by omega)) ?_
    walk_at "ev"
    have ee : PyData.eqv (.str (tS [40])) (.str (Str.ofString "(")) = true := by decide +kernel
    refine ⟨.str _, .str _, (by decide +kernel), (by decide +kernel), ?_⟩
    rw [ee]
    refine ⟨false, rfl, ?_⟩
    walk_at "ev"
    w_cond _1
    have hP : PlAt K H1 (.ref l1) q := by
      rcases hc with ⟨a, b, z, rfl, hx, hy⟩ | ⟨m, a, z, rfl, rfl, hy⟩
      · exact .two z (SqT.of hq1) (hx.same sm1) (hy.same sm1)
      · exact .led z (SqT.of hq1) (hy.same sm1)
    walk_at "ev"
    intro H2 sm2
    walk_at "ev"
    exact nx l1 H2 hl1 (sm1.trans sm2) (hP.same sm2)
end
theorem sqt_mutQ {K : PySem.W.Frag} {H : Hp} {a D : Addr} {xs ys : List V} {o : HO} (h : SqT K H a xs) (e : H D = some (.lst ys)) : SqT K (upd H D o) a xs := by
  rcases h with (h | ⟨u, h⟩) | h
  · exact .inl (.inl (by rw [upd_ne (fun z => by rw [z, e] at h; cases h)]; exact h))
  · exact .inl (.inr ⟨u, by rw [upd_ne (fun z => by rw [z, e] at h; cases h)]; exact h⟩)
  · exact .inr h
theorem sqt_mutP {K : PySem.W.Frag} {H : Hp} {v : V} {pl : Pl} {D : Addr} {xs : List V} {o : HO} (h : PlAt K H v pl) (e : H D = some (.lst xs)) : PlAt K (upd H D o) v pl := by
  induction h with
  | leaf a b => exact .leaf a (sqt_mutQ b e)
  | two a b c d i1 i2 => exact .two a (sqt_mutQ b e) i1 i2
  | led a b c i1 => exact .led a (sqt_mutQ b e) i1
theorem PlAt.mutQ {K : PySem.W.Frag} {H : Hp} {v : V} {pl : Pl} {D : Addr} {xs : List V} {o : HO} (h : PlAt K H v pl) (e : H D = some (.lst xs)) : PlAt K (upd H D o) v pl := sqt_mutP h e
theorem Sks.mut {K : PySem.W.Frag} {H : Hp} {xs : List V} {ss : List Sk} {D : Addr} {ys : List V} {o : HO} (h : Sks K H xs ss) (e : H D = some (.lst ys)) : Sks K (upd H D o) xs ss := Paired.mapP h fun _ _ z => by
  cases z with
  | sg c => exact .sg c
  | num n => exact .num n
  | pl h => exact .pl (sqt_mutP h e)
theorem cut4 {xs : List V} {a b c d : V} : cutV (xs ++ [a, b, c, d]) none (some (-4)) = xs := by
  unfold cutV
  have e : HT.sIx (xs ++ [a, b, c, d]).length (xs ++ [a, b, c, d]).length (some (-4)) = xs.length := by
    show (if (-4 : Int) < 0 then ((-4 : Int) + (xs ++ [a, b, c, d]).length).toNat else min ((-4 : Int)).toNat (xs ++ [a, b, c, d]).length) = _
    rw [if_pos (by decide), List.length_append]
    show ((-4 : Int) + ((xs.length + 4 : Nat) : Int)).toNat = _
    omega
  have e0 : HT.sIx (xs ++ [a, b, c, d]).length 0 none = 0 := by simp [HT.sIx]
  rw [e, e0, List.drop_zero, Nat.sub_zero]
  exact List.take_left' rfl
theorem run_start {p : Pl} (hw : Wds p) (hn : PlN p) (hd : pdep p ≤ 12) : Run [] (pcL (txt p)) [.pl p] := by
  have e := pcL_pl hw (r := []) (fun c hc => nomatch hc)
  rw [List.append_nil] at e
  rw [e]
  exact run_pl hw hn hd .done
abbrev s_plan_in : Stmt := top 35
abbrev N_plan_in : List Str := ["text", "parts", "piece", "made"]
abbrev P_plan_in : List Str := ["text"]
theorem sc_plan_in : FnScope N_plan_in P_plan_in (defScope s_plan_in) := ⟨rfl, rfl, rfl, by decide +kernel, rfl, by decide +kernel, by decide +kernel⟩
def spPin (K : PySem.W.Frag) (n : Nat) : Sp := fun vs H Q _ => ∃ (p : Pl), vs = [.str (tS (txt p))] ∧ Wds p ∧ PlN p ∧ pdep p ≤ n ∧ ∀ v H', Same H H' → PlAt K H' v p → Q v H'
section
variable {P : Program} {w : World} {K : PySem.W.Frag} {mg : Str → Option Value} {base : Heap}
theorem ok_pin {f f1 f2 f3 f4 f5 f6 aS CT C fI : Addr} {fd d1 d2 d3 d4 d5 d6 fdI : FuncData} {n : Nat} {tk : Tok} (F : Fun K "plan_in" "plan_in" s_plan_in f fd) (T : Blt mg) (S : Sg K w mg aS) (M_FIGURES : mg "FIGURES" = some (.str "0123456789" tk)) (FI : Fun K "__init__" "TurnError.__init__" s_init fI fdI) (I_b : Binds K fdI N_init []) (I_ty : PySem.W.typeIn K (.ref fI) = some (.type "function")) (R : Ref K CT C fI) (M_BadText : mg "BadText" = some (.ref C))
    (D_pieces_of : Df K mg "pieces_of" s_pieces_of P_pieces_of f1 d1) (D_part_in : Df K mg "part_in" s_part_in P_part_in f2 d2) (D_bracket_plan : Df K mg "bracket_plan" s_bracket_plan P_bracket_plan f3 d3) (D_is_plan : Df K mg "is_plan" s_is_plan P_is_plan f4 d4) (D_number_in : Df K mg "number_in" s_number_in P_number_in f5 d5) (D_word_of : Df K mg "word_of" s_word_of P_word_of f6 d6)
    (G_is_plan : FnOk P w K mg base CX0 (n + 5) f4 d4 P_is_plan (spIsp K n)) (n12 : n = 12) : FnOk P w K mg base (L2.CX P w) (n + 7) f fd P_plan_in (spPin K n) := by
  have G_init : FnOk P w K mg base CX0 1 fI fdI N_init (spInit K) := ok_init FI
  have EK_BadText := R.ek
  have II_BadText := R.ini
  have G_pieces_of : FnOk P w K mg base CX0 1 f1 d1 P_pieces_of (spPie K) := ok_pie (k := 0) D_pieces_of.F T M_FIGURES
  have G_part_in : FnOk P w K mg base CX0 2 f2 d2 P_part_in (spPrt K) := ok_prt (k := 0) D_part_in.F T S M_FIGURES D_number_in D_word_of
  have G_bracket_plan : FnOk P w K mg base CX0 (n + 6) f3 d3 P_bracket_plan (spBkp K n) := ok_bkp D_bracket_plan.F T S D_word_of D_is_plan G_is_plan
  have nd := sc_plan_in.nd
  refine F.okX sc_plan_in (fun vs H Q E h => ?_) (fun cdv A outer s H vs Q E hr h => ?_)
  · obtain ⟨p, rfl, _⟩ := h
    rfl
  · obtain ⟨p, rfl, hw, hn, hd, q⟩ := h
    refine ⟨_, (pss_cons (ps_set (i := 1) nd rfl (Or.inl rfl) (pe_lst pa_nil))
      (pss_cons (ps_for (passes_of rfl) rfl (pi_list (pe_call G_pieces_of (hr.mono (by omega)) (by rfl) D_pieces_of.g D_pieces_of.F.kp D_pieces_of.b .nil pass0 (pa_cons (pv 0) pa_nil))) (pg_name (i := 2) nd rfl (Or.inl rfl))
      (pss_cons (ps_if (pt_cmpR op_ne (pv 2) (pe_str) (nomark _)) (pss_cons (ps_expr (pe_bm PySem.F.plainAttrs_list PySem.F.slot_list_append PySem.F.type_list_append mt_append (pv 1) (pa_cons (pe_call G_part_in (hr.mono (by omega)) (by rfl) D_part_in.g D_part_in.F.kp D_part_in.b .nil pass0 (pa_cons (pv 2) pa_nil)) pa_nil)))
      (pss_one (ps_continue))) pss_nil)
      (pss_cons (ps_set (i := 3) nd rfl (Or.inl rfl) (pe_call G_bracket_plan (hr.mono (by omega)) (by rfl) D_bracket_plan.g D_bracket_plan.F.kp D_bracket_plan.b .nil pass0 (pa_cons (pv 1) pa_nil)))
      (pss_cons (ps_if (pt_cmpR op_isN (pv 3) (pe_non) (nomark _)) (pss_one (ps_raise rfl (takes_of rfl rfl rfl rfl) (pmk_oex EK_BadText.oex II_BadText I_ty G_init (hr.mono (by omega)) I_b .nil pass0 (by rfl) M_BadText (pa_cons (pv 0) pa_nil)))) pss_nil)
      (pss_one (ps_set (i := 1) nd rfl (Or.inl rfl) (pe_op op_cat (pe_slice (r := rSlL K) sl_list (pv 1) po_none (po_some (pe_un un_neg (pe_int)))) (pe_lst (pa_cons (pv 3) pa_nil)))))))))
      (pss_cons (ps_if (PW.pt (pw_or (pt_cmpR op_ne (pe_callB (r := rLenQ K) call_len_seq (by rfl) T.b_len (by decide +kernel) (pa_cons (pv 1) pa_nil)) (pe_int) (nomark _)) (pw_or1 (pt_not (pt_val (pe_call G_is_plan (hr.mono (by omega)) (by rfl) D_is_plan.g D_is_plan.F.kp D_is_plan.b .nil pass0 (pa_cons (pe_ix (r := rIxL K) ix_list (pv 1) (pe_int) (fun _ _ => rfl)) pa_nil))))))) (pss_one (ps_raise rfl (takes_of rfl rfl rfl rfl) (pmk_oex EK_BadText.oex II_BadText I_ty G_init (hr.mono (by omega)) I_b .nil pass0 (by rfl) M_BadText (pa_cons (pv 0) pa_nil)))) pss_nil)
      (pss_one (ps_ret (pe_ix (r := rIxL K) ix_list (pv 1) (pe_int) (fun _ _ => rfl))))))), ?_⟩
    have hl := txt_b hn (by omega)
    have hl5 : (txt p).length ≤ 50000 := by omega
    have hrun := run_start hw hn (by omega)
    walk_at "ev"
    w_cond _1
    walk_at "ev"
    intro p2 H2 hp2 sm2 hq2
    have pl := pcL_len _ (txt p) (Nat.le_refl _)
    generalize pcL (txt p) = PS at *
    have hq12 := sm2 _ _ hq1
    have n12' : l1 ≠ p2 := fun z => by rw [z, hp2] at hq1; cases hq1
    have hL2 := SqL.of (K := K) hq2
    walk_at "ev"
    refine ⟨⟨_, hL2⟩, ?_⟩
    refine for_list (K := K) (a := p2) (xs := PS.map fun a => V.str (tS a)) (fun i σ H' => Hold (∃ (pp : Addr) (xs : List V) (ss : List Sk) (s2 s3 : Option V), σ = [some (.str (tS (txt p))), some (.ref pp), s2, s3] ∧ Same H H' ∧ H pp = none ∧ pp ≠ p2 ∧ H' p2 = some (.lst (PS.map fun a => V.str (tS a))) ∧ H' pp = some (.lst xs) ∧ Sks K H' xs ss ∧ xs.length ≤ i ∧ Run ss (PS.drop i) [.pl p])) (.mk ⟨l1, [], [], none, none, rfl, sm1.trans sm2, hl1, n12', hq2, hq12, .nil, Nat.le_refl _, hrun⟩) ?_ ?_ ?_
    · intro i σ H' hi hP
      obtain ⟨pp, xs, ss, s2, s3, rfl, sm', hpp, npp, hp2', hq', hk, hxl, hr'⟩ := hP.un
      exact SqL.of hp2'
    · intro i u σ H' hu hP
      obtain ⟨pp, xs, ss, s2, s3, rfl, sm', hpp, npp, hp2', hq', hk, hxl, hr'⟩ := hP.un
      rw [List.getElem?_map] at hu
      obtain ⟨a, ha, rfl⟩ := Option.map_eq_some_iff.mp hu
      have hil : i < PS.length := (List.getElem?_eq_some_iff.mp ha).1
      have hdr : PS.drop i = a :: PS.drop (i + 1) := (List.drop_eq_getElem_cons hil).trans (by rw [(List.getElem?_eq_some_iff.mp ha).2])
      rw [hdr] at hr'
      generalize PS.drop (i + 1) = rest at hr'
      have hxsz : xs.length < sizeLine := szm (by omega)
      clear hdr ha
      cases hr' with
      | lf hw hn hr1 =>
        rename_i wd m
        have hne := decide_eq_false (p := V.str (tS (sgn wd :: TL.numL m.toNat)) = V.str ")") (fun z => by
          have := sgn_leaf hw
          have := (List.cons.inj (tS_inj ((V.str.inj z).trans s_cl))).1
          omega)
        obtain ⟨n1, n2, _⟩ := id hn

        walk_at "ev"
        refine iteTe (by rw [hne]; rfl) ?_
        walk_at "ev"
        refine .inr (.inl ⟨wd, m, rfl, hw, n1, n2, ?_⟩)
        intro a2 H3 ha2 sm3 hq3
        have hqq := sm3 _ _ hq'
        have hk3 := hk.same sm3
        walk_at "ev"
        refine .mk ⟨pp, xs ++ [.ref a2], ss ++ [.pl (.leaf wd m)], _, _, rfl, same_mut (sm'.trans sm3) hpp, hpp, npp, by rw [upd_ne npp.symm]; exact (sm3 _ _ hp2'), upd_same, sks_app (hk3.mut hqq) (.cons (.pl ((PlAt.leaf hw (SqT.of hq3)).mutQ hqq)) .nil), by rw [List.length_append]; show xs.length + 1 ≤ i + 1; omega, hr1⟩
      | nm n1 n2 hr1 =>
        rename_i m
        have hne := decide_eq_false (p := V.str (tS (TL.numL m.toNat)) = V.str ")") (fun z => by
          obtain ⟨c, t, hct, _, hcd⟩ := num_cons n1
          have e := tS_inj ((V.str.inj z).trans s_cl)
          rw [hct] at e
          have e1 := (List.cons.inj e).1
          have := (dg_iff c).mp hcd
          omega)
        
        walk_at "ev"
        refine iteTe (by rw [hne]; rfl) ?_
        walk_at "ev"
        skip
        have hqq := hq'
        have hk3 := hk
        refine .mk ⟨pp, xs ++ [.int m], ss ++ [.num m], _, _, rfl, same_mut sm' hpp, hpp, npp, by rw [upd_ne npp.symm]; exact hp2', upd_same, sks_app (hk3.mut hqq) (.cons (.num m) .nil), by rw [List.length_append]; show xs.length + 1 ≤ i + 1; omega, hr1⟩
      | sg hc hr1 =>
        rename_i c
        have hne := decide_eq_false (p := V.str (tS [c]) = V.str ")") (fun z => by
          have := (List.cons.inj (tS_inj ((V.str.inj z).trans s_cl))).1
          omega)
        
        walk_at "ev"
        refine iteTe (by rw [hne]; rfl) ?_
        walk_at "ev"
        refine .inr (.inr ⟨c, rfl, hc, ?_⟩)
        have hqq := hq'
        have hk3 := hk
        walk_at "ev"
        refine .mk ⟨pp, xs ++ [.str (tS [c])], ss ++ [.sg c], _, _, rfl, same_mut sm' hpp, hpp, npp, by rw [upd_ne npp.symm]; exact hp2', upd_same, sks_app (hk3.mut hqq) (.cons (.sg c) .nil), by rw [List.length_append]; show xs.length + 1 ≤ i + 1; omega, hr1⟩
      | two hw2 hn2 hd2 hr1 =>
        rename_i s0 wd a b
        obtain ⟨ys, zs, rfl, hk1, hk2⟩ := sks_split hk
        obtain ⟨x, y, hz, hxy⟩ : ∃ x y, zs = [.str (tS [40]), x, .str (tS [sgn wd]), y] ∧ PlAt K H' x a ∧ PlAt K H' y b := by
          cases hk2 with
          | cons z1 r1 => cases r1 with
            | cons z2 r2 => cases r2 with
              | cons z3 r3 => cases r3 with
                | cons z4 r4 => cases r4 with
                  | nil =>
                    cases z1
                    cases z3
                    cases z4 with
                    | pl h4 =>
                      cases z2 with
                      | pl h2 => exact ⟨_, _, rfl, h2, h4⟩
        subst hz
        have hd3 : pdep (.two wd a b) ≤ n := by omega
        have hyl : ys.length ≤ 50000 := by rw [List.length_append] at hxl; omega
        have hxx : (∃ a2 b2, (wd = "split" ∨ wd = "parts") ∧ (Pl.two wd a b) = .two wd a2 b2 ∧ PlAt K H' x a2 ∧ PlAt K H' y b2) ∨ (∃ m2 a2, (wd = "powers" ∨ wd = "stretch") ∧ (Pl.two wd a b) = .led wd m2 a2 ∧ x = .int m2 ∧ PlAt K H' y a2) := .inl ⟨a, b, hw2, rfl, hxy⟩
        have hLp := SqL.of (K := K) hq'
        have heq := decide_eq_true (p := V.str (tS [41]) = V.str ")") (congrArg V.str s_cl.symm)
        walk_at "ev"
        intro a2 H3 ha2 sm3 hP3
        have hLp3 := SqL.of (K := K) (sm3 _ _ hq')
        walk_at "ev"
        w_cond _4
        rw [cut4] at hq4
        have hP4 := hP3.same sm4
        walk_at "ev"
        w_cond _5
        have hq45 := sm5 _ _ hq4
        have hsz6 : ys.length + [V.ref a2].length ≤ sizeLine := szl (by show ys.length + 1 ≤ 60000; omega)
        walk_at "ev"
        w_cond _6
        have s36 := sm3.trans (sm4.trans (sm5.trans sm6))
        have hp26 := s36 _ _ hp2'
        have n62 : l6 ≠ p2 := fun z => by
          have := (sm3.trans (sm4.trans sm5)) _ _ hp2'
          rw [← z, hl6] at this
          cases this
        refine .mk ⟨l6, _, s0 ++ [.pl (.two wd a b)], _, _, rfl, sm'.trans s36, (sm'.trans (sm3.trans (sm4.trans sm5))).free hl6, n62, hp26, hq6, sks_app (hk1.same s36) (.cons (.pl (hP4.same (sm5.trans sm6))) .nil), ?_, hr1⟩
        rw [List.length_append] at hxl ⊢
        have hxl : ys.length + 4 ≤ i := hxl
        show ys.length + 1 ≤ i + 1
        omega
      | led hw2 hn2 hd2 hr1 =>
        rename_i s0 wd m a
        obtain ⟨ys, zs, rfl, hk1, hk2⟩ := sks_split hk
        obtain ⟨x, y, hz, hxy⟩ : ∃ x y, zs = [.str (tS [40]), x, .str (tS [sgn wd]), y] ∧ x = .int m ∧ PlAt K H' y a := by
          cases hk2 with
          | cons z1 r1 => cases r1 with
            | cons z2 r2 => cases r2 with
              | cons z3 r3 => cases r3 with
                | cons z4 r4 => cases r4 with
                  | nil =>
                    cases z1
                    cases z3
                    cases z4 with
                    | pl h4 =>
                      cases z2 with
                      | num => exact ⟨_, _, rfl, rfl, h4⟩
        subst hz
        have hd3 : pdep (.led wd m a) ≤ n := by omega
        have hyl : ys.length ≤ 50000 := by rw [List.length_append] at hxl; omega
        have hxx : (∃ a2 b2, (wd = "split" ∨ wd = "parts") ∧ (Pl.led wd m a) = .two wd a2 b2 ∧ PlAt K H' x a2 ∧ PlAt K H' y b2) ∨ (∃ m2 a2, (wd = "powers" ∨ wd = "stretch") ∧ (Pl.led wd m a) = .led wd m2 a2 ∧ x = .int m2 ∧ PlAt K H' y a2) := .inr ⟨m, a, hw2, rfl, hxy⟩
        have hLp := SqL.of (K := K) hq'
        have heq := decide_eq_true (p := V.str (tS [41]) = V.str ")") (congrArg V.str s_cl.symm)
        walk_at "ev"
        intro a2 H3 ha2 sm3 hP3
        have hLp3 := SqL.of (K := K) (sm3 _ _ hq')
        walk_at "ev"
        w_cond _4
        rw [cut4] at hq4
        have hP4 := hP3.same sm4
        walk_at "ev"
        w_cond _5
        have hq45 := sm5 _ _ hq4
        have hsz6 : ys.length + [V.ref a2].length ≤ sizeLine := szl (by show ys.length + 1 ≤ 60000; omega)
        walk_at "ev"
        w_cond _6
        have s36 := sm3.trans (sm4.trans (sm5.trans sm6))
        have hp26 := s36 _ _ hp2'
        have n62 : l6 ≠ p2 := fun z => by
          have := (sm3.trans (sm4.trans sm5)) _ _ hp2'
          rw [← z, hl6] at this
          cases this
        refine .mk ⟨l6, _, s0 ++ [.pl (.led wd m a)], _, _, rfl, sm'.trans s36, (sm'.trans (sm3.trans (sm4.trans sm5))).free hl6, n62, hp26, hq6, sks_app (hk1.same s36) (.cons (.pl (hP4.same (sm5.trans sm6))) .nil), ?_, hr1⟩
        rw [List.length_append] at hxl ⊢
        have hxl : ys.length + 4 ≤ i := hxl
        show ys.length + 1 ≤ i + 1
        omega
    · intro σ H' hP
      obtain ⟨pp, xs, ss, s2, s3, rfl, sm', hpp, npp, hp2', hq', hk, hxl, hr'⟩ := hP.un
      rw [List.length_map, List.drop_of_length_le (Nat.le_refl _)] at hr'
      cases hr' with
      | done =>
        cases hk with
        | cons z1 r1 =>
          cases r1 with
          | nil =>
            rename_i v
            cases z1 with
            | pl hpl =>
              have hL' := SqL.of (K := K) hq'
              have at0 : atI [v] 0 = some v := rfl
              have hd12 : pdep p ≤ n := hd
              have l1 : ((([v] : List V).length : Nat) : Int) = 1 := rfl
              walk_at "ev"
              intro H3 sm3
              have hL3 := SqL.of (K := K) (sm3 _ _ hq')
              walk_at "ev"
              exact q v H3 (sm'.trans sm3) (hpl.same sm3)
end
/-! ### plans as data -/
def plD : Pl → PyData
  | .leaf w n => .tuple [.str w, .int n]
  | .two w a b => .tuple [.str w, plD a, plD b]
  | .led w n a => .tuple [.str w, .int n, plD a]
theorem dp_pl {K : PySem.W.Frag} {H : Hp} {v : V} {p : Pl} (h : PlAt K H v p) : Dp K H v (plD p) := by
  induction h with
  | leaf a b => exact .tup b (.cons (.str _) (.cons (.int _) .nil))
  | two a b c d i1 i2 => exact .tup b (.cons (.str _) (.cons i1 (.cons i2 .nil)))
  | led a b c i => exact .tup b (.cons (.str _) (.cons (.int _) (.cons i .nil)))
theorem fit_pl : ∀ {p : Pl} {n : Nat}, pdep p < n → Fit n (plD p)
  | _, 0, h => absurd h (Nat.not_lt_zero _)
  | .leaf w m, n + 1, _ => by
    refine ⟨by show 2 ≤ 4000; decide, fun e he => ?_⟩
    simp only [List.mem_cons, List.not_mem_nil, or_false] at he
    rcases he with h | h <;> rw [h] <;> cases n <;> exact True.intro
  | .two w a b, n + 1, h => by
    have h' : 1 + max (pdep a) (pdep b) < n + 1 := h
    refine ⟨by show 3 ≤ 4000; decide, fun e he => ?_⟩
    simp only [List.mem_cons, List.not_mem_nil, or_false] at he
    rcases he with h | h | h <;> rw [h]
    · cases n <;> exact True.intro
    · exact fit_pl (by omega)
    · exact fit_pl (by omega)
  | .led w m a, n + 1, h => by
    have h' : 1 + pdep a < n + 1 := h
    refine ⟨by show 3 ≤ 4000; decide, fun e he => ?_⟩
    simp only [List.mem_cons, List.not_mem_nil, or_false] at he
    rcases he with h | h | h <;> rw [h]
    · cases n <;> exact True.intro
    · cases n <;> exact True.intro
    · exact fit_pl (by omega)
theorem wd_ok {x : Str} (h : x = "plain" ∨ x = "short" ∨ x = "split" ∨ x = "parts" ∨ x = "powers" ∨ x = "stretch") : PyData.strOk x = true := by
  rcases h with rfl | rfl | rfl | rfl | rfl | rfl <;> decide +kernel
theorem lay_pl : ∀ {p : Pl}, Wds p → PyData.canLay0 (plD p) = true ∧ PyData.depth (plD p) = pdep p + 1
  | .leaf w n, hw => by
    show PyData.canLay0 (.tuple [.str w, .int n]) = true ∧ PyData.depth (.tuple [.str w, .int n]) = 0 + 1
    simp only [PyData.canLay0, PyData.canLayAll0, PyData.depth, PyData.depthAll, wd_ok (w_leaf hw)]
    exact ⟨rfl, rfl⟩
  | .two w a b, ⟨hw, ha, hb⟩ => by
    obtain ⟨a1, a2⟩ := lay_pl ha
    obtain ⟨b1, b2⟩ := lay_pl hb
    show PyData.canLay0 (.tuple [.str w, plD a, plD b]) = true ∧ PyData.depth (.tuple [.str w, plD a, plD b]) = (1 + max (pdep a) (pdep b)) + 1
    simp only [PyData.canLay0, PyData.canLayAll0, PyData.depth, PyData.depthAll, a1, a2, b1, b2, wd_ok (w_two hw)]
    exact ⟨rfl, by omega⟩
  | .led w n a, ⟨hw, ha⟩ => by
    obtain ⟨a1, a2⟩ := lay_pl ha
    show PyData.canLay0 (.tuple [.str w, .int n, plD a]) = true ∧ PyData.depth (.tuple [.str w, .int n, plD a]) = (1 + pdep a) + 1
    simp only [PyData.canLay0, PyData.canLayAll0, PyData.depth, PyData.depthAll, a1, a2, wd_ok (w_led hw)]
    exact ⟨rfl, by omega⟩
theorem shp_pl {p : Pl} (hw : Wds p) (h : pdep p ≤ 12) : SeqAt.shaped (plD p) = true := by
  unfold SeqAt.shaped
  rw [(lay_pl hw).1, (lay_pl hw).2, decide_eq_true (by omega)]
  rfl
theorem eqv_pl {p : Pl} (hw : Wds p) : PyData.eqv (plD p) (plD p) = true := SeqAt.eqv_refl _ (lay_pl hw).1
abbrev s__law_plan_words : Stmt := top 60
abbrev N__law_plan_words : List Str := ["_law_piece", "_law_between"]
abbrev P__law_plan_words : List Str := ["_law_piece"]
theorem sc__law_plan_words : FnScope N__law_plan_words P__law_plan_words (defScope s__law_plan_words) := ⟨rfl, rfl, rfl, by decide +kernel, rfl, by decide +kernel, by decide +kernel⟩
abbrev dTwo : List (Key × V) := [(.inr "split", .str "*"), (.inr "parts", .str ".")]
abbrev dLed : List (Key × V) := [(.inr "powers", .str "^"), (.inr "stretch", .str "~")]
theorem dget_two {H : Hp} {d : Addr} {x : Str} (hx : x = "split" ∨ x = "parts") (h : H d = some (.dK dTwo)) : DGet H d (.str x) (some (.str (tS [sgn x]))) := by
  rcases hx with rfl | rfl
  · rw [show tS [sgn "split"] = ("*" : Str) from by decide +kernel]; exact DGet.k (k := .inr "split") h
  · rw [show tS [sgn "parts"] = ("." : Str) from by decide +kernel]; exact DGet.k (k := .inr "parts") h
theorem dget_led {H : Hp} {d : Addr} {x : Str} (hx : x = "powers" ∨ x = "stretch") (h : H d = some (.dK dLed)) : DGet H d (.str x) (some (.str (tS [sgn x]))) := by
  rcases hx with rfl | rfl
  · rw [show tS [sgn "powers"] = ("^" : Str) from by decide +kernel]; exact DGet.k (k := .inr "powers") h
  · rw [show tS [sgn "stretch"] = ("~" : Str) from by decide +kernel]; exact DGet.k (k := .inr "stretch") h
theorem wd0 {x : Str} (h : x = "plain" ∨ x = "short") : x.length ≤ 60000 ∧ atI x.cps.toList 0 = some (sgn x) := by
  rcases h with rfl | rfl <;> exact ⟨by decide +kernel, by decide +kernel⟩
section
variable {P : Program} {w : World} {K : PySem.W.Frag} {mg : Str → Option Value} {base : Heap}
theorem wds_step {f : Addr} {fd : FuncData} {n : Nat} {spI : Sp} (D__law_plan_words : Df K mg "_law_plan_words" s__law_plan_words P__law_plan_words f fd) (T : Blt mg) (n12 : n ≤ 12)
    (G__law_plan_words : FnOk P w K mg base CX0 (n + 1) f fd P__law_plan_words spI) (hG : ∀ m, n = m + 1 → spI = spPtx K m) : FnOk P w K mg base CX0 (n + 2) f fd P__law_plan_words (spPtx K n) := by
  have nd := sc__law_plan_words.nd
  refine D__law_plan_words.F.ok sc__law_plan_words (fun vs H Q E h => ?_) (fun cdv A outer s H vs Q E hr h => ?_)
  · obtain ⟨v, p, rfl, _⟩ := h
    rfl
  · obtain ⟨v, p, rfl, hp, hn, hd, q⟩ := h
    refine ⟨_, (pss_cons (ps_if (pt_cmpR (r := rIn K false) op_in_seq (pe_ix (r := rIxT K) ix_tup (pv 0) (pe_int) (fun _ _ => rfl)) (pe_tup (pa_cons (pe_str) (pa_cons (pe_str) pa_nil))) (by rfl)) (pss_one (ps_ret (pe_op op_add_str (pe_ix ix_str (pe_ix (r := rIxT K) ix_tup (pv 0) (pe_int) (fun _ _ => rfl)) (pe_int) (fun _ _ => rfl)) (pe_callTy call_str_int (by rfl) T.b_str (by decide +kernel) (pa_cons (pe_ix (r := rIxT K) ix_tup (pv 0) (pe_int) (fun _ _ => rfl)) pa_nil))))) pss_nil)
      (pss_cons (ps_if (pt_cmpR (r := rIn K false) op_in_seq (pe_ix (r := rIxT K) ix_tup (pv 0) (pe_int) (fun _ _ => rfl)) (pe_tup (pa_cons (pe_str) (pa_cons (pe_str) pa_nil))) (by rfl)) (pss_cons (ps_set (i := 1) nd rfl (Or.inl rfl) (pe_dget (du hr) (pe_disp (pps_cons (pe_str) (pe_str) (pps_cons (pe_str) (pe_str) pps_nil)) (by rfl) (by rfl) (by simp) (by decide)) (pe_ix (r := rIxT K) ix_tup (pv 0) (pe_int) (fun _ _ => rfl)) (fun _ _ => rfl)))
      (pss_one (ps_ret (pe_op op_add_str (pe_op op_add_str (pe_op op_add_str (pe_op op_add_str (pe_str) (pe_call G__law_plan_words (hr.mono (by omega)) (by rfl) D__law_plan_words.g D__law_plan_words.F.kp D__law_plan_words.b .nil pass0 (pa_cons (pe_ix (r := rIxT K) ix_tup (pv 0) (pe_int) (fun _ _ => rfl)) pa_nil))) (pv 1)) (pe_call G__law_plan_words (hr.mono (by omega)) (by rfl) D__law_plan_words.g D__law_plan_words.F.kp D__law_plan_words.b .nil pass0 (pa_cons (pe_ix (r := rIxT K) ix_tup (pv 0) (pe_int) (fun _ _ => rfl)) pa_nil))) (pe_str))))) pss_nil)
      (pss_one (ps_ret (pe_op op_add_str (pe_op op_add_str (pe_op op_add_str (pe_op op_add_str (pe_str) (pe_callTy call_str_int (by rfl) T.b_str (by decide +kernel) (pa_cons (pe_ix (r := rIxT K) ix_tup (pv 0) (pe_int) (fun _ _ => rfl)) pa_nil))) (pe_dget (du hr) (pe_disp (pps_cons (pe_str) (pe_str) (pps_cons (pe_str) (pe_str) pps_nil)) (by rfl) (by rfl) (by simp) (by decide)) (pe_ix (r := rIxT K) ix_tup (pv 0) (pe_int) (fun _ _ => rfl)) (fun _ _ => rfl))) (pe_call G__law_plan_words (hr.mono (by omega)) (by rfl) D__law_plan_words.g D__law_plan_words.F.kp D__law_plan_words.b .nil pass0 (pa_cons (pe_ix (r := rIxT K) ix_tup (pv 0) (pe_int) (fun _ _ => rfl)) pa_nil))) (pe_str)))))), ?_⟩
    have hb := txt_b hn (by omega)
    cases hp with
    | leaf hw hs =>
      rename_i a wd m
      have at0 : atI [V.str wd, V.int m] 0 = some (.str wd) := rfl
      have at1 : atI [V.str wd, V.int m] 1 = some (.int m) := rfl
      obtain ⟨m1, m2, _⟩ := hn
      obtain ⟨wl, wa⟩ := wd0 hw
      have hwl : wd.length ≤ sizeLine := szl wl
      have lg := log9 m1 m2
      have e1 : (⟨#[sgn wd]⟩ : Str) ++ Str.ofString (toString m) = tS (txt (.leaf wd m)) := by
        rw [num_T m1, show (⟨#[sgn wd]⟩ : Str) = tS [sgn wd] from rfl, tS_app]
        rfl
      have hl : (⟨#[sgn wd]⟩ : Str).length + (Str.ofString (toString m)).length ≤ sizeLine := by
        rw [num_T m1, show (⟨#[sgn wd]⟩ : Str) = tS [sgn wd] from rfl, tS_len, tS_len]
        have := num4 m1 m2
        exact szl (by show 1 + _ ≤ 60000; omega)
      walk_at "ev"
      intro t1 ht1
      generalize hG1 : upd _ t1 _ = H1
      obtain ⟨sm1, hq1⟩ := newO hG1 ht1
      have ht : SqL K H1 t1 [.str "plain", .str "short"] ∨ SqT K H1 t1 [.str "plain", .str "short"] := .inr (SqT.of hq1)
      have hs1 := same_t sm1 hs
      have ein : inV (.str wd) [.str "plain", .str "short"] = true := by rcases hw with rfl | rfl <;> decide
      walk_at "ev"
      refine iteTe ein ?_
      walk_at "ev"
      have z := q H1 sm1
      rw [← e1] at z
      exact z
    | two hw hs hx hy =>
      rename_i a wd x y p1 p2
      cases n with
      | zero =>
        have : 1 + max (pdep p1) (pdep p2) ≤ 0 := hd
        omega
      | succ n =>
      have hS := hG n rfl
      subst hS
      have hd' : 1 + max (pdep p1) (pdep p2) ≤ n + 1 := hd
      obtain ⟨n1, n2, _⟩ := hn
      have hdx : pdep p1 ≤ n := by omega
      have hdy : pdep p2 ≤ n := by omega
      have at0 : atI [V.str wd, x, y] 0 = some (.str wd) := rfl
      have at1 : atI [V.str wd, x, y] 1 = some x := rfl
      have at2 : atI [V.str wd, x, y] 2 = some y := rfl
      have bl : (txt (.two wd p1 p2)).length = (txt p1).length + (txt p2).length + 3 := by
        show (40 :: (txt p1 ++ sgn wd :: (txt p2 ++ [41]))).length = _
        simp only [List.length_cons, List.length_append, List.length_nil]
        omega
      have eA : Str.ofString "(" ++ tS (txt p1) = tS (40 :: txt p1) := by
        rw [show Str.ofString "(" = tS [40] from s_op, tS_app]
        rfl
      have eB : Str.ofString "(" ++ tS (txt p1) ++ tS [sgn wd] = tS (40 :: (txt p1 ++ [sgn wd])) := by
        rw [eA, tS_app]
        rfl
      have eC : Str.ofString "(" ++ tS (txt p1) ++ tS [sgn wd] ++ tS (txt p2) = tS (40 :: (txt p1 ++ [sgn wd] ++ txt p2)) := by
        rw [eB, tS_app]
        rfl
      have eD : Str.ofString "(" ++ tS (txt p1) ++ tS [sgn wd] ++ tS (txt p2) ++ Str.ofString ")" = tS (txt (.two wd p1 p2)) := by
        rw [eC, show Str.ofString ")" = tS [41] from s_cl, tS_app]
        show tS (40 :: (txt p1 ++ [sgn wd] ++ txt p2) ++ [41]) = tS (40 :: (txt p1 ++ sgn wd :: (txt p2 ++ [41])))
        simp only [List.append_assoc, List.cons_append, List.nil_append]
      have hA : (Str.ofString "(").length + (tS (txt p1)).length ≤ sizeLine := by rw [show Str.ofString "(" = tS [40] from s_op, tS_len, tS_len]; exact szl (by show 1 + _ ≤ 60000; omega)
      have hB : (Str.ofString "(" ++ tS (txt p1)).length + (tS [sgn wd]).length ≤ sizeLine := by rw [eA, tS_len, tS_len, List.length_cons]; exact szl (by show _ + 1 + 1 ≤ 60000; omega)
      have hC : (Str.ofString "(" ++ tS (txt p1) ++ tS [sgn wd]).length + (tS (txt p2)).length ≤ sizeLine := by rw [eB, tS_len, tS_len]; simp only [List.length_cons, List.length_append, List.length_nil]; exact szl (by omega)
      have hD : (Str.ofString "(" ++ tS (txt p1) ++ tS [sgn wd] ++ tS (txt p2)).length + (Str.ofString ")").length ≤ sizeLine := by rw [eC, show Str.ofString ")" = tS [41] from s_cl, tS_len, tS_len]; simp only [List.length_cons, List.length_append, List.length_nil]; exact szl (by omega)
      clear eA eB eC
      walk_at "ev"
      intro t1 ht1
      generalize hG1 : upd _ t1 _ = H1
      obtain ⟨sm1, hq1⟩ := newO hG1 ht1
      have ht : SqL K H1 t1 [.str "plain", .str "short"] ∨ SqT K H1 t1 [.str "plain", .str "short"] := .inr (SqT.of hq1)
      have hs1 := same_t sm1 hs
      have ein : inV (.str wd) [.str "plain", .str "short"] = false := by rcases hw with rfl | rfl <;> decide
      walk_at "ev"
      refine iteFe ein ?_
      walk_at "ev"
      intro t2 ht2
      generalize hG2 : upd _ t2 _ = H2
      obtain ⟨sm2, hq2⟩ := newO hG2 ht2
      have hu : SqL K H2 t2 [.str "split", .str "parts"] ∨ SqT K H2 t2 [.str "split", .str "parts"] := .inr (SqT.of hq2)
      have hs2 := same_t sm2 hs1
      have ein2 : inV (.str wd) [.str "split", .str "parts"] = true := by rcases hw with rfl | rfl <;> decide
      clear hG1 hG2 hs1 ht
      walk_at "ev"
      refine iteTe ein2 ?_
      walk_at "ev"
      intro d3 hd3
      generalize hG3 : upd _ d3 _ = H3
      obtain ⟨sm3, hq3⟩ := newO hG3 hd3
      clear hG3
      walk_at "ev"
      have em : mergeK [] dTwo = dTwo := rfl
      refine ⟨(show _ = List.map (fun kv : Key × V => (kV kv.1, kv.2)) dTwo from rfl), (by show 2 ≤ 15; decide), ?_⟩
      rw [em]
      generalize hG4 : upd _ d3 _ = H4
      have hq4 : H4 d3 = some (.dK dTwo) := by rw [← hG4]; exact upd_same
      have sm24 : Same H2 H4 := by rw [← hG4]; exact same_mut sm3 hd3
      have hs4 := same_t sm24 hs2
      have hdg := dget_two hw hq4
      have s04 := sm1.trans (sm2.trans sm24)
      have hx4 := hx.same s04
      clear hG4 hs2
      walk_at "ev"
      intro H5 sm5
      have hs5 := same_t sm5 hs4
      have hy5 := hy.same (s04.trans sm5)
      walk_at "ev"
      intro H6 sm6
      walk_at "ev"
      have z := q H6 (s04.trans (sm5.trans sm6))
      rw [← eD] at z
      exact z
    | led hw hs hx =>
      rename_i a wd m x p1
      cases n with
      | zero =>
        have : 1 + pdep p1 ≤ 0 := hd
        omega
      | succ n =>
      have hS := hG n rfl
      subst hS
      have hd' : 1 + pdep p1 ≤ n + 1 := hd
      obtain ⟨n1, m2, m1000, _⟩ := hn
      have m1 : 1 ≤ m := by omega
      have hdx : pdep p1 ≤ n := by omega
      have at0 : atI [V.str wd, V.int m, x] 0 = some (.str wd) := rfl
      have at1 : atI [V.str wd, V.int m, x] 1 = some (.int m) := rfl
      have at2 : atI [V.str wd, V.int m, x] 2 = some x := rfl
      have lg := log9 m1 m1000
      have bl : (txt (.led wd m p1)).length = (TL.numL m.toNat).length + (txt p1).length + 3 := by
        show (40 :: (TL.numL m.toNat ++ sgn wd :: (txt p1 ++ [41]))).length = _
        simp only [List.length_cons, List.length_append, List.length_nil]
        omega
      have eA : Str.ofString "(" ++ Str.ofString (toString m) = tS (40 :: TL.numL m.toNat) := by
        rw [num_T m1, show Str.ofString "(" = tS [40] from s_op, tS_app]
        rfl
      have eB : Str.ofString "(" ++ Str.ofString (toString m) ++ tS [sgn wd] = tS (40 :: (TL.numL m.toNat ++ [sgn wd])) := by
        rw [eA, tS_app]
        rfl
      have eC : Str.ofString "(" ++ Str.ofString (toString m) ++ tS [sgn wd] ++ tS (txt p1) = tS (40 :: (TL.numL m.toNat ++ [sgn wd] ++ txt p1)) := by
        rw [eB, tS_app]
        rfl
      have eD : Str.ofString "(" ++ Str.ofString (toString m) ++ tS [sgn wd] ++ tS (txt p1) ++ Str.ofString ")" = tS (txt (.led wd m p1)) := by
        rw [eC, show Str.ofString ")" = tS [41] from s_cl, tS_app]
        show tS (40 :: (TL.numL m.toNat ++ [sgn wd] ++ txt p1) ++ [41]) = tS (40 :: (TL.numL m.toNat ++ sgn wd :: (txt p1 ++ [41])))
        simp only [List.append_assoc, List.cons_append, List.nil_append]
      have hA : (Str.ofString "(").length + (Str.ofString (toString m)).length ≤ sizeLine := by rw [show Str.ofString "(" = tS [40] from s_op, num_T m1, tS_len, tS_len]; exact szl (by show 1 + _ ≤ 60000; omega)
      have hB : (Str.ofString "(" ++ Str.ofString (toString m)).length + (tS [sgn wd]).length ≤ sizeLine := by rw [eA, tS_len, tS_len, List.length_cons]; exact szl (by show _ + 1 + 1 ≤ 60000; omega)
      have hC : (Str.ofString "(" ++ Str.ofString (toString m) ++ tS [sgn wd]).length + (tS (txt p1)).length ≤ sizeLine := by rw [eB, tS_len, tS_len]; simp only [List.length_cons, List.length_append, List.length_nil]; exact szl (by omega)
      have hD : (Str.ofString "(" ++ Str.ofString (toString m) ++ tS [sgn wd] ++ tS (txt p1)).length + (Str.ofString ")").length ≤ sizeLine := by rw [eC, show Str.ofString ")" = tS [41] from s_cl, tS_len, tS_len]; simp only [List.length_cons, List.length_append, List.length_nil]; exact szl (by omega)
      clear eA eB eC
      walk_at "ev"
      intro t1 ht1
      generalize hG1 : upd _ t1 _ = H1
      obtain ⟨sm1, hq1⟩ := newO hG1 ht1
      have ht : SqL K H1 t1 [.str "plain", .str "short"] ∨ SqT K H1 t1 [.str "plain", .str "short"] := .inr (SqT.of hq1)
      have hs1 := same_t sm1 hs
      have ein : inV (.str wd) [.str "plain", .str "short"] = false := by rcases hw with rfl | rfl <;> decide
      walk_at "ev"
      refine iteFe ein ?_
      walk_at "ev"
      intro t2 ht2
      generalize hG2 : upd _ t2 _ = H2
      obtain ⟨sm2, hq2⟩ := newO hG2 ht2
      have hu : SqL K H2 t2 [.str "split", .str "parts"] ∨ SqT K H2 t2 [.str "split", .str "parts"] := .inr (SqT.of hq2)
      have hs2 := same_t sm2 hs1
      have ein2 : inV (.str wd) [.str "split", .str "parts"] = false := by rcases hw with rfl | rfl <;> decide
      clear hG1 hG2 hs1 ht
      walk_at "ev"
      refine iteFe ein2 ?_
      walk_at "ev"
      intro d3 hd3
      generalize hG3 : upd _ d3 _ = H3
      obtain ⟨sm3, hq3⟩ := newO hG3 hd3
      clear hG3
      walk_at "ev"
      have em : mergeK [] dLed = dLed := rfl
      refine ⟨(show _ = List.map (fun kv : Key × V => (kV kv.1, kv.2)) dLed from rfl), (by show 2 ≤ 15; decide), ?_⟩
      rw [em]
      generalize hG4 : upd _ d3 _ = H4
      have hq4 : H4 d3 = some (.dK dLed) := by rw [← hG4]; exact upd_same
      have sm24 : Same H2 H4 := by rw [← hG4]; exact same_mut sm3 hd3
      have hs4 := same_t sm24 hs2
      have hdg := dget_led hw hq4
      have s04 := sm1.trans (sm2.trans sm24)
      have hx4 := hx.same s04
      clear hG4 hs2
      walk_at "ev"
      intro H5 sm5
      walk_at "ev"
      have z := q H5 (s04.trans sm5)
      rw [← eD] at z
      exact z
theorem ok_wds {f : Addr} {fd : FuncData} (D__law_plan_words : Df K mg "_law_plan_words" s__law_plan_words P__law_plan_words f fd) (T : Blt mg) : ∀ n : Nat, n ≤ 12 → FnOk P w K mg base CX0 (n + 2) f fd P__law_plan_words (spPtx K n)
  | 0, h => wds_step (spI := fun _ _ _ _ => False) D__law_plan_words T h ⟨fun _ _ _ _ h => h.elim, fun _ _ _ _ _ _ _ _ _ _ _ _ _ h => h.elim⟩ (fun m h => by omega)
  | n + 1, h => wds_step D__law_plan_words T h (ok_wds D__law_plan_words T n (by omega)) (fun m h => by cases h; rfl)
end
/-! ### the lengths in a plan -/
def lens : Pl → List Int
  | .leaf _ n => [n]
  | .two _ a b => plen a * plen b :: (lens a ++ lens b)
  | .led _ n a => n :: lens a
theorem lens_len : ∀ p : Pl, (lens p).length + 1 ≤ 2 ^ (pdep p + 1)
  | .leaf _ _ => (show 1 + 1 ≤ 2 ^ (0 + 1) by decide)
  | .two w a b => by
    have h1 := lens_len a
    have h2 := lens_len b
    have e : pdep (.two w a b) = 1 + max (pdep a) (pdep b) := rfl
    have m1 : 2 ^ (pdep a + 1) ≤ 2 ^ (max (pdep a) (pdep b) + 1) := Nat.pow_le_pow_right (by decide) (by omega)
    have m2 : 2 ^ (pdep b + 1) ≤ 2 ^ (max (pdep a) (pdep b) + 1) := Nat.pow_le_pow_right (by decide) (by omega)
    have e2 : 2 ^ (1 + max (pdep a) (pdep b) + 1) = 2 * 2 ^ (max (pdep a) (pdep b) + 1) := by
      rw [show 1 + max (pdep a) (pdep b) + 1 = (max (pdep a) (pdep b) + 1) + 1 by omega, Nat.pow_succ, Nat.mul_comm]
    rw [e, e2]
    show (lens a ++ lens b).length + 1 + 1 ≤ _
    rw [List.length_append]
    omega
  | .led w n a => by
    have h1 := lens_len a
    have e : pdep (.led w n a) = 1 + pdep a := rfl
    have e2 : 2 ^ (1 + pdep a + 1) = 2 * 2 ^ (pdep a + 1) := by
      rw [show 1 + pdep a + 1 = (pdep a + 1) + 1 by omega, Nat.pow_succ, Nat.mul_comm]
    rw [e, e2]
    show (lens a).length + 1 + 1 ≤ _
    omega
theorem lens_63 {p : Pl} (h : pdep p ≤ 5) : (lens p).length ≤ 63 := by
  have h1 := lens_len p
  have h2 : 2 ^ (pdep p + 1) ≤ 2 ^ 6 := Nat.pow_le_pow_right (by decide) (by omega)
  have h3 : (2 : Nat) ^ 6 = 64 := by decide
  omega
theorem lens_inn : ∀ p : Pl, lens p = plen p :: ((inn p).map lens).flatten
  | .leaf _ _ => rfl
  | .two _ a b => by simp [lens, inn, plen]
  | .led _ _ a => by simp [lens, inn, plen]
theorem inn_ok {p q : Pl} (h : Ok p) (hq : q ∈ inn p) : Ok q := by
  cases p with
  | leaf w n => simp [inn] at hq
  | two w a b =>
    obtain ⟨h1, h2, _⟩ := h
    have h' : q = a ∨ q = b := by simpa [inn] using hq
    rcases h' with e | e <;> rw [e] <;> assumption
  | led w n a =>
    obtain ⟨_, _, h1⟩ := h
    have h' : q = a := by simpa [inn] using hq
    rw [h']
    exact h1
abbrev s_lengths_in : Stmt := top 22
abbrev N_lengths_in : List Str := ["plan", "found", "inner"]
abbrev P_lengths_in : List Str := ["plan"]
theorem sc_lengths_in : FnScope N_lengths_in P_lengths_in (defScope s_lengths_in) := ⟨rfl, rfl, rfl, by decide +kernel, rfl, by decide +kernel, by decide +kernel⟩
def spLens (K : PySem.W.Frag) (d : Nat) : Sp := fun vs H Q _ => ∃ (v : V) (p : Pl), vs = [v] ∧ PlAt K H v p ∧ pdep p ≤ d ∧ d ≤ 5 ∧ Ok p ∧ ∀ l H', H l = none → Same H H' → H' l = some (.lst ((lens p).map V.int)) → Q (.ref l) H'
section
variable {P : Program} {w : World} {K : PySem.W.Frag} {mg : Str → Option Value} {base : Heap}
theorem lens_step {f f1 f2 : Addr} {fd d1 d2 : FuncData} {n : Nat} {spI : Sp} (D_lengths_in : Df K mg "lengths_in" s_lengths_in P_lengths_in f fd) (D_plan_length : Df K mg "plan_length" s_plan_length P_plan_length f1 d1) (D_inner_plans : Df K mg "inner_plans" s_inner_plans P_inner_plans f2 d2) (T : Blt mg) (G_lengths_in : FnOk P w K mg base CX0 (n + 1) f fd P_lengths_in spI) (hG : ∀ m, n = m + 1 → spI = spLens K m) : FnOk P w K mg base CX0 (n + 2) f fd P_lengths_in (spLens K n) := by
  have G_plan_length : FnOk P w K mg base CX0 (n + 1) f1 d1 P_plan_length (spPlen K n) := ok_plen D_plan_length T n
  have G_inner_plans : FnOk P w K mg base CX0 1 f2 d2 P_inner_plans (spInner K) := ok_inner D_inner_plans.F T
  have nd := sc_lengths_in.nd
  refine D_lengths_in.F.ok sc_lengths_in (fun vs H Q E h => ?_) (fun cdv A outer s H vs Q E hr h => ?_)
  · obtain ⟨v, p, rfl, _⟩ := h
    rfl
  · obtain ⟨v, p, rfl, hp, hd, hd5, ok, q⟩ := h
    refine ⟨_, (pss_cons (ps_set (i := 1) nd rfl (Or.inl rfl) (pe_lst (pa_cons (pe_call G_plan_length (hr.mono (by omega)) (by rfl) D_plan_length.g D_plan_length.F.kp D_plan_length.b .nil pass0 (pa_cons (pv 0) pa_nil)) pa_nil)))
      (pss_cons (ps_for PassesOwn.never rfl (pi_list (pe_call G_inner_plans (hr.mono (by omega)) (by rfl) D_inner_plans.g D_inner_plans.F.kp D_inner_plans.b .nil pass0 (pa_cons (pv 0) pa_nil))) (pg_name (i := 2) nd rfl (Or.inl rfl))
      (pss_one (ps_expr (pe_bm PySem.F.plainAttrs_list PySem.F.slot_list_extend PySem.F.type_list_extend mt_extend (pv 1) (pa_cons (pe_call G_lengths_in (hr.mono (by omega)) (by rfl) D_lengths_in.g D_lengths_in.F.kp D_lengths_in.b .nil pass0 (pa_cons (pv 2) pa_nil)) pa_nil)))))
      (pss_one (ps_ret (pv 1))))), ?_⟩
    walk_at "ev"
    intro H1 sm1
    walk_at "ev"
    intro l hl
    generalize hG1 : upd _ l _ = H2
    obtain ⟨sm2, hq2⟩ := newO hG1 hl
    have hlf : H l = none := sm1.free hl
    have hp2 := (hp.same sm1).same sm2
    walk_at "ev"
    intro xs li H3 hli sm3 hq3 hall
    have hL3 : SqL K H3 li xs := SqL.of hq3
    have hL3' : ∃ xs, SqL K H3 li xs := ⟨_, hL3⟩
    have hlen := hall.len
    have nll : li ≠ l := (ne_of_none hq2 hli).symm
    have hlif : H li = none := (sm1.trans sm2).free hli
    walk_at "ev"
    refine for_list (K := K) (a := li) (xs := xs) (fun i σ H' => Hold (∃ s2, σ = [some v, some (.ref l), s2] ∧ Same H H' ∧ H' li = some (.lst xs) ∧ PlAll K H' xs (inn p) ∧ H' l = some (.lst ((plen p :: (((inn p).take i).map lens).flatten).map V.int)))) (.mk ⟨none, rfl, sm1.trans (sm2.trans sm3), hq3, hall, sm3 _ _ hq2⟩) ?_ ?_ ?_
    · intro i σ H4 hi hP
      obtain ⟨s2, rfl, sm4, hq4, hall4, hl4⟩ := hP.un
      exact SqL.of hq4
    · intro i x σ H4 hx hP
      obtain ⟨s2, rfl, sm4, hq4, hall4, hl4⟩ := hP.un
      obtain ⟨pp, hpp, hat⟩ := hall4.get hx
      have hdp := inn_dep (List.mem_of_getElem? hpp)
      have hn : ∃ m, n = m + 1 := ⟨n - 1, by omega⟩
      obtain ⟨m, rfl⟩ := hn
      have hS := hG m rfl
      subst hS
      have hdp2 : pdep pp ≤ m := by omega
      have hm5 : m ≤ 5 := by omega
      have okp := inn_ok ok (List.mem_of_getElem? hpp)
      have hty : tyV K "list" (.ref l) H4 := .inl ⟨rfl, _, SqL.of hl4⟩
      walk_at "ev"
      intro l5 H5 hl5 sm5 hq5
      have hl5' := sm5 _ _ hl4
      have n5 : l5 ≠ l := (ne_of_none hl4 hl5).symm
      have hsz : ((plen p :: (((inn p).take i).map lens).flatten).map V.int).length + ((lens pp).map V.int).length ≤ sizeLine := by
        rw [List.length_map, List.length_map]
        refine szl ?_
        have h1 := lens_63 (p := p) (by omega)
        have h2 := lens_63 (p := pp) (by omega)
        rw [lens_inn p] at h1
        have h3 : (((inn p).take i).map lens).flatten.length ≤ ((inn p).map lens).flatten.length := by
          rw [List.map_take]
          conv => rhs; rw [← List.take_append_drop i ((inn p).map lens), List.flatten_append, List.length_append]
          omega
        simp only [List.length_cons] at h1 ⊢
        omega
      walk_at "ev"
      refine .mk ⟨_, rfl, same_mut (sm4.trans sm5) hlf, ?_, ?_, ?_⟩
      · rw [upd_ne nll]
        exact sm5 _ _ hq4
      · have h5 := hall4.same sm5
        exact h5.mut hl5'
      · rw [upd_same, List.take_add_one, hpp, List.map_append, List.flatten_append]
        simp
    · intro σ H4 hP
      obtain ⟨s2, rfl, sm4, hq4, hall4, hl4⟩ := hP.un
      rw [hlen, List.take_length, ← lens_inn] at hl4
      walk_at "ev"
      exact q l H4 hlf sm4 hl4
theorem ok_lens {f f1 f2 : Addr} {fd d1 d2 : FuncData} (D_lengths_in : Df K mg "lengths_in" s_lengths_in P_lengths_in f fd) (D_plan_length : Df K mg "plan_length" s_plan_length P_plan_length f1 d1) (D_inner_plans : Df K mg "inner_plans" s_inner_plans P_inner_plans f2 d2) (T : Blt mg) : ∀ n : Nat, FnOk P w K mg base CX0 (n + 2) f fd P_lengths_in (spLens K n)
  | 0 => lens_step (spI := fun _ _ _ _ => False) D_lengths_in D_plan_length D_inner_plans T ⟨fun _ _ _ _ h => h.elim, fun _ _ _ _ _ _ _ _ _ _ _ _ _ h => h.elim⟩ (fun m h => by omega)
  | n + 1 => lens_step D_lengths_in D_plan_length D_inner_plans T (ok_lens D_lengths_in D_plan_length D_inner_plans T n) (fun m h => by cases h; rfl)
end
abbrev s_plan_lengths : Stmt := top 23
abbrev N_plan_lengths : List Str := ["plan"]
abbrev P_plan_lengths : List Str := ["plan"]
theorem sc_plan_lengths : FnScope N_plan_lengths P_plan_lengths (defScope s_plan_lengths) := ⟨rfl, rfl, rfl, by decide +kernel, rfl, by decide +kernel, by decide +kernel⟩
def spPlens (K : PySem.W.Frag) : Sp := fun vs H Q _ => ∃ (v : V) (p : Pl), vs = [v] ∧ PlAt K H v p ∧ pdep p ≤ 5 ∧ Ok p ∧ ∀ (out : List Int) l H', H l = none → Same H H' → H' l = some (.lst (out.map V.int)) → out.Pairwise (· < ·) → (∀ k, k ∈ out ↔ k ∈ lens p) → out.length ≤ 63 → Q (.ref l) H'
section
variable {P : Program} {w : World} {K : PySem.W.Frag} {mg : Str → Option Value} {base : Heap}
theorem ok_plens {f f0 f1 f2 : Addr} {fd d0 d1 d2 : FuncData} (F : Fun K "plan_lengths" "plan_lengths" s_plan_lengths f fd) (D_lengths_in : Df K mg "lengths_in" s_lengths_in P_lengths_in f0 d0) (D_plan_length : Df K mg "plan_length" s_plan_length P_plan_length f1 d1) (D_inner_plans : Df K mg "inner_plans" s_inner_plans P_inner_plans f2 d2) (T : Blt mg) : FnOk P w K mg base CX0 8 f fd P_plan_lengths (spPlens K) := by
  have G_lengths_in : FnOk P w K mg base CX0 7 f0 d0 P_lengths_in (spLens K 5) := ok_lens D_lengths_in D_plan_length D_inner_plans T 5
  have nd := sc_plan_lengths.nd
  refine F.ok sc_plan_lengths (fun vs H Q E h => ?_) (fun cdv A outer s H vs Q E hr h => ?_)
  · obtain ⟨v, p, rfl, _⟩ := h
    rfl
  · obtain ⟨v, p, rfl, hp, hd, ok, q⟩ := h
    refine ⟨_, (pss_one (ps_ret (pe_sortSet (by rfl) T.b_sorted (by rfl) T.b_set (pe_call G_lengths_in (hr.mono (by omega)) (by rfl) D_lengths_in.g D_lengths_in.F.kp D_lengths_in.b .nil pass0 (pa_cons (pv 0) pa_nil))))), ?_⟩
    have d5 : (5 : Nat) ≤ 5 := Nat.le_refl _
    walk_at "ev"
    intro l H1 hl sm1 hq1
    have hL : SqL K H1 l ((lens p).map V.int) := SqL.of hq1
    have h63 := lens_63 hd
    have h64 : (lens p).length ≤ 4000 := by omega
    refine ⟨l, lens p, rfl, hL, h64, ?_⟩
    intro out p2 hp2 hs hm hol
    generalize hG2 : upd _ p2 _ = H2
    obtain ⟨sm2, hq2⟩ := newO hG2 hp2
    exact q out p2 H2 (sm1.free hp2) (sm1.trans sm2) hq2 hs hm (by omega)
end
abbrev s_plan_depth : Stmt := top 25
abbrev N_plan_depth : List Str := ["plan", "inner", "part"]
abbrev P_plan_depth : List Str := ["plan"]
theorem sc_plan_depth : FnScope N_plan_depth P_plan_depth (defScope s_plan_depth) := ⟨rfl, rfl, rfl, by decide +kernel, rfl, by decide +kernel, by decide +kernel⟩
def spDep (K : PySem.W.Frag) (d : Nat) : Sp := fun vs H Q _ => ∃ (v : V) (p : Pl), vs = [v] ∧ PlAt K H v p ∧ pdep p ≤ d ∧ ∀ H', Same H H' → Q (.int (pdep p : Int)) H'
section
variable {P : Program} {w : World} {K : PySem.W.Frag} {mg : Str → Option Value} {base : Heap}
theorem pdep_step {f fI : Addr} {fd fdI : FuncData} {n : Nat} {spI : Sp} (D_plan_depth : Df K mg "plan_depth" s_plan_depth P_plan_depth f fd) (D_inner_plans : Df K mg "inner_plans" s_inner_plans P_inner_plans fI fdI) (T : Blt mg) (G_plan_depth : FnOk P w K mg base CX0 (n + 1) f fd P_plan_depth spI) (hG : ∀ m, n = m + 1 → spI = spDep K m) : FnOk P w K mg base CX0 (n + 2) f fd P_plan_depth (spDep K n) := by
  have G_inner_plans : FnOk P w K mg base CX0 1 fI fdI P_inner_plans (spInner K) := ok_inner D_inner_plans.F T
  have nd := sc_plan_depth.nd
  refine D_plan_depth.F.ok sc_plan_depth (fun vs H Q E h => ?_) (fun cdv A outer s H vs Q E hr h => ?_)
  · obtain ⟨v, p, rfl, _⟩ := h
    rfl
  · obtain ⟨v, p, rfl, hp, hd, q⟩ := h
    refine ⟨_, (pss_cons (ps_set (i := 1) nd rfl (Or.inl rfl) (pe_call G_inner_plans (hr.mono (by omega)) (by rfl) D_inner_plans.g D_inner_plans.F.kp D_inner_plans.b .nil pass0 (pa_cons (pv 0) pa_nil)))
      (pss_cons (ps_if (pt_not (pt_truth (pv 1) (by intro _; rfl))) (pss_one (ps_ret (pe_int))) pss_nil)
      (pss_one (ps_ret (pe_op op_add (pe_int) (pe_callB (r := rMax K) (cr_max rfl) (by rfl) T.b_max (by decide +kernel) (pa_cons (pe_lc (own := [("part", 2)]) (g := gName 2) (by rfl) nd (pi_list (pv 1)) (blkOk_by (own := [("part", 2)]) (N := N_plan_depth) (sc := defScope s_plan_depth) (by decide +kernel)) (fun _ _ _ _ _ => (pg_name (i := 2) nd rfl (Or.inl rfl))) (fun _ _ _ _ _ => pts_nil) (fun _ _ _ _ _ => (pe_call G_plan_depth (hr.mono (by omega)) (by rfl) D_plan_depth.g D_plan_depth.F.kp D_plan_depth.b .nil pass0 (pa_cons (pv 2) pa_nil)))) pa_nil))))))), ?_⟩
    walk_at "ev"
    intro xs l H1 hl0 sm1 hl1 hall
    have hL : SqL K H1 l xs := SqL.of hl1
    have htru : TruV K (.ref l) H1 (!xs.isEmpty) := .inl ⟨xs, hL, rfl⟩
    walk_at "ev"
    have hlen := hall.len
    cases xs with
    | nil =>
      have e0 : inn p = [] := List.eq_nil_of_length_eq_zero hlen.symm
      have e1 : pdep p = 0 := by
        cases p with
        | leaf _ _ => rfl
        | two _ _ _ => simp [inn] at e0
        | led _ _ _ => simp [inn] at e0
      walk_at "ev"
      have := q _ sm1
      rw [e1] at this
      exact this
    | cons x r =>
      have hne : (x :: r).isEmpty = false := rfl
      generalize x :: r = xs at *
      refine iteFe (by rw [hne]; rfl) ?_
      have hinn : inn p ≠ [] := fun z => by
        rw [z] at hlen
        have : xs = [] := List.eq_nil_of_length_eq_zero hlen
        rw [this] at hne
        exact Bool.noConfusion hne
      have hn : ∃ m, n = m + 1 := by
        cases n with
        | succ m => exact ⟨m, rfl⟩
        | zero =>
          exfalso
          apply hinn
          cases p with
          | leaf _ _ => rfl
          | two _ _ _ =>
            have : 1 + max _ _ ≤ 0 := hd
            omega
          | led _ _ _ =>
            have : 1 + pdep _ ≤ 0 := hd
            omega
      obtain ⟨m, rfl⟩ := hn
      have hS := hG m rfl
      subst hS
      have hL' : ∃ xs, SqL K H1 l xs := ⟨_, hL⟩
      have hl5 : xs.length ≤ 5 := by
        rw [hlen]
        cases p <;> simp [inn]
      walk_at "ev"
      intro D hD
      refine lc_list (K := K) (a := l) (xs := xs) (fun i H' => Hold (Same H1 H' ∧ H' D = some (.lst ((((inn p).take i).map fun q => (pdep q : Int)).map V.int)))) (.mk ⟨same_new hD, upd_same⟩) ?_ ?_ ?_
      · intro i H2 hi hP
        obtain ⟨sm2, hD2⟩ := hP.un
        exact sm2.seq hL
      · intro i x H2 hx hP
        obtain ⟨sm2, hD2⟩ := hP.un
        obtain ⟨pp, hpp, hat⟩ := hall.get hx
        have hat2 := hat.same sm2
        have hdp : pdep pp ≤ m := by
          have := inn_dep (List.mem_of_getElem? hpp)
          omega
        walk_at "ev"
        intro H3 sm3
        refine ⟨_, sm3 _ _ hD2, szm (by simp; omega), .mk ⟨same_mut (sm2.trans sm3) hD, ?_⟩⟩
        rw [upd_same, List.take_add_one, hpp, List.map_append, List.map_append]
        rfl
      · intro H2 hP
        obtain ⟨sm2, hD2⟩ := hP.un
        rw [hlen, List.take_length] at hD2
        refine ⟨D, _, rfl, SqL.of hD2, ?_, ?_⟩
        · rw [List.length_map]
          exact List.length_pos_iff.mpr hinn
        · intro mm hm hmx
          walk_at "ev"
          have := q _ (sm1.trans sm2)
          rw [← inn_max hm hmx] at this
          exact this
theorem ok_pdep {f fI : Addr} {fd fdI : FuncData} (D_plan_depth : Df K mg "plan_depth" s_plan_depth P_plan_depth f fd) (D_inner_plans : Df K mg "inner_plans" s_inner_plans P_inner_plans fI fdI) (T : Blt mg) : ∀ n : Nat, FnOk P w K mg base CX0 (n + 2) f fd P_plan_depth (spDep K n)
  | 0 => pdep_step (spI := fun _ _ _ _ => False) D_plan_depth D_inner_plans T ⟨fun _ _ _ _ h => h.elim, fun _ _ _ _ _ _ _ _ _ _ _ _ _ h => h.elim⟩ (fun m h => by omega)
  | n + 1 => pdep_step D_plan_depth D_inner_plans T (ok_pdep D_plan_depth D_inner_plans T n) (fun m h => by cases h; rfl)
end
/-! ### the ground of rests -/
abbrev restF (p g : Int) : List (Str × V) := [(("prime" : Str), .int p), (("base" : Str), .int g)]
def RestAt (C : Addr) (H : Hp) (a : Addr) (p : Int) : Prop := ∃ dx g, H a = some (.ins C dx (restF p g)) ∧ ∃ out, IsPf (p - 1) out ∧ LeastGen p g (erl p out)
theorem RestAt.same {C : Addr} {H H' : Hp} {a : Addr} {p : Int} (h : RestAt C H a p) (e : Same H H') : RestAt C H' a p := by
  obtain ⟨dx, g, h1, h2⟩ := h
  exact ⟨dx, g, e _ _ h1, h2⟩
theorem RestAt.keep {C b : Addr} {H H' : Hp} {a : Addr} {p : Int} (h : RestAt C H a p) (n : a ≠ b) (e : Keep b H H') : RestAt C H' a p := by
  obtain ⟨dx, g, h1, h2⟩ := h
  exact ⟨dx, g, e _ _ n h1, h2⟩
theorem RestAt.some {C : Addr} {H : Hp} {a : Addr} {p : Int} (h : RestAt C H a p) : ∃ o, H a = some o := by
  obtain ⟨dx, g, h1, h2⟩ := h
  exact ⟨_, h1⟩
abbrev s_Rests___init__ : Stmt := inClass (top 38) 0
abbrev N_Rests___init__ : List Str := ["self", "prime"]
abbrev P_Rests___init__ : List Str := ["self", "prime"]
theorem sc_Rests___init__ : FnScope N_Rests___init__ P_Rests___init__ (defScope s_Rests___init__) := ⟨rfl, rfl, rfl, by decide +kernel, rfl, by decide +kernel, by decide +kernel⟩
/-- Rests(v): a new one of each prime to ten thousand; BadGround of all else -/
def spRI (K : PySem.W.Frag) (C CB : Addr) : Sp := fun vs H Q E => ∃ (a dx : Addr) (v : V) (t : String), vs = [.ref a, v] ∧ H a = some (.ins C dx []) ∧ Kd K H v t ∧
  (∀ p, v = .int p → p ∈ prs 10000 → ∀ H', Keep a H H' → RestAt C H' a p → Q .non H') ∧
  ((¬ ∃ p, v = .int p ∧ p ∈ prs 10000) → ∀ d H', H d = none → Same H H' → H' d = some (.xd [(("what" : Str), v)]) → E (.ref CB) (some d) H')
structure RestC (K : PySem.W.Frag) (C : Addr) : Prop where
  cl : L2.Cls K C
  np : NoAttr K C "prime"
  nb : NoAttr K C "base"
section
variable {P : Program} {w : World} {K : PySem.W.Frag} {mg : Str → Option Value} {base : Heap}
theorem ok_ri {f f1 f2 f3 f4 f5 fI C CB CT : Addr} {fd d1 d2 d3 d4 d5 fdI : FuncData} {k : Nat} {tM : Tok} (F : Fun K "__init__" "Rests.__init__" s_Rests___init__ f fd) (T : Blt mg) (RC : RestC K C) (D_is_whole : Df K mg "is_whole" s_is_whole P_is_whole f1 d1) (D_factors : Df K mg "factors" s_factors P_factors f2 d2) (D_is_prime : Df K mg "is_prime" s_is_prime P_is_prime f3 d3)
    (D_power_rest : Df K mg "power_rest" s_power_rest P_power_rest f4 d4) (D_generator : Df K mg "generator" s_generator P_generator f5 d5) (M_MOST_PRIME : mg "MOST_PRIME" = some (.int 10000 tM)) (FI : Fun K "__init__" "TurnError.__init__" s_init fI fdI) (I_b : Binds K fdI N_init []) (I_ty : PySem.W.typeIn K (.ref fI) = some (.type "function"))
    (R : Ref K CT CB fI) (M_BadGround : mg "BadGround" = some (.ref CB)) : FnOk P w K mg base (L2.CX P w) (k + 3) f fd P_Rests___init__ (spRI K C CB) := by
  have G_is_whole : FnOk P w K mg base CX0 (k + 1) f1 d1 P_is_whole (spWhole K) := ok_whole D_is_whole.F T
  have G_is_prime : FnOk P w K mg base CX0 (k + 2) f3 d3 P_is_prime (spPrime K) := ok_prime D_is_prime.F T D_is_whole D_factors
  have G_generator : FnOk P w K mg base CX0 (k + 2) f5 d5 P_generator spGen := ok_generator D_generator.F T D_factors D_power_rest
  have G_init : FnOk P w K mg base CX0 1 fI fdI N_init (spInit K) := ok_init FI
  have EK_BadGround := R.ek
  have II_BadGround := R.ini
  have nd := sc_Rests___init__.nd
  refine F.okX sc_Rests___init__ (fun vs H Q E h => ?_) (fun cdv A outer s H vs Q E hr h => ?_)
  · obtain ⟨a, dx, v, t, rfl, _⟩ := h
    rfl
  · obtain ⟨a, dx, v, t, rfl, ha, kd, qy, qn⟩ := h
    refine ⟨_, (pss_cons (ps_if (PW.pt (pw_or (pt_not (pt_val (pe_call G_is_whole (hr.mono (by omega)) (by rfl) D_is_whole.g D_is_whole.F.kp D_is_whole.b .nil pass0 (pa_cons (pv 1) pa_nil)))) (pw_or (pt_cmpR op_gt (pv 1) (pe_glob (v := .int 10000) (by rfl) M_MOST_PRIME ⟨_, rfl⟩) (nomark _)) (pw_or1 (pt_not (pt_val (pe_call G_is_prime (hr.mono (by omega)) (by rfl) D_is_prime.g D_is_prime.F.kp D_is_prime.b .nil pass0 (pa_cons (pv 1) pa_nil)))))))) (pss_one (ps_raise rfl (takes_of rfl rfl rfl rfl) (pmk_oex EK_BadGround.oex II_BadGround I_ty G_init (hr.mono (by omega)) I_b .nil pass0 (by rfl) M_BadGround (pa_cons (pv 1) pa_nil)))) pss_nil)
      (pss_cons (ps_fld (pv 0) (pv 1) (by rfl))
      (pss_one (ps_fld (pv 0) (pe_call G_generator (hr.mono (by omega)) (by rfl) D_generator.g D_generator.F.kp D_generator.b .nil pass0 (pa_cons (pv 1) pa_nil)) (by rfl))))), ?_⟩
    obtain ⟨cl, np, nb⟩ := RC
    have bad : ∀ H1, Same H H1 → (¬ ∃ p, v = .int p ∧ p ∈ prs 10000) → ∀ z, H1 z = none → _ := fun H1 sm1 no => mk_what (v := v) (Q := E) R.ek fun d H2 hd sm2 hq => qn no d H2 (sm1.free hd) (sm1.trans sm2) hq
    walk_at "ev"
    cases kd with
    | int p =>
      walk_at "ev"
      refine ite2 (fun e => ?_) (fun e => ?_)
      · have e1 : 10000 < p := of_decide_eq_true e
        refine ⟨_, rfl, (by show 1 ≤ 1000; decide), bad _ (Same.refl _) ?_⟩
        rintro ⟨p', h1, h2⟩
        cases h1
        have := (prs_iff.mp h2).1
        omega
      · have e1 : ¬ 10000 < p := fun z => e (decide_eq_true z)
        have kdp : Kd K H (.int p) "int" := .int p
        have bnd : ∀ n, V.int p = .int n → n ≤ 1000000000 := fun n z => by
          cases z
          omega
        walk_at "ev"
        intro b H1 sm1 hb
        walk_at "ev"
        cases b with
        | false =>
          have no : ¬ ∃ q, V.int p = .int q ∧ q ∈ prs 10000 := by
            rintro ⟨p', h1, h2⟩
            cases h1
            exact Bool.noConfusion (hb.mpr ⟨p, rfl, (prs_iff.mp h2).2⟩)
          walk_at "ev"
          exact bad _ sm1 no
        | true =>
          obtain ⟨p', h1, h2⟩ := hb.mp rfl
          cases h1
          have hp : p ∈ prs 10000 := prs_iff.mpr ⟨by omega, h2⟩
          obtain ⟨p2, p6, fs, out, g0, hf, hso, hmo, hpf, g1, gp, gok⟩ := gen_prs hp
          have ha1 := sm1 _ _ ha
          walk_at "ev"
          generalize hG : upd H1 a _ = H2
          obtain ⟨k2, hq2⟩ := mutO hG
          clear hG
          walk_at "ev"
          intro g H3 sm3 hg
          have ha3 := sm3 _ _ hq2
          walk_at "ev"
          refine ⟨(by show 1 < 1000; decide), ?_⟩
          exact qy p rfl hp _ (((keepS sm1).trans (k2.trans (keepS sm3))).trans (keep_upd (Keep.refl _ _))) ⟨dx, g, upd_same, out, hpf, hg⟩
    | _ =>
      walk_at "ev"
      refine bad _ (Same.refl _) ?_
      rintro ⟨p', h1, h2⟩
      cases h1
end
abbrev s_Rests_has_root : Stmt := inClass (top 38) 4
abbrev N_Rests_has_root : List Str := ["self", "length"]
abbrev P_Rests_has_root : List Str := ["self", "length"]
theorem sc_Rests_has_root : FnScope N_Rests_has_root P_Rests_has_root (defScope s_Rests_has_root) := ⟨rfl, rfl, rfl, by decide +kernel, rfl, by decide +kernel, by decide +kernel⟩
def sp_hasroot (C : Addr) : Sp := fun vs H Q _ => ∃ (a : Addr) (p l : Int), vs = [.ref a, .int l] ∧ RestAt C H a p ∧ 1 ≤ l ∧ l ≤ 1000000 ∧ Q (.bl (decide ((p - 1) % l = 0))) H
section
variable {P : Program} {w : World} {K : PySem.W.Frag} {mg : Str → Option Value} {base : Heap}
theorem ok_hasroot {f C : Addr} {fd : FuncData} {k : Nat} (F : Fun K "has_root" "Rests.has_root" s_Rests_has_root f fd) (RC : RestC K C) : FnOk P w K mg base CX0 (k + 1) f fd P_Rests_has_root (sp_hasroot C) := by
  have nd := sc_Rests_has_root.nd
  refine F.ok sc_Rests_has_root (fun vs H Q E h => ?_) (fun cdv A outer s H vs Q E hr h => ?_)
  · obtain ⟨a, p, l, rfl, _⟩ := h
    rfl
  · obtain ⟨a, p, l, rfl, ⟨dx, g, ha, hg⟩, l1, l6, q⟩ := h
    refine ⟨_, (pss_one (ps_ret (pe_and (pe_cmpR op_gt (pv 1) (pe_int) (nomark _)) (pe_one (pe_cmpR op_eq (pe_op op_mod (pe_op op_sub (pe_fld (pv 0) (by rfl)) (pe_int)) (pv 1)) (pe_int) (nomark _)))))), ?_⟩
    obtain ⟨cl, np, nb⟩ := RC
    have c1 : decide ((0 : Int) < l) = true := decide_eq_true (by omega)
    walk_at "ev"
    refine iteTe c1 ?_
    walk_at "ev"
    have e : decide (V.int ((p - 1) % l) = V.int 0) = decide ((p - 1) % l = 0) := by
      exact decide_eq_decide.mpr ⟨fun h => V.int.inj h, fun h => congrArg V.int h⟩
    rw [e]
    exact q
end
local macro_rules | `(tactic| walk_at "ev1") => `(tactic| ((first | with_reducible show ClsV _ _ | with_reducible show Paired ClsV _ _); first | exact ClsV.own _ | exact ClsV.ty _ | exact .cons (.own _) (.cons (.own _) .nil) | exact .cons (.own _) (.cons (.own _) (.cons (.own _) .nil))))
/-! ### the ground of exact roots -/
theorem whl_last : ∀ n < 31, 1 ≤ n → 2 ≤ (whl n).length ∧ (whl n).length ≤ 31 ∧ (whl n).getD ((whl n).length - 1) 0 = 1 := by decide +kernel
theorem whl_bd1 : ∀ n < 31, ∀ x ∈ whl n, x.natAbs ≤ 1 := by decide +kernel
abbrev rootF (n : Nat) (r : Addr) : List (Str × V) := [(("order" : Str), .int (n : Int)), (("rim" : Str), .ref r)]
def RootAt (C : Addr) (H : Hp) (a : Addr) (n : Nat) : Prop := ∃ dx r, H a = some (.ins C dx (rootF n r)) ∧ H r = some (.tup ((whl n).map V.int))
theorem RootAt.same {C : Addr} {H H' : Hp} {a : Addr} {n : Nat} (h : RootAt C H a n) (e : Same H H') : RootAt C H' a n := by
  obtain ⟨dx, r, h1, h2⟩ := h
  exact ⟨dx, r, e _ _ h1, e _ _ h2⟩
theorem RootAt.keep {C b : Addr} {H H' : Hp} {a : Addr} {n : Nat} {c : Int} (h : RootAt C H a n) (hb : BoxAt H b c) (e : Keep b H H') : RootAt C H' a n := by
  obtain ⟨dx, r, h1, h2⟩ := h
  obtain ⟨x, y, z, b1, _⟩ := hb
  exact ⟨dx, r, e _ _ (fun w => by rw [w, b1] at h1; cases h1) h1, e _ _ (fun w => by rw [w, b1] at h2; cases h2) h2⟩
theorem RootAt.some {C : Addr} {H : Hp} {a : Addr} {n : Nat} (h : RootAt C H a n) : ∃ o, H a = some o := by
  obtain ⟨dx, r, h1, h2⟩ := h
  exact ⟨_, h1⟩
structure RootC (K : PySem.W.Frag) (C : Addr) : Prop where
  cl : L2.Cls K C
  no : NoAttr K C "order"
  nr : NoAttr K C "rim"
abbrev s_Roots___init__ : Stmt := inClass (top 43) 0
abbrev N_Roots___init__ : List Str := ["self", "order"]
abbrev P_Roots___init__ : List Str := ["self", "order"]
theorem sc_Roots___init__ : FnScope N_Roots___init__ P_Roots___init__ (defScope s_Roots___init__) := ⟨rfl, rfl, rfl, by decide +kernel, rfl, by decide +kernel, by decide +kernel⟩
/-- Roots(v): a new one of each order to thirty; BadGround of all else -/
def spRoI (K : PySem.W.Frag) (C CB : Addr) : Sp := fun vs H Q E => ∃ (a dx : Addr) (v : V) (t : String), vs = [.ref a, v] ∧ H a = some (.ins C dx []) ∧ Kd K H v t ∧
  (∀ n : Nat, v = .int (n : Int) → 1 ≤ n → n < 31 → ∀ H', Keep a H H' → RootAt C H' a n → Q .non H') ∧
  ((¬ ∃ n : Nat, v = .int (n : Int) ∧ 1 ≤ n ∧ n < 31) → ∀ d H', H d = none → Same H H' → H' d = some (.xd [(("what" : Str), v)]) → E (.ref CB) (some d) H')
section
variable {P : Program} {w : World} {K : PySem.W.Frag} {mg : Str → Option Value} {base : Heap}
theorem ok_roi {f f1 f2 f3 f4 fI C CB CT : Addr} {fd d1 d2 d3 d4 fdI : FuncData} {tM : Tok} (F : Fun K "__init__" "Roots.__init__" s_Roots___init__ f fd) (T : Blt mg) (RC : RootC K C) (D_is_whole : Df K mg "is_whole" s_is_whole P_is_whole f1 d1) (D_wheel : Df K mg "wheel" s_wheel P_wheel f2 d2) (D_divisors : Df K mg "divisors" s_divisors P_divisors f3 d3) (D_divided : Df K mg "divided" s_divided P_divided f4 d4)
    (M_MOST_ORDER : mg "MOST_ORDER" = some (.int 30 tM)) (FI : Fun K "__init__" "TurnError.__init__" s_init fI fdI) (I_b : Binds K fdI N_init []) (I_ty : PySem.W.typeIn K (.ref fI) = some (.type "function"))
    (R : Ref K CT CB fI) (M_BadGround : mg "BadGround" = some (.ref CB)) : FnOk P w K mg base (L2.CX P w) 7 f fd P_Roots___init__ (spRoI K C CB) := by
  have G_is_whole : FnOk P w K mg base CX0 1 f1 d1 P_is_whole (spWhole K) := ok_whole D_is_whole.F T
  have G_wheel : FnOk P w K mg base CX0 6 f2 d2 P_wheel (spWheel 5) := ok_wheel D_wheel T D_divisors D_divided 5
  have G_init : FnOk P w K mg base CX0 1 fI fdI N_init (spInit K) := ok_init FI
  have EK_BadGround := R.ek
  have II_BadGround := R.ini
  have nd := sc_Roots___init__.nd
  refine F.okX sc_Roots___init__ (fun vs H Q E h => ?_) (fun cdv A outer s H vs Q E hr h => ?_)
  · obtain ⟨a, dx, v, t, rfl, _⟩ := h
    rfl
  · obtain ⟨a, dx, v, t, rfl, ha, kd, qy, qn⟩ := h
    refine ⟨_, (pss_cons (ps_if (PW.pt (pw_or (pt_not (pt_val (pe_call G_is_whole (hr.mono (by omega)) (by rfl) D_is_whole.g D_is_whole.F.kp D_is_whole.b .nil pass0 (pa_cons (pv 1) pa_nil)))) (pw_or (pt_cmpR op_lt (pv 1) (pe_int) (nomark _)) (pw_or1 (pt_cmpR op_gt (pv 1) (pe_glob (v := .int 30) (by rfl) M_MOST_ORDER ⟨_, rfl⟩) (nomark _)))))) (pss_one (ps_raise rfl (takes_of rfl rfl rfl rfl) (pmk_oex EK_BadGround.oex II_BadGround I_ty G_init (hr.mono (by omega)) I_b .nil pass0 (by rfl) M_BadGround (pa_cons (pv 1) pa_nil)))) pss_nil)
      (pss_cons (ps_fld (pv 0) (pv 1) (by rfl))
      (pss_one (ps_fld (pv 0) (pe_callTy call_tuple_of (by rfl) T.b_tuple (by decide +kernel) (pa_cons (pe_call G_wheel (hr.mono (by omega)) (by rfl) D_wheel.g D_wheel.F.kp D_wheel.b .nil pass0 (pa_cons (pv 1) pa_nil)) pa_nil)) (by rfl))))), ?_⟩
    obtain ⟨cl, no, nr⟩ := RC
    have bad : ∀ H1, Same H H1 → (¬ ∃ n : Nat, v = .int (n : Int) ∧ 1 ≤ n ∧ n < 31) → ∀ z, H1 z = none → _ := fun H1 sm1 no => mk_what (v := v) (Q := E) R.ek fun d H2 hd sm2 hq => qn no d H2 (sm1.free hd) (sm1.trans sm2) hq
    walk_at "ev"
    cases kd with
    | int p =>
      walk_at "ev"
      refine ite2 (fun e => ?_) (fun e => ?_)
      · have e1 : p < 1 := of_decide_eq_true e
        refine ⟨_, rfl, (by show 1 ≤ 1000; decide), bad _ (Same.refl _) ?_⟩
        rintro ⟨n, h1, h2, h3⟩
        cases h1
        omega
      · have e1 : ¬ p < 1 := fun z => e (decide_eq_true z)
        walk_at "ev"
        refine ite2 (fun e2 => ?_) (fun e2 => ?_)
        · have e3 : 30 < p := of_decide_eq_true e2
          refine ⟨_, rfl, (by show 1 ≤ 1000; decide), bad _ (Same.refl _) ?_⟩
          rintro ⟨n, h1, h2, h3⟩
          cases h1
          omega
        · have e3 : ¬ 30 < p := fun z => e2 (decide_eq_true z)
          obtain ⟨n, rfl⟩ := Int.eq_ofNat_of_zero_le (show 0 ≤ p by omega)
          have n1 : 1 ≤ n := by omega
          have n31 : n < 31 := by omega
          have n32 : n < 2 ^ 5 := by omega
          walk_at "ev"
          generalize hG : upd H a _ = H2
          obtain ⟨k2, hq2⟩ := mutO hG
          clear hG
          walk_at "ev"
          intro l H3 hl sm3 hq3
          walk_at "ev"
          refine .inl ⟨SqL.of hq3, ?_⟩
          w_cond _4
          have ha4 := (sm3.trans sm4) _ _ hq2
          have na4 : l4 ≠ a := (ne_of_none (sm3 _ _ hq2) hl4).symm
          walk_at "ev"
          refine ⟨(by show 1 < 1000; decide), ?_⟩
          exact qy n rfl n1 n31 _ ((k2.trans (keepS (sm3.trans sm4))).trans (keep_upd (Keep.refl _ _))) ⟨dx, l4, upd_same, by rw [upd_ne na4]; exact hq4⟩
    | _ =>
      walk_at "ev"
      refine bad _ (Same.refl _) ?_
      rintro ⟨n, h1, h2⟩
      cases h1
end
abbrev s_Roots_has_root : Stmt := inClass (top 43) 4
abbrev N_Roots_has_root : List Str := ["self", "length"]
abbrev P_Roots_has_root : List Str := ["self", "length"]
theorem sc_Roots_has_root : FnScope N_Roots_has_root P_Roots_has_root (defScope s_Roots_has_root) := ⟨rfl, rfl, rfl, by decide +kernel, rfl, by decide +kernel, by decide +kernel⟩
def spHasR (C : Addr) : Sp := fun vs H Q _ => ∃ (a : Addr) (n L : Nat), vs = [.ref a, .int (L : Int)] ∧ RootAt C H a n ∧ 1 ≤ L ∧ L ≤ 1000 ∧ Q (.bl (decide (n % L = 0))) H
section
variable {P : Program} {w : World} {K : PySem.W.Frag} {mg : Str → Option Value} {base : Heap}
theorem ok_hasR {f C : Addr} {fd : FuncData} {k : Nat} (F : Fun K "has_root" "Roots.has_root" s_Roots_has_root f fd) (RC : RootC K C) : FnOk P w K mg base CX0 (k + 1) f fd P_Roots_has_root (spHasR C) := by
  have nd := sc_Roots_has_root.nd
  refine F.ok sc_Roots_has_root (fun vs H Q E h => ?_) (fun cdv A outer s H vs Q E hr h => ?_)
  · obtain ⟨a, n, L, rfl, _⟩ := h
    rfl
  · obtain ⟨a, n, L, rfl, ⟨dx, r, ha, hrm⟩, L1, L2', q⟩ := h
    refine ⟨_, (pss_one (ps_ret (pe_and (pe_cmpR op_gt (pv 1) (pe_int) (nomark _)) (pe_one (pe_cmpR op_eq (pe_op op_mod (pe_fld (pv 0) (by rfl)) (pv 1)) (pe_int) (nomark _)))))), ?_⟩
    obtain ⟨cl, no, nr⟩ := RC
    have c1 : decide ((0 : Int) < (L : Int)) = true := decide_eq_true (by omega)
    walk_at "ev"
    refine iteTe c1 ?_
    walk_at "ev"
    have e : decide (V.int ((n : Int) % (L : Int)) = V.int 0) = decide (n % L = 0) := by
      exact decide_eq_decide.mpr ⟨fun h => by have := V.int.inj h; omega, fun h => congrArg V.int (by omega)⟩
    rw [e]
    exact q
end
theorem keep_mk {x dx C : Addr} {H H' : Hp} (hx : H x = none) (hd : H dx = none) (h : Keep x (upd (upd H dx (.own x)) x (.ins C dx [])) H') : Same H H' := fun b o e => by
  have n1 := ne_of_none e hx
  refine h b o n1 ?_
  rw [upd_ne n1, upd_ne (ne_of_none e hd)]
  exact e
theorem prL_in : ∀ x ∈ prL, x ∈ prs 10000 := by
  have h : ∀ x ∈ prL, ∃ j : Nat, x = (j : Int) ∧ 2 ≤ j ∧ j ≤ 10000 ∧ pk 10001 j = true := by
    intro x hx
    simp only [prL, List.mem_cons, List.not_mem_nil, or_false] at hx
    rcases hx with z | z | z | z | z | z | z | z | z | z | z | z | z | z | z | z | z | z <;> subst z
    · exact ⟨97, rfl, by decide, by decide, by decide +kernel⟩
    · exact ⟨13, rfl, by decide, by decide, by decide +kernel⟩
    · exact ⟨31, rfl, by decide, by decide, by decide +kernel⟩
    · exact ⟨37, rfl, by decide, by decide, by decide +kernel⟩
    · exact ⟨61, rfl, by decide, by decide, by decide +kernel⟩
    · exact ⟨73, rfl, by decide, by decide, by decide +kernel⟩
    · exact ⟨181, rfl, by decide, by decide, by decide +kernel⟩
    · exact ⟨241, rfl, by decide, by decide, by decide +kernel⟩
    · exact ⟨337, rfl, by decide, by decide, by decide +kernel⟩
    · exact ⟨421, rfl, by decide, by decide, by decide +kernel⟩
    · exact ⟨257, rfl, by decide, by decide, by decide +kernel⟩
    · exact ⟨2521, rfl, by decide, by decide, by decide +kernel⟩
    · exact ⟨41, rfl, by decide, by decide, by decide +kernel⟩
    · exact ⟨17, rfl, by decide, by decide, by decide +kernel⟩
    · exact ⟨7, rfl, by decide, by decide, by decide +kernel⟩
    · exact ⟨5, rfl, by decide, by decide, by decide +kernel⟩
    · exact ⟨3, rfl, by decide, by decide, by decide +kernel⟩
    · exact ⟨2, rfl, by decide, by decide, by decide +kernel⟩
  intro x hx
  exact mem_prs.mpr (h x hx)
/-- a ground of either kind -/
def GrAt (C1 C2 : Addr) (H : Hp) (a : Addr) : Gk → Prop
  | .rests p => RestAt C1 H a p
  | .roots n => RootAt C2 H a n
theorem GrAt.same {C1 C2 : Addr} {H H' : Hp} {a : Addr} {g : Gk} (h : GrAt C1 C2 H a g) (e : Same H H') : GrAt C1 C2 H' a g := by
  cases g with
  | rests p => exact RestAt.same h e
  | roots n => exact RootAt.same h e
theorem GrAt.keep {C1 C2 : Addr} {H H' : Hp} {a b : Addr} {c : Int} {g : Gk} (h : GrAt C1 C2 H a g) (hb : BoxAt H b c) (e : Keep b H H') : GrAt C1 C2 H' a g := by
  cases g with
  | rests p =>
    obtain ⟨x, y, z, b1, _⟩ := hb
    refine RestAt.keep h (fun w => ?_) e
    obtain ⟨dx, gg, h1, h2⟩ := h
    rw [w, b1] at h1
    cases h1
  | roots n => exact RootAt.keep h hb e
theorem GrAt.mut {C1 C2 : Addr} {H : Hp} {a D : Addr} {g : Gk} {xs : List V} {o : HO} (h : GrAt C1 C2 H a g) (e : H D = some (.lst xs)) : GrAt C1 C2 (upd H D o) a g := by
  cases g with
  | rests p =>
    obtain ⟨dx, gg, h1, h2⟩ := h
    exact ⟨dx, gg, by rw [upd_ne (fun z => by rw [z, e] at h1; cases h1)]; exact h1, h2⟩
  | roots n =>
    obtain ⟨dx, r, h1, h2⟩ := h
    exact ⟨dx, r, by rw [upd_ne (fun z => by rw [z, e] at h1; cases h1)]; exact h1, by rw [upd_ne (fun z => by rw [z, e] at h2; cases h2)]; exact h2⟩
/-- all that the grounds' classes have -/
structure G23 (K : PySem.W.Frag) (mg : Str → Option Value) (CT CB C1 C2 fI : Addr) (fdI : FuncData) : Prop where
  F : Fun K "__init__" "TurnError.__init__" s_init fI fdI
  b : Binds K fdI N_init []
  ty : PySem.W.typeIn K (.ref fI) = some (.type "function")
  RB : Ref K CT CB fI
  mb : mg "BadGround" = some (.ref CB)
  R1 : RestC K C1
  R2 : RootC K C2
  m1 : mg "Rests" = some (.ref C1)
  m2 : mg "Roots" = some (.ref C2)
  p1 : ∃ t, mg "MOST_PRIME" = some (.int 10000 t)
  p2 : ∃ t, mg "MOST_ORDER" = some (.int 30 t)
  k1 : ∃ f fd, Mk K C1 f ∧ Fun K "__init__" "Rests.__init__" s_Rests___init__ f fd ∧ Binds K fd P_Rests___init__ []
  k2 : ∃ f fd, Mk K C2 f ∧ Fun K "__init__" "Roots.__init__" s_Roots___init__ f fd ∧ Binds K fd P_Roots___init__ []
  h1 : ∃ f fd, Fun K "has_root" "Rests.has_root" s_Rests_has_root f fd ∧ Binds K fd P_Rests_has_root [] ∧ Meth K C1 "has_root" f
  h2 : ∃ f fd, Fun K "has_root" "Roots.has_root" s_Roots_has_root f fd ∧ Binds K fd P_Roots_has_root [] ∧ Meth K C2 "has_root" f
abbrev s__law_made : Stmt := top 56
abbrev N__law_made : List Str := ["_law_world_here"]
abbrev P__law_made : List Str := ["_law_world_here"]
theorem sc__law_made : FnScope N__law_made P__law_made (defScope s__law_made) := ⟨rfl, rfl, rfl, by decide +kernel, rfl, by decide +kernel, by decide +kernel⟩
def spMade (C1 C2 : Addr) : Sp := fun vs H Q _ => ∃ (b d : Addr) (g : Gk), vs = [.ref d] ∧ WdM H b d g ∧ ∀ a H', H a = none → Same H H' → GrAt C1 C2 H' a g → Q (.ref a) H'
section
variable {P : Program} {w : World} {K : PySem.W.Frag} {mg : Str → Option Value} {base : Heap}
theorem ok_made {f f1 f2 f3 f4 f5 f6 f7 f8 CT CB C1 C2 fI : Addr} {fd d1 d2 d3 d4 d5 d6 d7 d8 fdI : FuncData} (F : Fun K "_law_made" "_law_made" s__law_made f fd) (T : Blt mg) (S : G23 K mg CT CB C1 C2 fI fdI) (D_is_whole : Df K mg "is_whole" s_is_whole P_is_whole f1 d1) (D_factors : Df K mg "factors" s_factors P_factors f2 d2) (D_is_prime : Df K mg "is_prime" s_is_prime P_is_prime f3 d3)
    (D_power_rest : Df K mg "power_rest" s_power_rest P_power_rest f4 d4) (D_generator : Df K mg "generator" s_generator P_generator f5 d5) (D_wheel : Df K mg "wheel" s_wheel P_wheel f6 d6) (D_divisors : Df K mg "divisors" s_divisors P_divisors f7 d7) (D_divided : Df K mg "divided" s_divided P_divided f8 d8) : FnOk P w K mg base CX0 9 f fd P__law_made (spMade C1 C2) := by
  obtain ⟨t1, M_MOST_PRIME⟩ := S.p1
  obtain ⟨t2, M_MOST_ORDER⟩ := S.p2
  obtain ⟨fM, dM, MK_Rests, FM, B_Rests___init__⟩ := S.k1
  obtain ⟨fN, dN, MK_Roots, FN, B_Roots___init__⟩ := S.k2
  have M_Rests := S.m1
  have M_Roots := S.m2
  have G_Rests___init__ : FnOk P w K mg base (L2.CX P w) 3 fM dM P_Rests___init__ (spRI K C1 CB) := ok_ri FM T S.R1 D_is_whole D_factors D_is_prime D_power_rest D_generator M_MOST_PRIME S.F S.b S.ty S.RB S.mb
  have G_Roots___init__ : FnOk P w K mg base (L2.CX P w) 7 fN dN P_Roots___init__ (spRoI K C2 CB) := ok_roi FN T S.R2 D_is_whole D_wheel D_divisors D_divided M_MOST_ORDER S.F S.b S.ty S.RB S.mb
  have nd := sc__law_made.nd
  refine F.ok sc__law_made (fun vs H Q E h => ?_) (fun cdv A outer s H vs Q E hr h => ?_)
  · obtain ⟨b, d, g, rfl, _⟩ := h
    rfl
  · obtain ⟨b, d, g, rfl, hW, q⟩ := h
    refine ⟨_, (pss_one (ps_ret (pe_ifExp (pt_cmpR op_eq (pe_dget (du hr) (pv 0) (pe_str) (fun _ _ => rfl)) (pe_str) (nomark _)) (pe_make MK_Rests G_Rests___init__ (hr.mono (by omega)) (by rfl) M_Rests B_Rests___init__ .nil passL (pa_cons (pe_dget (du hr) (pv 0) (pe_str) (fun _ _ => rfl)) pa_nil)) (pe_make MK_Roots G_Roots___init__ (hr.mono (by omega)) (by rfl) M_Roots B_Roots___init__ .nil passL (pa_cons (pe_dget (du hr) (pv 0) (pe_str) (fun _ _ => rfl)) pa_nil))))), ?_⟩
    cases g with
    | rests p =>
      obtain ⟨h1, h2, gg, h3⟩ := hW
      obtain ⟨g1, g2⟩ := dget_r h3
      have hpm := prL_in p h2
      walk_at "ev"
      intro x dx hx hd ne
      refine ⟨x, dx, .int p, "int", rfl, upd_same, .int p, fun p' ep hp' H6 k6 hR6 => ⟨rfl, ?_⟩, fun no => absurd ⟨p, rfl, hpm⟩ no⟩
      cases ep
      exact q x _ hx (keep_mk hx hd k6) hR6
    | roots n =>
      obtain ⟨h1, h2, h3, ll, h4⟩ := hW
      obtain ⟨g1, g2, g3⟩ := dget_w h4
      walk_at "ev"
      intro x dx hx hd ne
      refine ⟨x, dx, .int n, "int", rfl, upd_same, .int n, fun n' en n1 n31 H6 k6 hR6 => ⟨rfl, ?_⟩, fun no => absurd ⟨n, rfl, h2, h3⟩ no⟩
      have en' : n' = n := by
        have := V.int.inj en
        omega
      subst en'
      exact q x _ hx (keep_mk hx hd k6) hR6
end
def fitD (g : Gk) (p : Pl) : Bool := (lens p).all fun x => decide (numM g % x = 0)
theorem lens_ok : ∀ {p : Pl}, Ok p → ∀ x ∈ lens p, 1 ≤ x ∧ x ≤ 1000
  | .leaf _ n, h, x, hx => by
    rw [List.mem_singleton.mp hx]
    exact h
  | .two _ a b, h, x, hx => by
    obtain ⟨h1, h2, h3, h4⟩ := h
    rcases List.mem_cons.mp hx with z | z
    · rw [z]
      exact ⟨h3, h4⟩
    · rcases List.mem_append.mp z with z | z
      · exact lens_ok h1 x z
      · exact lens_ok h2 x z
  | .led _ n a, h, x, hx => by
    obtain ⟨h1, h2, h3⟩ := h
    rcases List.mem_cons.mp hx with z | z
    · rw [z]
      exact ⟨h1, h2⟩
    · exact lens_ok h3 x z
theorem all_iff {a b : List Int} {f : Int → Bool} (h : ∀ k, k ∈ a ↔ k ∈ b) : a.all f = b.all f := by
  rw [Bool.eq_iff_iff, List.all_eq_true, List.all_eq_true]
  exact ⟨fun z x hx => z x ((h x).mpr hx), fun z x hx => z x ((h x).mp hx)⟩
abbrev s_plan_fits : Stmt := top 24
abbrev N_plan_fits : List Str := ["ground", "plan", "length"]
abbrev P_plan_fits : List Str := ["ground", "plan"]
theorem sc_plan_fits : FnScope N_plan_fits P_plan_fits (defScope s_plan_fits) := ⟨rfl, rfl, rfl, by decide +kernel, rfl, by decide +kernel, by decide +kernel⟩
def spPf (K : PySem.W.Frag) (C1 C2 : Addr) : Sp := fun vs H Q _ => ∃ (a : Addr) (g : Gk) (v : V) (p : Pl), vs = [.ref a, v] ∧ GrAt C1 C2 H a g ∧ PlAt K H v p ∧ pdep p ≤ 5 ∧ Ok p ∧ ∀ H', Same H H' → Q (.bl (fitD g p)) H'
def spPf1 (K : PySem.W.Frag) (C1 : Addr) : Sp := fun vs H Q _ => ∃ (a : Addr) (q : Int) (v : V) (p : Pl), vs = [.ref a, v] ∧ RestAt C1 H a q ∧ PlAt K H v p ∧ pdep p ≤ 5 ∧ Ok p ∧ ∀ H', Same H H' → Q (.bl (fitD (.rests q) p)) H'
def spPf2 (K : PySem.W.Frag) (C2 : Addr) : Sp := fun vs H Q _ => ∃ (a : Addr) (q : Nat) (v : V) (p : Pl), vs = [.ref a, v] ∧ RootAt C2 H a q ∧ PlAt K H v p ∧ pdep p ≤ 5 ∧ Ok p ∧ ∀ H', Same H H' → Q (.bl (fitD (.roots q) p)) H'
section
variable {P : Program} {w : World} {K : PySem.W.Frag} {mg : Str → Option Value} {base : Heap}
theorem ok_pf1 {f f0 f1 f2 f3 f4 C1 : Addr} {fd d0 d1 d2 d3 d4 : FuncData} (F : Fun K "plan_fits" "plan_fits" s_plan_fits f fd) (T : Blt mg) (D_plan_lengths : Df K mg "plan_lengths" s_plan_lengths P_plan_lengths f0 d0) (D_lengths_in : Df K mg "lengths_in" s_lengths_in P_lengths_in f1 d1) (D_plan_length : Df K mg "plan_length" s_plan_length P_plan_length f2 d2) (D_inner_plans : Df K mg "inner_plans" s_inner_plans P_inner_plans f3 d3)
    (R1 : RestC K C1) (F4 : Fun K "has_root" "Rests.has_root" s_Rests_has_root f4 d4) (B_Rests_has_root : Binds K d4 P_Rests_has_root []) (ME_Rests_has_root : Meth K C1 "has_root" f4) : FnOk P w K mg base CX0 9 f fd P_plan_fits (spPf1 K C1) := by
  have G_plan_lengths : FnOk P w K mg base CX0 8 f0 d0 P_plan_lengths (spPlens K) := ok_plens D_plan_lengths.F D_lengths_in D_plan_length D_inner_plans T
  have G_Rests_has_root : FnOk P w K mg base CX0 1 f4 d4 P_Rests_has_root (sp_hasroot C1) := ok_hasroot F4 R1
  have CL_Rests := R1.cl
  have nd := sc_plan_fits.nd
  refine F.ok sc_plan_fits (fun vs H Q E h => ?_) (fun cdv A outer s H vs Q E hr h => ?_)
  · obtain ⟨a, g, v, p, rfl, _⟩ := h
    rfl
  · obtain ⟨a, g, v, p, rfl, hR, hp, hd, ok, q⟩ := h
    refine ⟨_, (pss_one (ps_ret (pe_callB (r := rAll K) (cr_all rfl) (by rfl) T.b_all (by decide +kernel) (pa_cons (pe_lc (own := [("length", 2)]) (g := gName 2) (by rfl) nd (pi_list (pe_call G_plan_lengths (hr.mono (by omega)) (by rfl) D_plan_lengths.g D_plan_lengths.F.kp D_plan_lengths.b .nil pass0 (pa_cons (pv 1) pa_nil))) (blkOk_by (own := [("length", 2)]) (N := N_plan_fits) (sc := defScope s_plan_fits) (by decide +kernel)) (fun _ _ _ _ _ => (pg_name (i := 2) nd rfl (Or.inl rfl))) (fun _ _ _ _ _ => pts_nil) (fun _ _ _ _ _ => (pe_meth (pv 0) CL_Rests ME_Rests_has_root G_Rests_has_root (hr.mono (by omega)) B_Rests_has_root .nil pass0 (pa_cons (pv 2) pa_nil)))) pa_nil)))), ?_⟩
    walk_at "ev"
    intro out l H1 hl sm1 hq1 hso hmo hlo
    have hL := SqL.of (K := K) hq1
    have ea : out.all (fun x => decide ((g - 1) % x = 0)) = fitD (.rests g) p := all_iff hmo
    refine ⟨l, rfl, ⟨_, hL⟩, fun D hD => ?_⟩
    refine lc_list (K := K) (a := l) (xs := out.map V.int) (fun j H' => Hold (Same H1 H' ∧ H' D = some (.lst (((out.take j).map fun x => decide ((g - 1) % x = 0)).map V.bl)))) (.mk ⟨same_new hD, upd_same⟩) ?_ ?_ ?_
    · intro j H5 hj hP
      obtain ⟨sm5, hD5⟩ := hP.un
      exact sm5.seq hL
    · intro j v' H5 hv hP
      obtain ⟨sm5, hD5⟩ := hP.un
      rw [List.getElem?_map] at hv
      obtain ⟨x, hx, rfl⟩ := Option.map_eq_some_iff.mp hv
      obtain ⟨x1, x2⟩ := lens_ok ok x ((hmo x).mp (List.mem_of_getElem? hx))
      have hR5 := hR.same (sm1.trans sm5)
      have hR6 := hR5
      obtain ⟨dx, gg, hins, _⟩ := hR6
      have hjl : j < out.length := (List.getElem?_eq_some_iff.mp hx).1
      have hsz : (((out.take j).map fun x => decide ((g - 1) % x = 0)).map V.bl).length < sizeLine := szm (by rw [List.length_map, List.length_map, List.length_take]; omega)
      have x100 : x ≤ 1000000 := by omega
      walk_at "ev"
      refine .mk ⟨same_mut sm5 hD, ?_⟩
      rw [upd_same, List.take_add_one, hx, List.map_append, List.map_append]
      rfl
    · intro H5 hP
      obtain ⟨sm5, hD5⟩ := hP.un
      rw [List.length_map, List.take_length] at hD5
      refine ⟨D, _, rfl, SqL.of hD5, ?_⟩
      rw [List.all_map]
      have e2 : (out.all (id ∘ fun x => decide ((g - 1) % x = 0))) = fitD (.rests g) p := ea
      rw [e2]
      exact q _ (sm1.trans sm5)
theorem ok_pf2 {f f0 f1 f2 f3 f4 C2 : Addr} {fd d0 d1 d2 d3 d4 : FuncData} (F : Fun K "plan_fits" "plan_fits" s_plan_fits f fd) (T : Blt mg) (D_plan_lengths : Df K mg "plan_lengths" s_plan_lengths P_plan_lengths f0 d0) (D_lengths_in : Df K mg "lengths_in" s_lengths_in P_lengths_in f1 d1) (D_plan_length : Df K mg "plan_length" s_plan_length P_plan_length f2 d2) (D_inner_plans : Df K mg "inner_plans" s_inner_plans P_inner_plans f3 d3)
    (R2 : RootC K C2) (F4 : Fun K "has_root" "Roots.has_root" s_Roots_has_root f4 d4) (B_Roots_has_root : Binds K d4 P_Roots_has_root []) (ME_Roots_has_root : Meth K C2 "has_root" f4) : FnOk P w K mg base CX0 9 f fd P_plan_fits (spPf2 K C2) := by
  have G_plan_lengths : FnOk P w K mg base CX0 8 f0 d0 P_plan_lengths (spPlens K) := ok_plens D_plan_lengths.F D_lengths_in D_plan_length D_inner_plans T
  have G_Roots_has_root : FnOk P w K mg base CX0 1 f4 d4 P_Roots_has_root (spHasR C2) := ok_hasR F4 R2
  have CL_Roots := R2.cl
  have nd := sc_plan_fits.nd
  refine F.ok sc_plan_fits (fun vs H Q E h => ?_) (fun cdv A outer s H vs Q E hr h => ?_)
  · obtain ⟨a, g, v, p, rfl, _⟩ := h
    rfl
  · obtain ⟨a, g, v, p, rfl, hR, hp, hd, ok, q⟩ := h
    refine ⟨_, (pss_one (ps_ret (pe_callB (r := rAll K) (cr_all rfl) (by rfl) T.b_all (by decide +kernel) (pa_cons (pe_lc (own := [("length", 2)]) (g := gName 2) (by rfl) nd (pi_list (pe_call G_plan_lengths (hr.mono (by omega)) (by rfl) D_plan_lengths.g D_plan_lengths.F.kp D_plan_lengths.b .nil pass0 (pa_cons (pv 1) pa_nil))) (blkOk_by (own := [("length", 2)]) (N := N_plan_fits) (sc := defScope s_plan_fits) (by decide +kernel)) (fun _ _ _ _ _ => (pg_name (i := 2) nd rfl (Or.inl rfl))) (fun _ _ _ _ _ => pts_nil) (fun _ _ _ _ _ => (pe_meth (pv 0) CL_Roots ME_Roots_has_root G_Roots_has_root (hr.mono (by omega)) B_Roots_has_root .nil pass0 (pa_cons (pv 2) pa_nil)))) pa_nil)))), ?_⟩
    walk_at "ev"
    intro out l H1 hl sm1 hq1 hso hmo hlo
    have hL := SqL.of (K := K) hq1
    have ea : out.all (fun x => decide ((g : Int) % x = 0)) = fitD (.roots g) p := all_iff hmo
    refine ⟨l, rfl, ⟨_, hL⟩, fun D hD => ?_⟩
    refine lc_list (K := K) (a := l) (xs := out.map V.int) (fun j H' => Hold (Same H1 H' ∧ H' D = some (.lst (((out.take j).map fun x => decide ((g : Int) % x = 0)).map V.bl)))) (.mk ⟨same_new hD, upd_same⟩) ?_ ?_ ?_
    · intro j H5 hj hP
      obtain ⟨sm5, hD5⟩ := hP.un
      exact sm5.seq hL
    · intro j v' H5 hv hP
      obtain ⟨sm5, hD5⟩ := hP.un
      rw [List.getElem?_map] at hv
      obtain ⟨x, hx, rfl⟩ := Option.map_eq_some_iff.mp hv
      obtain ⟨x1, x2⟩ := lens_ok ok x ((hmo x).mp (List.mem_of_getElem? hx))
      obtain ⟨y, rfl⟩ := Int.eq_ofNat_of_zero_le (show 0 ≤ x by omega)
      have hR5 := hR.same (sm1.trans sm5)
      have hR6 := hR5
      obtain ⟨dx, gg, hins, _⟩ := hR6
      have hjl : j < out.length := (List.getElem?_eq_some_iff.mp hx).1
      have hsz : (((out.take j).map fun x => decide ((g : Int) % x = 0)).map V.bl).length < sizeLine := szm (by rw [List.length_map, List.length_map, List.length_take]; omega)
      have y1 : 1 ≤ y := by omega
      have y2 : y ≤ 1000 := by omega
      walk_at "ev"
      refine .mk ⟨same_mut sm5 hD, ?_⟩
      have ey : decide (g % y = 0) = decide ((g : Int) % (y : Int) = 0) := decide_eq_decide.mpr ⟨fun h => by omega, fun h => by omega⟩
      rw [upd_same, List.take_add_one, hx, List.map_append, List.map_append, ey]
      rfl
    · intro H5 hP
      obtain ⟨sm5, hD5⟩ := hP.un
      rw [List.length_map, List.take_length] at hD5
      refine ⟨D, _, rfl, SqL.of hD5, ?_⟩
      rw [List.all_map]
      have e2 : (out.all (id ∘ fun x => decide ((g : Int) % x = 0))) = fitD (.roots g) p := ea
      rw [e2]
      exact q _ (sm1.trans sm5)
theorem ok_pf {f f0 f1 f2 f3 CT CB C1 C2 fI : Addr} {fd d0 d1 d2 d3 fdI : FuncData} (F : Fun K "plan_fits" "plan_fits" s_plan_fits f fd) (T : Blt mg) (S : G23 K mg CT CB C1 C2 fI fdI) (D_plan_lengths : Df K mg "plan_lengths" s_plan_lengths P_plan_lengths f0 d0) (D_lengths_in : Df K mg "lengths_in" s_lengths_in P_lengths_in f1 d1) (D_plan_length : Df K mg "plan_length" s_plan_length P_plan_length f2 d2) (D_inner_plans : Df K mg "inner_plans" s_inner_plans P_inner_plans f3 d3) : FnOk P w K mg base CX0 9 f fd P_plan_fits (spPf K C1 C2) := by
  obtain ⟨f4, d4, F4, B4, E4⟩ := S.h1
  obtain ⟨f5, d5, F5, B5, E5⟩ := S.h2
  refine fnor (ok_pf1 F T D_plan_lengths D_lengths_in D_plan_length D_inner_plans S.R1 F4 B4 E4) (ok_pf2 F T D_plan_lengths D_lengths_in D_plan_length D_inner_plans S.R2 F5 B5 E5) ?_
  rintro vs H Q E ⟨a, g, v, p, h1, h2, h3⟩
  cases g with
  | rests q => exact .inl ⟨a, q, v, p, h1, h2, h3⟩
  | roots q => exact .inr ⟨a, q, v, p, h1, h2, h3⟩
end
/-! ### calls by names alone -/
section
variable {X : Cx} {CX : CXT} {k : Nat} {f : Addr} {fd : FuncData} {ps ks : List Str} {sp : Sp} {x : Str} {p pos : Pos} {kws : List Keyword} {tk : TA} {g : List Value → List Value → List Value} {gV : List V → List V → List V}
theorem pe_callK0 {E : XK} (F : FnOk X.prog X.w X.K X.mg X.base CX k f fd ps sp) (hr : Room k X.A) (hg : Gl X x) (hm : X.mg x = some (.ref f)) (hk : PySem.W.keepIn X.K (.ref f) = true) (hb : KBinds X.K fd ps ks g gV) (hx : Passes CX X E)
    (hkw : PK X kws tk) (hall : (backToKw pos (keywordEach kws X.env)).all (·.1.isSome) = true := by rfl) (hks : (backToKw pos (keywordEach kws X.env)).filterMap (·.1) = ks := by rfl)
    (hdb : (x == ("__debug__" : Str)) = false := by decide) (hpl : ((backTo pos (starEach [] X.env)).any (·.1) || (backToKw pos (keywordEach kws X.env)).any (·.1.isNone)) = false := by rfl) :
    PE X (.Call (.Name x p) [] kws pos) (tCallK sp gV E tNil tk) := by
  refine ⟨fun pins s σ H Q I h => ?_⟩
  refine wpAny_Call_Name_kw (ld_glob I hg hm ?_ hdb)
  refine PySem.W.callWith_KW0 (h₀ := X.base) I.ok.mod.kin hk hall (thn (hkw.run pos pins s σ H _ I h) fun ws s2 ⟨zs, H2, I2, rz, q2⟩ => ⟨I2.kIn, ?_⟩) hpl
  rw [hks]
  exact run_fnk (us := []) (vs := []) F hr hb hx I2 .nil rz q2
theorem run_fnkS {E : L2.St → XK} {pins : List (Addr × Obj)} {σ : L2.St} {H : Hp} {s : Shared} {Q : VK} {us ws : List Value} {vs zs : List V} (F : FnOk X.prog X.w X.K X.mg X.base CX k f fd ps sp) (hr : Room k X.A) (hb : KBinds X.K fd ps ks g gV) (hx : PassesAt CX X σ (E σ))
    (I : Inv X pins σ H s) (r : Vals vs us) (rz : Vals zs ws) (h : sp (gV vs zs) H Q (E σ)) : wpAny (model X.prog X.w) X.A (call (.ref f) us (ks.zip ws)) (EP X pins σ Q) X.xe s := by
  have r2 := hb.rel r rz
  have hl : (g us ws).length = ps.length := by rw [← r2.length]; exact F.len _ _ _ _ h
  refine wpAny_call (codeAny_mono (F.run X.A X.stack s H ⟨us, ks.zip ws⟩ (g us ws) (gV vs zs) Q (E σ) hr I.env0 (hb.to s us ws I.kIn hl) r2 h) fun r s' hq => ?_)
  cases r with
  | error e => exact hx pins H s e s' I hq
  | ok fl =>
    cases fl with
    | ret u => exact I.after hq
    | next => exact False.elim hq
    | brk => exact False.elim hq
    | cont => exact False.elim hq
def tCallKS (sp : Sp) (gV : List V → List V → List V) (E : L2.St → XK) (tk : TA) : TE := fun σ H Q => tk σ H fun zs H2 => sp (gV [] zs) H2 Q (E σ)
theorem pe_callKS0 {E : L2.St → XK} (F : FnOk X.prog X.w X.K X.mg X.base CX k f fd ps sp) (hr : Room k X.A) (hg : Gl X x) (hm : X.mg x = some (.ref f)) (hk : PySem.W.keepIn X.K (.ref f) = true) (hb : KBinds X.K fd ps ks g gV) (hx : ∀ σ, PassesAt CX X σ (E σ))
    (hkw : PK X kws tk) (hall : (backToKw pos (keywordEach kws X.env)).all (·.1.isSome) = true := by rfl) (hks : (backToKw pos (keywordEach kws X.env)).filterMap (·.1) = ks := by rfl)
    (hdb : (x == ("__debug__" : Str)) = false := by decide) (hpl : ((backTo pos (starEach [] X.env)).any (·.1) || (backToKw pos (keywordEach kws X.env)).any (·.1.isNone)) = false := by rfl) :
    PE X (.Call (.Name x p) [] kws pos) (tCallKS sp gV E tk) := by
  refine ⟨fun pins s σ H Q I h => ?_⟩
  refine wpAny_Call_Name_kw (ld_glob I hg hm ?_ hdb)
  refine PySem.W.callWith_KW0 (h₀ := X.base) I.ok.mod.kin hk hall (thn (hkw.run pos pins s σ H _ I h) fun ws s2 ⟨zs, H2, I2, rz, q2⟩ => ⟨I2.kIn, ?_⟩) hpl
  rw [hks]
  exact run_fnkS (us := []) (vs := []) F hr hb (hx σ) I2 .nil rz q2
end
/-- one value by its name -/
def g1 {α : Type} : List α → List α → List α
  | [], [a] => [a]
  | _, _ => []
/-- two values by their names, the second parameter first -/
def g2 {α : Type} : List α → List α → List α
  | [], [a, b] => [b, a]
  | _, _ => []
theorem g1_rel {vs zs : List V} {us ws : List Value} (a : Vals vs us) (b : Vals zs ws) : Vals (g1 vs zs) (g1 us ws) := by
  cases a with
  | nil =>
    cases b with
    | nil => exact .nil
    | cons h t =>
      cases t with
      | nil => exact .cons h .nil
      | cons _ _ => exact .nil
  | cons h t => exact .nil
theorem g2_rel {vs zs : List V} {us ws : List Value} (a : Vals vs us) (b : Vals zs ws) : Vals (g2 vs zs) (g2 us ws) := by
  cases a with
  | nil =>
    cases b with
    | nil => exact .nil
    | cons h t =>
      cases t with
      | nil => exact .nil
      | cons h2 t2 =>
        cases t2 with
        | nil => exact .cons h2 (.cons h .nil)
        | cons _ _ => exact .nil
  | cons h t => exact .nil
theorem kb1 {K : PySem.W.Frag} {x qual : Str} {st : Stmt} {f : Addr} {fd : FuncData} {y : Str} (F : Fun K x qual st f fd)
    (h : ∀ (kV doc pm : Value) (an : Option Addr) (cdv ct : Value) (u : Value), bindArgs (PySem.W.fnOf x qual (defArgs st) (defBody st) (defScope st) .none kV doc pm an cdv ct) ⟨[], [(y, u)]⟩ = pure [(y, u)]) : KBinds K fd [y] [y] g1 g1 := by
  obtain ⟨oc, od, kV, doc, pm, an, cdv, ct, osl, rfl, lk, hcd⟩ := F.ex
  refine ⟨fun s us ws _ hl => ?_, fun a b => g1_rel a b⟩
  match us, ws, hl with
  | [], [u], _ => exact .of_eq (h kV doc pm an cdv ct u)
  | [], [], hl => exact absurd (show (0 : Nat) = 1 from hl) (by decide)
  | [], _ :: _ :: _, hl => exact absurd (show (0 : Nat) = 1 from hl) (by decide)
  | _ :: _, _, hl => exact absurd (show (0 : Nat) = 1 from hl) (by decide)
theorem kb2 {K : PySem.W.Frag} {x qual : Str} {st : Stmt} {f : Addr} {fd : FuncData} {y z : Str} (F : Fun K x qual st f fd)
    (h : ∀ (kV doc pm : Value) (an : Option Addr) (cdv ct : Value) (u v : Value), bindArgs (PySem.W.fnOf x qual (defArgs st) (defBody st) (defScope st) .none kV doc pm an cdv ct) ⟨[], [(z, v), (y, u)]⟩ = pure [(y, u), (z, v)]) : KBinds K fd [y, z] [z, y] g2 g2 := by
  obtain ⟨oc, od, kV, doc, pm, an, cdv, ct, osl, rfl, lk, hcd⟩ := F.ex
  refine ⟨fun s us ws _ hl => ?_, fun a b => g2_rel a b⟩
  match us, ws, hl with
  | [], [v, u], _ => exact .of_eq (h kV doc pm an cdv ct u v)
  | [], [], hl => exact absurd (show (0 : Nat) = 2 from hl) (by decide)
  | [], [_], hl => exact absurd (show (0 : Nat) = 2 from hl) (by decide)
  | [], _ :: _ :: _ :: _, hl => exact absurd (show (0 : Nat) = 2 from hl) (by decide)
  | _ :: _, _, hl => exact absurd (show (0 : Nat) = 2 from hl) (by decide)
section
variable {K : PySem.W.Frag} {f : Addr} {fd : FuncData}
theorem kb_is_plan (F : Fun K "is_plan" "is_plan" s_is_plan f fd) : KBinds K fd P_is_plan ["thing"] g1 g1 := kb1 F fun _ _ _ _ _ _ _ => rfl
theorem kb_plan_length (F : Fun K "plan_length" "plan_length" s_plan_length f fd) : KBinds K fd P_plan_length ["plan"] g1 g1 := kb1 F fun _ _ _ _ _ _ _ => rfl
theorem kb_plan_lengths (F : Fun K "plan_lengths" "plan_lengths" s_plan_lengths f fd) : KBinds K fd P_plan_lengths ["plan"] g1 g1 := kb1 F fun _ _ _ _ _ _ _ => rfl
theorem kb_plan_fits (F : Fun K "plan_fits" "plan_fits" s_plan_fits f fd) : KBinds K fd P_plan_fits ["plan", "ground"] g2 g2 := kb2 F fun _ _ _ _ _ _ _ _ => rfl
theorem kb_plan_depth (F : Fun K "plan_depth" "plan_depth" s_plan_depth f fd) : KBinds K fd P_plan_depth ["plan"] g1 g1 := kb1 F fun _ _ _ _ _ _ _ => rfl
theorem kb_plan_text (F : Fun K "plan_text" "plan_text" s_plan_text f fd) : KBinds K fd P_plan_text ["plan"] g1 g1 := kb1 F fun _ _ _ _ _ _ _ => rfl
theorem kb_plan_in (F : Fun K "plan_in" "plan_in" s_plan_in f fd) : KBinds K fd P_plan_in ["text"] g1 g1 := kb1 F fun _ _ _ _ _ _ _ => rfl
end
abbrev s__law_right : Stmt := top 62
abbrev N__law_right : List Str := ["_law_box_here", "_law_world_here", "_law_base", "_law_length", "_law_some", "_law_one", "_law_stays", "_law_words", "_law_told", "_law_due"]
abbrev P__law_right : List Str := ["_law_box_here"]
theorem sc__law_right : FnScope N__law_right P__law_right (defScope s__law_right) := ⟨rfl, rfl, rfl, by decide +kernel, rfl, by decide +kernel, by decide +kernel⟩
/-! ### plans shown -/
def bz : Nat → Nat
  | 0 => 36
  | n + 1 => 12 + 3 * bz n
theorem bz_mono : ∀ {a b : Nat}, a ≤ b → bz a ≤ bz b := by
  intro a b h
  induction h with
  | refl => exact Nat.le_refl _
  | step _ ih => exact Nat.le_trans ih (by show bz _ ≤ 12 + 3 * bz _; omega)
theorem bz36 (n : Nat) : 36 ≤ bz n := bz_mono (a := 0) (Nat.zero_le _)
theorem sm_wd {x : Str} (h : x = "plain" ∨ x = "short" ∨ x = "split" ∨ x = "parts" ∨ x = "powers" ∨ x = "stretch") : Sm 13 0 (.str x) := by
  refine ⟨wd_ok h, by rw [PyData.showable], ?_, by rw [PyData.depth]; exact Nat.le_refl _⟩
  rcases h with rfl | rfl | rfl | rfl | rfl | rfl <;> decide +kernel
theorem sm_pl : ∀ {p : Pl}, Wds p → PlN p → Sm (bz (pdep p)) (pdep p + 1) (plD p)
  | .leaf w n, hw, ⟨n1, n2, _⟩ => (Sm.tup (n := 2) (B := 13) (k := 0) (by show 2 ≤ 2; decide) (fun e he => by
      simp only [List.mem_cons, List.not_mem_nil, or_false] at he
      rcases he with h | h <;> rw [h]
      · exact sm_wd (w_leaf hw)
      · exact sm_int (by omega))).up (show _ ≤ 36 by decide) (Nat.le_refl _)
  | .two w a b, ⟨hw, ha, hb⟩, ⟨na, nb, _⟩ => by
    have i1 := sm_pl ha na
    have i2 := sm_pl hb nb
    have e : pdep (.two w a b) = max (pdep a) (pdep b) + 1 := by show 1 + max (pdep a) (pdep b) = _; omega
    rw [e]
    have m1 := bz_mono (Nat.le_max_left (pdep a) (pdep b))
    have m2 := bz_mono (Nat.le_max_right (pdep a) (pdep b))
    have b36 := bz36 (max (pdep a) (pdep b))
    refine (Sm.tup (n := 3) (B := bz (max (pdep a) (pdep b))) (k := max (pdep a) (pdep b) + 1) (by show 3 ≤ 3; decide) (fun e he => ?_)).up (by show _ ≤ 12 + 3 * bz _; omega) (Nat.le_refl _)
    simp only [List.mem_cons, List.not_mem_nil, or_false] at he
    rcases he with h | h | h <;> rw [h]
    · exact (sm_wd (w_two hw)).up (by omega) (by omega)
    · exact i1.up m1 (by omega)
    · exact i2.up m2 (by omega)
  | .led w n a, ⟨hw, ha⟩, ⟨na, n2, n3, _⟩ => by
    have i1 := sm_pl ha na
    have e : pdep (.led w n a) = pdep a + 1 := by show 1 + pdep a = _; omega
    rw [e]
    have b36 := bz36 (pdep a)
    refine (Sm.tup (n := 3) (B := bz (pdep a)) (k := pdep a + 1) (by show 3 ≤ 3; decide) (fun e he => ?_)).up (by show _ ≤ 12 + 3 * bz _; omega) (Nat.le_refl _)
    simp only [List.mem_cons, List.not_mem_nil, or_false] at he
    rcases he with h | h | h <;> rw [h]
    · exact (sm_wd (w_led hw)).up (by omega) (by omega)
    · exact (sm_int (by omega)).up (by omega) (by omega)
    · exact i1
theorem shn_pl {p : Pl} (hw : Wds p) (hn : PlN p) (hd : pdep p ≤ 3) : Shn (plD p) := (sm_pl hw hn).shn (Nat.le_trans (bz_mono hd) (by decide)) (by omega)
def aD (p : Pl) (out : List Int) (b : Bool) : PyData := .list [.bool true, .int (plen p), .list (out.map PyData.int), .bool b]
def cD3 (p : Pl) : PyData := .list [.int (pdep p : Int), .str (tS (txt p)), plD p]
theorem fit_aD {p : Pl} {out : List Int} {b : Bool} (ho : out.length ≤ 63) : Fit 6 (aD p out b) := by
  refine ⟨by show 4 ≤ 4000; decide, fun e he => ?_⟩
  simp only [List.mem_cons, List.not_mem_nil, or_false] at he
  rcases he with h' | h' | h' | h' <;> rw [h']
  · exact True.intro
  · exact True.intro
  · refine ⟨by rw [List.length_map]; omega, fun e he => ?_⟩
    obtain ⟨x, _, rfl⟩ := List.mem_map.mp he
    exact True.intro
  · exact True.intro
theorem fit_cD3 {p : Pl} (h : pdep p ≤ 3) : Fit 6 (cD3 p) := by
  refine ⟨by show 3 ≤ 4000; decide, fun e he => ?_⟩
  simp only [List.mem_cons, List.not_mem_nil, or_false] at he
  rcases he with h' | h' | h' <;> rw [h']
  · exact True.intro
  · exact True.intro
  · exact fit_pl (n := 5) (by omega)
theorem fit_bi2 {n : Int} : Fit 6 (.list [.bool true, .int n]) := by
  refine ⟨by show 2 ≤ 4000; decide, fun e he => ?_⟩
  simp only [List.mem_cons, List.not_mem_nil, or_false] at he
  rcases he with h' | h' <;> rw [h'] <;> exact True.intro
theorem dp_aD {K : PySem.W.Frag} {H : Hp} {l x : Addr} {p : Pl} {out : List Int} {b : Bool} (h : H l = some (.lst [.bl true, .int (plen p), .ref x, .bl b])) (hx : H x = some (.lst (out.map V.int))) : Dp K H (.ref l) (aD p out b) :=
  .lst (SqL.of h) (.cons (.bl _) (.cons (.int _) (.cons (.lst (SqL.of hx) (dp_ints out)) (.cons (.bl _) .nil))))
theorem dp_cD3 {K : PySem.W.Frag} {H : Hp} {l : Addr} {u : V} {p : Pl} (h : H l = some (.lst [.int (pdep p : Int), .str (tS (txt p)), u])) (hu : PlAt K H u p) : Dp K H (.ref l) (cD3 p) :=
  .lst (SqL.of h) (.cons (.int _) (.cons (.str _) (.cons (dp_pl hu) .nil)))
structure G24 (K : PySem.W.Frag) (w : World) (mg : Str → Option Value) (aS aT CT CB fI : Addr) (fdI : FuncData) (tk : Tok) : Prop where
  S : Sg K w mg aS
  fg : mg "FIGURES" = some (.str "0123456789" tk)
  F : Fun K "__init__" "TurnError.__init__" s_init fI fdI
  b : Binds K fdI N_init []
  ty : PySem.W.typeIn K (.ref fI) = some (.type "function")
  R : Ref K CT CB fI
  mB : mg "BadText" = some (.ref CB)
  mS : mg "SHORTS" = some (.ref aT)
  qS : ∀ H : Hp, SqT K H aT (([1, 2, 3, 4] : List Int).map V.int)
structure FnR (P : Program) (w : World) (K : PySem.W.Frag) (mg : Str → Option Value) (base : Heap) : Prop where
  r_is_whole : ∃ f fd, Df K mg "is_whole" s_is_whole P_is_whole f fd
  r_is_prime : ∃ f fd, Df K mg "is_prime" s_is_prime P_is_prime f fd
  r_factors : ∃ f fd, Df K mg "factors" s_factors P_factors f fd
  r_divisors : ∃ f fd, Df K mg "divisors" s_divisors P_divisors f fd
  r_are_coprime : ∃ f fd, Df K mg "are_coprime" s_are_coprime P_are_coprime f fd
  r_power_rest : ∃ f fd, Df K mg "power_rest" s_power_rest P_power_rest f fd
  r_generator : ∃ f fd, Df K mg "generator" s_generator P_generator f fd
  r_bare_length : ∃ f fd, Df K mg "bare_length" s_bare_length P_bare_length f fd
  r_pair_length : ∃ f fd, Df K mg "pair_length" s_pair_length P_pair_length f fd
  r_led_length : ∃ f fd, Df K mg "led_length" s_led_length P_led_length f fd
  r_length_if_plan : ∃ f fd, Df K mg "length_if_plan" s_length_if_plan P_length_if_plan f fd
  r_is_plan : ∃ f fd, Df K mg "is_plan" s_is_plan P_is_plan f fd
  r_plan_length : ∃ f fd, Df K mg "plan_length" s_plan_length P_plan_length f fd
  r_inner_plans : ∃ f fd, Df K mg "inner_plans" s_inner_plans P_inner_plans f fd
  r_lengths_in : ∃ f fd, Df K mg "lengths_in" s_lengths_in P_lengths_in f fd
  r_plan_lengths : ∃ f fd, Df K mg "plan_lengths" s_plan_lengths P_plan_lengths f fd
  r_plan_fits : ∃ f fd, Df K mg "plan_fits" s_plan_fits P_plan_fits f fd
  r_plan_depth : ∃ f fd, Df K mg "plan_depth" s_plan_depth P_plan_depth f fd
  r_plan_text : ∃ f fd, Df K mg "plan_text" s_plan_text P_plan_text f fd
  r_word_of : ∃ f fd, Df K mg "word_of" s_word_of P_word_of f fd
  r_pieces_of : ∃ f fd, Df K mg "pieces_of" s_pieces_of P_pieces_of f fd
  r_number_in : ∃ f fd, Df K mg "number_in" s_number_in P_number_in f fd
  r_part_in : ∃ f fd, Df K mg "part_in" s_part_in P_part_in f fd
  r_bracket_plan : ∃ f fd, Df K mg "bracket_plan" s_bracket_plan P_bracket_plan f fd
  r_plan_in : ∃ f fd, Df K mg "plan_in" s_plan_in P_plan_in f fd
  r_divided : ∃ f fd, Df K mg "divided" s_divided P_divided f fd
  r_wheel : ∃ f fd, Df K mg "wheel" s_wheel P_wheel f fd
  r__law_box : ∃ f fd, Df K mg "_law_box" s__law_box P__law_box f fd
  r__law_take : ∃ f fd, Df K mg "_law_take" s__law_take P__law_take f fd
  r__law_pick : ∃ f fd, Df K mg "_law_pick" s__law_pick P__law_pick f fd
  r__law_same : ∃ f fd, Df K mg "_law_same" s__law_same P__law_same f fd
  r__law_shares : ∃ f fd, Df K mg "_law_shares" s__law_shares P__law_shares f fd
  r__law_is_plain_prime : ∃ f fd, Df K mg "_law_is_plain_prime" s__law_is_plain_prime P__law_is_plain_prime f fd
  r__law_raised : ∃ f fd, Df K mg "_law_raised" s__law_raised P__law_raised f fd
  r__law_least_generator : ∃ f fd, Df K mg "_law_least_generator" s__law_least_generator P__law_least_generator f fd
  r__law_divided : ∃ f fd, Df K mg "_law_divided" s__law_divided P__law_divided f fd
  r__law_own_wheel : ∃ f fd, Df K mg "_law_own_wheel" s__law_own_wheel P__law_own_wheel f fd
  r__law_world : ∃ f fd, Df K mg "_law_world" s__law_world P__law_world f fd
  r__law_made : ∃ f fd, Df K mg "_law_made" s__law_made P__law_made f fd
  r__law_has : ∃ f fd, Df K mg "_law_has" s__law_has P__law_has f fd
  r__law_lengths : ∃ f fd, Df K mg "_law_lengths" s__law_lengths P__law_lengths f fd
  r__law_plan_of : ∃ f fd, Df K mg "_law_plan_of" s__law_plan_of P__law_plan_of f fd
  r__law_plan_words : ∃ f fd, Df K mg "_law_plan_words" s__law_plan_words P__law_plan_words f fd
  r__law_any_plan : ∃ f fd, Df K mg "_law_any_plan" s__law_any_plan P__law_any_plan f fd
def spRight (K : PySem.W.Frag) : Sp := fun vs H Q _ => ∃ (b : Addr) (c : Int), vs = [.ref b] ∧ BoxAt H b c ∧ c < 800000 ∧ ∀ H', Keep b H H' → BoxAt H' b (c + 100) → Q (.bl true) H'
section
variable {P : Program} {w : World} {K : PySem.W.Frag} {mg : Str → Option Value} {base : Heap}
theorem ok_right {f aS aT CT CB CG C1 C2 fI : Addr} {fd fdI : FuncData} {tk : Tok} (F : Fun K "_law_right" "_law_right" s__law_right f fd) (T : Blt mg) (U : FnR P w K mg base) (X : G24 K w mg aS aT CT CB fI fdI tk) (Y : G23 K mg CT CG C1 C2 fI fdI) : FnG P w K mg base CX0 24 f fd P__law_right (spRight K) := by
  obtain ⟨⟨f_is_whole, d_is_whole, D_is_whole⟩, ⟨f_is_prime, d_is_prime, D_is_prime⟩, ⟨f_factors, d_factors, D_factors⟩, ⟨f_divisors, d_divisors, D_divisors⟩, ⟨f_are_coprime, d_are_coprime, D_are_coprime⟩, ⟨f_power_rest, d_power_rest, D_power_rest⟩, ⟨f_generator, d_generator, D_generator⟩, ⟨f_bare_length, d_bare_length, D_bare_length⟩, ⟨f_pair_length, d_pair_length, D_pair_length⟩, ⟨f_led_length, d_led_length, D_led_length⟩, ⟨f_length_if_plan, d_length_if_plan, D_length_if_plan⟩, ⟨f_is_plan, d_is_plan, D_is_plan⟩, ⟨f_plan_length, d_plan_length, D_plan_length⟩, ⟨f_inner_plans, d_inner_plans, D_inner_plans⟩, ⟨f_lengths_in, d_lengths_in, D_lengths_in⟩, ⟨f_plan_lengths, d_plan_lengths, D_plan_lengths⟩, ⟨f_plan_fits, d_plan_fits, D_plan_fits⟩, ⟨f_plan_depth, d_plan_depth, D_plan_depth⟩, ⟨f_plan_text, d_plan_text, D_plan_text⟩, ⟨f_word_of, d_word_of, D_word_of⟩, ⟨f_pieces_of, d_pieces_of, D_pieces_of⟩, ⟨f_number_in, d_number_in, D_number_in⟩, ⟨f_part_in, d_part_in, D_part_in⟩, ⟨f_bracket_plan, d_bracket_plan, D_bracket_plan⟩, ⟨f_plan_in, d_plan_in, D_plan_in⟩, ⟨f_divided, d_divided, D_divided⟩, ⟨f_wheel, d_wheel, D_wheel⟩, ⟨f__law_box, d__law_box, D__law_box⟩, ⟨f__law_take, d__law_take, D__law_take⟩, ⟨f__law_pick, d__law_pick, D__law_pick⟩, ⟨f__law_same, d__law_same, D__law_same⟩, ⟨f__law_shares, d__law_shares, D__law_shares⟩, ⟨f__law_is_plain_prime, d__law_is_plain_prime, D__law_is_plain_prime⟩, ⟨f__law_raised, d__law_raised, D__law_raised⟩, ⟨f__law_least_generator, d__law_least_generator, D__law_least_generator⟩, ⟨f__law_divided, d__law_divided, D__law_divided⟩, ⟨f__law_own_wheel, d__law_own_wheel, D__law_own_wheel⟩, ⟨f__law_world, d__law_world, D__law_world⟩, ⟨f__law_made, d__law_made, D__law_made⟩, ⟨f__law_has, d__law_has, D__law_has⟩, ⟨f__law_lengths, d__law_lengths, D__law_lengths⟩, ⟨f__law_plan_of, d__law_plan_of, D__law_plan_of⟩, ⟨f__law_plan_words, d__law_plan_words, D__law_plan_words⟩, ⟨f__law_any_plan, d__law_any_plan, D__law_any_plan⟩⟩ := U
  have S := X.S
  have G__law_take : FnOk P w K mg base CX0 1 f__law_take d__law_take P__law_take spTake := ok_take D__law_take.F
  have G__law_pick : FnOk P w K mg base CX0 2 f__law_pick d__law_pick P__law_pick (spPick K) := ok_pick D__law_pick.F T D__law_take
  have G__law_same : FnOk P w K mg base CX0 7 f__law_same d__law_same P__law_same (spSame K 6) := ok_same D__law_same T 6
  have G__law_world : FnOk P w K mg base CX0 7 f__law_world d__law_world P__law_world spWorld := ok_world D__law_world.F T D__law_take D__law_own_wheel D__law_divided D__law_least_generator D__law_is_plain_prime D__law_raised
  have G__law_made : FnOk P w K mg base CX0 9 f__law_made d__law_made P__law_made (spMade C1 C2) := ok_made D__law_made.F T Y D_is_whole D_factors D_is_prime D_power_rest D_generator D_wheel D_divisors D_divided
  have G__law_lengths : FnOk P w K mg base CX0 2 f__law_lengths d__law_lengths P__law_lengths spLns := ok_lns (k := 0) D__law_lengths.F T D__law_has
  have G__law_plan_of : FnOk P w K mg base CX0 6 f__law_plan_of d__law_plan_of P__law_plan_of (spPof K 3) := ok_pof D__law_plan_of T D__law_take D__law_pick D__law_shares D__law_is_plain_prime D__law_has 3
  have G__law_any_plan : FnOk P w K mg base CX0 6 f__law_any_plan d__law_any_plan P__law_any_plan (spAny K 3) := ok_any D__law_any_plan T D__law_take D__law_pick D__law_shares D__law_is_plain_prime 3
  have G__law_plan_words : FnOk P w K mg base CX0 14 f__law_plan_words d__law_plan_words P__law_plan_words (spPtx K 12) := ok_wds D__law_plan_words T 12 (Nat.le_refl _)
  have G_plan_text : FnOk P w K mg base CX0 14 f_plan_text d_plan_text P_plan_text (spPtx K 12) := ok_ptx D_plan_text T S 12 (Nat.le_refl _)
  have G_is_plan : FnOk P w K mg base CX0 17 f_is_plan d_is_plan P_is_plan (spIsp K 12) := ok_isp 12 D_is_plan.F D_length_if_plan T X.mS X.qS D_is_whole D_is_prime D_factors D_are_coprime D_bare_length D_pair_length D_led_length
  have G_plan_in : FnOk P w K mg base (L2.CX P w) 19 f_plan_in d_plan_in P_plan_in (spPin K 12) := ok_pin D_plan_in.F T S X.fg X.F X.b X.ty X.R X.mB D_pieces_of D_part_in D_bracket_plan D_is_plan D_number_in D_word_of G_is_plan rfl
  have G_plan_length : FnOk P w K mg base CX0 13 f_plan_length d_plan_length P_plan_length (spPlen K 12) := ok_plen D_plan_length T 12
  have G_plan_depth : FnOk P w K mg base CX0 14 f_plan_depth d_plan_depth P_plan_depth (spDep K 12) := ok_pdep D_plan_depth D_inner_plans T 12
  have G_plan_lengths : FnOk P w K mg base CX0 8 f_plan_lengths d_plan_lengths P_plan_lengths (spPlens K) := ok_plens D_plan_lengths.F D_lengths_in D_plan_length D_inner_plans T
  have G_plan_fits : FnOk P w K mg base CX0 9 f_plan_fits d_plan_fits P_plan_fits (spPf K C1 C2) := ok_pf D_plan_fits.F T Y D_plan_lengths D_lengths_in D_plan_length D_inner_plans
  have KB_is_plan := kb_is_plan D_is_plan.F
  have KB_plan_length := kb_plan_length D_plan_length.F
  have KB_plan_lengths := kb_plan_lengths D_plan_lengths.F
  have KB_plan_fits := kb_plan_fits D_plan_fits.F
  have KB_plan_depth := kb_plan_depth D_plan_depth.F
  have KB_plan_text := kb_plan_text D_plan_text.F
  have KB_plan_in := kb_plan_in D_plan_in.F
  have nd := sc__law_right.nd
  refine okG F sc__law_right (fun vs H Q E h => ?_) (fun cdv A outer s H vs Q E hgd hr h => ?_)
  · obtain ⟨b, c, rfl, _⟩ := h
    rfl
  · obtain ⟨b, c, rfl, hb, hc, q⟩ := h
    refine ⟨_, (pss_cons (ps_set (i := 1) nd rfl (Or.inl rfl) (pe_call G__law_world (hr.mono (by omega)) (by rfl) D__law_world.g D__law_world.F.kp D__law_world.b .nil pass0 (pa_cons (pv 0) pa_nil)))
      (pss_cons (ps_par (i := 2) (j := 3) (by rfl) nd rfl rfl (by decide) rfl rfl (pa_cons (pe_call G__law_made (hr.mono (by omega)) (by rfl) D__law_made.g D__law_made.F.kp D__law_made.b .nil pass0 (pa_cons (pv 1) pa_nil)) (pa_cons (pe_call G__law_pick (hr.mono (by omega)) (by rfl) D__law_pick.g D__law_pick.F.kp D__law_pick.b .nil pass0 (pa_cons (pv 0) (pa_cons (pe_call G__law_lengths (hr.mono (by omega)) (by rfl) D__law_lengths.g D__law_lengths.F.kp D__law_lengths.b .nil pass0 (pa_cons (pv 1) (pa_cons (pe_int) pa_nil))) pa_nil))) pa_nil)) (by rfl))
      (pss_cons (ps_set (i := 4) nd rfl (Or.inl rfl) (pe_lst (pa_cons (pe_call G__law_plan_of (hr.mono (by omega)) (by rfl) D__law_plan_of.g D__law_plan_of.F.kp D__law_plan_of.b .nil pass0 (pa_cons (pv 0) (pa_cons (pv 1) (pa_cons (pv 3) (pa_cons (pe_int) (pa_cons (pe_bl) pa_nil)))))) (pa_cons (pe_call G__law_any_plan (hr.mono (by omega)) (by rfl) D__law_any_plan.g D__law_any_plan.F.kp D__law_any_plan.b .nil pass0 (pa_cons (pv 0) (pa_cons (pv 3) (pa_cons (pe_int) pa_nil)))) pa_nil))))
      (pss_cons (ps_for PassesOwn.never rfl (pi_list (pv 4)) (pg_name (i := 5) nd rfl (Or.inl rfl))
      (pss_cons (ps_par (i := 6) (j := 7) (by rfl) nd rfl rfl (by decide) rfl rfl (pa_cons (pe_callB (r := rRepG K) (call_reprG hgd hr.units) (by rfl) T.b_repr (by decide +kernel) (pa_cons (pv 5) pa_nil)) (pa_cons (pe_call G__law_plan_words (hr.mono (by omega)) (by rfl) D__law_plan_words.g D__law_plan_words.F.kp D__law_plan_words.b .nil pass0 (pa_cons (pv 5) pa_nil)) pa_nil)) (by rfl))
      (pss_cons (ps_set (i := 8) nd rfl (Or.inl rfl) (pe_lst (pa_cons (pe_callK0 G_is_plan (hr.mono (by omega)) (by rfl) D_is_plan.g D_is_plan.F.kp KB_is_plan pass0 (pk_cons (pv 5) pk_nil)) (pa_cons (pe_callK0 G_plan_length (hr.mono (by omega)) (by rfl) D_plan_length.g D_plan_length.F.kp KB_plan_length pass0 (pk_cons (pv 5) pk_nil)) (pa_cons (pe_callK0 G_plan_lengths (hr.mono (by omega)) (by rfl) D_plan_lengths.g D_plan_lengths.F.kp KB_plan_lengths pass0 (pk_cons (pv 5) pk_nil)) (pa_cons (pe_callK0 G_plan_fits (hr.mono (by omega)) (by rfl) D_plan_fits.g D_plan_fits.F.kp KB_plan_fits pass0 (pk_cons (pv 5) (pk_cons (pv 2) pk_nil))) pa_nil))))))
      (pss_cons (ps_set (i := 9) nd rfl (Or.inl rfl) (pe_lst (pa_cons (pe_call G_is_plan (hr.mono (by omega)) (by rfl) D_is_plan.g D_is_plan.F.kp D_is_plan.b .nil pass0 (pa_cons (pv 5) pa_nil)) (pa_cons (pe_call G_plan_length (hr.mono (by omega)) (by rfl) D_plan_length.g D_plan_length.F.kp D_plan_length.b .nil pass0 (pa_cons (pv 5) pa_nil)) (pa_cons (pe_call G_plan_lengths (hr.mono (by omega)) (by rfl) D_plan_lengths.g D_plan_lengths.F.kp D_plan_lengths.b .nil pass0 (pa_cons (pv 5) pa_nil)) (pa_cons (pe_call G_plan_fits (hr.mono (by omega)) (by rfl) D_plan_fits.g D_plan_fits.F.kp D_plan_fits.b .nil pass0 (pa_cons (pv 2) (pa_cons (pv 5) pa_nil))) pa_nil))))))
      (pss_cons (ps_if (PW.pt (pw_or (pt_not (pt_val (pe_call G__law_same (hr.mono (by omega)) (by rfl) D__law_same.g D__law_same.F.kp D__law_same.b .nil pass0 (pa_cons (pv 8) (pa_cons (pv 9) pa_nil))))) (pw_or1 (pt_not (pt_val (pe_call G__law_same (hr.mono (by omega)) (by rfl) D__law_same.g D__law_same.F.kp D__law_same.b .nil pass0 (pa_cons (pe_slice (r := rSlL K) sl_list (pv 8) po_none (po_some (pe_int))) (pa_cons (pe_lst (pa_cons (pe_bl) (pa_cons (pv 3) pa_nil))) pa_nil)))))))) (pss_one (ps_ret (pe_bl))) pss_nil)
      (pss_cons (ps_set (i := 8) nd rfl (Or.inl rfl) (pe_lst (pa_cons (pe_callK0 G_plan_depth (hr.mono (by omega)) (by rfl) D_plan_depth.g D_plan_depth.F.kp KB_plan_depth pass0 (pk_cons (pv 5) pk_nil)) (pa_cons (pe_callK0 G_plan_text (hr.mono (by omega)) (by rfl) D_plan_text.g D_plan_text.F.kp KB_plan_text pass0 (pk_cons (pv 5) pk_nil)) (pa_cons (pe_callK0 G_plan_in (hr.mono (by omega)) (by rfl) D_plan_in.g D_plan_in.F.kp KB_plan_in passL (pk_cons (pv 7) pk_nil)) pa_nil)))))
      (pss_one (ps_if (PW.pt (pw_or (pt_not (pt_val (pe_call G__law_same (hr.mono (by omega)) (by rfl) D__law_same.g D__law_same.F.kp D__law_same.b .nil pass0 (pa_cons (pv 8) (pa_cons (pe_lst (pa_cons (pe_call G_plan_depth (hr.mono (by omega)) (by rfl) D_plan_depth.g D_plan_depth.F.kp D_plan_depth.b .nil pass0 (pa_cons (pv 5) pa_nil)) (pa_cons (pv 7) (pa_cons (pv 5) pa_nil)))) pa_nil))))) (pw_or1 (pt_cmpR op_ne (pe_callB (r := rRepG K) (call_reprG hgd hr.units) (by rfl) T.b_repr (by decide +kernel) (pa_cons (pv 5) pa_nil)) (pv 6) (nomark _))))) (pss_one (ps_ret (pe_bl))) pss_nil))))))))
      (pss_one (ps_ret (pe_bl))))))), ?_⟩
    have t3 : tks 3 = 30 := rfl
    have c1 : c < 900000 := by omega
    walk_at "ev"
    intro d H1 hd k1 hb1 g hW
    walk_at "ev"
    intro a H2 ha sm2 hG
    have hW2 := hW.up sm2
    have hb2 := hb1.same sm2
    walk_at "ev"
    intro l3 ks H3 hl3 sm3 hq3 ks0 ks100 hks
    have hb3 := hb2.same sm3
    have nl3 := hb2.ne hl3
    have hL3 : SqL K H3 l3 (ks.map V.int) := SqL.of hq3
    have hkl : 0 < ((ks.map V.int).length : Int) ∧ ((ks.map V.int).length : Int) < 1048576 := by
      rw [List.length_map]
      omega
    walk_at "ev"
    intro v4 H4 hv4 k4 hb4
    obtain ⟨L, hL, rfl⟩ := int_mem hv4
    obtain ⟨L1, L40, hLg⟩ := hks L hL
    have hW4 := (hW2.up sm3).keep k4
    have hG4 := (hG.same sm3).keep hb3 k4
    have kk4 : Keep b H H4 := ((k1.trans (keepS sm2)).trans (keepS sm3)).trans k4
    clear hq3 hL3 hkl hW hG hW2 hb1 hb2 hb3 hv4 hks k1 k4 sm2 sm3
    walk_at "ev"
    intro v5 p5 H5 ht5 hn5 hl5 hd5 k5 hb5
    have hW5 := hW4.keep k5
    have hG5 := hG4.keep hb4 k5
    walk_at "ev"
    intro v6 p6 H6 ht6 hl6 hd6 hn6 k6 hb6
    have hG6 := hG5.keep hb5 k6
    have ht56 := ht5.keep k6 hb5
    have kk6 := (kk4.trans k5).trans k6
    clear hW4 hW5 hG4 hG5 ht5
    walk_at "ev"
    w_cond _7
    have hG7 := hG6.same sm7
    have hA7 : PlAt K H7 v5 p5 := (ht56.same sm7).at
    have hB7 : PlAt K H7 v6 p6 := (ht6.same sm7).at
    have hL7 : SqL K H7 l7 [v5, v6] := SqL.of hq7
    clear hG6 ht56 ht6
    walk_at "ev"
    refine ⟨⟨_, hL7⟩, ?_⟩
    refine for_list (xs := [v5, v6]) (fun i σ H' => Hold (∃ s5 s6 s7 s8 s9, σ = [some (.ref b), some (.ref d), some (.ref a), some (.int L), some (.ref l7), s5, s6, s7, s8, s9] ∧ Same H7 H')) (.mk ⟨_, _, _, _, _, rfl, Same.refl _⟩) ?_ ?_ ?_
    · intro i σ H' hi hP
      obtain ⟨s5, s6, s7, s8, s9, rfl, sm8⟩ := hP.un
      exact sm8.seq hL7
    · intro i x σ H8 hx hP
      obtain ⟨s5, s6, s7, s8, s9, rfl, sm8⟩ := hP.un
      clear hP
      obtain ⟨p, hp8, hpn, hpl, hpd⟩ : ∃ p, PlAt K H8 x p ∧ PlN p ∧ plen p = L ∧ pdep p ≤ 3 := by
        rcases List.mem_cons.mp (List.mem_of_getElem? hx) with h | h
        · rw [h]; exact ⟨p5, hA7.same sm8, hn5, hl5, hd5⟩
        · rw [List.mem_singleton.mp h]; exact ⟨p6, hB7.same sm8, hn6, hl6, hd6⟩
      clear hx hA7 hB7 hn5 hl5 hd5 hn6 hl6 hd6
      have hG8 := hG7.same sm8
      have hw := hp8.wds
      obtain ⟨_, _, hok⟩ := hpn.ok
      have hsh := shn_pl hw hpn hpd
      have hd8 := dp_pl hp8
      have hd12 : pdep p ≤ 12 := by omega
      have hd5 : pdep p ≤ 5 := by omega
      walk_at "ev"
      intro H9 sm9
      have hp9 := hp8.same sm9
      have hG9 := hG8.same sm9
      walk_at "ev"
      intro H10 sm10
      have hp10 := hp9.same sm10
      walk_at "ev"
      intro H11 sm11
      have hp11 := hp10.same sm11
      walk_at "ev"
      intro o1 l12 H12 hl12 sm12 hq12 os1 om1 ol1
      have hp12 := hp11.same sm12
      have hG12 := hG9.same ((sm10.trans sm11).trans sm12)
      walk_at "ev"
      intro H13 sm13
      have hp13 := hp12.same sm13
      have hG13 := hG12.same sm13
      have hq13 := sm13 _ _ hq12
      walk_at "ev"
      w_cond _14
      have hp14 := hp13.same sm14
      have hG14 := hG13.same sm14
      have hq14' := sm14 _ _ hq13
      clear hp9 hp10 hp11 hp12 hG9 hG12 hq13 hG13 hp13 hG8
      walk_at "ev"
      intro H15 sm15
      have hp15 := hp14.same sm15
      have hG15 := hG14.same sm15
      walk_at "ev"
      intro H16 sm16
      have hp16 := hp15.same sm16
      walk_at "ev"
      intro o2 l17 H17 hl17 sm17 hq17 os2 om2 ol2
      have hp17 := hp16.same sm17
      have hG17 := hG15.same (sm16.trans sm17)
      walk_at "ev"
      intro H18 sm18
      have hp18 := hp17.same sm18
      have hq18 := sm18 _ _ hq17
      walk_at "ev"
      w_cond _19
      have hp19 := hp18.same sm19
      have hq19' := sm19 _ _ hq18
      have s14 := ((sm15.trans sm16).trans sm17).trans (sm18.trans sm19)
      have eo : o1 = o2 := srt_ext os1 os2 fun k => (om1 k).trans (om2 k).symm
      subst eo
      have hdA : Dp K H19 (.ref l14) (aD p o1 (fitD g p)) := dp_aD (s14 _ _ hq14) (s14 _ _ hq14')
      have hdB : Dp K H19 (.ref l19) (aD p o1 (fitD g p)) := dp_aD hq19 hq19'
      have hfA : Fit 6 (aD p o1 (fitD g p)) := fit_aD ol1
      have s819 : Same H8 H19 := ((((sm9.trans sm10).trans sm11).trans sm12).trans (sm13.trans sm14)).trans s14
      have hT19 : SqL K H19 l14 [.bl true, .int (plen p), .ref l12, .bl (fitD g p)] := SqL.of (s14 _ _ hq14)
      clear hp14 hp15 hp16 hp17 hp18 hG14 hG15 hG17 hq14 hq14' hq17 hq18 hq19 hq19'
      walk_at "ev"
      intro H20 sm20
      have hL20 := sm20.seq hT19
      clear hdA hdB hfA
      walk_at "ev"
      w_cond _21
      have hT21 : H21 l21 = some (.lst [.bl true, .int (plen p)]) := hq21
      walk_at "ev"
      w_cond _22
      have hdA2 : Dp K H22 (.ref l21) (.list [.bool true, .int L]) := .lst (SqL.of (by rw [← hpl]; exact sm22 _ _ hT21)) (.cons (.bl _) (.cons (.int _) .nil))
      have hdB2 : Dp K H22 (.ref l22) (.list [.bool true, .int L]) := .lst (SqL.of hq22) (.cons (.bl _) (.cons (.int _) .nil))
      have hfB : Fit 6 (.list [.bool true, .int L]) := fit_bi2
      walk_at "ev"
      intro H23 sm23
      have s823 := (((s819.trans sm20).trans sm21).trans sm22).trans sm23
      have hp23 := hp8.same s823
      clear hdA2 hdB2 hfB hT21 hq21 hq22 hT19 hL20 hp19 hp8 hd8
      walk_at "ev"
      intro H24 sm24
      have hp24 := hp23.same sm24
      walk_at "ev"
      intro H25 sm25
      have hp25 := hp24.same sm25
      walk_at "ev"
      intro v26 H26 sm26 hv26
      have hp26 := hp25.same sm26
      walk_at "ev"
      w_cond _27
      have hp27 := hp26.same sm27
      have hv27 := hv26.same sm27
      clear hp24 hp25 hp26 hv26
      walk_at "ev"
      intro H28 sm28
      have hp28 := hp27.same sm28
      walk_at "ev"
      w_cond _29
      have s829 := (((((s823.trans sm24).trans sm25).trans sm26).trans sm27).trans sm28).trans sm29
      have hdA3 : Dp K H29 (.ref l27) (cD3 p) := dp_cD3 (sm29 _ _ (sm28 _ _ hq27)) ((hv27.same sm28).same sm29)
      have hdB3 : Dp K H29 (.ref l29) (cD3 p) := dp_cD3 hq29 (hp28.same sm29)
      have hfC : Fit 6 (cD3 p) := fit_cD3 hpd
      have hp29 := hp28.same sm29
      clear hp27 hv27 hp28
      walk_at "ev"
      intro H30 sm30
      have hd30 := dp_pl (hp29.same sm30)
      clear hdA3 hdB3 hfC
      walk_at "ev"
      exact .mk ⟨_, _, _, _, _, rfl, sm8.trans (s829.trans sm30)⟩
    · intro σ H' hP
      obtain ⟨s5, s6, s7, s8, s9, rfl, sm8⟩ := hP.un
      walk_at "ev"
      exact q _ (kk6.trans (keepS (sm7.trans sm8))) ((hb6.same (sm7.trans sm8)).mono (by omega))
end
abbrev s_law : Stmt := top 63
abbrev N_law : List Str := ["_law_script", "_law_k", "_law_box_here", "_law_turn"]
abbrev P_law : List Str := ["_law_script"]
theorem sc_law : FnScope N_law P_law (defScope s_law) := ⟨rfl, rfl, rfl, by decide +kernel, rfl, by decide +kernel, by decide +kernel⟩
def spLaw (K : PySem.W.Frag) : Sp := fun vs H Q _ => ∃ (a : Addr) (ns : List Int), vs = [.ref a] ∧ SqL K H a (ns.map V.int) ∧ ns.length ≤ 63 ∧ ∀ H', Q (.bl true) H'
structure Fns (P : Program) (w : World) (K : PySem.W.Frag) (mg : Str → Option Value) (base : Heap) : Prop where
  r_is_whole : ∃ f fd, Df K mg "is_whole" s_is_whole P_is_whole f fd
  r_is_prime : ∃ f fd, Df K mg "is_prime" s_is_prime P_is_prime f fd
  r_factors : ∃ f fd, Df K mg "factors" s_factors P_factors f fd
  r_divisors : ∃ f fd, Df K mg "divisors" s_divisors P_divisors f fd
  r_are_coprime : ∃ f fd, Df K mg "are_coprime" s_are_coprime P_are_coprime f fd
  r_power_rest : ∃ f fd, Df K mg "power_rest" s_power_rest P_power_rest f fd
  r_generator : ∃ f fd, Df K mg "generator" s_generator P_generator f fd
  r_bare_length : ∃ f fd, Df K mg "bare_length" s_bare_length P_bare_length f fd
  r_pair_length : ∃ f fd, Df K mg "pair_length" s_pair_length P_pair_length f fd
  r_led_length : ∃ f fd, Df K mg "led_length" s_led_length P_led_length f fd
  r_length_if_plan : ∃ f fd, Df K mg "length_if_plan" s_length_if_plan P_length_if_plan f fd
  r_is_plan : ∃ f fd, Df K mg "is_plan" s_is_plan P_is_plan f fd
  r_plan_length : ∃ f fd, Df K mg "plan_length" s_plan_length P_plan_length f fd
  r_inner_plans : ∃ f fd, Df K mg "inner_plans" s_inner_plans P_inner_plans f fd
  r_lengths_in : ∃ f fd, Df K mg "lengths_in" s_lengths_in P_lengths_in f fd
  r_plan_lengths : ∃ f fd, Df K mg "plan_lengths" s_plan_lengths P_plan_lengths f fd
  r_plan_fits : ∃ f fd, Df K mg "plan_fits" s_plan_fits P_plan_fits f fd
  r_plan_depth : ∃ f fd, Df K mg "plan_depth" s_plan_depth P_plan_depth f fd
  r_plan_text : ∃ f fd, Df K mg "plan_text" s_plan_text P_plan_text f fd
  r_word_of : ∃ f fd, Df K mg "word_of" s_word_of P_word_of f fd
  r_pieces_of : ∃ f fd, Df K mg "pieces_of" s_pieces_of P_pieces_of f fd
  r_number_in : ∃ f fd, Df K mg "number_in" s_number_in P_number_in f fd
  r_part_in : ∃ f fd, Df K mg "part_in" s_part_in P_part_in f fd
  r_bracket_plan : ∃ f fd, Df K mg "bracket_plan" s_bracket_plan P_bracket_plan f fd
  r_plan_in : ∃ f fd, Df K mg "plan_in" s_plan_in P_plan_in f fd
  r_divided : ∃ f fd, Df K mg "divided" s_divided P_divided f fd
  r_wheel : ∃ f fd, Df K mg "wheel" s_wheel P_wheel f fd
  r__law_box : ∃ f fd, Df K mg "_law_box" s__law_box P__law_box f fd
  r__law_take : ∃ f fd, Df K mg "_law_take" s__law_take P__law_take f fd
  r__law_pick : ∃ f fd, Df K mg "_law_pick" s__law_pick P__law_pick f fd
  r__law_same : ∃ f fd, Df K mg "_law_same" s__law_same P__law_same f fd
  r__law_shares : ∃ f fd, Df K mg "_law_shares" s__law_shares P__law_shares f fd
  r__law_is_plain_prime : ∃ f fd, Df K mg "_law_is_plain_prime" s__law_is_plain_prime P__law_is_plain_prime f fd
  r__law_raised : ∃ f fd, Df K mg "_law_raised" s__law_raised P__law_raised f fd
  r__law_least_generator : ∃ f fd, Df K mg "_law_least_generator" s__law_least_generator P__law_least_generator f fd
  r__law_divided : ∃ f fd, Df K mg "_law_divided" s__law_divided P__law_divided f fd
  r__law_own_wheel : ∃ f fd, Df K mg "_law_own_wheel" s__law_own_wheel P__law_own_wheel f fd
  r__law_world : ∃ f fd, Df K mg "_law_world" s__law_world P__law_world f fd
  r__law_made : ∃ f fd, Df K mg "_law_made" s__law_made P__law_made f fd
  r__law_has : ∃ f fd, Df K mg "_law_has" s__law_has P__law_has f fd
  r__law_lengths : ∃ f fd, Df K mg "_law_lengths" s__law_lengths P__law_lengths f fd
  r__law_plan_of : ∃ f fd, Df K mg "_law_plan_of" s__law_plan_of P__law_plan_of f fd
  r__law_plan_words : ∃ f fd, Df K mg "_law_plan_words" s__law_plan_words P__law_plan_words f fd
  r__law_any_plan : ∃ f fd, Df K mg "_law_any_plan" s__law_any_plan P__law_any_plan f fd
  r__law_right : ∃ f fd, Df K mg "_law_right" s__law_right P__law_right f fd
theorem all_ones : ∀ {bs : List Bool}, (∀ b ∈ bs, b = true) → bs.all id = true := fun h => List.all_eq_true.mpr fun b hb => h b hb
section
variable {P : Program} {w : World} {K : PySem.W.Frag} {mg : Str → Option Value} {base : Heap}
theorem ok_law {f aS aT CT CB CG C1 C2 fI : Addr} {fd fdI : FuncData} {tk : Tok} (F : Fun K "law" "law" s_law f fd) (T : Blt mg) (U : Fns P w K mg base) (X : G24 K w mg aS aT CT CB fI fdI tk) (Y : G23 K mg CT CG C1 C2 fI fdI) : FnG P w K mg base CX0 26 f fd P_law (spLaw K) := by
  obtain ⟨⟨f_is_whole, d_is_whole, D_is_whole⟩, ⟨f_is_prime, d_is_prime, D_is_prime⟩, ⟨f_factors, d_factors, D_factors⟩, ⟨f_divisors, d_divisors, D_divisors⟩, ⟨f_are_coprime, d_are_coprime, D_are_coprime⟩, ⟨f_power_rest, d_power_rest, D_power_rest⟩, ⟨f_generator, d_generator, D_generator⟩, ⟨f_bare_length, d_bare_length, D_bare_length⟩, ⟨f_pair_length, d_pair_length, D_pair_length⟩, ⟨f_led_length, d_led_length, D_led_length⟩, ⟨f_length_if_plan, d_length_if_plan, D_length_if_plan⟩, ⟨f_is_plan, d_is_plan, D_is_plan⟩, ⟨f_plan_length, d_plan_length, D_plan_length⟩, ⟨f_inner_plans, d_inner_plans, D_inner_plans⟩, ⟨f_lengths_in, d_lengths_in, D_lengths_in⟩, ⟨f_plan_lengths, d_plan_lengths, D_plan_lengths⟩, ⟨f_plan_fits, d_plan_fits, D_plan_fits⟩, ⟨f_plan_depth, d_plan_depth, D_plan_depth⟩, ⟨f_plan_text, d_plan_text, D_plan_text⟩, ⟨f_word_of, d_word_of, D_word_of⟩, ⟨f_pieces_of, d_pieces_of, D_pieces_of⟩, ⟨f_number_in, d_number_in, D_number_in⟩, ⟨f_part_in, d_part_in, D_part_in⟩, ⟨f_bracket_plan, d_bracket_plan, D_bracket_plan⟩, ⟨f_plan_in, d_plan_in, D_plan_in⟩, ⟨f_divided, d_divided, D_divided⟩, ⟨f_wheel, d_wheel, D_wheel⟩, ⟨f__law_box, d__law_box, D__law_box⟩, ⟨f__law_take, d__law_take, D__law_take⟩, ⟨f__law_pick, d__law_pick, D__law_pick⟩, ⟨f__law_same, d__law_same, D__law_same⟩, ⟨f__law_shares, d__law_shares, D__law_shares⟩, ⟨f__law_is_plain_prime, d__law_is_plain_prime, D__law_is_plain_prime⟩, ⟨f__law_raised, d__law_raised, D__law_raised⟩, ⟨f__law_least_generator, d__law_least_generator, D__law_least_generator⟩, ⟨f__law_divided, d__law_divided, D__law_divided⟩, ⟨f__law_own_wheel, d__law_own_wheel, D__law_own_wheel⟩, ⟨f__law_world, d__law_world, D__law_world⟩, ⟨f__law_made, d__law_made, D__law_made⟩, ⟨f__law_has, d__law_has, D__law_has⟩, ⟨f__law_lengths, d__law_lengths, D__law_lengths⟩, ⟨f__law_plan_of, d__law_plan_of, D__law_plan_of⟩, ⟨f__law_plan_words, d__law_plan_words, D__law_plan_words⟩, ⟨f__law_any_plan, d__law_any_plan, D__law_any_plan⟩, ⟨f__law_right, d__law_right, D__law_right⟩⟩ := U
  have G__law_box : FnOk P w K mg base CX0 1 f__law_box d__law_box P__law_box (spBox K) := ok_box D__law_box.F T
  have G__law_right : FnG P w K mg base CX0 24 f__law_right d__law_right P__law_right (spRight K) := ok_right D__law_right.F T ⟨⟨f_is_whole, d_is_whole, D_is_whole⟩, ⟨f_is_prime, d_is_prime, D_is_prime⟩, ⟨f_factors, d_factors, D_factors⟩, ⟨f_divisors, d_divisors, D_divisors⟩, ⟨f_are_coprime, d_are_coprime, D_are_coprime⟩, ⟨f_power_rest, d_power_rest, D_power_rest⟩, ⟨f_generator, d_generator, D_generator⟩, ⟨f_bare_length, d_bare_length, D_bare_length⟩, ⟨f_pair_length, d_pair_length, D_pair_length⟩, ⟨f_led_length, d_led_length, D_led_length⟩, ⟨f_length_if_plan, d_length_if_plan, D_length_if_plan⟩, ⟨f_is_plan, d_is_plan, D_is_plan⟩, ⟨f_plan_length, d_plan_length, D_plan_length⟩, ⟨f_inner_plans, d_inner_plans, D_inner_plans⟩, ⟨f_lengths_in, d_lengths_in, D_lengths_in⟩, ⟨f_plan_lengths, d_plan_lengths, D_plan_lengths⟩, ⟨f_plan_fits, d_plan_fits, D_plan_fits⟩, ⟨f_plan_depth, d_plan_depth, D_plan_depth⟩, ⟨f_plan_text, d_plan_text, D_plan_text⟩, ⟨f_word_of, d_word_of, D_word_of⟩, ⟨f_pieces_of, d_pieces_of, D_pieces_of⟩, ⟨f_number_in, d_number_in, D_number_in⟩, ⟨f_part_in, d_part_in, D_part_in⟩, ⟨f_bracket_plan, d_bracket_plan, D_bracket_plan⟩, ⟨f_plan_in, d_plan_in, D_plan_in⟩, ⟨f_divided, d_divided, D_divided⟩, ⟨f_wheel, d_wheel, D_wheel⟩, ⟨f__law_box, d__law_box, D__law_box⟩, ⟨f__law_take, d__law_take, D__law_take⟩, ⟨f__law_pick, d__law_pick, D__law_pick⟩, ⟨f__law_same, d__law_same, D__law_same⟩, ⟨f__law_shares, d__law_shares, D__law_shares⟩, ⟨f__law_is_plain_prime, d__law_is_plain_prime, D__law_is_plain_prime⟩, ⟨f__law_raised, d__law_raised, D__law_raised⟩, ⟨f__law_least_generator, d__law_least_generator, D__law_least_generator⟩, ⟨f__law_divided, d__law_divided, D__law_divided⟩, ⟨f__law_own_wheel, d__law_own_wheel, D__law_own_wheel⟩, ⟨f__law_world, d__law_world, D__law_world⟩, ⟨f__law_made, d__law_made, D__law_made⟩, ⟨f__law_has, d__law_has, D__law_has⟩, ⟨f__law_lengths, d__law_lengths, D__law_lengths⟩, ⟨f__law_plan_of, d__law_plan_of, D__law_plan_of⟩, ⟨f__law_plan_words, d__law_plan_words, D__law_plan_words⟩, ⟨f__law_any_plan, d__law_any_plan, D__law_any_plan⟩⟩ X Y
  have nd := sc_law.nd
  refine okG F sc_law (fun vs H Q E h => ?_) (fun cdv A outer s H vs Q E hgd hr h => ?_)
  · obtain ⟨a, ns, rfl, _⟩ := h
    rfl
  · obtain ⟨a, ns, rfl, hS, hlen, q⟩ := h
    refine ⟨_, (pss_cons (ps_for PassesOwn.never rfl (pi_range1 (by rfl) T.b_range (pa_cons (pe_op op_add (pe_int) (pe_callB (call_min2 rfl) (by rfl) T.b_min (by decide +kernel) (pa_cons (pe_int) (pa_cons (pe_callB (r := rLenQ K) call_len_seq (by rfl) T.b_len (by decide +kernel) (pa_cons (pv 0) pa_nil)) pa_nil)))) pa_nil)) (pg_name (i := 1) nd rfl (Or.inl rfl))
      (pss_cons (ps_set (i := 2) nd rfl (Or.inr rfl) (pe_call G__law_box (hr.mono (by omega)) (by rfl) D__law_box.g D__law_box.F.kp D__law_box.b .nil pass0 (pa_cons (pv 0) (pa_cons (pv 1) pa_nil))))
      (pss_one (ps_if (pt_not (pt_val (pe_callB (r := rAll K) (cr_all rfl) (by rfl) T.b_all (by decide +kernel) (pa_cons (pe_lc (own := [("_law_turn", 3)]) (g := gName 3) (by rfl) nd (pi_range1 (by rfl) T.b_range (pa_cons (pe_int) pa_nil)) (blkOk_by (own := [("_law_turn", 3)]) (N := N_law) (sc := defScope s_law) (by decide +kernel)) (fun _ _ _ _ _ => (pg_name (i := 3) nd rfl (Or.inl rfl))) (fun _ _ _ _ _ => pts_nil) (fun _ _ _ _ _ => (pe_callG G__law_right hgd (hr.mono (by omega)) (by rfl) D__law_right.g D__law_right.F.kp D__law_right.b .nil pass0 (pa_cons (pv 2) pa_nil)))) pa_nil)))) (pss_one (ps_ret (pe_bl))) pss_nil))))
      (pss_one (ps_ret (pe_bl)))), ?_⟩
    walk_at "ev"
    refine for_range (lo := 0) (n := _) (fun i σ H' => Hold (∃ s1 s2 s3, σ = [some (.ref a), s1, s2, s3] ∧ Same H H')) (.mk ⟨_, _, _, rfl, Same.refl _⟩) ?_ ?_
    · intro i σ H1 hi hP
      obtain ⟨s1, s2, s3, rfl, sm1⟩ := hP.un
      have hi6 : i < 6 := by
        refine Nat.lt_of_lt_of_le hi ?_
        split <;> omega
      have hS1 := sm1.seq hS
      clear hP
      walk_at "ev"
      intro b H2 hb0 sm2 hbx
      have hbf : H b = none := sm1.free hb0
      walk_at "ev"
      intro D hD
      have nDb : D ≠ b := hbx.ne hD
      have hDf : H D = none := (sm1.trans sm2).free hD
      refine lc_range (lo := 0) (n := _) (fun j H' => Hold (∃ bs : List Bool, Same H H' ∧ BoxAt H' b (100 * (j : Int)) ∧ H' D = some (.lst (bs.map V.bl)) ∧ bs.length = j ∧ ∀ x ∈ bs, x = true)) (.mk ⟨[], same_mut (sm1.trans sm2) hDf, (hbx.upd nDb).mono (by omega), upd_same, rfl, fun x hx => nomatch hx⟩) ?_ ?_
      · intro j H3 hj hP3
        obtain ⟨bs, sm3, hb3, hD3, hl3, hx3⟩ := hP3.un
        have hj4 : j < 4 := hj
        have hjc : 100 * (j : Int) < 800000 := by omega
        clear hP3
        walk_at "ev"
        intro H4 k4 hb4
        have hD4 := k4 _ _ nDb hD3
        have hsz : (bs.map V.bl).length < sizeLine := szm (by rw [List.length_map]; omega)
        have sm4 := keep_same sm3 hbf k4
        walk_at "ev"
        refine .mk ⟨bs ++ [true], same_mut sm4 hDf, (hb4.upd nDb).mono (by omega), ?_, ?_, ?_⟩
        · rw [upd_same, List.map_append]
          rfl
        · rw [List.length_append, hl3]
          rfl
        · intro x hx
          rcases List.mem_append.mp hx with h | h
          · exact hx3 x h
          · simpa using h
      · intro H3 hP3
        obtain ⟨bs, sm3, hb3, hD3, hl3, hx3⟩ := hP3.un
        refine ⟨D, bs, rfl, SqL.of hD3, ?_⟩
        rw [all_ones hx3]
        walk_at "ev"
        exact .mk ⟨_, _, _, rfl, sm3⟩
    · intro σ H1 hP
      obtain ⟨s1, s2, s3, rfl, sm1⟩ := hP.un
      walk_at "ev"
      exact q _
end
theorem all_mk {l : PySem.W.OpenLaw} {w : World} {K : PySem.W.Frag} {h : Heap} {mg : Str → Option Value} {fa : Addr} (X : K.In h) (G : h.Ns mainGlobals mg) (hfa : mg "law" = some (.ref fa))
    {od0 an0 : Option Addr} {sl0 : Array (Option Value)} {oc0 kV0 dc0 pm0 cd0 ct0 : Value} {f0 : Addr}
    {od1 an1 : Option Addr} {sl1 : Array (Option Value)} {oc1 kV1 dc1 pm1 cd1 ct1 : Value} {f1 : Addr}
    {od2 an2 : Option Addr} {sl2 : Array (Option Value)} {oc2 kV2 dc2 pm2 cd2 ct2 : Value} {f2 : Addr}
    {od3 an3 : Option Addr} {sl3 : Array (Option Value)} {oc3 kV3 dc3 pm3 cd3 ct3 : Value} {f3 : Addr}
    {od4 an4 : Option Addr} {sl4 : Array (Option Value)} {oc4 kV4 dc4 pm4 cd4 ct4 : Value} {f4 : Addr}
    {od5 an5 : Option Addr} {sl5 : Array (Option Value)} {oc5 kV5 dc5 pm5 cd5 ct5 : Value} {f5 : Addr}
    {od6 an6 : Option Addr} {sl6 : Array (Option Value)} {oc6 kV6 dc6 pm6 cd6 ct6 : Value} {f6 : Addr}
    {od7 an7 : Option Addr} {sl7 : Array (Option Value)} {oc7 kV7 dc7 pm7 cd7 ct7 : Value} {f7 : Addr}
    {od8 an8 : Option Addr} {sl8 : Array (Option Value)} {oc8 kV8 dc8 pm8 cd8 ct8 : Value} {f8 : Addr}
    {od9 an9 : Option Addr} {sl9 : Array (Option Value)} {oc9 kV9 dc9 pm9 cd9 ct9 : Value} {f9 : Addr}
    {od10 an10 : Option Addr} {sl10 : Array (Option Value)} {oc10 kV10 dc10 pm10 cd10 ct10 : Value} {f10 : Addr}
    {od11 an11 : Option Addr} {sl11 : Array (Option Value)} {oc11 kV11 dc11 pm11 cd11 ct11 : Value} {f11 : Addr}
    {od12 an12 : Option Addr} {sl12 : Array (Option Value)} {oc12 kV12 dc12 pm12 cd12 ct12 : Value} {f12 : Addr}
    {od13 an13 : Option Addr} {sl13 : Array (Option Value)} {oc13 kV13 dc13 pm13 cd13 ct13 : Value} {f13 : Addr}
    {od14 an14 : Option Addr} {sl14 : Array (Option Value)} {oc14 kV14 dc14 pm14 cd14 ct14 : Value} {f14 : Addr}
    {od15 an15 : Option Addr} {sl15 : Array (Option Value)} {oc15 kV15 dc15 pm15 cd15 ct15 : Value} {f15 : Addr}
    {od16 an16 : Option Addr} {sl16 : Array (Option Value)} {oc16 kV16 dc16 pm16 cd16 ct16 : Value} {f16 : Addr}
    {od17 an17 : Option Addr} {sl17 : Array (Option Value)} {oc17 kV17 dc17 pm17 cd17 ct17 : Value} {f17 : Addr}
    {od18 an18 : Option Addr} {sl18 : Array (Option Value)} {oc18 kV18 dc18 pm18 cd18 ct18 : Value} {f18 : Addr}
    {od19 an19 : Option Addr} {sl19 : Array (Option Value)} {oc19 kV19 dc19 pm19 cd19 ct19 : Value} {f19 : Addr}
    {od20 an20 : Option Addr} {sl20 : Array (Option Value)} {oc20 kV20 dc20 pm20 cd20 ct20 : Value} {f20 : Addr}
    {od21 an21 : Option Addr} {sl21 : Array (Option Value)} {oc21 kV21 dc21 pm21 cd21 ct21 : Value} {f21 : Addr}
    {od22 an22 : Option Addr} {sl22 : Array (Option Value)} {oc22 kV22 dc22 pm22 cd22 ct22 : Value} {f22 : Addr}
    {od23 an23 : Option Addr} {sl23 : Array (Option Value)} {oc23 kV23 dc23 pm23 cd23 ct23 : Value} {f23 : Addr}
    {od24 an24 : Option Addr} {sl24 : Array (Option Value)} {oc24 kV24 dc24 pm24 cd24 ct24 : Value} {f24 : Addr}
    {od25 an25 : Option Addr} {sl25 : Array (Option Value)} {oc25 kV25 dc25 pm25 cd25 ct25 : Value} {f25 : Addr}
    {od26 an26 : Option Addr} {sl26 : Array (Option Value)} {oc26 kV26 dc26 pm26 cd26 ct26 : Value} {f26 : Addr}
    {od27 an27 : Option Addr} {sl27 : Array (Option Value)} {oc27 kV27 dc27 pm27 cd27 ct27 : Value} {f27 : Addr}
    {od28 an28 : Option Addr} {sl28 : Array (Option Value)} {oc28 kV28 dc28 pm28 cd28 ct28 : Value} {f28 : Addr}
    {od29 an29 : Option Addr} {sl29 : Array (Option Value)} {oc29 kV29 dc29 pm29 cd29 ct29 : Value} {f29 : Addr}
    {od30 an30 : Option Addr} {sl30 : Array (Option Value)} {oc30 kV30 dc30 pm30 cd30 ct30 : Value} {f30 : Addr}
    {od31 an31 : Option Addr} {sl31 : Array (Option Value)} {oc31 kV31 dc31 pm31 cd31 ct31 : Value} {f31 : Addr}
    {od32 an32 : Option Addr} {sl32 : Array (Option Value)} {oc32 kV32 dc32 pm32 cd32 ct32 : Value} {f32 : Addr}
    {od33 an33 : Option Addr} {sl33 : Array (Option Value)} {oc33 kV33 dc33 pm33 cd33 ct33 : Value} {f33 : Addr}
    {od34 an34 : Option Addr} {sl34 : Array (Option Value)} {oc34 kV34 dc34 pm34 cd34 ct34 : Value} {f34 : Addr}
    {od35 an35 : Option Addr} {sl35 : Array (Option Value)} {oc35 kV35 dc35 pm35 cd35 ct35 : Value} {f35 : Addr}
    {od36 an36 : Option Addr} {sl36 : Array (Option Value)} {oc36 kV36 dc36 pm36 cd36 ct36 : Value} {f36 : Addr}
    {od37 an37 : Option Addr} {sl37 : Array (Option Value)} {oc37 kV37 dc37 pm37 cd37 ct37 : Value} {f37 : Addr}
    {od38 an38 : Option Addr} {sl38 : Array (Option Value)} {oc38 kV38 dc38 pm38 cd38 ct38 : Value} {f38 : Addr}
    {od39 an39 : Option Addr} {sl39 : Array (Option Value)} {oc39 kV39 dc39 pm39 cd39 ct39 : Value} {f39 : Addr}
    {od40 an40 : Option Addr} {sl40 : Array (Option Value)} {oc40 kV40 dc40 pm40 cd40 ct40 : Value} {f40 : Addr}
    {od41 an41 : Option Addr} {sl41 : Array (Option Value)} {oc41 kV41 dc41 pm41 cd41 ct41 : Value} {f41 : Addr}
    {od42 an42 : Option Addr} {sl42 : Array (Option Value)} {oc42 kV42 dc42 pm42 cd42 ct42 : Value} {f42 : Addr}
    {od43 an43 : Option Addr} {sl43 : Array (Option Value)} {oc43 kV43 dc43 pm43 cd43 ct43 : Value} {f43 : Addr}
    {od44 an44 : Option Addr} {sl44 : Array (Option Value)} {oc44 kV44 dc44 pm44 cd44 ct44 : Value} {f44 : Addr}
    {od45 an45 : Option Addr} {sl45 : Array (Option Value)} {oc45 kV45 dc45 pm45 cd45 ct45 : Value} {f45 : Addr}
    {fI : Addr} {odI anI : Option Addr} {slI : Array (Option Value)} {ocI kVI dcI pmI cdI ctI : Value}
    {C_TurnError : Addr}
    {C_BadGround : Addr}
    {C_BadText : Addr}
    {C_Rests : Addr}
    {C_Roots : Addr}
    {nm_BadGround q_BadGround : Str} {N_BadGround : Addr} {bs_BadGround : List Value} {sn_BadGround : List Str} {sb_BadGround : List Value} {ab_BadGround : Bool} {co_BadGround : Option Bool} {dd_BadGround : Option Addr} {m0_BadGround m1_BadGround m2_BadGround m3_BadGround m5_BadGround : Option Value}
    {nm_BadText q_BadText : Str} {N_BadText : Addr} {bs_BadText : List Value} {sn_BadText : List Str} {sb_BadText : List Value} {ab_BadText : Bool} {co_BadText : Option Bool} {dd_BadText : Option Addr} {m0_BadText m1_BadText m2_BadText m3_BadText m5_BadText : Option Value}
    {a_SHORTS : Addr} {dd_SHORTS : Option Addr} {n_SHORTS : Nat} {sl_SHORTS : Array (Option Value)} {t_SHORTS_0 : Tok} {t_SHORTS_1 : Tok} {t_SHORTS_2 : Tok} {t_SHORTS_3 : Tok}
    {t_MOST_PRIME : Tok}
    {t_MOST_ORDER : Tok}
    {t_FIGURES : Tok}
    {od_Rests___init__ an_Rests___init__ : Option Addr} {sl_Rests___init__ : Array (Option Value)} {oc_Rests___init__ kV_Rests___init__ dc_Rests___init__ pm_Rests___init__ cd_Rests___init__ ct_Rests___init__ : Value} {f_Rests___init__ : Addr}
    {od_Rests_has_root an_Rests_has_root : Option Addr} {sl_Rests_has_root : Array (Option Value)} {oc_Rests_has_root kV_Rests_has_root dc_Rests_has_root pm_Rests_has_root cd_Rests_has_root ct_Rests_has_root : Value} {f_Rests_has_root : Addr}
    {od_Roots___init__ an_Roots___init__ : Option Addr} {sl_Roots___init__ : Array (Option Value)} {oc_Roots___init__ kV_Roots___init__ dc_Roots___init__ pm_Roots___init__ cd_Roots___init__ ct_Roots___init__ : Value} {f_Roots___init__ : Addr}
    {od_Roots_has_root an_Roots_has_root : Option Addr} {sl_Roots_has_root : Array (Option Value)} {oc_Roots_has_root kV_Roots_has_root dc_Roots_has_root pm_Roots_has_root cd_Roots_has_root ct_Roots_has_root : Value} {f_Roots_has_root : Addr}
    {a_SIGNS : Addr} {es_SIGNS : Array DictEntry} {n_SIGNS : Nat}
    {tk_SIGNS_plain : Tok} {tk_SIGNS_short : Tok} {tk_SIGNS_split : Tok} {tk_SIGNS_parts : Tok} {tk_SIGNS_powers : Tok} {tk_SIGNS_stretch : Tok}
    (g_TurnError : PySem.W.nsIn K mainGlobals "TurnError" = some (some (.ref C_TurnError)))
    (g_BadGround : PySem.W.nsIn K mainGlobals "BadGround" = some (some (.ref C_BadGround)))
    (g_BadText : PySem.W.nsIn K mainGlobals "BadText" = some (some (.ref C_BadText)))
    (g_Rests : PySem.W.nsIn K mainGlobals "Rests" = some (some (.ref C_Rests)))
    (g_Roots : PySem.W.nsIn K mainGlobals "Roots" = some (some (.ref C_Roots)))
    (on : PySem.W.specialIn K (.builtin "object.__class__") "__get__" = some (some (.builtin "getset_descriptor.__get__")))
    (ot : PySem.W.takesIn K (.builtin "object.__class__") = some true)
    (eT : PySem.W.subIn K (.ref C_TurnError) (.type "BaseException") = some true)
    (hT : PySem.W.hasDictIn K C_TurnError = true)
    (tT : PySem.W.typeIn K (.ref C_TurnError) = some (.type "type"))
    (xL_BadGround : K.lookup C_BadGround = some (excClassObj nm_BadGround q_BadGround C_BadGround N_BadGround bs_BadGround [.ref C_TurnError, .type "ValueError", .type "Exception", .type "BaseException", .type "object"] true sn_BadGround sb_BadGround ab_BadGround co_BadGround dd_BadGround m0_BadGround m1_BadGround m2_BadGround m3_BadGround m5_BadGround "ValueError.__new__"))
    (sa_BadGround : PySem.W.findIn K (.ref C_BadGround) "__setattr__" = some (some (.builtin "object.__setattr__")))
    (ga_BadGround : PySem.W.findIn K (.ref C_BadGround) "__getattribute__" = some (some (.builtin "BaseException.__getattribute__")))
    (gg_BadGround : PySem.W.findIn K (.ref C_BadGround) "__getattr__" = some none)
    (nw_BadGround : PySem.W.findIn K (.ref C_BadGround) "what" = some none)
    (ii_BadGround : PySem.W.findIn K (.ref C_BadGround) "__init__" = some (some (.ref fI)))
    (oc_BadGround : PySem.W.findIn K (.ref C_BadGround) "__class__" = some (some (.builtin "object.__class__")))
    (kC_BadGround : PySem.W.keepIn K (.ref C_BadGround) = true)
    (eC_BadGround : PySem.W.subIn K (.ref C_BadGround) (.type "BaseException") = some true)
    (tC_BadGround : PySem.W.typeIn K (.ref C_BadGround) = some (.type "type"))
    (hC_BadGround : PySem.W.hasDictIn K C_BadGround = true)
    (mo_BadGround : PySem.W.mroIn K C_BadGround (.type "object") = some true)
    (su_BadGround : PySem.W.subIn K (.ref C_BadGround) (.ref C_TurnError) = some true)
    (kv_BadGround : PySem.W.kitOne K (.ref C_BadGround) (.type "ValueError") = some true)
    (kt_BadGround : PySem.W.kitOne K (.ref C_BadGround) (.ref C_TurnError) = some true)
    (xL_BadText : K.lookup C_BadText = some (excClassObj nm_BadText q_BadText C_BadText N_BadText bs_BadText [.ref C_TurnError, .type "ValueError", .type "Exception", .type "BaseException", .type "object"] true sn_BadText sb_BadText ab_BadText co_BadText dd_BadText m0_BadText m1_BadText m2_BadText m3_BadText m5_BadText "ValueError.__new__"))
    (sa_BadText : PySem.W.findIn K (.ref C_BadText) "__setattr__" = some (some (.builtin "object.__setattr__")))
    (ga_BadText : PySem.W.findIn K (.ref C_BadText) "__getattribute__" = some (some (.builtin "BaseException.__getattribute__")))
    (gg_BadText : PySem.W.findIn K (.ref C_BadText) "__getattr__" = some none)
    (nw_BadText : PySem.W.findIn K (.ref C_BadText) "what" = some none)
    (ii_BadText : PySem.W.findIn K (.ref C_BadText) "__init__" = some (some (.ref fI)))
    (oc_BadText : PySem.W.findIn K (.ref C_BadText) "__class__" = some (some (.builtin "object.__class__")))
    (kC_BadText : PySem.W.keepIn K (.ref C_BadText) = true)
    (eC_BadText : PySem.W.subIn K (.ref C_BadText) (.type "BaseException") = some true)
    (tC_BadText : PySem.W.typeIn K (.ref C_BadText) = some (.type "type"))
    (hC_BadText : PySem.W.hasDictIn K C_BadText = true)
    (mo_BadText : PySem.W.mroIn K C_BadText (.type "object") = some true)
    (su_BadText : PySem.W.subIn K (.ref C_BadText) (.ref C_TurnError) = some true)
    (kv_BadText : PySem.W.kitOne K (.ref C_BadText) (.type "ValueError") = some true)
    (kt_BadText : PySem.W.kitOne K (.ref C_BadText) (.ref C_TurnError) = some true)
    (lI : K.lookup fI = some ⟨ocI, odI, .func (PySem.W.fnOf "__init__" "TurnError.__init__" (defArgs s_init) (defBody s_init) (defScope s_init) .none kVI dcI pmI anI cdI ctI), slI⟩)
    (cI : PySem.W.codeIn K cdI "TurnError.__init__" = true)
    (kI : PySem.W.keepIn K (.ref fI) = true)
    (tI : PySem.W.typeIn K (.ref fI) = some (.type "function"))
    (g_SHORTS : PySem.W.nsIn K mainGlobals "SHORTS" = some (some (.ref a_SHORTS)))
    (l_SHORTS : K.lookup a_SHORTS = some ⟨.type "tuple", dd_SHORTS, .seq #[.int 1 t_SHORTS_0, .int 2 t_SHORTS_1, .int 3 t_SHORTS_2, .int 4 t_SHORTS_3] n_SHORTS, sl_SHORTS⟩)
    (g_MOST_PRIME : PySem.W.nsIn K mainGlobals "MOST_PRIME" = some (some (.int 10000 t_MOST_PRIME)))
    (g_MOST_ORDER : PySem.W.nsIn K mainGlobals "MOST_ORDER" = some (some (.int 30 t_MOST_ORDER)))
    (g_FIGURES : PySem.W.nsIn K mainGlobals "FIGURES" = some (some (.str "0123456789" t_FIGURES)))
    (pg_Rests : PySem.W.plainGet K C_Rests Str.empty = true)
    (hd_Rests : PySem.W.hasDictIn K C_Rests = true)
    (po_Rests : PySem.W.plainOver K C_Rests = true)
    (sa_Rests : PySem.W.findIn K (.ref C_Rests) "__setattr__" = some (some (.builtin "object.__setattr__")))
    (mk_Rests : PySem.W.makesIn K C_Rests = true)
    (kc_Rests : PySem.W.keepIn K (.ref C_Rests) = true)
    (nf_Rests_prime : PySem.W.findIn K (.ref C_Rests) "prime" = some none)
    (nf_Rests_base : PySem.W.findIn K (.ref C_Rests) "base" = some none)
    (at_Rests___init__ : PySem.W.findIn K (.ref C_Rests) "__init__" = some (some (.ref f_Rests___init__)))
    (lk_Rests___init__ : K.lookup f_Rests___init__ = some ⟨oc_Rests___init__, od_Rests___init__, .func (PySem.W.fnOf "__init__" "Rests.__init__" (defArgs s_Rests___init__) (defBody s_Rests___init__) (defScope s_Rests___init__) .none kV_Rests___init__ dc_Rests___init__ pm_Rests___init__ an_Rests___init__ cd_Rests___init__ ct_Rests___init__), sl_Rests___init__⟩)
    (cn_Rests___init__ : PySem.W.codeIn K cd_Rests___init__ "Rests.__init__" = true)
    (kp_Rests___init__ : PySem.W.keepIn K (.ref f_Rests___init__) = true)
    (fn_Rests___init__ : PySem.W.isFn K (.ref f_Rests___init__) = true)
    (at_Rests_has_root : PySem.W.findIn K (.ref C_Rests) "has_root" = some (some (.ref f_Rests_has_root)))
    (lk_Rests_has_root : K.lookup f_Rests_has_root = some ⟨oc_Rests_has_root, od_Rests_has_root, .func (PySem.W.fnOf "has_root" "Rests.has_root" (defArgs s_Rests_has_root) (defBody s_Rests_has_root) (defScope s_Rests_has_root) .none kV_Rests_has_root dc_Rests_has_root pm_Rests_has_root an_Rests_has_root cd_Rests_has_root ct_Rests_has_root), sl_Rests_has_root⟩)
    (cn_Rests_has_root : PySem.W.codeIn K cd_Rests_has_root "Rests.has_root" = true)
    (kp_Rests_has_root : PySem.W.keepIn K (.ref f_Rests_has_root) = true)
    (fn_Rests_has_root : PySem.W.isFn K (.ref f_Rests_has_root) = true)
    (pg_Roots : PySem.W.plainGet K C_Roots Str.empty = true)
    (hd_Roots : PySem.W.hasDictIn K C_Roots = true)
    (po_Roots : PySem.W.plainOver K C_Roots = true)
    (sa_Roots : PySem.W.findIn K (.ref C_Roots) "__setattr__" = some (some (.builtin "object.__setattr__")))
    (mk_Roots : PySem.W.makesIn K C_Roots = true)
    (kc_Roots : PySem.W.keepIn K (.ref C_Roots) = true)
    (nf_Roots_order : PySem.W.findIn K (.ref C_Roots) "order" = some none)
    (nf_Roots_rim : PySem.W.findIn K (.ref C_Roots) "rim" = some none)
    (at_Roots___init__ : PySem.W.findIn K (.ref C_Roots) "__init__" = some (some (.ref f_Roots___init__)))
    (lk_Roots___init__ : K.lookup f_Roots___init__ = some ⟨oc_Roots___init__, od_Roots___init__, .func (PySem.W.fnOf "__init__" "Roots.__init__" (defArgs s_Roots___init__) (defBody s_Roots___init__) (defScope s_Roots___init__) .none kV_Roots___init__ dc_Roots___init__ pm_Roots___init__ an_Roots___init__ cd_Roots___init__ ct_Roots___init__), sl_Roots___init__⟩)
    (cn_Roots___init__ : PySem.W.codeIn K cd_Roots___init__ "Roots.__init__" = true)
    (kp_Roots___init__ : PySem.W.keepIn K (.ref f_Roots___init__) = true)
    (fn_Roots___init__ : PySem.W.isFn K (.ref f_Roots___init__) = true)
    (at_Roots_has_root : PySem.W.findIn K (.ref C_Roots) "has_root" = some (some (.ref f_Roots_has_root)))
    (lk_Roots_has_root : K.lookup f_Roots_has_root = some ⟨oc_Roots_has_root, od_Roots_has_root, .func (PySem.W.fnOf "has_root" "Roots.has_root" (defArgs s_Roots_has_root) (defBody s_Roots_has_root) (defScope s_Roots_has_root) .none kV_Roots_has_root dc_Roots_has_root pm_Roots_has_root an_Roots_has_root cd_Roots_has_root ct_Roots_has_root), sl_Roots_has_root⟩)
    (cn_Roots_has_root : PySem.W.codeIn K cd_Roots_has_root "Roots.has_root" = true)
    (kp_Roots_has_root : PySem.W.keepIn K (.ref f_Roots_has_root) = true)
    (fn_Roots_has_root : PySem.W.isFn K (.ref f_Roots_has_root) = true)
    (g_SIGNS : PySem.W.nsIn K mainGlobals "SIGNS" = some (some (.ref a_SIGNS)))
    (d_SIGNS : K.lookup a_SIGNS = some ⟨.type "dict", none, .dict es_SIGNS n_SIGNS, #[]⟩)
    (l_SIGNS : PySem.W.KeysLit w.params es_SIGNS.toList)
    (sy_SIGNS : (a_SIGNS == sysModules) = false)
    (pd_SIGNS : Paired (fun (e : DictEntry) (x : Str) => ∃ t, e.key = .str x t) es_SIGNS.toList ["plain", "short", "split", "parts", "powers", "stretch"])
    (v_SIGNS_plain : PySem.W.nsIn K a_SIGNS "plain" = some (some (.str "p" tk_SIGNS_plain)))
    (v_SIGNS_short : PySem.W.nsIn K a_SIGNS "short" = some (some (.str "s" tk_SIGNS_short)))
    (v_SIGNS_split : PySem.W.nsIn K a_SIGNS "split" = some (some (.str "*" tk_SIGNS_split)))
    (v_SIGNS_parts : PySem.W.nsIn K a_SIGNS "parts" = some (some (.str "." tk_SIGNS_parts)))
    (v_SIGNS_powers : PySem.W.nsIn K a_SIGNS "powers" = some (some (.str "^" tk_SIGNS_powers)))
    (v_SIGNS_stretch : PySem.W.nsIn K a_SIGNS "stretch" = some (some (.str "~" tk_SIGNS_stretch)))
    (a0 : PySem.W.nsIn K mainGlobals "is_whole" = some (some (.ref f0))) (l0 : K.lookup f0 = some ⟨oc0, od0, .func (PySem.W.fnOf "is_whole" "is_whole" (defArgs s_is_whole) (defBody s_is_whole) (defScope s_is_whole) .none kV0 dc0 pm0 an0 cd0 ct0), sl0⟩) (c0 : PySem.W.codeIn K cd0 "is_whole" = true) (k0 : PySem.W.keepIn K (.ref f0) = true)
    (a1 : PySem.W.nsIn K mainGlobals "is_prime" = some (some (.ref f1))) (l1 : K.lookup f1 = some ⟨oc1, od1, .func (PySem.W.fnOf "is_prime" "is_prime" (defArgs s_is_prime) (defBody s_is_prime) (defScope s_is_prime) .none kV1 dc1 pm1 an1 cd1 ct1), sl1⟩) (c1 : PySem.W.codeIn K cd1 "is_prime" = true) (k1 : PySem.W.keepIn K (.ref f1) = true)
    (a2 : PySem.W.nsIn K mainGlobals "factors" = some (some (.ref f2))) (l2 : K.lookup f2 = some ⟨oc2, od2, .func (PySem.W.fnOf "factors" "factors" (defArgs s_factors) (defBody s_factors) (defScope s_factors) .none kV2 dc2 pm2 an2 cd2 ct2), sl2⟩) (c2 : PySem.W.codeIn K cd2 "factors" = true) (k2 : PySem.W.keepIn K (.ref f2) = true)
    (a3 : PySem.W.nsIn K mainGlobals "divisors" = some (some (.ref f3))) (l3 : K.lookup f3 = some ⟨oc3, od3, .func (PySem.W.fnOf "divisors" "divisors" (defArgs s_divisors) (defBody s_divisors) (defScope s_divisors) .none kV3 dc3 pm3 an3 cd3 ct3), sl3⟩) (c3 : PySem.W.codeIn K cd3 "divisors" = true) (k3 : PySem.W.keepIn K (.ref f3) = true)
    (a4 : PySem.W.nsIn K mainGlobals "are_coprime" = some (some (.ref f4))) (l4 : K.lookup f4 = some ⟨oc4, od4, .func (PySem.W.fnOf "are_coprime" "are_coprime" (defArgs s_are_coprime) (defBody s_are_coprime) (defScope s_are_coprime) .none kV4 dc4 pm4 an4 cd4 ct4), sl4⟩) (c4 : PySem.W.codeIn K cd4 "are_coprime" = true) (k4 : PySem.W.keepIn K (.ref f4) = true)
    (a5 : PySem.W.nsIn K mainGlobals "power_rest" = some (some (.ref f5))) (l5 : K.lookup f5 = some ⟨oc5, od5, .func (PySem.W.fnOf "power_rest" "power_rest" (defArgs s_power_rest) (defBody s_power_rest) (defScope s_power_rest) .none kV5 dc5 pm5 an5 cd5 ct5), sl5⟩) (c5 : PySem.W.codeIn K cd5 "power_rest" = true) (k5 : PySem.W.keepIn K (.ref f5) = true)
    (a6 : PySem.W.nsIn K mainGlobals "generator" = some (some (.ref f6))) (l6 : K.lookup f6 = some ⟨oc6, od6, .func (PySem.W.fnOf "generator" "generator" (defArgs s_generator) (defBody s_generator) (defScope s_generator) .none kV6 dc6 pm6 an6 cd6 ct6), sl6⟩) (c6 : PySem.W.codeIn K cd6 "generator" = true) (k6 : PySem.W.keepIn K (.ref f6) = true)
    (a7 : PySem.W.nsIn K mainGlobals "bare_length" = some (some (.ref f7))) (l7 : K.lookup f7 = some ⟨oc7, od7, .func (PySem.W.fnOf "bare_length" "bare_length" (defArgs s_bare_length) (defBody s_bare_length) (defScope s_bare_length) .none kV7 dc7 pm7 an7 cd7 ct7), sl7⟩) (c7 : PySem.W.codeIn K cd7 "bare_length" = true) (k7 : PySem.W.keepIn K (.ref f7) = true)
    (a8 : PySem.W.nsIn K mainGlobals "pair_length" = some (some (.ref f8))) (l8 : K.lookup f8 = some ⟨oc8, od8, .func (PySem.W.fnOf "pair_length" "pair_length" (defArgs s_pair_length) (defBody s_pair_length) (defScope s_pair_length) .none kV8 dc8 pm8 an8 cd8 ct8), sl8⟩) (c8 : PySem.W.codeIn K cd8 "pair_length" = true) (k8 : PySem.W.keepIn K (.ref f8) = true)
    (a9 : PySem.W.nsIn K mainGlobals "led_length" = some (some (.ref f9))) (l9 : K.lookup f9 = some ⟨oc9, od9, .func (PySem.W.fnOf "led_length" "led_length" (defArgs s_led_length) (defBody s_led_length) (defScope s_led_length) .none kV9 dc9 pm9 an9 cd9 ct9), sl9⟩) (c9 : PySem.W.codeIn K cd9 "led_length" = true) (k9 : PySem.W.keepIn K (.ref f9) = true)
    (a10 : PySem.W.nsIn K mainGlobals "length_if_plan" = some (some (.ref f10))) (l10 : K.lookup f10 = some ⟨oc10, od10, .func (PySem.W.fnOf "length_if_plan" "length_if_plan" (defArgs s_length_if_plan) (defBody s_length_if_plan) (defScope s_length_if_plan) .none kV10 dc10 pm10 an10 cd10 ct10), sl10⟩) (c10 : PySem.W.codeIn K cd10 "length_if_plan" = true) (k10 : PySem.W.keepIn K (.ref f10) = true)
    (a11 : PySem.W.nsIn K mainGlobals "is_plan" = some (some (.ref f11))) (l11 : K.lookup f11 = some ⟨oc11, od11, .func (PySem.W.fnOf "is_plan" "is_plan" (defArgs s_is_plan) (defBody s_is_plan) (defScope s_is_plan) .none kV11 dc11 pm11 an11 cd11 ct11), sl11⟩) (c11 : PySem.W.codeIn K cd11 "is_plan" = true) (k11 : PySem.W.keepIn K (.ref f11) = true)
    (a12 : PySem.W.nsIn K mainGlobals "plan_length" = some (some (.ref f12))) (l12 : K.lookup f12 = some ⟨oc12, od12, .func (PySem.W.fnOf "plan_length" "plan_length" (defArgs s_plan_length) (defBody s_plan_length) (defScope s_plan_length) .none kV12 dc12 pm12 an12 cd12 ct12), sl12⟩) (c12 : PySem.W.codeIn K cd12 "plan_length" = true) (k12 : PySem.W.keepIn K (.ref f12) = true)
    (a13 : PySem.W.nsIn K mainGlobals "inner_plans" = some (some (.ref f13))) (l13 : K.lookup f13 = some ⟨oc13, od13, .func (PySem.W.fnOf "inner_plans" "inner_plans" (defArgs s_inner_plans) (defBody s_inner_plans) (defScope s_inner_plans) .none kV13 dc13 pm13 an13 cd13 ct13), sl13⟩) (c13 : PySem.W.codeIn K cd13 "inner_plans" = true) (k13 : PySem.W.keepIn K (.ref f13) = true)
    (a14 : PySem.W.nsIn K mainGlobals "lengths_in" = some (some (.ref f14))) (l14 : K.lookup f14 = some ⟨oc14, od14, .func (PySem.W.fnOf "lengths_in" "lengths_in" (defArgs s_lengths_in) (defBody s_lengths_in) (defScope s_lengths_in) .none kV14 dc14 pm14 an14 cd14 ct14), sl14⟩) (c14 : PySem.W.codeIn K cd14 "lengths_in" = true) (k14 : PySem.W.keepIn K (.ref f14) = true)
    (a15 : PySem.W.nsIn K mainGlobals "plan_lengths" = some (some (.ref f15))) (l15 : K.lookup f15 = some ⟨oc15, od15, .func (PySem.W.fnOf "plan_lengths" "plan_lengths" (defArgs s_plan_lengths) (defBody s_plan_lengths) (defScope s_plan_lengths) .none kV15 dc15 pm15 an15 cd15 ct15), sl15⟩) (c15 : PySem.W.codeIn K cd15 "plan_lengths" = true) (k15 : PySem.W.keepIn K (.ref f15) = true)
    (a16 : PySem.W.nsIn K mainGlobals "plan_fits" = some (some (.ref f16))) (l16 : K.lookup f16 = some ⟨oc16, od16, .func (PySem.W.fnOf "plan_fits" "plan_fits" (defArgs s_plan_fits) (defBody s_plan_fits) (defScope s_plan_fits) .none kV16 dc16 pm16 an16 cd16 ct16), sl16⟩) (c16 : PySem.W.codeIn K cd16 "plan_fits" = true) (k16 : PySem.W.keepIn K (.ref f16) = true)
    (a17 : PySem.W.nsIn K mainGlobals "plan_depth" = some (some (.ref f17))) (l17 : K.lookup f17 = some ⟨oc17, od17, .func (PySem.W.fnOf "plan_depth" "plan_depth" (defArgs s_plan_depth) (defBody s_plan_depth) (defScope s_plan_depth) .none kV17 dc17 pm17 an17 cd17 ct17), sl17⟩) (c17 : PySem.W.codeIn K cd17 "plan_depth" = true) (k17 : PySem.W.keepIn K (.ref f17) = true)
    (a18 : PySem.W.nsIn K mainGlobals "plan_text" = some (some (.ref f18))) (l18 : K.lookup f18 = some ⟨oc18, od18, .func (PySem.W.fnOf "plan_text" "plan_text" (defArgs s_plan_text) (defBody s_plan_text) (defScope s_plan_text) .none kV18 dc18 pm18 an18 cd18 ct18), sl18⟩) (c18 : PySem.W.codeIn K cd18 "plan_text" = true) (k18 : PySem.W.keepIn K (.ref f18) = true)
    (a19 : PySem.W.nsIn K mainGlobals "word_of" = some (some (.ref f19))) (l19 : K.lookup f19 = some ⟨oc19, od19, .func (PySem.W.fnOf "word_of" "word_of" (defArgs s_word_of) (defBody s_word_of) (defScope s_word_of) .none kV19 dc19 pm19 an19 cd19 ct19), sl19⟩) (c19 : PySem.W.codeIn K cd19 "word_of" = true) (k19 : PySem.W.keepIn K (.ref f19) = true)
    (a20 : PySem.W.nsIn K mainGlobals "pieces_of" = some (some (.ref f20))) (l20 : K.lookup f20 = some ⟨oc20, od20, .func (PySem.W.fnOf "pieces_of" "pieces_of" (defArgs s_pieces_of) (defBody s_pieces_of) (defScope s_pieces_of) .none kV20 dc20 pm20 an20 cd20 ct20), sl20⟩) (c20 : PySem.W.codeIn K cd20 "pieces_of" = true) (k20 : PySem.W.keepIn K (.ref f20) = true)
    (a21 : PySem.W.nsIn K mainGlobals "number_in" = some (some (.ref f21))) (l21 : K.lookup f21 = some ⟨oc21, od21, .func (PySem.W.fnOf "number_in" "number_in" (defArgs s_number_in) (defBody s_number_in) (defScope s_number_in) .none kV21 dc21 pm21 an21 cd21 ct21), sl21⟩) (c21 : PySem.W.codeIn K cd21 "number_in" = true) (k21 : PySem.W.keepIn K (.ref f21) = true)
    (a22 : PySem.W.nsIn K mainGlobals "part_in" = some (some (.ref f22))) (l22 : K.lookup f22 = some ⟨oc22, od22, .func (PySem.W.fnOf "part_in" "part_in" (defArgs s_part_in) (defBody s_part_in) (defScope s_part_in) .none kV22 dc22 pm22 an22 cd22 ct22), sl22⟩) (c22 : PySem.W.codeIn K cd22 "part_in" = true) (k22 : PySem.W.keepIn K (.ref f22) = true)
    (a23 : PySem.W.nsIn K mainGlobals "bracket_plan" = some (some (.ref f23))) (l23 : K.lookup f23 = some ⟨oc23, od23, .func (PySem.W.fnOf "bracket_plan" "bracket_plan" (defArgs s_bracket_plan) (defBody s_bracket_plan) (defScope s_bracket_plan) .none kV23 dc23 pm23 an23 cd23 ct23), sl23⟩) (c23 : PySem.W.codeIn K cd23 "bracket_plan" = true) (k23 : PySem.W.keepIn K (.ref f23) = true)
    (a24 : PySem.W.nsIn K mainGlobals "plan_in" = some (some (.ref f24))) (l24 : K.lookup f24 = some ⟨oc24, od24, .func (PySem.W.fnOf "plan_in" "plan_in" (defArgs s_plan_in) (defBody s_plan_in) (defScope s_plan_in) .none kV24 dc24 pm24 an24 cd24 ct24), sl24⟩) (c24 : PySem.W.codeIn K cd24 "plan_in" = true) (k24 : PySem.W.keepIn K (.ref f24) = true)
    (a25 : PySem.W.nsIn K mainGlobals "divided" = some (some (.ref f25))) (l25 : K.lookup f25 = some ⟨oc25, od25, .func (PySem.W.fnOf "divided" "divided" (defArgs s_divided) (defBody s_divided) (defScope s_divided) .none kV25 dc25 pm25 an25 cd25 ct25), sl25⟩) (c25 : PySem.W.codeIn K cd25 "divided" = true) (k25 : PySem.W.keepIn K (.ref f25) = true)
    (a26 : PySem.W.nsIn K mainGlobals "wheel" = some (some (.ref f26))) (l26 : K.lookup f26 = some ⟨oc26, od26, .func (PySem.W.fnOf "wheel" "wheel" (defArgs s_wheel) (defBody s_wheel) (defScope s_wheel) .none kV26 dc26 pm26 an26 cd26 ct26), sl26⟩) (c26 : PySem.W.codeIn K cd26 "wheel" = true) (k26 : PySem.W.keepIn K (.ref f26) = true)
    (a27 : PySem.W.nsIn K mainGlobals "_law_box" = some (some (.ref f27))) (l27 : K.lookup f27 = some ⟨oc27, od27, .func (PySem.W.fnOf "_law_box" "_law_box" (defArgs s__law_box) (defBody s__law_box) (defScope s__law_box) .none kV27 dc27 pm27 an27 cd27 ct27), sl27⟩) (c27 : PySem.W.codeIn K cd27 "_law_box" = true) (k27 : PySem.W.keepIn K (.ref f27) = true)
    (a28 : PySem.W.nsIn K mainGlobals "_law_take" = some (some (.ref f28))) (l28 : K.lookup f28 = some ⟨oc28, od28, .func (PySem.W.fnOf "_law_take" "_law_take" (defArgs s__law_take) (defBody s__law_take) (defScope s__law_take) .none kV28 dc28 pm28 an28 cd28 ct28), sl28⟩) (c28 : PySem.W.codeIn K cd28 "_law_take" = true) (k28 : PySem.W.keepIn K (.ref f28) = true)
    (a29 : PySem.W.nsIn K mainGlobals "_law_pick" = some (some (.ref f29))) (l29 : K.lookup f29 = some ⟨oc29, od29, .func (PySem.W.fnOf "_law_pick" "_law_pick" (defArgs s__law_pick) (defBody s__law_pick) (defScope s__law_pick) .none kV29 dc29 pm29 an29 cd29 ct29), sl29⟩) (c29 : PySem.W.codeIn K cd29 "_law_pick" = true) (k29 : PySem.W.keepIn K (.ref f29) = true)
    (a30 : PySem.W.nsIn K mainGlobals "_law_same" = some (some (.ref f30))) (l30 : K.lookup f30 = some ⟨oc30, od30, .func (PySem.W.fnOf "_law_same" "_law_same" (defArgs s__law_same) (defBody s__law_same) (defScope s__law_same) .none kV30 dc30 pm30 an30 cd30 ct30), sl30⟩) (c30 : PySem.W.codeIn K cd30 "_law_same" = true) (k30 : PySem.W.keepIn K (.ref f30) = true)
    (a31 : PySem.W.nsIn K mainGlobals "_law_shares" = some (some (.ref f31))) (l31 : K.lookup f31 = some ⟨oc31, od31, .func (PySem.W.fnOf "_law_shares" "_law_shares" (defArgs s__law_shares) (defBody s__law_shares) (defScope s__law_shares) .none kV31 dc31 pm31 an31 cd31 ct31), sl31⟩) (c31 : PySem.W.codeIn K cd31 "_law_shares" = true) (k31 : PySem.W.keepIn K (.ref f31) = true)
    (a32 : PySem.W.nsIn K mainGlobals "_law_is_plain_prime" = some (some (.ref f32))) (l32 : K.lookup f32 = some ⟨oc32, od32, .func (PySem.W.fnOf "_law_is_plain_prime" "_law_is_plain_prime" (defArgs s__law_is_plain_prime) (defBody s__law_is_plain_prime) (defScope s__law_is_plain_prime) .none kV32 dc32 pm32 an32 cd32 ct32), sl32⟩) (c32 : PySem.W.codeIn K cd32 "_law_is_plain_prime" = true) (k32 : PySem.W.keepIn K (.ref f32) = true)
    (a33 : PySem.W.nsIn K mainGlobals "_law_raised" = some (some (.ref f33))) (l33 : K.lookup f33 = some ⟨oc33, od33, .func (PySem.W.fnOf "_law_raised" "_law_raised" (defArgs s__law_raised) (defBody s__law_raised) (defScope s__law_raised) .none kV33 dc33 pm33 an33 cd33 ct33), sl33⟩) (c33 : PySem.W.codeIn K cd33 "_law_raised" = true) (k33 : PySem.W.keepIn K (.ref f33) = true)
    (a34 : PySem.W.nsIn K mainGlobals "_law_least_generator" = some (some (.ref f34))) (l34 : K.lookup f34 = some ⟨oc34, od34, .func (PySem.W.fnOf "_law_least_generator" "_law_least_generator" (defArgs s__law_least_generator) (defBody s__law_least_generator) (defScope s__law_least_generator) .none kV34 dc34 pm34 an34 cd34 ct34), sl34⟩) (c34 : PySem.W.codeIn K cd34 "_law_least_generator" = true) (k34 : PySem.W.keepIn K (.ref f34) = true)
    (a35 : PySem.W.nsIn K mainGlobals "_law_divided" = some (some (.ref f35))) (l35 : K.lookup f35 = some ⟨oc35, od35, .func (PySem.W.fnOf "_law_divided" "_law_divided" (defArgs s__law_divided) (defBody s__law_divided) (defScope s__law_divided) .none kV35 dc35 pm35 an35 cd35 ct35), sl35⟩) (c35 : PySem.W.codeIn K cd35 "_law_divided" = true) (k35 : PySem.W.keepIn K (.ref f35) = true)
    (a36 : PySem.W.nsIn K mainGlobals "_law_own_wheel" = some (some (.ref f36))) (l36 : K.lookup f36 = some ⟨oc36, od36, .func (PySem.W.fnOf "_law_own_wheel" "_law_own_wheel" (defArgs s__law_own_wheel) (defBody s__law_own_wheel) (defScope s__law_own_wheel) .none kV36 dc36 pm36 an36 cd36 ct36), sl36⟩) (c36 : PySem.W.codeIn K cd36 "_law_own_wheel" = true) (k36 : PySem.W.keepIn K (.ref f36) = true)
    (a37 : PySem.W.nsIn K mainGlobals "_law_world" = some (some (.ref f37))) (l37 : K.lookup f37 = some ⟨oc37, od37, .func (PySem.W.fnOf "_law_world" "_law_world" (defArgs s__law_world) (defBody s__law_world) (defScope s__law_world) .none kV37 dc37 pm37 an37 cd37 ct37), sl37⟩) (c37 : PySem.W.codeIn K cd37 "_law_world" = true) (k37 : PySem.W.keepIn K (.ref f37) = true)
    (a38 : PySem.W.nsIn K mainGlobals "_law_made" = some (some (.ref f38))) (l38 : K.lookup f38 = some ⟨oc38, od38, .func (PySem.W.fnOf "_law_made" "_law_made" (defArgs s__law_made) (defBody s__law_made) (defScope s__law_made) .none kV38 dc38 pm38 an38 cd38 ct38), sl38⟩) (c38 : PySem.W.codeIn K cd38 "_law_made" = true) (k38 : PySem.W.keepIn K (.ref f38) = true)
    (a39 : PySem.W.nsIn K mainGlobals "_law_has" = some (some (.ref f39))) (l39 : K.lookup f39 = some ⟨oc39, od39, .func (PySem.W.fnOf "_law_has" "_law_has" (defArgs s__law_has) (defBody s__law_has) (defScope s__law_has) .none kV39 dc39 pm39 an39 cd39 ct39), sl39⟩) (c39 : PySem.W.codeIn K cd39 "_law_has" = true) (k39 : PySem.W.keepIn K (.ref f39) = true)
    (a40 : PySem.W.nsIn K mainGlobals "_law_lengths" = some (some (.ref f40))) (l40 : K.lookup f40 = some ⟨oc40, od40, .func (PySem.W.fnOf "_law_lengths" "_law_lengths" (defArgs s__law_lengths) (defBody s__law_lengths) (defScope s__law_lengths) .none kV40 dc40 pm40 an40 cd40 ct40), sl40⟩) (c40 : PySem.W.codeIn K cd40 "_law_lengths" = true) (k40 : PySem.W.keepIn K (.ref f40) = true)
    (a41 : PySem.W.nsIn K mainGlobals "_law_plan_of" = some (some (.ref f41))) (l41 : K.lookup f41 = some ⟨oc41, od41, .func (PySem.W.fnOf "_law_plan_of" "_law_plan_of" (defArgs s__law_plan_of) (defBody s__law_plan_of) (defScope s__law_plan_of) .none kV41 dc41 pm41 an41 cd41 ct41), sl41⟩) (c41 : PySem.W.codeIn K cd41 "_law_plan_of" = true) (k41 : PySem.W.keepIn K (.ref f41) = true)
    (a42 : PySem.W.nsIn K mainGlobals "_law_plan_words" = some (some (.ref f42))) (l42 : K.lookup f42 = some ⟨oc42, od42, .func (PySem.W.fnOf "_law_plan_words" "_law_plan_words" (defArgs s__law_plan_words) (defBody s__law_plan_words) (defScope s__law_plan_words) .none kV42 dc42 pm42 an42 cd42 ct42), sl42⟩) (c42 : PySem.W.codeIn K cd42 "_law_plan_words" = true) (k42 : PySem.W.keepIn K (.ref f42) = true)
    (a43 : PySem.W.nsIn K mainGlobals "_law_any_plan" = some (some (.ref f43))) (l43 : K.lookup f43 = some ⟨oc43, od43, .func (PySem.W.fnOf "_law_any_plan" "_law_any_plan" (defArgs s__law_any_plan) (defBody s__law_any_plan) (defScope s__law_any_plan) .none kV43 dc43 pm43 an43 cd43 ct43), sl43⟩) (c43 : PySem.W.codeIn K cd43 "_law_any_plan" = true) (k43 : PySem.W.keepIn K (.ref f43) = true)
    (a44 : PySem.W.nsIn K mainGlobals "_law_right" = some (some (.ref f44))) (l44 : K.lookup f44 = some ⟨oc44, od44, .func (PySem.W.fnOf "_law_right" "_law_right" (defArgs s__law_right) (defBody s__law_right) (defScope s__law_right) .none kV44 dc44 pm44 an44 cd44 ct44), sl44⟩) (c44 : PySem.W.codeIn K cd44 "_law_right" = true) (k44 : PySem.W.keepIn K (.ref f44) = true)
    (a45 : PySem.W.nsIn K mainGlobals "law" = some (some (.ref f45))) (l45 : K.lookup f45 = some ⟨oc45, od45, .func (PySem.W.fnOf "law" "law" (defArgs s_law) (defBody s_law) (defScope s_law) .none kV45 dc45 pm45 an45 cd45 ct45), sl45⟩) (c45 : PySem.W.codeIn K cd45 "law" = true) (k45 : PySem.W.keepIn K (.ref f45) = true)
    (z0 : PySem.W.nsIn K mainGlobals "ValueError" = some none) (z1 : PySem.W.nsIn K mainGlobals "abs" = some none) (z2 : PySem.W.nsIn K mainGlobals "all" = some none) (z3 : PySem.W.nsIn K mainGlobals "any" = some none) (z4 : PySem.W.nsIn K mainGlobals "bool" = some none) (z5 : PySem.W.nsIn K mainGlobals "enumerate" = some none) (z6 : PySem.W.nsIn K mainGlobals "int" = some none) (z7 : PySem.W.nsIn K mainGlobals "isinstance" = some none) (z8 : PySem.W.nsIn K mainGlobals "len" = some none) (z9 : PySem.W.nsIn K mainGlobals "list" = some none) (z10 : PySem.W.nsIn K mainGlobals "max" = some none) (z11 : PySem.W.nsIn K mainGlobals "min" = some none) (z12 : PySem.W.nsIn K mainGlobals "range" = some none) (z13 : PySem.W.nsIn K mainGlobals "repr" = some none) (z14 : PySem.W.nsIn K mainGlobals "set" = some none) (z15 : PySem.W.nsIn K mainGlobals "sorted" = some none) (z16 : PySem.W.nsIn K mainGlobals "str" = some none) (z17 : PySem.W.nsIn K mainGlobals "tuple" = some none) (z18 : PySem.W.nsIn K mainGlobals "zip" = some none) :
    ∃ fd : FuncData, (∀ (s : Shared) (v : Value), BindsTo s fd ⟨[v], []⟩ [("_law_script", v)]) ∧ ∀ base : Heap, K.In base → base.Ns mainGlobals mg → FnG l.prog w K mg base CX0 26 fa fd ["_law_script"] (spLaw K) := by
  have e := hfa.symm.trans (PySem.W.mg_of X G a45)
  cases e
  have T : Blt mg := ⟨PySem.W.mg_none_of X G z0, PySem.W.mg_none_of X G z1, PySem.W.mg_none_of X G z2, PySem.W.mg_none_of X G z3, PySem.W.mg_none_of X G z4, PySem.W.mg_none_of X G z5, PySem.W.mg_none_of X G z6, PySem.W.mg_none_of X G z7, PySem.W.mg_none_of X G z8, PySem.W.mg_none_of X G z9, PySem.W.mg_none_of X G z10, PySem.W.mg_none_of X G z11, PySem.W.mg_none_of X G z12, PySem.W.mg_none_of X G z13, PySem.W.mg_none_of X G z14, PySem.W.mg_none_of X G z15, PySem.W.mg_none_of X G z16, PySem.W.mg_none_of X G z17, PySem.W.mg_none_of X G z18⟩
  have F0 := fun_mk (st := s_is_whole) l0 c0 k0
  have b0 := F0.binds (ps := P_is_whole) fun _ _ _ _ _ _ us hl => match us, hl with | [_], _ => rfl
  have F1 := fun_mk (st := s_is_prime) l1 c1 k1
  have b1 := F1.binds (ps := P_is_prime) fun _ _ _ _ _ _ us hl => match us, hl with | [_], _ => rfl
  have F2 := fun_mk (st := s_factors) l2 c2 k2
  have b2 := F2.binds (ps := P_factors) fun _ _ _ _ _ _ us hl => match us, hl with | [_], _ => rfl
  have F3 := fun_mk (st := s_divisors) l3 c3 k3
  have b3 := F3.binds (ps := P_divisors) fun _ _ _ _ _ _ us hl => match us, hl with | [_], _ => rfl
  have F4 := fun_mk (st := s_are_coprime) l4 c4 k4
  have b4 := F4.binds (ps := P_are_coprime) fun _ _ _ _ _ _ us hl => match us, hl with | [_, _], _ => rfl
  have F5 := fun_mk (st := s_power_rest) l5 c5 k5
  have b5 := F5.binds (ps := P_power_rest) fun _ _ _ _ _ _ us hl => match us, hl with | [_, _, _], _ => rfl
  have F6 := fun_mk (st := s_generator) l6 c6 k6
  have b6 := F6.binds (ps := P_generator) fun _ _ _ _ _ _ us hl => match us, hl with | [_], _ => rfl
  have F7 := fun_mk (st := s_bare_length) l7 c7 k7
  have b7 := F7.binds (ps := P_bare_length) fun _ _ _ _ _ _ us hl => match us, hl with | [_, _], _ => rfl
  have F8 := fun_mk (st := s_pair_length) l8 c8 k8
  have b8 := F8.binds (ps := P_pair_length) fun _ _ _ _ _ _ us hl => match us, hl with | [_, _, _], _ => rfl
  have F9 := fun_mk (st := s_led_length) l9 c9 k9
  have b9 := F9.binds (ps := P_led_length) fun _ _ _ _ _ _ us hl => match us, hl with | [_, _, _], _ => rfl
  have F10 := fun_mk (st := s_length_if_plan) l10 c10 k10
  have b10 := F10.binds (ps := P_length_if_plan) fun _ _ _ _ _ _ us hl => match us, hl with | [_], _ => rfl
  have F11 := fun_mk (st := s_is_plan) l11 c11 k11
  have b11 := F11.binds (ps := P_is_plan) fun _ _ _ _ _ _ us hl => match us, hl with | [_], _ => rfl
  have F12 := fun_mk (st := s_plan_length) l12 c12 k12
  have b12 := F12.binds (ps := P_plan_length) fun _ _ _ _ _ _ us hl => match us, hl with | [_], _ => rfl
  have F13 := fun_mk (st := s_inner_plans) l13 c13 k13
  have b13 := F13.binds (ps := P_inner_plans) fun _ _ _ _ _ _ us hl => match us, hl with | [_], _ => rfl
  have F14 := fun_mk (st := s_lengths_in) l14 c14 k14
  have b14 := F14.binds (ps := P_lengths_in) fun _ _ _ _ _ _ us hl => match us, hl with | [_], _ => rfl
  have F15 := fun_mk (st := s_plan_lengths) l15 c15 k15
  have b15 := F15.binds (ps := P_plan_lengths) fun _ _ _ _ _ _ us hl => match us, hl with | [_], _ => rfl
  have F16 := fun_mk (st := s_plan_fits) l16 c16 k16
  have b16 := F16.binds (ps := P_plan_fits) fun _ _ _ _ _ _ us hl => match us, hl with | [_, _], _ => rfl
  have F17 := fun_mk (st := s_plan_depth) l17 c17 k17
  have b17 := F17.binds (ps := P_plan_depth) fun _ _ _ _ _ _ us hl => match us, hl with | [_], _ => rfl
  have F18 := fun_mk (st := s_plan_text) l18 c18 k18
  have b18 := F18.binds (ps := P_plan_text) fun _ _ _ _ _ _ us hl => match us, hl with | [_], _ => rfl
  have F19 := fun_mk (st := s_word_of) l19 c19 k19
  have b19 := F19.binds (ps := P_word_of) fun _ _ _ _ _ _ us hl => match us, hl with | [_], _ => rfl
  have F20 := fun_mk (st := s_pieces_of) l20 c20 k20
  have b20 := F20.binds (ps := P_pieces_of) fun _ _ _ _ _ _ us hl => match us, hl with | [_], _ => rfl
  have F21 := fun_mk (st := s_number_in) l21 c21 k21
  have b21 := F21.binds (ps := P_number_in) fun _ _ _ _ _ _ us hl => match us, hl with | [_], _ => rfl
  have F22 := fun_mk (st := s_part_in) l22 c22 k22
  have b22 := F22.binds (ps := P_part_in) fun _ _ _ _ _ _ us hl => match us, hl with | [_], _ => rfl
  have F23 := fun_mk (st := s_bracket_plan) l23 c23 k23
  have b23 := F23.binds (ps := P_bracket_plan) fun _ _ _ _ _ _ us hl => match us, hl with | [_], _ => rfl
  have F24 := fun_mk (st := s_plan_in) l24 c24 k24
  have b24 := F24.binds (ps := P_plan_in) fun _ _ _ _ _ _ us hl => match us, hl with | [_], _ => rfl
  have F25 := fun_mk (st := s_divided) l25 c25 k25
  have b25 := F25.binds (ps := P_divided) fun _ _ _ _ _ _ us hl => match us, hl with | [_, _], _ => rfl
  have F26 := fun_mk (st := s_wheel) l26 c26 k26
  have b26 := F26.binds (ps := P_wheel) fun _ _ _ _ _ _ us hl => match us, hl with | [_], _ => rfl
  have F27 := fun_mk (st := s__law_box) l27 c27 k27
  have b27 := F27.binds (ps := P__law_box) fun _ _ _ _ _ _ us hl => match us, hl with | [_, _], _ => rfl
  have F28 := fun_mk (st := s__law_take) l28 c28 k28
  have b28 := F28.binds (ps := P__law_take) fun _ _ _ _ _ _ us hl => match us, hl with | [_, _], _ => rfl
  have F29 := fun_mk (st := s__law_pick) l29 c29 k29
  have b29 := F29.binds (ps := P__law_pick) fun _ _ _ _ _ _ us hl => match us, hl with | [_, _], _ => rfl
  have F30 := fun_mk (st := s__law_same) l30 c30 k30
  have b30 := F30.binds (ps := P__law_same) fun _ _ _ _ _ _ us hl => match us, hl with | [_, _], _ => rfl
  have F31 := fun_mk (st := s__law_shares) l31 c31 k31
  have b31 := F31.binds (ps := P__law_shares) fun _ _ _ _ _ _ us hl => match us, hl with | [_, _], _ => rfl
  have F32 := fun_mk (st := s__law_is_plain_prime) l32 c32 k32
  have b32 := F32.binds (ps := P__law_is_plain_prime) fun _ _ _ _ _ _ us hl => match us, hl with | [_], _ => rfl
  have F33 := fun_mk (st := s__law_raised) l33 c33 k33
  have b33 := F33.binds (ps := P__law_raised) fun _ _ _ _ _ _ us hl => match us, hl with | [_, _, _], _ => rfl
  have F34 := fun_mk (st := s__law_least_generator) l34 c34 k34
  have b34 := F34.binds (ps := P__law_least_generator) fun _ _ _ _ _ _ us hl => match us, hl with | [_], _ => rfl
  have F35 := fun_mk (st := s__law_divided) l35 c35 k35
  have b35 := F35.binds (ps := P__law_divided) fun _ _ _ _ _ _ us hl => match us, hl with | [_, _], _ => rfl
  have F36 := fun_mk (st := s__law_own_wheel) l36 c36 k36
  have b36 := F36.binds (ps := P__law_own_wheel) fun _ _ _ _ _ _ us hl => match us, hl with | [_], _ => rfl
  have F37 := fun_mk (st := s__law_world) l37 c37 k37
  have b37 := F37.binds (ps := P__law_world) fun _ _ _ _ _ _ us hl => match us, hl with | [_], _ => rfl
  have F38 := fun_mk (st := s__law_made) l38 c38 k38
  have b38 := F38.binds (ps := P__law_made) fun _ _ _ _ _ _ us hl => match us, hl with | [_], _ => rfl
  have F39 := fun_mk (st := s__law_has) l39 c39 k39
  have b39 := F39.binds (ps := P__law_has) fun _ _ _ _ _ _ us hl => match us, hl with | [_, _], _ => rfl
  have F40 := fun_mk (st := s__law_lengths) l40 c40 k40
  have b40 := F40.binds (ps := P__law_lengths) fun _ _ _ _ _ _ us hl => match us, hl with | [_, _], _ => rfl
  have F41 := fun_mk (st := s__law_plan_of) l41 c41 k41
  have b41 := F41.binds (ps := P__law_plan_of) fun _ _ _ _ _ _ us hl => match us, hl with | [_, _, _, _, _], _ => rfl
  have F42 := fun_mk (st := s__law_plan_words) l42 c42 k42
  have b42 := F42.binds (ps := P__law_plan_words) fun _ _ _ _ _ _ us hl => match us, hl with | [_], _ => rfl
  have F43 := fun_mk (st := s__law_any_plan) l43 c43 k43
  have b43 := F43.binds (ps := P__law_any_plan) fun _ _ _ _ _ _ us hl => match us, hl with | [_, _, _], _ => rfl
  have F44 := fun_mk (st := s__law_right) l44 c44 k44
  have b44 := F44.binds (ps := P__law_right) fun _ _ _ _ _ _ us hl => match us, hl with | [_], _ => rfl
  have F45 := fun_mk (st := s_law) l45 c45 k45
  have F_I := fun_mk (st := s_init) lI cI kI
  have b_I := F_I.binds (ps := N_init) fun _ _ _ _ _ _ us hl => match us, hl with | [_, _], _ => rfl
  have EK_BadGround : ExK K C_BadGround := ⟨⟨⟨nm_BadGround, q_BadGround, N_BadGround, bs_BadGround, _, sn_BadGround, sb_BadGround, ab_BadGround, co_BadGround, dd_BadGround, m0_BadGround, m1_BadGround, m2_BadGround, m3_BadGround, m5_BadGround, xL_BadGround, rfl⟩, sa_BadGround, eC_BadGround, tC_BadGround, kC_BadGround⟩, ⟨ga_BadGround, gg_BadGround, eC_BadGround, hC_BadGround⟩, ⟨ga_BadGround, gg_BadGround, eC_BadGround, hC_BadGround, oc_BadGround, on, ot, mo_BadGround⟩, nw_BadGround⟩
  have R_BadGround : Ref K C_TurnError C_BadGround fI := ⟨EK_BadGround, ii_BadGround, PySem.W.exm_ref eT hT tT su_BadGround, kv_BadGround, kt_BadGround⟩
  have EK_BadText : ExK K C_BadText := ⟨⟨⟨nm_BadText, q_BadText, N_BadText, bs_BadText, _, sn_BadText, sb_BadText, ab_BadText, co_BadText, dd_BadText, m0_BadText, m1_BadText, m2_BadText, m3_BadText, m5_BadText, xL_BadText, rfl⟩, sa_BadText, eC_BadText, tC_BadText, kC_BadText⟩, ⟨ga_BadText, gg_BadText, eC_BadText, hC_BadText⟩, ⟨ga_BadText, gg_BadText, eC_BadText, hC_BadText, oc_BadText, on, ot, mo_BadText⟩, nw_BadText⟩
  have R_BadText : Ref K C_TurnError C_BadText fI := ⟨EK_BadText, ii_BadText, PySem.W.exm_ref eT hT tT su_BadText, kv_BadText, kt_BadText⟩
  have M_SHORTS := PySem.W.mg_of X G g_SHORTS
  have Q_SHORTS : ∀ H : Hp, SqT K H a_SHORTS (([1, 2, 3, 4] : List Int).map V.int) := fun H => .inr ⟨_, _, _, l_SHORTS, rfl, rfl, (by show 4 ≤ sizeLine; rw [sizeLine_eq]; decide), (.cons ⟨_, rfl⟩ (.cons ⟨_, rfl⟩ (.cons ⟨_, rfl⟩ (.cons ⟨_, rfl⟩ .nil))))⟩
  have M_MOST_PRIME := PySem.W.mg_of X G g_MOST_PRIME
  have M_MOST_ORDER := PySem.W.mg_of X G g_MOST_ORDER
  have M_FIGURES := PySem.W.mg_of X G g_FIGURES
  have CL_Rests : L2.Cls K C_Rests := ⟨pg_Rests, hd_Rests, po_Rests, sa_Rests⟩
  have F_Rests___init__ := fun_mk (st := s_Rests___init__) lk_Rests___init__ cn_Rests___init__ kp_Rests___init__
  have B_Rests___init__ := F_Rests___init__.binds (ps := P_Rests___init__) fun _ _ _ _ _ _ us hl => match us, hl with | [_, _], _ => rfl
  have MK_Rests : Mk K C_Rests f_Rests___init__ := ⟨mk_Rests, at_Rests___init__, fn_Rests___init__, kc_Rests⟩
  have F_Rests_has_root := fun_mk (st := s_Rests_has_root) lk_Rests_has_root cn_Rests_has_root kp_Rests_has_root
  have B_Rests_has_root := F_Rests_has_root.binds (ps := P_Rests_has_root) fun _ _ _ _ _ _ us hl => match us, hl with | [_, _], _ => rfl
  have ME_Rests_has_root : Meth K C_Rests "has_root" f_Rests_has_root := ⟨at_Rests_has_root, fn_Rests_has_root, kp_Rests_has_root⟩
  have CL_Roots : L2.Cls K C_Roots := ⟨pg_Roots, hd_Roots, po_Roots, sa_Roots⟩
  have F_Roots___init__ := fun_mk (st := s_Roots___init__) lk_Roots___init__ cn_Roots___init__ kp_Roots___init__
  have B_Roots___init__ := F_Roots___init__.binds (ps := P_Roots___init__) fun _ _ _ _ _ _ us hl => match us, hl with | [_, _], _ => rfl
  have MK_Roots : Mk K C_Roots f_Roots___init__ := ⟨mk_Roots, at_Roots___init__, fn_Roots___init__, kc_Roots⟩
  have F_Roots_has_root := fun_mk (st := s_Roots_has_root) lk_Roots_has_root cn_Roots_has_root kp_Roots_has_root
  have B_Roots_has_root := F_Roots_has_root.binds (ps := P_Roots_has_root) fun _ _ _ _ _ _ us hl => match us, hl with | [_, _], _ => rfl
  have ME_Roots_has_root : Meth K C_Roots "has_root" f_Roots_has_root := ⟨at_Roots_has_root, fn_Roots_has_root, kp_Roots_has_root⟩
  have M_SIGNS := PySem.W.mg_of X G g_SIGNS
  have KK_SIGNS : KKs K a_SIGNS ["plain", "short", "split", "parts", "powers", "stretch"] := ⟨sy_SIGNS, _, _, d_SIGNS, pd_SIGNS⟩
  have K_SIGNS_plain : KDct K w a_SIGNS "plain" (.str "p") := ⟨_, _, _, d_SIGNS, l_SIGNS, v_SIGNS_plain, ⟨_, rfl⟩⟩
  have K_SIGNS_short : KDct K w a_SIGNS "short" (.str "s") := ⟨_, _, _, d_SIGNS, l_SIGNS, v_SIGNS_short, ⟨_, rfl⟩⟩
  have K_SIGNS_split : KDct K w a_SIGNS "split" (.str "*") := ⟨_, _, _, d_SIGNS, l_SIGNS, v_SIGNS_split, ⟨_, rfl⟩⟩
  have K_SIGNS_parts : KDct K w a_SIGNS "parts" (.str ".") := ⟨_, _, _, d_SIGNS, l_SIGNS, v_SIGNS_parts, ⟨_, rfl⟩⟩
  have K_SIGNS_powers : KDct K w a_SIGNS "powers" (.str "^") := ⟨_, _, _, d_SIGNS, l_SIGNS, v_SIGNS_powers, ⟨_, rfl⟩⟩
  have K_SIGNS_stretch : KDct K w a_SIGNS "stretch" (.str "~") := ⟨_, _, _, d_SIGNS, l_SIGNS, v_SIGNS_stretch, ⟨_, rfl⟩⟩
  have M_TurnError := PySem.W.mg_of X G g_TurnError
  have M_BadGround := PySem.W.mg_of X G g_BadGround
  have M_BadText := PySem.W.mg_of X G g_BadText
  have M_Rests := PySem.W.mg_of X G g_Rests
  have M_Roots := PySem.W.mg_of X G g_Roots
  refine ⟨_, fun s v => .of_eq rfl, fun base _ _ => ok_law (P := l.prog) (w := w) (base := base) F45 T ⟨⟨_, _, F0, b0, PySem.W.mg_of X G a0⟩, ⟨_, _, F1, b1, PySem.W.mg_of X G a1⟩, ⟨_, _, F2, b2, PySem.W.mg_of X G a2⟩, ⟨_, _, F3, b3, PySem.W.mg_of X G a3⟩, ⟨_, _, F4, b4, PySem.W.mg_of X G a4⟩, ⟨_, _, F5, b5, PySem.W.mg_of X G a5⟩, ⟨_, _, F6, b6, PySem.W.mg_of X G a6⟩, ⟨_, _, F7, b7, PySem.W.mg_of X G a7⟩, ⟨_, _, F8, b8, PySem.W.mg_of X G a8⟩, ⟨_, _, F9, b9, PySem.W.mg_of X G a9⟩, ⟨_, _, F10, b10, PySem.W.mg_of X G a10⟩, ⟨_, _, F11, b11, PySem.W.mg_of X G a11⟩, ⟨_, _, F12, b12, PySem.W.mg_of X G a12⟩, ⟨_, _, F13, b13, PySem.W.mg_of X G a13⟩, ⟨_, _, F14, b14, PySem.W.mg_of X G a14⟩, ⟨_, _, F15, b15, PySem.W.mg_of X G a15⟩, ⟨_, _, F16, b16, PySem.W.mg_of X G a16⟩, ⟨_, _, F17, b17, PySem.W.mg_of X G a17⟩, ⟨_, _, F18, b18, PySem.W.mg_of X G a18⟩, ⟨_, _, F19, b19, PySem.W.mg_of X G a19⟩, ⟨_, _, F20, b20, PySem.W.mg_of X G a20⟩, ⟨_, _, F21, b21, PySem.W.mg_of X G a21⟩, ⟨_, _, F22, b22, PySem.W.mg_of X G a22⟩, ⟨_, _, F23, b23, PySem.W.mg_of X G a23⟩, ⟨_, _, F24, b24, PySem.W.mg_of X G a24⟩, ⟨_, _, F25, b25, PySem.W.mg_of X G a25⟩, ⟨_, _, F26, b26, PySem.W.mg_of X G a26⟩, ⟨_, _, F27, b27, PySem.W.mg_of X G a27⟩, ⟨_, _, F28, b28, PySem.W.mg_of X G a28⟩, ⟨_, _, F29, b29, PySem.W.mg_of X G a29⟩, ⟨_, _, F30, b30, PySem.W.mg_of X G a30⟩, ⟨_, _, F31, b31, PySem.W.mg_of X G a31⟩, ⟨_, _, F32, b32, PySem.W.mg_of X G a32⟩, ⟨_, _, F33, b33, PySem.W.mg_of X G a33⟩, ⟨_, _, F34, b34, PySem.W.mg_of X G a34⟩, ⟨_, _, F35, b35, PySem.W.mg_of X G a35⟩, ⟨_, _, F36, b36, PySem.W.mg_of X G a36⟩, ⟨_, _, F37, b37, PySem.W.mg_of X G a37⟩, ⟨_, _, F38, b38, PySem.W.mg_of X G a38⟩, ⟨_, _, F39, b39, PySem.W.mg_of X G a39⟩, ⟨_, _, F40, b40, PySem.W.mg_of X G a40⟩, ⟨_, _, F41, b41, PySem.W.mg_of X G a41⟩, ⟨_, _, F42, b42, PySem.W.mg_of X G a42⟩, ⟨_, _, F43, b43, PySem.W.mg_of X G a43⟩, ⟨_, _, F44, b44, PySem.W.mg_of X G a44⟩⟩ ⟨⟨M_SIGNS, KK_SIGNS, K_SIGNS_plain, K_SIGNS_short, K_SIGNS_split, K_SIGNS_parts, K_SIGNS_powers, K_SIGNS_stretch⟩, M_FIGURES, F_I, b_I, tI, R_BadText, M_BadText, M_SHORTS, Q_SHORTS⟩ ⟨F_I, b_I, tI, R_BadGround, M_BadGround, ⟨CL_Rests, nf_Rests_prime, nf_Rests_base⟩, ⟨CL_Roots, nf_Roots_order, nf_Roots_rim⟩, M_Rests, M_Roots, ⟨_, M_MOST_PRIME⟩, ⟨_, M_MOST_ORDER⟩, ⟨_, _, MK_Rests, F_Rests___init__, B_Rests___init__⟩, ⟨_, _, MK_Roots, F_Roots___init__, B_Roots___init__⟩, ⟨_, _, F_Rests_has_root, B_Rests_has_root, ME_Rests_has_root⟩, ⟨_, _, F_Roots_has_root, B_Roots_has_root, ME_Roots_has_root⟩⟩⟩
end My
open PySem PySem.W PyProof.Rows
set_option maxRecDepth 100000 in
set_option maxHeartbeats 0 in
theorem PySem.Challenge.cw_turnsums_k28_plans_by_names_holds : PySem.Challenge.rw_turnsums_k28_plans_by_names.Holds := by
  refine My.hdtop ?_
  k_fill
  refine My.walk_ofG (l := PySem.Challenge.rw_turnsums_k28_plans_by_names) (n := 63) (k := 26) (x := "_law_script") (sp := fun w => My.spLaw _) rfl (by decide) rfl ⟨rfl, by decide, by decide⟩ (fun w h Y => PySem.W.kIn_of Y) ?F (fun _ _ a ns hl _ hS => ⟨a, ns, rfl, hS, hl, fun _ => rfl⟩)
  case F =>
    intro w mg fa h KX G hmg
    refine' My.all_mk KX G hmg ?g_TurnError ?g_BadGround ?g_BadText ?g_Rests ?g_Roots ?on ?ot ?eT ?hT ?tT ?xL_BadGround ?sa_BadGround ?ga_BadGround ?gg_BadGround ?nw_BadGround ?ii_BadGround ?oc_BadGround ?kC_BadGround ?eC_BadGround ?tC_BadGround ?hC_BadGround ?mo_BadGround ?su_BadGround ?kv_BadGround ?kt_BadGround ?xL_BadText ?sa_BadText ?ga_BadText ?gg_BadText ?nw_BadText ?ii_BadText ?oc_BadText ?kC_BadText ?eC_BadText ?tC_BadText ?hC_BadText ?mo_BadText ?su_BadText ?kv_BadText ?kt_BadText ?lI ?cI ?kI ?tI ?g_SHORTS ?l_SHORTS ?g_MOST_PRIME ?g_MOST_ORDER ?g_FIGURES ?pg_Rests ?hd_Rests ?po_Rests ?sa_Rests ?mk_Rests ?kc_Rests ?nf_Rests_prime ?nf_Rests_base ?at_Rests___init__ ?lk_Rests___init__ ?cn_Rests___init__ ?kp_Rests___init__ ?fn_Rests___init__ ?at_Rests_has_root ?lk_Rests_has_root ?cn_Rests_has_root ?kp_Rests_has_root ?fn_Rests_has_root ?pg_Roots ?hd_Roots ?po_Roots ?sa_Roots ?mk_Roots ?kc_Roots ?nf_Roots_order ?nf_Roots_rim ?at_Roots___init__ ?lk_Roots___init__ ?cn_Roots___init__ ?kp_Roots___init__ ?fn_Roots___init__ ?at_Roots_has_root ?lk_Roots_has_root ?cn_Roots_has_root ?kp_Roots_has_root ?fn_Roots_has_root ?g_SIGNS ?d_SIGNS ?l_SIGNS ?sy_SIGNS ?pd_SIGNS ?v_SIGNS_plain ?v_SIGNS_short ?v_SIGNS_split ?v_SIGNS_parts ?v_SIGNS_powers ?v_SIGNS_stretch ?a0 ?l0 ?c0 ?k0 ?a1 ?l1 ?c1 ?k1 ?a2 ?l2 ?c2 ?k2 ?a3 ?l3 ?c3 ?k3 ?a4 ?l4 ?c4 ?k4 ?a5 ?l5 ?c5 ?k5 ?a6 ?l6 ?c6 ?k6 ?a7 ?l7 ?c7 ?k7 ?a8 ?l8 ?c8 ?k8 ?a9 ?l9 ?c9 ?k9 ?a10 ?l10 ?c10 ?k10 ?a11 ?l11 ?c11 ?k11 ?a12 ?l12 ?c12 ?k12 ?a13 ?l13 ?c13 ?k13 ?a14 ?l14 ?c14 ?k14 ?a15 ?l15 ?c15 ?k15 ?a16 ?l16 ?c16 ?k16 ?a17 ?l17 ?c17 ?k17 ?a18 ?l18 ?c18 ?k18 ?a19 ?l19 ?c19 ?k19 ?a20 ?l20 ?c20 ?k20 ?a21 ?l21 ?c21 ?k21 ?a22 ?l22 ?c22 ?k22 ?a23 ?l23 ?c23 ?k23 ?a24 ?l24 ?c24 ?k24 ?a25 ?l25 ?c25 ?k25 ?a26 ?l26 ?c26 ?k26 ?a27 ?l27 ?c27 ?k27 ?a28 ?l28 ?c28 ?k28 ?a29 ?l29 ?c29 ?k29 ?a30 ?l30 ?c30 ?k30 ?a31 ?l31 ?c31 ?k31 ?a32 ?l32 ?c32 ?k32 ?a33 ?l33 ?c33 ?k33 ?a34 ?l34 ?c34 ?k34 ?a35 ?l35 ?c35 ?k35 ?a36 ?l36 ?c36 ?k36 ?a37 ?l37 ?c37 ?k37 ?a38 ?l38 ?c38 ?k38 ?a39 ?l39 ?c39 ?k39 ?a40 ?l40 ?c40 ?k40 ?a41 ?l41 ?c41 ?k41 ?a42 ?l42 ?c42 ?k42 ?a43 ?l43 ?c43 ?k43 ?a44 ?l44 ?c44 ?k44 ?a45 ?l45 ?c45 ?k45 ?z0 ?z1 ?z2 ?z3 ?z4 ?z5 ?z6 ?z7 ?z8 ?z9 ?z10 ?z11 ?z12 ?z13 ?z14 ?z15 ?z16 ?z17 ?z18
    (case g_TurnError => first | k_is | rfl)
    (case g_BadGround => first | k_is | rfl)
    (case g_BadText => first | k_is | rfl)
    (case g_Rests => first | k_is | rfl)
    (case g_Roots => first | k_is | rfl)
    (case on => first | k_is | rfl)
    (case ot => first | k_is | rfl)
    (case eT => first | k_is | rfl)
    (case hT => first | k_is | rfl)
    (case tT => first | k_is | rfl)
    (case xL_BadGround => first | k_is | rfl)
    (case sa_BadGround => first | k_is | rfl)
    (case ga_BadGround => first | k_is | rfl)
    (case gg_BadGround => first | k_is | rfl)
    (case nw_BadGround => first | k_is | rfl)
    (case ii_BadGround => first | k_is | rfl)
    (case oc_BadGround => first | k_is | rfl)
    (case kC_BadGround => first | k_is | rfl)
    (case eC_BadGround => first | k_is | rfl)
    (case tC_BadGround => first | k_is | rfl)
    (case hC_BadGround => first | k_is | rfl)
    (case mo_BadGround => first | k_is | rfl)
    (case su_BadGround => first | k_is | rfl)
    (case kv_BadGround => first | k_is | rfl)
    (case kt_BadGround => first | k_is | rfl)
    (case xL_BadText => first | k_is | rfl)
    (case sa_BadText => first | k_is | rfl)
    (case ga_BadText => first | k_is | rfl)
    (case gg_BadText => first | k_is | rfl)
    (case nw_BadText => first | k_is | rfl)
    (case ii_BadText => first | k_is | rfl)
    (case oc_BadText => first | k_is | rfl)
    (case kC_BadText => first | k_is | rfl)
    (case eC_BadText => first | k_is | rfl)
    (case tC_BadText => first | k_is | rfl)
    (case hC_BadText => first | k_is | rfl)
    (case mo_BadText => first | k_is | rfl)
    (case su_BadText => first | k_is | rfl)
    (case kv_BadText => first | k_is | rfl)
    (case kt_BadText => first | k_is | rfl)
    (case lI => first | k_is | rfl)
    (case cI => first | k_is | rfl)
    (case kI => first | k_is | rfl)
    (case tI => first | k_is | rfl)
    (case g_SHORTS => first | k_is | rfl)
    (case l_SHORTS => first | k_is | rfl)
    (case g_MOST_PRIME => first | k_is | rfl)
    (case g_MOST_ORDER => first | k_is | rfl)
    (case g_FIGURES => first | k_is | rfl)
    (case pg_Rests => first | k_is | rfl)
    (case hd_Rests => first | k_is | rfl)
    (case po_Rests => first | k_is | rfl)
    (case sa_Rests => first | k_is | rfl)
    (case mk_Rests => first | k_is | rfl)
    (case kc_Rests => first | k_is | rfl)
    (case nf_Rests_prime => first | k_is | rfl)
    (case nf_Rests_base => first | k_is | rfl)
    (case at_Rests___init__ => first | k_is | rfl)
    (case lk_Rests___init__ => first | k_is | rfl)
    (case cn_Rests___init__ => first | k_is | rfl)
    (case kp_Rests___init__ => first | k_is | rfl)
    (case fn_Rests___init__ => first | k_is | rfl)
    (case at_Rests_has_root => first | k_is | rfl)
    (case lk_Rests_has_root => first | k_is | rfl)
    (case cn_Rests_has_root => first | k_is | rfl)
    (case kp_Rests_has_root => first | k_is | rfl)
    (case fn_Rests_has_root => first | k_is | rfl)
    (case pg_Roots => first | k_is | rfl)
    (case hd_Roots => first | k_is | rfl)
    (case po_Roots => first | k_is | rfl)
    (case sa_Roots => first | k_is | rfl)
    (case mk_Roots => first | k_is | rfl)
    (case kc_Roots => first | k_is | rfl)
    (case nf_Roots_order => first | k_is | rfl)
    (case nf_Roots_rim => first | k_is | rfl)
    (case at_Roots___init__ => first | k_is | rfl)
    (case lk_Roots___init__ => first | k_is | rfl)
    (case cn_Roots___init__ => first | k_is | rfl)
    (case kp_Roots___init__ => first | k_is | rfl)
    (case fn_Roots___init__ => first | k_is | rfl)
    (case at_Roots_has_root => first | k_is | rfl)
    (case lk_Roots_has_root => first | k_is | rfl)
    (case cn_Roots_has_root => first | k_is | rfl)
    (case kp_Roots_has_root => first | k_is | rfl)
    (case fn_Roots_has_root => first | k_is | rfl)
    (case g_SIGNS => first | k_is | rfl)
    (case d_SIGNS => first | k_is | rfl)
    (case l_SIGNS => first | exact ⟨⟨_, _, rfl, rfl⟩, ⟨_, _, rfl, rfl⟩, ⟨_, _, rfl, rfl⟩, ⟨_, _, rfl, rfl⟩, ⟨_, _, rfl, rfl⟩, ⟨_, _, rfl, rfl⟩, trivial⟩ | k_is | rfl)
    (case sy_SIGNS => first | k_is | rfl)
    (case pd_SIGNS => first | exact (.cons ⟨_, rfl⟩ (.cons ⟨_, rfl⟩ (.cons ⟨_, rfl⟩ (.cons ⟨_, rfl⟩ (.cons ⟨_, rfl⟩ (.cons ⟨_, rfl⟩ .nil)))))) | k_is | rfl)
    (case v_SIGNS_plain => first | k_is | rfl)
    (case v_SIGNS_short => first | k_is | rfl)
    (case v_SIGNS_split => first | k_is | rfl)
    (case v_SIGNS_parts => first | k_is | rfl)
    (case v_SIGNS_powers => first | k_is | rfl)
    (case v_SIGNS_stretch => first | k_is | rfl)
    (case a0 => k_is)
    (case l0 => k_is)
    (case c0 => k_is)
    (case k0 => k_is)
    (case a1 => k_is)
    (case l1 => k_is)
    (case c1 => k_is)
    (case k1 => k_is)
    (case a2 => k_is)
    (case l2 => k_is)
    (case c2 => k_is)
    (case k2 => k_is)
    (case a3 => k_is)
    (case l3 => k_is)
    (case c3 => k_is)
    (case k3 => k_is)
    (case a4 => k_is)
    (case l4 => k_is)
    (case c4 => k_is)
    (case k4 => k_is)
    (case a5 => k_is)
    (case l5 => k_is)
    (case c5 => k_is)
    (case k5 => k_is)
    (case a6 => k_is)
    (case l6 => k_is)
    (case c6 => k_is)
    (case k6 => k_is)
    (case a7 => k_is)
    (case l7 => k_is)
    (case c7 => k_is)
    (case k7 => k_is)
    (case a8 => k_is)
    (case l8 => k_is)
    (case c8 => k_is)
    (case k8 => k_is)
    (case a9 => k_is)
    (case l9 => k_is)
    (case c9 => k_is)
    (case k9 => k_is)
    (case a10 => k_is)
    (case l10 => k_is)
    (case c10 => k_is)
    (case k10 => k_is)
    (case a11 => k_is)
    (case l11 => k_is)
    (case c11 => k_is)
    (case k11 => k_is)
    (case a12 => k_is)
    (case l12 => k_is)
    (case c12 => k_is)
    (case k12 => k_is)
    (case a13 => k_is)
    (case l13 => k_is)
    (case c13 => k_is)
    (case k13 => k_is)
    (case a14 => k_is)
    (case l14 => k_is)
    (case c14 => k_is)
    (case k14 => k_is)
    (case a15 => k_is)
    (case l15 => k_is)
    (case c15 => k_is)
    (case k15 => k_is)
    (case a16 => k_is)
    (case l16 => k_is)
    (case c16 => k_is)
    (case k16 => k_is)
    (case a17 => k_is)
    (case l17 => k_is)
    (case c17 => k_is)
    (case k17 => k_is)
    (case a18 => k_is)
    (case l18 => k_is)
    (case c18 => k_is)
    (case k18 => k_is)
    (case a19 => k_is)
    (case l19 => k_is)
    (case c19 => k_is)
    (case k19 => k_is)
    (case a20 => k_is)
    (case l20 => k_is)
    (case c20 => k_is)
    (case k20 => k_is)
    (case a21 => k_is)
    (case l21 => k_is)
    (case c21 => k_is)
    (case k21 => k_is)
    (case a22 => k_is)
    (case l22 => k_is)
    (case c22 => k_is)
    (case k22 => k_is)
    (case a23 => k_is)
    (case l23 => k_is)
    (case c23 => k_is)
    (case k23 => k_is)
    (case a24 => k_is)
    (case l24 => k_is)
    (case c24 => k_is)
    (case k24 => k_is)
    (case a25 => k_is)
    (case l25 => k_is)
    (case c25 => k_is)
    (case k25 => k_is)
    (case a26 => k_is)
    (case l26 => k_is)
    (case c26 => k_is)
    (case k26 => k_is)
    (case a27 => k_is)
    (case l27 => k_is)
    (case c27 => k_is)
    (case k27 => k_is)
    (case a28 => k_is)
    (case l28 => k_is)
    (case c28 => k_is)
    (case k28 => k_is)
    (case a29 => k_is)
    (case l29 => k_is)
    (case c29 => k_is)
    (case k29 => k_is)
    (case a30 => k_is)
    (case l30 => k_is)
    (case c30 => k_is)
    (case k30 => k_is)
    (case a31 => k_is)
    (case l31 => k_is)
    (case c31 => k_is)
    (case k31 => k_is)
    (case a32 => k_is)
    (case l32 => k_is)
    (case c32 => k_is)
    (case k32 => k_is)
    (case a33 => k_is)
    (case l33 => k_is)
    (case c33 => k_is)
    (case k33 => k_is)
    (case a34 => k_is)
    (case l34 => k_is)
    (case c34 => k_is)
    (case k34 => k_is)
    (case a35 => k_is)
    (case l35 => k_is)
    (case c35 => k_is)
    (case k35 => k_is)
    (case a36 => k_is)
    (case l36 => k_is)
    (case c36 => k_is)
    (case k36 => k_is)
    (case a37 => k_is)
    (case l37 => k_is)
    (case c37 => k_is)
    (case k37 => k_is)
    (case a38 => k_is)
    (case l38 => k_is)
    (case c38 => k_is)
    (case k38 => k_is)
    (case a39 => k_is)
    (case l39 => k_is)
    (case c39 => k_is)
    (case k39 => k_is)
    (case a40 => k_is)
    (case l40 => k_is)
    (case c40 => k_is)
    (case k40 => k_is)
    (case a41 => k_is)
    (case l41 => k_is)
    (case c41 => k_is)
    (case k41 => k_is)
    (case a42 => k_is)
    (case l42 => k_is)
    (case c42 => k_is)
    (case k42 => k_is)
    (case a43 => k_is)
    (case l43 => k_is)
    (case c43 => k_is)
    (case k43 => k_is)
    (case a44 => k_is)
    (case l44 => k_is)
    (case c44 => k_is)
    (case k44 => k_is)
    (case a45 => k_is)
    (case l45 => k_is)
    (case c45 => k_is)
    (case k45 => k_is)
    (case z0 => k_is)
    (case z1 => k_is)
    (case z2 => k_is)
    (case z3 => k_is)
    (case z4 => k_is)
    (case z5 => k_is)
    (case z6 => k_is)
    (case z7 => k_is)
    (case z8 => k_is)
    (case z9 => k_is)
    (case z10 => k_is)
    (case z11 => k_is)
    (case z12 => k_is)
    (case z13 => k_is)
    (case z14 => k_is)
    (case z15 => k_is)
    (case z16 => k_is)
    (case z17 => k_is)
    (case z18 => k_is)

