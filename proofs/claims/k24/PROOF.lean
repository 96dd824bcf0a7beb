import PyProof.Rows.All
import Wide.All
import OpenK.AllK
import Wide.FinOn
import HandS.ForMost
import HandS.IsInst
import HandS.Style
import HandS.Wide
import HandS.WideMore
import HandS.Zip
import HandS.Flow
import HandS.SetFor
import HandS.Strs
import HandS.SortInts
import HandS.ExcInit
import HandS.ExcField
import HandS.ExcIs
import HandS.ExcValue
import HandS.WordsExc
import HandS.NoneIn
import HandS.Conv
import HandS.TupMul
import HandS.TupAny
import HandS.Dict
import HandS.Deep
import KE.KExcIs
import KE.GoesMore
import KE.GoesRaise
import HandS.Defaults
import HandS.CallSlots
import HandS.IterVal
import PyProof.Draws
import KE.OsRunLaw
import HandS.Text
import HandS.FStr
import HandS.Iter
import HandS.SetKeys
import HandS.Codes
import PySem.Challenge.RW_turnsums_k24_plans_as_texts
set_option Elab.async false
set_option linter.all false
set_option maxRecDepth 100000
set_option maxHeartbeats 4000000
namespace My
open PySem L2
def top (i : Nat) : Stmt := PySem.Challenge.pw_turnsums_k24_plans_as_texts.main.body.getD i (.Pass ⟨0, 0, 0, 0⟩)
/-- a def of the text: where it stands, how it is called -/
structure Df (K : PySem.W.Frag) (mg : Str → Option Value) (x : Str) (st : Stmt) (ps : List Str) (f : Addr) (fd : FuncData) : Prop where
  F : Fun K x x st f fd
  b : Binds K fd ps []
  g : mg x = some (.ref f)
/-! heaps: all but the box stays -/
theorem same_upd {H H' : Hp} {p : Addr} {o : HO} (h : Same H H') (n : H' p = none) : Same H (upd H' p o) := fun b x e => by
  rw [upd_ne (ne_of_none (h b x e) n)]
  exact h b x e
theorem same_new {H : Hp} {p : Addr} {o : HO} (n : H p = none) : Same H (upd H p o) := same_upd (Same.refl H) n
theorem same_mut {H H' : Hp} {p : Addr} {o : HO} (h : Same H H') (n : H p = none) : Same H (upd H' p o) := fun b x e => by
  rw [upd_ne (ne_of_none e n)]
  exact h b x e
theorem same_t {K : PySem.W.Frag} {H H' : Hp} {a : Addr} {xs : List V} (e : Same H H') (h : SqT K H a xs) : SqT K H' a xs := by
  rcases h with (h | ⟨o, h⟩) | h
  · exact .inl (.inl (e _ _ h))
  · exact .inl (.inr ⟨o, e _ _ h⟩)
  · exact .inr h
def Keep (b : Addr) (H H' : Hp) : Prop := ∀ a o, a ≠ b → H a = some o → H' a = some o
theorem Keep.refl (b : Addr) (H : Hp) : Keep b H H := fun _ _ _ h => h
theorem Keep.trans {b : Addr} {H H1 H2 : Hp} (a : Keep b H H1) (c : Keep b H1 H2) : Keep b H H2 := fun x o n h => c x o n (a x o n h)
theorem keepS {b : Addr} {H H' : Hp} (h : Same H H') : Keep b H H' := fun x o _ e => h x o e
theorem keep_same {b : Addr} {H0 H H' : Hp} (a : Same H0 H) (n : H0 b = none) (k : Keep b H H') : Same H0 H' := fun x o e => k x o (ne_of_none e n) (a x o e)
theorem keep_upd {b : Addr} {H H' : Hp} {o : HO} (h : Keep b H H') : Keep b H (upd H' b o) := fun a u n e => by
  rw [upd_ne n]
  exact h a u n e
theorem keep_new {b p : Addr} {H H' : Hp} {o : HO} (h : Keep b H H') (n : H' p = none) : Keep b H (upd H' p o) := fun a u na e => by
  rw [upd_ne (ne_of_none (h a u na e) n)]
  exact h a u na e
theorem Keep.seq {K : PySem.W.Frag} {b a : Addr} {H H' : Hp} {xs : List V} (e : Keep b H H') (n : a ≠ b) (h : SqL K H a xs) : SqL K H' a xs := by
  rcases h with (h | ⟨o, h⟩) | h
  · exact .inl (.inl (e _ _ n h))
  · exact .inl (.inr ⟨o, e _ _ n h⟩)
  · exact .inr h
def BoxAt (H : Hp) (b : Addr) (n : Int) : Prop := ∃ x y z : Int, H b = some (.lst [.int x, .int y, .int z]) ∧ 0 ≤ x ∧ 0 ≤ y ∧ y ≤ 4294967296 ∧ 0 ≤ z ∧ z ≤ n
theorem BoxAt.mono {H : Hp} {b : Addr} {n m : Int} (h : BoxAt H b n) (e : n ≤ m) : BoxAt H b m := by
  obtain ⟨x, y, z, a1, a2, a3, a4, a5, a6⟩ := h
  exact ⟨x, y, z, a1, a2, a3, a4, a5, by omega⟩
theorem BoxAt.same {H H' : Hp} {b : Addr} {n : Int} (h : BoxAt H b n) (e : Same H H') : BoxAt H' b n := by
  obtain ⟨x, y, z, a1, a2⟩ := h
  exact ⟨x, y, z, e _ _ a1, a2⟩
theorem BoxAt.some {H : Hp} {b : Addr} {n : Int} (h : BoxAt H b n) : ∃ o, H b = some o := by
  obtain ⟨x, y, z, a1, a2⟩ := h
  exact ⟨_, a1⟩
theorem BoxAt.ne {H : Hp} {b p : Addr} {n : Int} (h : BoxAt H b n) (e : H p = none) : p ≠ b := by
  obtain ⟨o, h⟩ := h.some
  exact (ne_of_none h e).symm
theorem szl {n : Nat} (h : n ≤ 60000) : n ≤ sizeLine := Nat.le_trans h (by decide)
theorem szm {n : Nat} (h : n ≤ 60000) : n < sizeLine := Nat.lt_of_le_of_lt h (by decide)
theorem pw6 : (10 : Int) ^ Int.toNat 6 = 1000000 := by decide
theorem pw9 : (10 : Int) ^ Int.toNat 9 = 1000000000 := by decide
theorem newO {H H' : Hp} {p : Addr} {o : HO} (e : upd H p o = H') (hp : H p = none) : Same H H' ∧ H' p = some o := by
  subst e
  exact ⟨same_new hp, upd_same⟩
theorem mutO {H H' : Hp} {p : Addr} {o : HO} (e : upd H p o = H') : Keep p H H' ∧ H' p = some o := by
  subst e
  exact ⟨keep_upd (Keep.refl _ _), upd_same⟩
/-- a word of ours that the walk must not open -/
inductive Hold (p : Prop) : Prop
  | mk : p → Hold p
theorem Hold.un {p : Prop} (h : Hold p) : p := by
  cases h with
  | mk h => exact h
theorem holdN {W : Nat → L2.St → Hp → Prop} {m : Nat} : ∀ (σ' : L2.St) (H' : Hp), Hold (∃ m', m' < m ∧ W m' σ' H') → ∃ m', m' < m ∧ W m' σ' H' := fun _ _ h => h.un
theorem ite_dec {c A B : Prop} [Decidable c] (hc : c) (h : A) : if decide c = true then A else B := by
  rw [decide_eq_true hc]
  exact iteT h
def rLenQ (K : PySem.W.Frag) : List V → Hp → VK → Prop := fun xs H Q => ∃ p ys, xs = [.ref p] ∧ (SqL K H p ys ∨ SqT K H p ys) ∧ Q (.int ys.length) H
theorem iteTe {b : Bool} {A B : Prop} (e : b = true) (h : A) : if b = true then A else B := by
  rw [if_pos e]
  exact h
theorem iteFe {b : Bool} {A B : Prop} (e : b = false) (h : B) : if b = true then A else B := by
  rw [e]
  exact iteF h
theorem cmul_b {i : Int} {b : Bool} : CMul i (if b then 1 else 0) := by
  refine .inr ?_
  cases b <;> exact ⟨by decide, by decide⟩
theorem at_ints {ns : List Int} {k : Int} (h0 : 0 ≤ k) (h : k < (ns.length : Int)) : ∃ c, c ∈ ns ∧ atI (ns.map V.int) k = some (.int c) := by
  have hk : k.toNat < ns.length := by omega
  refine ⟨ns[k.toNat], List.getElem_mem hk, at_of (j := k.toNat) (by omega) ?_⟩
  rw [List.getElem?_map, List.getElem?_eq_getElem hk]
  rfl
theorem at_some {xs : List V} {k : Int} (h0 : 0 ≤ k) (h : k < (xs.length : Int)) : ∃ v, v ∈ xs ∧ atI xs k = some v := by
  have hk : k.toNat < xs.length := by omega
  exact ⟨xs[k.toNat], List.getElem_mem hk, at_of (j := k.toNat) (by omega) (List.getElem?_eq_getElem hk)⟩
theorem int_mem {ns : List Int} {v : V} (h : v ∈ ns.map V.int) : ∃ c, c ∈ ns ∧ v = .int c := by
  obtain ⟨c, hc, e⟩ := List.mem_map.mp h
  exact ⟨c, hc, e.symm⟩
structure Blt (mg : Str → Option Value) : Prop where
  b_ValueError : mg "ValueError" = none
  b_abs : mg "abs" = none
  b_all : mg "all" = none
  b_bool : mg "bool" = none
  b_int : mg "int" = none
  b_isinstance : mg "isinstance" = none
  b_len : mg "len" = none
  b_list : mg "list" = none
  b_min : mg "min" = none
  b_range : mg "range" = none
  b_str : mg "str" = none
  b_tuple : mg "tuple" = none
  b_zip : mg "zip" = none
/-! the head: the top by one run -/
section
open PySem PySem.W PySem.Calls PyProof.Rows
abbrev hdR : OpenRow := OpenLaw.row PySem.Challenge.rw_turnsums_k24_plans_as_texts
def hdV : Program := view hdR.prog [34]
def hdN : List PySem.Str := (["__name__", "TurnError", "BadText", "is_whole", "is_prime", "factors", "are_coprime", "SHORTS", "bare_length", "pair_length", "led_length", "length_if_plan", "is_plan", "FIGURES", "SIGNS", "plan_text", "word_of", "pieces_of", "number_in", "part_in", "bracket_plan", "plan_in", "_law_box", "_law_take", "_law_pick", "_law_same", "_law_shares", "_law_is_plain_prime", "_law_plan_words", "_law_any_plan"] : List PySem.Str)
open HeadRun in
theorem hd_left {p q : Program} {loose : List PySem.Str} {Xt : Shared → Bool} {K : Params → Frag} {as : List Addr} {ek : ∀ P, as = (K P).map (·.1)} {N M : Nat}
    (e : opening p = plainProg p.main.scope.names) (hN : Nat.ble 600 N = true) (f : ∀ s, fenceModules? p s = some s) (le : Nat.ble M N = true)
    (run : ∀ (b : Bool) (w : World) (os : OsState), (fun w : World => (endF (stepQ (denQ tabQ) p w) M p w os).map (fun s => (looksF p (boot_heap w.params) s.abs, seenQ q loose (importedModules p.main.body) Xt s.abs, as.map (getT s))) = some (true, openGood q loose, (K w.params).map fun x => some x.2)) (w.withFollow "special-get-raises" b)) :
    LeftO p q loose Xt (Hook.obs (kHook K as ek)) (Hook.val (kHook K as ek)) N true :=
  left_oneK (M := M) e hN f le fun w => byRow2 "special-get-raises" (P := fun w => ∀ os : OsState, (endF (stepQ (denQ tabQ) p w) M p w os).map (fun s => (looksF p (boot_heap w.params) s.abs, seenQ q loose (importedModules p.main.body) Xt s.abs, as.map (getT s))) = some (true, openGood q loose, (K w.params).map fun x => some x.2)) (fun w os => run false w os) (fun w os => run true w os) w
local macro_rules
  | `(tactic| o_head $H) => `(tactic| (
    refine holds_open (q := hdV) (loose := hdN) (Xt := fun s => xlAt hdV [] s && recOk (RowW.records (OpenRow.toRowW hdR)) s) (XP := XL hdV []) (Yf := Hook.obs $H) (Ya := Hook.val $H) (YP := Hook.says $H) (N := 81000) ?hl (Hook.of $H) (Hook.keeps $H) (fun s e => xl_of s (Bool.and_eq_true_iff.mp e).1) XL.keeps (by rfl) (by rfl) (by rfl) (fun s e => recFacts_of (Bool.and_eq_true_iff.mp e).2) (by rfl) (by first | assumption | decide +kernel) (by decide +kernel) ⟨rfl, rfl, rfl, rfl, rfl, by decide +kernel⟩ ?hw ?hc
    (case hl =>
      refine hd_left (M := 80000) (by kernel_rfl) (by rfl) (fun s => by kernel_rfl) (by rfl) ?_
      intro b w os
      cases b
      · kernel_rfl
      · kernel_rfl)))
set_option maxHeartbeats 0 in
open_top hdtop for PySem.Challenge.rw_turnsums_k24_plans_as_texts
end
/-! ### sorted(set(xs)), xs a list of few ints -/
section
open PySem.Spec PyProof.Rows PySem.Calls
abbrev bareSet (w : World) : Obj := { cls := .type "set", dict := none, data := .set #[] 0 (.fresh 0 0 (!w.params.followText "set-order")) }
/-- what set(xs) leaves behind -/
def SetLeft (w : World) (s : Shared) (ns : List Int) (h' : Heap) (c : Nat) : Prop := SetR w h' s.heap.objs.size (fun j => decide (j ∈ ns)) c ∧ c ≤ ns.length ∧ ∀ b o, s.heap.get? b = some o → h'.get? b = some o
variable {P : Program} {w : World} {A : Around} {E : Value → Shared → Prop} {s : Shared}
theorem items_ints {items : Array Value} {ns : List Int} (hi : IntsAre items.toList ns) (i : Nat) (v : Value) (hv : items[i]? = some v) : ∃ k t, ns[i]? = some k ∧ v = .int k t := by
  have hl : items.size = ns.length := by
    rw [← Array.length_toList]
    exact hi.length
  have hlt : i < ns.length := by
    rw [← hl]
    exact (Array.getElem?_eq_some_iff.mp hv).1
  obtain ⟨t, e⟩ := hi.int_at i v (by rw [Array.getElem?_toList]; exact hv)
  refine ⟨ns[i], t, List.getElem?_eq_getElem hlt, e.trans ?_⟩
  rw [List.getD_eq_getElem?_getD, List.getElem?_eq_getElem hlt]
  rfl
set_option maxHeartbeats 3200000 in
theorem set_of_list {l : Addr} {items : Array Value} {ns : List Int} {Q : Value → Shared → Prop} (hh : A.handled = none) (hl : s.heap.IsList l items) (hi : IntsAre items.toList ns) (hb : ns.length + 1 < scanBound)
    (h : ∀ (h' : Heap) (tk c : Nat), SetLeft w s ns h' c → Q (.ref s.heap.objs.size) { s with heap := h', toks := tk }) : wpAny (model P w) A (call (.type "set") [.ref l]) Q E s := by
  have hsz : items.size = ns.length := by
    rw [← Array.length_toList]
    exact hi.length
  obtain ⟨mc, mt, hmro⟩ := F.called_set.mro
  have a1 := F.called_set.made; have a2 := F.called_set.sub; have a3 := F.called_set.notType; have a4 := F.called_set.canCreate; have a5 := F.typeCall_set_1 (.ref l)
  refine wpAny_call (codeAny_of_tree (show wpAny _ _ (callAny (.type "set") _) _ _ _ from wpAny_pure ⟨Code.quiet_builtin _ (by decide +kernel), codeAny_builtin F.entry_type_call ?_⟩))
  rw [Around.under_plain (weight_type_call_type "set" [.ref l] []) rfl]; repeat (any_goals (first | assumption | wp_step))
  refine codeAny_mono (code_set_led1 (.ref l) (E := E) (Q₁ := fun v s' => v = .ref s.heap.objs.size ∧ s' = { s with heap := s.heap.push (bareSet w) }) ⟨rfl, rfl⟩) fun res s1 hres => ?_
  match res, hres with
  | .error e, hres => exact hres
  | .ok .next, hres => exact hres.elim
  | .ok .cont, hres => exact hres.elim
  | .ok .brk, hres => exact hres.elim
  | .ok (.ret v), hres =>
    obtain ⟨rfl, rfl⟩ := hres
    have g0 : (s.heap.push (bareSet w)).get? s.heap.objs.size = some (bareSet w) := Heap.get?_push_size _ rfl
    have ty0 : Shared.TypeIs { s with heap := s.heap.push (bareSet w) } (.ref s.heap.objs.size) "set" := ⟨_, g0, rfl⟩
    have i1 := F.called_set.init.lookup; have i2 := F.called_set.init.bind (.ref s.heap.objs.size)
    repeat (any_goals (first | assumption | wp_step))
    refine codeAny_mono (codeAny_call_builtin (R := wants (fun v s' => v = .none ∧ ∃ h' tk c, s' = { s with heap := h', toks := tk } ∧ SetLeft w s ns h' c) E) F.called_set.init.plain F.entry_set_init (check_set_init_1 ty0 ?_)) fun res2 s2 hres2 => ?_
    · obtain ⟨⟨lc, ld, la, ls⟩, hol, hcl, nl, hdl⟩ := hl
      simp only at hcl hdl; subst hcl; subst hdl
      have hol1 := Heap.get?_push_of_some (bareSet w) hol
      have hL1 : (s.heap.push (bareSet w)).IsList l items := ⟨_, hol1, rfl, nl, rfl⟩
      have n1 := F.sub_list_set; have n2 := F.sub_list_frozenset; have n3 : (Value.type "list" == Value.type "dict") = false := by decide
      unfold Builtin.«set.__init__» noKeywords Builtin.Frozenset.updateFrom; generalize hgo : pyIter = go; wp_walk; subst hgo
      refine wpAny_pyIter_list hL1 (wpAny_bind (wpAny_runValue ?_))
      have ll := Heap.lt_size hol
      have hhd : A.in1.in1.in1.handled = none := by simp [hh]
      have sz1 : (s.heap.push (bareSet w)).objs.size = s.heap.objs.size + 1 := Heap.size_push ..
      have off : l ≠ (s.heap.push (bareSet w)).objs.size := by rw [sz1]; exact Nat.ne_of_lt (Nat.lt_succ_of_lt ll)
      have out : s.heap.objs.size ∉ [(s.heap.push (bareSet w)).objs.size, l] := by
        intro z
        rcases List.mem_cons.mp z with z | z
        · rw [sz1] at z
          exact absurd z (Nat.ne_of_lt (Nat.lt_succ_self _))
        · exact absurd (List.mem_singleton.mp z) (Nat.ne_of_gt ll)
      refine set_update_ints ((Walks.list hhd _ l off items).toS) s.heap.objs.size out ns hsz hb (items_ints hi) (items.size - 0) 0 _ (by omega) (Nat.zero_le _) ⟨⟨_, Heap.get?_push_size _ rfl, rfl, rfl⟩, hL1.push _⟩ ⟨0, Nat.le_refl 0, setR_new_at (Heap.get?_push_of_some _ g0)⟩ ?_
      rintro ⟨h', g', d', tk', os'⟩ c' hm hc' hS'
      obtain ⟨e1, e2, e3⟩ := (show g' = s.gens ∧ d' = s.drawn ∧ os' = s.os from ⟨hm.gens, hm.drawn, hm.os⟩)
      subst e1; subst e2; subst e3
      refine wpAny_pure (show wpAny _ _ (ret Value.none) _ _ _ from wpAny_pure ⟨rfl, h', tk', c', rfl, hS', by omega, fun b o e => ?_⟩)
      have lb := Heap.lt_size e
      refine hm.heap b o ?_ (Heap.get?_push_of_some _ (Heap.get?_push_of_some _ e))
      intro z
      rcases List.mem_cons.mp z with z | z
      · exact absurd z (Nat.ne_of_lt lb)
      · have z2 := List.mem_singleton.mp z
        rw [sz1] at z2
        exact absurd z2 (Nat.ne_of_lt (Nat.lt_succ_of_lt lb))
    · match res2, hres2 with
      | .error e, hres2 => exact hres2
      | .ok .next, hres2 => exact hres2.elim
      | .ok .cont, hres2 => exact hres2.elim
      | .ok .brk, hres2 => exact hres2.elim
      | .ok (.ret v2), hres2 =>
        obtain ⟨rfl, h', tk, c', rfl, hS'⟩ := hres2
        repeat (any_goals (first | assumption | wp_step))
        exact h _ _ _ hS'
end
open PySem.Spec PyProof.Rows in
/-- sorted of a set of ints, however many -/
theorem set_sorted {P : Program} {w : World} {A : Around} {E : Value → Shared → Prop} {s : Shared} {a : Addr} {S : Int → Bool} {n : Nat} {Q : Value → Shared → Prop} (R : SetR w s.heap a S n) (hh : A.handled = none)
    (q : ∀ s' p (out : List Value) (c : Nat) (ms : List Int), (∀ b o, s.heap.get? b = some o → s'.heap.get? b = some o) → s'.gens = s.gens → s'.os = s.os → s.heap.objs.size ≤ p →
      s'.heap.get? p = some (seqObj "list" out.toArray c) → IntsAre out ms → ms.Pairwise (· < ·) → (∀ k, k ∈ ms ↔ S k = true) → ms.length = n → Q (.ref p) s') : wpAny (model P w) A (call (.builtin "sorted") [.ref a]) Q E s := by
  obtain ⟨o, es, ep, t, g1, g2, g3, good, nod, mem, g4, g5, g6, g7, g8⟩ := R
  refine Calls.call_function_entry kind_sorted plain_sorted entry_sorted (args_sorted1 _) ?_; unfold Builtin.«sorted»
  refine wpAny_bind (m := checkCount "sorted" 1 1 _) (wpAny_pure (wpAny_bind (collect_set (A := A.in1) hh ⟨o, g1, g2.1, g3⟩ g5 g4 g7 g8 fun s1 vs k1 z1 e1 e2 pm => ?_)))
  have len : vs.length = n := by
    rw [pm.length_eq, List.length_map, Array.length_toList]
    exact g6
  have ivs : ∀ e ∈ es.toList, SrtO.iv e.2 = keyOf e := fun e he => by
    obtain ⟨k, tk, h1, _⟩ := good e he
    unfold keyOf
    rw [h1]
    rfl
  have hI : IntsAre vs (vs.map SrtO.iv) := SrtO.ints_iv fun v hv => by
    obtain ⟨e, he, ev⟩ := List.mem_map.mp (pm.mem_iff.mp hv)
    obtain ⟨k, tk, h1, _⟩ := good e he
    exact ⟨k, tk, ev.symm.trans h1⟩
  have prm : (vs.map SrtO.iv).Perm (es.toList.map keyOf) := by
    refine (pm.map SrtO.iv).trans ?_
    rw [List.map_map]
    exact List.Perm.of_eq (List.map_congr_left ivs)
  have zn : n ≤ sizeLine := by
    unfold scanBound at g4
    exact szl (by omega)
  refine wpAny_bind (wpAny_newList ?_ (by rw [len]; exact zn))
  have at1 : (s1.heap.push (seqObj "list" vs.toArray 0)).get? s1.heap.objs.size = some (seqObj "list" vs.toArray 0) := Heap.get?_push_size _ rfl
  refine wpAny_bind (wpAny_holding (wpAny_call_entry slot_list_sort ⟨_, at1, rfl⟩ entry_list_sort (SrtO.list_sort_ord SrtO.swo_int at1 (by rw [len]; exact zn) (fun two => SrtO.ints_sortable hI two) fun out o1 o2 => ⟨_, rfl, ?_⟩) (args_list_sort _)))
  obtain ⟨j1, j2, j3⟩ := SrtO.ints_out hI o1 o2
  obtain ⟨c, at2⟩ := sortedHeap_at (vs := vs) (out := out.toArray) at1
  have prm2 := j2.trans prm
  refine wpAny_pure ⟨_, rfl, q _ s1.heap.objs.size out c _ (fun b u e => ?_) e1 e2 z1 at2 j1 (lt_of_le_nodup _ j3 (prm2.nodup_iff.mpr nod)) (fun k => by rw [prm2.mem_iff, ← mem k]) (by rw [prm2.length_eq, List.length_map, Array.length_toList]; exact g6)⟩
  have e3 := k1 b u e
  have l3 := Heap.lt_size e3
  exact (sortedHeap_old (vs := vs) (out := out.toArray) (Nat.ne_of_lt l3) (by rw [size_push']; exact Nat.lt_succ_of_lt l3)).trans (Heap.get?_push_of_some _ e3)
def tSortSet (K : PySem.W.Frag) (ta : TE) : TE := fun σ H Q => ta σ H fun x H1 => ∃ (l : Addr) (ns : List Int), x = .ref l ∧ SqL K H1 l (ns.map V.int) ∧ ns.length ≤ 4000 ∧
  ∀ (out : List Int) (p : Addr), H1 p = none → out.Pairwise (· < ·) → (∀ k, k ∈ out ↔ k ∈ ns) → out.length ≤ ns.length → Q (.ref p) (upd H1 p (.lst (out.map V.int)))
open PySem.Spec PyProof.Rows in
theorem pe_sortSet {X : Cx} {a : Expr} {ta : TE} {p p2 q pos : Pos} (hg : Gl X "sorted") (hm : X.mg "sorted" = none) (hg2 : Gl X "set") (hm2 : X.mg "set" = none) (ha : PE X a ta) (hc : X.calm = true := by rfl)
    (na : starEach [a] X.env = (false, eval a X.env) :: starEach [] X.env := by rfl) : PE X (.Call (.Name "sorted" p) [.Call (.Name "set" p2) [a] [] q] [] pos) (tSortSet X.K ta) := by
  refine ⟨fun pins s σ H Q I h => ?_⟩
  refine Call_ (ld_blt I hg hm boot_sorted (callWith_builtin1 (args_cons (Call_ (ld_blt I hg2 hm2 boot_set (callWith_type1 (args_cons (thn (ha.run pins s σ H _ I h) fun v s1 ⟨x, H1, I1, r1, q1⟩ => args_nil ?_) na) na rfl))) rfl) rfl rfl))
  obtain ⟨l, ns, rfl, hq, hn, q1⟩ := q1
  cases r1
  obtain ⟨its, r, pl, hz⟩ := I1.list hq
  have hd := I1.ok.hd hc
  refine set_of_list hd pl.isList (by simpa using ints_of_vals r) (by unfold scanBound; omega) fun h' tk c hL => args_nil ?_
  obtain ⟨R1, hcn, kept⟩ := hL
  refine set_sorted (s := { s1 with heap := h', toks := tk }) R1 hd fun s' pp out cc ms k g o hp hgt hi hs hmem hlen => ?_
  have kk : ∀ b u, s1.heap.get? b = some u → s'.heap.get? b = some u := fun b u e => k b u (kept b u e)
  have hpp : s1.heap.objs.size ≤ pp := Nat.le_trans (Nat.le_of_lt R1.lt) hp
  have fr : H1 pp = none := I1.hok.fresh hpp
  have sl : (ms.map V.int).length ≤ sizeLine := by
    rw [List.length_map, hlen]
    exact szl (by omega)
  have hos : s'.os = s1.os := o
  have J : Inv X pins σ (upd H1 pp (.lst (ms.map V.int))) { s1 with heap := s'.heap, gens := s'.gens, drawn := s'.drawn, toks := s'.toks } :=
    I1.call (ch := []) (Un.laid kk hpp fr) (I1.hok.laid kk hpp ⟨sl, out, cc, vals_of_ints hi, hgt⟩) (by rw [g]; exact I1.bare) (fun _ z => nomatch z)
  have es : s' = { s1 with heap := s'.heap, gens := s'.gens, drawn := s'.drawn, toks := s'.toks } := by
    obtain ⟨b1, b2, b3, b4, b5⟩ := s'
    simp only at hos
    subst hos
    rfl
  rw [es]
  exact ⟨.ref pp, _, J, rfl, q1 ms pp fr hs (fun j => (hmem j).trans decide_eq_true_iff) (by omega)⟩
local macro_rules | `(tactic| walk_at "ev1") => `(tactic| first
  | with_reducible assumption
  | ((with_reducible show _ = _); exact rfl)
  | ((first | with_reducible show (_ : Int) = _ | with_reducible show (_ : Int) < _ | with_reducible show (_ : Int) ≤ _ | with_reducible show (_ : Nat) < _ | with_reducible show (_ : Nat) ≤ _); first | omega | decide | (simp only [pw6, pw9]; omega) | (simp only [List.length_cons, List.length_nil, List.length_append, List.length_map, List.length_replicate]; omega))
  | assumption
  | exact upd_same
  | exact SqL.of upd_same
  | exact Or.inl (SqL.of upd_same)
  | exact Or.inl (by assumption)
  | exact Or.inr (by assumption)
  | omega
  | exact (show CDiv _ _ from ⟨by omega, by omega⟩)
  | exact (show CPow _ _ from ⟨by omega, by omega, by omega⟩)
  | exact (show CMul _ _ from .inl ⟨by omega, by omega⟩)
  | exact (show CMul _ _ from .inr ⟨by omega, by omega⟩)
  | exact (show CMul _ _ from cmul_b)
  | exact (show CDivW _ _ from wide_div (b := 31) (by omega) (by omega) (by decide) (by decide))
  | exact (Or.inl ⟨rfl, _, SqL.of (by assumption)⟩)
  | exact ClsV.ty _
  | exact .cons (.ty _) (.cons (.ty _) .nil)
  | (refine szl ?_; simp only [List.length_cons, List.length_nil, List.length_append, List.length_map, List.length_replicate]; omega)
  | (refine szm ?_; simp only [List.length_cons, List.length_nil, List.length_append, List.length_map, List.length_replicate]; omega))
local macro_rules | `(tactic| walk_at "s") => `(tactic| (first
  | (refine And.intro ?l ?_; (case l => walk_at "ev1"))
  | with_reducible refine iteT ?_
  | with_reducible refine iteF ?_
  | with_reducible refine ite_dec rfl ?_
  | with_reducible refine iteNS rfl ?_
  | with_reducible refine iteNS (by assumption) ?_
  | (apply Or.inl; apply Exists.intro; apply And.intro rfl)
  | (apply Or.inr; apply Exists.intro; apply And.intro rfl)
  | ((fail_if_success (refine @Exists.intro (Nat → Nat → L2.St → Hp → Prop) _ ?_ ?_)); (fail_if_success (refine @Exists.intro (Nat → L2.St → Hp → Prop) _ ?_ ?_)); (fail_if_success (refine @Exists.intro (L2.St → Hp → Prop) _ ?_ ?_)); (fail_if_success (refine @Exists.intro (Hp → Prop) _ ?_ ?_)); (fail_if_success (refine @Exists.intro (Nat → Nat → Hp → Prop) _ ?_ ?_)); apply Exists.intro)))
local macro_rules | `(tactic| walk_at "ev") => `(tactic| repeat (walk_at "s"))
local macro_rules | `(tactic| w_cond $i:ident) => do
  let b := (i.getId.toString.drop 1).toString
  let l := Lean.mkIdent (.mkSimple ("l" ++ b))
  let hl := Lean.mkIdent (.mkSimple ("hl" ++ b))
  let h := Lean.mkIdent (.mkSimple ("H" ++ b))
  let sm := Lean.mkIdent (.mkSimple ("sm" ++ b))
  let hq := Lean.mkIdent (.mkSimple ("hq" ++ b))
  `(tactic| (intro $l:ident $hl:ident; generalize hG : upd _ $l:ident _ = $h:ident; obtain ⟨$sm:ident, $hq:ident⟩ := newO hG $hl:ident; clear hG))
/-! ### a caught exception that a name keeps behind its clause -/
/-- at a: an exception of the class at C, its dict at d -/
def XOb (C d a : Addr) : HO := .ext fun h => ∃ (ob : Obj) (fl : Array Value), h.get? a = some ob ∧ Zc (.ref C) (some d) ob ∧ ob.data = .fields fl
theorem xob_ok {P : Program} {w : World} {H : Hp} {h : Heap} {C d a : Addr} {ob : Obj} {fl : Array Value} (q1 : h.get? a = some ob) (q2 : Zc (.ref C) (some d) ob) (q3 : ob.data = .fields fl) : ObjOk P w H h a (XOb C d a) :=
  ⟨⟨ob, fl, q1, q2, q3⟩, ⟨ob, q1⟩, fun _ _ ⟨u, v, r1, r2⟩ k => ⟨u, v, k u r1, r2⟩⟩
/-- an object of the heap that nobody tracks is tracked from now on -/
theorem track {X : Cx} {pins : List (Addr × Obj)} {σ : L2.St} {H : Hp} {s : Shared} {a : Addr} {o : HO} (I : Inv X pins σ H s) (n0 : X.s_0.heap.get? a = none) (hn : H a = none) (nL : a ≠ X.env.locals) (nC : ∀ x c, X.env.cells.lookup x = some c → c ≠ a)
    (nP : ∀ p ∈ X.pn ++ pins, p.1 ≠ a) (new : ObjOk X.prog X.w (upd H a o) s.heap a o) : Inv X pins σ (upd H a o) s := by
  have ne : ∀ {b : Addr} {u : HO}, H b = some u → b ≠ a := fun e => ne_of_none e hn
  refine ⟨I.ok, I.os, I.bare, ⟨I.base.keep, I.base.slot, fun b u e n hx => ?_, I.base.there, fun b xs e => ?_, fun b u v e => ?_, fun b ps e => ?_⟩, I.loc, I.cell, ?_, fun x c e => ?_, fun p hp => ?_, I.hok.laidN (fun _ _ z => z) hn new, I.len⟩
  · have : b ≠ a := fun z => by
      rw [z, n0] at e
      cases e
    rw [upd_ne this]
    exact I.base.free b u e n hx
  · have q := I.base.tups b xs e
    rw [upd_ne (ne q)]
    exact q
  · have q := I.base.frzs b u v e
    rw [upd_ne (ne q)]
    exact q
  · obtain ⟨m, q⟩ := I.base.tbls b ps e
    exact ⟨m, by rw [upd_ne (ne q)]; exact q⟩
  · rw [upd_ne nL.symm]
    exact I.free
  · rw [upd_ne (nC x c e)]
    exact I.freeC x c e
  · obtain ⟨e, n, r⟩ := I.pin p hp
    exact ⟨e, by rw [upd_ne (nP p hp)]; exact n, r⟩
/-- what 'except x as n: ..' wishes, the exception tracked behind it -/
def wKeep (K : PySem.W.Frag) (c : Value) (i : Nat) (ts : Addr → TS) (Wout : WX) (D : Ends) : WX := fun cls d σ H =>
  ∃ b, PySem.W.exmOne K cls c = some b ∧ (b = true → ∃ C dd, cls = .ref C ∧ d = some dd ∧ ∀ a, H a = none →
    ts a { nx := fun σ2 H2 => D.nx (σ2.set i none) (upd H2 a (XOb C dd a)), rt := fun _ _ => False, bk := fun _ _ => False, ct := fun _ _ => False } (σ.set i (some (.ref a))) H) ∧ (b = false → Wout cls d σ H)
section
variable {X : Cx} {x n : Str} {c : Value} {i : Nat} {body suite : List Stmt} {b₀ : Stmt} {np pos pos' : Pos} {tb : WX → TS} {ts : Addr → TS} {Wout : WX}
theorem ps_try_keep (hs : X.stack = X.env :: X.outer) (hf : X.env.frame = some X.env.locals) (hex : X.ex = []) (hN : X.N.Nodup) (hi : X.N[i]? = some n) (hln : X.env.kindOf n = some .local) (hc : Names X x c) (tk : Takes X Wout)
    (hb : ∀ (W : WX) (pn : List (Addr × Obj)) (xe : Value → Shared → Prop), Takes (X.tr pn xe) W → PassesOwn (model X.prog X.w) X.A X.env xe → PSs (X.tr pn xe) body (tb W))
    (hsu : ∀ (a : Addr) (pn : List (Addr × Obj)), PSs (X.suite a pn) (b₀ :: suite) (ts a)) :
    PS X (.Try body [.ExceptHandler (some (.Name x np)) (some n) (b₀ :: suite) pos'] [] [] pos) (fun D σ H => tb (wKeep X.K c i ts Wout D) D σ H) := by
  refine ⟨fun pins s σ H D I h => ?_⟩
  have ok := I.ok
  have fr : X.A.frames = some (X.env :: X.outer) := ok.frames.trans (congrArg some hs)
  refine wpAny_Try_except (wpAny_mono ((hb (wKeep X.K c i ts Wout D) (X.pn ++ pins) (fun e s1 => wpAny (model X.prog X.w) X.A (noteFrame e X.env)
    (fun _ s2 => wpAny (model X.prog X.w) X.A (setFlight e none) (fun _ s3 => wpAny (model X.prog X.w) X.A (handleBy e X.env [.ExceptHandler (some (.Name x np)) (some n) (b₀ :: suite) pos']) (SP X pins D) X.xe s3) X.xe s2) X.xe s1)
    (fun u s1 fly => ?_) PassesOwn.looking).run [] s σ H D (I.toTry _) h) (fun f s1 q => ?_) (fun _ _ z => z))
  · obtain ⟨a, B, s0, pins1, σ1, H1, cls, d, rfl, J0, nb, up, sky, na, os, ag, b, hm, yes, no⟩ := fly
    have J : Inv X pins σ1 H1 s0 := J0.ofTry ok
    have sky1 : Sky B (X.env :: X.outer) a (Zc cls d) X.env.locals s1.heap := hs ▸ sky
    show wpAny (model X.prog X.w) X.A (noteFrame (.ref a) X.env) _ _ _
    refine Sky.land Zc.steady fr hf sky1 fun g3 fly3 up3 => ?_
    have J3 : Inv X pins σ1 H1 { s1 with heap := g3 } := J.landed nb fly3.1 (up.trans up3) os ag
    obtain ⟨o3, f3, e3, z3, d3⟩ := fly3.there
    have away : a ∉ frs (X.env :: X.outer) := fun hmem => by
      obtain ⟨_, o', e', hnf⟩ := fly3.2.2.1.mem hmem
      cases e3.symm.trans e'
      exact hnf _ d3
    have nL : a ≠ X.env.locals := fun z => away (List.mem_filterMap.mpr ⟨X.env, List.mem_cons_self, hf.trans (congrArg some z.symm)⟩)
    have nF : a ∉ X.fs := fun hmem => by
      obtain ⟨e, he, q⟩ := List.mem_filterMap.mp hmem
      exact away (List.mem_filterMap.mpr ⟨e, List.mem_cons_of_mem _ he, q⟩)
    have nB : B.get? a = none := fly3.2.1
    have n0 : X.s_0.heap.get? a = none := by
      cases e : X.s_0.heap.get? a with
      | none => rfl
      | some o =>
        obtain ⟨o', q⟩ := J.base.there a o e (by rw [hex]; exact fun z => nomatch z)
        have q2 := nb a o' q (by rw [hs]; exact away)
        rw [nB] at q2
        cases q2
    have nP : ∀ p ∈ X.pn ++ pins, p.1 ≠ a := fun p hp z => by
      obtain ⟨q, _⟩ := J.pin p hp
      have q2 := nb p.1 p.2 q (by rw [hs, z]; exact away)
      rw [z, nB] at q2
      cases q2
    have S3 := J3.suite e3 d3 na nL nF
    have lt : PySem.W.Looks (model X.prog X.w) g3 (typeOf (.ref a)) cls := fun A Q E s k q => wpAny_typeOf_ref (k _ _ e3) (by rw [z3.1]; exact q)
    have lm := PySem.W.exm_one (M := model X.prog X.w) J3.kIn lt hm
    refine wpAny_handleBy_cons (codeAny_handlers_test ?_) (fun q => nomatch q)
    have named : ∀ {Q E : Value → Shared → Prop}, Q c { s1 with heap := g3 } → wpAny (model X.prog X.w) (X.A.mark (some (.ref a))) (eval (.Name x np) X.env) Q E { s1 with heap := g3 } := fun {Q E} q => by
      rcases hc with ⟨hg, hdb, hm1 | ⟨hm1, hv, hnn⟩⟩
      · exact ld_glob (X := X.suite a ((a, o3) :: (X.pn ++ pins))) S3 hg hm1 q hdb
      · exact ld_blt (X := X.suite a ((a, o3) :: (X.pn ++ pins))) S3 hg hm1 hv q hnn hdb
    refine named (lm.here ?_)
    cases b with
    | true =>
      obtain ⟨C, dd, ec, ed, yes⟩ := yes rfl
      refine codeAny_handlers_suite_as (HandSPX.lands_againZ fly3 fun g4 fly4 up4 => ?_)
      have J4 : Inv X pins σ1 H1 { s1 with heap := g4 } := J.landed nb fly4.1 ((up.trans up3).trans up4) os ag
      obtain ⟨o4, f4, e4, z4, d4⟩ := fly4.there
      refine store_ok (X := X.suite a ((a, o4) :: (X.pn ++ pins))) (v := .ref a) (J4.suite e4 d4 na nL nF) hN hi (.inl hln) rfl (fun s5 S5 => ?_) (.inr hln)
      refine wpAny_mono ((hsu a ((a, o4) :: (X.pn ++ pins))).run [] s5 _ H1 _ S5 (yes a na)) (fun f s6 q6 => ?_) (fun _ _ z => z.elim)
      cases f with
      | next =>
        obtain ⟨σ6, H6, S6, q6⟩ := q6
        refine gone_ok (X := X.suite a ((a, o4) :: (X.pn ++ pins))) (pins := []) S6 hN hi hln fun s7 S7 => ?_
        obtain ⟨e7, n7, _⟩ := S7.pin (a, o4) (List.mem_append_left _ List.mem_cons_self)
        refine ⟨_, _, track (S7.unsuite ok) n0 n7 nL (fun y c' ey z => ?_) nP (xob_ok (C := C) (d := dd) e7 (by rw [← ec, ← ed]; exact z4) d4), q6⟩
        obtain ⟨v, ob, q1, q2⟩ := S7.cell y c' ey
        subst z
        cases e7.symm.trans q1
        cases d4.symm.trans q2
      | brk =>
        obtain ⟨_, _, _, q6⟩ := q6
        exact q6.elim
      | cont =>
        obtain ⟨_, _, _, q6⟩ := q6
        exact q6.elim
      | ret u =>
        obtain ⟨_, _, _, _, _, q6⟩ := q6
        exact q6.elim
    | false =>
      show wpAny _ X.A (handleBy (.ref a) X.env []) _ _ _
      refine wpAny_handleBy_nil ?_
      obtain ⟨k1, k2, k3, ob, fl, T, oT, tl, he, hz, hd, h1, hr⟩ := id fly3
      unfold PySem.passOn
      refine wpAny_bind (wpAny_field he hd h1 ?_)
      rw [if_neg (show ¬ ((Value.ref T == Value.none) = true) from by simp)]
      have fin : wpAny (model X.prog X.w) X.A (setFlight (.ref a) X.env.frame) (fun _ s4 => wpAny (model X.prog X.w) X.A (throw (.ref a) : Sem Flow) (SP X pins D) X.xe s4) X.xe { s1 with heap := g3 } := by
        rw [hf]
        exact HandSPX.setFlight_upZ fly3 fun g4 held4 up4 => wpAny_throw (tk _ _ ⟨a, B, s0, pins, σ1, H1, cls, d, rfl, J, nb, (up.trans up3).trans up4, .inr (.inr (hs ▸ held4)), na, os, ag, no rfl⟩)
      first
        | exact wpAny_bind (wpAny_pure (wpAny_bind fin))
        | exact wpAny_bind fin
  · cases f with
    | next =>
      obtain ⟨σ1, H1, J, q⟩ := q
      exact wpAny_execs_nil ⟨σ1, H1, J.ofTry ok, q⟩
    | brk =>
      obtain ⟨σ1, H1, J, q⟩ := q
      exact ⟨σ1, H1, J.ofTry ok, q⟩
    | cont =>
      obtain ⟨σ1, H1, J, q⟩ := q
      exact ⟨σ1, H1, J.ofTry ok, q⟩
    | ret u =>
      obtain ⟨v, σ1, H1, J, r, q⟩ := q
      exact ⟨v, σ1, H1, J.ofTry ok, r, q⟩
end
/-- what is told of an own exception class -/
structure ExK (K : PySem.W.Frag) (C : Addr) : Prop where
  oex : OexC K C
  xf : XfC K C
  ec : ExcC K C
  nw : PySem.W.findIn K (.ref C) "what" = some none
/-- an exception object, tracked, with its fields -/
def XAt (H : Hp) (a C : Addr) (fs : List (Str × V)) : Prop := ∃ d, H a = some (XOb C d a) ∧ H d = some (.xd fs)
theorem XAt.same {H H' : Hp} {a C : Addr} {fs : List (Str × V)} (h : XAt H a C fs) (e : Same H H') : XAt H' a C fs := by
  obtain ⟨d, h1, h2⟩ := h
  exact ⟨d, e _ _ h1, e _ _ h2⟩
theorem xat_inst {X : Cx} {pins : List (Addr × Obj)} {σ : L2.St} {H : Hp} {s : Shared} {a C : Addr} {fs : List (Str × V)} (I : Inv X pins σ H s) (h : XAt H a C fs) : ∃ (ob od : Obj) (mA : Str → Option Value), PySem.W.InstAt s.heap a ob C (some od) ∧ (∀ name, PySem.W.lookIn name od = some (mA name)) ∧ ∀ f, RelO (fs.lookup f) (mA f) := by
  obtain ⟨d, h1, h2⟩ := h
  obtain ⟨⟨ob, fl, q1, q2, q3⟩, _, _⟩ := (show ObjOk X.prog X.w H s.heap a (XOb C d a) from I.hok a _ h1)
  obtain ⟨mA, hns, hr⟩ := (show ObjOk X.prog X.w H s.heap d (.xd fs) from I.hok d _ h2)
  obtain ⟨od, ho, hl⟩ := lookIn_ns hns
  exact ⟨ob, od, mA, ⟨q1, q2.1, by unfold PySem.W.notCls; rw [q3] <;> rfl, by rw [q2.2]; exact ho⟩, hl, hr⟩
/-- isinstance(e, c), e tracked -/
def rIsX (K : PySem.W.Frag) : List V → Hp → VK → Prop := fun xs H Q => ∃ (a C : Addr) (fs : List (Str × V)) (c : V) (cv : Value) (b : Bool), xs = [.ref a, c] ∧ XAt H a C fs ∧ ExK K C ∧ ClsV c cv ∧ PySem.W.kitOne K (.ref C) cv = some b ∧ Q (.bl b) H
def rIsXT (K : PySem.W.Frag) : List V → Hp → VK → Prop := fun xs H Q => ∃ (a C tp : Addr) (fs : List (Str × V)) (cs : List V) (us : List Value) (b : Bool), xs = [.ref a, .ref tp] ∧ H tp = some (.tup cs) ∧ XAt H a C fs ∧ ExK K C ∧ Paired ClsV cs us ∧ PySem.W.kitAny K (.ref C) us = some b ∧ Q (.bl b) H
theorem kit_x {K : PySem.W.Frag} {a C : Addr} {ob od : Obj} (E : ExK K C) : PySem.W.KitX K (.ref a) (.ref C) (fun h => PySem.W.InstAt h a ob C (some od)) := by
  obtain ⟨cd, hc, _⟩ := PySem.W.any_some E.ec.hd
  exact PySem.W.kitx_exc (by rw [hc]; rfl) E.ec.hg E.ec.hk E.ec.hs E.ec.ha E.ec.hn E.ec.ht E.ec.hm
theorem call_isX {X : Cx} : CallR X (.builtin "isinstance") (rIsX X.K) := by
  intro pins s σ H xs us Q I r h
  obtain ⟨a, C, fs, c, cv, b, rfl, hx, E, k, e, q⟩ := h
  obtain ⟨u1, u2, rfl, r1, r2⟩ := vals2 r
  cases (show u1 = Value.ref a from r1)
  have e2 := k.eq r2
  subst e2
  obtain ⟨ob, od, mA, J, _, _⟩ := xat_inst I hx
  exact PySem.W.kia_one (kit_x E) I.kIn J e (fun z => nomatch z) fun tk => ⟨.bl b, H, I.tok tk, rfl, q⟩
theorem call_isXT {X : Cx} : CallR X (.builtin "isinstance") (rIsXT X.K) := by
  intro pins s σ H xs us Q I r h
  obtain ⟨a, C, tp, fs, cs, ws, b, rfl, hT, hx, E, k, e, q⟩ := h
  obtain ⟨u1, u2, rfl, r1, r2⟩ := vals2 r
  cases (show u1 = Value.ref a from r1)
  cases (show u2 = Value.ref tp from r2)
  obtain ⟨ob, od, mA, J, _, _⟩ := xat_inst I hx
  obtain ⟨_, its, rv, o, h1, h2, n, h3⟩ := (show ObjOk X.prog X.w H s.heap tp (.tup cs) from I.hok tp _ hT)
  have e3 := ClsV.all k rv
  subst e3
  rcases o with ⟨oc, od', dt, sl⟩
  dsimp only at h2 h3
  cases h2
  cases h3
  exact PySem.W.kia_tup (kit_x E) I.kIn J h1 e (fun z => nomatch z) fun tk => ⟨.bl b, H, I.tok tk, rfl, q⟩
/-- e.f, e tracked -/
def tXw (K : PySem.W.Frag) (f : Str) (te : TE) : TE := fun σ H Q => te σ H fun x H1 => ∃ (a C : Addr) (fs : List (Str × V)) (v : V), x = .ref a ∧ XAt H1 a C fs ∧ ExK K C ∧ PySem.W.findIn K (.ref C) f = some none ∧ fs.lookup f = some v ∧ Q v H1
theorem pe_xw {X : Cx} {e : Expr} {te : TE} {pos : Pos} {n : Str} (he : PE X e te) (hb : attributeBase e n X.env (eval e X.env) = eval e X.env := by rfl) : PE X (.Attribute e n pos) (tXw X.K n te) := by
  refine ⟨fun pins s σ H Q I h => attr_of hb (thn (he.run pins s σ H _ I h) fun u s1 hh => ?_)⟩
  obtain ⟨x, H1, I1, rx, a, C, fs, v, ex, hx, E, hno, l, q⟩ := hh
  subst ex
  cases (show u = Value.ref a from rx)
  obtain ⟨ob, od, mA, J, hl, hr⟩ := xat_inst I1 hx
  obtain ⟨u, hu, ru⟩ := RelO.some_of (v := v) (o := mA n) (by rw [← l]; exact hr n)
  exact HandSPX.exc_get I1.kIn J E.xf.ga E.xf.gg E.xf.exC (PySem.W.findObj_own E.xf.hdC hno rfl (by rw [hl, hu])) (handed_of ru) ⟨v, H1, I1.tok _, ru, q⟩
/-! ### methods and classes, what they raise wished for at the caller's slots -/
def tMethS (C : Addr) (m : Str) (sp : Sp) (E : L2.St → XK) (ta : TE) (t : TA) : TE := fun σ H Q => ta σ H fun x H1 => ∃ a dx fs, x = .ref a ∧ H1 a = some (.ins C dx fs) ∧ fs.lookup m = none ∧ t σ H1 fun vs H2 => sp (x :: vs) H2 Q (E σ)
def tMakeS (C : Addr) (sp : Sp) (E : L2.St → XK) (t : TA) : TE := fun σ H Q => t σ H fun vs H1 => ∀ x dx, H1 x = none → H1 dx = none → dx ≠ x → sp (.ref x :: vs) (upd (upd H1 dx (.own x)) x (.ins C dx [])) (fun v H2 => v = .non ∧ Q (.ref x) H2) (E σ)
section
variable {X : Cx} {CX : CXT} {k : Nat} {f C : Addr} {fd : FuncData} {ps : List Str} {sp : Sp} {E : L2.St → XK} {x m : Str} {p pos apos : Pos} {e o : Expr} {es : List Expr} {ta : TE} {t : TA}
theorem pe_methS {pl : Sem Bool} (he : PE X o ta) (c : L2.Cls X.K C) (hm : Meth X.K C m f) (F : FnOk X.prog X.w X.K X.mg X.base CX k f fd ps sp) (hr : Room k X.A) (hb : Binds X.K fd ps []) (hx : ∀ σ, PassesAt CX X σ (E σ)) (ha : PA X (e :: es) t)
    (hst : starEach (e :: es) X.env = (false, eval e X.env) :: starEach es X.env := by rfl) (hpl : (backTo pos (starEach es X.env)).any (·.1) = false := by rfl)
    (ht : eval (.Call (.Attribute o m apos) (e :: es) [] pos) X.env = (do
      let ov ← eval o X.env
      standAt apos.atName
      let (f, first) ← holding [ov] (getMethod ov m pl)
      callWith pos f first (backTo pos (starEach (e :: es) X.env)) (backToKw pos (keywordEach [] X.env))) := by rfl) : PE X (.Call (.Attribute o m apos) (e :: es) [] pos) (tMethS C m sp E ta t) := by
  refine ⟨fun pins s σ H Q I h => PySem.W.methodCall_KW (pl := pl) (thn (he.run pins s σ H _ I h) fun u s1 q1 => ?_) ht⟩
  obtain ⟨y, H1, I1, ry, a, dx, fs, ey, ea, l, q⟩ := q1
  subst ey
  cases (show u = Value.ref a from ry)
  refine getmeth_ok I1 ea c hm l (PySem.W.callWith_K (first := [.ref a]) (h₀ := X.base) I.ok.mod.kin hm.kp (thn (ha.run pos pins s1 σ H1 _ I1 q) fun us s2 q2 => ?_) hst hpl)
  obtain ⟨vs, H2, I2, r, q2⟩ := q2
  exact ⟨I2.kIn, run_fnS (us := .ref a :: us) (vs := .ref a :: vs) F hr hb (hx σ) I2 (.cons rfl r) q2⟩
theorem run_makeS {pins : List (Addr × Obj)} {σ : L2.St} {H : Hp} {s : Shared} {Q : VK} {us : List Value} {vs : List V} (M : Mk X.K C f) (F : FnOk X.prog X.w X.K X.mg X.base CX k f fd ps sp) (hr : Room (k + 1) X.A) (hb : Binds X.K fd ps []) (hx : PassesAt CX X σ (E σ)) (I : Inv X pins σ H s) (r : Vals vs us)
    (h : ∀ y dx, H y = none → H dx = none → dx ≠ y → sp (.ref y :: vs) (upd (upd H dx (.own y)) y (.ins C dx [])) (fun v H2 => v = .non ∧ Q (.ref y) H2) (E σ)) : wpAny (model X.prog X.w) X.A (call (.ref C) us) (EP X pins σ Q) X.xe s := by
  have hq := h (s.heap.objs.size + 1) s.heap.objs.size (I.hok.fresh (Nat.le_succ _)) (I.hok.fresh (Nat.le_refl _)) (Nat.ne_of_lt (Nat.lt_succ_self _))
  have J := Inv.made (C := C) I
  have r2 : Vals (V.ref (s.heap.objs.size + 1) :: vs) (Value.ref (s.heap.objs.size + 1) :: us) := .cons rfl r
  have hl : (Value.ref (s.heap.objs.size + 1) :: us).length = ps.length := r2.length.symm.trans (F.len _ _ _ _ hq)
  have bi := hb _ (Value.ref (s.heap.objs.size + 1) :: us) J.kIn (by rw [List.append_nil]; exact hl)
  rw [List.append_nil] at bi
  refine wpAny_call (make_map (f := f) I.kIn M.makes M.init (beq_iff_eq.mp M.fn) (codeAny_mono (F.run _ X.stack _ _ ⟨_, []⟩ _ _ _ (E σ) (hr.make C us []) (J.env0.make C us []) bi r2 hq) fun rs s1 q1 => ?_))
  cases rs with
  | error er => exact hx pins _ _ er s1 J q1
  | ok fl =>
    cases fl with
    | ret u =>
      obtain ⟨v, H3, I3, rv, ev, q3⟩ := J.after q1
      subst ev
      exact ⟨rv, ⟨V.ref (s.heap.objs.size + 1), H3, I3, rfl, q3⟩⟩
    | next => exact q1.elim
    | brk => exact q1.elim
    | cont => exact q1.elim
theorem pe_makeS (M : Mk X.K C f) (F : FnOk X.prog X.w X.K X.mg X.base CX k f fd ps sp) (hr : Room (k + 1) X.A) (hg : Gl X x) (hm : X.mg x = some (.ref C)) (hb : Binds X.K fd ps []) (hx : ∀ σ, PassesAt CX X σ (E σ)) (ha : PA X (e :: es) t)
    (hdb : (x == ("__debug__" : Str)) = false := by decide) (he : starEach (e :: es) X.env = (false, eval e X.env) :: starEach es X.env := by rfl) (hpl : (backTo pos (starEach es X.env)).any (·.1) = false := by rfl) : PE X (.Call (.Name x p) (e :: es) [] pos) (tMakeS C sp E t) := by
  refine ⟨fun pins s σ H Q I h => wpAny_Call_Name_kw (ld_glob I hg hm (PySem.W.callWith_K (h₀ := X.base) I.ok.mod.kin M.kp (thn (ha.run pos pins s σ H _ I h) fun us s1 q1 => ?_) he hpl) hdb)⟩
  obtain ⟨vs, H1, I1, r, q⟩ := q1
  exact ⟨I1.kIn, run_makeS M F hr hb (hx σ) I1 r q⟩
end
/-! ### xs[i] op= e, xs a list -/
section
open PySem.Spec PyProof.Rows
variable {X : Cx}
theorem get_list : PGet X (rIxL X.K) := by
  intro pins s σ H o i ov iv Q I ro ri h
  obtain ⟨p, xs, k, z, rfl, rfl, hq, he, q⟩ := h
  cases ro
  obtain ⟨t, rfl⟩ := ri
  obtain ⟨its, r, pl, hz⟩ := I.list hq
  obtain ⟨j, h1, h2, h3, h4, h5⟩ := atI_get he
  obtain ⟨w, ew, rw'⟩ := r.get h2
  have hl := r.length
  have hn := line63
  have fin : EP X pins σ Q w s := ⟨z, H, I, rw', q⟩
  by_cases h0 : 0 ≤ k
  · have hj : k.toNat = j := by
      rw [seqIndex_of h0 h5] at h1
      exact Option.some.inj h1
    exact wpAny_getItem_list pl.isList h0 (by omega) (by rw [hj]; simpa using ew) fin
  · have hj : (k + (its.toArray.size : Int)).toNat = j := by
      rw [seqIndex_neg (by omega) h4] at h1
      rw [List.size_toArray, ← hl]
      exact Option.some.inj h1
    exact wpAny_getItem_list_neg pl.isList (by omega) (by rw [List.size_toArray] <;> omega) (by omega) (by rw [hj]; simpa using ew) fin
end
/-! ### the drawing -/
theorem log2_lt60 {t : Int} (h0 : 0 < t) (h : t < 1152921504606846976) : t.natAbs.log2 < 9000 := by
  have h1 : t.natAbs < 2 ^ 60 := by
    have : (2 : Nat) ^ 60 = 1152921504606846976 := by decide
    omega
  exact Nat.lt_trans ((Nat.log2_lt (by omega)).mpr h1) (by decide)
abbrev s__law_take : Stmt := top 27
abbrev N__law_take : List Str := ["_law_box_here", "_law_top", "_law_found", "_law_once"]
abbrev P__law_take : List Str := ["_law_box_here", "_law_top"]
theorem sc__law_take : FnScope N__law_take P__law_take (defScope s__law_take) := ⟨rfl, rfl, rfl, by decide +kernel, rfl, by decide +kernel, by decide +kernel⟩
def spTake : Sp := fun vs H Q _ => ∃ (b : Addr) (top n : Int), vs = [.ref b, .int top] ∧ BoxAt H b n ∧ 0 < top ∧ top < 1152921504606846976 ∧ n < 1048576 ∧ ∀ r H', 0 ≤ r → r < top → Keep b H H' → BoxAt H' b (n + 1) → Q (.int r) H'
section
variable {P : Program} {w : World} {K : PySem.W.Frag} {mg : Str → Option Value} {base : Heap}
theorem ok_take {f : Addr} {fd : FuncData} {k : Nat} (F : Fun K "_law_take" "_law_take" s__law_take f fd) : FnOk P w K mg base CX0 (k + 1) f fd P__law_take spTake := by
  have nd := sc__law_take.nd
  refine F.ok sc__law_take (fun vs H Q E h => ?_) (fun cdv A outer s H vs Q E hr h => ?_)
  · obtain ⟨b, top, n, rfl, _⟩ := h
    rfl
  · obtain ⟨b, top, n, rfl, ⟨x, y, z, hb, hx, hy, hy2, hz, hzn⟩, ht, ht2, hn, q⟩ := h
    refine ⟨_, (pss_cons (ps_if (pt_cmpR op_gt (pe_ix (r := rIxL K) ix_list (pv 0) (pe_int) (fun _ _ => rfl)) (pe_int) (nomark _)) (pss_cons (ps_set (i := 2) nd rfl (Or.inl rfl) (pe_op op_mod (pe_ix (r := rIxL K) ix_list (pv 0) (pe_int) (fun _ _ => rfl)) (pv 1)))
      (pss_cons (ps_asg (pe_op op_fdivW (pe_ix (r := rIxL K) ix_list (pv 0) (pe_int) (fun _ _ => rfl)) (pv 1)) (pg_sub (pv 0) (pe_int) set_list))
      (pss_one (ps_ret (pv 2))))) pss_nil)
      (pss_cons (ps_asg (pe_op op_add (pe_ix (r := rIxL K) ix_list (pv 0) (pe_int) (fun _ _ => rfl)) (pe_int)) (pg_sub (pv 0) (pe_int) set_list))
      (pss_cons (ps_set (i := 3) nd rfl (Or.inl rfl) (pe_op op_mod (pe_op op_pow (pe_op op_add (pe_ix (r := rIxL K) ix_list (pv 0) (pe_int) (fun _ _ => rfl)) (pe_op op_mul (pe_int) (pe_ix (r := rIxL K) ix_list (pv 0) (pe_int) (fun _ _ => rfl)))) (pe_int)) (pe_int)))
      (pss_one (ps_ret (pe_op op_mod (pe_op op_fdivW (pe_op op_mod (pe_op op_add (pe_op op_mul (pv 3) (pe_op op_add (pe_op op_mod (pv 3) (pe_int)) (pe_int))) (pe_op op_mul (pe_ix (r := rIxL K) ix_list (pv 0) (pe_int) (fun _ _ => rfl)) (pe_int))) (pe_int)) (pe_int)) (pv 1))))))), ?_⟩
    have hL : SqL K H b [.int x, .int y, .int z] := SqL.of hb
    have cw : ∀ i : Int, CDivW i top := fun i => ⟨ht, log2_lt60 ht ht2⟩
    have cw6 : ∀ i : Int, CDivW i 64 := fun i => ⟨by decide, by decide⟩
    have cw1 := cw x
    walk_at "ev"
    refine ite2 (fun e => ?_) (fun e => ?_)
    · have e1 : 0 < x := of_decide_eq_true e
      walk_at "ev"
      exact q _ _ (Int.emod_nonneg _ (by omega)) (Int.emod_lt_of_pos _ ht) (keep_upd (Keep.refl _ _)) ⟨_, _, _, upd_same, Int.ediv_nonneg hx (by omega), hy, hy2, hz, by omega⟩
    · walk_at "ev"
      exact q _ _ (Int.emod_nonneg _ (by omega)) (Int.emod_lt_of_pos _ ht) (keep_upd (Keep.refl _ _)) ⟨_, _, _, upd_same, hx, hy, hy2, by omega, by omega⟩
end
abbrev s__law_box : Stmt := top 26
abbrev N__law_box : List Str := ["_law_script", "_law_k", "_law_cell"]
abbrev P__law_box : List Str := ["_law_script", "_law_k"]
theorem sc__law_box : FnScope N__law_box P__law_box (defScope s__law_box) := ⟨rfl, rfl, rfl, by decide +kernel, rfl, by decide +kernel, by decide +kernel⟩
def spBox (K : PySem.W.Frag) : Sp := fun vs H Q _ => ∃ (a : Addr) (ns : List Int) (k : Int), vs = [.ref a, .int k] ∧ SqL K H a (ns.map V.int) ∧ 0 ≤ k ∧ k ≤ 100000 ∧ ∀ p H', H p = none → Same H H' → BoxAt H' p 0 → Q (.ref p) H'
section
variable {P : Program} {w : World} {K : PySem.W.Frag} {mg : Str → Option Value} {base : Heap}
theorem ok_box {f : Addr} {fd : FuncData} {k : Nat} (F : Fun K "_law_box" "_law_box" s__law_box f fd) (T : Blt mg) : FnOk P w K mg base CX0 (k + 1) f fd P__law_box (spBox K) := by
  have nd := sc__law_box.nd
  refine F.ok sc__law_box (fun vs H Q E h => ?_) (fun cdv A outer s H vs Q E hr h => ?_)
  · obtain ⟨b, top, n, rfl, _⟩ := h
    rfl
  · obtain ⟨a, ns, k, rfl, hL, h0, h1, q⟩ := h
    refine ⟨_, (pss_cons (ps_set (i := 2) nd rfl (Or.inl rfl) (pe_int))
      (pss_cons (ps_if (pt_cmpR op_lt (pv 1) (pe_callB (r := rLenQ K) call_len_seq (by rfl) T.b_len (by decide +kernel) (pa_cons (pv 0) pa_nil)) (nomark _)) (pss_one (ps_set (i := 2) nd rfl (Or.inl rfl) (pe_ix (r := rIxL K) ix_list (pv 0) (pv 1) (fun _ _ => rfl)))) pss_nil)
      (pss_one (ps_ret (pe_lst (pa_cons (pe_op op_mul (pe_callB call_abs (by rfl) T.b_abs (by decide +kernel) (pa_cons (pv 2) pa_nil)) (pe_callTy call_int1 (by rfl) T.b_int (by decide +kernel) (pa_cons (pe_cmpR op_ge (pe_callB call_abs (by rfl) T.b_abs (by decide +kernel) (pa_cons (pv 2) pa_nil)) (pe_op op_pow (pe_int) (pe_int)) (nomark _)) pa_nil))) (pa_cons (pe_op op_add (pe_op op_add (pe_op op_mod (pv 2) (pe_int)) (pe_op op_mul (pe_int) (pv 1))) (pe_int)) (pa_cons (pe_int) pa_nil)))))))), ?_⟩
    have fin : ∀ c : Int, ∀ p, H p = none → Q (.ref p) (upd H p (.lst [.int ((if c < 0 then -c else c) * (if decide ((10 : Int) ^ 18 ≤ if c < 0 then -c else c) then 1 else 0)), .int (c % 2147483629 + 7919 * k + 11), .int 0])) := by
      intro c p hp
      refine q p _ hp (same_new hp) ⟨_, _, _, upd_same, ?_, ?_, ?_, by omega, by omega⟩
      · refine Int.mul_nonneg ?_ ?_
        · split <;> omega
        · split <;> omega
      · have := Int.emod_nonneg c (show (2147483629 : Int) ≠ 0 by decide)
        omega
      · have := Int.emod_lt_of_pos c (show (0 : Int) < 2147483629 by decide)
        omega
    walk_at "ev"
    refine ite2 (fun e => ?_) (fun e => ?_)
    · have e1 : k < ((ns.map V.int).length : Int) := of_decide_eq_true e
      rw [List.length_map] at e1
      obtain ⟨c, hc, hat⟩ := at_ints h0 e1
      walk_at "ev"
      exact fin c
    · walk_at "ev"
      exact fin 0
end
/-! ### the mathematics of primes -/
def Rough (n d : Int) : Prop := ∀ e : Int, 2 ≤ e → e < d → ¬ e ∣ n
inductive Fac : Int → List Int → Prop
  | one : Fac 1 []
  | cons {n p q : Int} {ps : List Int} : 2 ≤ p → n = p * q → 1 ≤ q → Rough n p → Fac q ps → Fac n (p :: ps)
theorem Fac.uniq : ∀ {n : Int} {xs ys : List Int}, Fac n xs → Fac n ys → xs = ys := by
  intro n xs ys h
  induction h generalizing ys with
  | one =>
    intro k
    cases k with
    | one => rfl
    | cons h1 h2 h3 h4 h5 =>
      rename_i p q ps
      have : 2 * 1 ≤ p * q := Int.mul_le_mul h1 h3 (by omega) (by omega)
      omega
  | cons h1 h2 h3 h4 h5 ih =>
    rename_i n p q ps
    intro k
    cases k with
    | one =>
      have : 2 * 1 ≤ p * q := Int.mul_le_mul h1 h3 (by omega) (by omega)
      omega
    | cons g1 g2 g3 g4 g5 =>
      rename_i p' q' ps'
      have e : p = p' := by
        rcases Int.lt_trichotomy p p' with l | l | l
        · exact absurd ⟨q, h2⟩ (g4 p h1 l)
        · exact l
        · exact absurd ⟨q', g2⟩ (h4 p' g1 l)
      subst e
      have e2 : q = q' := by
        have : p * q = p * q' := by omega
        exact Int.eq_of_mul_eq_mul_left (by omega) this
      subst e2
      rw [ih g5]
theorem Fac.len1 {n : Int} {xs : List Int} (h : Fac n xs) (e : xs.length = 1) : xs = [n] := by
  cases h with
  | one => simp at e
  | cons h1 h2 h3 h4 h5 =>
    rename_i p q ps
    have : ps = [] := by
      cases ps with
      | nil => rfl
      | cons a r => simp at e
    subst this
    cases h5 with
    | one =>
      rw [h2, Int.mul_one]
theorem Fac.self {n : Int} (h : 2 ≤ n) (r : Rough n n) : Fac n [n] := .cons h (by omega) (by omega) r .one
theorem Rough.of_fac {n : Int} (h : Fac n [n]) : 2 ≤ n ∧ Rough n n := by
  cases h with
  | cons h1 h2 h3 h4 h5 => exact ⟨h1, h4⟩
theorem Rough.step {n d : Int} (h : Rough n d) (e : ¬ d ∣ n) : Rough n (d + 1) := fun c h1 h2 => by
  by_cases q : c = d
  · rw [q]; exact e
  · exact h c h1 (by omega)
theorem Rough.quot {n p q d : Int} (h : Rough n d) (e : n = p * q) : Rough q d := fun c h1 h2 k => h c h1 h2 (by rw [e]; exact Int.dvd_trans k (Int.dvd_mul_left p q))
/-- nothing below d divides n, d squared is above n: n has no divisor at all -/
theorem Rough.top {n d : Int} (h : Rough n d) (hd : 2 ≤ d) (hn : 2 ≤ n) (e : n < d * d) : Rough n n := fun c h1 h2 k => by
  obtain ⟨q, hq⟩ := k
  by_cases hc : c < d
  · exact h c h1 hc ⟨q, hq⟩
  · have hq0 : 0 < q := by
      apply Int.lt_of_not_ge
      intro z
      have : c * q ≤ 0 := Int.mul_nonpos_of_nonneg_of_nonpos (by omega) z
      omega
    have hq1 : q ≠ 1 := by
      intro z
      rw [z] at hq
      omega
    have hqd : q < d := by
      apply Int.lt_of_not_ge
      intro z
      have : d * d ≤ c * q := Int.mul_le_mul (by omega) z (by omega) (by omega)
      omega
    exact h q (by omega) hqd ⟨c, by rw [hq, Int.mul_comm]⟩
theorem dvd_iff {n d : Int} : n % d = 0 ↔ d ∣ n := ⟨Int.dvd_of_emod_eq_zero, Int.emod_eq_zero_of_dvd⟩
/-- a divisor taken out -/
theorem Fac.out {n num d : Int} {found : List Int} (h : ∀ ps, Fac num ps → Fac n (found ++ ps)) (hd : 2 ≤ d) (h1 : 1 ≤ num) (r : Rough num d) (e : num % d = 0) :
    (∀ ps, Fac (num / d) ps → Fac n ((found ++ [d]) ++ ps)) ∧ 1 ≤ num / d ∧ Rough (num / d) d ∧ 2 * (num / d) ≤ num := by
  have e1 : num = d * (num / d) := (Int.mul_ediv_cancel' (Int.dvd_of_emod_eq_zero e)).symm
  generalize num / d = q at *
  have q0 : 0 < q := by
    apply Int.lt_of_not_ge
    intro z
    have : d * q ≤ 0 := Int.mul_nonpos_of_nonneg_of_nonpos (by omega) z
    omega
  refine ⟨fun ps f => ?_, q0, r.quot e1, ?_⟩
  · rw [List.append_assoc]
    exact h _ (.cons hd e1 q0 r f)
  · have : 2 * q ≤ d * q := Int.mul_le_mul_of_nonneg_right hd (by omega)
    omega
theorem pow_len {L : Nat} {num n : Int} (h : 2 ^ L * num.toNat ≤ n.toNat) (h1 : 1 ≤ num) (hn : n ≤ 1000000000) : L ≤ 30 := by
  apply Nat.le_of_not_gt
  intro z
  have a : 2 ^ 31 ≤ 2 ^ L := Nat.pow_le_pow_right (by decide) z
  have b : 2 ^ L * 1 ≤ 2 ^ L * num.toNat := Nat.mul_le_mul_left _ (by omega)
  have h31 : (2 : Nat) ^ 31 = 2147483648 := by decide
  omega
theorem pow_step {L : Nat} {num q n : Int} (h : 2 ^ L * num.toNat ≤ n.toNat) (e : 2 * q ≤ num) : 2 ^ (L + 1) * q.toNat ≤ n.toNat := by
  have : 2 ^ (L + 1) * q.toNat = 2 ^ L * (2 * q.toNat) := by rw [Nat.pow_succ, Nat.mul_assoc]
  rw [this]
  exact Nat.le_trans (Nat.mul_le_mul_left _ (by omega)) h
/-! ### kinds of things -/
inductive Kd (K : PySem.W.Frag) (H : Hp) : V → String → Prop
  | non : Kd K H .non "NoneType"
  | bl (b : Bool) : Kd K H (.bl b) "bool"
  | int (i : Int) : Kd K H (.int i) "int"
  | str (x : Str) : Kd K H (.str x) "str"
  | lst {a : Addr} {xs : List V} : SqL K H a xs → Kd K H (.ref a) "list"
  | tup {a : Addr} {xs : List V} : SqT K H a xs → Kd K H (.ref a) "tuple"
theorem Kd.ty {K : PySem.W.Frag} {H : Hp} {x : V} {t : String} (h : Kd K H x t) : TyX K H x (.type t) := by
  cases h with
  | non => exact .base .non
  | bl b => exact .base (.bl b)
  | int i => exact .base (.int i)
  | str x => exact .base (.str x)
  | lst h =>
    rcases h with (h | ⟨o, h⟩) | ⟨o, its, n, h1, h2, _⟩
    · exact .base (.lst h)
    · exact .base (.frz h)
    · exact .kList h1 h2
  | tup h =>
    rcases h with (h | ⟨o, h⟩) | ⟨o, its, n, h1, h2, _⟩
    · exact .base (.tup h)
    · exact .fTuple h
    · exact .kTuple h1 h2
theorem Kd.same {K : PySem.W.Frag} {H H' : Hp} {x : V} {t : String} (h : Kd K H x t) (e : Same H H') : Kd K H' x t := by
  cases h with
  | non => exact .non
  | bl b => exact .bl b
  | int i => exact .int i
  | str x => exact .str x
  | lst h => exact .lst (e.seq h)
  | tup h => exact .tup (same_t e h)
def tis (t c : String) : Bool := t == c || (t == "bool" && c == "int")
theorem Kd.kit {K : PySem.W.Frag} {H : Hp} {x : V} {t : String} (h : Kd K H x t) : PySem.W.kitOne K (.type t) (.type "int") = some (tis t "int") ∧ PySem.W.kitOne K (.type t) (.type "bool") = some (tis t "bool") ∧ PySem.W.kitOne K (.type t) (.type "str") = some (tis t "str") ∧ PySem.W.kitOne K (.type t) (.type "list") = some (tis t "list") ∧ PySem.W.kitOne K (.type t) (.type "tuple") = some (tis t "tuple") := by
  cases h <;> exact ⟨kit_ty (by decide +kernel), kit_ty (by decide +kernel), kit_ty (by decide +kernel), kit_ty (by decide +kernel), kit_ty (by decide +kernel)⟩
theorem kit_lt {K : PySem.W.Frag} {t : String} {a b : Bool} (h1 : PySem.W.kitOne K (.type t) (.type "list") = some a) (h2 : PySem.W.kitOne K (.type t) (.type "tuple") = some b) : PySem.W.kitAny K (.type t) [.type "list", .type "tuple"] = some (a || b) := by
  refine kitAny_cons h1 (fun e => kitAny_cons h2 (fun e2 => ?_) (fun e2 => ?_)) (fun e => by rw [e]; rfl)
  · rw [e, e2]
    exact kitAny_nil
  · rw [e, e2]
    rfl
/-! ### == of lists of ints -/
theorem dp_ints {K : PySem.W.Frag} {H : Hp} : ∀ ns : List Int, DpAll K H (ns.map V.int) (ns.map PyData.int)
  | [] => .nil
  | n :: r => .cons (.int n) (dp_ints r)
theorem eqv_ints : ∀ ns ms : List Int, PyData.eqvAll (ns.map PyData.int) (ms.map PyData.int) = decide (ns = ms)
  | [], [] => by simp [PyData.eqvAll]
  | [], _ :: _ => by simp [PyData.eqvAll]
  | _ :: _, [] => by simp [PyData.eqvAll]
  | a :: r, b :: t => by
    simp only [List.map_cons, PyData.eqvAll, PyData.eqv, eqv_ints r t]
    by_cases h : a = b <;> by_cases h' : r = t <;> simp [h, h']
theorem eqd_ints {K : PySem.W.Frag} {H : Hp} {a b : Addr} {ns ms : List Int} {Q : VK} (ha : SqL K H a (ns.map V.int)) (hb : SqL K H b (ms.map V.int)) (q : Q (.bl (decide (ns = ms))) H) : rEqD K (.ref a) (.ref b) H Q := by
  refine ⟨_, _, .lst ha (dp_ints ns), .lst hb (dp_ints ms), PySem.W.ke_shaped_ints ns, PySem.W.ke_shaped_ints ms, ?_⟩
  have e : PyData.eqv (.list (ns.map PyData.int)) (.list (ms.map PyData.int)) = decide (ns = ms) := by
    rw [PyData.eqv]
    exact eqv_ints ns ms
  rw [e]
  exact q
abbrev s_factors : Stmt := top 6
abbrev N_factors : List Str := ["number", "found", "divisor"]
abbrev P_factors : List Str := ["number"]
theorem sc_factors : FnScope N_factors P_factors (defScope s_factors) := ⟨rfl, rfl, rfl, by decide +kernel, rfl, by decide +kernel, by decide +kernel⟩
def spFactors : Sp := fun vs H Q _ => ∃ (n : Int), vs = [.int n] ∧ 1 ≤ n ∧ n ≤ 1000000000 ∧ ∀ xs p H', Fac n xs → H p = none → Same H H' → H' p = some (.lst (xs.map V.int)) → Q (.ref p) H'
section
variable {P : Program} {w : World} {K : PySem.W.Frag} {mg : Str → Option Value} {base : Heap}
theorem ok_factors {f : Addr} {fd : FuncData} {k : Nat} (F : Fun K "factors" "factors" s_factors f fd) : FnOk P w K mg base CX0 (k + 1) f fd P_factors spFactors := by
  have nd := sc_factors.nd
  refine F.ok sc_factors (fun vs H Q E h => ?_) (fun cdv A outer s H vs Q E hr h => ?_)
  · obtain ⟨n, rfl, _⟩ := h
    rfl
  · obtain ⟨n, rfl, hn1, hn2, q⟩ := h
    refine ⟨_, (pss_cons (ps_set (i := 1) nd rfl (Or.inl rfl) (pe_lst pa_nil))
      (pss_cons (ps_set (i := 2) nd rfl (Or.inl rfl) (pe_int))
      (pss_cons (ps_while PassesOwn.never (pt_cmpR op_le (pe_op op_mul (pv 2) (pv 2)) (pv 0) (nomark _))
      (pss_one (ps_if (pt_cmpR op_eq (pe_op op_mod (pv 0) (pv 2)) (pe_int) (nomark _)) (pss_cons (ps_expr (pe_bm PySem.F.plainAttrs_list PySem.F.slot_list_append PySem.F.type_list_append mt_append (pv 1) (pa_cons (pv 2) pa_nil)))
      (pss_one (ps_aug (i := 0) nd rfl (Or.inl rfl) (pv 2) iop_fdivW))) (pss_one (ps_aug (i := 2) nd rfl (Or.inl rfl) (pe_int) ip_add)))))
      (pss_cons (ps_if (pt_cmpR op_gt (pv 0) (pe_int) (nomark _)) (pss_one (ps_expr (pe_bm PySem.F.plainAttrs_list PySem.F.slot_list_append PySem.F.type_list_append mt_append (pv 1) (pa_cons (pv 0) pa_nil)))) pss_nil)
      (pss_one (ps_ret (pv 1))))))), ?_⟩
    walk_at "ev"
    intro p hp
    generalize hG : upd _ p _ = H1
    obtain ⟨sm, hp1⟩ := newO hG hp
    refine ⟨fun m σ H' => ∃ (num d : Int) (found : List Int), σ = [some (.int num), some (.ref p), some (.int d)] ∧ m = (num - d).toNat + num.toNat ∧ 1 ≤ num ∧ num ≤ n ∧ 2 ≤ d ∧ d ≤ n + 2 ∧ 2 ^ found.length * num.toNat ≤ n.toNat ∧ Rough num d ∧ (∀ ps, Fac num ps → Fac n (found ++ ps)) ∧ Same H H' ∧ H' p = some (.lst (found.map V.int)), ⟨_, n, 2, [], rfl, rfl, hn1, by omega, by omega, by omega, by simp, fun e h1 h2 => by omega, fun ps f => f, sm, hp1⟩, ?_⟩
    rintro m σ H' ⟨num, d, found, rfl, rfl, h1, h2, h3, h4, h5, hr', hf, sm', hp'⟩
    have hL := pow_len h5 h1 hn2
    have cm : CMul d d := .inl ⟨by omega, by omega⟩
    walk_at "ev"
    refine ite2 (fun e => ?_) (fun e => ?_)
    · have e1 : d * d ≤ num := of_decide_eq_true e
      refine ⟨_, holdN, ?_⟩
      walk_at "ev"
      refine ite2 (fun e2 => ?_) (fun e2 => ?_)
      · have e3 : num % d = 0 := V.int.inj (of_decide_eq_true e2)
        obtain ⟨o1, o2, o3, o4⟩ := Fac.out hf h3 h1 hr' e3
        walk_at "ev"
        refine .mk ⟨(num / d - d).toNat + (num / d).toNat, by omega, num / d, d, found ++ [d], rfl, rfl, o2, by omega, h3, h4, ?_, o3, o1, same_mut sm' hp, by rw [upd_same, List.map_append]; rfl⟩
        rw [List.length_append]
        exact pow_step h5 o4
      · have e3 : ¬ num % d = 0 := fun z => e2 (decide_eq_true (congrArg V.int z))
        have e4 : 2 * d ≤ d * d := Int.mul_le_mul_of_nonneg_right h3 (by omega)
        walk_at "ev"
        exact .mk ⟨(num - (d + 1)).toNat + num.toNat, by omega, num, d + 1, found, rfl, rfl, h1, h2, by omega, by omega, h5, hr'.step (fun z => e3 (dvd_iff.mpr z)), hf, sm', hp'⟩
    · have e1 : ¬ d * d ≤ num := fun z => e (decide_eq_true z)
      walk_at "ev"
      refine ite2 (fun e2 => ?_) (fun e2 => ?_)
      · have e3 : 1 < num := of_decide_eq_true e2
        walk_at "ev"
        refine q (found ++ [num]) _ _ (hf _ (Fac.self (by omega) (hr'.top h3 (by omega) (by omega)))) hp (same_mut sm' hp) (by rw [upd_same, List.map_append]; rfl)
      · have e3 : ¬ 1 < num := fun z => e2 (decide_eq_true z)
        have e4 : num = 1 := by omega
        walk_at "ev"
        subst e4
        have fin := hf [] .one
        rw [List.append_nil] at fin
        exact q found _ _ fin hp sm' hp'
end
/-! ### the law's own comparing, of like things -/
def Fit : Nat → PyData → Prop
  | 0, .list _ => False
  | 0, .tuple _ => False
  | n + 1, .list ds => ds.length ≤ 4000 ∧ ∀ e ∈ ds, Fit n e
  | n + 1, .tuple ds => ds.length ≤ 4000 ∧ ∀ e ∈ ds, Fit n e
  | _, .dict _ => False
  | _, _ => True
theorem dpall_len {K : PySem.W.Frag} {H : Hp} : ∀ {xs : List V} {ds : List PyData}, DpAll K H xs ds → xs.length = ds.length
  | _, _, .nil => rfl
  | _, _, .cons _ h => by rw [List.length_cons, List.length_cons, dpall_len h]
theorem dpall_get {K : PySem.W.Frag} {H : Hp} : ∀ {xs : List V} {ds : List PyData} {i : Nat} {x : V}, DpAll K H xs ds → xs[i]? = some x → ∃ d, ds[i]? = some d ∧ Dp K H x d
  | _, _, _, _, .nil, h => by simp at h
  | _, _, 0, _, .cons (d := d) h1 h2, h => ⟨d, rfl, by
      have e := Option.some.inj h
      rw [← e]
      exact h1⟩
  | _, _, i + 1, _, .cons h1 h2, h => dpall_get (i := i) h2 h
mutual
theorem dp_same {K : PySem.W.Frag} {H H' : Hp} (e : Same H H') : ∀ {x : V} {d : PyData}, Dp K H x d → Dp K H' x d
  | _, _, .non => .non
  | _, _, .bl b => .bl b
  | _, _, .int i => .int i
  | _, _, .str x => .str x
  | _, _, .lst h a => .lst (e.seq h) (dpall_same e a)
  | _, _, .tup h a => .tup (same_t e h) (dpall_same e a)
theorem dpall_same {K : PySem.W.Frag} {H H' : Hp} (e : Same H H') : ∀ {xs : List V} {ds : List PyData}, DpAll K H xs ds → DpAll K H' xs ds
  | _, _, .nil => .nil
  | _, _, .cons h a => .cons (dp_same e h) (dpall_same e a)
end
def spSame (K : PySem.W.Frag) (n : Nat) : Sp := fun vs H Q _ => ∃ (x y : V) (d : PyData), vs = [x, y] ∧ Dp K H x d ∧ Dp K H y d ∧ Fit n d ∧ ∀ H', Same H H' → Q (.bl true) H'
/-- a comprehension over pairs -/
theorem lc_pairs {J : It} {xs ys : List V} {g : TG} {tt : TT} {te : TE} {vs : List Nat} {σ : L2.St} {H1 : Hp} {D : Addr} {Qd : Hp → Prop} (Pv : Nat → Hp → Prop) (h0 : Pv 0 (upd H1 D (.lst [])))
    (hgo : ∀ i H, Pv i H → i < xs.length → J.go i H) (hy : ∀ i H v H', Pv i H → i < xs.length → J.yld i H v H' → ∃ T x y, v = .ref T ∧ H T = none ∧ H' = upd H T (.tup [x, y]) ∧ xs[i]? = some x ∧ ys[i]? = some y)
    (hst : ∀ H, Pv xs.length H → J.stop xs.length H)
    (hs : ∀ i x y T H H', xs[i]? = some x → ys[i]? = some y → Pv i H → H T = none → H' = upd H T (.tup [x, y]) → g (.ref T) (wipe σ vs) H' fun σ2 H2 => wipe σ2 vs = wipe σ vs ∧ tt σ2 H2 fun b H3 =>
      if b = true then te σ2 H3 fun y H4 => ∃ acc, H4 D = some (.lst acc) ∧ acc.length < sizeLine ∧ Pv (i + 1) (upd H4 D (.lst (acc ++ [y]))) else Pv (i + 1) H3) (hd : ∀ H, Pv xs.length H → Qd H) :
    ∃ W : Nat → Nat → Hp → Prop, (∃ m, W 0 m (upd H1 D (.lst []))) ∧ ∀ i m H, W i m H →
      (J.stop i H ∧ Qd H) ∨ (J.go i H ∧ ∃ Nx : Hp → Prop, (∀ H', Nx H' → ∃ m', m' < m ∧ W (i + 1) m' H') ∧ ∀ x H', J.yld i H x H' → g x (wipe σ vs) H' fun σ2 H2 => wipe σ2 vs = wipe σ vs ∧ tt σ2 H2 fun b H3 =>
        if b = true then te σ2 H3 fun y H4 => ∃ acc, H4 D = some (.lst acc) ∧ acc.length < sizeLine ∧ Nx (upd H4 D (.lst (acc ++ [y]))) else Nx H3) := by
  refine ⟨fun i m H => m = xs.length - i ∧ i ≤ xs.length ∧ Pv i H, ⟨xs.length, by simp, Nat.zero_le _, h0⟩, ?_⟩
  rintro i m H ⟨rfl, hi, p⟩
  by_cases hlt : i < xs.length
  · refine .inr ⟨hgo i H p hlt, Pv (i + 1), fun H' p' => ⟨xs.length - (i + 1), by omega, rfl, hlt, p'⟩, fun v H' yl => ?_⟩
    obtain ⟨T, x, y, rfl, hT, e, f1, f2⟩ := hy i H v H' p hlt yl
    exact hs i x y T H H' f1 f2 p hT e
  · have e : i = xs.length := by omega
    subst e
    exact .inl ⟨hst H p, hd H p⟩
theorem q_dec {Q : VK} {x : V} {H : Hp} (h : Q (.bl true) H) : Q (.bl (decide (x = x))) H := by
  rw [decide_eq_true rfl]
  exact h
theorem all_true : ∀ n : Nat, (List.replicate n true).all id = true
  | 0 => rfl
  | n + 1 => by
    rw [List.replicate_succ, List.all_cons, all_true n]
    rfl
theorem srt_ext : ∀ {l m : List Int}, l.Pairwise (· < ·) → m.Pairwise (· < ·) → (∀ k, k ∈ l ↔ k ∈ m) → l = m
  | [], [], _, _, _ => rfl
  | [], y :: m, _, _, h => by
    have := (h y).mpr List.mem_cons_self
    simp at this
  | x :: l, [], _, _, h => by
    have := (h x).mp List.mem_cons_self
    simp at this
  | x :: l, y :: m, hl, hm, h => by
    obtain ⟨hx, hl'⟩ := List.pairwise_cons.mp hl
    obtain ⟨hy, hm'⟩ := List.pairwise_cons.mp hm
    have e : x = y := by
      have a1 := (h x).mp List.mem_cons_self
      have a2 := (h y).mpr List.mem_cons_self
      rcases List.mem_cons.mp a1 with e | e
      · exact e
      · rcases List.mem_cons.mp a2 with e2 | e2
        · exact e2.symm
        · have := hy x e
          have := hx y e2
          omega
    subst e
    rw [srt_ext hl' hm' fun k => ?_]
    constructor
    · intro hk
      rcases List.mem_cons.mp ((h k).mp (List.mem_cons_of_mem _ hk)) with e | e
      · have := hx k hk
        omega
      · exact e
    · intro hk
      rcases List.mem_cons.mp ((h k).mpr (List.mem_cons_of_mem _ hk)) with e | e
      · have := hy k hk
        omega
      · exact e
theorem Fac.len {n : Int} {xs : List Int} (h : Fac n xs) (hn : n ≤ 1000000000) : xs.length ≤ 30 := by
  have key : ∀ {n : Int} {xs : List Int}, Fac n xs → 2 ^ xs.length * 1 ≤ n.toNat ∧ 1 ≤ n := by
    intro n xs h
    induction h with
    | one => exact ⟨by decide, by decide⟩
    | cons h1 h2 h3 h4 h5 ih =>
      rename_i n p q ps
      obtain ⟨i1, i2⟩ := ih
      have : 2 * q ≤ p * q := Int.mul_le_mul_of_nonneg_right h1 (by omega)
      refine ⟨?_, by omega⟩
      rw [List.length_cons, Nat.pow_succ]
      omega
  obtain ⟨k1, k2⟩ := key h
  exact pow_len (num := 1) (n := n) (by simpa using k1) (by decide) hn
theorem Fac.pos {n : Int} {xs : List Int} (h : Fac n xs) : 1 ≤ n := by
  induction h with
  | one => decide
  | cons h1 h2 h3 h4 h5 ih =>
    rename_i n p q ps
    have : 1 * 1 ≤ p * q := Int.mul_le_mul (by omega) ih (by omega) (by omega)
    omega
theorem Fac.le {n : Int} {xs : List Int} (h : Fac n xs) : ∀ q ∈ xs, q ≤ n := by
  induction h with
  | one => intro q hq; simp at hq
  | cons h1 h2 h3 h4 h5 ih =>
    rename_i n p q ps
    intro x hx
    rcases List.mem_cons.mp hx with e | e
    · rw [e]
      have : p * 1 ≤ p * q := Int.mul_le_mul_of_nonneg_left h3 (by omega)
      omega
    · have := ih x e
      have : 1 * q ≤ p * q := Int.mul_le_mul_of_nonneg_right (by omega) (by omega)
      omega
theorem Fac.primes {n : Int} {xs : List Int} (h : Fac n xs) : ∀ q ∈ xs, 2 ≤ q ∧ Rough q q := by
  induction h with
  | one => intro q hq; simp at hq
  | cons h1 h2 h3 h4 h5 ih =>
    rename_i n p q ps
    intro x hx
    rcases List.mem_cons.mp hx with e | e
    · rw [e]
      exact ⟨h1, fun c c1 c2 c3 => h4 c c1 c2 (Int.dvd_trans c3 ⟨q, h2⟩)⟩
    · exact ih x e
/-! ### a list or a tuple -/
section
open PySem.Spec PyProof.Rows
variable {X : Cx}
def rIxQ (K : PySem.W.Frag) : R2 := fun x y H Q => ∃ p xs i v, x = .ref p ∧ y = .int i ∧ (SqL K H p xs ∨ SqT K H p xs) ∧ atI xs i = some v ∧ Q v H
theorem ix_seq : IxR X (rIxQ X.K) := by
  intro value slice pins s σ H x y v u Q I rx ry h hs
  obtain ⟨p, xs, i, z, e1, e2, hq | hq, he, q⟩ := h
  · exact ix_list value slice pins s σ H x y v u Q I rx ry ⟨p, xs, i, z, e1, e2, hq, he, q⟩ hs
  · exact ix_tup value slice pins s σ H x y v u Q I rx ry ⟨p, xs, i, z, e1, e2, hq, he, q⟩ hs
end
theorem sq_same {K : PySem.W.Frag} {H H' : Hp} {a : Addr} {xs : List V} (e : Same H H') (h : SqL K H a xs ∨ SqT K H a xs) : SqL K H' a xs ∨ SqT K H' a xs := by
  rcases h with h | h
  · exact .inl (e.seq h)
  · exact .inr (same_t e h)
/-! ### the refusals' own making -/
abbrev s_init : Stmt := inClass (top 1) 0
abbrev N_init : List Str := ["self", "what"]
theorem sc_init : FnScope N_init N_init (defScope s_init) := ⟨rfl, rfl, rfl, by decide +kernel, rfl, by decide +kernel, by decide +kernel⟩
def spInit (K : PySem.W.Frag) : Sp := fun vs H Q _ => ∃ (a C : Addr) (v : V), vs = [.ref a, v] ∧ OexC K C ∧ PySem.W.findIn K (.ref C) "what" = some none ∧ H a = some (exo a C none) ∧
  ∀ dx, H dx = none → dx ≠ a → Q .non (upd (upd H dx (exd dx [(("what" : Str), v)])) a (exo a C (some dx)))
section
variable {P : Program} {w : World} {K : PySem.W.Frag} {mg : Str → Option Value} {base : Heap}
theorem ok_init {f : Addr} {fd : FuncData} {k : Nat} (F : Fun K "__init__" "TurnError.__init__" s_init f fd) : FnOk P w K mg base CX0 (k + 1) f fd N_init (spInit K) := by
  refine F.ok sc_init (fun vs H Q E h => ?_) (fun cdv A outer s H vs Q E hr h => ?_)
  · obtain ⟨a, C, v, rfl, _⟩ := h
    rfl
  · obtain ⟨a, C, v, rfl, T, nw, ha, q⟩ := h
    refine ⟨_, pss_one (ps_ost (pv 0) (pv 1)), ?_⟩
    exact ⟨_, rfl, _, rfl, a, C, rfl, T, nw, .inl ⟨ha, q⟩⟩
end
/-- C(v), made to be raised -/
theorem mk_what {K : PySem.W.Frag} {C : Addr} {v : V} {Q : XK} {H1 : Hp} (E : ExK K C) (h : ∀ d H', H1 d = none → Same H1 H' → H' d = some (.xd [(("what" : Str), v)]) → Q (.ref C) (some d) H') : ∀ a, H1 a = none → spInit K (.ref a :: ([v] ++ [])) (upd H1 a (exo a C none))
    (fun v' H2 => v' = .non ∧ ∃ (d : Addr) (fs : List (Str × V)), H2 a = some (exo a C (some d)) ∧ H2 d = some (exd d fs) ∧ H1 d = none ∧ Q (.ref C) (some d) (upd (del H2 a) d (.xd fs))) (fun _ _ _ => False) := by
  intro a ha
  refine ⟨a, C, v, rfl, E.oex, E.nw, upd_same, fun dx hd ne => ?_⟩
  rw [upd_ne ne] at hd
  refine ⟨rfl, dx, _, upd_same, ?_, hd, h dx _ hd (fun b o e => ?_) upd_same⟩
  · rw [upd_ne ne, upd_same]
  · have n1 := ne_of_none e hd
    have n2 := ne_of_none e ha
    rw [upd_ne n1, del_ne n2, upd_ne n2, upd_ne n1, upd_ne n2]
    exact e
/-- what is told of the class of a refusal, under TurnError at CT -/
structure Ref (K : PySem.W.Frag) (CT C fI : Addr) : Prop where
  ek : ExK K C
  ini : PySem.W.findIn K (.ref C) "__init__" = some (some (.ref fI))
  em : PySem.W.exmOne K (.ref C) (.ref CT) = some true
  kv : PySem.W.kitOne K (.ref C) (.type "ValueError") = some true
  kt : PySem.W.kitOne K (.ref C) (.ref CT) = some true
/-! ### divisors in common -/
theorem gcd_step {a b : Int} (ha : 0 ≤ a) (hb : 0 ≤ b) : Int.gcd b (a % b) = Int.gcd a b := by
  obtain ⟨m, rfl⟩ := Int.eq_ofNat_of_zero_le ha
  obtain ⟨n, rfl⟩ := Int.eq_ofNat_of_zero_le hb
  have e : ((m : Int) % (n : Int)).natAbs = m % n := by rw [← Int.natCast_emod]; rfl
  show Nat.gcd n ((m : Int) % (n : Int)).natAbs = Nat.gcd m n
  rw [e, Nat.gcd_comm n, ← Nat.gcd_rec, Nat.gcd_comm]
theorem emod_half {a b : Int} (hb : 0 < b) (h : b ≤ a) : 2 * (a % b) ≤ a := by
  have h1 := Int.emod_lt_of_pos a hb
  have h2 : a % b + b * (a / b) = a := Int.emod_add_mul_ediv a b
  have h3 : 1 ≤ a / b := (Int.le_ediv_iff_mul_le hb).mpr (by omega)
  have h4 : b * 1 ≤ b * (a / b) := Int.mul_le_mul_of_nonneg_left h3 (by omega)
  omega
/-- a product has the rest 1: no divisor in common -/
theorem gcd_of_inv {n x m : Int} (h : n * x % m = 1) : Int.gcd n m = 1 := by
  have h1 : ((Int.gcd n m : Nat) : Int) ∣ n * x := Int.dvd_mul_of_dvd_left (Int.gcd_dvd_left n m)
  have h2 : ((Int.gcd n m : Nat) : Int) ∣ m * (n * x / m) := Int.dvd_mul_of_dvd_left (Int.gcd_dvd_right n m)
  have h3 : n * x % m + m * (n * x / m) = n * x := Int.emod_add_mul_ediv _ _
  have h4 : ((Int.gcd n m : Nat) : Int) ∣ 1 := by
    have : (1 : Int) = n * x - m * (n * x / m) := by omega
    rw [this]
    exact Int.dvd_sub h1 h2
  have h5 := Int.le_of_dvd (by decide) h4
  have h6 : Int.gcd n m ≠ 0 := by
    intro z
    rw [z] at h4
    exact absurd (Int.zero_dvd.mp h4) (by decide)
  omega
abbrev s_is_whole : Stmt := top 4
abbrev N_is_whole : List Str := ["thing"]
abbrev P_is_whole : List Str := ["thing"]
theorem sc_is_whole : FnScope N_is_whole P_is_whole (defScope s_is_whole) := ⟨rfl, rfl, rfl, by decide +kernel, rfl, by decide +kernel, by decide +kernel⟩
def spWhole (K : PySem.W.Frag) : Sp := fun vs H Q _ => ∃ (x : V) (t : String), vs = [x] ∧ Kd K H x t ∧ Q (.bl (t == "int")) H
section
variable {P : Program} {w : World} {K : PySem.W.Frag} {mg : Str → Option Value} {base : Heap}
theorem ok_whole {f : Addr} {fd : FuncData} {k : Nat} (F : Fun K "is_whole" "is_whole" s_is_whole f fd) (T : Blt mg) : FnOk P w K mg base CX0 (k + 1) f fd P_is_whole (spWhole K) := by
  have nd := sc_is_whole.nd
  refine F.ok sc_is_whole (fun vs H Q E h => ?_) (fun cdv A outer s H vs Q E hr h => ?_)
  · obtain ⟨x, t, rfl, _⟩ := h
    rfl
  · obtain ⟨x, t, rfl, kd, q⟩ := h
    refine ⟨_, (pss_one (ps_ret (pe_and (pe_callB (r := rIsi K) call_isi (by rfl) T.b_isinstance (by decide +kernel) (pa_cons (pv 0) (pa_cons (pe_bltn (v := .ty "int") (by rfl) T.b_int (by decide +kernel) rfl) pa_nil))) (pe_one (pe_not (pe_callB (r := rIsi K) call_isi (by rfl) T.b_isinstance (by decide +kernel) (pa_cons (pv 0) (pa_cons (pe_bltn (v := .ty "bool") (by rfl) T.b_bool (by decide +kernel) rfl) pa_nil)))))))), ?_⟩
    have ty := kd.ty
    obtain ⟨k1, k2, k3, k4, k5⟩ := kd.kit
    walk_at "ev"
    cases kd
    all_goals (walk_at "ev"; exact q)
end
abbrev s_is_prime : Stmt := top 5
abbrev N_is_prime : List Str := ["thing"]
abbrev P_is_prime : List Str := ["thing"]
theorem sc_is_prime : FnScope N_is_prime P_is_prime (defScope s_is_prime) := ⟨rfl, rfl, rfl, by decide +kernel, rfl, by decide +kernel, by decide +kernel⟩
def spPrime (K : PySem.W.Frag) : Sp := fun vs H Q _ => ∃ (x : V) (t : String), vs = [x] ∧ Kd K H x t ∧ (∀ n, x = .int n → n ≤ 1000000000) ∧ ∀ b H', Same H H' → (b = true ↔ ∃ n, x = .int n ∧ Fac n [n]) → Q (.bl b) H'
section
variable {P : Program} {w : World} {K : PySem.W.Frag} {mg : Str → Option Value} {base : Heap}
theorem ok_prime {f fW fF : Addr} {fd fdW fdF : FuncData} {k : Nat} (F : Fun K "is_prime" "is_prime" s_is_prime f fd) (T : Blt mg) (D_is_whole : Df K mg "is_whole" s_is_whole P_is_whole fW fdW) (D_factors : Df K mg "factors" s_factors P_factors fF fdF) : FnOk P w K mg base CX0 (k + 2) f fd P_is_prime (spPrime K) := by
  have G_is_whole : FnOk P w K mg base CX0 (k + 1) fW fdW P_is_whole (spWhole K) := ok_whole D_is_whole.F T
  have G_factors : FnOk P w K mg base CX0 (k + 1) fF fdF P_factors spFactors := ok_factors D_factors.F
  have nd := sc_is_prime.nd
  refine F.ok sc_is_prime (fun vs H Q E h => ?_) (fun cdv A outer s H vs Q E hr h => ?_)
  · obtain ⟨x, t, rfl, _⟩ := h
    rfl
  · obtain ⟨x, t, rfl, kd, hb, q⟩ := h
    refine ⟨_, (pss_one (ps_ret (pe_and (pe_call G_is_whole (hr.mono (by omega)) (by rfl) D_is_whole.g D_is_whole.F.kp D_is_whole.b .nil pass0 (pa_cons (pv 0) pa_nil)) (pe_and (pe_cmpR op_gt (pv 0) (pe_int) (nomark _)) (pe_one (pe_cmpR (r := rEqD K) (op_eqD hr.units) (pe_call G_factors (hr.mono (by omega)) (by rfl) D_factors.g D_factors.F.kp D_factors.b .nil pass0 (pa_cons (pv 0) pa_nil)) (pe_lst (pa_cons (pv 0) pa_nil)) (nomark _))))))), ?_⟩
    walk_at "ev"
    cases kd with
    | int n =>
      have hn := hb n rfl
      walk_at "ev"
      refine ite2 (fun e => ?_) (fun e => ?_)
      · have e1 : 1 < n := of_decide_eq_true e
        walk_at "ev"
        intro xs p H' hf hp sm hp'
        walk_at "ev"
        intro p2 hp2
        generalize hG : upd _ p2 _ = H2
        obtain ⟨sm2, hp3⟩ := newO hG hp2
        refine eqd_ints (ns := xs) (ms := [n]) (SqL.of (sm2 _ _ hp')) (SqL.of hp3) ?_
        refine q _ _ (sm.trans sm2) ?_
        rw [decide_eq_true_iff]
        constructor
        · intro z
          exact ⟨n, rfl, z ▸ hf⟩
        · rintro ⟨m, z, hm⟩
          cases z
          exact hf.uniq hm
      · have e1 : ¬ 1 < n := fun z => e (decide_eq_true z)
        refine q _ _ (Same.refl _) ⟨fun z => Bool.noConfusion z, ?_⟩
        rintro ⟨m, z, hm⟩
        cases z
        have := (Rough.of_fac hm).1
        omega
    | _ =>
      walk_at "ev"
      refine q _ _ (Same.refl _) ⟨fun z => Bool.noConfusion z, ?_⟩
      rintro ⟨m, z, hm⟩
      cases z
end
abbrev s__law_pick : Stmt := top 28
abbrev N__law_pick : List Str := ["_law_box_here", "_law_things"]
abbrev P__law_pick : List Str := ["_law_box_here", "_law_things"]
theorem sc__law_pick : FnScope N__law_pick P__law_pick (defScope s__law_pick) := ⟨rfl, rfl, rfl, by decide +kernel, rfl, by decide +kernel, by decide +kernel⟩
def spPick (K : PySem.W.Frag) : Sp := fun vs H Q _ => ∃ (b a : Addr) (xs : List V) (n : Int), vs = [.ref b, .ref a] ∧ BoxAt H b n ∧ SqL K H a xs ∧ a ≠ b ∧ 0 < (xs.length : Int) ∧ (xs.length : Int) < 1048576 ∧ n < 1048576 ∧ ∀ v H', v ∈ xs → Keep b H H' → BoxAt H' b (n + 1) → Q v H'
section
variable {P : Program} {w : World} {K : PySem.W.Frag} {mg : Str → Option Value} {base : Heap}
theorem ok_pick {f fT : Addr} {fd fdT : FuncData} {k : Nat} (F : Fun K "_law_pick" "_law_pick" s__law_pick f fd) (T : Blt mg) (D__law_take : Df K mg "_law_take" s__law_take P__law_take fT fdT) : FnOk P w K mg base CX0 (k + 2) f fd P__law_pick (spPick K) := by
  have G__law_take : FnOk P w K mg base CX0 (k + 1) fT fdT P__law_take spTake := ok_take D__law_take.F
  have nd := sc__law_pick.nd
  refine F.ok sc__law_pick (fun vs H Q E h => ?_) (fun cdv A outer s H vs Q E hr h => ?_)
  · obtain ⟨b, a, xs, n, rfl, _⟩ := h
    rfl
  · obtain ⟨b, a, xs, n, rfl, hb, hL, hne, h0, h1, hn, q⟩ := h
    refine ⟨_, (pss_one (ps_ret (pe_ix (r := rIxL K) ix_list (pv 1) (pe_call G__law_take (hr.mono (by omega)) (by rfl) D__law_take.g D__law_take.F.kp D__law_take.b .nil pass0 (pa_cons (pv 0) (pa_cons (pe_callB (r := rLenQ K) call_len_seq (by rfl) T.b_len (by decide +kernel) (pa_cons (pv 1) pa_nil)) pa_nil))) (fun _ _ => rfl)))), ?_⟩
    walk_at "ev"
    intro r H' hr0 hr1 hk hb'
    obtain ⟨v, hv, hat⟩ := at_some hr0 hr1
    have hL' := hk.seq hne hL
    walk_at "ev"
    exact q _ _ hv hk hb'
end
theorem keep_fresh {b D : Addr} {H H' : Hp} {o : HO} (h : Keep b H H') (n : H D = none) : Keep b H (upd H' D o) := fun a u na e => by
  rw [upd_ne (ne_of_none e n)]
  exact h a u na e
theorem BoxAt.upd {H : Hp} {b D : Addr} {n : Int} {o : HO} (h : BoxAt H b n) (e : D ≠ b) : BoxAt (L2.upd H D o) b n := by
  obtain ⟨x, y, z, a1, a2⟩ := h
  exact ⟨x, y, z, by rw [upd_ne e.symm]; exact a1, a2⟩
theorem dpl {K : PySem.W.Frag} {H : Hp} {a : Addr} (ns : List Int) (h : SqL K H a (ns.map V.int)) : Dp K H (.ref a) (.list (ns.map PyData.int)) := .lst h (dp_ints ns)
theorem fitl (ns : List Int) (h : ns.length ≤ 4000) : Fit 1 (.list (ns.map PyData.int)) := by
  refine ⟨by rw [List.length_map]; exact h, fun e he => ?_⟩
  obtain ⟨c, _, rfl⟩ := List.mem_map.mp he
  exact True.intro
theorem fit_ni {x : Str} {a : Int} : Fit 1 (.tuple [.str x, .int a]) := by
  refine ⟨by simp, fun e he => ?_⟩
  simp only [List.mem_cons, List.not_mem_nil, or_false] at he
  rcases he with h | h <;> rw [h] <;> exact True.intro
/-! ### a loop over enumerate -/
theorem for_enumL {K : PySem.W.Frag} {a : Addr} {xs : List V} {g : TG} {tb : TS} {D : Ends} {σ : L2.St} {H : Hp} (Pv : Nat → L2.St → Hp → Prop) (h0 : Pv 0 σ H) (hq : ∀ i σ H, Pv i σ H → SqL K H a xs)
    (hs : ∀ (i : Nat) (x : V) (T : Addr) (σ : L2.St) (H : Hp), xs[i]? = some x → Pv i σ H → H T = none → g (.ref T) σ (upd H T (.tup [.int (i : Nat), x])) fun σ2 H2 => tb { D with nx := Pv (i + 1), ct := Pv (i + 1), bk := D.nx } σ2 H2) (hd : ∀ σ H, Pv xs.length σ H → D.nx σ H) :
    ∃ W : Nat → Nat → L2.St → Hp → Prop, (∃ m, W 0 m σ H) ∧ ∀ i m σ H, W i m σ H →
      ((Ite K a).stop i H ∧ D.nx σ H) ∨ ((Ite K a).go i H ∧ ∃ N : L2.St → Hp → Prop, (∀ σ' H', N σ' H' → ∃ m', m' < m ∧ W (i + 1) m' σ' H') ∧ ∀ v H', (Ite K a).yld i H v H' → g v σ H' fun σ2 H2 => tb { D with nx := N, ct := N, bk := D.nx } σ2 H2) := by
  refine ⟨fun i m σ H => m = xs.length - i ∧ i ≤ xs.length ∧ Pv i σ H, ⟨xs.length, rfl, Nat.zero_le _, h0⟩, ?_⟩
  rintro i m σ H ⟨rfl, hi, p⟩
  have q := hq i σ H p
  by_cases hlt : i < xs.length
  · refine .inr ⟨⟨xs, xs[i], q, List.getElem?_eq_getElem hlt⟩, Pv (i + 1), fun σ' H' p' => ⟨xs.length - (i + 1), by omega, rfl, hlt, p'⟩, fun v H' y => ?_⟩
    obtain ⟨T, x', rfl, hT, rfl, f1⟩ := y
    exact hs i x' T σ H (f1 xs q) p hT
  · have e : i = xs.length := by omega
    subst e
    exact .inl ⟨⟨xs, q, Nat.le_refl _⟩, hd σ H p⟩
/-! ### enumerate of a tuple -/
section
open PySem.Spec PyProof.Rows
abbrev tIt (t : Addr) : Obj := { cls := .type "tuple_iterator", data := .fields #[.ref t, .int 0 0] }
abbrev tEn (i : Addr) : Obj := { cls := .type "enumerate", data := .fields #[.none, .bool false, .ref i, rawInt 0, .none, .none] }
theorem meets_enumT (l : Addr) (items : Array Value) (n : Nat) (dct : Option Addr) (sl : Array (Option Value)) :
    Meets (Builtin.«enumerate.__new__» ⟨[.type "enumerate", .ref l], []⟩) (fun _ R s => s.heap.get? l = some { cls := .type "tuple", dict := dct, data := .seq items n, slots := sl } ∧
      R (.ok (.ret (.ref (s.heap.push (tIt l)).objs.size))) { s with heap := (s.heap.push (tIt l)).push (tEn s.heap.objs.size) }) :=
  .of_wp fun prog w A R s h => by
    obtain ⟨hp, g, d, tk, os⟩ := s
    obtain ⟨hl, h⟩ := h
    have hsub := sub_enumerate
    have hT : Heap.IsTuple (Shared.heap ⟨hp, g, d, tk, os⟩) l items := ⟨_, hl, rfl, n, rfl⟩
    have q1 : ∀ {A' : Around} {E : Value → Shared → Prop} {Q : Value → Shared → Prop}, Q (.ref hp.objs.size) ⟨hp.push (tIt l), g, d, tk, os⟩ → wpAny (model prog w) A' (pyIter (.ref l)) Q E ⟨hp, g, d, tk, os⟩ := fun q => wpAny_pyIter_tuple hT q
    wp_walk using AutoSeq1.wpAny_loadPart' hl
    refine wpAny_stack_any fun st => wpAny_pure ?_
    split
    · rename_i c _ _ _ _ _
      cases (c == Value.type "enumerate")
      · wp_walk using AutoSeq1.wpAny_loadPart' hl, q1
        exact ⟨_, rfl, h⟩
      · wp_walk using AutoSeq1.wpAny_loadPart' hl, q1
        exact ⟨_, rfl, h⟩
    · wp_walk using AutoSeq1.wpAny_loadPart' hl, q1
      exact ⟨_, rfl, h⟩
theorem call_enumT {prog : Program} {w : World} {A : Around} {E : Value → Shared → Prop} {s : Shared} {l : Addr} {items : Array Value} {Q : Value → Shared → Prop} (hL : s.heap.IsTuple l items)
    (h : ∀ h', IsEnum h' (s.heap.objs.size + 1) s.heap.objs.size 0 .none → h'.IsTupleIter s.heap.objs.size l 0 → (∀ b o, s.heap.get? b = some o → h'.get? b = some o) → Q (.ref (s.heap.objs.size + 1)) { s with heap := h' }) :
    wpAny (model prog w) A (call (.type "enumerate") [.ref l]) Q E s := by
  obtain ⟨⟨c, dct, dt, sl⟩, hl, hc, n, hd⟩ := hL
  replace hc : c = .type "tuple" := hc
  replace hd : dt = .seq items n := hd
  subst hc hd
  refine callType_new F.called_enumerate (by decide) (F.typeCall_enumerate_1 _) (F.newCall_enumerate_1 _) (fun obj => F.args_object_init_2 obj _) F.entry_enumerate_new (meets_enumT l items n dct sl) ⟨hl, ?_⟩
  have hz : (s.heap.push (tIt l)).objs.size = s.heap.objs.size + 1 := Heap.size_push ..
  show _ ∧ _
  rw [hz]
  have he : IsEnum ((s.heap.push (tIt l)).push (tEn s.heap.objs.size)) (s.heap.objs.size + 1) s.heap.objs.size 0 .none := by
    have k := Heap.get?_push_size (s.heap.push (tIt l)) (o := tEn s.heap.objs.size) rfl
    rw [hz] at k
    exact k
  exact ⟨⟨_, he, rfl⟩, h _ he ⟨_, Heap.get?_push_of_some _ (Heap.get?_push_size _ rfl), rfl, rfl⟩ fun b o x => Heap.get?_push_of_some _ (Heap.get?_push_of_some _ x)⟩
/-- the tuple at a, each item in a new pair -/
def IteT (K : PySem.W.Frag) (a : Addr) : It :=
  ⟨fun i H => ∃ (xs : List V) (x : V), SqT K H a xs ∧ xs[i]? = some x, fun i H v H' => ∃ T x, v = .ref T ∧ H T = none ∧ H' = upd H T (.tup [.int (i : Nat), x]) ∧ ∀ xs, SqT K H a xs → xs[i]? = some x, fun i H => ∃ xs : List V, SqT K H a xs ∧ xs.length = i⟩
theorem turn_enumT {P : Program} {w : World} {K : PySem.W.Frag} {elts : List Expr} {kk : Nat} {tpos : Pos} (a e it : Addr) :
    Turn P w K (.Tuple elts kk tpos) (IteT K a) [e, it] e (fun i h => (∃ old, IsEnum h e it ((i : Nat) : Int) old) ∧ h.IsTupleIter it a i ∧ e ≠ it ∧ a ≠ it ∧ a ≠ e) where
  mem := by simp
  obj := fun i h st b hb => by
    obtain ⟨⟨old, he⟩, ⟨o, ho, hc, hd⟩, _⟩ := st
    have z : b = e ∨ b = it := by simpa using hb
    rcases z with z | z
    · rw [z]
      exact ⟨_, he, fun v q => nomatch q⟩
    · rw [z]
      exact ⟨o, ho, fun v q => by rw [hd] at q; cases q⟩
  keep := fun i h h' st k => by
    obtain ⟨⟨old, he⟩, hi, hne⟩ := st
    exact ⟨⟨old, k e (by simp) _ he⟩, hi.at fun o q => k it (by simp) o q, hne⟩
  item := by
    intro X hP hw hK hc i pins s σ H E I hf st hg
    subst hP hw hK
    obtain ⟨⟨old, he⟩, hit, hne, hna, hnb⟩ := st
    obtain ⟨xs, x, hq, hx⟩ := hg
    obtain ⟨its, rv, p, hz⟩ := I.tuple hq
    obtain ⟨u, hu, ru⟩ := rv.get hx
    have hel : e < s.heap.objs.size := Heap.lt_size he
    have hil : it < s.heap.objs.size := by
      obtain ⟨_, q, _⟩ := hit
      exact Heap.lt_size q
    have hlt : i < its.toArray.size := by
      rw [List.size_toArray]
      exact (List.getElem?_eq_some_iff.mp hu).1
    have dr : Draws X.prog X.w X.A.in1 it [it, a] its.toArray.size (fun i v => its.toArray[i]? = some v) (fun i h => h.IsTupleIter it a i ∧ h.IsTuple a its.toArray) := Draws.tuple (A := X.A.in1) (I.ok.hd hc) it a hna its.toArray
    refine wpAny_pyNext_enum_itemD dr he ⟨hit, p⟩ hlt hne (by simp [hne, hnb.symm]) fun y h' tk hy ho hst hT hsz hk => ?_
    have ey : y = u := by
      have h1 : its.toArray[i]? = some u := by simpa using hu
      rw [h1] at hy
      exact (Option.some.inj hy).symm
    subst ey
    refine ⟨_, rfl, wpAny_letOwnedTupleGo_enum (s := { s with heap := h', toks := tk + 1 }) ho fun h'' he' sb => ?_⟩
    have hT2 := (sb.2 _ (Nat.ne_of_gt hel)).trans hT
    have new : ObjOk X.prog X.w (upd H s.heap.objs.size (.tup [.int (i : Nat), x])) h'' s.heap.objs.size (.tup [.int (i : Nat), x]) := ⟨by show 2 ≤ sizeLine; decide, [.int i tk, y], .cons ⟨_, rfl⟩ (.cons ru .nil), ⟨_, hT2, rfl, _, rfl⟩⟩
    have I1 : Inv X pins σ (upd H s.heap.objs.size (.tup [.int (i : Nat), x])) { s with heap := h'', toks := tk + 1 } :=
      I.turnedNew (ch := [e, it]) (fun b ob hb q => (sb.2 b (fun z => hb (by simp [z]))).trans (hk b ob (fun z => hb (by simp [z])) (fun z => hb (by simp [z])) q)) hf (Nat.le_refl _) new
    refine ⟨.ref s.heap.objs.size, _, I1, rfl, ⟨_, x, rfl, I.hok.fresh (Nat.le_refl _), rfl, fun ys hy => by rw [I.tuple_inj hy hq]; exact hx⟩, ⟨⟨y, ?_⟩, hst.1.at fun o q => (sb.2 it hne.symm).trans q, hne, hna, hnb⟩, fun b hb => ?_⟩
    · rw [show ((i + 1 : Nat) : Int) = (i : Int) + 1 by omega]
      exact he'
    · have hb' : b < s.heap.objs.size := by
        have z : b = e ∨ b = it := by simpa using hb
        rcases z with z | z <;> rw [z]
        · exact hel
        · exact hil
      rw [upd_ne (Nat.ne_of_lt hb')]
      exact (hf b hb).1
  done := by
    intro X hP hw hK hc i pins s σ H E I hf st hg
    subst hP hw hK
    obtain ⟨⟨old, he⟩, hit, hne, hna, hnb⟩ := st
    obtain ⟨xs, hq, hx⟩ := hg
    obtain ⟨its, rv, p, hz⟩ := I.tuple hq
    obtain ⟨f0, f1, f2, f3, f4, f5⟩ := hf it (by simp)
    have hl : its.toArray.size = i := by
      rw [List.size_toArray, ← rv.length]
      exact hx
    have dr : Draws X.prog X.w X.A.in1 it [it, a] its.toArray.size (fun i v => its.toArray[i]? = some v) (fun i h => h.IsTupleIter it a i ∧ h.IsTuple a its.toArray) := Draws.tuple (A := X.A.in1) (I.ok.hd hc) it a hna its.toArray
    exact wpAny_pyNext_enum_endD dr he (by rw [hl]; exact ⟨hit, p⟩) fun h' eb => ⟨rfl, I.turned (t' := s.toks) (fun b o hb q => eb b o hb q) f0 f1 f3 f4 f5⟩
  self := fun A i s Q E st h => by
    obtain ⟨⟨_, he⟩, _⟩ := st
    exact wpAny_pyIter_enum he h
def iEnumT (K : PySem.W.Frag) (ta : TA) : TI := fun σ H R => ta σ H fun vs H1 => ∃ a xs, vs = [.ref a] ∧ SqT K H1 a xs ∧ R (IteT K a) H1
theorem pi_enumT {X : Cx} {e : Expr} {ta : TA} {p pos tpos : Pos} {elts : List Expr} {kk : Nat} (hg : Gl X "enumerate") (hm : X.mg "enumerate" = none) (ha : PA X [e] ta) (hs : starEach [e] X.env = [(false, eval e X.env)] := by rfl) :
    PI X (.Tuple elts kk tpos) (.Call (.Name "enumerate" p) [e] [] pos) (iEnumT X.K ta) := by
  refine ⟨fun pins s σ H R I h => ?_⟩
  refine Call_ (ld_blt I hg hm boot_enumerate (PyProof.Rows.callWith_type1 (thn (ha.run pos pins s σ H _ I h) fun us s1 ⟨vs, H1, I1, r1, q1⟩ => ?_) hs rfl))
  obtain ⟨a, xs, ex, hq, q⟩ := q1
  subst ex
  obtain ⟨u, rfl, ru⟩ := r1.one
  cases ru
  obtain ⟨its, rv, p', hz⟩ := I1.tuple hq
  have hal : a < s1.heap.objs.size := by
    obtain ⟨o, ho, _⟩ := p'
    exact Heap.lt_size ho
  refine call_enumT p' fun h' he hit hk => wpAny_pyIter_enum he ?_
  have I2 : Inv X pins σ H1 { s1 with heap := h' } := I1.kept (t' := s1.toks) hk
  refine ⟨s1.heap.objs.size + 1, [s1.heap.objs.size + 1, s1.heap.objs.size], _, _, H1, rfl, I2, turn_enumT a (s1.heap.objs.size + 1) s1.heap.objs.size, ⟨⟨.none, he⟩, hit, Nat.succ_ne_self _, Nat.ne_of_lt hal, Nat.ne_of_lt (Nat.lt_succ_of_lt hal)⟩, fun b hb => ?_, q⟩
  have hle : s1.heap.objs.size ≤ b := by
    have z : b = s1.heap.objs.size + 1 ∨ b = s1.heap.objs.size := by simpa using hb
    rcases z with z | z <;> rw [z]
    · exact Nat.le_add_right _ _
    · exact Nat.le_refl _
  exact I1.fpOk hle (I1.hok.fresh hle)
end
theorem for_enumT {K : PySem.W.Frag} {a : Addr} {xs : List V} {g : TG} {tb : TS} {D : Ends} {σ : L2.St} {H : Hp} (Pv : Nat → L2.St → Hp → Prop) (h0 : Pv 0 σ H) (hq : ∀ i σ H, Pv i σ H → SqT K H a xs)
    (hs : ∀ (i : Nat) (x : V) (T : Addr) (σ : L2.St) (H : Hp), xs[i]? = some x → Pv i σ H → H T = none → g (.ref T) σ (upd H T (.tup [.int (i : Nat), x])) fun σ2 H2 => tb { D with nx := Pv (i + 1), ct := Pv (i + 1), bk := D.nx } σ2 H2) (hd : ∀ σ H, Pv xs.length σ H → D.nx σ H) :
    ∃ W : Nat → Nat → L2.St → Hp → Prop, (∃ m, W 0 m σ H) ∧ ∀ i m σ H, W i m σ H →
      ((IteT K a).stop i H ∧ D.nx σ H) ∨ ((IteT K a).go i H ∧ ∃ N : L2.St → Hp → Prop, (∀ σ' H', N σ' H' → ∃ m', m' < m ∧ W (i + 1) m' σ' H') ∧ ∀ v H', (IteT K a).yld i H v H' → g v σ H' fun σ2 H2 => tb { D with nx := N, ct := N, bk := D.nx } σ2 H2) := by
  refine ⟨fun i m σ H => m = xs.length - i ∧ i ≤ xs.length ∧ Pv i σ H, ⟨xs.length, rfl, Nat.zero_le _, h0⟩, ?_⟩
  rintro i m σ H ⟨rfl, hi, p⟩
  have q := hq i σ H p
  by_cases hlt : i < xs.length
  · refine .inr ⟨⟨xs, xs[i], q, List.getElem?_eq_getElem hlt⟩, Pv (i + 1), fun σ' H' p' => ⟨xs.length - (i + 1), by omega, rfl, hlt, p'⟩, fun v H' y => ?_⟩
    obtain ⟨T, x', rfl, hT, rfl, f1⟩ := y
    exact hs i x' T σ H (f1 xs q) p hT
  · have e : i = xs.length := by omega
    subst e
    exact .inl ⟨⟨xs, q, rfl⟩, hd σ H p⟩
/-! ### repr of lists and tuples in one another, whatever repr is under way around them -/
section
open PySem.Spec PyProof.Rows
/-- things with their addresses -/
inductive AT where
  | leaf (d : PyData)
  | lst (a : Addr) (l : List AT)
  | tup (a : Addr) (l : List AT)
mutual
inductive Ap (K : PySem.W.Frag) (H : Hp) : V → AT → Prop
  | non : Ap K H .non (.leaf .none)
  | bl (b : Bool) : Ap K H (.bl b) (.leaf (.bool b))
  | int (i : Int) : Ap K H (.int i) (.leaf (.int i))
  | str (x : Str) : Ap K H (.str x) (.leaf (.str x))
  | lst {a : Addr} {xs : List V} {l : List AT} : SqL K H a xs → ApAll K H xs l → Ap K H (.ref a) (.lst a l)
  | tup {a : Addr} {xs : List V} {l : List AT} : SqT K H a xs → ApAll K H xs l → Ap K H (.ref a) (.tup a l)
inductive ApAll (K : PySem.W.Frag) (H : Hp) : List V → List AT → Prop
  | nil : ApAll K H [] []
  | cons {v : V} {vs : List V} {t : AT} {l : List AT} : Ap K H v t → ApAll K H vs l → ApAll K H (v :: vs) (t :: l)
end
/-- list.__repr__'s loop over this very list is under way -/
def loopF (self : Value) : Code × Pos → Bool := fun
  | (.builtin "list.__repr__.loop" ⟨v :: _, _⟩, _) => Builtin.List.listSameRef v self
  | _ => false
theorem loopF_pos (self : Value) (c : Code) (p : Pos) : loopF self (c, p) = loopF self (c, default) := by
  unfold loopF
  split
  · next v r k q heq =>
    cases heq
    rfl
  · next h =>
    split
    · next v r k q heq =>
      cases heq
      exact absurd rfl (h v r k p)
    · rfl
theorem loopF_off (self : Value) (c : Code) (p : Pos) (h : c.isGuard = false) : loopF self (c, p) = false := by
  unfold loopF
  split
  · next v r k q heq =>
    cases heq
    simp [Code.isGuard, guardIds] at h
  · rfl
def blkL (g : List Code) (b : Addr) : Bool := g.any fun c => loopF (.ref b) (c, default)
def blkT (g : List Code) (b : Addr) : Bool := g.any fun c => tupGuardF (.ref b) (c, default)
mutual
def AT.data : AT → PyData
  | .leaf d => d
  | .lst _ l => .list (AT.dataAll l)
  | .tup _ l => .tuple (AT.dataAll l)
def AT.dataAll : List AT → List PyData
  | [] => []
  | t :: l => AT.data t :: AT.dataAll l
end
mutual
def AT.txt (g : List Code) : AT → Str
  | .leaf d => d.shown
  | .lst _ [] => "[]"
  | .lst a (t :: l) => if blkL g a then "[...]" else listText (AT.txt g t :: AT.txtAll g l)
  | .tup a l => if blkT g a then "(...)" else tupleText (AT.txtAll g l)
def AT.txtAll (g : List Code) : List AT → List Str
  | [] => []
  | t :: l => AT.txt g t :: AT.txtAll g l
end
/-! how long it may come to be -/
mutual
def AT.wid : AT → Nat
  | .leaf d => d.shown.length
  | .lst _ l => 6 + AT.widAll l
  | .tup _ l => 6 + AT.widAll l
def AT.widAll : List AT → Nat
  | [] => 0
  | t :: l => AT.wid t + 2 + AT.widAll l
end
theorem txtAll_sum (g : List Code) : ∀ (l : List AT), (∀ t ∈ l, (AT.txt g t).length ≤ AT.wid t) → ((AT.txtAll g l).map (·.length)).sum + 2 * (AT.txtAll g l).length ≤ AT.widAll l
  | [], _ => by simp [AT.txtAll, AT.widAll]
  | t :: l, h => by
    have h1 := h t List.mem_cons_self
    have h2 := txtAll_sum g l fun u hu => h u (List.mem_cons_of_mem _ hu)
    simp only [AT.txtAll, AT.widAll, List.map_cons, List.sum_cons, List.length_cons]
    omega
mutual
theorem txt_wid (g : List Code) : ∀ t : AT, (AT.txt g t).length ≤ AT.wid t
  | .leaf d => by rw [AT.txt, AT.wid]; exact Nat.le_refl _
  | .lst a [] => by
    rw [AT.txt, AT.wid]
    have : (("[]" : String) : Str).length = 2 := rfl
    omega
  | .lst a (t :: l) => by
    rw [AT.txt, AT.wid]
    split
    · have : (("[...]" : String) : Str).length = 5 := rfl
      omega
    · have h := listText_len_le (AT.txt g t :: AT.txtAll g l)
      have h2 := txtAll_sum g (t :: l) (txt_widAll g (t :: l))
      rw [AT.txtAll] at h2
      omega
  | .tup a l => by
    rw [AT.txt, AT.wid]
    split
    · have : (("(...)" : String) : Str).length = 5 := rfl
      omega
    · have h := tupleText_len_le (AT.txtAll g l)
      have h2 := txtAll_sum g l (txt_widAll g l)
      omega
theorem txt_widAll (g : List Code) : ∀ l : List AT, ∀ t ∈ l, (AT.txt g t).length ≤ AT.wid t
  | [], _, h => nomatch h
  | u :: l, t, h => by
    rcases List.mem_cons.mp h with e | h
    · rw [e]
      exact txt_wid g u
    · exact txt_widAll g l t h
end
def Agr (g0 g : List Code) (as : List Addr) : Prop := ∀ b ∈ as, blkL g b = blkL g0 b ∧ blkT g b = blkT g0 b
theorem Agr.refl (g : List Code) (as : List Addr) : Agr g g as := fun _ _ => ⟨rfl, rfl⟩
theorem ref_beq {a b : Addr} (n : a ≠ b) : (Value.ref a == Value.ref b) = false := beq_eq_false_iff_ne.mpr fun e => n (Value.ref.inj e)
theorem Agr.cons {g0 g : List Code} {as : List Addr} {a : Addr} {id : String} {rest : List Value} {kw : List (Str × Value)} (h : Agr g0 g as) (n : a ∉ as) : Agr g0 (.builtin id ⟨.ref a :: rest, kw⟩ :: g) as := by
  intro b hb
  have ne : a ≠ b := fun e => n (e ▸ hb)
  obtain ⟨h1, h2⟩ := h b hb
  constructor
  · rw [← h1]
    unfold blkL
    rw [List.any_cons]
    have : loopF (.ref b) (Code.builtin id ⟨.ref a :: rest, kw⟩, default) = false := by
      unfold loopF
      split
      · next v r k q heq =>
        cases heq
        exact listSameRef_of_ne fun e => ne (Value.ref.inj e)
      · rfl
    rw [this, Bool.false_or]
  · rw [← h2]
    unfold blkT
    rw [List.any_cons]
    have : tupGuardF (.ref b) (Code.builtin id ⟨.ref a :: rest, kw⟩, default) = false := by
      simp only [tupGuardF, ref_beq ne, Bool.false_and]
    rw [this, Bool.false_or]
end
section
open PySem.Spec PyProof.Rows
open Sem (wp)
open Builtin Builtin.List
variable {prog : Program} {w : World} {g0 : List Code}
def ReprD (prog : Program) (w : World) (g0 : List Code) (as : List Addr) (h0 : Heap) (d : Nat) (x : Value) (t : Str) : Prop :=
  ∀ (n : Nat), n + t.length ≤ sizeLine → ∀ (A : Around) (g : List Code) (E : Value → Shared → Prop) (s : Shared) (Q : Str → Shared → Prop), A.guards = some g → Agr g0 g as → A.units + d < cLine →
    (∀ b o, h0.get? b = some o → s.heap.get? b = some o) → (∀ h' tk, (∀ b o, s.heap.get? b = some o → h'.get? b = some o) → Q t { s with heap := h', toks := tk }) → wpAny (model prog w) A (pyReprUnder n x) Q E s
theorem ReprD.leaf {x : Value} {t : Str} (h : ReprIs prog w x t) (as : List Addr) (h0 : Heap) (d : Nat) : ReprD prog w g0 as h0 d x t :=
  fun n hn A _ E s Q _ _ _ _ q => h n hn A E s Q fun tk => q s.heap tk fun _ _ e => e
theorem ReprD.wide {as bs : List Addr} {h0 : Heap} {d e : Nat} {x : Value} {t : Str} (h : ReprD prog w g0 as h0 d x t) (i : ∀ b ∈ as, b ∈ bs) (l : d ≤ e) : ReprD prog w g0 bs h0 e x t :=
  fun n hn A g E s Q hg ha hu hk q => h n hn A g E s Q hg (fun b hb => ha b (i b hb)) (by omega) hk q
/-- the loop of list.__repr__ -/
theorem loopD {A : Around} {R : Result → Shared → Prop} {a P : Addr} (hne : a ≠ P) {items : Array Value} {ts : List Str} {as : List Addr} {h0 : Heap} {d n : Nat} {g : List Code} (hg : A.guards = some g) (hag : Agr g0 g as)
    (hu : A.units + (d + 1) < cLine) (hna : a ∉ as) (hPf : h0.get? P = none) (hlen : ts.length = items.size)
    (hT : ∀ (i : Nat) (x : Value), items[i]? = some x → ∃ t, ts[i]? = some t ∧ ReprD prog w g0 as h0 d x t) (hsz : n + (listText ts).length ≤ sizeLine) :
    ∀ (k i : Nat) (s : Shared) (oa : Obj) (na : Nat) (acc : Array Value) (c : Nat) (done : List (Str × Tok)), items.size - i = k → i ≤ items.size → (∀ b o, h0.get? b = some o → s.heap.get? b = some o) →
      s.heap.get? a = some oa → oa.data = .seq items na → s.heap.get? P = some { cls := .type "list", dict := none, data := .seq acc c, slots := #[] } → acc.toList = strValues done → done.map (·.1) = ts.take i →
      (∀ h' u tk, (∀ b o, b ≠ P → s.heap.get? b = some o → h'.get? b = some o) → R (.ok (.ret (.str (listText ts) u))) { s with heap := h', toks := tk }) →
      codeAny (model prog w) A (.builtin "list.__repr__.loop" ⟨[.ref a, rawInt i, .ref P, rawInt ((n + piled (ts.take i) : Nat) : Int)], []⟩) R s := by
  have hX : (listText ts).length = (textFrom 0 "[" ts).length + 1 := by
    show ((textFrom 0 "[" ts) ++ ("]" : Str)).length = _
    rw [strLen_append]
    rfl
  obtain ⟨hL1, hL2, _⟩ := textFrom_len ts 0 "["
  rw [if_neg (Nat.lt_irrefl 0)] at hL1
  have hsz1 : items.size ≤ sizeLine := by omega
  have hp3 := piled_le_listText ts
  intro k
  induction k with
  | zero =>
    intro i s oa na acc c done hk hi hk0 ha hda hP hacc hdone hR
    have hin : i = items.size := by omega
    refine codeAny_builtin F.entry_list_repr_loop ?_
    show wpAny _ _ («list.__repr__.loop» ⟨[.ref a, .int i 0, .ref P, .int ((n + piled (ts.take i) : Nat) : Int) 0], []⟩) _ _ s
    rw [repr_loop_tree]
    refine wpAny_bind (wpAny_listItems ha hda ?_)
    have e0 : items[(i : Int).toNat]? = none := by simp [hin]
    simp only [e0]
    unfold reprEnd
    refine wpAny_bind (wpAny_listItems hP rfl ?_)
    rw [hacc, repr_fold]
    refine wpAny_bind (wpAny_pure ?_)
    have e1 : done.map (·.1) = ts := by rw [hdone, hin, ← hlen, List.take_length]
    rw [e1]
    exact wpAny_bind (wpAny_mkStr (wpAny_pure (hR s.heap _ _ fun _ _ _ e => e)) (show (listText ts).length ≤ sizeLine by omega))
  | succ k ih =>
    intro i s oa na acc c done hk hi hk0 ha hda hP hacc hdone hR
    have hlt : i < items.size := by omega
    obtain ⟨t, ht, hrep⟩ := hT i items[i] (by simp [hlt])
    have hp1 := piled_take_succ ht
    have hp2 := piled_take_le ts (i + 1)
    have ht2 := hL2 t (List.mem_of_getElem? ht)
    refine codeAny_builtin F.entry_list_repr_loop ?_
    show wpAny _ _ («list.__repr__.loop» ⟨[.ref a, .int i 0, .ref P, .int ((n + piled (ts.take i) : Nat) : Int) 0], []⟩) _ _ s
    rw [repr_loop_tree]
    refine wpAny_bind (wpAny_listItems ha hda ?_)
    have e0 : items[(i : Int).toNat]? = some items[i] := by simp [hlt]
    simp only [e0]
    rw [Int.toNat_natCast]
    refine wpAny_bind (wpAny_holding (hrep (n + piled (ts.take i) + 1) (by omega) _ _ _ _ _ (guards_under_guard (isGuard_list_loop _) hg) (hag.cons (a := a) hna) (by rw [units_under_list_loop]; omega) hk0 fun h' tk hkp => ?_))
    refine wpAny_bind (wpAny_mkStr ?_ (by omega))
    refine wpAny_bind ?_
    show wpAny _ _ (updateSeq P _) _ _ _
    have hasz : acc.size ≤ sizeLine := by
      have e1 : acc.toList.length = acc.size := by simp
      have e2 : (strValues done).length = (done.map (·.1)).length := by simp [strValues]
      rw [hdone, List.length_take] at e2
      rw [hacc] at e1
      omega
    refine wpAny_updateSeq (hkp _ _ hP) rfl (wpAny_pure ⟨F.quiet_list_repr_loop _, ?_⟩) hasz
    have f1 : ((i : Int) + 1) = ((i + 1 : Nat) : Int) := by omega
    have f2 : n + piled (ts.take i) + (t.length + 2) = n + piled (ts.take (i + 1)) := by omega
    rw [f1, f2]
    have out : ∀ {b : Addr}, b ≠ P → P ≠ b := fun z e => z e.symm
    refine ih (i + 1) _ oa na (acc.push (.str t tk)) _ (done ++ [(t, tk)]) (by omega) hlt (fun b o e => (Heap.get?_update_other _ _ (out fun z => by rw [z, hPf] at e; cases e)).trans (hkp _ _ (hk0 _ _ e)))
      ((Heap.get?_update_other _ _ (out hne)).trans (hkp _ _ ha)) hda (Heap.get?_update_self _ (hkp _ _ hP) rfl) (by simp [hacc, strValues]) (by simp [List.take_add_one, ht, hdone]) fun h'' u tk' hh => ?_
    exact hR h'' u tk' fun b o hb e => hh b o hb ((Heap.get?_update_other _ _ (out hb)).trans (hkp _ _ e))
end
section
open PySem.Spec PyProof.Rows
open Sem (wp)
open Builtin Builtin.List
variable {prog : Program} {w : World} {g0 : List Code}
abbrev finE (prog : Program) (w : World) (A : Around) (R : Result → Shared → Prop) : Fin → Shared → Prop := fun f s => match f with
  | .done v => R (.ok v) s
  | .again c => c.quiet = true ∧ codeAny (model prog w) A c R s
/-- the list is being shown already -/
theorem list_way {A : Around} {g : List Code} {c : Code} {a : Addr} {o : Obj} {x : Value} {l : List Value} {m n : Nat} {s : Shared} {Q : Fin → Shared → Prop} {E : Value → Shared → Prop} (hg : A.guards = some g) (hb : blkL g a = true)
    (ha : s.heap.get? a = some o) (hd : o.data = .seq (x :: l).toArray m) (h : ∀ u tk, Q (.done (.ret (.str "[...]" u))) { s with toks := tk }) : wpOwn (model prog w) A c (listReprAt n ⟨[.ref a], []⟩) Q E s := by
  intro Γ p hc hΓ
  have k : wpAny (model prog w) (A.under c) (do rule "list.__repr__.in-itself"; retStr "[...]") Q E s :=
    wpAny_bind (wpAny_rule (wpAny_bind (wpAny_mkStr (wpAny_pure (h _ _)) (by decide +kernel))))
  have k1 := k Γ p (hc ▸ hΓ.in)
  unfold listReprAt
  simp [slotArgs, listItems, seqItems?, Sem.wp_load_of (h := ha), hd, stack]
  show wp _ Γ (if (Γ.below.any (loopF (.ref a))) = true then _ else _) _ _ p s
  rw [if_pos]
  · exact k1
  · rw [any_eq_guards (loopF_off _) (loopF_pos _), hΓ.2.2.2.1 g hg]
    exact hb
theorem list_no {g : List Code} {a : Addr} (h : blkL g a = false) (v : Value) (rest : List Value) (kw : List (Str × Value)) (hm : Code.builtin "list.__repr__.loop" ⟨v :: rest, kw⟩ ∈ g) : listSameRef v (.ref a) = false := by
  have := List.any_eq_false.mp h _ hm
  simpa [loopF] using this
theorem list_at {as : List Addr} {h0 : Heap} {d : Nat} {a : Addr} {oa : Obj} {x : Value} {l : List Value} {na : Nat} {ts : List Str} (ha : h0.get? a = some oa) (hda : oa.data = .seq (x :: l).toArray na) (hna : a ∉ as)
    (hlen : ts.length = (x :: l).toArray.size) (hT : ∀ (i : Nat) (y : Value), (x :: l).toArray[i]? = some y → ∃ t, ts[i]? = some t ∧ ReprD prog w g0 as h0 d y t) {A : Around} {g : List Code} {s : Shared} {R : Result → Shared → Prop} {n : Nat} {id : String} {rest : List Value}
    (hpl : plainId id = true) (hg : A.guards = some g) (hag : Agr g0 g (a :: as)) (hu : A.units + (d + 1) < cLine) (hk0 : ∀ b o, h0.get? b = some o → s.heap.get? b = some o)
    (hR : ∀ h' u tk, (∀ b o, s.heap.get? b = some o → h'.get? b = some o) → R (.ok (.ret (.str (if blkL g0 a then "[...]" else listText ts) u))) { s with heap := h', toks := tk })
    (hsz : blkL g0 a = false → n + (listText ts).length ≤ sizeLine) : wpOwn (model prog w) A (.builtin id ⟨.ref a :: rest, []⟩) (listReprAt n ⟨[.ref a], []⟩) (finE prog w A R) (fun e s' => R (.error e) s') s := by
  have e := (hag a List.mem_cons_self).1
  cases hB : blkL g0 a with
  | true =>
    rw [hB] at e
    simp only [hB] at hR
    exact list_way hg e (hk0 _ _ ha) hda fun u tk => hR s.heap u tk fun _ _ z => z
  | false =>
    rw [hB] at e
    simp only [hB] at hR
    have hPf : h0.get? s.heap.objs.size = none := by
      cases q : h0.get? s.heap.objs.size with
      | none => rfl
      | some o => exact absurd (Heap.lt_size (hk0 _ _ q)) (Nat.lt_irrefl _)
    refine wpOwn_of_wpAny ?_
    rw [Around.under_plainId hpl]
    refine wpAny_list_repr_head (A := A.in1) hg (list_no e) (hk0 _ _ ha) hda ?_
    refine wpAny_bind (m := newList []) (wpAny_newObj_type (wpAny_pure ⟨F.quiet_list_repr_loop _, ?_⟩))
    refine loopD (P := s.heap.objs.size) (g0 := g0) (Nat.ne_of_lt (Heap.lt_size (hk0 _ _ ha))) hg (fun b hb => hag b (List.mem_cons_of_mem _ hb)) hu hna hPf hlen hT (hsz hB) _ 0 _ oa na #[] _ [] rfl (Nat.zero_le _)
      (fun b o z => Heap.get?_push_of_some _ (hk0 _ _ z)) (Heap.get?_push_of_some _ (hk0 _ _ ha)) hda (Heap.get?_push_size _ rfl) rfl (by simp) fun h' u tk hk => ?_
    exact hR h' u tk fun b o z => hk b o (Nat.ne_of_lt (Heap.lt_size z)) (Heap.get?_push_of_some _ z)
inductive ReprDs (prog : Program) (w : World) (g0 : List Code) (as : List Addr) (h0 : Heap) (d : Nat) : List Value → List Str → Prop
  | nil : ReprDs prog w g0 as h0 d [] []
  | cons {x : Value} {t : Str} {l : List Value} {ts : List Str} : ReprD prog w g0 as h0 d x t → ReprDs prog w g0 as h0 d l ts → ReprDs prog w g0 as h0 d (x :: l) (t :: ts)
theorem ReprDs.len {as : List Addr} {h0 : Heap} {d : Nat} : ∀ {l : List Value} {ts : List Str}, ReprDs prog w g0 as h0 d l ts → ts.length = l.length
  | _, _, .nil => rfl
  | _, _, .cons _ h => by rw [List.length_cons, List.length_cons, h.len]
theorem ReprDs.item {as : List Addr} {h0 : Heap} {d : Nat} : ∀ {l : List Value} {ts : List Str}, ReprDs prog w g0 as h0 d l ts → ∀ (i : Nat) (y : Value), l[i]? = some y → ∃ t, ts[i]? = some t ∧ ReprD prog w g0 as h0 d y t
  | _, _, .nil, i, y, e => by simp at e
  | _, _, .cons hx _, 0, y, e => by
    cases Option.some.inj e
    exact ⟨_, rfl, hx⟩
  | _, _, .cons _ hl, i + 1, y, e => hl.item i y e
theorem ReprDs.wide {as bs : List Addr} {h0 : Heap} {d e : Nat} (i : ∀ b ∈ as, b ∈ bs) (l : d ≤ e) : ∀ {vs : List Value} {ts : List Str}, ReprDs prog w g0 as h0 d vs ts → ReprDs prog w g0 bs h0 e vs ts
  | _, _, .nil => .nil
  | _, _, .cons hx hl => .cons (hx.wide i l) (hl.wide i l)
theorem tup_fold {A : Around} {E : Value → Shared → Prop} {as : List Addr} {h0 : Heap} {d : Nat} {g : List Code} (hg : A.guards = some g) (hag : Agr g0 g as) (hu : A.units + d < cLine) :
    ∀ (l : List Value) (ts : List Str) (acc : Array Str) (n : Nat) (s : Shared) (Q : (Array Str × Nat) → Shared → Prop), ReprDs prog w g0 as h0 d l ts → n + piled ts ≤ sizeLine → (∀ b o, h0.get? b = some o → s.heap.get? b = some o) →
      (∀ h' tk, (∀ b o, s.heap.get? b = some o → h'.get? b = some o) → Q ⟨acc ++ ts.toArray, n + piled ts⟩ { s with heap := h', toks := tk }) → wpAny (model prog w) A (forIn l (⟨acc, n⟩ : (Array Str × Nat)) tupBody) Q E s := by
  intro l
  induction l with
  | nil =>
    intro ts acc n s Q hT _ _ q
    cases hT
    have q0 := q s.heap s.toks fun _ _ e => e
    simp only [List.forIn_nil]
    exact wpAny_pure (by simpa [piled] using q0)
  | cons x l ih =>
    intro ts acc n s Q hT hn hk0 q
    cases hT with
    | cons hx hl =>
      rename_i t ts'
      rw [piled_cons] at hn
      rw [List.forIn_cons]
      refine wpAny_bind (wpAny_bind (hx (n + 1) (by omega) _ _ _ _ _ hg hag hu hk0 fun h' tk hk1 => wpAny_pure ?_))
      refine ih ts' (acc.push t) (n + (t.length + 2)) _ Q hl (by omega) (fun b o z => hk1 _ _ (hk0 _ _ z)) fun h'' tk' hk2 => ?_
      have q1 := q h'' tk' fun b o z => hk2 _ _ (hk1 _ _ z)
      rw [show n + piled (t :: ts') = n + (t.length + 2) + piled ts' by rw [piled_cons]; omega] at q1
      simpa using q1
theorem tup_at {as : List Addr} {h0 : Heap} {d : Nat} {a : Addr} {o : Obj} {items : Array Value} {na : Nat} {ts : List Str} (ha : h0.get? a = some o) (hd : o.data = .seq items na) (hna : a ∉ as) (hT : ReprDs prog w g0 as h0 d items.toList ts)
    {A : Around} {g : List Code} {s : Shared} {R : Result → Shared → Prop} {n : Nat} {id : String} {rest : List Value} (hcg : (Code.builtin id ⟨.ref a :: rest, []⟩).isGuard = true) (hcu : (A.under (.builtin id ⟨.ref a :: rest, []⟩)).units = A.units + 1)
    (hg : A.guards = some g) (hag : Agr g0 g (a :: as)) (hu : A.units + (d + 1) < cLine) (hk0 : ∀ b o, h0.get? b = some o → s.heap.get? b = some o)
    (hR : ∀ h' u tk, (∀ b o, s.heap.get? b = some o → h'.get? b = some o) → R (.ok (.ret (.str (if blkT g0 a then "(...)" else tupleText ts) u))) { s with heap := h', toks := tk })
    (hsz : blkT g0 a = false → n + (tupleText ts).length ≤ sizeLine) : wpOwn (model prog w) A (.builtin id ⟨.ref a :: rest, []⟩) (tupleReprAt n ⟨[.ref a], []⟩) (finE prog w A R) (fun e s' => R (.error e) s') s := by
  have e := (hag a List.mem_cons_self).2
  unfold blkT at e
  have hlen : ts.length = items.size := by simpa using hT.len
  have hp := piled_le_tupleText ts
  rw [tuple_repr_tree, tupleReprUnderWay_eq]
  refine wpOwn_bind (wpOwn_stackTailAny hg (tupGuardF_off _) (tupGuardF_pos _) ?_)
  rw [e]
  show wpOwn _ _ _ (if blkT g0 a = true then _ else _) _ _ _
  refine wpOwn_of_wpAny ?_
  cases hB : blkT g0 a with
  | true =>
    simp only [hB] at hR
    refine PySem.W.KFB.if_so rfl ?_
    exact wpAny_bind (wpAny_rule (wpAny_bind (wpAny_mkStr (wpAny_pure (hR s.heap _ _ fun _ _ z => z)) (by decide +kernel))))
  | false =>
    simp only [hB] at hR
    have hz := hsz hB
    refine PySem.W.KFB.if_not rfl ?_
    unfold tupleReprRest Builtin.Tuple.tupleItemsOf
    refine wpAny_bind (wpAny_bind (wpAny_seqItems (hk0 _ _ ha) hd (wpAny_pure ?_)))
    rw [← Array.forIn_toList]
    refine wpAny_bind (tup_fold (g0 := g0) (guards_under_guard hcg hg) (Agr.cons (a := a) (fun b hb => hag b (List.mem_cons_of_mem _ hb)) hna) (by rw [hcu]; omega) _ ts _ _ _ _ hT (by omega) hk0 fun h' tk hk1 => ?_)
    refine wpAny_bind (wpAny_mkStr (wpAny_pure ?_) (by simpa [tupleText, hlen] using (show (tupleText ts).length ≤ sizeLine by omega)))
    have q := hR h' tk (tk + 1) hk1
    simpa [tupleText, hlen] using q
end
section
open PySem.Spec PyProof.Rows
open Sem (wp)
open Builtin Builtin.List
variable {prog : Program} {w : World} {g0 : List Code}
theorem ReprD.lst {as : List Addr} {h0 : Heap} {d : Nat} {a : Addr} {oa : Obj} {x : Value} {l : List Value} {na : Nat} {ts : List Str} (ha : h0.get? a = some oa) (hc : oa.cls = .type "list") (hda : oa.data = .seq (x :: l).toArray na) (hna : a ∉ as)
    (hT : ReprDs prog w g0 as h0 d (x :: l) ts) : ReprD prog w g0 (a :: as) h0 (d + 1) (.ref a) (if blkL g0 a then "[...]" else listText ts) := by
  intro n hn A g E s Q hg hag hu hk q
  have hl : ts.length = (x :: l).toArray.size := by simpa using hT.len
  refine wpAny_pyReprUnder_ref (by omega) (wpAny_pyReprObjUnder_twin (twin := "list.__repr__.under") ⟨oa, hk _ _ ha, hc⟩ F.slot_list_repr.toG rfl (by omega) ?_)
  refine call_twin_own (Code.quiet_builtin _ (by decide +kernel)) F.entry_list_repr_under F.check_list_repr_under ⟨oa, hk _ _ ha, hc⟩ F.slot_list_repr.toG (F.args_list_repr_1 _) ?_
  refine list_at (R := callEnd _ E) ha hda hna hl (fun i y e => hT.item i y (by simpa using e)) F.plain_list_repr_under hg hag hu hk (fun h' u tk hk1 => ⟨⟨_, _, rfl⟩, _, _, rfl, q h' tk hk1⟩) fun hB => ?_
  rw [hB] at hn
  exact hn
theorem ReprD.bare {as : List Addr} {h0 : Heap} {d : Nat} {a : Addr} {oa : Obj} {na : Nat} (ha : h0.get? a = some oa) (hc : oa.cls = .type "list") (hda : oa.data = .seq #[] na) : ReprD prog w g0 as h0 d (.ref a) "[]" := by
  intro n hn A g E s Q _ _ hu hk q
  exact wpAny_pyReprUnder_ref (by omega) (wpAny_pyReprObjUnder_list_empty ⟨oa, hk _ _ ha, hc⟩ (by omega) (hk _ _ ha) hda ⟨_, _, rfl, q s.heap _ fun _ _ e => e⟩)
theorem ReprD.tup {as : List Addr} {h0 : Heap} {d : Nat} {a : Addr} {oa : Obj} {items : Array Value} {na : Nat} {ts : List Str} (ha : h0.get? a = some oa) (hc : oa.cls = .type "tuple") (hda : oa.data = .seq items na) (hna : a ∉ as)
    (hT : ReprDs prog w g0 as h0 d items.toList ts) : ReprD prog w g0 (a :: as) h0 (d + 1) (.ref a) (if blkT g0 a then "(...)" else tupleText ts) := by
  intro n hn A g E s Q hg hag hu hk q
  refine wpAny_pyReprUnder_ref (by omega) (wpAny_pyReprObjUnder_twin (twin := "tuple.__repr__.under") ⟨oa, hk _ _ ha, hc⟩ F.slot_tuple_repr rfl (by omega) ?_)
  refine call_twin_own (F.quiet_tuple_repr_under _) F.entry_tuple_repr_under F.check_tuple_repr_under ⟨oa, hk _ _ ha, hc⟩ F.slot_tuple_repr (F.args_tuple_repr_1 _) ?_
  refine tup_at (R := callEnd _ E) ha hda hna hT (isGuard_tuple_repr_under _) (units_under_tuple_repr_under _ _) hg hag hu hk (fun h' u tk hk1 => ⟨⟨_, _, rfl⟩, _, _, rfl, q h' tk hk1⟩) fun hB => ?_
  rw [hB] at hn
  exact hn
mutual
theorem Ap.dp {K : PySem.W.Frag} {H : Hp} : ∀ {v : V} {t : AT}, Ap K H v t → Dp K H v t.data
  | _, _, .non => .non
  | _, _, .bl b => .bl b
  | _, _, .int i => .int i
  | _, _, .str x => .str x
  | _, _, .lst h a => by rw [AT.data]; exact .lst h a.dp
  | _, _, .tup h a => by rw [AT.data]; exact .tup h a.dp
theorem ApAll.dp {K : PySem.W.Frag} {H : Hp} : ∀ {vs : List V} {l : List AT}, ApAll K H vs l → DpAll K H vs (AT.dataAll l)
  | _, _, .nil => by rw [AT.dataAll]; exact .nil
  | _, _, .cons h a => by rw [AT.dataAll]; exact .cons h.dp a.dp
end
mutual
theorem Ap.same {K : PySem.W.Frag} {H H' : Hp} (e : Same H H') : ∀ {v : V} {t : AT}, Ap K H v t → Ap K H' v t
  | _, _, .non => .non
  | _, _, .bl b => .bl b
  | _, _, .int i => .int i
  | _, _, .str x => .str x
  | _, _, .lst h a => .lst (e.seq h) (ApAll.same e a)
  | _, _, .tup h a => .tup (same_t e h) (ApAll.same e a)
theorem ApAll.same {K : PySem.W.Frag} {H H' : Hp} (e : Same H H') : ∀ {vs : List V} {l : List AT}, ApAll K H vs l → ApAll K H' vs l
  | _, _, .nil => .nil
  | _, _, .cons h a => .cons (Ap.same e h) (ApAll.same e a)
end
section
variable {X : Cx} {pins : List (Addr × Obj)} {σ : L2.St} {H : Hp} {s : Shared}
mutual
theorem repr_of (I : Inv X pins σ H s) : ∀ (t : AT) (v : V) (u : Value), Ap X.K H v t → RelV v u → t.data.showable = true → t.wid ≤ sizeLine → ∃ bs, ReadAtMost s.heap t.data.depth bs ∧ ReprD X.prog X.w g0 bs s.heap t.data.depth u (t.txt g0)
  | .leaf d, v, u, h, r, hs, hw => by
    refine ⟨[], (fun _ z => nomatch z), ?_⟩
    rw [AT.txt]
    rw [AT.wid] at hw
    cases h with
    | non =>
      cases r
      exact .leaf ReprIs.none _ _ _
    | bl b =>
      cases r
      exact .leaf (ReprIs.bool b) _ _ _
    | int i =>
      obtain ⟨k, rfl⟩ := r
      exact .leaf (ReprIs.int k (by simpa [AT.data, PyData.showable] using hs)) _ _ _
    | str x =>
      obtain ⟨k, rfl⟩ := r
      exact .leaf (ReprIs.str x k (by simpa only [PyData.shown] using hw)) _ _ _
  | .lst a [], v, u, h, r, hs, hw => by
    cases h with
    | lst hq ha =>
      cases ha
      cases r
      obtain ⟨its, rv, ⟨o, n, ho, hc, _, hd⟩, _⟩ := I.list hq
      cases rv
      rw [AT.txt]
      exact ⟨[], (fun _ z => nomatch z), ReprD.bare ho hc hd⟩
  | .lst a (t :: l), v, u, h, r, hs, hw => by
    obtain ⟨as, hR⟩ := Dp.reads I _ v u h.dp r
    cases h with
    | lst hq ha =>
      cases r
      obtain ⟨its, rv, ⟨o, n, ho, hc, _, hd⟩, _⟩ := I.list hq
      rw [AT.data, PyData.showable] at hs
      rw [AT.wid] at hw
      obtain ⟨bs, hb, hk⟩ := repr_ofAll I (t :: l) _ its ha rv hs (by omega)
      rw [AT.data] at hR
      have hna : a ∉ bs := not_mem_of_deeper hR (by simp only [PyData.depth]; omega) hb
      refine ⟨a :: bs, ?_, ?_⟩
      · rw [AT.data]
        exact ReadAtMost.cons hR (by simp only [PyData.depth]; omega) hb
      · rw [AT.txt, AT.data, PyData.depth]
        cases ha with
        | cons h1 h2 =>
          cases rv with
          | cons r1 r2 =>
            rw [AT.txtAll] at hk
            exact .lst ho hc hd hna hk
  | .tup a l, v, u, h, r, hs, hw => by
    obtain ⟨as, hR⟩ := Dp.reads I _ v u h.dp r
    cases h with
    | tup hq ha =>
      cases r
      obtain ⟨its, rv, ⟨o, ho, hc, n, hd⟩, _⟩ := I.tuple hq
      rw [AT.data, PyData.showable] at hs
      rw [AT.wid] at hw
      obtain ⟨bs, hb, hk⟩ := repr_ofAll I l _ its ha rv hs (by omega)
      rw [AT.data] at hR
      have hna : a ∉ bs := not_mem_of_deeper hR (by simp only [PyData.depth]; omega) hb
      refine ⟨a :: bs, ?_, ?_⟩
      · rw [AT.data]
        exact ReadAtMost.cons hR (by simp only [PyData.depth]; omega) hb
      · rw [AT.txt, AT.data, PyData.depth]
        exact .tup ho hc hd hna (by simpa using hk)
theorem repr_ofAll (I : Inv X pins σ H s) : ∀ (l : List AT) (vs : List V) (us : List Value), ApAll X.K H vs l → Vals vs us → PyData.showableAll (AT.dataAll l) = true → AT.widAll l ≤ sizeLine → ∃ bs, ReadAtMost s.heap (PyData.depthAll (AT.dataAll l)) bs ∧ ReprDs X.prog X.w g0 bs s.heap (PyData.depthAll (AT.dataAll l)) us (AT.txtAll g0 l)
  | [], _, _, h, r, _, _ => by
    cases h
    cases r
    exact ⟨[], (fun _ z => nomatch z), by rw [AT.txtAll]; exact .nil⟩
  | t :: l, _, _, h, r, hs, hw => by
    cases h with
    | cons h1 h2 =>
      cases r with
      | cons r1 r2 =>
        have hs' : t.data.showable = true ∧ PyData.showableAll (AT.dataAll l) = true := by simpa [AT.dataAll, PyData.showableAll] using hs
        rw [AT.widAll] at hw
        obtain ⟨b1, k1, m1⟩ := repr_of I t _ _ h1 r1 hs'.1 (by omega)
        obtain ⟨b2, k2, m2⟩ := repr_ofAll I l _ _ h2 r2 hs'.2 (by omega)
        rw [AT.dataAll, AT.txtAll, PyData.depthAll]
        exact ⟨b1 ++ b2, (k1.mono (Nat.le_max_left _ _)).append (k2.mono (Nat.le_max_right _ _)), .cons (m1.wide (fun b hb => List.mem_append_left _ hb) (Nat.le_max_left _ _)) (m2.wide (fun b hb => List.mem_append_right _ hb) (Nat.le_max_right _ _))⟩
end
end
end
section
open PySem.Spec PyProof.Rows
variable {X : Cx}
def gdX (X : Cx) (g : List Code) : Cx := { X with A := { X.A with guards := some g } }
theorem gd_inv {pins : List (Addr × Obj)} {σ : L2.St} {H : Hp} {s : Shared} {g : List Code} (I : Inv X pins σ H s) : Inv (gdX X g) pins σ H s :=
  ⟨⟨I.ok.mod, I.ok.kind, I.ok.glob, I.ok.blt, I.ok.above, I.ok.inj, I.ok.has, I.ok.cab, I.ok.hd, I.ok.frames, I.ok.stk, I.ok.exf, I.ok.bs, I.ok.bsz, I.ok.noex, I.ok.exfs, I.ok.funs, I.ok.frf⟩, I.os, I.bare, I.base, I.loc, I.cell, I.free, I.freeC, I.pin, I.hok, I.len⟩
theorem ungd_inv {pins : List (Addr × Obj)} {σ : L2.St} {H : Hp} {s : Shared} {g : List Code} (I : Inv (gdX X g) pins σ H s) : Inv X pins σ H s :=
  ⟨⟨I.ok.mod, I.ok.kind, I.ok.glob, I.ok.blt, I.ok.above, I.ok.inj, I.ok.has, I.ok.cab, I.ok.hd, I.ok.frames, I.ok.stk, I.ok.exf, I.ok.bs, I.ok.bsz, I.ok.noex, I.ok.exfs, I.ok.funs, I.ok.frf⟩, I.os, I.bare, I.base, I.loc, I.cell, I.free, I.freeC, I.pin, I.hok, I.len⟩
theorem gd_in {Γ : PySem.Ctx} {A : Around} (h : Γ.In A) : Γ.In { A with guards := some (Γ.code.guards ++ guardsOf Γ.below) } :=
  ⟨h.1, h.2.1, h.2.2.1, fun g hg => Option.some.inj hg, h.2.2.2.2⟩
theorem gd_room {k : Nat} {g : List Code} {A : Around} (h : Room k A) : Room k { A with guards := some g } := ⟨h.hd, h.dp, h.un⟩
/-- a block, for each list of what is being shown around it -/
theorem pss_gd {b : List Stmt} {t : List Code → TS} (h : ∀ g, PSs (gdX X g) b (t g)) : PSs X b (fun D σ H => ∀ g, t g D σ H) := by
  refine ⟨fun pins s σ H D I q Γ p hΓ => ?_⟩
  have k := (h (Γ.code.guards ++ guardsOf Γ.below)).run pins s σ H D (gd_inv I) (q _)
  refine (wpAny_mono k (fun f s' z => ?_) fun e s' z => z) Γ p (gd_in hΓ)
  cases f with
  | next =>
    obtain ⟨σ', H', J, z⟩ := z
    exact ⟨σ', H', ungd_inv J, z⟩
  | brk =>
    obtain ⟨σ', H', J, z⟩ := z
    exact ⟨σ', H', ungd_inv J, z⟩
  | cont =>
    obtain ⟨σ', H', J, z⟩ := z
    exact ⟨σ', H', ungd_inv J, z⟩
  | ret u =>
    obtain ⟨v, σ', H', J, r, z⟩ := z
    exact ⟨v, σ', H', ungd_inv J, r, z⟩
def rRepr (K : PySem.W.Frag) (g : List Code) : List V → Hp → VK → Prop := fun xs H Q => ∃ (v : V) (t : AT), xs = [v] ∧ Ap K H v t ∧ t.data.showable = true ∧ t.wid ≤ sizeLine ∧ t.data.depth ≤ 40 ∧ Q (.str (t.txt g)) H
theorem call_reprA {g : List Code} (hg : X.A.guards = some g) (hu : X.A.units + 64 < cLine) : CallR X (.builtin "repr") (rRepr X.K g) := by
  intro pins s σ H xs us Q I r h
  obtain ⟨v, t, rfl, ha, hs, hw, hd, q⟩ := h
  obtain ⟨u, rfl, ru⟩ := r.one
  have fin : ∀ (h' : Heap) (k tk : Tok), (∀ b o, s.heap.get? b = some o → h'.get? b = some o) → EP X pins σ Q (.str (t.txt g) k) { s with heap := h', toks := tk } := fun h' k tk hk => ⟨.str _, H, I.kept hk, ⟨_, rfl⟩, q⟩
  have fin0 : EP X pins σ Q (.str (t.txt g) s.toks) { s with toks := s.toks + 1 } := fin s.heap _ _ fun _ _ e => e
  cases t with
  | leaf d =>
    rw [AT.txt] at fin0
    rw [AT.wid] at hw
    cases ha with
    | non =>
      cases ru
      exact PySem.P.repr_of_none fin0
    | bl b =>
      cases ru
      exact PySem.P.repr_of_bool fin0
    | int i =>
      obtain ⟨k, rfl⟩ := ru
      exact PySem.P.repr_of_int (by simpa [AT.data, PyData.showable] using hs) fin0
    | str x =>
      obtain ⟨k, rfl⟩ := ru
      exact PySem.P.repr_of_str fin0 (by simpa only [PyData.shown] using hw)
  | lst a l =>
    have ha0 := ha
    obtain ⟨as, hR⟩ := Dp.reads I _ v u ha.dp ru
    cases ha with
    | lst hq hl =>
      cases ru
      obtain ⟨its, rv, ⟨o, n, ho, hc, _, hdt⟩, _⟩ := I.list hq
      refine call_repr_slot (by omega) ⟨o, ho, hc⟩ F.slot_list_repr.toG ?_
      cases l with
      | nil =>
        cases hl
        cases rv
        rw [AT.txt] at fin
        exact call_list_repr_empty ⟨o, ho, hc⟩ ho hdt ⟨_, _, rfl, fin s.heap _ _ fun _ _ e => e⟩
      | cons t l =>
        rw [AT.data, PyData.showable] at hs
        rw [AT.wid] at hw
        rw [AT.data, PyData.depth] at hd
        obtain ⟨bs, hb, hk⟩ := repr_ofAll (g0 := g) I (t :: l) _ its hl rv hs (by omega)
        rw [AT.data] at hR
        have hna : a ∉ bs := not_mem_of_deeper hR (by simp only [PyData.depth]; omega) hb
        cases hl with
        | cons h1 h2 =>
          cases rv with
          | cons r1 r2 =>
            rw [AT.txtAll] at hk
            rw [AT.txt] at fin
            have hz := txt_wid g (AT.lst a (t :: l))
            rw [AT.txt, AT.wid] at hz
            refine wpAny_call (codeAny_call_builtin_own (Code.quiet_builtin _ (by decide +kernel)) F.entry_list_repr (F.slot_list_repr.toG.check _ _ _ _ _ _ _ _ ⟨o, ho, hc⟩ (F.args_list_repr_1 _) ?_))
            refine list_at (R := callEnd _ _) (n := 0) ho hdt hna (by simpa using hk.len) (fun i y e => hk.item i y (by simpa using e)) F.slot_list_repr.plain hg (Agr.refl _ _) (by show X.A.units + 1 + _ < _; omega) (fun _ _ e => e) (fun h' u tk hk1 => ⟨_, _, rfl, fin h' u tk hk1⟩) fun hB => ?_
            rw [hB] at hz
            have hz2 : (listText (AT.txt g t :: AT.txtAll g l)).length ≤ 6 + AT.widAll (t :: l) := hz
            omega
  | tup a l =>
    obtain ⟨as, hR⟩ := Dp.reads I _ v u ha.dp ru
    cases ha with
    | tup hq hl =>
      cases ru
      obtain ⟨its, rv, ⟨o, ho, hc, n, hdt⟩, _⟩ := I.tuple hq
      refine call_repr_slot (by omega) ⟨o, ho, hc⟩ F.slot_tuple_repr ?_
      rw [AT.data, PyData.showable] at hs
      rw [AT.wid] at hw
      rw [AT.data, PyData.depth] at hd
      obtain ⟨bs, hb, hk⟩ := repr_ofAll (g0 := g) I l _ its hl rv hs (by omega)
      rw [AT.data] at hR
      have hna : a ∉ bs := not_mem_of_deeper hR (by simp only [PyData.depth]; omega) hb
      rw [AT.txt] at fin
      have hz := txt_wid g (AT.tup a l)
      rw [AT.txt, AT.wid] at hz
      refine wpAny_call (codeAny_call_builtin_own (Code.quiet_builtin _ (by decide +kernel)) F.entry_tuple_repr (F.slot_tuple_repr.check _ _ _ _ _ _ _ _ ⟨o, ho, hc⟩ (F.args_tuple_repr_1 _) ?_))
      refine tup_at (R := callEnd _ _) (n := 0) ho hdt hna (by simpa using hk) (isGuard_tuple_repr _) (units_under_tuple_repr _ _) hg (Agr.refl _ _) (by show X.A.units + 1 + _ < _; omega) (fun _ _ e => e) (fun h' u tk hk1 => ⟨_, _, rfl, fin h' u tk hk1⟩) fun hB => ?_
      rw [hB] at hz
      have hz2 : (tupleText (AT.txtAll g l)).length ≤ 6 + AT.widAll l := hz
      omega
end
/-! ### repr, where none is under way: by what the thing is -/
mutual
def dw : PyData → Nat
  | .list xs => 6 + dwAll xs
  | .tuple xs => 6 + dwAll xs
  | d => d.shown.length
def dwAll : List PyData → Nat
  | [] => 0
  | x :: xs => dw x + 2 + dwAll xs
end
section
open PySem.Spec PyProof.Rows
mutual
theorem dp_ap {K : PySem.W.Frag} {H : Hp} : ∀ {v : V} {d : PyData}, Dp K H v d → ∃ t : AT, Ap K H v t ∧ t.data = d ∧ t.wid = dw d ∧ t.txt [] = d.shown
  | _, _, .non => ⟨.leaf .none, .non, by rw [AT.data], by rw [AT.wid, dw] <;> nofun, by rw [AT.txt]⟩
  | _, _, .bl b => ⟨.leaf (.bool b), .bl b, by rw [AT.data], by rw [AT.wid, dw] <;> nofun, by rw [AT.txt]⟩
  | _, _, .int i => ⟨.leaf (.int i), .int i, by rw [AT.data], by rw [AT.wid, dw] <;> nofun, by rw [AT.txt]⟩
  | _, _, .str x => ⟨.leaf (.str x), .str x, by rw [AT.data], by rw [AT.wid, dw] <;> nofun, by rw [AT.txt]⟩
  | _, _, .lst (a := a) h q => by
    obtain ⟨l, h1, h2, h3, h4⟩ := dp_apAll q
    refine ⟨.lst a l, .lst h h1, by rw [AT.data, h2], by rw [AT.wid, dw, h3], ?_⟩
    rw [PyData.shown, ← h4]
    cases l with
    | nil =>
      rw [AT.txt, AT.txtAll]
      exact listText_nil.symm
    | cons t l =>
      rw [AT.txt, AT.txtAll]
      rfl
  | _, _, .tup (a := a) h q => by
    obtain ⟨l, h1, h2, h3, h4⟩ := dp_apAll q
    refine ⟨.tup a l, .tup h h1, by rw [AT.data, h2], by rw [AT.wid, dw, h3], ?_⟩
    rw [PyData.shown, ← h4, AT.txt]
    rfl
theorem dp_apAll {K : PySem.W.Frag} {H : Hp} : ∀ {vs : List V} {ds : List PyData}, DpAll K H vs ds → ∃ l : List AT, ApAll K H vs l ∧ AT.dataAll l = ds ∧ AT.widAll l = dwAll ds ∧ AT.txtAll [] l = PyData.shownAll ds
  | _, _, .nil => ⟨[], .nil, by rw [AT.dataAll], by rw [AT.widAll, dwAll], by rw [AT.txtAll, PyData.shownAll]⟩
  | _, _, .cons h q => by
    obtain ⟨t, a1, a2, a3, a4⟩ := dp_ap h
    obtain ⟨l, b1, b2, b3, b4⟩ := dp_apAll q
    exact ⟨t :: l, .cons a1 b1, by rw [AT.dataAll, a2, b2], by rw [AT.widAll, dwAll, a3, b3], by rw [AT.txtAll, PyData.shownAll, a4, b4]⟩
end
structure Shn (d : PyData) : Prop where
  s : d.showable = true
  w : dw d ≤ sizeLine
  d : d.depth ≤ 40
def rRepG (K : PySem.W.Frag) : List V → Hp → VK → Prop := fun xs H Q => ∃ (v : V) (d : PyData), xs = [v] ∧ Dp K H v d ∧ Shn d ∧ Q (.str d.shown) H
theorem call_reprG {X : Cx} (hg : X.A.guards = some []) (hu : X.A.units + 64 < cLine) : CallR X (.builtin "repr") (rRepG X.K) := by
  intro pins s σ H xs us Q I r h
  obtain ⟨v, d, rfl, hd, hs, q⟩ := h
  obtain ⟨t, h1, h2, h3, h4⟩ := dp_ap hd
  refine call_reprA hg hu pins s σ H _ us Q I r ⟨v, t, rfl, h1, by rw [h2]; exact hs.s, by rw [h3]; exact hs.w, by rw [h2]; exact hs.d, ?_⟩
  rw [h4]
  exact q
end
theorem dw_ints : ∀ {ns : List Int}, (∀ x ∈ ns, -1000000 ≤ x ∧ x ≤ 1000000) → PyData.showableAll (ns.map PyData.int) = true ∧ dwAll (ns.map PyData.int) ≤ 15 * ns.length ∧ PyData.depthAll (ns.map PyData.int) = 0
  | [], _ => ⟨by rw [List.map_nil, PyData.showableAll], by rw [List.map_nil, dwAll]; exact Nat.le_refl _, by rw [List.map_nil, PyData.depthAll]⟩
  | x :: r, h => by
    obtain ⟨a, b, c⟩ := dw_ints fun y hy => h y (List.mem_cons_of_mem _ hy)
    have hx := h x List.mem_cons_self
    have h1 : PyData.showable (.int x) = true := by
      rw [PyData.showable]
      refine decide_eq_true ?_
      have h1 : x.natAbs < 2 ^ 20 := by
        have : (2 : Nat) ^ 20 = 1048576 := by decide
        omega
      by_cases c : x.natAbs = 0
      · rw [c]
        decide
      · exact Nat.lt_trans ((Nat.log2_lt c).mpr h1) (by decide)
    have h2 : (PyData.shown (.int x)).length ≤ 13 := PyData.shown_int_le2 (by omega) (by omega)
    refine ⟨?_, ?_, ?_⟩
    · rw [List.map_cons, PyData.showableAll, h1, a]
      rfl
    · rw [List.map_cons, dwAll, List.length_cons]
      have : dw (.int x) = (PyData.shown (.int x)).length := by rw [dw] <;> nofun
      omega
    · rw [List.map_cons, PyData.depthAll, c, PyData.depth]
      rfl
theorem dw_rows : ∀ {ls : List (List Int)}, (∀ l ∈ ls, l.length ≤ 1000 ∧ ∀ x ∈ l, -1000000 ≤ x ∧ x ≤ 1000000) → PyData.showableAll (ls.map fun l => .list (l.map PyData.int)) = true ∧ dwAll (ls.map fun l => .list (l.map PyData.int)) ≤ 15100 * ls.length ∧ PyData.depthAll (ls.map fun l => .list (l.map PyData.int)) ≤ 1
  | [], _ => ⟨by rw [List.map_nil, PyData.showableAll], by rw [List.map_nil, dwAll]; exact Nat.le_refl _, by rw [List.map_nil, PyData.depthAll]; exact Nat.zero_le _⟩
  | x :: r, h => by
    obtain ⟨a, b, c⟩ := dw_rows fun y hy => h y (List.mem_cons_of_mem _ hy)
    obtain ⟨hl, hx⟩ := h x List.mem_cons_self
    obtain ⟨a1, b1, c1⟩ := dw_ints hx
    refine ⟨?_, ?_, ?_⟩
    · rw [List.map_cons, PyData.showableAll, PyData.showable, a1, a]
      rfl
    · rw [List.map_cons, dwAll, dw, List.length_cons]
      omega
    · rw [List.map_cons, PyData.depthAll, PyData.depth, c1]
      exact Nat.max_le.mpr ⟨by omega, c⟩
theorem shn_rows {ls : List (List Int)} (h : ∀ l ∈ ls, l.length ≤ 1000 ∧ ∀ x ∈ l, -1000000 ≤ x ∧ x ≤ 1000000) (k : ls.length ≤ 100) : Shn (.list (ls.map fun l => .list (l.map PyData.int))) := by
  obtain ⟨a, b, c⟩ := dw_rows h
  have hz : sizeLine = 16777216 := by decide
  refine ⟨?_, ?_, ?_⟩
  · rw [PyData.showable]
    exact a
  · rw [dw]
    omega
  · rw [PyData.depth]
    omega
/-! ### defs that are called while nothing is being shown -/
section
open PySem.Spec PyProof.Rows
/-- a def's promise where no repr is under way -/
structure FnG (P : Program) (w : World) (K : PySem.W.Frag) (mg : Str → Option Value) (base : Heap) (CX : CXT) (k : Nat) (f : Addr) (fd : FuncData) (ps : List Str) (sp : Sp) : Prop where
  len : ∀ vs H Q E, sp vs H Q E → vs.length = ps.length
  run : ∀ (A : Around) (outer : List Env) (s : Shared) (H : Hp) (args : Args) (us : List Value) (vs : List V) (Q : VK) (E : XK), A.guards = some [] → Room k A → Env0 P w K mg base A outer s H → BindsTo s fd args (ps.zip us) → Vals vs us → sp vs H Q E →
    codeAny (model P w) A (.call (.ref f) args) (CR CX outer P w H s Q E) s
variable {P : Program} {w : World} {K : PySem.W.Frag} {mg : Str → Option Value} {base : Heap} {CX : CXT} {k : Nat} {f : Addr} {fd : FuncData} {N ps : List Str} {sp : Sp}
theorem FnG.of (F : FnOk P w K mg base CX k f fd ps sp) : FnG P w K mg base CX k f fd ps sp := ⟨F.len, fun A outer s H args us vs Q E _ => F.run A outer s H args us vs Q E⟩
theorem okG {x qual : Str} {st : Stmt} (F : Fun K x qual st f fd) (S : FnScope N ps (defScope st)) (len : ∀ vs H Q E, sp vs H Q E → vs.length = ps.length)
    (body : ∀ (cdv : Value) (A : Around) (outer : List Env) (s : Shared) (H : Hp) (vs : List V) (Q : VK) (E : XK), A.guards = some [] → Room k (A.deeper (envOfC qual (defScope st) s.heap.objs.size f cdv)) → sp vs H Q E →
      ∃ t, PSs (cxOf CX0 P w K mg base N qual (defScope st) f cdv A outer s H E).nox (defBody st) t ∧ t { nx := fun _ H' => Q .non H', rt := Q } (L2.start N vs) H) : FnG P w K mg base CX0 (k + 1) f fd ps sp := by
  obtain ⟨oc, od, kV, doc, pm, an, cdv, ct, osl, rfl, lk, hcd⟩ := F.ex
  refine ⟨len, fun A outer s H args us vs Q E hgd hr e0 hb r hsp => ?_⟩
  have keeps : ∀ b o, base.get? b = some o → s.heap.get? b = some o := fun b o e => (e0.bs b o e).1
  have KX : K.In s.heap := e0.mod.kin.keeps keeps
  have kinds : ∀ y ∈ ps.zip us, (defScope st).names.lookup y.1 = some .local ∨ ((defScope st).names.lookup y.1 = some .cell ∧ ((cellsFrom (s.heap.objs.size + 1) (defScope st).names []).lookup y.1).isSome = true) := by
    rintro ⟨n, v⟩ hy
    rcases S.par n (List.of_mem_zip hy).1 with q | q
    · exact .inl q
    · exact .inr ⟨q, PySem.W.cellsFrom_some _ _ _ (.inl q)⟩
  refine codeAny_call_function hr.depth (KX _ _ lk) rfl S.co S.gen rfl (PySem.W.codeRec_of KX hcd) (hb _ _ _ _ (wpAny_newFunctionEnv_cells S.kind kinds fun env he s1 x => ?_))
  subst he
  refine ⟨(e0.mod.nolimit.keeps keeps).keeps x.toInCall.keep, codeAny_func ?_⟩
  obtain ⟨t, ht, hq⟩ := body cdv A outer s H vs Q E hgd (hr.deeper _) hsp
  have I := inv_start (CX := CX0) (E := E) S hr.hd e0 (len _ _ _ _ hsp) r x
  refine wpAny_mono (ht.nox.run [] s1 (L2.start N vs) H _ I hq) (fun fl s' z => ?_) fun e s' z => z
  cases fl with
  | ret u =>
    obtain ⟨v, σ', H', J, rv, z⟩ := z
    exact ⟨v, H', J.os, J.bare, J.base, J.hok, rv, z⟩
  | next =>
    obtain ⟨σ', H', J, z⟩ := z
    exact ⟨V.non, H', J.os, J.bare, J.base, J.hok, rfl, z⟩
  | brk =>
    obtain ⟨_, _, _, z⟩ := z
    exact z.elim
  | cont =>
    obtain ⟨_, _, _, z⟩ := z
    exact z.elim
variable {X : Cx} {dvs : List V} {ds : List Value} {E : XK} {x : Str} {p pos : Pos} {e : Expr} {es : List Expr} {t : TA}
theorem pe_callG (F : FnG X.prog X.w X.K X.mg X.base CX k f fd ps sp) (gd : X.A.guards = some []) (hr : Room k X.A) (hg : Gl X x) (hm : X.mg x = some (.ref f)) (hk : PySem.W.keepIn X.K (.ref f) = true) (hb : Binds X.K fd ps ds) (hd : Vals dvs ds) (hx : Passes CX X E) (ha : PA X (e :: es) t)
    (hdb : (x == ("__debug__" : Str)) = false := by decide) (he : starEach (e :: es) X.env = (false, eval e X.env) :: starEach es X.env := by rfl) (hpl : (backTo pos (starEach es X.env)).any (·.1) = false := by rfl) : PE X (.Call (.Name x p) (e :: es) [] pos) (tCall sp dvs E t) := by
  refine ⟨fun pins s σ H Q I h => wpAny_Call_Name_kw (ld_glob I hg hm ?_ hdb)⟩
  refine PySem.W.callWith_K (h₀ := X.base) I.ok.mod.kin hk (thn (ha.run pos pins s σ H _ I h) fun us s1 ⟨vs, H1, J, r, q⟩ => ⟨J.kIn, ?_⟩) he hpl
  have r2 : Vals (vs ++ dvs) (us ++ ds) := r.append hd
  refine wpAny_call (codeAny_mono (F.run X.A X.stack s1 H1 ⟨us, []⟩ (us ++ ds) (vs ++ dvs) Q E gd hr J.env0 (hb s1 us J.kIn (by rw [← r2.length]; exact F.len _ _ _ _ q)) r2 q) fun z s' hz => ?_)
  cases z with
  | error u => exact hx pins σ H1 s1 u s' J hz
  | ok fl =>
    cases fl with
    | ret u => exact J.after hz
    | next => exact hz.elim
    | brk => exact hz.elim
    | cont => exact hz.elim
end
section
open PySem.Spec PyProof.Rows
/-- the law's own call: nothing is being shown around it -/
theorem law_callG {P : Program} {w : World} {K : PySem.W.Frag} {mg mb : Str → Option Value} {k : Nat} {fa a : Addr} {fd : FuncData} {x : Str} {sp : Sp} {s1 : Shared} {vs : List Value} {ns : List Int} (KX : K.In s1.heap) (hns : s1.heap.Ns mainGlobals mg) (hb : s1.heap.Ns builtinsNs mb)
    (hbb : ∀ x : Str, x ≠ "__name__" → mb x = bootBuiltins x) (hlim : s1.heap.NoLimit) (hg : s1.gens = #[]) (ha : s1.heap.get? a = some { cls := .type "list", data := .seq vs.toArray }) (hi : IntsAre vs ns) (hl : ns.length ≤ sizeLine) (hr : Room k callerA)
    (F : ∀ base : Heap, K.In base → base.Ns mainGlobals mg → FnG P w K mg base CX0 k fa fd [x] sp) (hbind : ∀ (s : Shared) (u : Value), BindsTo s fd ⟨[u], []⟩ [(x, u)]) (hsp : ∀ H : Hp, Only H → SqL K H a (ns.map V.int) → sp [.ref a] H (fun v _ => v = .bl true) fun _ _ _ => False)
    : codeAny (model P w) callerA (.call (.ref fa) ⟨[.ref a], []⟩) (fun r s' => r = .ok (.ret (.bool true)) ∧ OldK s1.heap s'.heap ∧ s'.os = s1.os ∧ AllBare s'.gens) s1 := by
  have rv := vals_ints hi
  have lv := hi.length
  have main : ∀ H : Hp, Only H → SqL K H a (ns.map V.int) → HOk P w H s1.heap → (∀ b u, H b = some u → b = a) → (∀ u, H a = some u → K.lookup a = none) →
      codeAny (model P w) callerA (.call (.ref fa) ⟨[.ref a], []⟩) (fun r s' => r = .ok (.ret (.bool true)) ∧ OldK s1.heap s'.heap ∧ s'.os = s1.os ∧ AllBare s'.gens) s1 := by
    intro H hO hS hok hA hK
    have isn : ∀ {b : Addr}, b ≠ a → H b = none := fun {b} n => by
      cases q : H b with
      | none => rfl
      | some u => exact absurd (hA b u q) n
    have bn : ∀ {b : Addr} {m : Str → Option Value}, s1.heap.Ns b m → (hidT s1.heap H).Ns b m := by
      rintro b m ⟨o, es, ep, e, d, r⟩
      refine ⟨o, es, ep, hidT_get e (isn fun z => ?_), d, r⟩
      rw [z, ha] at e
      cases e
      cases d
    have bK : K.In (hidT s1.heap H) := fun b o e => hidT_get (KX b o e) (by
      cases q : H b with
      | none => rfl
      | some u =>
        have z := hA b u q
        subst z
        rw [hK u q] at e
        cases e)
    have lm : (hidT s1.heap H).NoLimit := by
      obtain ⟨mc, h1, h2⟩ := hlim
      exact ⟨mc, bn h1, h2⟩
    have e0 : Env0 P w K mg (hidT s1.heap H) callerA [] s1 H := ⟨rfl, ⟨bK, bn hns, ⟨mb, bn hb, hbb⟩, lm⟩, fun b o e => of_hidT e, Nat.le_of_eq (hidT_size _ _), trivial, (fun b z => nomatch z), hok, .of_eq hg⟩
    refine codeAny_mono ((F _ bK (bn hns)).run callerA [] s1 H ⟨[.ref a], []⟩ [.ref a] [.ref a] _ _ rfl hr e0 (hbind s1 (.ref a)) (.cons rfl .nil) (hsp H hO hS)) fun r s' h => ?_
    cases r with
    | error e => exact False.elim h
    | ok fl =>
      cases fl with
      | next => exact False.elim h
      | brk => exact False.elim h
      | cont => exact False.elim h
      | ret u =>
        obtain ⟨v, H', os, bare, un, hok', r', q⟩ := h
        have qv : v = .bl true := q
        subst qv
        obtain rfl : u = Value.bool true := r'
        refine ⟨rfl, OldK.of_keep fun b o e => ?_, os, bare⟩
        cases q : H b with
        | none => exact un.keep b o e q (fun z => nomatch z) (fun z => nomatch z)
        | some u =>
          rcases hO b with z | ⟨ob, xs, z⟩
          · rw [z] at q
            cases q
          · obtain ⟨e1, _⟩ := hok b _ z
            obtain ⟨e2, _⟩ := hok' b _ (un.frzs b ob _ z)
            rw [e1] at e
            cases e
            exact e2
  cases hk : K.lookup a with
  | some o =>
    have e := (KX a o hk).symm.trans ha
    cases e
    exact main (fun _ => none) (fun _ => .inl rfl) (.inr ⟨_, vs.toArray, _, hk, rfl, rfl, rfl, by rw [List.size_toArray, lv]; exact hl, by simpa using rv⟩) (fun b u z => nomatch z) (fun b u z => nomatch z) fun u z => nomatch z
  | none =>
    have gA : ∀ b u, (if b = a then some (HO.frz { cls := .type "list", data := .seq vs.toArray } (.lst (ns.map V.int))) else none) = some u → b = a ∧ u = HO.frz { cls := .type "list", data := .seq vs.toArray } (.lst (ns.map V.int)) := by
      intro b u z
      by_cases c : b = a
      · rw [if_pos c] at z
        exact ⟨c, (Option.some.inj z).symm⟩
      · rw [if_neg c] at z
        cases z
    refine main (fun b => if b = a then some (.frz { cls := .type "list", data := .seq vs.toArray } (.lst (ns.map V.int))) else none) (fun b => ?_) (.inl (.inr ⟨{ cls := .type "list", data := .seq vs.toArray }, if_pos rfl⟩)) (fun b u z => ?_) (fun b u z => (gA b u z).1) fun _ _ => hk
    · by_cases c : b = a
      · exact .inr ⟨_, _, if_pos c⟩
      · exact .inl (if_neg c)
    · obtain ⟨rfl, rfl⟩ := gA b u z
      exact ⟨ha, by rw [List.length_map]; exact hl, vs, _, rv, ha⟩
theorem walk_ofG {l : PySem.W.OpenLaw} {n k : Nat} {q : Program} {loose : List Str} {XP : (Str → Option Value) → Heap → Prop} {YP : World → Heap → Prop} {d : DefRec} {K : Params → PySem.W.Frag} {sp : World → Sp} {x : Str} (hn : l.most = some n) (hn2 : n ≤ sizeLine) (hdf : d.params.defaults = []) (hr : Room k callerA)
    (hY : ∀ (w : World) (h : Heap), YP w h → (K w.params).In h)
    (F : ∀ (w : World) (mg : Str → Option Value) (fa : Addr) (h : Heap), (K w.params).In h → h.Ns mainGlobals mg → mg d.name = some (.ref fa) → ∃ fd : FuncData, (∀ (s : Shared) (u : Value), BindsTo s fd ⟨[u], []⟩ [(x, u)]) ∧ ∀ base : Heap, (K w.params).In base → base.Ns mainGlobals mg → FnG l.prog w (K w.params) mg base CX0 k fa fd [x] (sp w))
    (hsp : ∀ (w : World) (H : Hp) (a : Addr) (ns : List Int), ns.length ≤ n → Only H → SqL (K w.params) H a (ns.map V.int) → sp w [.ref a] H (fun v _ => v = .bl true) fun _ _ _ => False) : PySem.W.WalkO q loose XP YP l.row.toRowW d [] (fun f vs => PySem.call f vs) := by
  refine Att.attach_call hn hdf fun w s₀ s1 mg mb fa o pm cd doc a vs ns G Y ho hd hcd hmg hobj hints hlen hg => ?_
  obtain ⟨fd, hb, hF⟩ := F w mg fa _ (hY w _ Y) G.T.g hmg
  exact law_callG (hY w _ Y) G.T.g G.T.b G.T.builtins G.T.nolimit hg hobj hints (Nat.le_trans hlen hn2) hr hF hb fun H hO hS => hsp w H a ns hlen hO hS
end
theorem ned_ints {K : PySem.W.Frag} {H : Hp} {a b : Addr} {ns ms : List Int} {Q : VK} (ha : SqL K H a (ns.map V.int)) (hb : SqL K H b (ms.map V.int)) (q : Q (.bl (!decide (ns = ms))) H) : rNeD K (.ref a) (.ref b) H Q := by
  refine ⟨_, _, .lst ha (dp_ints ns), .lst hb (dp_ints ms), PySem.W.ke_shaped_ints ns, PySem.W.ke_shaped_ints ms, ?_⟩
  have e : PyData.eqv (.list (ns.map PyData.int)) (.list (ms.map PyData.int)) = decide (ns = ms) := by
    rw [PyData.eqv]
    exact eqv_ints ns ms
  rw [e]
  exact q
/-! ### things, by what they are -/
def intD : PyData → Bool
  | .int _ => true
  | _ => false
def tyD : PyData → String
  | .none => "NoneType"
  | .bool _ => "bool"
  | .int _ => "int"
  | .str _ => "str"
  | .list _ => "list"
  | .tuple _ => "tuple"
  | .dict _ => "dict"
theorem kdD {K : PySem.W.Frag} {H : Hp} {v : V} {d : PyData} (h : Dp K H v d) : Kd K H v (tyD d) := by
  cases h with
  | non => exact .non
  | bl b => exact .bl b
  | int i => exact .int i
  | str x => exact .str x
  | lst h _ => exact .lst h
  | tup h _ => exact .tup h
theorem tyD_int (d : PyData) : (tyD d == "int") = intD d := by
  cases d <;> rfl
/-! ### small things -/
structure Sm (B k : Nat) (d : PyData) : Prop where
  l : d.canLay0 = true
  s : d.showable = true
  w : dw d ≤ B
  p : d.depth ≤ k
theorem Sm.up {B k B' k' : Nat} {d : PyData} (h : Sm B k d) (e : B ≤ B') (f : k ≤ k') : Sm B' k' d := ⟨h.l, h.s, Nat.le_trans h.w e, Nat.le_trans h.p f⟩
theorem sm_all {B k : Nat} : ∀ {ds : List PyData}, (∀ d ∈ ds, Sm B k d) → PyData.canLayAll0 ds = true ∧ PyData.showableAll ds = true ∧ dwAll ds ≤ (B + 2) * ds.length ∧ PyData.depthAll ds ≤ k
  | [], _ => ⟨by rw [PyData.canLayAll0], by rw [PyData.showableAll], by rw [dwAll]; exact Nat.zero_le _, by rw [PyData.depthAll]; exact Nat.zero_le _⟩
  | d :: r, h => by
    obtain ⟨a, b, c, e⟩ := sm_all fun x hx => h x (List.mem_cons_of_mem _ hx)
    have hd := h d List.mem_cons_self
    refine ⟨by rw [PyData.canLayAll0, hd.l, a]; rfl, by rw [PyData.showableAll, hd.s, b]; rfl, ?_, by rw [PyData.depthAll]; exact Nat.max_le.mpr ⟨hd.p, e⟩⟩
    have := hd.w
    rw [dwAll, List.length_cons, Nat.mul_succ]
    omega
theorem Sm.lst {B k n : Nat} {ds : List PyData} (hn : ds.length ≤ n) (h : ∀ d ∈ ds, Sm B k d) : Sm (6 + (B + 2) * n) (k + 1) (.list ds) := by
  obtain ⟨a, b, c, e⟩ := sm_all h
  have := Nat.mul_le_mul_left (B + 2) hn
  exact ⟨by rw [PyData.canLay0]; exact a, by rw [PyData.showable]; exact b, by rw [dw]; omega, by rw [PyData.depth]; omega⟩
theorem Sm.tup {B k n : Nat} {ds : List PyData} (hn : ds.length ≤ n) (h : ∀ d ∈ ds, Sm B k d) : Sm (6 + (B + 2) * n) (k + 1) (.tuple ds) := by
  obtain ⟨a, b, c, e⟩ := sm_all h
  have := Nat.mul_le_mul_left (B + 2) hn
  exact ⟨by rw [PyData.canLay0]; exact a, by rw [PyData.showable]; exact b, by rw [dw]; omega, by rw [PyData.depth]; omega⟩
theorem Sm.shn {B k : Nat} {d : PyData} (h : Sm B k d) (e : B ≤ 16777216) (f : k ≤ 40) : Shn d := by
  have hz : sizeLine = 16777216 := by decide
  exact ⟨h.s, by have := h.w; omega, Nat.le_trans h.p f⟩
theorem Sm.shaped {B k : Nat} {d : PyData} (h : Sm B k d) (f : k ≤ 64) : SeqAt.shaped d = true := by
  unfold SeqAt.shaped
  rw [h.l, decide_eq_true (Nat.le_trans h.p f)]
  rfl
theorem sm_int {i : Int} (h : i.natAbs ≤ 100000000000) : Sm 13 0 (.int i) := by
  have h1 : PyData.showable (.int i) = true := by
    rw [PyData.showable]
    refine decide_eq_true ?_
    have h1 : i.natAbs < 2 ^ 40 := by
      have : (2 : Nat) ^ 40 = 1099511627776 := by decide
      omega
    by_cases c : i.natAbs = 0
    · rw [c]
      decide
    · exact Nat.lt_trans ((Nat.log2_lt c).mpr h1) (by decide)
  have h2 : (PyData.shown (.int i)).length ≤ 13 := PyData.shown_int_le2 (by omega) (by omega)
  have h3 : dw (.int i) = (PyData.shown (.int i)).length := by rw [dw] <;> nofun
  exact ⟨by rw [PyData.canLay0], h1, by omega, by rw [PyData.depth]; exact Nat.le_refl _⟩
theorem sm_non : Sm 13 0 .none := ⟨by rw [PyData.canLay0], by rw [PyData.showable], by decide +kernel, by rw [PyData.depth]; exact Nat.le_refl _⟩
theorem sm_bl (b : Bool) : Sm 13 0 (.bool b) := ⟨by rw [PyData.canLay0], by rw [PyData.showable], by cases b <;> decide +kernel, by rw [PyData.depth]; exact Nat.le_refl _⟩
theorem sm_e : Sm 13 0 (.str "") := ⟨by decide +kernel, by rw [PyData.showable], by decide +kernel, by rw [PyData.depth]; exact Nat.le_refl _⟩
theorem sm_0 : Sm 13 0 (.str "0") := ⟨by decide +kernel, by rw [PyData.showable], by decide +kernel, by rw [PyData.depth]; exact Nat.le_refl _⟩
section
open PySem.Spec PyProof.Rows
variable {P : Program} {w : World} {K : PySem.W.Frag} {mg : Str → Option Value} {base : Heap}
theorem fnor {CX : CXT} {k : Nat} {f : Addr} {fd : FuncData} {ps : List Str} {sp sp1 sp2 : Sp} (G1 : FnOk P w K mg base CX k f fd ps sp1) (G2 : FnOk P w K mg base CX k f fd ps sp2) (h : ∀ vs H Q E, sp vs H Q E → sp1 vs H Q E ∨ sp2 vs H Q E) : FnOk P w K mg base CX k f fd ps sp :=
  ⟨fun vs H Q E x => (h vs H Q E x).elim (G1.len vs H Q E) (G2.len vs H Q E), fun A outer s H args us vs Q E hr e0 hb r x => (h vs H Q E x).elim (G1.run A outer s H args us vs Q E hr e0 hb r) (G2.run A outer s H args us vs Q E hr e0 hb r)⟩
end
abbrev s__law_same : Stmt := top 29
abbrev N__law_same : List Str := ["_law_found", "_law_due", "_law_one", "_law_two"]
abbrev P__law_same : List Str := ["_law_found", "_law_due"]
theorem sc__law_same : FnScope N__law_same P__law_same (defScope s__law_same) := ⟨rfl, rfl, rfl, by decide +kernel, rfl, by decide +kernel, by decide +kernel⟩
section
variable {P : Program} {w : World} {K : PySem.W.Frag} {mg : Str → Option Value} {base : Heap}
theorem same_step {f : Addr} {fd : FuncData} {n : Nat} {spI : Sp} (D__law_same : Df K mg "_law_same" s__law_same P__law_same f fd) (T : Blt mg) (G__law_same : FnOk P w K mg base CX0 n f fd P__law_same spI) (hG : ∀ m, n = m + 1 → spI = spSame K m) : FnOk P w K mg base CX0 (n + 1) f fd P__law_same (spSame K n) := by
  have nd := sc__law_same.nd
  refine D__law_same.F.ok sc__law_same (fun vs H Q E h => ?_) (fun cdv A outer s H vs Q E hr h => ?_)
  · obtain ⟨x, y, d, rfl, _⟩ := h
    rfl
  · obtain ⟨x, y, d, rfl, hx, hy, hf, q⟩ := h
    refine ⟨_, (pss_cons (ps_if (pt_val (pe_callB (r := rIsiT K) call_isiT (by rfl) T.b_isinstance (by decide +kernel) (pa_cons (pv 1) (pa_cons (pe_tup (pa_cons (pe_bltn (v := .ty "list") (by rfl) T.b_list (by decide +kernel) rfl) (pa_cons (pe_bltn (v := .ty "tuple") (by rfl) T.b_tuple (by decide +kernel) rfl) pa_nil))) pa_nil)))) (pss_cons (ps_if (PW.pt (pw_or (pt_cmpR op_ne (pe_callB (r := rIsi K) call_isi (by rfl) T.b_isinstance (by decide +kernel) (pa_cons (pv 0) (pa_cons (pe_bltn (v := .ty "list") (by rfl) T.b_list (by decide +kernel) rfl) pa_nil))) (pe_callB (r := rIsi K) call_isi (by rfl) T.b_isinstance (by decide +kernel) (pa_cons (pv 1) (pa_cons (pe_bltn (v := .ty "list") (by rfl) T.b_list (by decide +kernel) rfl) pa_nil))) (nomark _)) (pw_or1 (pt_cmpR op_ne (pe_callB (r := rIsi K) call_isi (by rfl) T.b_isinstance (by decide +kernel) (pa_cons (pv 0) (pa_cons (pe_bltn (v := .ty "tuple") (by rfl) T.b_tuple (by decide +kernel) rfl) pa_nil))) (pe_callB (r := rIsi K) call_isi (by rfl) T.b_isinstance (by decide +kernel) (pa_cons (pv 1) (pa_cons (pe_bltn (v := .ty "tuple") (by rfl) T.b_tuple (by decide +kernel) rfl) pa_nil))) (nomark _))))) (pss_one (ps_ret (pe_bl))) pss_nil)
      (pss_cons (ps_if (pt_cmpR op_ne (pe_callB (r := rLenQ K) call_len_seq (by rfl) T.b_len (by decide +kernel) (pa_cons (pv 0) pa_nil)) (pe_callB (r := rLenQ K) call_len_seq (by rfl) T.b_len (by decide +kernel) (pa_cons (pv 1) pa_nil)) (nomark _)) (pss_one (ps_ret (pe_bl))) pss_nil)
      (pss_one (ps_ret (pe_callB (r := rAll K) (cr_all rfl) (by rfl) T.b_all (by decide +kernel) (pa_cons (pe_lc (own := [("_law_one", 2), ("_law_two", 3)]) (g := gTup K 2 (gCons (gName 2) (gCons (gName 3) gNil))) (by rfl) nd (RZ.pi_zipA (by rfl) T.b_zip (pa_cons (pv 0) (pa_cons (pv 1) pa_nil))) (blkOk_by (own := [("_law_one", 2), ("_law_two", 3)]) (N := N__law_same) (sc := defScope s__law_same) (by decide +kernel)) (fun _ _ _ _ _ => (pg_tup (by rfl) (pgs_cons (pg_name (i := 2) nd rfl (Or.inl rfl)) (pgs_cons (pg_name (i := 3) nd rfl (Or.inl rfl)) pgs_nil)))) (fun _ _ _ _ _ => pts_nil) (fun _ _ _ _ _ => (pe_call G__law_same (hr.mono (by omega)) (by rfl) D__law_same.g D__law_same.F.kp D__law_same.b .nil pass0 (pa_cons (pv 2) (pa_cons (pv 3) pa_nil))))) pa_nil)))))) pss_nil)
      (pss_cons (ps_if (PW.pt (pw_or (pt_cmpR op_isN (pv 1) (pe_non) (nomark _)) (pw_or1 (pt_val (pe_callB (r := rIsi K) call_isi (by rfl) T.b_isinstance (by decide +kernel) (pa_cons (pv 1) (pa_cons (pe_bltn (v := .ty "str") (by rfl) T.b_str (by decide +kernel) rfl) pa_nil))))))) (pss_one (ps_ret (pe_and (pe_cmpR op_eq (pv 0) (pv 1) (nomark _)) (pe_one (pe_cmpR op_eq (pe_callB (r := rIsi K) call_isi (by rfl) T.b_isinstance (by decide +kernel) (pa_cons (pv 0) (pa_cons (pe_bltn (v := .ty "str") (by rfl) T.b_str (by decide +kernel) rfl) pa_nil))) (pe_callB (r := rIsi K) call_isi (by rfl) T.b_isinstance (by decide +kernel) (pa_cons (pv 1) (pa_cons (pe_bltn (v := .ty "str") (by rfl) T.b_str (by decide +kernel) rfl) pa_nil))) (nomark _)))))) pss_nil)
      (pss_one (ps_ret (pe_and (pe_callB (r := rIsi K) call_isi (by rfl) T.b_isinstance (by decide +kernel) (pa_cons (pv 0) (pa_cons (pe_bltn (v := .ty "int") (by rfl) T.b_int (by decide +kernel) rfl) pa_nil))) (pe_and (pe_cmpR op_eq (pe_callB (r := rIsi K) call_isi (by rfl) T.b_isinstance (by decide +kernel) (pa_cons (pv 0) (pa_cons (pe_bltn (v := .ty "bool") (by rfl) T.b_bool (by decide +kernel) rfl) pa_nil))) (pe_callB (r := rIsi K) call_isi (by rfl) T.b_isinstance (by decide +kernel) (pa_cons (pv 1) (pa_cons (pe_bltn (v := .ty "bool") (by rfl) T.b_bool (by decide +kernel) rfl) pa_nil))) (nomark _)) (pe_one (pe_cmpR op_eq (pv 0) (pv 1) (nomark _))))))))), ?_⟩
    cases hx with
    | non =>
      cases hy
      walk_at "ev"
      intro p hp
      generalize hH : upd _ p _ = H1
      obtain ⟨sm, hp1⟩ := newO hH hp
      have kd : Kd K H1 .non "NoneType" := .non
      have ty := kd.ty
      obtain ⟨k1, k2, k3, k4, k5⟩ := kd.kit
      have ka := kit_lt k4 k5
      walk_at "ev"
      exact q_dec (q _ sm)
    | bl b =>
      cases hy
      walk_at "ev"
      intro p hp
      generalize hH : upd _ p _ = H1
      obtain ⟨sm, hp1⟩ := newO hH hp
      have kd : Kd K H1 (.bl b) "bool" := .bl b
      have ty := kd.ty
      obtain ⟨k1, k2, k3, k4, k5⟩ := kd.kit
      have ka := kit_lt k4 k5
      walk_at "ev"
      exact q_dec (q _ sm)
    | int i =>
      cases hy
      walk_at "ev"
      intro p hp
      generalize hH : upd _ p _ = H1
      obtain ⟨sm, hp1⟩ := newO hH hp
      have kd : Kd K H1 (.int i) "int" := .int i
      have ty := kd.ty
      obtain ⟨k1, k2, k3, k4, k5⟩ := kd.kit
      have ka := kit_lt k4 k5
      walk_at "ev"
      exact q_dec (q _ sm)
    | str z =>
      cases hy
      walk_at "ev"
      intro p hp
      generalize hH : upd _ p _ = H1
      obtain ⟨sm, hp1⟩ := newO hH hp
      have kd : Kd K H1 (.str z) "str" := .str z
      have ty := kd.ty
      obtain ⟨k1, k2, k3, k4, k5⟩ := kd.kit
      have ka := kit_lt k4 k5
      walk_at "ev"
      exact q_dec (q _ sm)
    | lst hs ha =>
      rename_i a xs ds
      cases hy with
      | lst ht hb =>
      rename_i b ys
      have el : ys.length = xs.length := (dpall_len hb).trans (dpall_len ha).symm
      have el' : V.int (xs.length : Int) = V.int (ys.length : Int) := by rw [el]
      cases n with
      | zero => exact hf.elim
      | succ n =>
      have hf' : ds.length ≤ 4000 ∧ ∀ e ∈ ds, Fit n e := hf
      have hS := hG n rfl
      subst hS
      walk_at "ev"
      intro p hp
      generalize hH : upd _ p _ = H1
      obtain ⟨sm, hp1⟩ := newO hH hp
      have hs1 := sm.seq hs
      have ht1 := sm.seq ht
      have kd : Kd K H1 (.ref a) "list" := .lst hs1
      have ty := kd.ty
      have kd' : Kd K H1 (.ref b) "list" := .lst ht1
      have ty' := kd'.ty
      obtain ⟨k1, k2, k3, k4, k5⟩ := kd.kit
      have ka := kit_lt k4 k5
      walk_at "ev"
      refine .inl ⟨hs1, ht1, fun D hD => ?_⟩
      refine lc_pairs (xs := xs) (ys := ys) (fun i H' => Hold (Same H1 H' ∧ H' D = some (.lst ((List.replicate i true).map V.bl)))) (.mk ⟨same_new hD, upd_same⟩) ?_ ?_ ?_ ?_ ?_
      · intro i H' hP hi
        obtain ⟨sm2, hD2⟩ := hP.un
        have hi2 : i < ys.length := by omega
        exact ⟨xs, ys, _, _, sm2.seq hs1, sm2.seq ht1, List.getElem?_eq_getElem hi, List.getElem?_eq_getElem hi2⟩
      · intro i H' v H'' hP hi yl
        obtain ⟨sm2, hD2⟩ := hP.un
        obtain ⟨T, x, y, e1, e2, e3, f1, f2⟩ := yl
        exact ⟨T, x, y, e1, e2, e3, f1 _ (sm2.seq hs1), f2 _ (sm2.seq ht1)⟩
      · intro H' hP
        obtain ⟨sm2, hD2⟩ := hP.un
        exact ⟨xs, ys, sm2.seq hs1, sm2.seq ht1, .inl (Nat.le_refl _)⟩
      · intro i x y T' H' H'' hx hy hP hT e
        obtain ⟨sm2, hD2⟩ := hP.un
        obtain ⟨sm3, hT3⟩ := newO e.symm hT
        have hT4 : SqT K H'' T' [x, y] := SqT.of hT3
        obtain ⟨d, hd, hdx⟩ := dpall_get ha hx
        obtain ⟨d', hd', hdy⟩ := dpall_get hb hy
        have ed : d' = d := Option.some.inj (hd'.symm.trans hd)
        subst ed
        have sm4 : Same H H'' := (sm.trans sm2).trans sm3
        have dx := dp_same sm4 hdx
        have dy := dp_same sm4 hdy
        have ft := hf'.2 _ (List.mem_of_getElem? hd)
        have hil : i < xs.length := (List.getElem?_eq_some_iff.mp hx).1
        have hdl := dpall_len ha
        have hlen : i ≤ 4000 := by omega
        walk_at "ev"
        intro H5 sm5
        have hD5 := sm5 _ _ (sm3 _ _ hD2)
        refine ⟨_, hD5, szm (by simp; omega), .mk ⟨same_mut ((sm2.trans sm3).trans sm5) hD, ?_⟩⟩
        rw [upd_same, List.replicate_succ', List.map_append]
        rfl
      · intro H' hP
        obtain ⟨sm2, hD2⟩ := hP.un
        refine ⟨D, List.replicate xs.length true, rfl, SqL.of hD2, ?_⟩
        rw [all_true]
        exact q _ (sm.trans sm2)
    | tup hs ha =>
      rename_i a xs ds
      cases hy with
      | tup ht hb =>
      rename_i b ys
      have el : ys.length = xs.length := (dpall_len hb).trans (dpall_len ha).symm
      have el' : V.int (xs.length : Int) = V.int (ys.length : Int) := by rw [el]
      cases n with
      | zero => exact hf.elim
      | succ n =>
      have hf' : ds.length ≤ 4000 ∧ ∀ e ∈ ds, Fit n e := hf
      have hS := hG n rfl
      subst hS
      walk_at "ev"
      intro p hp
      generalize hH : upd _ p _ = H1
      obtain ⟨sm, hp1⟩ := newO hH hp
      have hs1 := same_t sm hs
      have ht1 := same_t sm ht
      have kd : Kd K H1 (.ref a) "tuple" := .tup hs1
      have ty := kd.ty
      have kd' : Kd K H1 (.ref b) "tuple" := .tup ht1
      have ty' := kd'.ty
      obtain ⟨k1, k2, k3, k4, k5⟩ := kd.kit
      have ka := kit_lt k4 k5
      walk_at "ev"
      refine .inr ⟨hs1, ht1, fun D hD => ?_⟩
      refine lc_pairs (xs := xs) (ys := ys) (fun i H' => Hold (Same H1 H' ∧ H' D = some (.lst ((List.replicate i true).map V.bl)))) (.mk ⟨same_new hD, upd_same⟩) ?_ ?_ ?_ ?_ ?_
      · intro i H' hP hi
        obtain ⟨sm2, hD2⟩ := hP.un
        have hi2 : i < ys.length := by omega
        exact ⟨xs, ys, _, _, same_t sm2 hs1, same_t sm2 ht1, List.getElem?_eq_getElem hi, List.getElem?_eq_getElem hi2⟩
      · intro i H' v H'' hP hi yl
        obtain ⟨sm2, hD2⟩ := hP.un
        obtain ⟨T, x, y, e1, e2, e3, f1, f2⟩ := yl
        exact ⟨T, x, y, e1, e2, e3, f1 _ (same_t sm2 hs1), f2 _ (same_t sm2 ht1)⟩
      · intro H' hP
        obtain ⟨sm2, hD2⟩ := hP.un
        exact ⟨xs, ys, same_t sm2 hs1, same_t sm2 ht1, .inl (Nat.le_refl _)⟩
      · intro i x y T' H' H'' hx hy hP hT e
        obtain ⟨sm2, hD2⟩ := hP.un
        obtain ⟨sm3, hT3⟩ := newO e.symm hT
        have hT4 : SqT K H'' T' [x, y] := SqT.of hT3
        obtain ⟨d, hd, hdx⟩ := dpall_get ha hx
        obtain ⟨d', hd', hdy⟩ := dpall_get hb hy
        have ed : d' = d := Option.some.inj (hd'.symm.trans hd)
        subst ed
        have sm4 : Same H H'' := (sm.trans sm2).trans sm3
        have dx := dp_same sm4 hdx
        have dy := dp_same sm4 hdy
        have ft := hf'.2 _ (List.mem_of_getElem? hd)
        have hil : i < xs.length := (List.getElem?_eq_some_iff.mp hx).1
        have hdl := dpall_len ha
        have hlen : i ≤ 4000 := by omega
        walk_at "ev"
        intro H5 sm5
        have hD5 := sm5 _ _ (sm3 _ _ hD2)
        refine ⟨_, hD5, szm (by simp; omega), .mk ⟨same_mut ((sm2.trans sm3).trans sm5) hD, ?_⟩⟩
        rw [upd_same, List.replicate_succ', List.map_append]
        rfl
      · intro H' hP
        obtain ⟨sm2, hD2⟩ := hP.un
        refine ⟨D, List.replicate xs.length true, rfl, SqL.of hD2, ?_⟩
        rw [all_true]
        exact q _ (sm.trans sm2)
theorem ok_same {f : Addr} {fd : FuncData} (D__law_same : Df K mg "_law_same" s__law_same P__law_same f fd) (T : Blt mg) : ∀ n : Nat, FnOk P w K mg base CX0 (n + 1) f fd P__law_same (spSame K n)
  | 0 => same_step (spI := fun _ _ _ _ => False) D__law_same T ⟨fun _ _ _ _ h => h.elim, fun _ _ _ _ _ _ _ _ _ _ _ _ _ h => h.elim⟩ (fun m h => by omega)
  | n + 1 => same_step D__law_same T (ok_same D__law_same T n) (fun m h => by cases h; rfl)
end
def shM : Nat → Int → Int → Bool
  | 0, _, _ => true
  | k + 1, x, y => if y = 0 then decide (1 < x) else shM k y (x % y)
abbrev s__law_shares : Stmt := top 30
abbrev N__law_shares : List Str := ["_law_one", "_law_two", "_law_turn"]
abbrev P__law_shares : List Str := ["_law_one", "_law_two"]
theorem sc__law_shares : FnScope N__law_shares P__law_shares (defScope s__law_shares) := ⟨rfl, rfl, rfl, by decide +kernel, rfl, by decide +kernel, by decide +kernel⟩
def spShM : Sp := fun vs H Q _ => ∃ (x y : Int), vs = [.int x, .int y] ∧ 0 ≤ x ∧ 0 ≤ y ∧ Q (.bl (shM 64 x y)) H
section
variable {P : Program} {w : World} {K : PySem.W.Frag} {mg : Str → Option Value} {base : Heap}
theorem ok_shm {f : Addr} {fd : FuncData} {k : Nat} (F : Fun K "_law_shares" "_law_shares" s__law_shares f fd) (T : Blt mg) : FnOk P w K mg base CX0 (k + 1) f fd P__law_shares spShM := by
  have nd := sc__law_shares.nd
  refine F.ok sc__law_shares (fun vs H Q E h => ?_) (fun cdv A outer s H vs Q E hr h => ?_)
  · obtain ⟨x, y, rfl, _⟩ := h
    rfl
  · obtain ⟨x, y, rfl, hx, hy, q⟩ := h
    refine ⟨_, (pss_cons (ps_for PassesOwn.never rfl (pi_range1 (by rfl) T.b_range (pa_cons (pe_int) pa_nil)) (pg_name (i := 2) nd rfl (Or.inl rfl))
      (pss_cons (ps_if (pt_cmpR op_eq (pv 1) (pe_int) (nomark _)) (pss_one (ps_ret (pe_cmpR op_gt (pv 0) (pe_int) (nomark _)))) pss_nil)
      (pss_one (ps_par (i := 0) (j := 1) (by rfl) nd rfl rfl (by decide) rfl rfl (pa_cons (pv 1) (pa_cons (pe_op op_mod (pv 0) (pv 1)) pa_nil)) (by rfl)))))
      (pss_one (ps_ret (pe_bl)))), ?_⟩
    walk_at "ev"
    refine for_range (lo := 0) (n := (64 : Int).toNat) (fun i σ H' => Hold (∃ (x' y' : Int) (s2 : Option V), σ = [some (.int x'), some (.int y'), s2] ∧ 0 ≤ x' ∧ 0 ≤ y' ∧ i ≤ 64 ∧ shM (64 - i) x' y' = shM 64 x y ∧ H' = H)) (.mk ⟨x, y, none, rfl, hx, hy, by omega, rfl, rfl⟩) ?_ ?_
    · intro i σ H' hi hP
      obtain ⟨x', y', s2, rfl, hx', hy', h64, inv, rfl⟩ := hP.un
      have hi64 : i < 64 := hi
      have e64 : 64 - i = (64 - (i + 1)) + 1 := by omega
      have est : shM (64 - i) x' y' = if y' = 0 then decide (1 < x') else shM (64 - (i + 1)) y' (x' % y') := by
        rw [e64]
        rfl
      rw [est] at inv
      walk_at "ev"
      refine ite2 (fun e => ?_) (fun e => ?_)
      · have e1 : y' = 0 := V.int.inj (of_decide_eq_true e)
        rw [if_pos e1] at inv
        walk_at "ev"
        rw [← inv] at q
        exact q
      · have e1 : y' ≠ 0 := fun z => e (decide_eq_true (congrArg V.int z))
        rw [if_neg e1] at inv
        walk_at "ev"
        exact .mk ⟨_, _, _, rfl, hy', Int.emod_nonneg _ e1, by omega, inv, rfl⟩
    · intro σ H' hP
      obtain ⟨x', y', s2, rfl, hx', hy', h64, inv, rfl⟩ := hP.un
      walk_at "ev"
      have e0 : shM (64 - (64 : Int).toNat) x' y' = true := rfl
      rw [e0] at inv
      rw [← inv] at q
      exact q
end
def prN (k : Nat) : Bool := (List.range' 2 (k - 2)).all fun d => decide (k % d ≠ 0)
def outC (s : Nat) : List Int := ((List.range' 2 (s - 1)).filter fun k => decide (s % k = 0) && prN k).map Int.ofNat
theorem shM_end {n : Nat} {a : Int} (ha : 0 ≤ a) : shM (n + 1) a 0 = decide (1 < Int.gcd a 0) := by
  show (if (0 : Int) = 0 then decide (1 < a) else _) = _
  rw [if_pos rfl, Int.gcd_zero_right]
  exact decide_eq_decide.mpr ⟨fun h => by omega, fun h => by omega⟩
theorem shM_gcd : ∀ (n : Nat) {a b : Int}, 0 ≤ b → b ≤ a → a * b < 2 ^ n → shM (n + 1) a b = decide (1 < Int.gcd a b)
  | n, a, b, hb, h, hm => by
    by_cases e : b = 0
    · subst e
      exact shM_end h
    · have b1 : 0 < b := by omega
      cases n with
      | zero =>
        have : 1 * 1 ≤ a * b := Int.mul_le_mul (by omega) (by omega) (by omega) (by omega)
        rw [Int.pow_zero] at hm
        omega
      | succ n =>
        show (if b = 0 then decide (1 < a) else shM (n + 1) b (a % b)) = _
        rw [if_neg e, shM_gcd n (Int.emod_nonneg _ e) (Int.le_of_lt (Int.emod_lt_of_pos _ b1)) ?_, gcd_step (by omega) hb]
        have h1 : b * (2 * (a % b)) ≤ b * a := Int.mul_le_mul_of_nonneg_left (emod_half b1 h) hb
        have h2 : b * (2 * (a % b)) = 2 * (b * (a % b)) := by rw [← Int.mul_assoc, Int.mul_comm b 2, Int.mul_assoc]
        have h3 : b * a = a * b := Int.mul_comm _ _
        rw [Int.pow_succ] at hm
        omega
theorem shM64 {a b : Int} (ha : 0 ≤ a) (hb : 0 ≤ b) (a6 : a ≤ 1000000000) (b6 : b ≤ 1000000000) : shM 64 a b = decide (1 < Int.gcd a b) := by
  by_cases e : b = 0
  · subst e
    exact shM_end ha
  · have b1 : 0 < b := by omega
    show (if b = 0 then decide (1 < a) else shM (62 + 1) b (a % b)) = _
    rw [if_neg e, shM_gcd 62 (Int.emod_nonneg _ e) (Int.le_of_lt (Int.emod_lt_of_pos _ b1)) ?_, gcd_step ha hb]
    have h1 : a % b < b := Int.emod_lt_of_pos _ b1
    have h0 : 0 ≤ a % b := Int.emod_nonneg _ e
    have h2 : b * (a % b) ≤ 1000000000 * 1000000000 := Int.mul_le_mul b6 (by omega) h0 (by omega)
    have h3 : (2 : Int) ^ 62 = 4611686018427387904 := by decide
    omega
theorem gcd_ne {a b : Int} (ha : 1 ≤ a) : (!decide (1 < Int.gcd a b)) = decide (Int.gcd a b = 1) := by
  have h : 0 < Int.gcd a b := Int.gcd_pos_of_ne_zero_left _ (by omega)
  by_cases e : Int.gcd a b = 1
  · rw [decide_eq_true e, decide_eq_false (by omega)]
    rfl
  · rw [decide_eq_false e, decide_eq_true (by omega)]
    rfl
theorem gcd_ne' {a b : Int} (hb : 1 ≤ b) : (!decide (1 < Int.gcd a b)) = decide (Int.gcd a b = 1) := by
  rw [Int.gcd_comm]
  exact gcd_ne hb
abbrev s__law_is_plain_prime : Stmt := top 31
abbrev N__law_is_plain_prime : List Str := ["_law_number", "_law_small", "_law_part"]
abbrev P__law_is_plain_prime : List Str := ["_law_number"]
theorem sc__law_is_plain_prime : FnScope N__law_is_plain_prime P__law_is_plain_prime (defScope s__law_is_plain_prime) := ⟨rfl, rfl, rfl, by decide +kernel, rfl, by decide +kernel, by decide +kernel⟩
def spPrm : Sp := fun vs H Q _ => ∃ (n : Int), vs = [.int n] ∧ 0 ≤ n ∧ n ≤ 3000 ∧ ∀ (b : Bool) H', Same H H' → (b = true ↔ 2 ≤ n ∧ Rough n n) → Q (.bl b) H'
theorem rough_sq {n : Int} (h2 : 2 ≤ n) : Rough n n ↔ ∀ d, 2 ≤ d → d * d ≤ n → ¬ d ∣ n := by
  constructor
  · intro r d d2 dd
    have : 2 * d ≤ d * d := Int.mul_le_mul_of_nonneg_right d2 (by omega)
    exact r d d2 (by omega)
  · intro h e e2 en ed
    obtain ⟨q, hq⟩ := ed
    have q0 : 0 < q := by
      apply Int.lt_of_not_ge
      intro z
      have : e * q ≤ 0 := Int.mul_nonpos_of_nonneg_of_nonpos (by omega) z
      omega
    have q1 : q ≠ 1 := fun z => by
      rw [z, Int.mul_one] at hq
      omega
    by_cases le : e ≤ q
    · have : e * e ≤ e * q := Int.mul_le_mul_of_nonneg_left le (by omega)
      exact h e e2 (by omega) ⟨q, hq⟩
    · have : q * q ≤ e * q := Int.mul_le_mul_of_nonneg_right (by omega) (by omega)
      exact h q (by omega) (by omega) ⟨e, by rw [hq, Int.mul_comm]⟩
section
variable {P : Program} {w : World} {K : PySem.W.Frag} {mg : Str → Option Value} {base : Heap}
theorem ok_prm {f : Addr} {fd : FuncData} {k : Nat} (F : Fun K "_law_is_plain_prime" "_law_is_plain_prime" s__law_is_plain_prime f fd) (T : Blt mg) : FnOk P w K mg base CX0 (k + 1) f fd P__law_is_plain_prime spPrm := by
  have nd := sc__law_is_plain_prime.nd
  refine F.ok sc__law_is_plain_prime (fun vs H Q E h => ?_) (fun cdv A outer s H vs Q E hr h => ?_)
  · obtain ⟨n, rfl, _⟩ := h
    rfl
  · obtain ⟨n, rfl, h0, h1, q⟩ := h
    refine ⟨_, (pss_cons (ps_setLc (i := 1) (own := [("_law_part", 2)]) (g := gName 2) (by rfl) nd rfl rfl (sw_true rfl rfl rfl (by decide +kernel)) (pi_range2 (by rfl) T.b_range (pa_cons (pe_int) (pa_cons (pv 0) pa_nil))) (blkOk_by (own := [("_law_part", 2)]) (N := N__law_is_plain_prime) (sc := defScope s__law_is_plain_prime) (by decide +kernel)) (fun _ _ _ _ _ => (pg_name (i := 2) nd rfl (Or.inl rfl))) (fun _ _ _ _ _ => pts_one (pt_cmpR op_le (pe_op op_mul (pv 2) (pv 2)) (pv 0) (nomark _))) (fun _ _ _ _ _ => (pv 2)))
      (pss_one (ps_ret (pe_and (pe_cmpR op_gt (pv 0) (pe_int) (nomark _)) (pe_one (pe_callB (r := rAll K) (cr_all rfl) (by rfl) T.b_all (by decide +kernel) (pa_cons (pe_lc (own := [("_law_part", 2)]) (g := gName 2) (by rfl) nd (pi_list (pv 1)) (blkOk_by (own := [("_law_part", 2)]) (N := N__law_is_plain_prime) (sc := defScope s__law_is_plain_prime) (by decide +kernel)) (fun _ _ _ _ _ => (pg_name (i := 2) nd rfl (Or.inl rfl))) (fun _ _ _ _ _ => pts_nil) (fun _ _ _ _ _ => (pe_cmpR op_gt (pe_op op_mod (pv 0) (pv 2)) (pe_int) (nomark _)))) pa_nil))))))), ?_⟩
    walk_at "ev"
    intro D hD
    refine lc_range (lo := 2) (n := _) (fun i H' => Hold (∃ ms : List Int, Same H H' ∧ H' D = some (.lst (ms.map V.int)) ∧ ms.length ≤ i ∧ (∀ m, m ∈ ms ↔ 2 ≤ m ∧ m < 2 + (i : Int) ∧ m * m ≤ n))) (.mk ⟨[], same_new hD, upd_same, Nat.zero_le _, fun m => ⟨fun z => by simp at z, fun z => by omega⟩⟩) ?_ ?_
    · intro i H2 hi hP
      obtain ⟨ms, sm2, hD2, hl, hm⟩ := hP.un
      have hcm : CMul (2 + (i : Int)) (2 + i) := .inl ⟨by omega, by omega⟩
      have hfl : (ms.map V.int).length < sizeLine := by
        rw [List.length_map]
        exact szm (by omega)
      walk_at "ev"
      refine ite2 (fun e => ?_) (fun e => ?_)
      · have e1 : (2 + (i : Int)) * (2 + i) ≤ n := of_decide_eq_true e
        walk_at "ev"
        refine .mk ⟨ms ++ [2 + (i : Int)], same_mut sm2 hD, ?_, ?_, fun m => ?_⟩
        · rw [upd_same, List.map_append]
          rfl
        · simp
          omega
        · rw [List.mem_append, List.mem_singleton, hm]
          constructor
          · rintro (⟨a, b, c⟩ | z)
            · exact ⟨a, by omega, c⟩
            · rw [z]
              exact ⟨by omega, by omega, e1⟩
          · rintro ⟨a, b, c⟩
            by_cases z : m = 2 + (i : Int)
            · exact .inr z
            · exact .inl ⟨a, by omega, c⟩
      · have e1 : ¬ (2 + (i : Int)) * (2 + i) ≤ n := fun z => e (decide_eq_true z)
        refine .mk ⟨ms, sm2, hD2, by omega, fun m => ?_⟩
        rw [hm]
        constructor
        · rintro ⟨a, b, c⟩
          exact ⟨a, by omega, c⟩
        · rintro ⟨a, b, c⟩
          refine ⟨a, ?_, c⟩
          have : m ≠ 2 + (i : Int) := fun z => e1 (z ▸ c)
          omega
    · intro H2 hP
      obtain ⟨ms, sm2, hD2, hl, hm⟩ := hP.un
      have hL : SqL K H2 D (ms.map V.int) := SqL.of hD2
      have hL' : ∃ xs, SqL K H2 D xs := ⟨_, hL⟩
      walk_at "ev"
      refine ite2 (fun e => ?_) (fun e => ?_)
      · have e1 : 1 < n := of_decide_eq_true e
        walk_at "ev"
        intro D3 hD3
        refine lc_list (K := K) (a := D) (xs := ms.map V.int) (fun i H' => Hold (Same H2 H' ∧ H' D3 = some (.lst (((ms.take i).map fun m => decide (0 < n % m)).map V.bl)))) (.mk ⟨same_new hD3, upd_same⟩) ?_ ?_ ?_
        · intro i H3 hi hP3
          obtain ⟨sm3, hD4⟩ := hP3.un
          exact sm3.seq hL
        · intro i v H3 hv hP3
          obtain ⟨sm3, hD4⟩ := hP3.un
          rw [List.getElem?_map] at hv
          obtain ⟨m, hmm, ev⟩ := Option.map_eq_some_iff.mp hv
          subst ev
          obtain ⟨m2, _, _⟩ := (hm m).mp (List.mem_of_getElem? hmm)
          have hil : i < ms.length := (List.getElem?_eq_some_iff.mp hmm).1
          have hsz : (((ms.take i).map fun m => decide (0 < n % m)).map V.bl).length < sizeLine := by
            rw [List.length_map, List.length_map, List.length_take]
            exact szm (by omega)
          walk_at "ev"
          refine .mk ⟨same_mut sm3 hD3, ?_⟩
          rw [upd_same, List.take_add_one, hmm, List.map_append, List.map_append]
          rfl
        · intro H3 hP3
          obtain ⟨sm3, hD4⟩ := hP3.un
          rw [List.length_map, List.take_length] at hD4
          refine ⟨D3, _, rfl, SqL.of hD4, q _ _ (sm2.trans sm3) ?_⟩
          rw [List.all_eq_true, rough_sq (by omega)]
          constructor
          · intro h
            refine ⟨by omega, fun d d2 dd hdv => ?_⟩
            have dn : d < 2 + ((n - 2).toNat : Int) := by
              have : 2 * d ≤ d * d := Int.mul_le_mul_of_nonneg_right d2 (by omega)
              omega
            have := h _ (List.mem_map.mpr ⟨d, (hm d).mpr ⟨d2, dn, dd⟩, rfl⟩)
            have z := of_decide_eq_true this
            rw [Int.emod_eq_zero_of_dvd hdv] at z
            omega
          · rintro ⟨_, h⟩ b hb
            obtain ⟨d, hd, ed⟩ := List.mem_map.mp hb
            obtain ⟨d2, _, dd⟩ := (hm d).mp hd
            rw [← ed]
            refine decide_eq_true ?_
            have : n % d ≠ 0 := fun z => h d d2 dd (Int.dvd_of_emod_eq_zero z)
            have := Int.emod_nonneg n (show d ≠ 0 by omega)
            omega
      · have e1 : ¬ 1 < n := fun z => e (decide_eq_true z)
        exact q _ _ sm2 ⟨fun z => Bool.noConfusion z, fun z => by omega⟩
end
abbrev s_are_coprime : Stmt := top 7
abbrev N_are_coprime : List Str := ["one", "other"]
abbrev P_are_coprime : List Str := ["one", "other"]
theorem sc_are_coprime : FnScope N_are_coprime P_are_coprime (defScope s_are_coprime) := ⟨rfl, rfl, rfl, by decide +kernel, rfl, by decide +kernel, by decide +kernel⟩
def spCop : Sp := fun vs H Q _ => ∃ (x y : Int), vs = [.int x, .int y] ∧ 0 ≤ x ∧ 0 ≤ y ∧ Q (.bl (decide (Int.gcd x y = 1))) H
section
variable {P : Program} {w : World} {K : PySem.W.Frag} {mg : Str → Option Value} {base : Heap}
theorem ok_coprime {f : Addr} {fd : FuncData} {k : Nat} (F : Fun K "are_coprime" "are_coprime" s_are_coprime f fd) : FnOk P w K mg base CX0 (k + 1) f fd P_are_coprime spCop := by
  have nd := sc_are_coprime.nd
  refine F.ok sc_are_coprime (fun vs H Q E h => ?_) (fun cdv A outer s H vs Q E hr h => ?_)
  · obtain ⟨x, y, rfl, _⟩ := h
    rfl
  · obtain ⟨x, y, rfl, hx, hy, q⟩ := h
    refine ⟨_, (pss_cons (ps_while PassesOwn.never (pt_cmpR op_ne (pv 1) (pe_int) (nomark _))
      (pss_one (ps_par (i := 0) (j := 1) (by rfl) nd rfl rfl (by decide) rfl rfl (pa_cons (pv 1) (pa_cons (pe_op op_mod (pv 0) (pv 1)) pa_nil)) (by rfl))))
      (pss_one (ps_ret (pe_cmpR op_eq (pv 0) (pe_int) (nomark _))))), ?_⟩
    refine ⟨fun z σ H' => H' = H ∧ ∃ (a b : Int), σ = [some (.int a), some (.int b)] ∧ z = b.toNat ∧ 0 ≤ a ∧ 0 ≤ b ∧ Int.gcd a b = Int.gcd x y, ⟨_, rfl, x, y, rfl, rfl, hx, hy, rfl⟩, ?_⟩
    rintro z σ H' ⟨rfl, a, b, rfl, rfl, ha, hb, hg⟩
    walk_at "ev"
    by_cases c : b = 0
    · subst c
      refine iteFe (by simp) ?_
      walk_at "ev"
      have e : decide (V.int a = V.int 1) = decide (Int.gcd x y = 1) := by
        rw [← hg, Int.gcd_zero_right]
        exact decide_eq_decide.mpr ⟨fun h => by have := V.int.inj h; omega, fun h => congrArg V.int (by omega)⟩
      rw [e]
      exact q
    · refine iteTe (by simp [c]) ?_
      refine ⟨_, holdN, ?_⟩
      walk_at "ev"
      have h1 := Int.emod_lt_of_pos a (show 0 < b by omega)
      have h0 := Int.emod_nonneg a c
      exact .mk ⟨(a % b).toNat, by omega, rfl, b, a % b, rfl, rfl, hb, h0, by rw [gcd_step ha hb]; exact hg⟩
end
/-! ### plans as data -/
inductive Pl
  | leaf (w : Str) (n : Int)
  | two (w : Str) (a b : Pl)
  | led (w : Str) (n : Int) (a : Pl)
def plen : Pl → Int
  | .leaf _ n => n
  | .two _ a b => plen a * plen b
  | .led _ n _ => n
def pdep : Pl → Nat
  | .leaf _ _ => 0
  | .two _ a b => 1 + max (pdep a) (pdep b)
  | .led _ _ a => 1 + pdep a
def Ok : Pl → Prop
  | .leaf _ n => 1 ≤ n ∧ n ≤ 1000
  | .two _ a b => Ok a ∧ Ok b ∧ 1 ≤ plen a * plen b ∧ plen a * plen b ≤ 1000
  | .led _ n a => 1 ≤ n ∧ n ≤ 1000 ∧ Ok a
theorem Ok.len : ∀ {p : Pl}, Ok p → 1 ≤ plen p ∧ plen p ≤ 1000
  | .leaf _ _, h => h
  | .two _ _ _, h => ⟨h.2.2.1, h.2.2.2⟩
  | .led _ _ _, h => ⟨h.1, h.2.1⟩
inductive PlAt (K : PySem.W.Frag) (H : Hp) : V → Pl → Prop
  | leaf {a : Addr} {w : Str} {n : Int} : (w = "plain" ∨ w = "short") → SqT K H a [.str w, .int n] → PlAt K H (.ref a) (.leaf w n)
  | two {a : Addr} {w : Str} {x y : V} {p q : Pl} : (w = "split" ∨ w = "parts") → SqT K H a [.str w, x, y] → PlAt K H x p → PlAt K H y q → PlAt K H (.ref a) (.two w p q)
  | led {a : Addr} {w : Str} {n : Int} {x : V} {p : Pl} : (w = "powers" ∨ w = "stretch") → SqT K H a [.str w, .int n, x] → PlAt K H x p → PlAt K H (.ref a) (.led w n p)
theorem PlAt.same {K : PySem.W.Frag} {H H' : Hp} {v : V} {p : Pl} (h : PlAt K H v p) (e : Same H H') : PlAt K H' v p := by
  induction h with
  | leaf a b => exact .leaf a (same_t e b)
  | two a b c d i1 i2 => exact .two a (same_t e b) i1 i2
  | led a b c i1 => exact .led a (same_t e b) i1
theorem PlAt.kd {K : PySem.W.Frag} {H : Hp} {v : V} {p : Pl} (h : PlAt K H v p) : Kd K H v "tuple" := by
  cases h with
  | leaf a b => exact .tup b
  | two a b c d => exact .tup b
  | led a b c => exact .tup b
theorem in_sp {w : Str} (h : w = "split" ∨ w = "parts") : inV (.str w) [.str "split", .str "parts"] = true := by
  rcases h with h | h <;> rw [h] <;> decide
theorem in_sp_leaf {w : Str} (h : w = "plain" ∨ w = "short") : inV (.str w) [.str "split", .str "parts"] = false := by
  rcases h with h | h <;> rw [h] <;> decide
theorem in_sp_led {w : Str} (h : w = "powers" ∨ w = "stretch") : inV (.str w) [.str "split", .str "parts"] = false := by
  rcases h with h | h <;> rw [h] <;> decide
/-! ### long division of rows, as the program walks it -/
def subAt (start : Nat) (top : Int) (bs : List Int) (r : List Int) : Nat → List Int
  | 0 => r
  | i + 1 => (subAt start top bs r i).set (start + i) ((subAt start top bs r i).getD (start + i) 0 - top * bs.getD i 0)
theorem subAt_len {start : Nat} {top : Int} {bs r : List Int} {i : Nat} : (subAt start top bs r i).length = r.length := by
  induction i with
  | zero => rfl
  | succ i ih => rw [subAt, List.length_set, ih]
def dvS (bs : List Int) (x : List Int × List Int) : List Int × List Int :=
  (subAt (x.1.length - 1 - (bs.length - 1)) (x.1.getD (x.1.length - 1) 0) bs x.1.dropLast (bs.length - 1), x.2 ++ [x.1.getD (x.1.length - 1) 0])
def dvN (bs : List Int) (row : List Int) : Nat → List Int × List Int
  | 0 => (row, [])
  | n + 1 => dvS bs (dvN bs row n)
theorem dvN_len {bs row : List Int} {n : Nat} : (dvN bs row n).1.length = row.length - n ∧ (dvN bs row n).2.length = n := by
  induction n with
  | zero => exact ⟨rfl, rfl⟩
  | succ n ih =>
    rw [dvN, dvS]
    refine ⟨?_, ?_⟩
    · show (subAt _ _ _ _ _).length = _
      rw [subAt_len, List.length_dropLast, ih.1]
      omega
    · show List.length (_ ++ _) = _
      rw [List.length_append, ih.2]
      rfl
theorem at_nat {xs : List V} {v : V} {i : Int} {j : Nat} (h : xs[j]? = some v) (e : i = (j : Int)) : atI xs i = some v := at_of (j := j) (by omega) (by rw [← h])
theorem at_map {ns : List Int} {i : Int} {j : Nat} (h : j < ns.length) (e : i = (j : Int)) : atI (ns.map V.int) i = some (.int (ns.getD j 0)) := by
  refine at_nat ?_ e
  rw [List.getElem?_map, List.getD_eq_getElem?_getD, List.getElem?_eq_getElem h]
  rfl
theorem ixn_of {n j : Nat} {i : Int} (h : j < n) (e : i = (j : Int)) : ixN n i = some j := by
  subst e
  unfold ixN
  simp [h]
theorem rep_len {n : Nat} {v : V} : (List.replicate n [v]).flatten.length = n := by
  induction n with
  | zero => rfl
  | succ n ih =>
    rw [List.replicate_succ, List.flatten_cons, List.length_append, ih]
    show 1 + n = n + 1
    omega
/-- the share of row by bs -/
def dvQ (bs row : List Int) : List Int := (dvN bs row (row.length - (bs.length - 1))).2.reverse
/-- the rest of row by bs -/
def dvR (bs row : List Int) : List Int := (dvN bs row (row.length - (bs.length - 1))).1 ++ List.replicate (bs.length - 1 - (dvN bs row (row.length - (bs.length - 1))).1.length) 0
theorem rep_flat2 {n : Nat} {v : V} : (List.replicate n [v]).flatten = List.replicate n v := by
  induction n with
  | zero => rfl
  | succ n ih =>
    rw [List.replicate_succ, List.flatten_cons, ih]
    rfl
section
open PySem.Spec PyProof.Rows
variable {P : Program} {w : World} {K : PySem.W.Frag} {mg : Str → Option Value} {base : Heap}
theorem fnsub {CX : CXT} {k : Nat} {f : Addr} {fd : FuncData} {ps : List Str} {sp sp1 : Sp} (G1 : FnOk P w K mg base CX k f fd ps sp1) (h : ∀ vs H Q E, sp vs H Q E → sp1 vs H Q E) : FnOk P w K mg base CX k f fd ps sp :=
  ⟨fun vs H Q E x => G1.len vs H Q E (h vs H Q E x), fun A outer s H args us vs Q E hr e0 hb r x => G1.run A outer s H args us vs Q E hr e0 hb r (h vs H Q E x)⟩
end
/-! ### the law's own plans, good ones -/
/-- a plan as the document has it -/
def PlN : Pl → Prop
  | .leaf w n => 1 ≤ n ∧ n ≤ 1000 ∧ (w = "short" → n ≤ 4)
  | .two w a b => PlN a ∧ PlN b ∧ 2 ≤ plen a ∧ 2 ≤ plen b ∧ plen a * plen b ≤ 1000 ∧ (w = "parts" → Int.gcd (plen a) (plen b) = 1)
  | .led w n a => PlN a ∧ 2 ≤ n ∧ n ≤ 1000 ∧ (w = "powers" → 3 ≤ n ∧ Fac n [n] ∧ plen a = n - 1) ∧ (w = "stretch" → 2 * n - 1 ≤ plen a)
theorem PlN.ok : ∀ {p : Pl}, PlN p → 1 ≤ plen p ∧ plen p ≤ 1000 ∧ Ok p
  | .leaf w n, ⟨h1, h2, _⟩ => ⟨h1, h2, h1, h2⟩
  | .two w a b, ⟨h1, h2, h3, h4, h5, _⟩ => by
    have m1 : 1 * 1 ≤ plen a * plen b := Int.mul_le_mul (by omega) (by omega) (by decide) (by omega)
    exact ⟨by show 1 ≤ plen a * plen b; omega, h5, h1.ok.2.2, h2.ok.2.2, by omega, h5⟩
  | .led w n a, ⟨h1, h2, h3, _⟩ => ⟨by show 1 ≤ n; omega, h3, by omega, h3, h1.ok.2.2⟩
def spShG : Sp := fun vs H Q _ => ∃ (x y : Int), vs = [.int x, .int y] ∧ 0 ≤ x ∧ 0 ≤ y ∧ x ≤ 1000000000 ∧ y ≤ 1000000000 ∧ Q (.bl (decide (1 < Int.gcd x y))) H
abbrev s__law_any_plan : Stmt := top 33
abbrev N__law_any_plan : List Str := ["_law_box_here", "_law_length", "_law_deep", "_law_some", "_law_parts", "_law_way", "_law_one", "_law_part"]
abbrev P__law_any_plan : List Str := ["_law_box_here", "_law_length", "_law_deep"]
theorem sc__law_any_plan : FnScope N__law_any_plan P__law_any_plan (defScope s__law_any_plan) := ⟨rfl, rfl, rfl, by decide +kernel, rfl, by decide +kernel, by decide +kernel⟩
inductive Way (H : Hp) (n : Int) (d : Nat) : V → Prop
  | leaf {a : Addr} {w : Str} : (w = "plain" ∨ w = "short") → (w = "short" → n < 5) → H a = some (.tup [.str w]) → Way H n d (.ref a)
  | pow {a : Addr} : 0 < d → 2 < n → Fac n [n] → H a = some (.tup [.str "powers"]) → Way H n d (.ref a)
  | two {a : Addr} {w : Str} {k : Int} : (w = "split" ∨ w = "parts") → 0 < d → 2 ≤ k → k < n → n % k = 0 → (w = "parts" → Int.gcd k (n / k) = 1) → H a = some (.tup [.str w, .int k]) → Way H n d (.ref a)
  | str {a : Addr} {m : Int} : 0 < d → 1 < n → 2 * n - 1 ≤ m → m ≤ 242 → H a = some (.tup [.str "stretch", .int m]) → Way H n d (.ref a)
theorem Way.same {H H' : Hp} {n : Int} {d : Nat} {v : V} (h : Way H n d v) (e : Same H H') : Way H' n d v := by
  cases h with
  | leaf a y b => exact .leaf a y (e _ _ b)
  | pow a b y c => exact .pow a b y (e _ _ c)
  | two a b c d f y g => exact .two a b c d f y (e _ _ g)
  | str a b c d f => exact .str a b c d (e _ _ f)
theorem keep_at {H H' : Hp} {b a : Addr} {c : Int} {xs : List V} (e : Keep b H H') (hb : BoxAt H b c) (h : H a = some (.tup xs)) : H' a = some (.tup xs) := by
  obtain ⟨x, y, z, e1, e2⟩ := hb
  exact e _ _ (ne_of h e1 (by intro q; cases q)) h
theorem Way.keep {H H' : Hp} {n : Int} {d : Nat} {v : V} {b : Addr} {c : Int} (h : Way H n d v) (e : Keep b H H') (hb : BoxAt H b c) : Way H' n d v := by
  cases h with
  | leaf a y b => exact .leaf a y (keep_at e hb b)
  | pow a b y c => exact .pow a b y (keep_at e hb c)
  | two a b c d f y g => exact .two a b c d f y (keep_at e hb g)
  | str a b c d f => exact .str a b c d (keep_at e hb f)
theorem Way.mut {H : Hp} {n : Int} {d : Nat} {v : V} {p : Addr} {xs : List V} {o : HO} (h : Way H n d v) (hp : H p = some (.lst xs)) : Way (upd H p o) n d v := by
  have go : ∀ {a : Addr} {ys : List V}, H a = some (.tup ys) → upd H p o a = some (.tup ys) := fun {a ys} e => by
    rw [upd_ne (ne_of e hp (by intro q; cases q))]
    exact e
  cases h with
  | leaf a y b => exact .leaf a y (go b)
  | pow a b y c => exact .pow a b y (go c)
  | two a b c d f y g => exact .two a b c d f y (go g)
  | str a b c d f => exact .str a b c d (go f)
theorem iteDn {c A B : Prop} [Decidable c] (hc : ¬ c) (h : B) : if decide c = true then A else B := by
  rw [decide_eq_false hc]
  exact iteF h
theorem iteNp {c A B : Prop} [Decidable c] (hc : ¬ c) (h : A) : if (!decide c) = true then A else B := by
  rw [decide_eq_false hc]
  exact iteT h
theorem ne_pow {w : Str} (h : w = "plain" ∨ w = "short") : ¬ V.str w = V.str "powers" := by
  rcases h with h | h <;> rw [h] <;> decide
theorem mem_rep {k : Nat} {ys : List V} {x : V} (h : x ∈ (List.replicate k ys).flatten) : x ∈ ys ∧ 0 < k := by
  obtain ⟨l, hl, hx⟩ := List.mem_flatten.mp h
  have h1 := List.mem_replicate.mp hl
  rw [h1.2] at hx
  exact ⟨hx, by omega⟩
theorem len_rep {ys : List V} : ∀ k : Nat, (List.replicate k ys).flatten.length = k * ys.length
  | 0 => by simp
  | k + 1 => by
    rw [List.replicate_succ, List.flatten_cons, List.length_append, len_rep k, Nat.add_mul]
    omega
theorem in_pq_two {w : Str} (h : w = "split" ∨ w = "parts") : inV (.str w) [.str "powers", .str "stretch"] = false := by
  rcases h with h | h <;> rw [h] <;> decide
def tks : Nat → Int
  | 0 => 2
  | d + 1 => 2 + 2 * tks d
theorem tks_pos : ∀ d : Nat, 0 ≤ tks d
  | 0 => by decide
  | d + 1 => by
    show 0 ≤ 2 + 2 * tks d
    have := tks_pos d
    omega
/-- a plan all of whose objects are tracked tuples -/
inductive PlT (H : Hp) : V → Pl → Prop
  | leaf {a : Addr} {w : Str} {n : Int} : (w = "plain" ∨ w = "short") → H a = some (.tup [.str w, .int n]) → PlT H (.ref a) (.leaf w n)
  | two {a : Addr} {w : Str} {x y : V} {p q : Pl} : (w = "split" ∨ w = "parts") → H a = some (.tup [.str w, x, y]) → PlT H x p → PlT H y q → PlT H (.ref a) (.two w p q)
  | led {a : Addr} {w : Str} {n : Int} {x : V} {p : Pl} : (w = "powers" ∨ w = "stretch") → H a = some (.tup [.str w, .int n, x]) → PlT H x p → PlT H (.ref a) (.led w n p)
theorem PlT.same {H H' : Hp} {v : V} {p : Pl} (h : PlT H v p) (e : Same H H') : PlT H' v p := by
  induction h with
  | leaf a b => exact .leaf a (e _ _ b)
  | two a b c d i1 i2 => exact .two a (e _ _ b) i1 i2
  | led a b c i1 => exact .led a (e _ _ b) i1
theorem PlT.keep {H H' : Hp} {v : V} {p : Pl} {b : Addr} {c : Int} (h : PlT H v p) (e : Keep b H H') (hb : BoxAt H b c) : PlT H' v p := by
  induction h with
  | leaf a b => exact .leaf a (keep_at e hb b)
  | two a b c d i1 i2 => exact .two a (keep_at e hb b) i1 i2
  | led a b c i1 => exact .led a (keep_at e hb b) i1
theorem PlT.mut {H : Hp} {v : V} {p : Pl} {a : Addr} {xs : List V} {o : HO} (h : PlT H v p) (ha : H a = some (.lst xs)) : PlT (upd H a o) v p := by
  have go : ∀ {b : Addr} {ys : List V}, H b = some (.tup ys) → upd H a o b = some (.tup ys) := fun {b ys} e => by
    rw [upd_ne (ne_of e ha (by intro q; cases q))]
    exact e
  induction h with
  | leaf a b => exact .leaf a (go b)
  | two a b c d i1 i2 => exact .two a (go b) i1 i2
  | led a b c i1 => exact .led a (go b) i1
theorem PlT.at {K : PySem.W.Frag} {H : Hp} {v : V} {p : Pl} (h : PlT H v p) : PlAt K H v p := by
  induction h with
  | leaf a b => exact .leaf a (SqT.of b)
  | two a b c d i1 i2 => exact .two a (SqT.of b) i1 i2
  | led a b c i1 => exact .led a (SqT.of b) i1
def spAny (K : PySem.W.Frag) (d : Nat) : Sp := fun vs H Q _ => ∃ (b : Addr) (n c dd : Int), vs = [.ref b, .int n, .int dd] ∧ dd = (d : Int) ∧ BoxAt H b c ∧ c + tks d < 1000000 ∧ 1 ≤ n ∧ n ≤ 242 ∧ ∀ v p H', PlT H' v p → plen p = n → pdep p ≤ d → PlN p → Keep b H H' → BoxAt H' b (c + tks d) → Q v H'
section
variable {P : Program} {w : World} {K : PySem.W.Frag} {mg : Str → Option Value} {base : Heap}
theorem any_step {f f1 f2 f3 f4 : Addr} {fd d1 d2 d3 d4 : FuncData} {d : Nat} {spI : Sp} (D__law_any_plan : Df K mg "_law_any_plan" s__law_any_plan P__law_any_plan f fd) (T : Blt mg) (D__law_take : Df K mg "_law_take" s__law_take P__law_take f1 d1) (D__law_pick : Df K mg "_law_pick" s__law_pick P__law_pick f2 d2) (D__law_shares : Df K mg "_law_shares" s__law_shares P__law_shares f3 d3) (D__law_is_plain_prime : Df K mg "_law_is_plain_prime" s__law_is_plain_prime P__law_is_plain_prime f4 d4)
    (G__law_any_plan : FnOk P w K mg base CX0 (d + 2) f fd P__law_any_plan spI) (hG : ∀ m, d = m + 1 → spI = spAny K m) : FnOk P w K mg base CX0 (d + 3) f fd P__law_any_plan (spAny K d) := by
  have G__law_take : FnOk P w K mg base CX0 1 f1 d1 P__law_take spTake := ok_take D__law_take.F
  have G__law_pick : FnOk P w K mg base CX0 2 f2 d2 P__law_pick (spPick K) := ok_pick D__law_pick.F T D__law_take
  have G__law_shares : FnOk P w K mg base CX0 1 f3 d3 P__law_shares spShG := fnsub (ok_shm (k := 0) D__law_shares.F T) fun vs H Q E h => by
    obtain ⟨x, y, e, x0, y0, x9, y9, q⟩ := h
    exact ⟨x, y, e, x0, y0, by rw [shM64 x0 y0 x9 y9]; exact q⟩
  have G__law_is_plain_prime : FnOk P w K mg base CX0 1 f4 d4 P__law_is_plain_prime spPrm := ok_prm (k := 0) D__law_is_plain_prime.F T
  have nd := sc__law_any_plan.nd
  refine D__law_any_plan.F.ok sc__law_any_plan (fun vs H Q E h => ?_) (fun cdv A outer s H vs Q E hr h => ?_)
  · obtain ⟨b, n, c, dd, rfl, _⟩ := h
    rfl
  · obtain ⟨b, n, c, dd, rfl, rfl, hb, hc, hn1, hn2, q⟩ := h
    have htp := tks_pos d
    have tail : ∃ tl, PSs (cxOf CX0 P w K mg base N__law_any_plan "_law_any_plan" (defScope s__law_any_plan) f cdv A outer s H E).nox ((defBody s__law_any_plan).drop 3) tl ∧ ∀ (l : Addr) (xs : List V) (H1 : Hp) (s4 s5 s6 s7 : Option V) (e : Int), Keep b H H1 → BoxAt H1 b (c + e) → (e = 0 ∨ (e = 1 ∧ 0 < d)) → H1 l = some (.lst xs) → l ≠ b → (∀ x ∈ xs, Way H1 n d x) → 0 < xs.length → xs.length ≤ 3000 → tl { nx := fun _ H' => Q .non H', rt := Q } [some (.ref b), some (.int n), some (.int (d : Int)), some (.ref l), s4, s5, s6, s7] H1 := by
      refine ⟨_, (pss_cons (ps_set (i := 5) nd rfl (Or.inl rfl) (pe_call G__law_pick (hr.mono (by omega)) (by rfl) D__law_pick.g D__law_pick.F.kp D__law_pick.b .nil pass0 (pa_cons (pv 0) (pa_cons (pv 3) pa_nil))))
      (pss_cons (ps_if (PW.pt (pw_and (pt_cmpR op_eq (pe_callB (r := rLenQ K) call_len_seq (by rfl) T.b_len (by decide +kernel) (pa_cons (pv 5) pa_nil)) (pe_int) (nomark _)) (pw_and1 (pt_cmpR op_ne (pe_ix (r := rIxT K) ix_tup (pv 5) (pe_int) (fun _ _ => rfl)) (pe_str) (nomark _))))) (pss_one (ps_ret (pe_tup (pa_cons (pe_ix (r := rIxT K) ix_tup (pv 5) (pe_int) (fun _ _ => rfl)) (pa_cons (pv 1) pa_nil))))) pss_nil)
      (pss_cons (ps_if (pt_cmpR (r := rIn K false) op_in_seq (pe_ix (r := rIxT K) ix_tup (pv 5) (pe_int) (fun _ _ => rfl)) (pe_tup (pa_cons (pe_str) (pa_cons (pe_str) pa_nil))) (by rfl)) (pss_one (ps_ret (pe_tup (pa_cons (pe_ix (r := rIxT K) ix_tup (pv 5) (pe_int) (fun _ _ => rfl)) (pa_cons (pv 1) (pa_cons (pe_call G__law_any_plan (hr.mono (by omega)) (by rfl) D__law_any_plan.g D__law_any_plan.F.kp D__law_any_plan.b .nil pass0 (pa_cons (pv 0) (pa_cons (pe_ifExp (pt_cmpR op_eq (pe_ix (r := rIxT K) ix_tup (pv 5) (pe_int) (fun _ _ => rfl)) (pe_str) (nomark _)) (pe_op op_sub (pv 1) (pe_int)) (pe_ix (r := rIxT K) ix_tup (pv 5) (pe_int) (fun _ _ => rfl))) (pa_cons (pe_op op_sub (pv 2) (pe_int)) pa_nil)))) pa_nil)))))) pss_nil)
      (pss_cons (ps_set (i := 6) nd rfl (Or.inl rfl) (pe_call G__law_any_plan (hr.mono (by omega)) (by rfl) D__law_any_plan.g D__law_any_plan.F.kp D__law_any_plan.b .nil pass0 (pa_cons (pv 0) (pa_cons (pe_ix (r := rIxT K) ix_tup (pv 5) (pe_int) (fun _ _ => rfl)) (pa_cons (pe_op op_sub (pv 2) (pe_int)) pa_nil)))))
      (pss_one (ps_ret (pe_tup (pa_cons (pe_ix (r := rIxT K) ix_tup (pv 5) (pe_int) (fun _ _ => rfl)) (pa_cons (pv 6) (pa_cons (pe_call G__law_any_plan (hr.mono (by omega)) (by rfl) D__law_any_plan.g D__law_any_plan.F.kp D__law_any_plan.b .nil pass0 (pa_cons (pv 0) (pa_cons (pe_op op_fdiv (pv 1) (pe_ix (r := rIxT K) ix_tup (pv 5) (pe_int) (fun _ _ => rfl))) (pa_cons (pe_op op_sub (pv 2) (pe_int)) pa_nil)))) pa_nil)))))))))), ?_⟩
      intro l xs H1 s4 s5 s6 s7 e kp hb1 he hl hlb hw h0 hln
      have hL : SqL K H1 l xs := SqL.of hl
      have h0' : 0 < (xs.length : Int) := by omega
      have hx1 : (xs.length : Int) < 1048576 := by omega
      walk_at "ev"
      intro v H2 hv k2 hb2
      have hway := (hw v hv).keep k2 hb1
      have hb2' := hb2
      cases hway with
      | leaf hww hsh hs =>
        rename_i a wd
        have hT : SqT K H2 a [.str wd] := SqT.of hs
        walk_at "ev"
        refine iteNp (ne_pow hww) ?_
        walk_at "ev"
        intro t3 ht3
        generalize hG3 : upd _ t3 _ = H3
        obtain ⟨sm3, hq3⟩ := newO hG3 ht3
        have h2 : 2 ≤ tks d := by
          cases d with
          | zero => exact (by decide : (2 : Int) ≤ 2)
          | succ m =>
            show 2 ≤ 2 + 2 * tks m
            have := tks_pos m
            omega
        exact q _ (.leaf wd n) _ (.leaf hww hq3) rfl (Nat.zero_le _) ⟨by omega, by omega, fun z => by have := hsh z; omega⟩ (kp.trans (k2.trans (keepS sm3))) ((hb2.same sm3).mono (by omega))
      | pow hd0 hn3 hpr hs =>
        rename_i a
        obtain ⟨m, rfl⟩ : ∃ m, d = m + 1 := ⟨d - 1, by omega⟩
        have hS := hG m rfl
        subst hS
        have htm := tks_pos m
        have etk : tks (m + 1) = 2 + 2 * tks m := rfl
        have edm : (((m + 1 : Nat) : Int) - 1) = (m : Int) := by omega
        have hT : SqT K H2 a [.str "powers"] := SqT.of hs
        walk_at "ev"
        intro t3 ht3
        generalize hG3 : upd _ t3 _ = H3
        obtain ⟨sm3, hq3⟩ := newO hG3 ht3
        have hT3 := same_t sm3 hT
        have hin : SqL K H3 t3 [.str "powers", .str "stretch"] ∨ SqT K H3 t3 [.str "powers", .str "stretch"] := .inr (SqT.of hq3)
        have hb3 := hb2.same sm3
        walk_at "ev"
        intro v4 p4 H4 hpl hl4 hd4 ok4 k4 hb4
        walk_at "ev"
        intro t5 ht5
        generalize hG5 : upd _ t5 _ = H5
        obtain ⟨sm5, hq5⟩ := newO hG5 ht5
        refine q _ (.led "powers" n p4) _ (.led (.inl rfl) hq5 (hpl.same sm5)) rfl ?_ ⟨ok4, by omega, by omega, fun _ => ⟨by omega, hpr, hl4⟩, fun z => absurd z (by decide)⟩ (kp.trans (k2.trans ((keepS sm3).trans (k4.trans (keepS sm5))))) ((hb4.same sm5).mono (by omega))
        show 1 + pdep p4 ≤ m + 1
        omega
      | two hww hd0 hk2 hkn hkm hgc hs =>
        rename_i a wd kk
        obtain ⟨m, rfl⟩ : ∃ m, d = m + 1 := ⟨d - 1, by omega⟩
        have hS := hG m rfl
        subst hS
        have htm := tks_pos m
        have etk : tks (m + 1) = 2 + 2 * tks m := rfl
        have edm : (((m + 1 : Nat) : Int) - 1) = (m : Int) := by omega
        have hT : SqT K H2 a [.str wd, .int kk] := SqT.of hs
        walk_at "ev"
        intro t3 ht3
        generalize hG3 : upd _ t3 _ = H3
        obtain ⟨sm3, hq3⟩ := newO hG3 ht3
        have hT3 := same_t sm3 hT
        have hs3 := sm3 _ _ hs
        have hin : SqL K H3 t3 [.str "powers", .str "stretch"] ∨ SqT K H3 t3 [.str "powers", .str "stretch"] := .inr (SqT.of hq3)
        walk_at "ev"
        refine iteFe (in_pq_two hww) ?_
        have hb3 := hb2.same sm3
        walk_at "ev"
        intro v4 p4 H4 hpl hl4 hd4 ok4 k4 hb4
        have hs4 := keep_at k4 hb3 hs3
        have hT4 : SqT K H4 a [.str wd, .int kk] := SqT.of hs4
        have hq0 : 1 ≤ n / kk := by
          have := Int.le_ediv_of_mul_le (show (0 : Int) < kk by omega) (show 1 * kk ≤ n by omega)
          exact this
        have hq1 : n / kk ≤ n := Int.ediv_le_self _ (by omega)
        have hq2 : 2 ≤ n / kk := by
          have m1 := Int.mul_ediv_cancel' (Int.dvd_of_emod_eq_zero hkm)
          by_cases z : 2 ≤ n / kk
          · exact z
          · have z1 : n / kk = 1 := by omega
            rw [z1] at m1
            omega
        have hmul : kk * (n / kk) = n := Int.mul_ediv_cancel' (Int.dvd_of_emod_eq_zero hkm)
        walk_at "ev"
        intro v5 p5 H5 hpl5 hl5 hd5 ok5 k5 hb5
        have hpl' := hpl.keep k5 hb4
        walk_at "ev"
        intro t6 ht6
        generalize hG6 : upd _ t6 _ = H6
        obtain ⟨sm6, hq6⟩ := newO hG6 ht6
        have epl : plen p4 * plen p5 = n := by rw [hl4, hl5, hmul]
        refine q _ (.two wd p4 p5) _ (.two hww hq6 (hpl'.same sm6) (hpl5.same sm6)) epl ?_ ⟨ok4, ok5, by rw [hl4]; omega, by rw [hl5]; omega, by rw [epl]; omega, fun z => by rw [hl4, hl5]; exact hgc z⟩ (kp.trans (k2.trans ((keepS sm3).trans (k4.trans (k5.trans (keepS sm6)))))) ((hb5.same sm6).mono (by omega))
        show 1 + max (pdep p4) (pdep p5) ≤ m + 1
        omega
      | str hd0 hn1' hm1 hm2 hs =>
        rename_i a mm
        obtain ⟨m, rfl⟩ : ∃ m, d = m + 1 := ⟨d - 1, by omega⟩
        have hS := hG m rfl
        subst hS
        have htm := tks_pos m
        have etk : tks (m + 1) = 2 + 2 * tks m := rfl
        have edm : (((m + 1 : Nat) : Int) - 1) = (m : Int) := by omega
        have hT : SqT K H2 a [.str "stretch", .int mm] := SqT.of hs
        walk_at "ev"
        intro t3 ht3
        generalize hG3 : upd _ t3 _ = H3
        obtain ⟨sm3, hq3⟩ := newO hG3 ht3
        have hT3 := same_t sm3 hT
        have hin : SqL K H3 t3 [.str "powers", .str "stretch"] ∨ SqT K H3 t3 [.str "powers", .str "stretch"] := .inr (SqT.of hq3)
        have hb3 := hb2.same sm3
        walk_at "ev"
        intro v4 p4 H4 hpl hl4 hd4 ok4 k4 hb4
        walk_at "ev"
        intro t5 ht5
        generalize hG5 : upd _ t5 _ = H5
        obtain ⟨sm5, hq5⟩ := newO hG5 ht5
        refine q _ (.led "stretch" n p4) _ (.led (.inr rfl) hq5 (hpl.same sm5)) rfl ?_ ⟨ok4, by omega, by omega, fun z => absurd z (by decide), fun _ => by omega⟩ (kp.trans (k2.trans ((keepS sm3).trans (k4.trans (keepS sm5))))) ((hb4.same sm5).mono (by omega))
        show 1 + pdep p4 ≤ m + 1
        omega
    obtain ⟨tl, htl, fin⟩ := tail
    refine ⟨_, (pss_cons (ps_par (i := 3) (j := 4) (by rfl) nd rfl rfl (by decide) rfl rfl (pa_cons (pe_lst (pa_cons (pe_tup (pa_cons (pe_str) pa_nil)) pa_nil)) (pa_cons (pe_lc (own := [("_law_part", 7)]) (g := gName 7) (by rfl) nd (pi_range2 (by rfl) T.b_range (pa_cons (pe_int) (pa_cons (pv 1) pa_nil))) (blkOk_by (own := [("_law_part", 7)]) (N := N__law_any_plan) (sc := defScope s__law_any_plan) (by decide +kernel)) (fun _ _ _ _ _ => (pg_name (i := 7) nd rfl (Or.inl rfl))) (fun _ _ _ _ _ => pts_one (pt_cmpR op_eq (pe_op op_mod (pv 1) (pv 7)) (pe_int) (nomark _))) (fun _ _ _ _ _ => (pv 7))) pa_nil)) (by rfl))
      (pss_cons (ps_set (i := 3) nd rfl (Or.inl rfl) (pe_op op_cat (pv 3) (pe_op op_rep (pe_lst (pa_cons (pe_tup (pa_cons (pe_str) pa_nil)) pa_nil)) (pe_op op_mul (pe_int) (pe_callTy call_int1 (by rfl) T.b_int (by decide +kernel) (pa_cons (pe_cmpR op_lt (pv 1) (pe_int) (nomark _)) pa_nil))))))
      (pss_cons (ps_if (pt_cmpR op_gt (pv 2) (pe_int) (nomark _)) (pss_cons (ps_set (i := 3) nd rfl (Or.inl rfl) (pe_op op_cat (pv 3) (pe_op op_rep (pe_lc (own := [("_law_part", 7)]) (g := gName 7) (by rfl) nd (pi_list (pv 4)) (blkOk_by (own := [("_law_part", 7)]) (N := N__law_any_plan) (sc := defScope s__law_any_plan) (by decide +kernel)) (fun _ _ _ _ _ => (pg_name (i := 7) nd rfl (Or.inl rfl))) (fun _ _ _ _ _ => pts_nil) (fun _ _ _ _ _ => (pe_tup (pa_cons (pe_str) (pa_cons (pv 7) pa_nil))))) (pe_int))))
      (pss_cons (ps_set (i := 3) nd rfl (Or.inl rfl) (pe_op op_cat (pv 3) (pe_op op_rep (pe_lc (own := [("_law_part", 7)]) (g := gName 7) (by rfl) nd (pi_list (pv 4)) (blkOk_by (own := [("_law_part", 7)]) (N := N__law_any_plan) (sc := defScope s__law_any_plan) (by decide +kernel)) (fun _ _ _ _ _ => (pg_name (i := 7) nd rfl (Or.inl rfl))) (fun _ _ _ _ _ => pts_one (pt_not (pt_val (pe_call G__law_shares (hr.mono (by omega)) (by rfl) D__law_shares.g D__law_shares.F.kp D__law_shares.b .nil pass0 (pa_cons (pv 7) (pa_cons (pe_op op_fdiv (pv 1) (pv 7)) pa_nil)))))) (fun _ _ _ _ _ => (pe_tup (pa_cons (pe_str) (pa_cons (pv 7) pa_nil))))) (pe_int))))
      (pss_cons (ps_set (i := 3) nd rfl (Or.inl rfl) (pe_op op_cat (pv 3) (pe_op op_rep (pe_lst (pa_cons (pe_tup (pa_cons (pe_str) pa_nil)) pa_nil)) (pe_op op_mul (pe_int) (pe_callTy call_int1 (by rfl) T.b_int (by decide +kernel) (pa_cons (pe_and (pe_cmpR op_gt (pv 1) (pe_int) (nomark _)) (pe_one (pe_call G__law_is_plain_prime (hr.mono (by omega)) (by rfl) D__law_is_plain_prime.g D__law_is_plain_prime.F.kp D__law_is_plain_prime.b .nil pass0 (pa_cons (pv 1) pa_nil)))) pa_nil))))))
      (pss_one (ps_if (pt_chain op_lt op_lt (pe_int) (pv 1) (pe_int)) (pss_one (ps_expr (pe_bm PySem.F.plainAttrs_list PySem.F.slot_list_append PySem.F.type_list_append mt_append (pv 3) (pa_cons (pe_tup (pa_cons (pe_str) (pa_cons (pe_op op_add (pe_op op_sub (pe_op op_mul (pe_int) (pv 1)) (pe_int)) (pe_call G__law_take (hr.mono (by omega)) (by rfl) D__law_take.g D__law_take.F.kp D__law_take.b .nil pass0 (pa_cons (pv 0) (pa_cons (pe_callB (call_min2 rfl) (by rfl) T.b_min (by decide +kernel) (pa_cons (pe_op op_add (pe_op op_mul (pe_int) (pv 1)) (pe_int)) (pa_cons (pe_op op_sub (pe_int) (pe_op op_mul (pe_int) (pv 1))) pa_nil))) pa_nil)))) pa_nil))) pa_nil)))) pss_nil))))) pss_nil)
      htl))), ?_⟩
    walk_at "ev"
    intro t0 ht0
    generalize hG0 : upd _ t0 _ = H1
    obtain ⟨sm1, hq0⟩ := newO hG0 ht0
    walk_at "ev"
    intro l0 hl0
    generalize hG1 : upd _ l0 _ = H2
    obtain ⟨sm2, hq1⟩ := newO hG1 hl0
    have sm02 := sm1.trans sm2
    walk_at "ev"
    intro D hD
    have hDf : H D = none := sm02.free hD
    refine lc_range (lo := 2) (n := _) (fun i H' => Hold (∃ ks : List Int, Same H2 H' ∧ H' D = some (.lst (ks.map V.int)) ∧ ks.length ≤ i ∧ ∀ k ∈ ks, 2 ≤ k ∧ k < n ∧ n % k = 0)) (.mk ⟨[], same_new hD, upd_same, Nat.zero_le _, by simp⟩) ?_ ?_
    · intro i H3 hi hP
      obtain ⟨ks, sm3, hD3, hl3, hk3⟩ := hP.un
      have hfl : (ks.map V.int).length < sizeLine := by
        rw [List.length_map]
        exact szm (by omega)
      walk_at "ev"
      refine ite2 (fun e => ?_) (fun e => ?_)
      · have e1 : n % (2 + (i : Int)) = 0 := V.int.inj (of_decide_eq_true e)
        walk_at "ev"
        refine .mk ⟨ks ++ [2 + (i : Int)], same_mut sm3 hD, ?_, ?_, ?_⟩
        · rw [upd_same, List.map_append]
          rfl
        · simp
          omega
        · intro k hk
          rcases List.mem_append.mp hk with h | h
          · exact hk3 k h
          · have e2 : k = 2 + (i : Int) := by simpa using h
            subst e2
            exact ⟨by omega, by omega, e1⟩
      · exact .mk ⟨ks, sm3, hD3, by omega, hk3⟩
    · intro H3 hP
      obtain ⟨ks, sm3, hD3, hl3, hk3⟩ := hP.un
      have hkl : ks.length ≤ 242 := by omega
      have sm03 := sm02.trans sm3
      walk_at "ev"
      intro t1 ht1
      generalize hG3 : upd _ t1 _ = H4
      obtain ⟨sm4, hq4⟩ := newO hG3 ht1
      walk_at "ev"
      intro l1 hl1
      generalize hG4 : upd _ l1 _ = H5
      obtain ⟨sm5, hq5⟩ := newO hG4 hl1
      have hcm : CMul 2 (if decide (n < 5) = true then 1 else 0) := .inl ⟨by decide, by decide⟩
      have hk0 : 0 ≤ (2 * (if decide (n < 5) = true then 1 else 0) : Int) ∧ (2 * (if decide (n < 5) = true then 1 else 0) : Int) ≤ 2 := by split <;> decide
      walk_at "ev"
      have hkn5 : 0 < (2 * (if decide (n < 5) = true then 1 else 0) : Int).toNat → n < 5 := fun z => by
        by_cases c : n < 5
        · exact c
        · rw [decide_eq_false c] at z
          exact absurd z (by decide)
      generalize hkk : (2 * (if decide (n < 5) = true then 1 else 0) : Int) = kk at *
      have hr1 : -(2 ^ 63 : Int) ≤ kk := by omega
      have hr2 : kk < (2 ^ 63 : Int) := by omega
      have hr3 : [V.ref t1].length * kk.toNat ≤ sizeLine := by
        show 1 * kk.toNat ≤ sizeLine
        exact szl (by omega)
      walk_at "ev"
      intro l2 hl2
      generalize hG5 : upd _ l2 _ = H6
      obtain ⟨sm6, hq6⟩ := newO hG5 hl2
      have hq7 := (sm3.trans (sm4.trans (sm5.trans sm6))) _ _ hq1
      have hr4 : [V.ref t0].length + (List.replicate kk.toNat [V.ref t1]).flatten.length ≤ sizeLine := by
        rw [len_rep]
        show 1 + kk.toNat * 1 ≤ sizeLine
        exact szl (by omega)
      walk_at "ev"
      intro l3 hl3
      generalize hG6 : upd _ l3 _ = H7
      obtain ⟨sm7, hq8⟩ := newO hG6 hl3
      have sm47 : Same H3 H7 := sm4.trans (sm5.trans (sm6.trans sm7))
      have sm07 : Same H H7 := sm03.trans sm47
      have hb7 := hb.same sm07
      have hw7 : ∀ x ∈ [V.ref t0] ++ (List.replicate kk.toNat [V.ref t1]).flatten, Way H7 n d x := by
        intro x hx
        rcases List.mem_append.mp hx with h | h
        · have e : x = .ref t0 := by simpa using h
          rw [e]
          exact .leaf (.inl rfl) (fun z => absurd z (by decide)) ((sm2.trans (sm3.trans sm47)) _ _ hq0)
        · have e : x = .ref t1 := by simpa using (mem_rep h).1
          rw [e]
          exact .leaf (.inr rfl) (fun _ => hkn5 (mem_rep h).2) ((sm5.trans (sm6.trans sm7)) _ _ hq4)
      have hl7 : ([V.ref t0] ++ (List.replicate kk.toNat [V.ref t1]).flatten).length ≤ 3 ∧ 0 < ([V.ref t0] ++ (List.replicate kk.toNat [V.ref t1]).flatten).length := by
        rw [List.length_append, len_rep]
        show 1 + kk.toNat * 1 ≤ 3 ∧ 0 < 1 + kk.toNat * 1
        omega
      generalize [V.ref t0] ++ (List.replicate kk.toNat [V.ref t1]).flatten = xs7 at *
      have nl3b : l3 ≠ b := (hb.same (sm03.trans (sm4.trans (sm5.trans sm6)))).ne hl3
      have hD7 := sm47 _ _ hD3
      walk_at "ev"
      refine ite2 (fun e => ?_) (fun e => ?_)
      · have hd0 : 0 < d := by
          have := of_decide_eq_true e
          omega
        have hLD : SqL K H7 D (ks.map V.int) := SqL.of hD7
        have hLD' : ∃ xs, SqL K H7 D xs := ⟨_, hLD⟩
        clear hG0 hG1 hG3 hG4 hG5 hG6 hP
        walk_at "ev"
        intro E1 hE1
        refine lc_list (K := K) (a := D) (xs := ks.map V.int) (fun i H' => Hold (∃ ys : List V, Same H7 H' ∧ H' E1 = some (.lst ys) ∧ ys.length = i ∧ ∀ y ∈ ys, Way H' n d y)) (.mk ⟨[], same_new hE1, upd_same, rfl, by simp⟩) ?_ ?_ ?_
        · intro i H8 hi hP8
          obtain ⟨ys, sm8, hE8, hl8, hw8⟩ := hP8.un
          exact sm8.seq hLD
        · intro i x H8 hx hP8
          obtain ⟨ys, sm8, hE8, hl8, hw8⟩ := hP8.un
          obtain ⟨k, hk, rfl⟩ := int_mem (List.mem_of_getElem? hx)
          obtain ⟨k1, k2, k3⟩ := hk3 k hk
          have hil : i < (ks.map V.int).length := (List.getElem?_eq_some_iff.mp hx).1
          rw [List.length_map] at hil
          walk_at "ev"
          intro t9 ht9
          generalize hG9 : upd _ t9 _ = H9
          obtain ⟨sm9, hq9⟩ := newO hG9 ht9
          have hE9 := sm9 _ _ hE8
          refine ⟨_, hE9, szm (by omega), .mk ⟨ys ++ [.ref t9], same_mut (sm8.trans sm9) hE1, upd_same, by simp [hl8], ?_⟩⟩
          have nt : t9 ≠ E1 := (ne_of_none hE8 ht9).symm
          intro y hy
          have h9 : Way H9 n d y := by
            rcases List.mem_append.mp hy with h | h
            · exact (hw8 y h).same sm9
            · have ey : y = .ref t9 := by simpa using h
              rw [ey]
              exact .two (.inl rfl) hd0 k1 k2 k3 (fun z => absurd z (by decide)) hq9
          exact h9.mut hE9
        · intro H8 hP8
          obtain ⟨ys, sm8, hE8, hl8, hw8⟩ := hP8.un
          rw [List.length_map] at hl8
          have hr5 : ys.length * (2 : Int).toNat ≤ sizeLine := by
            show ys.length * 2 ≤ sizeLine
            exact szl (by omega)
          walk_at "ev"
          intro l9 hl9
          generalize hG9 : upd _ l9 _ = H9
          obtain ⟨sm9, hq9⟩ := newO hG9 hl9
          have hq10 := (sm8.trans sm9) _ _ hq8
          have hlr : (List.replicate (2 : Int).toNat ys).flatten.length = 2 * ys.length := len_rep 2
          have hr6 : xs7.length + (List.replicate (2 : Int).toNat ys).flatten.length ≤ sizeLine := by
            rw [hlr]
            exact szl (by omega)
          walk_at "ev"
          intro l10 hl10
          generalize hG10 : upd _ l10 _ = H10
          obtain ⟨sm10, hq11⟩ := newO hG10 hl10
          have sm710 : Same H7 H10 := sm8.trans (sm9.trans sm10)
          have hw10 : ∀ x ∈ xs7 ++ (List.replicate (2 : Int).toNat ys).flatten, Way H10 n d x := by
            intro x hx
            rcases List.mem_append.mp hx with h | h
            · exact (hw7 x h).same sm710
            · exact (hw8 x (mem_rep h).1).same (sm9.trans sm10)
          have hl10' : (xs7 ++ (List.replicate (2 : Int).toNat ys).flatten).length ≤ 500 ∧ 0 < (xs7 ++ (List.replicate (2 : Int).toNat ys).flatten).length := by
            rw [List.length_append, hlr]
            omega
          generalize xs7 ++ (List.replicate (2 : Int).toNat ys).flatten = xs10 at *
          have hD10 := sm710 _ _ hD7
          have hLD10 : SqL K H10 D (ks.map V.int) := SqL.of hD10
          have hLD10' : ∃ xs, SqL K H10 D xs := ⟨_, hLD10⟩
          clear hG9 hG10 hP8
          walk_at "ev"
          intro E2 hE2
          refine lc_list (K := K) (a := D) (xs := ks.map V.int) (fun i H' => Hold (∃ ys : List V, Same H10 H' ∧ H' E2 = some (.lst ys) ∧ ys.length ≤ i ∧ ∀ y ∈ ys, Way H' n d y)) (.mk ⟨[], same_new hE2, upd_same, Nat.zero_le _, by simp⟩) ?_ ?_ ?_
          · intro i H11 hi hP11
            obtain ⟨zs, sm11, hE11, hl11, hw11⟩ := hP11.un
            exact sm11.seq hLD10
          · intro i x H11 hx hP11
            obtain ⟨zs, sm11, hE11, hl11, hw11⟩ := hP11.un
            obtain ⟨k, hk, rfl⟩ := int_mem (List.mem_of_getElem? hx)
            obtain ⟨k1, k2, k3⟩ := hk3 k hk
            have hil : i < (ks.map V.int).length := (List.getElem?_eq_some_iff.mp hx).1
            rw [List.length_map] at hil
            have hq0' : 0 ≤ n / k := Int.ediv_nonneg (by omega) (by omega)
            have hq1' : n / k ≤ n := Int.ediv_le_self _ (by omega)
            walk_at "ev"
            refine ite2 (fun e2 => ?_) (fun e2 => ?_)
            · have hgk : Int.gcd k (n / k) = 1 := by
                have z : ¬ 1 < Int.gcd k (n / k) := fun y => by
                  rw [decide_eq_true y] at e2
                  cases e2
                have := Int.gcd_pos_of_ne_zero_left (n / k) (show k ≠ 0 by omega)
                omega
              walk_at "ev"
              intro t9 ht9
              generalize hG9 : upd _ t9 _ = H12
              obtain ⟨sm12, hq12⟩ := newO hG9 ht9
              have hE12 := sm12 _ _ hE11
              refine ⟨_, hE12, szm (by omega), .mk ⟨zs ++ [.ref t9], same_mut (sm11.trans sm12) hE2, upd_same, by simp; omega, ?_⟩⟩
              intro y hy
              have h9 : Way H12 n d y := by
                rcases List.mem_append.mp hy with h | h
                · exact (hw11 y h).same sm12
                · have ey : y = .ref t9 := by simpa using h
                  rw [ey]
                  exact .two (.inr rfl) hd0 k1 k2 k3 (fun _ => hgk) hq12
              exact h9.mut hE12
            · exact .mk ⟨zs, sm11, hE11, by omega, hw11⟩
          · intro H11 hP11
            obtain ⟨zs, sm11, hE11, hl11, hw11⟩ := hP11.un
            rw [List.length_map] at hl11
            have hr7 : zs.length * (2 : Int).toNat ≤ sizeLine := by
              show zs.length * 2 ≤ sizeLine
              exact szl (by omega)
            walk_at "ev"
            intro l12 hl12
            generalize hG12 : upd _ l12 _ = H12
            obtain ⟨sm12, hq12⟩ := newO hG12 hl12
            have hq13 := (sm11.trans sm12) _ _ hq11
            have hlr2 : (List.replicate (2 : Int).toNat zs).flatten.length = 2 * zs.length := len_rep 2
            have hr8 : xs10.length + (List.replicate (2 : Int).toNat zs).flatten.length ≤ sizeLine := by
              rw [hlr2]
              exact szl (by omega)
            walk_at "ev"
            intro l13 hl13
            generalize hG13 : upd _ l13 _ = H13
            obtain ⟨sm13, hq14⟩ := newO hG13 hl13
            have sm1013 : Same H10 H13 := sm11.trans (sm12.trans sm13)
            have hw13 : ∀ x ∈ xs10 ++ (List.replicate (2 : Int).toNat zs).flatten, Way H13 n d x := by
              intro x hx
              rcases List.mem_append.mp hx with h | h
              · exact (hw10 x h).same sm1013
              · exact (hw11 x (mem_rep h).1).same (sm12.trans sm13)
            have hl13' : (xs10 ++ (List.replicate (2 : Int).toNat zs).flatten).length ≤ 1000 ∧ 0 < (xs10 ++ (List.replicate (2 : Int).toNat zs).flatten).length := by
              rw [List.length_append, hlr2]
              omega
            generalize xs10 ++ (List.replicate (2 : Int).toNat zs).flatten = xs13 at *
            clear hG12 hG13 hP11
            walk_at "ev"
            intro t14 ht14
            generalize hG14 : upd _ t14 _ = H14
            obtain ⟨sm14, hq15⟩ := newO hG14 ht14
            walk_at "ev"
            intro l15 hl15
            generalize hG15 : upd _ l15 _ = H15
            obtain ⟨sm15, hq16⟩ := newO hG15 hl15
            have key : ∀ (σ : L2.St) (R : VK), σ[1]? = some (some (.int n)) → (∀ kk H16, Same H15 H16 → 0 ≤ kk → kk ≤ 3 → (0 < kk → 2 < n ∧ Fac n [n]) → R (.int kk) H16) → tOp (rI CMul fun i j => V.int (i * j)) (tC (V.int 3)) (tCB (fun xs H Q => (∃ i, xs = [V.int i] ∧ Q (V.int i) H) ∨ ∃ k, xs = [V.bl k] ∧ Q (V.int (if k = true then 1 else 0)) H) (tCons (tAndV (tOp (rI0 fun i j => V.bl (decide (j < i))) (tVar 1) (tC (V.int 2))) (tCall spPrm [] E0 (tCons (tVar 1) tNil))) tNil)) σ H15 R := by
              intro σ R h1 hR
              have cm3 : ∀ z : Int, CMul 3 z := fun z => .inl ⟨by decide, by decide⟩
              refine ⟨_, h1, _, _, rfl, rfl, _, rfl, ?_⟩
              refine ite2 (fun e3 => ?_) (fun e3 => ?_)
              · have e4 : 2 < n := of_decide_eq_true e3
                refine ⟨_, h1, n, rfl, by omega, by omega, ?_⟩
                intro bb H16 sm16 hbb
                refine .inr ⟨bb, rfl, _, _, rfl, rfl, cm3 _, ?_⟩
                refine hR _ _ sm16 ?_ ?_ (fun z => ⟨e4, ?_⟩)
                · cases bb <;> decide
                · cases bb <;> decide
                · cases bb with
                  | true => exact Fac.self (by omega) (hbb.mp rfl).2
                  | false => exact absurd z (by decide)
              · refine .inr ⟨false, rfl, _, _, rfl, rfl, cm3 _, ?_⟩
                exact hR _ _ (Same.refl _) (by decide) (by decide) (fun z => absurd z (by decide))
            refine key _ _ rfl (fun kk H16 sm16 k0 k3 kn => ?_)
            have hq17 := sm16 _ _ hq16
            have hr9 : -(2 ^ 63 : Int) ≤ kk := by omega
            have hr10 : kk < (2 ^ 63 : Int) := by omega
            have hr11 : [V.ref t14].length * kk.toNat ≤ sizeLine := by
              show 1 * kk.toNat ≤ sizeLine
              exact szl (by omega)
            clear key
            walk_at "ev"
            intro l17 hl17
            generalize hG17 : upd _ l17 _ = H17
            obtain ⟨sm17, hq18⟩ := newO hG17 hl17
            have hq19 := (sm14.trans (sm15.trans (sm16.trans sm17))) _ _ hq14
            have hr12 : xs13.length + (List.replicate kk.toNat [V.ref t14]).flatten.length ≤ sizeLine := by
              rw [len_rep]
              exact szl (by simp; omega)
            walk_at "ev"
            intro l18 hl18
            generalize hG18 : upd _ l18 _ = H18
            obtain ⟨sm18, hq20⟩ := newO hG18 hl18
            have sm1318 : Same H13 H18 := sm14.trans (sm15.trans (sm16.trans (sm17.trans sm18)))
            have hw18 : ∀ x ∈ xs13 ++ (List.replicate kk.toNat [V.ref t14]).flatten, Way H18 n d x := by
              intro x hx
              rcases List.mem_append.mp hx with h | h
              · exact (hw13 x h).same sm1318
              · have hm := mem_rep h
                have ex : x = .ref t14 := by simpa using hm.1
                rw [ex]
                exact .pow hd0 (kn (by omega)).1 (kn (by omega)).2 ((sm15.trans (sm16.trans (sm17.trans sm18))) _ _ hq15)
            have hl18' : (xs13 ++ (List.replicate kk.toNat [V.ref t14]).flatten).length ≤ 1100 ∧ 0 < (xs13 ++ (List.replicate kk.toNat [V.ref t14]).flatten).length := by
              rw [List.length_append, len_rep]
              simp
              omega
            generalize xs13 ++ (List.replicate kk.toNat [V.ref t14]).flatten = xs18 at *
            have sm018 : Same H H18 := sm07.trans (sm710.trans (sm1013.trans sm1318))
            have hb18 : BoxAt H18 b (c + 0) := by
              rw [Int.add_zero]
              exact hb.same sm018
            have hb17 : BoxAt H17 b c := hb.same (sm07.trans (sm710.trans (sm1013.trans (sm14.trans (sm15.trans (sm16.trans sm17))))))
            have nl18 : l18 ≠ b := hb17.ne hl18
            clear hG14 hG15 hG17 hG18
            walk_at "ev"
            refine ite2 (fun e5 => ?_) (fun e5 => ?_)
            · have e6 : 1 < n := of_decide_eq_true e5
              walk_at "ev"
              refine ite2 (fun e7 => ?_) (fun e7 => ?_)
              · have e8 : n < 121 := of_decide_eq_true e7
                have hL18 : SqL K H18 l18 xs18 := SqL.of hq20
                have hty : tyV K "list" (.ref l18) H18 := .inl ⟨rfl, _, hL18⟩
                have cm2 : CMul 2 n := .inl ⟨by decide, by decide⟩
                have hmin : 0 < (if 242 - 2 * n < 2 * n + 2 then 242 - 2 * n else 2 * n + 2) ∧ (if 242 - 2 * n < 2 * n + 2 then 242 - 2 * n else 2 * n + 2) ≤ 242 - 2 * n := by split <;> omega
                walk_at "ev"
                intro r H19 r0 r1 k19 hb19
                walk_at "ev"
                intro t20 ht20
                generalize hG20 : upd _ t20 _ = H20
                obtain ⟨sm20, hq21⟩ := newO hG20 ht20
                have hq22 := sm20 _ _ (k19 _ _ nl18 hq20)
                have hsz18 : xs18.length < sizeLine := szm (by omega)
                refine ⟨l18, xs18, _, rfl, rfl, hq22, hsz18, ?_⟩
                generalize hG21 : upd _ l18 _ = H21
                obtain ⟨k21, hq23⟩ := mutO hG21
                have hb20 := hb19.same sm20
                have hb21 : BoxAt H21 b (c + 1) := by
                  obtain ⟨x, y, z, e1, e2⟩ := hb20
                  refine BoxAt.mono ⟨x, y, z, k21 _ _ nl18.symm e1, e2⟩ (by omega)
                have hl18f : H l18 = none := (sm07.trans (sm710.trans (sm1013.trans (sm14.trans (sm15.trans (sm16.trans sm17)))))).free hl18
                have kf : Keep b H H21 := fun x o nx hx => k21 _ _ (ne_of_none hx hl18f) ((keepS sm20) _ _ nx (k19 _ _ nx (sm018 _ _ hx)))
                refine fin l18 _ H21 _ _ _ _ 1 kf hb21 (.inr ⟨rfl, hd0⟩) hq23 nl18 ?_ (by simp) (by simp; omega)
                intro x hx
                have h20 : Way H20 n d x := by
                  rcases List.mem_append.mp hx with h | h
                  · exact ((hw18 x h).keep k19 hb18).same sm20
                  · have ex : x = .ref t20 := by simpa using h
                    rw [ex]
                    exact .str hd0 e6 (by omega) (by omega) hq21
                rw [← hG21]
                exact h20.mut hq22
              · exact fin l18 xs18 H18 _ _ _ _ 0 (keepS sm018) hb18 (.inl rfl) hq20 nl18 hw18 hl18'.2 (by omega)
            · walk_at "ev"
              exact fin l18 xs18 H18 _ _ _ _ 0 (keepS sm018) hb18 (.inl rfl) hq20 nl18 hw18 hl18'.2 (by omega)
      · have hbz : BoxAt H7 b (c + 0) := by rw [Int.add_zero]; exact hb7
        exact fin l3 xs7 H7 _ _ _ _ 0 (keepS sm07) hbz (.inl rfl) hq8 nl3b hw7 hl7.2 (by omega)
theorem ok_any {f f1 f2 f3 f4 : Addr} {fd d1 d2 d3 d4 : FuncData} (D__law_any_plan : Df K mg "_law_any_plan" s__law_any_plan P__law_any_plan f fd) (T : Blt mg) (D__law_take : Df K mg "_law_take" s__law_take P__law_take f1 d1) (D__law_pick : Df K mg "_law_pick" s__law_pick P__law_pick f2 d2) (D__law_shares : Df K mg "_law_shares" s__law_shares P__law_shares f3 d3) (D__law_is_plain_prime : Df K mg "_law_is_plain_prime" s__law_is_plain_prime P__law_is_plain_prime f4 d4) : ∀ d : Nat, FnOk P w K mg base CX0 (d + 3) f fd P__law_any_plan (spAny K d)
  | 0 => any_step (spI := fun _ _ _ _ => False) D__law_any_plan T D__law_take D__law_pick D__law_shares D__law_is_plain_prime ⟨fun _ _ _ _ h => h.elim, fun _ _ _ _ _ _ _ _ _ _ _ _ _ h => h.elim⟩ (fun m h => by omega)
  | d + 1 => any_step D__law_any_plan T D__law_take D__law_pick D__law_shares D__law_is_plain_prime (ok_any D__law_any_plan T D__law_take D__law_pick D__law_shares D__law_is_plain_prime d) (fun m h => by cases h; rfl)
end
abbrev s_bare_length : Stmt := top 10
abbrev N_bare_length : List Str := ["word", "length"]
abbrev P_bare_length : List Str := ["word", "length"]
theorem sc_bare_length : FnScope N_bare_length P_bare_length (defScope s_bare_length) := ⟨rfl, rfl, rfl, by decide +kernel, rfl, by decide +kernel, by decide +kernel⟩
def spBare : Sp := fun vs H Q _ => ∃ (x : Str) (n : Int), vs = [.str x, .int n] ∧ (x = "plain" ∨ x = "short") ∧ 1 ≤ n ∧ (x = "short" → n < 5) ∧ Q (.int n) H
section
variable {P : Program} {w : World} {K : PySem.W.Frag} {mg : Str → Option Value} {base : Heap}
theorem ok_bare {f f1 aS : Addr} {fd d1 : FuncData} {k : Nat} (F : Fun K "bare_length" "bare_length" s_bare_length f fd) (T : Blt mg) (D_is_whole : Df K mg "is_whole" s_is_whole P_is_whole f1 d1) (M_SHORTS : mg "SHORTS" = some (.ref aS)) (QS : ∀ H : Hp, SqT K H aS (([1, 2, 3, 4] : List Int).map V.int)) : FnOk P w K mg base CX0 (k + 2) f fd P_bare_length spBare := by
  have G_is_whole : FnOk P w K mg base CX0 (k + 1) f1 d1 P_is_whole (spWhole K) := ok_whole D_is_whole.F T
  have nd := sc_bare_length.nd
  refine F.ok sc_bare_length (fun vs H Q E h => ?_) (fun cdv A outer s H vs Q E hr h => ?_)
  · obtain ⟨x, n, rfl, _⟩ := h
    rfl
  · obtain ⟨x, n, rfl, hw, n1, n5, q⟩ := h
    refine ⟨_, (pss_cons (ps_if (pt_not (pt_val (pe_call G_is_whole (hr.mono (by omega)) (by rfl) D_is_whole.g D_is_whole.F.kp D_is_whole.b .nil pass0 (pa_cons (pv 1) pa_nil)))) (pss_one (ps_ret (pe_int))) pss_nil)
      (pss_cons (ps_if (PW.pt (pw_and (pt_cmpR op_eq (pv 0) (pe_str) (nomark _)) (pw_and1 (pt_cmpR op_ge (pv 1) (pe_int) (nomark _))))) (pss_one (ps_ret (pv 1))) pss_nil)
      (pss_cons (ps_if (PW.pt (pw_and (pt_cmpR op_eq (pv 0) (pe_str) (nomark _)) (pw_and1 (pt_cmpR (r := rIn K false) op_in_seq (pv 1) (pe_glob (v := .ref _) (by rfl) M_SHORTS rfl) (by rfl))))) (pss_one (ps_ret (pv 1))) pss_nil)
      (pss_one (ps_ret (pe_int)))))), ?_⟩
    have hk : Kd K H (.int n) "int" := .int n
    have hin : SqL K H aS (([1, 2, 3, 4] : List Int).map V.int) ∨ SqT K H aS (([1, 2, 3, 4] : List Int).map V.int) := .inr (QS H)
    rcases hw with rfl | rfl
    · walk_at "ev"
      refine iteTe (decide_eq_true n1) ?_
      walk_at "ev"
      exact q
    · have n4 := n5 rfl
      have e : inV (.int n) (([1, 2, 3, 4] : List Int).map V.int) = true := by
        have : n = 1 ∨ n = 2 ∨ n = 3 ∨ n = 4 := by omega
        rcases this with z | z | z | z <;> rw [z] <;> decide
      walk_at "ev"
      refine iteTe e ?_
      walk_at "ev"
      exact q
end
abbrev s_pair_length : Stmt := top 11
abbrev N_pair_length : List Str := ["word", "first", "second"]
abbrev P_pair_length : List Str := ["word", "first", "second"]
theorem sc_pair_length : FnScope N_pair_length P_pair_length (defScope s_pair_length) := ⟨rfl, rfl, rfl, by decide +kernel, rfl, by decide +kernel, by decide +kernel⟩
def spPair : Sp := fun vs H Q _ => ∃ (x : Str) (m n : Int), vs = [.str x, .int m, .int n] ∧ (x = "split" ∨ (x = "parts" ∧ Int.gcd m n = 1)) ∧ 2 ≤ m ∧ 2 ≤ n ∧ n ≤ 1000 ∧ Q (.int (m * n)) H
section
variable {P : Program} {w : World} {K : PySem.W.Frag} {mg : Str → Option Value} {base : Heap}
theorem ok_pair {f f1 : Addr} {fd d1 : FuncData} {k : Nat} (F : Fun K "pair_length" "pair_length" s_pair_length f fd) (T : Blt mg) (D_are_coprime : Df K mg "are_coprime" s_are_coprime P_are_coprime f1 d1) : FnOk P w K mg base CX0 (k + 2) f fd P_pair_length spPair := by
  have G_are_coprime : FnOk P w K mg base CX0 (k + 1) f1 d1 P_are_coprime spCop := ok_coprime D_are_coprime.F
  have nd := sc_pair_length.nd
  refine F.ok sc_pair_length (fun vs H Q E h => ?_) (fun cdv A outer s H vs Q E hr h => ?_)
  · obtain ⟨x, m, n, rfl, _⟩ := h
    rfl
  · obtain ⟨x, m, n, rfl, hw, m2, n2, n1000, q⟩ := h
    refine ⟨_, (pss_cons (ps_if (PW.pt (pw_or (pt_cmpR op_lt (pv 1) (pe_int) (nomark _)) (pw_or1 (pt_cmpR op_lt (pv 2) (pe_int) (nomark _))))) (pss_one (ps_ret (pe_int))) pss_nil)
      (pss_cons (ps_if (PW.pt (pw_and (pt_cmpR op_eq (pv 0) (pe_str) (nomark _)) (pw_and1 (pt_not (pt_val (pe_call G_are_coprime (hr.mono (by omega)) (by rfl) D_are_coprime.g D_are_coprime.F.kp D_are_coprime.b .nil pass0 (pa_cons (pv 1) (pa_cons (pv 2) pa_nil)))))))) (pss_one (ps_ret (pe_int))) pss_nil)
      (pss_one (ps_ret (pe_op op_mul (pv 1) (pv 2)))))), ?_⟩
    have m0 : 0 ≤ m := by omega
    have n0 : 0 ≤ n := by omega
    have hcm : CMul m n := .inr ⟨by omega, by omega⟩
    walk_at "ev"
    refine iteFe (decide_eq_false (by omega)) ?_
    walk_at "ev"
    refine iteFe (decide_eq_false (by omega)) ?_
    walk_at "ev"
    rcases hw with rfl | ⟨rfl, hg⟩
    · walk_at "ev"
      exact q
    · walk_at "ev"
      exact q
end
abbrev s_led_length : Stmt := top 12
abbrev N_led_length : List Str := ["word", "length", "inner"]
abbrev P_led_length : List Str := ["word", "length", "inner"]
theorem sc_led_length : FnScope N_led_length P_led_length (defScope s_led_length) := ⟨rfl, rfl, rfl, by decide +kernel, rfl, by decide +kernel, by decide +kernel⟩
def spLedl (K : PySem.W.Frag) : Sp := fun vs H Q _ => ∃ (x : Str) (n m : Int), vs = [.str x, .int n, .int m] ∧ ((x = "powers" ∧ 3 ≤ n ∧ m = n - 1 ∧ Fac n [n]) ∨ (x = "stretch" ∧ 2 ≤ n ∧ 2 * n - 1 ≤ m)) ∧ n ≤ 1000 ∧ ∀ H', Same H H' → Q (.int n) H'
section
variable {P : Program} {w : World} {K : PySem.W.Frag} {mg : Str → Option Value} {base : Heap}
theorem ok_ledl {f f1 f2 f3 : Addr} {fd d1 d2 d3 : FuncData} {k : Nat} (F : Fun K "led_length" "led_length" s_led_length f fd) (T : Blt mg) (D_is_whole : Df K mg "is_whole" s_is_whole P_is_whole f1 d1) (D_is_prime : Df K mg "is_prime" s_is_prime P_is_prime f2 d2) (D_factors : Df K mg "factors" s_factors P_factors f3 d3) : FnOk P w K mg base CX0 (k + 3) f fd P_led_length (spLedl K) := by
  have G_is_whole : FnOk P w K mg base CX0 (k + 1) f1 d1 P_is_whole (spWhole K) := ok_whole D_is_whole.F T
  have G_is_prime : FnOk P w K mg base CX0 (k + 2) f2 d2 P_is_prime (spPrime K) := ok_prime D_is_prime.F T D_is_whole D_factors
  have nd := sc_led_length.nd
  refine F.ok sc_led_length (fun vs H Q E h => ?_) (fun cdv A outer s H vs Q E hr h => ?_)
  · obtain ⟨x, n, m, rfl, _⟩ := h
    rfl
  · obtain ⟨x, n, m, rfl, hw, n1000, q⟩ := h
    refine ⟨_, (pss_cons (ps_if (pt_not (pt_val (pe_call G_is_whole (hr.mono (by omega)) (by rfl) D_is_whole.g D_is_whole.F.kp D_is_whole.b .nil pass0 (pa_cons (pv 1) pa_nil)))) (pss_one (ps_ret (pe_int))) pss_nil)
      (pss_cons (ps_if (PW.pt (pw_and (pt_cmpR op_eq (pv 0) (pe_str) (nomark _)) (pw_and (pt_cmpR op_ge (pv 1) (pe_int) (nomark _)) (pw_and (pt_cmpR op_eq (pv 2) (pe_op op_sub (pv 1) (pe_int)) (nomark _)) (pw_and1 (pt_val (pe_call G_is_prime (hr.mono (by omega)) (by rfl) D_is_prime.g D_is_prime.F.kp D_is_prime.b .nil pass0 (pa_cons (pv 1) pa_nil)))))))) (pss_one (ps_ret (pv 1))) pss_nil)
      (pss_cons (ps_if (PW.pt (pw_and (pt_cmpR op_eq (pv 0) (pe_str) (nomark _)) (pw_and (pt_cmpR op_ge (pv 1) (pe_int) (nomark _)) (pw_and1 (pt_cmpR op_ge (pv 2) (pe_op op_sub (pe_op op_mul (pe_int) (pv 1)) (pe_int)) (nomark _)))))) (pss_one (ps_ret (pv 1))) pss_nil)
      (pss_one (ps_ret (pe_int)))))), ?_⟩
    have hk : Kd K H (.int n) "int" := .int n
    have hb : ∀ z, V.int n = .int z → z ≤ 1000000000 := fun z e => by
      cases e
      omega
    have cm2 : CMul 2 n := .inl ⟨by decide, by decide⟩
    rcases hw with ⟨rfl, n3, rfl, hf⟩ | ⟨rfl, n2, hm⟩
    · walk_at "ev"
      refine iteTe (decide_eq_true n3) ?_
      walk_at "ev"
      intro b H1 sm1 hbb
      have : b = true := hbb.mpr ⟨n, rfl, hf⟩
      subst this
      walk_at "ev"
      exact q _ sm1
    · walk_at "ev"
      refine iteTe (decide_eq_true n2) ?_
      walk_at "ev"
      refine iteTe (decide_eq_true hm) ?_
      walk_at "ev"
      exact q _ (Same.refl _)
end
abbrev s_length_if_plan : Stmt := top 13
abbrev N_length_if_plan : List Str := ["thing", "word", "first", "second", "inner"]
abbrev P_length_if_plan : List Str := ["thing"]
theorem sc_length_if_plan : FnScope N_length_if_plan P_length_if_plan (defScope s_length_if_plan) := ⟨rfl, rfl, rfl, by decide +kernel, rfl, by decide +kernel, by decide +kernel⟩
def spLip (K : PySem.W.Frag) (d : Nat) : Sp := fun vs H Q _ => ∃ (v : V) (p : Pl), vs = [v] ∧ PlAt K H v p ∧ PlN p ∧ pdep p ≤ d ∧ ∀ H', Same H H' → Q (.int (plen p)) H'
section
variable {P : Program} {w : World} {K : PySem.W.Frag} {mg : Str → Option Value} {base : Heap}
theorem lip_step {f f1 f2 f3 f4 f5 f6 f7 aS : Addr} {fd d1 d2 d3 d4 d5 d6 d7 : FuncData} {n : Nat} {spI : Sp} (D_length_if_plan : Df K mg "length_if_plan" s_length_if_plan P_length_if_plan f fd) (T : Blt mg) (M_SHORTS : mg "SHORTS" = some (.ref aS)) (QS : ∀ H : Hp, SqT K H aS (([1, 2, 3, 4] : List Int).map V.int)) (D_is_whole : Df K mg "is_whole" s_is_whole P_is_whole f1 d1) (D_is_prime : Df K mg "is_prime" s_is_prime P_is_prime f2 d2) (D_factors : Df K mg "factors" s_factors P_factors f3 d3) (D_are_coprime : Df K mg "are_coprime" s_are_coprime P_are_coprime f4 d4) (D_bare_length : Df K mg "bare_length" s_bare_length P_bare_length f5 d5) (D_pair_length : Df K mg "pair_length" s_pair_length P_pair_length f6 d6) (D_led_length : Df K mg "led_length" s_led_length P_led_length f7 d7) (G_length_if_plan : FnOk P w K mg base CX0 (n + 3) f fd P_length_if_plan spI) (hG : ∀ m, n = m + 1 → spI = spLip K m) : FnOk P w K mg base CX0 (n + 4) f fd P_length_if_plan (spLip K n) := by
  have G_bare_length : FnOk P w K mg base CX0 2 f5 d5 P_bare_length spBare := ok_bare (k := 0) D_bare_length.F T D_is_whole M_SHORTS QS
  have G_pair_length : FnOk P w K mg base CX0 2 f6 d6 P_pair_length spPair := ok_pair (k := 0) D_pair_length.F T D_are_coprime
  have G_led_length : FnOk P w K mg base CX0 3 f7 d7 P_led_length (spLedl K) := ok_ledl (k := 0) D_led_length.F T D_is_whole D_is_prime D_factors
  have nd := sc_length_if_plan.nd
  refine D_length_if_plan.F.ok sc_length_if_plan (fun vs H Q E h => ?_) (fun cdv A outer s H vs Q E hr h => ?_)
  · obtain ⟨v, p, rfl, _⟩ := h
    rfl
  · obtain ⟨v, p, rfl, hp, hg, hd, q⟩ := h
    refine ⟨_, (pss_cons (ps_if (pt_not (pt_val (pe_callB (r := rIsi K) call_isi (by rfl) T.b_isinstance (by decide +kernel) (pa_cons (pv 0) (pa_cons (pe_bltn (v := .ty "tuple") (by rfl) T.b_tuple (by decide +kernel) rfl) pa_nil))))) (pss_one (ps_ret (pe_int))) pss_nil)
      (pss_cons (ps_if (pt_cmpR op_eq (pe_callB (r := rLenQ K) call_len_seq (by rfl) T.b_len (by decide +kernel) (pa_cons (pv 0) pa_nil)) (pe_int) (nomark _)) (pss_one (ps_ret (pe_call G_bare_length (hr.mono (by omega)) (by rfl) D_bare_length.g D_bare_length.F.kp D_bare_length.b .nil pass0 (pa_cons (pe_ix (r := rIxT K) ix_tup (pv 0) (pe_int) (fun _ _ => rfl)) (pa_cons (pe_ix (r := rIxT K) ix_tup (pv 0) (pe_int) (fun _ _ => rfl)) pa_nil))))) pss_nil)
      (pss_cons (ps_if (pt_cmpR op_ne (pe_callB (r := rLenQ K) call_len_seq (by rfl) T.b_len (by decide +kernel) (pa_cons (pv 0) pa_nil)) (pe_int) (nomark _)) (pss_one (ps_ret (pe_int))) pss_nil)
      (pss_cons (ps_asg (pv 0) (pg_tup (by rfl) (pgs_cons (pg_name (i := 1) nd rfl (Or.inl rfl)) (pgs_cons (pg_name (i := 2) nd rfl (Or.inl rfl)) (pgs_cons (pg_name (i := 3) nd rfl (Or.inl rfl)) pgs_nil)))))
      (pss_cons (ps_set (i := 4) nd rfl (Or.inl rfl) (pe_call G_length_if_plan (hr.mono (by omega)) (by rfl) D_length_if_plan.g D_length_if_plan.F.kp D_length_if_plan.b .nil pass0 (pa_cons (pv 3) pa_nil)))
      (pss_cons (ps_if (pt_cmpR (r := rIn K false) op_in_seq (pv 1) (pe_tup (pa_cons (pe_str) (pa_cons (pe_str) pa_nil))) (by rfl)) (pss_one (ps_ret (pe_call G_pair_length (hr.mono (by omega)) (by rfl) D_pair_length.g D_pair_length.F.kp D_pair_length.b .nil pass0 (pa_cons (pv 1) (pa_cons (pe_call G_length_if_plan (hr.mono (by omega)) (by rfl) D_length_if_plan.g D_length_if_plan.F.kp D_length_if_plan.b .nil pass0 (pa_cons (pv 2) pa_nil)) (pa_cons (pv 4) pa_nil)))))) pss_nil)
      (pss_one (ps_ret (pe_call G_led_length (hr.mono (by omega)) (by rfl) D_led_length.g D_led_length.F.kp D_led_length.b .nil pass0 (pa_cons (pv 1) (pa_cons (pv 2) (pa_cons (pv 4) pa_nil)))))))))))), ?_⟩
    have kd := hp.kd
    have ty := kd.ty
    obtain ⟨k1, k2, k3, k4, k5⟩ := kd.kit
    clear kd
    have ok := hg.ok
    cases hp with
    | leaf hw hs =>
      rename_i a wd n
      obtain ⟨n1, n60, n5⟩ := hg
      have hat0 : atI [V.str wd, V.int n] 0 = some (.str wd) := rfl
      have hat1 : atI [V.str wd, V.int n] 1 = some (.int n) := rfl
      have n5' : wd = "short" → n < 5 := fun z => by have := n5 z; omega
      have n1' : 1 ≤ n := n1
      walk_at "ev"
      exact q _ (Same.refl _)
    | two hw hs hx' hy' =>
      rename_i a wd x y p1 p2
      cases n with
      | zero =>
        have : 1 + max (pdep p1) (pdep p2) ≤ 0 := hd
        omega
      | succ n =>
      have hS := hG n rfl
      subst hS
      have hd' : 1 + max (pdep p1) (pdep p2) ≤ n + 1 := hd
      obtain ⟨g1, g2, l1, l2, g4, g5⟩ := hg
      have hdx : pdep p1 ≤ n := by omega
      have hdy : pdep p2 ≤ n := by omega
      have l1000 := g2.ok.2.1
      have hwp : wd = "split" ∨ (wd = "parts" ∧ Int.gcd (plen p1) (plen p2) = 1) := by
        rcases hw with z | z
        · exact .inl z
        · exact .inr ⟨z, g5 z⟩
      walk_at "ev"
      intro H2 sm2
      have hs2 := same_t sm2 hs
      walk_at "ev"
      w_cond _3
      have ht : SqL K H3 l3 [.str "split", .str "parts"] ∨ SqT K H3 l3 [.str "split", .str "parts"] := .inr (SqT.of hq3)
      have hs3 := same_t sm3 hs2
      have hx3 := (hx'.same sm2).same sm3
      walk_at "ev"
      refine iteTe (in_sp hw) ?_
      walk_at "ev"
      intro H4 sm4
      walk_at "ev"
      exact q H4 (sm2.trans (sm3.trans sm4))
    | led hw hs hx' =>
      rename_i a wd m x p1
      cases n with
      | zero =>
        have : 1 + pdep p1 ≤ 0 := hd
        omega
      | succ n =>
      have hS := hG n rfl
      subst hS
      have hd' : 1 + pdep p1 ≤ n + 1 := hd
      obtain ⟨g1, g2, g3, g5, g6⟩ := hg
      have hdx : pdep p1 ≤ n := by omega
      have m1000 : m ≤ 1000 := g3
      have hwp : (wd = "powers" ∧ 3 ≤ m ∧ plen p1 = m - 1 ∧ Fac m [m]) ∨ (wd = "stretch" ∧ 2 ≤ m ∧ 2 * m - 1 ≤ plen p1) := by
        rcases hw with z | z
        · obtain ⟨a1, a2, a3⟩ := g5 z
          exact .inl ⟨z, a1, a3, a2⟩
        · exact .inr ⟨z, g2, g6 z⟩
      walk_at "ev"
      intro H2 sm2
      have hs2 := same_t sm2 hs
      walk_at "ev"
      w_cond _3
      have ht : SqL K H3 l3 [.str "split", .str "parts"] ∨ SqT K H3 l3 [.str "split", .str "parts"] := .inr (SqT.of hq3)
      have hs3 := same_t sm3 hs2
      walk_at "ev"
      refine iteFe (in_sp_led hw) ?_
      walk_at "ev"
      intro H4 sm4
      exact q H4 (sm2.trans (sm3.trans sm4))
theorem ok_lip {f f1 f2 f3 f4 f5 f6 f7 aS : Addr} {fd d1 d2 d3 d4 d5 d6 d7 : FuncData} (D_length_if_plan : Df K mg "length_if_plan" s_length_if_plan P_length_if_plan f fd) (T : Blt mg) (M_SHORTS : mg "SHORTS" = some (.ref aS)) (QS : ∀ H : Hp, SqT K H aS (([1, 2, 3, 4] : List Int).map V.int)) (D_is_whole : Df K mg "is_whole" s_is_whole P_is_whole f1 d1) (D_is_prime : Df K mg "is_prime" s_is_prime P_is_prime f2 d2) (D_factors : Df K mg "factors" s_factors P_factors f3 d3) (D_are_coprime : Df K mg "are_coprime" s_are_coprime P_are_coprime f4 d4) (D_bare_length : Df K mg "bare_length" s_bare_length P_bare_length f5 d5) (D_pair_length : Df K mg "pair_length" s_pair_length P_pair_length f6 d6) (D_led_length : Df K mg "led_length" s_led_length P_led_length f7 d7) : ∀ n : Nat, FnOk P w K mg base CX0 (n + 4) f fd P_length_if_plan (spLip K n)
  | 0 => lip_step (spI := fun _ _ _ _ => False) D_length_if_plan T M_SHORTS QS D_is_whole D_is_prime D_factors D_are_coprime D_bare_length D_pair_length D_led_length ⟨fun _ _ _ _ h => h.elim, fun _ _ _ _ _ _ _ _ _ _ _ _ _ h => h.elim⟩ (fun m h => by omega)
  | n + 1 => lip_step D_length_if_plan T M_SHORTS QS D_is_whole D_is_prime D_factors D_are_coprime D_bare_length D_pair_length D_led_length (ok_lip D_length_if_plan T M_SHORTS QS D_is_whole D_is_prime D_factors D_are_coprime D_bare_length D_pair_length D_led_length n) (fun m h => by cases h; rfl)
end
abbrev s_is_plan : Stmt := top 14
abbrev N_is_plan : List Str := ["thing"]
abbrev P_is_plan : List Str := ["thing"]
theorem sc_is_plan : FnScope N_is_plan P_is_plan (defScope s_is_plan) := ⟨rfl, rfl, rfl, by decide +kernel, rfl, by decide +kernel, by decide +kernel⟩
def spIsp (K : PySem.W.Frag) (d : Nat) : Sp := fun vs H Q _ => ∃ (v : V) (p : Pl), vs = [v] ∧ PlAt K H v p ∧ PlN p ∧ pdep p ≤ d ∧ ∀ H', Same H H' → Q (.bl true) H'
section
variable {P : Program} {w : World} {K : PySem.W.Frag} {mg : Str → Option Value} {base : Heap}
theorem ok_isp (dd : Nat) {f f0 f1 f2 f3 f4 f5 f6 f7 aS : Addr} {fd d0 d1 d2 d3 d4 d5 d6 d7 : FuncData} (F : Fun K "is_plan" "is_plan" s_is_plan f fd) (D_length_if_plan : Df K mg "length_if_plan" s_length_if_plan P_length_if_plan f0 d0) (T : Blt mg) (M_SHORTS : mg "SHORTS" = some (.ref aS)) (QS : ∀ H : Hp, SqT K H aS (([1, 2, 3, 4] : List Int).map V.int)) (D_is_whole : Df K mg "is_whole" s_is_whole P_is_whole f1 d1) (D_is_prime : Df K mg "is_prime" s_is_prime P_is_prime f2 d2) (D_factors : Df K mg "factors" s_factors P_factors f3 d3) (D_are_coprime : Df K mg "are_coprime" s_are_coprime P_are_coprime f4 d4) (D_bare_length : Df K mg "bare_length" s_bare_length P_bare_length f5 d5) (D_pair_length : Df K mg "pair_length" s_pair_length P_pair_length f6 d6) (D_led_length : Df K mg "led_length" s_led_length P_led_length f7 d7) : FnOk P w K mg base CX0 (dd + 5) f fd P_is_plan (spIsp K dd) := by
  have G_length_if_plan : FnOk P w K mg base CX0 (dd + 4) f0 d0 P_length_if_plan (spLip K dd) := ok_lip D_length_if_plan T M_SHORTS QS D_is_whole D_is_prime D_factors D_are_coprime D_bare_length D_pair_length D_led_length dd
  have nd := sc_is_plan.nd
  refine F.ok sc_is_plan (fun vs H Q E h => ?_) (fun cdv A outer s H vs Q E hr h => ?_)
  · obtain ⟨v, p, rfl, _⟩ := h
    rfl
  · obtain ⟨v, p, rfl, hp, hg, hd, q⟩ := h
    refine ⟨_, (pss_one (ps_ret (pe_cmpR op_gt (pe_call G_length_if_plan (hr.mono (by omega)) (by rfl) D_length_if_plan.g D_length_if_plan.F.kp D_length_if_plan.b .nil pass0 (pa_cons (pv 0) pa_nil)) (pe_int) (nomark _)))), ?_⟩
    have p1 := hg.ok.1
    walk_at "ev"
    intro H1 sm1
    walk_at "ev"
    have e : decide (0 < plen p) = true := decide_eq_true (by omega)
    have z := q H1 sm1
    rw [← e] at z
    exact z
end
/-! ### for k in D, D a dict of the module's top with text keys -/
section
open PySem.Spec PyProof.Rows
/-- the keys of a dict of the module's top, in their order -/
def KKs (K : PySem.W.Frag) (d : Addr) (ks : List Str) : Prop :=
  (d == sysModules) = false ∧ ∃ es n, K.lookup d = some ⟨.type "dict", none, .dict es n, #[]⟩ ∧ Paired (fun (e : DictEntry) (x : Str) => ∃ t, e.key = .str x t) es.toList ks
def Itkc (K : PySem.W.Frag) (d : Addr) (ks : List Str) : It := ⟨fun i _ => KKs K d ks ∧ i < ks.length, fun i H v H' => H' = H ∧ ∃ x, ks[i]? = some x ∧ v = .str x, fun i _ => KKs K d ks ∧ ks.length ≤ i⟩
theorem turn_kc {P : Program} {w : World} {K : PySem.W.Frag} {tg : Expr} {d : Addr} {ks : List Str} {es : Array DictEntry} {ep : Nat} (it : Addr) (hl : K.lookup d = some ⟨.type "dict", none, .dict es ep, #[]⟩) (hp : Paired (fun (e : DictEntry) (x : Str) => ∃ t, e.key = .str x t) es.toList ks) :
    Turn P w K tg (Itkc K d ks) [it] it (fun i h => h.IsKeyIter it d i ks.length ep) where
  mem := by simp
  obj := fun i h st b hb => by
    have e : b = it := by simpa using hb
    subst e
    obtain ⟨oi, e, c, dd⟩ := st
    exact ⟨oi, e, fun v z => by rw [dd] at z; cases z⟩
  keep := fun i h h' st k => st.at fun oi e => k it (by simp) oi e
  item := by
    intro X hP hw hK hc i pins s σ H E I hf st hg
    subst hP hw hK
    obtain ⟨_, hi⟩ := hg
    obtain ⟨f0, f1, f2, f3, f4, f5⟩ := hf it (by simp)
    have hgd := I.kIn d _ hl
    have hsz : es.size = ks.length := by rw [← Array.length_toList]; exact Paired.length hp
    obtain ⟨en, hen, hkey⟩ : ∃ en, es[i]? = some en ∧ ∃ t, en.key = .str ks[i] t := by
      have hil : i < es.toList.length := by rw [Array.length_toList]; omega
      obtain ⟨b, hb, hr⟩ := paired_get hp (List.getElem?_eq_getElem hil)
      have e : ks[i] = b := by rw [List.getElem?_eq_getElem hi] at hb; exact Option.some.inj hb
      refine ⟨es.toList[i], ?_, by rw [e]; exact hr⟩
      rw [← Array.getElem?_toList]
      exact List.getElem?_eq_getElem hil
    obtain ⟨t, hkey⟩ := hkey
    refine next_key_item st hgd rfl hsz hen fun h' st' sb => ?_
    have I1 : Inv X pins σ H { s with heap := h' } := I.turned (t' := s.toks) (fun b ob hb e => (sb.2 b hb).trans e) f0 f1 f3 f4 f5
    obtain ⟨oi, e, c, dd⟩ := id st'
    exact ⟨en.key, rfl, go_of (s := { s with heap := h' }) e c dd (by decide) ⟨.str ks[i], H, I1, ⟨t, hkey⟩, ⟨rfl, _, List.getElem?_eq_getElem hi, rfl⟩, st', fun b hb => (hf b hb).1⟩⟩
  done := by
    intro X hP hw hK hc i pins s σ H E I hf st hg
    subst hP hw hK
    obtain ⟨_, hi⟩ := hg
    obtain ⟨f0, f1, f2, f3, f4, f5⟩ := hf it (by simp)
    have hgd := I.kIn d _ hl
    have hsz : es.size = ks.length := by rw [← Array.length_toList]; exact Paired.length hp
    exact next_key_end (I.ok.hd hc) st hgd rfl hsz hi fun h' eb => ⟨rfl, I.turned (t' := s.toks) (fun b ob hb e => eb b ob hb e) f0 f1 f3 f4 f5⟩
  self := fun A i s Q E st h => by
    refine wpAny_pyIter_slot st.typeIs F.slot_dict_keyiterator_iter (wpAny_call_entry F.slot_dict_keyiterator_iter st.typeIs F.entry_dict_keyiterator_iter ?_ (F.args_dict_keyiterator_iter_1 _))
    show wpAny _ _ (ret (.ref it)) _ _ s
    exact wpAny_pure ⟨_, rfl, "dict_keyiterator", _, st.typeIs, F.slot_dict_keyiterator_next.lookup, h⟩
def iKc (K : PySem.W.Frag) (td : TE) : TI := fun σ H R => td σ H fun x H1 => ∃ d ks, x = .ref d ∧ KKs K d ks ∧ R (Itkc K d ks) H1
theorem pi_kc {X : Cx} {tg e : Expr} {td : TE} (he : PE X e td) : PI X tg e (iKc X.K td) := by
  refine ⟨fun pins s σ H R I h => ?_⟩
  refine thn (he.run pins s σ H _ I h) fun u s1 ⟨x, H1, I1, rx, d, ks, ex, hk, q⟩ => ?_
  subst ex
  obtain rfl : u = Value.ref d := rx
  obtain ⟨hs, es, n, hl, hp⟩ := hk
  have hgd := I1.kIn d _ hl
  have hsz : es.size = ks.length := by rw [← Array.length_toList]; exact Paired.length hp
  refine iter_keys hs hgd ⟨rfl, rfl, rfl⟩ rfl (pi_one (tk := s1.toks) I1 _ (turn_kc _ hl hp) ⟨_, Heap.get?_push_size _ rfl, rfl, ?_⟩ q)
  rw [hsz] <;> rfl
theorem for_kc {K : PySem.W.Frag} {a : Addr} {xs : List Str} {g : TG} {tb : TS} {D : Ends} {σ : L2.St} {H : Hp} (hk : KKs K a xs) (Pv : Nat → L2.St → Hp → Prop) (h0 : Pv 0 σ H)
    (hs : ∀ i x σ H, xs[i]? = some x → Pv i σ H → g (.str x) σ H fun σ2 H2 => tb { D with nx := Pv (i + 1), ct := Pv (i + 1), bk := D.nx } σ2 H2) (hd : ∀ σ H, Pv xs.length σ H → D.nx σ H) :
    ∃ W : Nat → Nat → L2.St → Hp → Prop, (∃ m, W 0 m σ H) ∧ ∀ i m σ H, W i m σ H →
      ((Itkc K a xs).stop i H ∧ D.nx σ H) ∨ ((Itkc K a xs).go i H ∧ ∃ N : L2.St → Hp → Prop, (∀ σ' H', N σ' H' → ∃ m', m' < m ∧ W (i + 1) m' σ' H') ∧ ∀ x H', (Itkc K a xs).yld i H x H' → g x σ H' fun σ2 H2 => tb { D with nx := N, ct := N, bk := D.nx } σ2 H2) := by
  refine ⟨fun i m σ H => m = xs.length - i ∧ i ≤ xs.length ∧ Pv i σ H, ⟨xs.length, by simp, Nat.zero_le _, h0⟩, ?_⟩
  rintro i m σ H ⟨rfl, hi, p⟩
  by_cases hlt : i < xs.length
  · refine .inr ⟨⟨hk, hlt⟩, Pv (i + 1), fun σ' H' p' => ⟨xs.length - (i + 1), by omega, rfl, hlt, p'⟩, fun x H' y => ?_⟩
    obtain ⟨e, z, hz, ev⟩ := y
    subst e
    subst ev
    exact hs i z σ _ hz p
  · have e : i = xs.length := by omega
    subst e
    exact .inl ⟨⟨hk, Nat.le_refl _⟩, hd σ H p⟩
end
/-! ### plans as texts -/
def tS (l : List Nat) : Str := ⟨l.toArray⟩
theorem tl_tS (l : List Nat) : (tS l).cps.toList = l := rfl
theorem tS_len (l : List Nat) : (tS l).length = l.length := by
  show l.toArray.size = l.length
  simp
theorem tS_inj {a b : List Nat} (h : tS a = tS b) : a = b := congrArg (fun z : Str => z.cps.toList) h
theorem tS_app (a b : List Nat) : tS a ++ tS b = tS (a ++ b) := TL.ext_tl (by rw [TL.tl_append]; rfl)
theorem tS_emp : Str.empty = tS [] := rfl
theorem tS_num (n : Nat) : (Str.ofString (toString ((n : Nat) : Int))) = tS (TL.numL n) := TL.ext_tl (TL.tl_num n)
def sgn (w : Str) : Nat := if w = "plain" then 112 else if w = "short" then 115 else if w = "split" then 42 else if w = "parts" then 46 else if w = "powers" then 94 else 126
def txt : Pl → List Nat
  | .leaf w n => sgn w :: TL.numL n.toNat
  | .two w a b => 40 :: (txt a ++ sgn w :: (txt b ++ [41]))
  | .led w n a => 40 :: (TL.numL n.toNat ++ sgn w :: (txt a ++ [41]))
/-- the words are the document's -/
def Wds : Pl → Prop
  | .leaf w _ => w = "plain" ∨ w = "short"
  | .two w a b => (w = "split" ∨ w = "parts") ∧ Wds a ∧ Wds b
  | .led w _ a => (w = "powers" ∨ w = "stretch") ∧ Wds a
theorem PlAt.wds {K : PySem.W.Frag} {H : Hp} {v : V} {p : Pl} (h : PlAt K H v p) : Wds p := by
  induction h with
  | leaf a _ => exact a
  | two a _ _ _ i1 i2 => exact ⟨a, i1, i2⟩
  | led a _ _ i1 => exact ⟨a, i1⟩
theorem num4 {n : Int} (h1 : 1 ≤ n) (h2 : n ≤ 1000) : (TL.numL n.toNat).length ≤ 4 := TL.numL_len (by decide) (by omega)
theorem txt_len : ∀ {p : Pl}, PlN p → (txt p).length + 3 ≤ 8 * 2 ^ pdep p
  | .leaf w n, ⟨h1, h2, _⟩ => by
    have := num4 h1 h2
    show (TL.numL n.toNat).length + 1 + 3 ≤ 8 * 2 ^ 0
    omega
  | .two w a b, ⟨h1, h2, _⟩ => by
    have i1 := txt_len h1
    have i2 := txt_len h2
    have e : pdep (.two w a b) = 1 + max (pdep a) (pdep b) := rfl
    have p1 : 2 ^ pdep a ≤ 2 ^ max (pdep a) (pdep b) := Nat.pow_le_pow_right (by decide) (Nat.le_max_left _ _)
    have p2 : 2 ^ pdep b ≤ 2 ^ max (pdep a) (pdep b) := Nat.pow_le_pow_right (by decide) (Nat.le_max_right _ _)
    have l : (txt (.two w a b)).length = (txt a).length + (txt b).length + 3 := by
      show (40 :: (txt a ++ sgn w :: (txt b ++ [41]))).length = _
      simp only [List.length_cons, List.length_append, List.length_nil]
      omega
    rw [l, e, Nat.pow_add]
    omega
  | .led w n a, ⟨h1, h2, h3, _⟩ => by
    have i1 := txt_len h1
    have := num4 (show 1 ≤ n by omega) h3
    have e : pdep (.led w n a) = 1 + pdep a := rfl
    have l : (txt (.led w n a)).length = (TL.numL n.toNat).length + (txt a).length + 3 := by
      show (40 :: (TL.numL n.toNat ++ sgn w :: (txt a ++ [41]))).length = _
      simp only [List.length_cons, List.length_append, List.length_nil]
      omega
    have q : 1 ≤ 2 ^ pdep a := Nat.one_le_two_pow
    rw [l, e, Nat.pow_add]
    omega
theorem txt_b {p : Pl} (h : PlN p) (hd : pdep p ≤ 12) : (txt p).length ≤ 32768 := by
  have := txt_len h
  have : 2 ^ pdep p ≤ 2 ^ 12 := Nat.pow_le_pow_right (by decide) hd
  omega
/-! the pieces -/
def dg (c : Nat) : Bool := decide (c ∈ ("0123456789" : Str).cps.toList)
def fg (c : Nat) : Bool := decide (c ∈ (("ps" : Str) ++ ("0123456789" : Str)).cps.toList)
theorem dg_iff (c : Nat) : dg c = true ↔ 48 ≤ c ∧ c ≤ 57 := by
  unfold dg
  rw [decide_eq_true_eq, show ("0123456789" : Str).cps.toList = [48, 49, 50, 51, 52, 53, 54, 55, 56, 57] from by decide +kernel]
  simp only [List.mem_cons, List.not_mem_nil, or_false]
  omega
theorem fg_iff (c : Nat) : fg c = true ↔ c = 112 ∨ c = 115 ∨ (48 ≤ c ∧ c ≤ 57) := by
  unfold fg
  rw [decide_eq_true_eq, show (("ps" : Str) ++ ("0123456789" : Str)).cps.toList = [112, 115, 48, 49, 50, 51, 52, 53, 54, 55, 56, 57] from by decide +kernel]
  simp only [List.mem_cons, List.not_mem_nil, or_false]
  omega
def pcs : Nat → List Nat → List (List Nat)
  | 0, _ => []
  | _, [] => []
  | n + 1, c :: r => if fg c = true then (c :: r.takeWhile dg) :: pcs n (r.dropWhile dg) else [c] :: pcs n r
theorem pcs_fuel : ∀ (n m : Nat) (l : List Nat), l.length ≤ n → l.length ≤ m → pcs n l = pcs m l
  | 0, 0, _, _, _ => rfl
  | 0, m + 1, [], _, _ => rfl
  | 0, m + 1, c :: r, h, _ => by simp at h
  | n + 1, 0, [], _, _ => rfl
  | n + 1, 0, c :: r, _, h => by simp at h
  | n + 1, m + 1, [], _, _ => rfl
  | n + 1, m + 1, c :: r, h1, h2 => by
    rw [List.length_cons] at h1 h2
    have e1 : (r.dropWhile dg).length ≤ r.length := (List.dropWhile_sublist dg).length_le
    show (if fg c = true then _ else _) = (if fg c = true then _ else _)
    rw [pcs_fuel n m (r.dropWhile dg) (by omega) (by omega), pcs_fuel n m r (by omega) (by omega)]
/-- the pieces of a text -/
def pcL (l : List Nat) : List (List Nat) := pcs l.length l
theorem pcL_nil : pcL [] = [] := rfl
theorem pcL_fg {c : Nat} {r : List Nat} (h : fg c = true) : pcL (c :: r) = (c :: r.takeWhile dg) :: pcL (r.dropWhile dg) := by
  have e1 : (r.dropWhile dg).length ≤ r.length := (List.dropWhile_sublist dg).length_le
  show (if fg c = true then _ else _) = _
  rw [if_pos h, pcs_fuel r.length (r.dropWhile dg).length _ e1 (Nat.le_refl _)]
  rfl
theorem pcL_one {c : Nat} {r : List Nat} (h : fg c = false) : pcL (c :: r) = [c] :: pcL r := by
  show (if fg c = true then _ else _) = _
  rw [if_neg (by rw [h]; exact Bool.false_ne_true)]
  rfl
/-- what stands behind a number doesn't go on with it -/
def Stp (r : List Nat) : Prop := ∀ c, r.head? = some c → dg c = false
theorem tw_app {a r : List Nat} (ha : ∀ c ∈ a, dg c = true) (hr : Stp r) : (a ++ r).takeWhile dg = a ∧ (a ++ r).dropWhile dg = r := by
  induction a with
  | nil =>
    cases r with
    | nil => exact ⟨rfl, rfl⟩
    | cons c t =>
      have := hr c rfl
      rw [List.nil_append, List.takeWhile_cons, List.dropWhile_cons, if_neg (by rw [this]; exact Bool.false_ne_true), if_neg (by rw [this]; exact Bool.false_ne_true)]
      exact ⟨rfl, rfl⟩
  | cons c t ih =>
    have hc := ha c List.mem_cons_self
    obtain ⟨i1, i2⟩ := ih fun x hx => ha x (List.mem_cons_of_mem _ hx)
    rw [List.cons_append, List.takeWhile_cons, List.dropWhile_cons, if_pos hc, if_pos hc, i1, i2]
    exact ⟨rfl, rfl⟩
theorem num_dg (n : Nat) : ∀ c ∈ TL.numL n, dg c = true := fun c hc => (dg_iff c).mpr (TL.numL_digits n c hc)
def tks' : Pl → List (List Nat)
  | .leaf w n => [sgn w :: TL.numL n.toNat]
  | .two w a b => [40] :: (tks' a ++ [sgn w] :: (tks' b ++ [[41]]))
  | .led w n a => [40] :: TL.numL n.toNat :: [sgn w] :: (tks' a ++ [[41]])
theorem stp_cons {c : Nat} {r : List Nat} (h : dg c = false) : Stp (c :: r) := fun x hx => by
  cases hx
  exact h
theorem sgn_two {w : Str} (h : w = "split" ∨ w = "parts") : sgn w = 42 ∨ sgn w = 46 := by
  rcases h with rfl | rfl
  · exact .inl (by decide +kernel)
  · exact .inr (by decide +kernel)
theorem sgn_led {w : Str} (h : w = "powers" ∨ w = "stretch") : sgn w = 94 ∨ sgn w = 126 := by
  rcases h with rfl | rfl
  · exact .inl (by decide +kernel)
  · exact .inr (by decide +kernel)
theorem sgn_leaf {w : Str} (h : w = "plain" ∨ w = "short") : sgn w = 112 ∨ sgn w = 115 := by
  rcases h with rfl | rfl
  · exact .inl (by decide +kernel)
  · exact .inr (by decide +kernel)
theorem dgF {c : Nat} (h : c < 48 ∨ 57 < c) : dg c = false := by
  cases e : dg c with
  | false => rfl
  | true => have := (dg_iff c).mp e; omega
theorem fgF {c : Nat} (h : c < 48 ∨ 57 < c) (h1 : c ≠ 112) (h2 : c ≠ 115) : fg c = false := by
  cases e : fg c with
  | false => rfl
  | true => have := (fg_iff c).mp e; omega
theorem fgT {c : Nat} (h : c = 112 ∨ c = 115 ∨ (48 ≤ c ∧ c ≤ 57)) : fg c = true := (fg_iff c).mpr h
theorem pcL_pl : ∀ {p : Pl}, Wds p → ∀ {r : List Nat}, Stp r → pcL (txt p ++ r) = tks' p ++ pcL r
  | .leaf w n, hw, r, hr => by
    have hs := sgn_leaf hw
    obtain ⟨t1, t2⟩ := tw_app (num_dg n.toNat) hr
    show pcL (sgn w :: (TL.numL n.toNat ++ r)) = _
    rw [pcL_fg (fgT (by omega)), t1, t2]
    rfl
  | .two w a b, ⟨hw, ha, hb⟩, r, hr => by
    have hs := sgn_two hw
    have e : txt (.two w a b) ++ r = 40 :: (txt a ++ (sgn w :: (txt b ++ (41 :: r)))) := by
      show (40 :: (txt a ++ sgn w :: (txt b ++ [41]))) ++ r = _
      simp only [List.cons_append, List.append_assoc, List.nil_append]
    rw [e, pcL_one (fgF (by omega) (by omega) (by omega)), pcL_pl ha (stp_cons (dgF (by omega))), pcL_one (fgF (by omega) (by omega) (by omega)), pcL_pl hb (stp_cons (dgF (by omega))), pcL_one (fgF (by omega) (by omega) (by omega))]
    show [40] :: (tks' a ++ [sgn w] :: (tks' b ++ [41] :: pcL r)) = ([40] :: (tks' a ++ [sgn w] :: (tks' b ++ [[41]]))) ++ pcL r
    simp only [List.cons_append, List.append_assoc, List.nil_append]
  | .led w n a, ⟨hw, ha⟩, r, hr => by
    have hs := sgn_led hw
    have e : txt (.led w n a) ++ r = 40 :: (TL.numL n.toNat ++ (sgn w :: (txt a ++ (41 :: r)))) := by
      show (40 :: (TL.numL n.toNat ++ sgn w :: (txt a ++ [41]))) ++ r = _
      simp only [List.cons_append, List.append_assoc, List.nil_append]
    rw [e, pcL_one (fgF (by omega) (by omega) (by omega))]
    obtain ⟨c, t, hct⟩ : ∃ c t, TL.numL n.toNat = c :: t := by
      cases hz : TL.numL n.toNat with
      | nil => exact absurd hz (TL.numL_ne _)
      | cons c t => exact ⟨c, t, rfl⟩
    have hd := num_dg n.toNat
    rw [hct] at hd
    have hc := (dg_iff c).mp (hd c List.mem_cons_self)
    obtain ⟨t1, t2⟩ := tw_app (a := t) (r := sgn w :: (txt a ++ (41 :: r))) (fun x hx => hd x (List.mem_cons_of_mem _ hx)) (stp_cons (dgF (by omega)))
    rw [hct, List.cons_append, pcL_fg (fgT (.inr (.inr hc))), t1, t2, pcL_one (fgF (by omega) (by omega) (by omega)), pcL_pl ha (stp_cons (dgF (by omega))), pcL_one (fgF (by omega) (by omega) (by omega))]
    show [40] :: (c :: t) :: [sgn w] :: (tks' a ++ [41] :: pcL r) = ([40] :: TL.numL n.toNat :: [sgn w] :: (tks' a ++ [[41]])) ++ pcL r
    rw [hct]
    simp only [List.cons_append, List.append_assoc, List.nil_append]
/-! the parts, as they are put together -/
inductive Sk
  | sg (c : Nat)
  | num (n : Int)
  | pl (p : Pl)
inductive Run : List Sk → List (List Nat) → List Sk → Prop
  | done {s : List Sk} : Run s [] s
  | lf {s f : List Sk} {r : List (List Nat)} {w : Str} {n : Int} : (w = "plain" ∨ w = "short") → PlN (.leaf w n) → Run (s ++ [.pl (.leaf w n)]) r f → Run s ((sgn w :: TL.numL n.toNat) :: r) f
  | nm {s f : List Sk} {r : List (List Nat)} {n : Int} : 1 ≤ n → n ≤ 1000 → Run (s ++ [.num n]) r f → Run s (TL.numL n.toNat :: r) f
  | sg {s f : List Sk} {r : List (List Nat)} {c : Nat} : (c = 40 ∨ c = 42 ∨ c = 46 ∨ c = 94 ∨ c = 126) → Run (s ++ [.sg c]) r f → Run s ([c] :: r) f
  | two {s f : List Sk} {r : List (List Nat)} {w : Str} {a b : Pl} : (w = "split" ∨ w = "parts") → PlN (.two w a b) → pdep (.two w a b) ≤ 12 → Run (s ++ [.pl (.two w a b)]) r f → Run (s ++ [.sg 40, .pl a, .sg (sgn w), .pl b]) ([41] :: r) f
  | led {s f : List Sk} {r : List (List Nat)} {w : Str} {n : Int} {a : Pl} : (w = "powers" ∨ w = "stretch") → PlN (.led w n a) → pdep (.led w n a) ≤ 12 → Run (s ++ [.pl (.led w n a)]) r f → Run (s ++ [.sg 40, .num n, .sg (sgn w), .pl a]) ([41] :: r) f
theorem run_pl : ∀ {p : Pl}, Wds p → PlN p → pdep p ≤ 12 → ∀ {s f : List Sk} {r : List (List Nat)}, Run (s ++ [.pl p]) r f → Run s (tks' p ++ r) f
  | .leaf w n, hw, hn, _, s, f, r, h => .lf hw hn h
  | .two w a b, ⟨hw, ha, hb⟩, hn, hd, s, f, r, h => by
    have hd' : 1 + max (pdep a) (pdep b) ≤ 12 := hd
    have hs := sgn_two hw
    have e : tks' (.two w a b) ++ r = [40] :: (tks' a ++ ([sgn w] :: (tks' b ++ ([41] :: r)))) := by
      show ([40] :: (tks' a ++ [sgn w] :: (tks' b ++ [[41]]))) ++ r = _
      simp only [List.cons_append, List.append_assoc, List.nil_append]
    rw [e]
    refine .sg (.inl rfl) (run_pl ha hn.1 (by omega) (.sg (by omega) (run_pl hb hn.2.1 (by omega) ?_)))
    have es : s ++ [Sk.sg 40] ++ [Sk.pl a] ++ [Sk.sg (sgn w)] ++ [Sk.pl b] = s ++ [.sg 40, .pl a, .sg (sgn w), .pl b] := by simp only [List.append_assoc, List.cons_append, List.nil_append]
    rw [es]
    exact .two hw hn hd h
  | .led w n a, ⟨hw, ha⟩, hn, hd, s, f, r, h => by
    have hd' : 1 + pdep a ≤ 12 := hd
    have hs := sgn_led hw
    have e : tks' (.led w n a) ++ r = [40] :: TL.numL n.toNat :: [sgn w] :: (tks' a ++ ([41] :: r)) := by
      show ([40] :: TL.numL n.toNat :: [sgn w] :: (tks' a ++ [[41]])) ++ r = _
      simp only [List.cons_append, List.append_assoc, List.nil_append]
    rw [e]
    have hn0 := hn
    obtain ⟨n1, n2, n3, _⟩ := hn
    refine .sg (.inl rfl) (.nm (by omega) n3 (.sg (by omega) (run_pl ha n1 (by omega) ?_)))
    have es : s ++ [Sk.sg 40] ++ [Sk.num n] ++ [Sk.sg (sgn w)] ++ [Sk.pl a] = s ++ [.sg 40, .num n, .sg (sgn w), .pl a] := by simp only [List.append_assoc, List.cons_append, List.nil_append]
    rw [es]
    exact .led hw hn0 hd h
structure Sg (K : PySem.W.Frag) (w : World) (mg : Str → Option Value) (aS : Addr) : Prop where
  m : mg "SIGNS" = some (.ref aS)
  ks : KKs K aS ["plain", "short", "split", "parts", "powers", "stretch"]
  k1 : KDct K w aS "plain" (.str "p")
  k2 : KDct K w aS "short" (.str "s")
  k3 : KDct K w aS "split" (.str "*")
  k4 : KDct K w aS "parts" (.str ".")
  k5 : KDct K w aS "powers" (.str "^")
  k6 : KDct K w aS "stretch" (.str "~")
theorem sg_str {w : Str} (h : w = "plain" ∨ w = "short" ∨ w = "split" ∨ w = "parts" ∨ w = "powers" ∨ w = "stretch") : tS [sgn w] = (if w = "plain" then "p" else if w = "short" then "s" else if w = "split" then "*" else if w = "parts" then "." else if w = "powers" then "^" else "~" : Str) := by
  rcases h with rfl | rfl | rfl | rfl | rfl | rfl <;> decide +kernel
theorem Sg.at {K : PySem.W.Frag} {w : World} {mg : Str → Option Value} {aS : Addr} (S : Sg K w mg aS) {x : Str} (h : x = "plain" ∨ x = "short" ∨ x = "split" ∨ x = "parts" ∨ x = "powers" ∨ x = "stretch") : KDct K w aS x (.str (tS [sgn x])) := by
  rcases h with rfl | rfl | rfl | rfl | rfl | rfl
  · rw [show tS [sgn "plain"] = ("p" : Str) from by decide +kernel]; exact S.k1
  · rw [show tS [sgn "short"] = ("s" : Str) from by decide +kernel]; exact S.k2
  · rw [show tS [sgn "split"] = ("*" : Str) from by decide +kernel]; exact S.k3
  · rw [show tS [sgn "parts"] = ("." : Str) from by decide +kernel]; exact S.k4
  · rw [show tS [sgn "powers"] = ("^" : Str) from by decide +kernel]; exact S.k5
  · rw [show tS [sgn "stretch"] = ("~" : Str) from by decide +kernel]; exact S.k6
theorem w_leaf {x : Str} (h : x = "plain" ∨ x = "short") : x = "plain" ∨ x = "short" ∨ x = "split" ∨ x = "parts" ∨ x = "powers" ∨ x = "stretch" := h.elim .inl fun h => .inr (.inl h)
theorem w_two {x : Str} (h : x = "split" ∨ x = "parts") : x = "plain" ∨ x = "short" ∨ x = "split" ∨ x = "parts" ∨ x = "powers" ∨ x = "stretch" := h.elim (fun h => .inr (.inr (.inl h))) fun h => .inr (.inr (.inr (.inl h)))
theorem w_led {x : Str} (h : x = "powers" ∨ x = "stretch") : x = "plain" ∨ x = "short" ∨ x = "split" ∨ x = "parts" ∨ x = "powers" ∨ x = "stretch" := h.elim (fun h => .inr (.inr (.inr (.inr (.inl h))))) fun h => .inr (.inr (.inr (.inr (.inr h))))
theorem s_op : ("(" : Str) = tS [40] := by decide +kernel
theorem s_cl : (")" : Str) = tS [41] := by decide +kernel
theorem num_T {n : Int} (h : 1 ≤ n) : (Str.ofString (toString n)) = tS (TL.numL n.toNat) := by
  obtain ⟨k, rfl⟩ := Int.eq_ofNat_of_zero_le (show 0 ≤ n by omega)
  rw [tS_num]
  rfl
theorem log9 {n : Int} (h1 : 1 ≤ n) (h2 : n ≤ 1000) : n.natAbs.log2 < 1920 := by
  have : n.natAbs < 2 ^ 1920 := Nat.lt_of_le_of_lt (show n.natAbs ≤ 2 ^ 10 by omega) (Nat.pow_lt_pow_right (by decide) (by decide))
  by_cases c : n.natAbs = 0
  · rw [c]; decide
  · exact (Nat.log2_lt c).mpr this
abbrev s_plan_text : Stmt := top 18
abbrev N_plan_text : List Str := ["plan", "sign", "first"]
abbrev P_plan_text : List Str := ["plan"]
theorem sc_plan_text : FnScope N_plan_text P_plan_text (defScope s_plan_text) := ⟨rfl, rfl, rfl, by decide +kernel, rfl, by decide +kernel, by decide +kernel⟩
def spPtx (K : PySem.W.Frag) (d : Nat) : Sp := fun vs H Q _ => ∃ (v : V) (p : Pl), vs = [v] ∧ PlAt K H v p ∧ PlN p ∧ pdep p ≤ d ∧ ∀ H', Same H H' → Q (.str (tS (txt p))) H'
section
variable {P : Program} {w : World} {K : PySem.W.Frag} {mg : Str → Option Value} {base : Heap}
theorem ptx_step {f aS : Addr} {fd : FuncData} {n : Nat} {spI : Sp} (D_plan_text : Df K mg "plan_text" s_plan_text P_plan_text f fd) (T : Blt mg) (S : Sg K w mg aS) (n12 : n ≤ 12)
    (G_plan_text : FnOk P w K mg base CX0 (n + 1) f fd P_plan_text spI) (hG : ∀ m, n = m + 1 → spI = spPtx K m) : FnOk P w K mg base CX0 (n + 2) f fd P_plan_text (spPtx K n) := by
  have M_SIGNS := S.m
  have nd := sc_plan_text.nd
  refine D_plan_text.F.ok sc_plan_text (fun vs H Q E h => ?_) (fun cdv A outer s H vs Q E hr h => ?_)
  · obtain ⟨v, p, rfl, _⟩ := h
    rfl
  · obtain ⟨v, p, rfl, hp, hn, hd, q⟩ := h
    refine ⟨_, (pss_cons (ps_set (i := 1) nd rfl (Or.inl rfl) (pe_ix ix_kdict (pe_glob (v := .ref _) (by rfl) M_SIGNS rfl) (pe_ix (r := rIxT K) ix_tup (pv 0) (pe_int) (fun _ _ => rfl)) (fun _ _ => rfl)))
      (pss_cons (ps_if (pt_cmpR op_eq (pe_callB (r := rLenQ K) call_len_seq (by rfl) T.b_len (by decide +kernel) (pa_cons (pv 0) pa_nil)) (pe_int) (nomark _)) (pss_one (ps_ret (pe_joined (PJ.cons (pe_fmt (pv 1)) (PJ.cons (pe_fmt (pe_ix (r := rIxT K) ix_tup (pv 0) (pe_int) (fun _ _ => rfl))) PJ.nil))))) pss_nil)
      (pss_cons (ps_set (i := 2) nd rfl (Or.inl rfl) (pe_ifExp (pt_val (pe_callB (r := rIsi K) call_isi (by rfl) T.b_isinstance (by decide +kernel) (pa_cons (pe_ix (r := rIxT K) ix_tup (pv 0) (pe_int) (fun _ _ => rfl)) (pa_cons (pe_bltn (v := .ty "tuple") (by rfl) T.b_tuple (by decide +kernel) rfl) pa_nil)))) (pe_call G_plan_text (hr.mono (by omega)) (by rfl) D_plan_text.g D_plan_text.F.kp D_plan_text.b .nil pass0 (pa_cons (pe_ix (r := rIxT K) ix_tup (pv 0) (pe_int) (fun _ _ => rfl)) pa_nil)) (pe_callTy call_str_int (by rfl) T.b_str (by decide +kernel) (pa_cons (pe_ix (r := rIxT K) ix_tup (pv 0) (pe_int) (fun _ _ => rfl)) pa_nil))))
      (pss_one (ps_ret (pe_joined (PJ.cons (pe_str) (PJ.cons (pe_fmt (pv 2)) (PJ.cons (pe_fmt (pv 1)) (PJ.cons (pe_fmt (pe_call G_plan_text (hr.mono (by omega)) (by rfl) D_plan_text.g D_plan_text.F.kp D_plan_text.b .nil pass0 (pa_cons (pe_ix (r := rIxT K) ix_tup (pv 0) (pe_int) (fun _ _ => rfl)) pa_nil))) (PJ.cons (pe_str) PJ.nil))))))))))), ?_⟩
    have hb := txt_b hn (by omega)
    cases hp with
    | leaf hw hs =>
      rename_i a wd m
      have at0 : atI [V.str wd, V.int m] 0 = some (.str wd) := rfl
      have at1 : atI [V.str wd, V.int m] 1 = some (.int m) := rfl
      have hk := S.at (w_leaf hw)
      obtain ⟨m1, m2, _⟩ := hn
      have e1 : Str.empty ++ tS [sgn wd] ++ Str.ofString (toString m) = tS (txt (.leaf wd m)) := by
        rw [num_T m1, tS_emp, tS_app, tS_app]
        rfl
      walk_at "ev"
      refine ⟨log9 m1 m2, _, rfl, ?_, ?_⟩
      · rw [e1, tS_len]
        exact szl (by omega)
      · have z := q H (Same.refl _)
        rw [← e1] at z
        exact z
    | two hw hs hx hy =>
      rename_i a wd x y p1 p2
      cases n with
      | zero =>
        have : 1 + max (pdep p1) (pdep p2) ≤ 0 := hd
        omega
      | succ n =>
      have hS := hG n rfl
      subst hS
      have hd' : 1 + max (pdep p1) (pdep p2) ≤ n + 1 := hd
      obtain ⟨n1, n2, _⟩ := hn
      have hdx : pdep p1 ≤ n := by omega
      have hdy : pdep p2 ≤ n := by omega
      have at0 : atI [V.str wd, x, y] 0 = some (.str wd) := rfl
      have at1 : atI [V.str wd, x, y] 1 = some x := rfl
      have at2 : atI [V.str wd, x, y] 2 = some y := rfl
      have hk := S.at (w_two hw)
      have kd := hx.kd
      have ty := kd.ty
      obtain ⟨kk1, kk2, kk3, kk4, kk5⟩ := kd.kit
      clear kd
      have bl : (txt (.two wd p1 p2)).length = (txt p1).length + (txt p2).length + 3 := by
        show (40 :: (txt p1 ++ sgn wd :: (txt p2 ++ [41]))).length = _
        simp only [List.length_cons, List.length_append, List.length_nil]
        omega
      walk_at "ev"
      intro H2 sm2
      have hs2 := same_t sm2 hs
      have hy2 := hy.same sm2
      have l1 : (tS (txt p1)).length ≤ sizeLine := by rw [tS_len]; exact szl (by omega)
      have l2 : (tS (txt p2)).length ≤ sizeLine := by rw [tS_len]; exact szl (by omega)
      have l3 : (tS [sgn wd]).length ≤ sizeLine := by rw [tS_len]; exact szl (by show 1 ≤ 60000; decide)
      have eA : Str.empty ++ Str.ofString "(" ++ tS (txt p1) = tS (40 :: txt p1) := by
        rw [show Str.ofString "(" = tS [40] from s_op, tS_emp, tS_app, tS_app]
        rfl
      have eB : Str.empty ++ Str.ofString "(" ++ tS (txt p1) ++ tS [sgn wd] = tS (40 :: (txt p1 ++ [sgn wd])) := by
        rw [eA, tS_app]
        rfl
      have eC : Str.empty ++ Str.ofString "(" ++ tS (txt p1) ++ tS [sgn wd] ++ tS (txt p2) = tS (40 :: (txt p1 ++ [sgn wd] ++ txt p2)) := by
        rw [eB, tS_app]
        rfl
      have eD : Str.empty ++ Str.ofString "(" ++ tS (txt p1) ++ tS [sgn wd] ++ tS (txt p2) ++ Str.ofString ")" = tS (txt (.two wd p1 p2)) := by
        rw [eC, show Str.ofString ")" = tS [41] from s_cl, tS_app]
        show tS (40 :: (txt p1 ++ [sgn wd] ++ txt p2) ++ [41]) = tS (40 :: (txt p1 ++ sgn wd :: (txt p2 ++ [41])))
        simp only [List.append_assoc, List.cons_append, List.nil_append]
      have hA : (Str.empty ++ Str.ofString "(" ++ tS (txt p1)).length ≤ sizeLine := by rw [eA, tS_len, List.length_cons]; exact szl (by omega)
      have hB : (Str.empty ++ Str.ofString "(" ++ tS (txt p1) ++ tS [sgn wd]).length ≤ sizeLine := by rw [eB, tS_len]; simp only [List.length_cons, List.length_append, List.length_nil]; exact szl (by omega)
      have hC : (Str.empty ++ Str.ofString "(" ++ tS (txt p1) ++ tS [sgn wd] ++ tS (txt p2)).length ≤ sizeLine := by rw [eC, tS_len]; simp only [List.length_cons, List.length_append, List.length_nil]; exact szl (by omega)
      have hD : (Str.empty ++ Str.ofString "(" ++ tS (txt p1) ++ tS [sgn wd] ++ tS (txt p2) ++ Str.ofString ")").length ≤ sizeLine := by rw [eD, tS_len]; exact szl (by omega)
      clear eA eB eC
      walk_at "ev"
      intro H3 sm3
      walk_at "ev"
      have z := q H3 (sm2.trans sm3)
      rw [← eD] at z
      exact z
    | led hw hs hx =>
      rename_i a wd m x p1
      cases n with
      | zero =>
        have : 1 + pdep p1 ≤ 0 := hd
        omega
      | succ n =>
      have hS := hG n rfl
      subst hS
      have hd' : 1 + pdep p1 ≤ n + 1 := hd
      obtain ⟨n1, m2, m1000, _⟩ := hn
      have m1 : 1 ≤ m := by omega
      have hdx : pdep p1 ≤ n := by omega
      have at0 : atI [V.str wd, V.int m, x] 0 = some (.str wd) := rfl
      have at1 : atI [V.str wd, V.int m, x] 1 = some (.int m) := rfl
      have at2 : atI [V.str wd, V.int m, x] 2 = some x := rfl
      have hk := S.at (w_led hw)
      have kd : Kd K H (.int m) "int" := .int m
      have ty := kd.ty
      obtain ⟨kk1, kk2, kk3, kk4, kk5⟩ := kd.kit
      clear kd
      have lg := log9 m1 m1000
      have bl : (txt (.led wd m p1)).length = (TL.numL m.toNat).length + (txt p1).length + 3 := by
        show (40 :: (TL.numL m.toNat ++ sgn wd :: (txt p1 ++ [41]))).length = _
        simp only [List.length_cons, List.length_append, List.length_nil]
        omega
      have l1 : (Str.ofString (toString m)).length ≤ sizeLine := by rw [num_T m1, tS_len]; exact szl (by omega)
      have l2 : (tS (txt p1)).length ≤ sizeLine := by rw [tS_len]; exact szl (by omega)
      have l3 : (tS [sgn wd]).length ≤ sizeLine := by rw [tS_len]; exact szl (by show 1 ≤ 60000; decide)
      have eA : Str.empty ++ Str.ofString "(" ++ Str.ofString (toString m) = tS (40 :: TL.numL m.toNat) := by
        rw [num_T m1, show Str.ofString "(" = tS [40] from s_op, tS_emp, tS_app, tS_app]
        rfl
      have eB : Str.empty ++ Str.ofString "(" ++ Str.ofString (toString m) ++ tS [sgn wd] = tS (40 :: (TL.numL m.toNat ++ [sgn wd])) := by
        rw [eA, tS_app]
        rfl
      have eC : Str.empty ++ Str.ofString "(" ++ Str.ofString (toString m) ++ tS [sgn wd] ++ tS (txt p1) = tS (40 :: (TL.numL m.toNat ++ [sgn wd] ++ txt p1)) := by
        rw [eB, tS_app]
        rfl
      have eD : Str.empty ++ Str.ofString "(" ++ Str.ofString (toString m) ++ tS [sgn wd] ++ tS (txt p1) ++ Str.ofString ")" = tS (txt (.led wd m p1)) := by
        rw [eC, show Str.ofString ")" = tS [41] from s_cl, tS_app]
        show tS (40 :: (TL.numL m.toNat ++ [sgn wd] ++ txt p1) ++ [41]) = tS (40 :: (TL.numL m.toNat ++ sgn wd :: (txt p1 ++ [41])))
        simp only [List.append_assoc, List.cons_append, List.nil_append]
      have hA : (Str.empty ++ Str.ofString "(" ++ Str.ofString (toString m)).length ≤ sizeLine := by rw [eA, tS_len, List.length_cons]; exact szl (by omega)
      have hB : (Str.empty ++ Str.ofString "(" ++ Str.ofString (toString m) ++ tS [sgn wd]).length ≤ sizeLine := by rw [eB, tS_len]; simp only [List.length_cons, List.length_append, List.length_nil]; exact szl (by omega)
      have hC : (Str.empty ++ Str.ofString "(" ++ Str.ofString (toString m) ++ tS [sgn wd] ++ tS (txt p1)).length ≤ sizeLine := by rw [eC, tS_len]; simp only [List.length_cons, List.length_append, List.length_nil]; exact szl (by omega)
      have hD : (Str.empty ++ Str.ofString "(" ++ Str.ofString (toString m) ++ tS [sgn wd] ++ tS (txt p1) ++ Str.ofString ")").length ≤ sizeLine := by rw [eD, tS_len]; exact szl (by omega)
      clear eA eB eC
      walk_at "ev"
      intro H3 sm3
      walk_at "ev"
      have z := q H3 sm3
      rw [← eD] at z
      exact z
theorem ok_ptx {f aS : Addr} {fd : FuncData} (D_plan_text : Df K mg "plan_text" s_plan_text P_plan_text f fd) (T : Blt mg) (S : Sg K w mg aS) : ∀ n : Nat, n ≤ 12 → FnOk P w K mg base CX0 (n + 2) f fd P_plan_text (spPtx K n)
  | 0, h => ptx_step (spI := fun _ _ _ _ => False) D_plan_text T S h ⟨fun _ _ _ _ h => h.elim, fun _ _ _ _ _ _ _ _ _ _ _ _ _ h => h.elim⟩ (fun m h => by omega)
  | n + 1, h => ptx_step D_plan_text T S h (ok_ptx D_plan_text T S n (by omega)) (fun m h => by cases h; rfl)
end
theorem atL {α : Type} {xs : List α} {j : Nat} {v : α} {i : Int} (e : i = (j : Int)) (h : xs[j]? = some v) : atI xs i = some v := by
  subst e
  have hj : j < xs.length := (List.getElem?_eq_some_iff.mp h).1
  unfold atI ixN
  simp [hj]
  exact (List.getElem?_eq_some_iff.mp h).2
theorem cutS_nat {l : List Nat} {a b : Nat} {i j : Int} (ei : i = (a : Int)) (ej : j = (b : Int)) (ha : a ≤ l.length) (hb : b ≤ l.length) : cutS (tS l) (some i) (some j) = tS ((l.drop a).take (b - a)) := by
  subst ei ej
  unfold cutS
  rw [tS_len, HT.sIx_nat, HT.sIx_nat, Nat.min_eq_left ha, Nat.min_eq_left hb]
  rfl
theorem cutS_from {l : List Nat} {a : Nat} {i : Int} (ei : i = (a : Int)) (ha : a ≤ l.length) : cutS (tS l) (some i) none = tS (l.drop a) := by
  subst ei
  unfold cutS
  rw [tS_len, HT.sIx_nat, Nat.min_eq_left ha]
  show tS ((l.drop a).take (l.length - a)) = _
  rw [List.take_of_length_le (by rw [List.length_drop]; omega)]
abbrev s_word_of : Stmt := top 19
abbrev N_word_of : List Str := ["sign", "word"]
abbrev P_word_of : List Str := ["sign"]
theorem sc_word_of : FnScope N_word_of P_word_of (defScope s_word_of) := ⟨rfl, rfl, rfl, by decide +kernel, rfl, by decide +kernel, by decide +kernel⟩
def spWof : Sp := fun vs H Q _ => ∃ (x : Str), vs = [.str (tS [sgn x])] ∧ (x = "plain" ∨ x = "short" ∨ x = "split" ∨ x = "parts" ∨ x = "powers" ∨ x = "stretch") ∧ Q (.str x) H
theorem sgn_inj {x y : Str} (hx : x = "plain" ∨ x = "short" ∨ x = "split" ∨ x = "parts" ∨ x = "powers" ∨ x = "stretch") (hy : y = "plain" ∨ y = "short" ∨ y = "split" ∨ y = "parts" ∨ y = "powers" ∨ y = "stretch") (h : sgn x = sgn y) : x = y := by
  have k1 : sgn "plain" = 112 := by decide +kernel
  have k2 : sgn "short" = 115 := by decide +kernel
  have k3 : sgn "split" = 42 := by decide +kernel
  have k4 : sgn "parts" = 46 := by decide +kernel
  have k5 : sgn "powers" = 94 := by decide +kernel
  have k6 : sgn "stretch" = 126 := by decide +kernel
  rcases hx with rfl | rfl | rfl | rfl | rfl | rfl <;> rcases hy with rfl | rfl | rfl | rfl | rfl | rfl <;> first | rfl | (exfalso; simp only [k1, k2, k3, k4, k5, k6] at h; omega)
def six : List Str := ["plain", "short", "split", "parts", "powers", "stretch"]
theorem six_mem {x : Str} : x ∈ six ↔ (x = "plain" ∨ x = "short" ∨ x = "split" ∨ x = "parts" ∨ x = "powers" ∨ x = "stretch") := by
  unfold six
  simp only [List.mem_cons, List.not_mem_nil, or_false]
section
variable {P : Program} {w : World} {K : PySem.W.Frag} {mg : Str → Option Value} {base : Heap}
theorem ok_wof {f aS : Addr} {fd : FuncData} {k : Nat} (F : Fun K "word_of" "word_of" s_word_of f fd) (T : Blt mg) (S : Sg K w mg aS) : FnOk P w K mg base CX0 (k + 1) f fd P_word_of spWof := by
  have M_SIGNS := S.m
  have nd := sc_word_of.nd
  refine F.ok sc_word_of (fun vs H Q E h => ?_) (fun cdv A outer s H vs Q E hr h => ?_)
  · obtain ⟨x, rfl, _⟩ := h
    rfl
  · obtain ⟨x, rfl, hx, q⟩ := h
    refine ⟨_, (pss_cons (ps_for PassesOwn.never rfl (pi_kc (pe_glob (v := .ref _) (by rfl) M_SIGNS rfl)) (pg_name (i := 1) nd rfl (Or.inl rfl))
      (pss_one (ps_if (pt_cmpR op_eq (pe_ix ix_kdict (pe_glob (v := .ref _) (by rfl) M_SIGNS rfl) (pv 1) (fun _ _ => rfl)) (pv 0) (nomark _)) (pss_one (ps_ret (pv 1))) pss_nil)))
      (pss_one (ps_ret (pe_non)))), ?_⟩
    have hks : KKs K aS six := S.ks
    walk_at "ev"
    refine for_kc hks (fun i σ H' => Hold (∃ s1, σ = [some (.str (tS [sgn x])), s1] ∧ H' = H ∧ x ∈ six.drop i)) (.mk ⟨none, rfl, rfl, six_mem.mpr hx⟩) ?_ ?_
    · intro i y σ H' hy hP
      obtain ⟨s1, rfl, rfl, hm⟩ := hP.un
      have hy6 := six_mem.mp (List.mem_of_getElem? hy)
      have hk := S.at hy6
      walk_at "ev"
      refine ite2 (fun e => ?_) (fun e => ?_)
      · have e1 : y = x := sgn_inj hy6 hx (List.cons.inj (tS_inj (V.str.inj (of_decide_eq_true e)))).1
        subst e1
        walk_at "ev"
        exact q
      · refine .mk ⟨_, rfl, rfl, ?_⟩
        have e2 : y ≠ x := fun z => e (decide_eq_true (by rw [z]))
        have hd : six.drop i = y :: six.drop (i + 1) := (List.drop_eq_getElem_cons (List.getElem?_eq_some_iff.mp hy).1).trans (by rw [(List.getElem?_eq_some_iff.mp hy).2])
        rw [hd] at hm
        rcases List.mem_cons.mp hm with z | z
        · exact absurd z.symm e2
        · exact z
    · intro σ H' hP
      obtain ⟨s1, rfl, rfl, hm⟩ := hP.un
      exact absurd hm (by rw [List.drop_of_length_le (Nat.le_refl _)]; exact List.not_mem_nil)
end
abbrev s_pieces_of : Stmt := top 20
abbrev N_pieces_of : List Str := ["text", "pieces", "start", "end"]
abbrev P_pieces_of : List Str := ["text"]
theorem sc_pieces_of : FnScope N_pieces_of P_pieces_of (defScope s_pieces_of) := ⟨rfl, rfl, rfl, by decide +kernel, rfl, by decide +kernel, by decide +kernel⟩
def spPie (K : PySem.W.Frag) : Sp := fun vs H Q _ => ∃ (l : List Nat), vs = [.str (tS l)] ∧ l.length ≤ 50000 ∧ ∀ p H', H p = none → Same H H' → H' p = some (.lst ((pcL l).map fun a => V.str (tS a))) → Q (.ref p) H'
theorem pcL_len : ∀ (n : Nat) (l : List Nat), l.length ≤ n → (pcL l).length ≤ l.length
  | _, [], _ => Nat.le_refl _
  | 0, c :: r, h => by simp at h
  | n + 1, c :: r, h => by
    rw [List.length_cons] at h
    have e1 : (r.dropWhile dg).length ≤ r.length := (List.dropWhile_sublist dg).length_le
    cases hf : fg c with
    | true =>
      have := pcL_len n (r.dropWhile dg) (by omega)
      rw [pcL_fg hf, List.length_cons, List.length_cons]
      omega
    | false =>
      have := pcL_len n r (by omega)
      rw [pcL_one hf, List.length_cons, List.length_cons]
      omega
section
variable {P : Program} {w : World} {K : PySem.W.Frag} {mg : Str → Option Value} {base : Heap}
theorem ok_pie {f : Addr} {fd : FuncData} {k : Nat} {tk : Tok} (F : Fun K "pieces_of" "pieces_of" s_pieces_of f fd) (T : Blt mg) (M_FIGURES : mg "FIGURES" = some (.str "0123456789" tk)) : FnOk P w K mg base CX0 (k + 1) f fd P_pieces_of (spPie K) := by
  have nd := sc_pieces_of.nd
  refine F.ok sc_pieces_of (fun vs H Q E h => ?_) (fun cdv A outer s H vs Q E hr h => ?_)
  · obtain ⟨l, rfl, _⟩ := h
    rfl
  · obtain ⟨l, rfl, hl, q⟩ := h
    refine ⟨_, (pss_cons (ps_set (i := 1) nd rfl (Or.inl rfl) (pe_lst pa_nil))
      (pss_cons (ps_set (i := 2) nd rfl (Or.inl rfl) (pe_int))
      (pss_cons (ps_while PassesOwn.never (pt_cmpR op_lt (pv 2) (pe_callB call_len_str (by rfl) T.b_len (by decide +kernel) (pa_cons (pv 0) pa_nil)) (nomark _))
      (pss_cons (ps_set (i := 3) nd rfl (Or.inl rfl) (pe_op op_add (pv 2) (pe_int)))
      (pss_cons (ps_if (pt_cmpR op_in_sign (pe_ix ix_str (pv 0) (pv 2) (fun _ _ => rfl)) (pe_op op_add_str (pe_str) (pe_glob (v := .str "0123456789") (by rfl) M_FIGURES ⟨_, rfl⟩)) (by rfl)) (pss_one (ps_while PassesOwn.never (PW.pt (pw_and (pt_cmpR op_lt (pv 3) (pe_callB call_len_str (by rfl) T.b_len (by decide +kernel) (pa_cons (pv 0) pa_nil)) (nomark _)) (pw_and1 (pt_cmpR op_in_sign (pe_ix ix_str (pv 0) (pv 3) (fun _ _ => rfl)) (pe_glob (v := .str "0123456789") (by rfl) M_FIGURES ⟨_, rfl⟩) (by rfl)))))
      (pss_one (ps_aug (i := 3) nd rfl (Or.inl rfl) (pe_int) ip_add)))) pss_nil)
      (pss_cons (ps_expr (pe_bm PySem.F.plainAttrs_list PySem.F.slot_list_append PySem.F.type_list_append mt_append (pv 1) (pa_cons (pe_slice sl_str (pv 0) (po_some (pv 2)) (po_some (pv 3))) pa_nil)))
      (pss_one (ps_set (i := 2) nd rfl (Or.inl rfl) (pv 3)))))))
      (pss_one (ps_ret (pv 1)))))), ?_⟩
    have hlen := tS_len l
    have hsz : (tS l).length ≤ sizeLine := by rw [hlen]; exact szl (by omega)
    walk_at "ev"
    w_cond _1
    refine ⟨fun m σ H' => ∃ (st : Nat) (dn : List (List Nat)) (s3 : Option V), σ = [some (.str (tS l)), some (.ref l1), some (.int (st : Int)), s3] ∧ m = l.length - st ∧ st ≤ l.length ∧ Same H H' ∧ H' l1 = some (.lst (dn.map fun a => V.str (tS a))) ∧ dn ++ pcL (l.drop st) = pcL l, ⟨_, 0, [], none, rfl, rfl, Nat.zero_le _, sm1, hq1, rfl⟩, ?_⟩
    rintro m σ H' ⟨st, dn, s3, rfl, rfl, hst, sm', hp', hinv⟩
    have hdn : dn.length ≤ 50000 := by
      have := congrArg List.length hinv
      rw [List.length_append] at this
      have := pcL_len _ l (Nat.le_refl _)
      omega
    walk_at "ev"
    refine ite2 (fun e => ?_) (fun e => ?_)
    · have e1 : (st : Int) < ((tS l).length : Nat) := of_decide_eq_true e
      have hlt : st < l.length := by omega
      refine ⟨_, holdN, ?_⟩
      have hc : l[st]? = some l[st] := List.getElem?_eq_getElem hlt
      have hat : atI (tS l).cps.toList (st : Int) = some l[st] := atL rfl hc
      have hdr : l.drop st = l[st] :: l.drop (st + 1) := List.drop_eq_getElem_cons hlt
      generalize l[st] = c at *
      have hps : (Str.ofString "ps" : Str).length + (Str.ofString "0123456789" : Str).length ≤ sizeLine := by decide +kernel
      walk_at "ev"
      refine ite2 (fun e2 => ?_) (fun e2 => ?_)
      · have hf : fg c = true := e2
        rw [hdr, pcL_fg hf] at hinv
        refine ⟨fun m σ H2 => ∃ (en : Nat), σ = [some (.str (tS l)), some (.ref l1), some (.int (st : Int)), some (.int (en : Int))] ∧ m = l.length - en ∧ st + 1 ≤ en ∧ en ≤ l.length ∧ (∀ c ∈ (l.drop (st + 1)).take (en - (st + 1)), dg c = true) ∧ H2 = H', ⟨_, st + 1, rfl, rfl, Nat.le_refl _, hlt, (by rw [Nat.sub_self, List.take_zero]; intro c hc; cases hc), rfl⟩, ?_⟩
        rintro m σ H2 ⟨en, rfl, rfl, en1, en2, hdg, rfl⟩
        have fin : Stp (l.drop en) → ∀ H3, H3 = H2 → Hold (∃ m', m' < l.length - st ∧ ∃ (st' : Nat) (dn' : List (List Nat)) (s3' : Option V), [some (V.str (tS l)), some (V.ref l1), some (V.int (en : Int)), some (V.int (en : Int))] = [some (V.str (tS l)), some (V.ref l1), some (V.int (st' : Int)), s3'] ∧ m' = l.length - st' ∧ st' ≤ l.length ∧ Same H (upd H2 l1 (.lst (dn.map (fun a => V.str (tS a)) ++ [.str (cutS (tS l) (some (st : Int)) (some (en : Int)))]))) ∧ (upd H2 l1 (.lst (dn.map (fun a => V.str (tS a)) ++ [.str (cutS (tS l) (some (st : Int)) (some (en : Int)))]))) l1 = some (.lst (dn'.map fun a => V.str (tS a))) ∧ dn' ++ pcL (l.drop st') = pcL l) := fun hs H3 _ => by
          have er : l.drop (st + 1) = (l.drop (st + 1)).take (en - (st + 1)) ++ l.drop en := by
            have := (List.take_append_drop (en - (st + 1)) (l.drop (st + 1))).symm
            rw [List.drop_drop, show st + 1 + (en - (st + 1)) = en by omega] at this
            exact this
          obtain ⟨t1, t2⟩ := tw_app hdg hs
          rw [← er] at t1 t2
          rw [t1, t2] at hinv
          refine .mk ⟨l.length - en, by omega, en, dn ++ [c :: (l.drop (st + 1)).take (en - (st + 1))], _, rfl, rfl, en2, same_mut sm' hl1, ?_, ?_⟩
          · rw [upd_same, List.map_append, cutS_nat rfl rfl (by omega) en2, hdr, show en - st = (en - (st + 1)) + 1 by omega]
            rfl
          · rw [List.append_assoc]
            exact hinv
        walk_at "ev"
        refine ite2 (fun e3 => ?_) (fun e3 => ?_)
        · have e4 : (en : Int) < ((tS l).length : Nat) := of_decide_eq_true e3
          have hlt2 : en < l.length := by omega
          have hc2 : l[en]? = some l[en] := List.getElem?_eq_getElem hlt2
          have hat2 : atI (tS l).cps.toList (en : Int) = some l[en] := atL rfl hc2
          have hdr2 : l.drop en = l[en] :: l.drop (en + 1) := List.drop_eq_getElem_cons hlt2
          generalize l[en] = c2 at *
          walk_at "ev"
          refine ite2 (fun e5 => ?_) (fun e5 => ?_)
          · refine ⟨_, holdN, ?_⟩
            walk_at "ev"
            refine .mk ⟨l.length - (en + 1), by omega, en + 1, rfl, rfl, by omega, by omega, ?_, rfl⟩
            rw [show en + 1 - (st + 1) = (en - (st + 1)) + 1 by omega, List.take_add_one]
            intro x hx
            rcases List.mem_append.mp hx with z | z
            · exact hdg x z
            · rw [List.getElem?_drop, show st + 1 + (en - (st + 1)) = en by omega, hc2] at z
              have z : x ∈ [c2] := z
              cases List.mem_singleton.mp z
              exact e5
          · have hs : Stp (l.drop en) := by
              rw [hdr2]
              refine stp_cons ?_
              cases hz : dg c2 with
              | false => rfl
              | true => exact absurd hz e5
            have fin := fin hs H2 rfl
            have hcz : (cutS (tS l) (some (st : Int)) (some (en : Int))).length ≤ sizeLine := by rw [cutS_nat rfl rfl (by omega) en2, tS_len, List.length_take, List.length_drop]; exact szl (by omega)
            have hfl : (dn.map fun a => V.str (tS a)).length < sizeLine := szm (by rw [List.length_map]; omega)
            walk_at "ev"
            exact fin
        · have e4 : ¬ (en : Int) < ((tS l).length : Nat) := fun z => e3 (decide_eq_true z)
          have hen : en = l.length := by omega
          have hs : Stp (l.drop en) := by
            rw [List.drop_of_length_le (by omega)]
            exact fun c hc => nomatch hc
          have fin := fin hs H2 rfl
          have hfl : (dn.map fun a => V.str (tS a)).length < sizeLine := szm (by rw [List.length_map]; omega)
          walk_at "ev"
          exact fin
      · have hf : fg c = false := by
          cases hz : fg c with
          | false => rfl
          | true => exact absurd hz e2
        rw [hdr, pcL_one hf] at hinv
        have hfl : (dn.map fun a => V.str (tS a)).length < sizeLine := szm (by rw [List.length_map]; omega)
        walk_at "ev"
        refine .mk ⟨l.length - (st + 1), by omega, st + 1, dn ++ [[c]], _, rfl, rfl, by omega, same_mut sm' hl1, ?_, ?_⟩
        · rw [upd_same, List.map_append, cutS_nat (b := st + 1) rfl (by omega) (by omega) (by omega), hdr, show st + 1 - st = 1 by omega]
          rfl
        · rw [List.append_assoc]
          exact hinv
    · have e1 : ¬ (st : Int) < ((tS l).length : Nat) := fun z => e (decide_eq_true z)
      rw [List.drop_of_length_le (show l.length ≤ st by omega), pcL_nil, List.append_nil] at hinv
      rw [hinv] at hp'
      walk_at "ev"
      exact q l1 H' hl1 sm' hp'
end
theorem num_head : ∀ (k n : Nat), n ≤ k → 1 ≤ n → ∀ c t, TL.numL n = c :: t → c ≠ 48
  | 0, n, h, h1, _, _, _ => by omega
  | k + 1, n, h, h1, c, t, e => by
    by_cases z : n < 10
    · rw [TL.numL_lt z] at e
      have := (List.cons.inj e).1
      omega
    · rw [TL.numL_step (by omega)] at e
      cases hz : TL.numL (n / 10) with
      | nil => exact absurd hz (TL.numL_ne _)
      | cons c' t' =>
        rw [hz] at e
        have e1 : c' = c := (List.cons.inj e).1
        subst e1
        exact num_head k (n / 10) (by omega) (by omega) c' t' hz
theorem num_cons {n : Int} (h1 : 1 ≤ n) : ∃ c t, TL.numL n.toNat = c :: t ∧ c ≠ 48 ∧ dg c = true := by
  cases hz : TL.numL n.toNat with
  | nil => exact absurd hz (TL.numL_ne _)
  | cons c t => exact ⟨c, t, rfl, num_head _ _ (Nat.le_refl _) (by omega) c t hz, num_dg n.toNat c (by rw [hz]; exact List.mem_cons_self)⟩
theorem int_T {n : Int} (h1 : 1 ≤ n) (h2 : n ≤ 1000) : PySem.intText? (tS (TL.numL n.toNat)) = some n := by
  obtain ⟨k, rfl⟩ := Int.eq_ofNat_of_zero_le (show 0 ≤ n by omega)
  have := TL.int_num (n := k) (Nat.le_trans (num4 h1 h2) (by decide))
  rw [tS_num] at this
  exact this
abbrev s_number_in : Stmt := top 21
abbrev N_number_in : List Str := ["figures"]
abbrev P_number_in : List Str := ["figures"]
theorem sc_number_in : FnScope N_number_in P_number_in (defScope s_number_in) := ⟨rfl, rfl, rfl, by decide +kernel, rfl, by decide +kernel, by decide +kernel⟩
def spNin : Sp := fun vs H Q _ => ∃ (n : Int), vs = [.str (tS (TL.numL n.toNat))] ∧ 1 ≤ n ∧ n ≤ 1000 ∧ Q (.int n) H
section
variable {P : Program} {w : World} {K : PySem.W.Frag} {mg : Str → Option Value} {base : Heap}
theorem ok_nin {f : Addr} {fd : FuncData} {k : Nat} (F : Fun K "number_in" "number_in" s_number_in f fd) (T : Blt mg) : FnOk P w K mg base CX0 (k + 1) f fd P_number_in spNin := by
  have nd := sc_number_in.nd
  refine F.ok sc_number_in (fun vs H Q E h => ?_) (fun cdv A outer s H vs Q E hr h => ?_)
  · obtain ⟨n, rfl, _⟩ := h
    rfl
  · obtain ⟨n, rfl, h1, h2, q⟩ := h
    refine ⟨_, (pss_cons (ps_if (PW.pt (pw_or (pt_cmpR op_eq (pv 0) (pe_str) (nomark _)) (pw_or1 (pt_cmpR op_eq (pe_ix ix_str (pv 0) (pe_int) (fun _ _ => rfl)) (pe_str) (nomark _))))) (pss_one (ps_ret (pe_non))) pss_nil)
      (pss_one (ps_ret (pe_callTy call_int_str (by rfl) T.b_int (by decide +kernel) (pa_cons (pv 0) pa_nil))))), ?_⟩
    have hi := int_T h1 h2
    have hl := num4 h1 h2
    obtain ⟨c, t, hct, c48, cd⟩ := num_cons h1
    have hsz : (tS (TL.numL n.toNat)).length ≤ sizeLine := by rw [tS_len]; exact szl (by omega)
    have h640 : (tS (TL.numL n.toNat)).length ≤ 640 := by rw [tS_len]; omega
    have hat : atI (tS (TL.numL n.toNat)).cps.toList 0 = some c := atL (j := 0) rfl (by rw [tl_tS, hct]; rfl)
    have e1 : decide (V.str (tS (TL.numL n.toNat)) = V.str "") = false := decide_eq_false fun z => by
      have := tS_inj (b := []) ((V.str.inj z).trans (by decide +kernel))
      rw [hct] at this
      cases this
    have e2 : decide (V.str ⟨#[c]⟩ = V.str "0") = false := decide_eq_false fun z => by
      have := tS_inj (a := [c]) (b := [48]) ((V.str.inj z).trans (by decide +kernel))
      exact c48 (List.cons.inj this).1
    walk_at "ev"
    refine iteFe e1 ?_
    walk_at "ev"
    refine iteFe e2 ?_
    walk_at "ev"
    exact q
end
abbrev s_part_in : Stmt := top 22
abbrev N_part_in : List Str := ["piece"]
abbrev P_part_in : List Str := ["piece"]
theorem sc_part_in : FnScope N_part_in P_part_in (defScope s_part_in) := ⟨rfl, rfl, rfl, by decide +kernel, rfl, by decide +kernel, by decide +kernel⟩
def spPrt (K : PySem.W.Frag) : Sp := fun vs H Q _ =>
  (∃ n : Int, vs = [.str (tS (TL.numL n.toNat))] ∧ 1 ≤ n ∧ n ≤ 1000 ∧ Q (.int n) H) ∨
  (∃ (x : Str) (n : Int), vs = [.str (tS (sgn x :: TL.numL n.toNat))] ∧ (x = "plain" ∨ x = "short") ∧ 1 ≤ n ∧ n ≤ 1000 ∧ ∀ a H', H a = none → Same H H' → H' a = some (.tup [.str x, .int n]) → Q (.ref a) H') ∨
  (∃ c : Nat, vs = [.str (tS [c])] ∧ (c = 40 ∨ c = 42 ∨ c = 46 ∨ c = 94 ∨ c = 126) ∧ Q (.str (tS [c])) H)
section
variable {P : Program} {w : World} {K : PySem.W.Frag} {mg : Str → Option Value} {base : Heap}
theorem ps_iff (c : Nat) : decide (c ∈ (Str.ofString "ps" : Str).cps.toList) = decide (c = 112 ∨ c = 115) := by
  rw [show (Str.ofString "ps" : Str).cps.toList = [112, 115] from by decide +kernel]
  simp only [List.mem_cons, List.not_mem_nil, or_false]
theorem ok_prt {f f1 f2 aS : Addr} {fd d1 d2 : FuncData} {k : Nat} {tk : Tok} (F : Fun K "part_in" "part_in" s_part_in f fd) (T : Blt mg) (S : Sg K w mg aS) (M_FIGURES : mg "FIGURES" = some (.str "0123456789" tk)) (D_number_in : Df K mg "number_in" s_number_in P_number_in f1 d1) (D_word_of : Df K mg "word_of" s_word_of P_word_of f2 d2) : FnOk P w K mg base CX0 (k + 2) f fd P_part_in (spPrt K) := by
  have G_number_in : FnOk P w K mg base CX0 (k + 1) f1 d1 P_number_in spNin := ok_nin D_number_in.F T
  have G_word_of : FnOk P w K mg base CX0 (k + 1) f2 d2 P_word_of spWof := ok_wof D_word_of.F T S
  have nd := sc_part_in.nd
  refine F.ok sc_part_in (fun vs H Q E h => ?_) (fun cdv A outer s H vs Q E hr h => ?_)
  · rcases h with ⟨n, rfl, _⟩ | ⟨x, n, rfl, _⟩ | ⟨c, rfl, _⟩ <;> rfl
  · refine ⟨_, (pss_cons (ps_if (pt_cmpR op_in_sign (pe_ix ix_str (pv 0) (pe_int) (fun _ _ => rfl)) (pe_glob (v := .str "0123456789") (by rfl) M_FIGURES ⟨_, rfl⟩) (by rfl)) (pss_one (ps_ret (pe_call G_number_in (hr.mono (by omega)) (by rfl) D_number_in.g D_number_in.F.kp D_number_in.b .nil pass0 (pa_cons (pv 0) pa_nil)))) pss_nil)
      (pss_cons (ps_if (pt_cmpR op_in_sign (pe_ix ix_str (pv 0) (pe_int) (fun _ _ => rfl)) (pe_str) (by rfl)) (pss_one (ps_ret (pe_tup (pa_cons (pe_call G_word_of (hr.mono (by omega)) (by rfl) D_word_of.g D_word_of.F.kp D_word_of.b .nil pass0 (pa_cons (pe_ix ix_str (pv 0) (pe_int) (fun _ _ => rfl)) pa_nil)) (pa_cons (pe_call G_number_in (hr.mono (by omega)) (by rfl) D_number_in.g D_number_in.F.kp D_number_in.b .nil pass0 (pa_cons (pe_slice sl_str (pv 0) (po_some (pe_int)) po_none) pa_nil)) pa_nil))))) pss_nil)
      (pss_one (ps_ret (pv 0))))), ?_⟩
    rcases h with ⟨n, rfl, h1, h2, q⟩ | ⟨x, n, rfl, hx, h1, h2, q⟩ | ⟨c, rfl, hc, q⟩
    · have hl := num4 h1 h2
      obtain ⟨c, t, hct, c48, cd⟩ := num_cons h1
      have hsz : (tS (TL.numL n.toNat)).length ≤ sizeLine := by rw [tS_len]; exact szl (by omega)
      have hat : atI (tS (TL.numL n.toNat)).cps.toList 0 = some c := atL (j := 0) rfl (by rw [tl_tS, hct]; rfl)
      walk_at "ev"
      refine iteTe (show decide _ = true from cd) ?_
      walk_at "ev"
      exact q
    · have hl := num4 h1 h2
      have hsz : (tS (sgn x :: TL.numL n.toNat)).length ≤ sizeLine := by rw [tS_len, List.length_cons]; exact szl (by omega)
      have hat : atI (tS (sgn x :: TL.numL n.toNat)).cps.toList 0 = some (sgn x) := atL (j := 0) rfl rfl
      have hs := sgn_leaf hx
      have hx6 := w_leaf hx
      have ecut : cutS (tS (sgn x :: TL.numL n.toNat)) (some 1) none = tS (TL.numL n.toNat) := cutS_from (a := 1) rfl (by rw [List.length_cons]; omega)
      have e0 : (⟨#[sgn x]⟩ : Str) = tS [sgn x] := rfl
      walk_at "ev"
      refine iteFe (show decide _ = false from dgF (by omega)) ?_
      walk_at "ev"
      refine iteTe (by rw [ps_iff]; exact decide_eq_true (by omega)) ?_
      walk_at "ev"
      rw [ecut]
      walk_at "ev"
      w_cond _1
      exact q l1 H1 hl1 sm1 hq1
    · have hsz : (tS [c]).length ≤ sizeLine := by rw [tS_len]; exact szl (by show 1 ≤ 60000; decide)
      have hat : atI (tS [c]).cps.toList 0 = some c := atL (j := 0) rfl rfl
      walk_at "ev"
      refine iteFe (show decide _ = false from dgF (by omega)) ?_
      walk_at "ev"
      refine iteFe (by rw [ps_iff]; exact decide_eq_false (by omega)) ?_
      walk_at "ev"
      exact q
end
/-- what stands in the parts -/
inductive SkAt (K : PySem.W.Frag) (H : Hp) : V → Sk → Prop
  | sg (c : Nat) : SkAt K H (.str (tS [c])) (.sg c)
  | num (n : Int) : SkAt K H (.int n) (.num n)
  | pl {v : V} {p : Pl} : PlAt K H v p → SkAt K H v (.pl p)
theorem SkAt.same {K : PySem.W.Frag} {H H' : Hp} {v : V} {s : Sk} (h : SkAt K H v s) (e : Same H H') : SkAt K H' v s := by
  cases h with
  | sg c => exact .sg c
  | num n => exact .num n
  | pl h => exact .pl (h.same e)
def Sks (K : PySem.W.Frag) (H : Hp) : List V → List Sk → Prop := Paired (SkAt K H)
theorem Sks.same {K : PySem.W.Frag} {H H' : Hp} {xs : List V} {ss : List Sk} (h : Sks K H xs ss) (e : Same H H') : Sks K H' xs ss := Paired.mapP h fun _ _ z => z.same e
theorem sks_app {K : PySem.W.Frag} {H : Hp} : ∀ {xs ys : List V} {ss ts : List Sk}, Sks K H xs ss → Sks K H ys ts → Sks K H (xs ++ ys) (ss ++ ts)
  | _, _, _, _, .nil, h => h
  | _, _, _, _, .cons a b, h => .cons a (sks_app b h)
theorem sks_split {K : PySem.W.Frag} {H : Hp} : ∀ {ss ts : List Sk} {xs : List V}, Sks K H xs (ss ++ ts) → ∃ ys zs, xs = ys ++ zs ∧ Sks K H ys ss ∧ Sks K H zs ts
  | [], ts, xs, h => ⟨[], xs, rfl, .nil, h⟩
  | s :: ss, ts, _, .cons (a := x) a b => by
    obtain ⟨ys, zs, rfl, h1, h2⟩ := sks_split b
    exact ⟨x :: ys, zs, rfl, .cons a h1, h2⟩
theorem at_end {xs : List V} {a b c d : V} : atI (xs ++ [a, b, c, d]) (-4) = some a ∧ atI (xs ++ [a, b, c, d]) (-3) = some b ∧ atI (xs ++ [a, b, c, d]) (-2) = some c ∧ atI (xs ++ [a, b, c, d]) (-1) = some d := by
  have l : (xs ++ [a, b, c, d]).length = xs.length + 4 := by rw [List.length_append]; rfl
  refine ⟨?_, ?_, ?_, ?_⟩
  · unfold atI ixN
    rw [if_neg (by decide), if_pos (by rw [l]; omega), l, show ((-4 : Int) + ((xs.length + 4 : Nat) : Int)).toNat = xs.length + 0 by omega]
    show (xs ++ [a, b, c, d])[xs.length + 0]? = _
    rw [List.getElem?_append_right (by omega), Nat.add_sub_cancel_left]
    rfl
  · unfold atI ixN
    rw [if_neg (by decide), if_pos (by rw [l]; omega), l, show ((-3 : Int) + ((xs.length + 4 : Nat) : Int)).toNat = xs.length + 1 by omega]
    show (xs ++ [a, b, c, d])[xs.length + 1]? = _
    rw [List.getElem?_append_right (by omega), Nat.add_sub_cancel_left]
    rfl
  · unfold atI ixN
    rw [if_neg (by decide), if_pos (by rw [l]; omega), l, show ((-2 : Int) + ((xs.length + 4 : Nat) : Int)).toNat = xs.length + 2 by omega]
    show (xs ++ [a, b, c, d])[xs.length + 2]? = _
    rw [List.getElem?_append_right (by omega), Nat.add_sub_cancel_left]
    rfl
  · unfold atI ixN
    rw [if_neg (by decide), if_pos (by rw [l]; omega), l, show ((-1 : Int) + ((xs.length + 4 : Nat) : Int)).toNat = xs.length + 3 by omega]
    show (xs ++ [a, b, c, d])[xs.length + 3]? = _
    rw [List.getElem?_append_right (by omega), Nat.add_sub_cancel_left]
    rfl
abbrev s_bracket_plan : Stmt := top 23
abbrev N_bracket_plan : List Str := ["parts", "made"]
abbrev P_bracket_plan : List Str := ["parts"]
theorem sc_bracket_plan : FnScope N_bracket_plan P_bracket_plan (defScope s_bracket_plan) := ⟨rfl, rfl, rfl, by decide +kernel, rfl, by decide +kernel, by decide +kernel⟩
def spBkp (K : PySem.W.Frag) (n : Nat) : Sp := fun vs H Q _ => ∃ (p : Addr) (ts : List V) (x y : V) (wd : Str) (q : Pl), vs = [.ref p] ∧ SqL K H p (ts ++ [.str (tS [40]), x, .str (tS [sgn wd]), y]) ∧ ts.length ≤ 50000 ∧ PlN q ∧ pdep q ≤ n ∧
  ((∃ a b, (wd = "split" ∨ wd = "parts") ∧ q = .two wd a b ∧ PlAt K H x a ∧ PlAt K H y b) ∨ (∃ m a, (wd = "powers" ∨ wd = "stretch") ∧ q = .led wd m a ∧ x = .int m ∧ PlAt K H y a)) ∧
  ∀ a H', H a = none → Same H H' → PlAt K H' (.ref a) q → Q (.ref a) H'
section
variable {P : Program} {w : World} {K : PySem.W.Frag} {mg : Str → Option Value} {base : Heap}
theorem ok_bkp {f f1 f2 aS : Addr} {fd d1 d2 : FuncData} {n : Nat} (F : Fun K "bracket_plan" "bracket_plan" s_bracket_plan f fd) (T : Blt mg) (S : Sg K w mg aS) (D_word_of : Df K mg "word_of" s_word_of P_word_of f1 d1) (D_is_plan : Df K mg "is_plan" s_is_plan P_is_plan f2 d2) (G_is_plan : FnOk P w K mg base CX0 (n + 5) f2 d2 P_is_plan (spIsp K n)) : FnOk P w K mg base CX0 (n + 6) f fd P_bracket_plan (spBkp K n) := by
  have G_word_of : FnOk P w K mg base CX0 1 f1 d1 P_word_of spWof := ok_wof (k := 0) D_word_of.F T S
  have nd := sc_bracket_plan.nd
  refine F.ok sc_bracket_plan (fun vs H Q E h => ?_) (fun cdv A outer s H vs Q E hr h => ?_)
  · obtain ⟨p, ts, x, y, wd, q, rfl, _⟩ := h
    rfl
  · obtain ⟨p, ts, x, y, wd, q, rfl, hS, hl, hn, hd, hc, nx⟩ := h
    refine ⟨_, (pss_cons (ps_if (PW.pt (pw_or (pt_cmpR op_lt (pe_callB (r := rLenQ K) call_len_seq (by rfl) T.b_len (by decide +kernel) (pa_cons (pv 0) pa_nil)) (pe_int) (nomark _)) (pw_or1 (pt_cmpR (r := rNeD K) (op_neD hr.units) (pe_ix (r := rIxL K) ix_list (pv 0) (pe_un un_neg (pe_int)) (fun _ _ => rfl)) (pe_str) (nomark _))))) (pss_one (ps_ret (pe_non))) pss_nil)
      (pss_cons (ps_set (i := 1) nd rfl (Or.inl rfl) (pe_tup (pa_cons (pe_call G_word_of (hr.mono (by omega)) (by rfl) D_word_of.g D_word_of.F.kp D_word_of.b .nil pass0 (pa_cons (pe_ix (r := rIxL K) ix_list (pv 0) (pe_un un_neg (pe_int)) (fun _ _ => rfl)) pa_nil)) (pa_cons (pe_ix (r := rIxL K) ix_list (pv 0) (pe_un un_neg (pe_int)) (fun _ _ => rfl)) (pa_cons (pe_ix (r := rIxL K) ix_list (pv 0) (pe_un un_neg (pe_int)) (fun _ _ => rfl)) pa_nil)))))
      (pss_one (ps_ret (pe_ifExp (pt_val (pe_call G_is_plan (hr.mono (by omega)) (by rfl) D_is_plan.g D_is_plan.F.kp D_is_plan.b .nil pass0 (pa_cons (pv 1) pa_nil))) (pv 1) (pe_non)))))), ?_⟩
    obtain ⟨t4, t3, t2, t1⟩ := at_end (xs := ts) (a := .str (tS [40])) (b := x) (c := .str (tS [sgn wd])) (d := y)
    have hw6 : wd = "plain" ∨ wd = "short" ∨ wd = "split" ∨ wd = "parts" ∨ wd = "powers" ∨ wd = "stretch" := by
      rcases hc with ⟨a, b, z, _⟩ | ⟨m, a, z, _⟩
      · exact w_two z
      · exact w_led z
    generalize hxs : ts ++ [V.str (tS [40]), x, V.str (tS [sgn wd]), y] = xs at *
    have hxl : (xs.length : Int) = (ts.length : Int) + 4 := by rw [← hxs, List.length_append]; rfl
    walk_at "ev"
    refine iteFe (decide_eq_false (by omega)) ?_
    walk_at "ev"
    have ee : PyData.eqv (.str (tS [40])) (.str (Str.ofString "(")) = true := by decide +kernel
    refine ⟨.str _, .str _, (by decide +kernel), (by decide +kernel), ?_⟩
    rw [ee]
    refine ⟨false, rfl, ?_⟩
    walk_at "ev"
    w_cond _1
    have hP : PlAt K H1 (.ref l1) q := by
      rcases hc with ⟨a, b, z, rfl, hx, hy⟩ | ⟨m, a, z, rfl, rfl, hy⟩
      · exact .two z (SqT.of hq1) (hx.same sm1) (hy.same sm1)
      · exact .led z (SqT.of hq1) (hy.same sm1)
    walk_at "ev"
    intro H2 sm2
    walk_at "ev"
    exact nx l1 H2 hl1 (sm1.trans sm2) (hP.same sm2)
end
theorem sqt_mutQ {K : PySem.W.Frag} {H : Hp} {a D : Addr} {xs ys : List V} {o : HO} (h : SqT K H a xs) (e : H D = some (.lst ys)) : SqT K (upd H D o) a xs := by
  rcases h with (h | ⟨u, h⟩) | h
  · exact .inl (.inl (by rw [upd_ne (fun z => by rw [z, e] at h; cases h)]; exact h))
  · exact .inl (.inr ⟨u, by rw [upd_ne (fun z => by rw [z, e] at h; cases h)]; exact h⟩)
  · exact .inr h
theorem sqt_mutP {K : PySem.W.Frag} {H : Hp} {v : V} {pl : Pl} {D : Addr} {xs : List V} {o : HO} (h : PlAt K H v pl) (e : H D = some (.lst xs)) : PlAt K (upd H D o) v pl := by
  induction h with
  | leaf a b => exact .leaf a (sqt_mutQ b e)
  | two a b c d i1 i2 => exact .two a (sqt_mutQ b e) i1 i2
  | led a b c i1 => exact .led a (sqt_mutQ b e) i1
theorem PlAt.mutQ {K : PySem.W.Frag} {H : Hp} {v : V} {pl : Pl} {D : Addr} {xs : List V} {o : HO} (h : PlAt K H v pl) (e : H D = some (.lst xs)) : PlAt K (upd H D o) v pl := sqt_mutP h e
theorem Sks.mut {K : PySem.W.Frag} {H : Hp} {xs : List V} {ss : List Sk} {D : Addr} {ys : List V} {o : HO} (h : Sks K H xs ss) (e : H D = some (.lst ys)) : Sks K (upd H D o) xs ss := Paired.mapP h fun _ _ z => by
  cases z with
  | sg c => exact .sg c
  | num n => exact .num n
  | pl h => exact .pl (sqt_mutP h e)
theorem cut4 {xs : List V} {a b c d : V} : cutV (xs ++ [a, b, c, d]) none (some (-4)) = xs := by
  unfold cutV
  have e : HT.sIx (xs ++ [a, b, c, d]).length (xs ++ [a, b, c, d]).length (some (-4)) = xs.length := by
    show (if (-4 : Int) < 0 then ((-4 : Int) + (xs ++ [a, b, c, d]).length).toNat else min ((-4 : Int)).toNat (xs ++ [a, b, c, d]).length) = _
    rw [if_pos (by decide), List.length_append]
    show ((-4 : Int) + ((xs.length + 4 : Nat) : Int)).toNat = _
    omega
  have e0 : HT.sIx (xs ++ [a, b, c, d]).length 0 none = 0 := by simp [HT.sIx]
  rw [e, e0, List.drop_zero, Nat.sub_zero]
  exact List.take_left' rfl
theorem run_start {p : Pl} (hw : Wds p) (hn : PlN p) (hd : pdep p ≤ 12) : Run [] (pcL (txt p)) [.pl p] := by
  have e := pcL_pl hw (r := []) (fun c hc => nomatch hc)
  rw [List.append_nil] at e
  rw [e]
  exact run_pl hw hn hd .done
abbrev s_plan_in : Stmt := top 24
abbrev N_plan_in : List Str := ["text", "parts", "piece", "made"]
abbrev P_plan_in : List Str := ["text"]
theorem sc_plan_in : FnScope N_plan_in P_plan_in (defScope s_plan_in) := ⟨rfl, rfl, rfl, by decide +kernel, rfl, by decide +kernel, by decide +kernel⟩
def spPin (K : PySem.W.Frag) (n : Nat) : Sp := fun vs H Q _ => ∃ (p : Pl), vs = [.str (tS (txt p))] ∧ Wds p ∧ PlN p ∧ pdep p ≤ n ∧ ∀ v H', Same H H' → PlAt K H' v p → Q v H'
section
variable {P : Program} {w : World} {K : PySem.W.Frag} {mg : Str → Option Value} {base : Heap}
theorem ok_pin {f f1 f2 f3 f4 f5 f6 aS CT C fI : Addr} {fd d1 d2 d3 d4 d5 d6 fdI : FuncData} {n : Nat} {tk : Tok} (F : Fun K "plan_in" "plan_in" s_plan_in f fd) (T : Blt mg) (S : Sg K w mg aS) (M_FIGURES : mg "FIGURES" = some (.str "0123456789" tk)) (FI : Fun K "__init__" "TurnError.__init__" s_init fI fdI) (I_b : Binds K fdI N_init []) (I_ty : PySem.W.typeIn K (.ref fI) = some (.type "function")) (R : Ref K CT C fI) (M_BadText : mg "BadText" = some (.ref C))
    (D_pieces_of : Df K mg "pieces_of" s_pieces_of P_pieces_of f1 d1) (D_part_in : Df K mg "part_in" s_part_in P_part_in f2 d2) (D_bracket_plan : Df K mg "bracket_plan" s_bracket_plan P_bracket_plan f3 d3) (D_is_plan : Df K mg "is_plan" s_is_plan P_is_plan f4 d4) (D_number_in : Df K mg "number_in" s_number_in P_number_in f5 d5) (D_word_of : Df K mg "word_of" s_word_of P_word_of f6 d6)
    (G_is_plan : FnOk P w K mg base CX0 (n + 5) f4 d4 P_is_plan (spIsp K n)) (n12 : n = 12) : FnOk P w K mg base (L2.CX P w) (n + 7) f fd P_plan_in (spPin K n) := by
  have G_init : FnOk P w K mg base CX0 1 fI fdI N_init (spInit K) := ok_init FI
  have EK_BadText := R.ek
  have II_BadText := R.ini
  have G_pieces_of : FnOk P w K mg base CX0 1 f1 d1 P_pieces_of (spPie K) := ok_pie (k := 0) D_pieces_of.F T M_FIGURES
  have G_part_in : FnOk P w K mg base CX0 2 f2 d2 P_part_in (spPrt K) := ok_prt (k := 0) D_part_in.F T S M_FIGURES D_number_in D_word_of
  have G_bracket_plan : FnOk P w K mg base CX0 (n + 6) f3 d3 P_bracket_plan (spBkp K n) := ok_bkp D_bracket_plan.F T S D_word_of D_is_plan G_is_plan
  have nd := sc_plan_in.nd
  refine F.okX sc_plan_in (fun vs H Q E h => ?_) (fun cdv A outer s H vs Q E hr h => ?_)
  · obtain ⟨p, rfl, _⟩ := h
    rfl
  · obtain ⟨p, rfl, hw, hn, hd, q⟩ := h
    refine ⟨_, (pss_cons (ps_set (i := 1) nd rfl (Or.inl rfl) (pe_lst pa_nil))
      (pss_cons (ps_for (passes_of rfl) rfl (pi_list (pe_call G_pieces_of (hr.mono (by omega)) (by rfl) D_pieces_of.g D_pieces_of.F.kp D_pieces_of.b .nil pass0 (pa_cons (pv 0) pa_nil))) (pg_name (i := 2) nd rfl (Or.inl rfl))
      (pss_cons (ps_if (pt_cmpR op_ne (pv 2) (pe_str) (nomark _)) (pss_cons (ps_expr (pe_bm PySem.F.plainAttrs_list PySem.F.slot_list_append PySem.F.type_list_append mt_append (pv 1) (pa_cons (pe_call G_part_in (hr.mono (by omega)) (by rfl) D_part_in.g D_part_in.F.kp D_part_in.b .nil pass0 (pa_cons (pv 2) pa_nil)) pa_nil)))
      (pss_one (ps_continue))) pss_nil)
      (pss_cons (ps_set (i := 3) nd rfl (Or.inl rfl) (pe_call G_bracket_plan (hr.mono (by omega)) (by rfl) D_bracket_plan.g D_bracket_plan.F.kp D_bracket_plan.b .nil pass0 (pa_cons (pv 1) pa_nil)))
      (pss_cons (ps_if (pt_cmpR op_isN (pv 3) (pe_non) (nomark _)) (pss_one (ps_raise rfl (takes_of rfl rfl rfl rfl) (pmk_oex EK_BadText.oex II_BadText I_ty G_init (hr.mono (by omega)) I_b .nil pass0 (by rfl) M_BadText (pa_cons (pv 0) pa_nil)))) pss_nil)
      (pss_one (ps_set (i := 1) nd rfl (Or.inl rfl) (pe_op op_cat (pe_slice (r := rSlL K) sl_list (pv 1) po_none (po_some (pe_un un_neg (pe_int)))) (pe_lst (pa_cons (pv 3) pa_nil)))))))))
      (pss_cons (ps_if (PW.pt (pw_or (pt_cmpR op_ne (pe_callB (r := rLenQ K) call_len_seq (by rfl) T.b_len (by decide +kernel) (pa_cons (pv 1) pa_nil)) (pe_int) (nomark _)) (pw_or1 (pt_not (pt_val (pe_call G_is_plan (hr.mono (by omega)) (by rfl) D_is_plan.g D_is_plan.F.kp D_is_plan.b .nil pass0 (pa_cons (pe_ix (r := rIxL K) ix_list (pv 1) (pe_int) (fun _ _ => rfl)) pa_nil))))))) (pss_one (ps_raise rfl (takes_of rfl rfl rfl rfl) (pmk_oex EK_BadText.oex II_BadText I_ty G_init (hr.mono (by omega)) I_b .nil pass0 (by rfl) M_BadText (pa_cons (pv 0) pa_nil)))) pss_nil)
      (pss_one (ps_ret (pe_ix (r := rIxL K) ix_list (pv 1) (pe_int) (fun _ _ => rfl))))))), ?_⟩
    have hl := txt_b hn (by omega)
    have hl5 : (txt p).length ≤ 50000 := by omega
    have hrun := run_start hw hn (by omega)
    walk_at "ev"
    w_cond _1
    walk_at "ev"
    intro p2 H2 hp2 sm2 hq2
    have pl := pcL_len _ (txt p) (Nat.le_refl _)
    generalize pcL (txt p) = PS at *
    have hq12 := sm2 _ _ hq1
    have n12' : l1 ≠ p2 := fun z => by rw [z, hp2] at hq1; cases hq1
    have hL2 := SqL.of (K := K) hq2
    walk_at "ev"
    refine ⟨⟨_, hL2⟩, ?_⟩
    refine for_list (K := K) (a := p2) (xs := PS.map fun a => V.str (tS a)) (fun i σ H' => Hold (∃ (pp : Addr) (xs : List V) (ss : List Sk) (s2 s3 : Option V), σ = [some (.str (tS (txt p))), some (.ref pp), s2, s3] ∧ Same H H' ∧ H pp = none ∧ pp ≠ p2 ∧ H' p2 = some (.lst (PS.map fun a => V.str (tS a))) ∧ H' pp = some (.lst xs) ∧ Sks K H' xs ss ∧ xs.length ≤ i ∧ Run ss (PS.drop i) [.pl p])) (.mk ⟨l1, [], [], none, none, rfl, sm1.trans sm2, hl1, n12', hq2, hq12, .nil, Nat.le_refl _, hrun⟩) ?_ ?_ ?_
    · intro i σ H' hi hP
      obtain ⟨pp, xs, ss, s2, s3, rfl, sm', hpp, npp, hp2', hq', hk, hxl, hr'⟩ := hP.un
      exact SqL.of hp2'
    · intro i u σ H' hu hP
      obtain ⟨pp, xs, ss, s2, s3, rfl, sm', hpp, npp, hp2', hq', hk, hxl, hr'⟩ := hP.un
      rw [List.getElem?_map] at hu
      obtain ⟨a, ha, rfl⟩ := Option.map_eq_some_iff.mp hu
      have hil : i < PS.length := (List.getElem?_eq_some_iff.mp ha).1
      have hdr : PS.drop i = a :: PS.drop (i + 1) := (List.drop_eq_getElem_cons hil).trans (by rw [(List.getElem?_eq_some_iff.mp ha).2])
      rw [hdr] at hr'
      generalize PS.drop (i + 1) = rest at hr'
      have hxsz : xs.length < sizeLine := szm (by omega)
      clear hdr ha
      cases hr' with
      | lf hw hn hr1 =>
        rename_i wd m
        have hne := decide_eq_false (p := V.str (tS (sgn wd :: TL.numL m.toNat)) = V.str ")") (fun z => by
          have := sgn_leaf hw
          have := (List.cons.inj (tS_inj ((V.str.inj z).trans s_cl))).1
          omega)
        obtain ⟨n1, n2, _⟩ := id hn

        walk_at "ev"
        refine iteTe (by rw [hne]; rfl) ?_
        walk_at "ev"
        refine .inr (.inl ⟨wd, m, rfl, hw, n1, n2, ?_⟩)
        intro a2 H3 ha2 sm3 hq3
        have hqq := sm3 _ _ hq'
        have hk3 := hk.same sm3
        walk_at "ev"
        refine .mk ⟨pp, xs ++ [.ref a2], ss ++ [.pl (.leaf wd m)], _, _, rfl, same_mut (sm'.trans sm3) hpp, hpp, npp, by rw [upd_ne npp.symm]; exact (sm3 _ _ hp2'), upd_same, sks_app (hk3.mut hqq) (.cons (.pl ((PlAt.leaf hw (SqT.of hq3)).mutQ hqq)) .nil), by rw [List.length_append]; show xs.length + 1 ≤ i + 1; omega, hr1⟩
      | nm n1 n2 hr1 =>
        rename_i m
        have hne := decide_eq_false (p := V.str (tS (TL.numL m.toNat)) = V.str ")") (fun z => by
          obtain ⟨c, t, hct, _, hcd⟩ := num_cons n1
          have e := tS_inj ((V.str.inj z).trans s_cl)
          rw [hct] at e
          have e1 := (List.cons.inj e).1
          have := (dg_iff c).mp hcd
          omega)
        
        walk_at "ev"
        refine iteTe (by rw [hne]; rfl) ?_
        walk_at "ev"
        skip
        have hqq := hq'
        have hk3 := hk
        refine .mk ⟨pp, xs ++ [.int m], ss ++ [.num m], _, _, rfl, same_mut sm' hpp, hpp, npp, by rw [upd_ne npp.symm]; exact hp2', upd_same, sks_app (hk3.mut hqq) (.cons (.num m) .nil), by rw [List.length_append]; show xs.length + 1 ≤ i + 1; omega, hr1⟩
      | sg hc hr1 =>
        rename_i c
        have hne := decide_eq_false (p := V.str (tS [c]) = V.str ")") (fun z => by
          have := (List.cons.inj (tS_inj ((V.str.inj z).trans s_cl))).1
          omega)
        
        walk_at "ev"
        refine iteTe (by rw [hne]; rfl) ?_
        walk_at "ev"
        refine .inr (.inr ⟨c, rfl, hc, ?_⟩)
        have hqq := hq'
        have hk3 := hk
        walk_at "ev"
        refine .mk ⟨pp, xs ++ [.str (tS [c])], ss ++ [.sg c], _, _, rfl, same_mut sm' hpp, hpp, npp, by rw [upd_ne npp.symm]; exact hp2', upd_same, sks_app (hk3.mut hqq) (.cons (.sg c) .nil), by rw [List.length_append]; show xs.length + 1 ≤ i + 1; omega, hr1⟩
      | two hw2 hn2 hd2 hr1 =>
        rename_i s0 wd a b
        obtain ⟨ys, zs, rfl, hk1, hk2⟩ := sks_split hk
        obtain ⟨x, y, hz, hxy⟩ : ∃ x y, zs = [.str (tS [40]), x, .str (tS [sgn wd]), y] ∧ PlAt K H' x a ∧ PlAt K H' y b := by
          cases hk2 with
          | cons z1 r1 => cases r1 with
            | cons z2 r2 => cases r2 with
              | cons z3 r3 => cases r3 with
                | cons z4 r4 => cases r4 with
                  | nil =>
                    cases z1
                    cases z3
                    cases z4 with
                    | pl h4 =>
                      cases z2 with
                      | pl h2 => exact ⟨_, _, rfl, h2, h4⟩
        subst hz
        have hd3 : pdep (.two wd a b) ≤ n := by omega
        have hyl : ys.length ≤ 50000 := by rw [List.length_append] at hxl; omega
        have hxx : (∃ a2 b2, (wd = "split" ∨ wd = "parts") ∧ (Pl.two wd a b) = .two wd a2 b2 ∧ PlAt K H' x a2 ∧ PlAt K H' y b2) ∨ (∃ m2 a2, (wd = "powers" ∨ wd = "stretch") ∧ (Pl.two wd a b) = .led wd m2 a2 ∧ x = .int m2 ∧ PlAt K H' y a2) := .inl ⟨a, b, hw2, rfl, hxy⟩
        have hLp := SqL.of (K := K) hq'
        have heq := decide_eq_true (p := V.str (tS [41]) = V.str ")") (congrArg V.str s_cl.symm)
        walk_at "ev"
        intro a2 H3 ha2 sm3 hP3
        have hLp3 := SqL.of (K := K) (sm3 _ _ hq')
        walk_at "ev"
        w_cond _4
        rw [cut4] at hq4
        have hP4 := hP3.same sm4
        walk_at "ev"
        w_cond _5
        have hq45 := sm5 _ _ hq4
        have hsz6 : ys.length + [V.ref a2].length ≤ sizeLine := szl (by show ys.length + 1 ≤ 60000; omega)
        walk_at "ev"
        w_cond _6
        have s36 := sm3.trans (sm4.trans (sm5.trans sm6))
        have hp26 := s36 _ _ hp2'
        have n62 : l6 ≠ p2 := fun z => by
          have := (sm3.trans (sm4.trans sm5)) _ _ hp2'
          rw [← z, hl6] at this
          cases this
        refine .mk ⟨l6, _, s0 ++ [.pl (.two wd a b)], _, _, rfl, sm'.trans s36, (sm'.trans (sm3.trans (sm4.trans sm5))).free hl6, n62, hp26, hq6, sks_app (hk1.same s36) (.cons (.pl (hP4.same (sm5.trans sm6))) .nil), ?_, hr1⟩
        rw [List.length_append] at hxl ⊢
        have hxl : ys.length + 4 ≤ i := hxl
        show ys.length + 1 ≤ i + 1
        omega
      | led hw2 hn2 hd2 hr1 =>
        rename_i s0 wd m a
        obtain ⟨ys, zs, rfl, hk1, hk2⟩ := sks_split hk
        obtain ⟨x, y, hz, hxy⟩ : ∃ x y, zs = [.str (tS [40]), x, .str (tS [sgn wd]), y] ∧ x = .int m ∧ PlAt K H' y a := by
          cases hk2 with
          | cons z1 r1 => cases r1 with
            | cons z2 r2 => cases r2 with
              | cons z3 r3 => cases r3 with
                | cons z4 r4 => cases r4 with
                  | nil =>
                    cases z1
                    cases z3
                    cases z4 with
                    | pl h4 =>
                      cases z2 with
                      | num => exact ⟨_, _, rfl, rfl, h4⟩
        subst hz
        have hd3 : pdep (.led wd m a) ≤ n := by omega
        have hyl : ys.length ≤ 50000 := by rw [List.length_append] at hxl; omega
        have hxx : (∃ a2 b2, (wd = "split" ∨ wd = "parts") ∧ (Pl.led wd m a) = .two wd a2 b2 ∧ PlAt K H' x a2 ∧ PlAt K H' y b2) ∨ (∃ m2 a2, (wd = "powers" ∨ wd = "stretch") ∧ (Pl.led wd m a) = .led wd m2 a2 ∧ x = .int m2 ∧ PlAt K H' y a2) := .inr ⟨m, a, hw2, rfl, hxy⟩
        have hLp := SqL.of (K := K) hq'
        have heq := decide_eq_true (p := V.str (tS [41]) = V.str ")") (congrArg V.str s_cl.symm)
        walk_at "ev"
        intro a2 H3 ha2 sm3 hP3
        have hLp3 := SqL.of (K := K) (sm3 _ _ hq')
        walk_at "ev"
        w_cond _4
        rw [cut4] at hq4
        have hP4 := hP3.same sm4
        walk_at "ev"
        w_cond _5
        have hq45 := sm5 _ _ hq4
        have hsz6 : ys.length + [V.ref a2].length ≤ sizeLine := szl (by show ys.length + 1 ≤ 60000; omega)
        walk_at "ev"
        w_cond _6
        have s36 := sm3.trans (sm4.trans (sm5.trans sm6))
        have hp26 := s36 _ _ hp2'
        have n62 : l6 ≠ p2 := fun z => by
          have := (sm3.trans (sm4.trans sm5)) _ _ hp2'
          rw [← z, hl6] at this
          cases this
        refine .mk ⟨l6, _, s0 ++ [.pl (.led wd m a)], _, _, rfl, sm'.trans s36, (sm'.trans (sm3.trans (sm4.trans sm5))).free hl6, n62, hp26, hq6, sks_app (hk1.same s36) (.cons (.pl (hP4.same (sm5.trans sm6))) .nil), ?_, hr1⟩
        rw [List.length_append] at hxl ⊢
        have hxl : ys.length + 4 ≤ i := hxl
        show ys.length + 1 ≤ i + 1
        omega
    · intro σ H' hP
      obtain ⟨pp, xs, ss, s2, s3, rfl, sm', hpp, npp, hp2', hq', hk, hxl, hr'⟩ := hP.un
      rw [List.length_map, List.drop_of_length_le (Nat.le_refl _)] at hr'
      cases hr' with
      | done =>
        cases hk with
        | cons z1 r1 =>
          cases r1 with
          | nil =>
            rename_i v
            cases z1 with
            | pl hpl =>
              have hL' := SqL.of (K := K) hq'
              have at0 : atI [v] 0 = some v := rfl
              have hd12 : pdep p ≤ n := hd
              have l1 : ((([v] : List V).length : Nat) : Int) = 1 := rfl
              walk_at "ev"
              intro H3 sm3
              have hL3 := SqL.of (K := K) (sm3 _ _ hq')
              walk_at "ev"
              exact q v H3 (sm'.trans sm3) (hpl.same sm3)
end
/-! ### plans as data -/
def plD : Pl → PyData
  | .leaf w n => .tuple [.str w, .int n]
  | .two w a b => .tuple [.str w, plD a, plD b]
  | .led w n a => .tuple [.str w, .int n, plD a]
theorem dp_pl {K : PySem.W.Frag} {H : Hp} {v : V} {p : Pl} (h : PlAt K H v p) : Dp K H v (plD p) := by
  induction h with
  | leaf a b => exact .tup b (.cons (.str _) (.cons (.int _) .nil))
  | two a b c d i1 i2 => exact .tup b (.cons (.str _) (.cons i1 (.cons i2 .nil)))
  | led a b c i => exact .tup b (.cons (.str _) (.cons (.int _) (.cons i .nil)))
theorem fit_pl : ∀ {p : Pl} {n : Nat}, pdep p < n → Fit n (plD p)
  | _, 0, h => absurd h (Nat.not_lt_zero _)
  | .leaf w m, n + 1, _ => by
    refine ⟨by show 2 ≤ 4000; decide, fun e he => ?_⟩
    simp only [List.mem_cons, List.not_mem_nil, or_false] at he
    rcases he with h | h <;> rw [h] <;> cases n <;> exact True.intro
  | .two w a b, n + 1, h => by
    have h' : 1 + max (pdep a) (pdep b) < n + 1 := h
    refine ⟨by show 3 ≤ 4000; decide, fun e he => ?_⟩
    simp only [List.mem_cons, List.not_mem_nil, or_false] at he
    rcases he with h | h | h <;> rw [h]
    · cases n <;> exact True.intro
    · exact fit_pl (by omega)
    · exact fit_pl (by omega)
  | .led w m a, n + 1, h => by
    have h' : 1 + pdep a < n + 1 := h
    refine ⟨by show 3 ≤ 4000; decide, fun e he => ?_⟩
    simp only [List.mem_cons, List.not_mem_nil, or_false] at he
    rcases he with h | h | h <;> rw [h]
    · cases n <;> exact True.intro
    · cases n <;> exact True.intro
    · exact fit_pl (by omega)
theorem wd_ok {x : Str} (h : x = "plain" ∨ x = "short" ∨ x = "split" ∨ x = "parts" ∨ x = "powers" ∨ x = "stretch") : PyData.strOk x = true := by
  rcases h with rfl | rfl | rfl | rfl | rfl | rfl <;> decide +kernel
theorem lay_pl : ∀ {p : Pl}, Wds p → PyData.canLay0 (plD p) = true ∧ PyData.depth (plD p) = pdep p + 1
  | .leaf w n, hw => by
    show PyData.canLay0 (.tuple [.str w, .int n]) = true ∧ PyData.depth (.tuple [.str w, .int n]) = 0 + 1
    simp only [PyData.canLay0, PyData.canLayAll0, PyData.depth, PyData.depthAll, wd_ok (w_leaf hw)]
    exact ⟨rfl, rfl⟩
  | .two w a b, ⟨hw, ha, hb⟩ => by
    obtain ⟨a1, a2⟩ := lay_pl ha
    obtain ⟨b1, b2⟩ := lay_pl hb
    show PyData.canLay0 (.tuple [.str w, plD a, plD b]) = true ∧ PyData.depth (.tuple [.str w, plD a, plD b]) = (1 + max (pdep a) (pdep b)) + 1
    simp only [PyData.canLay0, PyData.canLayAll0, PyData.depth, PyData.depthAll, a1, a2, b1, b2, wd_ok (w_two hw)]
    exact ⟨rfl, by omega⟩
  | .led w n a, ⟨hw, ha⟩ => by
    obtain ⟨a1, a2⟩ := lay_pl ha
    show PyData.canLay0 (.tuple [.str w, .int n, plD a]) = true ∧ PyData.depth (.tuple [.str w, .int n, plD a]) = (1 + pdep a) + 1
    simp only [PyData.canLay0, PyData.canLayAll0, PyData.depth, PyData.depthAll, a1, a2, wd_ok (w_led hw)]
    exact ⟨rfl, by omega⟩
theorem shp_pl {p : Pl} (hw : Wds p) (h : pdep p ≤ 12) : SeqAt.shaped (plD p) = true := by
  unfold SeqAt.shaped
  rw [(lay_pl hw).1, (lay_pl hw).2, decide_eq_true (by omega)]
  rfl
theorem eqv_pl {p : Pl} (hw : Wds p) : PyData.eqv (plD p) (plD p) = true := SeqAt.eqv_refl _ (lay_pl hw).1
/-! ### unlike plans have unlike texts -/
theorem txt_head : ∀ {p : Pl}, Wds p → ∃ c t, txt p = c :: t ∧ dg c = false
  | .leaf w n, hw => ⟨_, _, rfl, dgF (by have := sgn_leaf hw; omega)⟩
  | .two w a b, _ => ⟨_, _, rfl, dgF (by omega)⟩
  | .led w n a, _ => ⟨_, _, rfl, dgF (by omega)⟩
theorem num_pre {n m : Int} {r s : List Nat} (n1 : 1 ≤ n) (n2 : n ≤ 1000) (m1 : 1 ≤ m) (m2 : m ≤ 1000) (hr : Stp r) (hs : Stp s) (e : TL.numL n.toNat ++ r = TL.numL m.toNat ++ s) : n = m ∧ r = s := by
  obtain ⟨t1, t2⟩ := tw_app (num_dg n.toNat) hr
  obtain ⟨u1, u2⟩ := tw_app (num_dg m.toNat) hs
  rw [e] at t1 t2
  have e1 : TL.numL n.toNat = TL.numL m.toNat := t1.symm.trans u1
  refine ⟨?_, t2.symm.trans u2⟩
  have i1 := int_T n1 n2
  rw [e1, int_T m1 m2] at i1
  exact (Option.some.inj i1).symm
theorem num_no {n : Int} {p : Pl} {r s : List Nat} (n1 : 1 ≤ n) (hw : Wds p) (e : TL.numL n.toNat ++ r = txt p ++ s) : False := by
  obtain ⟨c, t, h1, _, h2⟩ := num_cons n1
  obtain ⟨c', t', h3, h4⟩ := txt_head hw
  rw [h1, h3] at e
  have := (List.cons.inj e).1
  rw [this, h4] at h2
  cases h2
theorem sgn_in6 {w x : Str} (hw : w = "plain" ∨ w = "short" ∨ w = "split" ∨ w = "parts" ∨ w = "powers" ∨ w = "stretch") (hx : x = "plain" ∨ x = "short" ∨ x = "split" ∨ x = "parts" ∨ x = "powers" ∨ x = "stretch") (e : sgn w = sgn x) : w = x := by
  rcases hw with rfl | rfl | rfl | rfl | rfl | rfl <;> rcases hx with rfl | rfl | rfl | rfl | rfl | rfl <;> first | rfl | exact absurd e (by decide +kernel)
theorem app_two {w : Str} {a b : Pl} {r : List Nat} : txt (.two w a b) ++ r = 40 :: (txt a ++ (sgn w :: (txt b ++ (41 :: r)))) := by
  show (40 :: (txt a ++ sgn w :: (txt b ++ [41]))) ++ r = _
  simp only [List.cons_append, List.append_assoc, List.nil_append]
theorem app_led {w : Str} {n : Int} {a : Pl} {r : List Nat} : txt (.led w n a) ++ r = 40 :: (TL.numL n.toNat ++ (sgn w :: (txt a ++ (41 :: r)))) := by
  show (40 :: (TL.numL n.toNat ++ sgn w :: (txt a ++ [41]))) ++ r = _
  simp only [List.cons_append, List.append_assoc, List.nil_append]
theorem app_leaf {w : Str} {n : Int} {r : List Nat} : txt (.leaf w n) ++ r = sgn w :: (TL.numL n.toNat ++ r) := rfl
theorem txt_pre : ∀ {p q : Pl}, Wds p → Wds q → PlN p → PlN q → ∀ {r s : List Nat}, Stp r → Stp s → txt p ++ r = txt q ++ s → p = q ∧ r = s
  | .leaf w n, .leaf x m, hp, hq, ⟨p1, p2, _⟩, ⟨q1, q2, _⟩, r, s, hr, hs, e => by
    rw [app_leaf, app_leaf] at e
    obtain ⟨e1, e2⟩ := List.cons.inj e
    obtain ⟨e3, e4⟩ := num_pre p1 p2 q1 q2 hr hs e2
    rw [sgn_in6 (w_leaf hp) (w_leaf hq) e1, e3]
    exact ⟨rfl, e4⟩
  | .leaf w n, .two x c d, hp, _, _, _, r, s, _, _, e => by
    rw [app_leaf, app_two] at e
    have := (List.cons.inj e).1
    have := sgn_leaf hp
    omega
  | .leaf w n, .led x m c, hp, _, _, _, r, s, _, _, e => by
    rw [app_leaf, app_led] at e
    have := (List.cons.inj e).1
    have := sgn_leaf hp
    omega
  | .two w a b, .leaf x m, _, hq, _, _, r, s, _, _, e => by
    rw [app_leaf, app_two] at e
    have := (List.cons.inj e).1
    have := sgn_leaf hq
    omega
  | .two w a b, .two x c d, ⟨hw, ha, hb⟩, ⟨hx, hc, hd⟩, ⟨na, nb, _⟩, ⟨nc, nd, _⟩, r, s, hr, hs, e => by
    rw [app_two, app_two] at e
    have s1 := sgn_two hw
    have s2 := sgn_two hx
    obtain ⟨rfl, e2⟩ := txt_pre ha hc na nc (stp_cons (dgF (by omega))) (stp_cons (dgF (by omega))) (List.cons.inj e).2
    obtain ⟨e3, e4⟩ := List.cons.inj e2
    obtain ⟨rfl, e5⟩ := txt_pre hb hd nb nd (stp_cons (dgF (by omega))) (stp_cons (dgF (by omega))) e4
    rw [sgn_in6 (w_two hw) (w_two hx) e3]
    exact ⟨rfl, (List.cons.inj e5).2⟩
  | .two w a b, .led x m c, ⟨hw, ha, hb⟩, ⟨hx, hc⟩, _, ⟨nc, m2, m3, _⟩, r, s, _, _, e => by
    rw [app_two, app_led] at e
    exact (num_no (by omega) ha (List.cons.inj e).2.symm).elim
  | .led w n a, .leaf x m, _, hq, _, _, r, s, _, _, e => by
    rw [app_leaf, app_led] at e
    have := (List.cons.inj e).1
    have := sgn_leaf hq
    omega
  | .led w n a, .two x c d, ⟨hw, ha⟩, ⟨hx, hc, hd⟩, ⟨_, n2, _⟩, _, r, s, _, _, e => by
    rw [app_two, app_led] at e
    exact (num_no (by omega) hc (List.cons.inj e).2).elim
  | .led w n a, .led x m c, ⟨hw, ha⟩, ⟨hx, hc⟩, ⟨na, n2, n3, _⟩, ⟨nc, m2, m3, _⟩, r, s, hr, hs, e => by
    rw [app_led, app_led] at e
    have s1 := sgn_led hw
    have s2 := sgn_led hx
    obtain ⟨rfl, e2⟩ := num_pre (by omega) n3 (by omega) m3 (stp_cons (dgF (by omega))) (stp_cons (dgF (by omega))) (List.cons.inj e).2
    obtain ⟨e3, e4⟩ := List.cons.inj e2
    obtain ⟨rfl, e5⟩ := txt_pre ha hc na nc (stp_cons (dgF (by omega))) (stp_cons (dgF (by omega))) e4
    rw [sgn_in6 (w_led hw) (w_led hx) e3]
    exact ⟨rfl, (List.cons.inj e5).2⟩
theorem txt_inj {p q : Pl} (hp : Wds p) (hq : Wds q) (np : PlN p) (nq : PlN q) (e : txt p = txt q) : p = q :=
  (txt_pre hp hq np nq (r := []) (s := []) (fun c hc => nomatch hc) (fun c hc => nomatch hc) (by rw [e])).1
theorem du {k : Nat} {A : Around} (h : Room k A) : A.units + 1 < cLine := by
  have := h.units
  omega
abbrev s__law_plan_words : Stmt := top 32
abbrev N__law_plan_words : List Str := ["_law_thing", "_law_between"]
abbrev P__law_plan_words : List Str := ["_law_thing"]
theorem sc__law_plan_words : FnScope N__law_plan_words P__law_plan_words (defScope s__law_plan_words) := ⟨rfl, rfl, rfl, by decide +kernel, rfl, by decide +kernel, by decide +kernel⟩
abbrev dTwo : List (Key × V) := [(.inr "split", .str "*"), (.inr "parts", .str ".")]
abbrev dLed : List (Key × V) := [(.inr "powers", .str "^"), (.inr "stretch", .str "~")]
theorem dget_two {H : Hp} {d : Addr} {x : Str} (hx : x = "split" ∨ x = "parts") (h : H d = some (.dK dTwo)) : DGet H d (.str x) (some (.str (tS [sgn x]))) := by
  rcases hx with rfl | rfl
  · rw [show tS [sgn "split"] = ("*" : Str) from by decide +kernel]; exact DGet.k (k := .inr "split") h
  · rw [show tS [sgn "parts"] = ("." : Str) from by decide +kernel]; exact DGet.k (k := .inr "parts") h
theorem dget_led {H : Hp} {d : Addr} {x : Str} (hx : x = "powers" ∨ x = "stretch") (h : H d = some (.dK dLed)) : DGet H d (.str x) (some (.str (tS [sgn x]))) := by
  rcases hx with rfl | rfl
  · rw [show tS [sgn "powers"] = ("^" : Str) from by decide +kernel]; exact DGet.k (k := .inr "powers") h
  · rw [show tS [sgn "stretch"] = ("~" : Str) from by decide +kernel]; exact DGet.k (k := .inr "stretch") h
theorem wd0 {x : Str} (h : x = "plain" ∨ x = "short") : x.length ≤ 60000 ∧ atI x.cps.toList 0 = some (sgn x) := by
  rcases h with rfl | rfl <;> exact ⟨by decide +kernel, by decide +kernel⟩
section
variable {P : Program} {w : World} {K : PySem.W.Frag} {mg : Str → Option Value} {base : Heap}
theorem wds_step {f : Addr} {fd : FuncData} {n : Nat} {spI : Sp} (D__law_plan_words : Df K mg "_law_plan_words" s__law_plan_words P__law_plan_words f fd) (T : Blt mg) (n12 : n ≤ 12)
    (G__law_plan_words : FnOk P w K mg base CX0 (n + 1) f fd P__law_plan_words spI) (hG : ∀ m, n = m + 1 → spI = spPtx K m) : FnOk P w K mg base CX0 (n + 2) f fd P__law_plan_words (spPtx K n) := by
  have nd := sc__law_plan_words.nd
  refine D__law_plan_words.F.ok sc__law_plan_words (fun vs H Q E h => ?_) (fun cdv A outer s H vs Q E hr h => ?_)
  · obtain ⟨v, p, rfl, _⟩ := h
    rfl
  · obtain ⟨v, p, rfl, hp, hn, hd, q⟩ := h
    refine ⟨_, (pss_cons (ps_if (pt_cmpR (r := rIn K false) op_in_seq (pe_ix (r := rIxT K) ix_tup (pv 0) (pe_int) (fun _ _ => rfl)) (pe_tup (pa_cons (pe_str) (pa_cons (pe_str) pa_nil))) (by rfl)) (pss_one (ps_ret (pe_op op_add_str (pe_ix ix_str (pe_ix (r := rIxT K) ix_tup (pv 0) (pe_int) (fun _ _ => rfl)) (pe_int) (fun _ _ => rfl)) (pe_callTy call_str_int (by rfl) T.b_str (by decide +kernel) (pa_cons (pe_ix (r := rIxT K) ix_tup (pv 0) (pe_int) (fun _ _ => rfl)) pa_nil))))) pss_nil)
      (pss_cons (ps_if (pt_cmpR (r := rIn K false) op_in_seq (pe_ix (r := rIxT K) ix_tup (pv 0) (pe_int) (fun _ _ => rfl)) (pe_tup (pa_cons (pe_str) (pa_cons (pe_str) pa_nil))) (by rfl)) (pss_cons (ps_set (i := 1) nd rfl (Or.inl rfl) (pe_dget (du hr) (pe_disp (pps_cons (pe_str) (pe_str) (pps_cons (pe_str) (pe_str) pps_nil)) (by rfl) (by rfl) (by simp) (by decide)) (pe_ix (r := rIxT K) ix_tup (pv 0) (pe_int) (fun _ _ => rfl)) (fun _ _ => rfl)))
      (pss_one (ps_ret (pe_op op_add_str (pe_op op_add_str (pe_op op_add_str (pe_op op_add_str (pe_str) (pe_call G__law_plan_words (hr.mono (by omega)) (by rfl) D__law_plan_words.g D__law_plan_words.F.kp D__law_plan_words.b .nil pass0 (pa_cons (pe_ix (r := rIxT K) ix_tup (pv 0) (pe_int) (fun _ _ => rfl)) pa_nil))) (pv 1)) (pe_call G__law_plan_words (hr.mono (by omega)) (by rfl) D__law_plan_words.g D__law_plan_words.F.kp D__law_plan_words.b .nil pass0 (pa_cons (pe_ix (r := rIxT K) ix_tup (pv 0) (pe_int) (fun _ _ => rfl)) pa_nil))) (pe_str))))) pss_nil)
      (pss_one (ps_ret (pe_op op_add_str (pe_op op_add_str (pe_op op_add_str (pe_op op_add_str (pe_str) (pe_callTy call_str_int (by rfl) T.b_str (by decide +kernel) (pa_cons (pe_ix (r := rIxT K) ix_tup (pv 0) (pe_int) (fun _ _ => rfl)) pa_nil))) (pe_dget (du hr) (pe_disp (pps_cons (pe_str) (pe_str) (pps_cons (pe_str) (pe_str) pps_nil)) (by rfl) (by rfl) (by simp) (by decide)) (pe_ix (r := rIxT K) ix_tup (pv 0) (pe_int) (fun _ _ => rfl)) (fun _ _ => rfl))) (pe_call G__law_plan_words (hr.mono (by omega)) (by rfl) D__law_plan_words.g D__law_plan_words.F.kp D__law_plan_words.b .nil pass0 (pa_cons (pe_ix (r := rIxT K) ix_tup (pv 0) (pe_int) (fun _ _ => rfl)) pa_nil))) (pe_str)))))), ?_⟩
    have hb := txt_b hn (by omega)
    cases hp with
    | leaf hw hs =>
      rename_i a wd m
      have at0 : atI [V.str wd, V.int m] 0 = some (.str wd) := rfl
      have at1 : atI [V.str wd, V.int m] 1 = some (.int m) := rfl
      obtain ⟨m1, m2, _⟩ := hn
      obtain ⟨wl, wa⟩ := wd0 hw
      have hwl : wd.length ≤ sizeLine := szl wl
      have lg := log9 m1 m2
      have e1 : (⟨#[sgn wd]⟩ : Str) ++ Str.ofString (toString m) = tS (txt (.leaf wd m)) := by
        rw [num_T m1, show (⟨#[sgn wd]⟩ : Str) = tS [sgn wd] from rfl, tS_app]
        rfl
      have hl : (⟨#[sgn wd]⟩ : Str).length + (Str.ofString (toString m)).length ≤ sizeLine := by
        rw [num_T m1, show (⟨#[sgn wd]⟩ : Str) = tS [sgn wd] from rfl, tS_len, tS_len]
        have := num4 m1 m2
        exact szl (by show 1 + _ ≤ 60000; omega)
      walk_at "ev"
      intro t1 ht1
      generalize hG1 : upd _ t1 _ = H1
      obtain ⟨sm1, hq1⟩ := newO hG1 ht1
      have ht : SqL K H1 t1 [.str "plain", .str "short"] ∨ SqT K H1 t1 [.str "plain", .str "short"] := .inr (SqT.of hq1)
      have hs1 := same_t sm1 hs
      have ein : inV (.str wd) [.str "plain", .str "short"] = true := by rcases hw with rfl | rfl <;> decide
      walk_at "ev"
      refine iteTe ein ?_
      walk_at "ev"
      have z := q H1 sm1
      rw [← e1] at z
      exact z
    | two hw hs hx hy =>
      rename_i a wd x y p1 p2
      cases n with
      | zero =>
        have : 1 + max (pdep p1) (pdep p2) ≤ 0 := hd
        omega
      | succ n =>
      have hS := hG n rfl
      subst hS
      have hd' : 1 + max (pdep p1) (pdep p2) ≤ n + 1 := hd
      obtain ⟨n1, n2, _⟩ := hn
      have hdx : pdep p1 ≤ n := by omega
      have hdy : pdep p2 ≤ n := by omega
      have at0 : atI [V.str wd, x, y] 0 = some (.str wd) := rfl
      have at1 : atI [V.str wd, x, y] 1 = some x := rfl
      have at2 : atI [V.str wd, x, y] 2 = some y := rfl
      have bl : (txt (.two wd p1 p2)).length = (txt p1).length + (txt p2).length + 3 := by
        show (40 :: (txt p1 ++ sgn wd :: (txt p2 ++ [41]))).length = _
        simp only [List.length_cons, List.length_append, List.length_nil]
        omega
      have eA : Str.ofString "(" ++ tS (txt p1) = tS (40 :: txt p1) := by
        rw [show Str.ofString "(" = tS [40] from s_op, tS_app]
        rfl
      have eB : Str.ofString "(" ++ tS (txt p1) ++ tS [sgn wd] = tS (40 :: (txt p1 ++ [sgn wd])) := by
        rw [eA, tS_app]
        rfl
      have eC : Str.ofString "(" ++ tS (txt p1) ++ tS [sgn wd] ++ tS (txt p2) = tS (40 :: (txt p1 ++ [sgn wd] ++ txt p2)) := by
        rw [eB, tS_app]
        rfl
      have eD : Str.ofString "(" ++ tS (txt p1) ++ tS [sgn wd] ++ tS (txt p2) ++ Str.ofString ")" = tS (txt (.two wd p1 p2)) := by
        rw [eC, show Str.ofString ")" = tS [41] from s_cl, tS_app]
        show tS (40 :: (txt p1 ++ [sgn wd] ++ txt p2) ++ [41]) = tS (40 :: (txt p1 ++ sgn wd :: (txt p2 ++ [41])))
        simp only [List.append_assoc, List.cons_append, List.nil_append]
      have hA : (Str.ofString "(").length + (tS (txt p1)).length ≤ sizeLine := by rw [show Str.ofString "(" = tS [40] from s_op, tS_len, tS_len]; exact szl (by show 1 + _ ≤ 60000; omega)
      have hB : (Str.ofString "(" ++ tS (txt p1)).length + (tS [sgn wd]).length ≤ sizeLine := by rw [eA, tS_len, tS_len, List.length_cons]; exact szl (by show _ + 1 + 1 ≤ 60000; omega)
      have hC : (Str.ofString "(" ++ tS (txt p1) ++ tS [sgn wd]).length + (tS (txt p2)).length ≤ sizeLine := by rw [eB, tS_len, tS_len]; simp only [List.length_cons, List.length_append, List.length_nil]; exact szl (by omega)
      have hD : (Str.ofString "(" ++ tS (txt p1) ++ tS [sgn wd] ++ tS (txt p2)).length + (Str.ofString ")").length ≤ sizeLine := by rw [eC, show Str.ofString ")" = tS [41] from s_cl, tS_len, tS_len]; simp only [List.length_cons, List.length_append, List.length_nil]; exact szl (by omega)
      clear eA eB eC
      walk_at "ev"
      intro t1 ht1
      generalize hG1 : upd _ t1 _ = H1
      obtain ⟨sm1, hq1⟩ := newO hG1 ht1
      have ht : SqL K H1 t1 [.str "plain", .str "short"] ∨ SqT K H1 t1 [.str "plain", .str "short"] := .inr (SqT.of hq1)
      have hs1 := same_t sm1 hs
      have ein : inV (.str wd) [.str "plain", .str "short"] = false := by rcases hw with rfl | rfl <;> decide
      walk_at "ev"
      refine iteFe ein ?_
      walk_at "ev"
      intro t2 ht2
      generalize hG2 : upd _ t2 _ = H2
      obtain ⟨sm2, hq2⟩ := newO hG2 ht2
      have hu : SqL K H2 t2 [.str "split", .str "parts"] ∨ SqT K H2 t2 [.str "split", .str "parts"] := .inr (SqT.of hq2)
      have hs2 := same_t sm2 hs1
      have ein2 : inV (.str wd) [.str "split", .str "parts"] = true := by rcases hw with rfl | rfl <;> decide
      clear hG1 hG2 hs1 ht
      walk_at "ev"
      refine iteTe ein2 ?_
      walk_at "ev"
      intro d3 hd3
      generalize hG3 : upd _ d3 _ = H3
      obtain ⟨sm3, hq3⟩ := newO hG3 hd3
      clear hG3
      walk_at "ev"
      have em : mergeK [] dTwo = dTwo := rfl
      refine ⟨(show _ = List.map (fun kv : Key × V => (kV kv.1, kv.2)) dTwo from rfl), (by show 2 ≤ 15; decide), ?_⟩
      rw [em]
      generalize hG4 : upd _ d3 _ = H4
      have hq4 : H4 d3 = some (.dK dTwo) := by rw [← hG4]; exact upd_same
      have sm24 : Same H2 H4 := by rw [← hG4]; exact same_mut sm3 hd3
      have hs4 := same_t sm24 hs2
      have hdg := dget_two hw hq4
      have s04 := sm1.trans (sm2.trans sm24)
      have hx4 := hx.same s04
      clear hG4 hs2
      walk_at "ev"
      intro H5 sm5
      have hs5 := same_t sm5 hs4
      have hy5 := hy.same (s04.trans sm5)
      walk_at "ev"
      intro H6 sm6
      walk_at "ev"
      have z := q H6 (s04.trans (sm5.trans sm6))
      rw [← eD] at z
      exact z
    | led hw hs hx =>
      rename_i a wd m x p1
      cases n with
      | zero =>
        have : 1 + pdep p1 ≤ 0 := hd
        omega
      | succ n =>
      have hS := hG n rfl
      subst hS
      have hd' : 1 + pdep p1 ≤ n + 1 := hd
      obtain ⟨n1, m2, m1000, _⟩ := hn
      have m1 : 1 ≤ m := by omega
      have hdx : pdep p1 ≤ n := by omega
      have at0 : atI [V.str wd, V.int m, x] 0 = some (.str wd) := rfl
      have at1 : atI [V.str wd, V.int m, x] 1 = some (.int m) := rfl
      have at2 : atI [V.str wd, V.int m, x] 2 = some x := rfl
      have lg := log9 m1 m1000
      have bl : (txt (.led wd m p1)).length = (TL.numL m.toNat).length + (txt p1).length + 3 := by
        show (40 :: (TL.numL m.toNat ++ sgn wd :: (txt p1 ++ [41]))).length = _
        simp only [List.length_cons, List.length_append, List.length_nil]
        omega
      have eA : Str.ofString "(" ++ Str.ofString (toString m) = tS (40 :: TL.numL m.toNat) := by
        rw [num_T m1, show Str.ofString "(" = tS [40] from s_op, tS_app]
        rfl
      have eB : Str.ofString "(" ++ Str.ofString (toString m) ++ tS [sgn wd] = tS (40 :: (TL.numL m.toNat ++ [sgn wd])) := by
        rw [eA, tS_app]
        rfl
      have eC : Str.ofString "(" ++ Str.ofString (toString m) ++ tS [sgn wd] ++ tS (txt p1) = tS (40 :: (TL.numL m.toNat ++ [sgn wd] ++ txt p1)) := by
        rw [eB, tS_app]
        rfl
      have eD : Str.ofString "(" ++ Str.ofString (toString m) ++ tS [sgn wd] ++ tS (txt p1) ++ Str.ofString ")" = tS (txt (.led wd m p1)) := by
        rw [eC, show Str.ofString ")" = tS [41] from s_cl, tS_app]
        show tS (40 :: (TL.numL m.toNat ++ [sgn wd] ++ txt p1) ++ [41]) = tS (40 :: (TL.numL m.toNat ++ sgn wd :: (txt p1 ++ [41])))
        simp only [List.append_assoc, List.cons_append, List.nil_append]
      have hA : (Str.ofString "(").length + (Str.ofString (toString m)).length ≤ sizeLine := by rw [show Str.ofString "(" = tS [40] from s_op, num_T m1, tS_len, tS_len]; exact szl (by show 1 + _ ≤ 60000; omega)
      have hB : (Str.ofString "(" ++ Str.ofString (toString m)).length + (tS [sgn wd]).length ≤ sizeLine := by rw [eA, tS_len, tS_len, List.length_cons]; exact szl (by show _ + 1 + 1 ≤ 60000; omega)
      have hC : (Str.ofString "(" ++ Str.ofString (toString m) ++ tS [sgn wd]).length + (tS (txt p1)).length ≤ sizeLine := by rw [eB, tS_len, tS_len]; simp only [List.length_cons, List.length_append, List.length_nil]; exact szl (by omega)
      have hD : (Str.ofString "(" ++ Str.ofString (toString m) ++ tS [sgn wd] ++ tS (txt p1)).length + (Str.ofString ")").length ≤ sizeLine := by rw [eC, show Str.ofString ")" = tS [41] from s_cl, tS_len, tS_len]; simp only [List.length_cons, List.length_append, List.length_nil]; exact szl (by omega)
      clear eA eB eC
      walk_at "ev"
      intro t1 ht1
      generalize hG1 : upd _ t1 _ = H1
      obtain ⟨sm1, hq1⟩ := newO hG1 ht1
      have ht : SqL K H1 t1 [.str "plain", .str "short"] ∨ SqT K H1 t1 [.str "plain", .str "short"] := .inr (SqT.of hq1)
      have hs1 := same_t sm1 hs
      have ein : inV (.str wd) [.str "plain", .str "short"] = false := by rcases hw with rfl | rfl <;> decide
      walk_at "ev"
      refine iteFe ein ?_
      walk_at "ev"
      intro t2 ht2
      generalize hG2 : upd _ t2 _ = H2
      obtain ⟨sm2, hq2⟩ := newO hG2 ht2
      have hu : SqL K H2 t2 [.str "split", .str "parts"] ∨ SqT K H2 t2 [.str "split", .str "parts"] := .inr (SqT.of hq2)
      have hs2 := same_t sm2 hs1
      have ein2 : inV (.str wd) [.str "split", .str "parts"] = false := by rcases hw with rfl | rfl <;> decide
      clear hG1 hG2 hs1 ht
      walk_at "ev"
      refine iteFe ein2 ?_
      walk_at "ev"
      intro d3 hd3
      generalize hG3 : upd _ d3 _ = H3
      obtain ⟨sm3, hq3⟩ := newO hG3 hd3
      clear hG3
      walk_at "ev"
      have em : mergeK [] dLed = dLed := rfl
      refine ⟨(show _ = List.map (fun kv : Key × V => (kV kv.1, kv.2)) dLed from rfl), (by show 2 ≤ 15; decide), ?_⟩
      rw [em]
      generalize hG4 : upd _ d3 _ = H4
      have hq4 : H4 d3 = some (.dK dLed) := by rw [← hG4]; exact upd_same
      have sm24 : Same H2 H4 := by rw [← hG4]; exact same_mut sm3 hd3
      have hs4 := same_t sm24 hs2
      have hdg := dget_led hw hq4
      have s04 := sm1.trans (sm2.trans sm24)
      have hx4 := hx.same s04
      clear hG4 hs2
      walk_at "ev"
      intro H5 sm5
      walk_at "ev"
      have z := q H5 (s04.trans sm5)
      rw [← eD] at z
      exact z
theorem ok_wds {f : Addr} {fd : FuncData} (D__law_plan_words : Df K mg "_law_plan_words" s__law_plan_words P__law_plan_words f fd) (T : Blt mg) : ∀ n : Nat, n ≤ 12 → FnOk P w K mg base CX0 (n + 2) f fd P__law_plan_words (spPtx K n)
  | 0, h => wds_step (spI := fun _ _ _ _ => False) D__law_plan_words T h ⟨fun _ _ _ _ h => h.elim, fun _ _ _ _ _ _ _ _ _ _ _ _ _ h => h.elim⟩ (fun m h => by omega)
  | n + 1, h => wds_step D__law_plan_words T h (ok_wds D__law_plan_words T n (by omega)) (fun m h => by cases h; rfl)
end
abbrev s_law : Stmt := top 34
abbrev N_law : List Str := ["_law_script", "_law_met", "_law_k", "_law_box_here", "_law_turn", "_law_one", "_law_text", "_law_known", "_law_texts"]
abbrev P_law : List Str := ["_law_script"]
theorem sc_law : FnScope N_law P_law (defScope s_law) := ⟨rfl, rfl, rfl, by decide +kernel, rfl, by decide +kernel, by decide +kernel⟩
def spLaw (K : PySem.W.Frag) : Sp := fun vs H Q _ => ∃ (a : Addr) (ns : List Int), vs = [.ref a] ∧ SqL K H a (ns.map V.int) ∧ ns.length ≤ 63 ∧ ∀ H', Q (.bl true) H'
/-! ### what was met: a dict of texts -/
def Met (K : PySem.W.Frag) (H : Hp) (kvs : List (Key × V)) : Prop := ∀ e ∈ kvs, ∃ q, e.1 = .inr (tS (116 :: txt q)) ∧ PlAt K H e.2 q ∧ PlN q ∧ pdep q ≤ 4
theorem sqt_mutD {K : PySem.W.Frag} {H : Hp} {a D : Addr} {xs : List V} {kvs : List (Key × V)} {o : HO} (h : SqT K H a xs) (e : H D = some (.dK kvs)) : SqT K (upd H D o) a xs := by
  rcases h with (h | ⟨u, h⟩) | h
  · exact .inl (.inl (by rw [upd_ne (fun z => by rw [z, e] at h; cases h)]; exact h))
  · exact .inl (.inr ⟨u, by rw [upd_ne (fun z => by rw [z, e] at h; cases h)]; exact h⟩)
  · exact .inr h
theorem PlAt.mutD {K : PySem.W.Frag} {H : Hp} {v : V} {pl : Pl} {D : Addr} {kvs : List (Key × V)} {o : HO} (h : PlAt K H v pl) (e : H D = some (.dK kvs)) : PlAt K (upd H D o) v pl := by
  induction h with
  | leaf a b => exact .leaf a (sqt_mutD b e)
  | two a b c d i1 i2 => exact .two a (sqt_mutD b e) i1 i2
  | led a b c i1 => exact .led a (sqt_mutD b e) i1
theorem sqt_keep {K : PySem.W.Frag} {H H' : Hp} {a b : Addr} {c : Int} {xs : List V} (h : SqT K H a xs) (k : Keep b H H') (hb : BoxAt H b c) : SqT K H' a xs := by
  obtain ⟨x, y, z, e1, e2⟩ := hb
  rcases h with (h | ⟨u, h⟩) | h
  · exact .inl (.inl (k _ _ (fun q => by rw [q, e1] at h; cases h) h))
  · exact .inl (.inr ⟨u, k _ _ (fun q => by rw [q, e1] at h; cases h) h⟩)
  · exact .inr h
theorem PlAt.keepB {K : PySem.W.Frag} {H H' : Hp} {v : V} {pl : Pl} {b : Addr} {c : Int} (h : PlAt K H v pl) (k : Keep b H H') (hb : BoxAt H b c) : PlAt K H' v pl := by
  induction h with
  | leaf a d => exact .leaf a (sqt_keep d k hb)
  | two a d _ _ i1 i2 => exact .two a (sqt_keep d k hb) i1 i2
  | led a d _ i1 => exact .led a (sqt_keep d k hb) i1
theorem met_nil {K : PySem.W.Frag} {H : Hp} : Met K H [] := fun e he => nomatch he
theorem Met.same {K : PySem.W.Frag} {H H' : Hp} {kvs : List (Key × V)} (h : Met K H kvs) (e : Same H H') : Met K H' kvs := fun x hx => by
  obtain ⟨q, h1, h2, h3⟩ := h x hx
  exact ⟨q, h1, h2.same e, h3⟩
theorem Met.keepB {K : PySem.W.Frag} {H H' : Hp} {kvs : List (Key × V)} {b : Addr} {c : Int} (h : Met K H kvs) (k : Keep b H H') (hb : BoxAt H b c) : Met K H' kvs := fun x hx => by
  obtain ⟨q, h1, h2, h3⟩ := h x hx
  exact ⟨q, h1, h2.keepB k hb, h3⟩
theorem Met.put {K : PySem.W.Frag} {H : Hp} {kvs : List (Key × V)} {D : Addr} {v : V} {p : Pl} (h : Met K H kvs) (e : H D = some (.dK kvs)) (hv : PlAt K H v p) (hn : PlN p) (hd : pdep p ≤ 4) (hf : valV kvs (.inr (tS (116 :: txt p))) = none) :
    Met K (upd H D (.dK (putK kvs (.inr (tS (116 :: txt p))) v))) (putK kvs (.inr (tS (116 :: txt p))) v) ∧ (putK kvs (.inr (tS (116 :: txt p))) v).length ≤ kvs.length + 1 := by
  have hany : (kvs.any fun kv => decide (kv.1 = Sum.inr (tS (116 :: txt p)))) = false := by
    cases ha : (kvs.any fun kv => decide (kv.1 = Sum.inr (tS (116 :: txt p)))) with
    | false => rfl
    | true =>
      obtain ⟨x, hx, hk⟩ := List.any_eq_true.mp ha
      unfold valV at hf
      rw [Option.map_eq_none_iff] at hf
      exact absurd hk (List.find?_eq_none.mp hf x hx)
  have ep : putK kvs (.inr (tS (116 :: txt p))) v = kvs ++ [(.inr (tS (116 :: txt p)), v)] := by
    unfold putK
    rw [if_neg (by rw [hany]; exact Bool.false_ne_true)]
  rw [ep]
  refine ⟨fun x hx => ?_, by rw [List.length_append]; exact Nat.le_refl _⟩
  rcases List.mem_append.mp hx with hx | hx
  · obtain ⟨q, h1, h2, h3⟩ := h x hx
    exact ⟨q, h1, h2.mutD e, h3⟩
  · obtain rfl : x = _ := by simpa using hx
    exact ⟨p, rfl, hv.mutD e, hn, hd⟩
theorem Met.get {K : PySem.W.Frag} {H : Hp} {kvs : List (Key × V)} {v u : V} {p : Pl} (h : Met K H kvs) (hu : PlAt K H u p) (hn : PlN p) (hv : valV kvs (.inr (tS (116 :: txt p))) = some v) : PlAt K H v p := by
  unfold valV at hv
  obtain ⟨x, hx, rfl⟩ := Option.map_eq_some_iff.mp hv
  have hm := List.mem_of_find?_eq_some hx
  have hk0 := List.find?_some hx
  have hk := of_decide_eq_true hk0
  obtain ⟨q, h1, h2, h3, _⟩ := h x hm
  rw [h1] at hk
  have e := (List.cons.inj (tS_inj (Sum.inr.inj hk))).2
  rw [txt_inj h2.wds hu.wds h3 hn e] at h2
  exact h2
theorem t_pre : ("t" : Str) = tS [116] := by decide +kernel
theorem tks_le : ∀ d : Nat, d ≤ 4 → tks d ≤ 62
  | 0, _ => by decide
  | 1, _ => by decide
  | 2, _ => by decide
  | 3, _ => by decide
  | 4, _ => by decide
  | d + 5, h => by omega
theorem fit_2p {p : Pl} (h : pdep p ≤ 4) : Fit 6 (.list [plD p, plD p]) := by
  refine ⟨by show 2 ≤ 4000; decide, fun e he => ?_⟩
  simp only [List.mem_cons, List.not_mem_nil, or_false] at he
  rcases he with h' | h' <;> rw [h'] <;> exact fit_pl (n := 5) (by omega)
theorem fit_ps {ps : List Pl} (h : ∀ p ∈ ps, pdep p ≤ 4) (hl : ps.length ≤ 4000) : Fit 6 (.list (ps.map plD)) := by
  refine ⟨by rw [List.length_map]; exact hl, fun e he => ?_⟩
  obtain ⟨p, hp, rfl⟩ := List.mem_map.mp he
  exact fit_pl (n := 5) (by have := h p hp; omega)
theorem dp_pls {K : PySem.W.Frag} {H : Hp} : ∀ {vs : List V} {ps : List Pl}, Paired (PlAt K H) vs ps → DpAll K H vs (ps.map plD)
  | _, _, .nil => .nil
  | _, _, .cons a b => .cons (dp_pl a) (dp_pls b)
/-! the six told plans -/
abbrev kn6 : List Pl := [.leaf "plain" 5, .leaf "short" 4, .two "split" (.leaf "short" 2) (.leaf "plain" 3), .two "parts" (.leaf "short" 3) (.leaf "short" 4), .led "powers" 5 (.leaf "short" 4), .led "stretch" 5 (.leaf "plain" 9)]
abbrev tx6 : List Str := ["p5", "s4", "(s2*p3)", "(s3.s4)", "(5^s4)", "(5~p9)"]
theorem kn6_txt : kn6.map (fun p => tS (txt p)) = tx6 := by decide +kernel
theorem paired_snoc {α β : Type} {R : α → β → Prop} : ∀ {xs : List α} {ys : List β} {x : α} {y : β}, Paired R xs ys → R x y → Paired R (xs ++ [x]) (ys ++ [y])
  | _, _, _, _, .nil, h => .cons h .nil
  | _, _, _, _, .cons a b, h => .cons a (paired_snoc b h)
theorem dp_tx6 {K : PySem.W.Frag} {H : Hp} : DpAll K H (tx6.map V.str) (tx6.map PyData.str) := .cons (.str _) (.cons (.str _) (.cons (.str _) (.cons (.str _) (.cons (.str _) (.cons (.str _) .nil)))))
theorem kn6_ok : ∀ p ∈ kn6, Wds p ∧ PlN p ∧ pdep p ≤ 4 := by
  have f5 : Fac 5 [5] := Fac.self (by decide) (fun e e2 e5 hd => by
    have : e = 2 ∨ e = 3 ∨ e = 4 := by omega
    rcases this with rfl | rfl | rfl <;> omega)
  intro p hp
  simp only [List.mem_cons, List.not_mem_nil, or_false] at hp
  rcases hp with rfl | rfl | rfl | rfl | rfl | rfl
  · exact ⟨.inl rfl, ⟨by decide, by decide, fun h => absurd h (by decide)⟩, by decide⟩
  · exact ⟨.inr rfl, ⟨by decide, by decide, fun _ => by decide⟩, by decide⟩
  · exact ⟨⟨.inl rfl, .inr rfl, .inl rfl⟩, ⟨⟨by decide, by decide, fun _ => by decide⟩, ⟨by decide, by decide, fun h => absurd h (by decide)⟩, by decide, by decide, by decide, fun h => absurd h (by decide)⟩, by decide⟩
  · exact ⟨⟨.inr rfl, .inr rfl, .inr rfl⟩, ⟨⟨by decide, by decide, fun _ => by decide⟩, ⟨by decide, by decide, fun _ => by decide⟩, by decide, by decide, by decide, fun _ => by decide⟩, by decide⟩
  · exact ⟨⟨.inl rfl, .inr rfl⟩, ⟨⟨by decide, by decide, fun _ => by decide⟩, by decide, by decide, fun _ => ⟨by decide, f5, by decide⟩, fun h => absurd h (by decide)⟩, by decide⟩
  · exact ⟨⟨.inr rfl, .inl rfl⟩, ⟨⟨by decide, by decide, fun h => absurd h (by decide)⟩, by decide, by decide, fun h => absurd h (by decide), fun _ => by decide⟩, by decide⟩
def spAnyU (K : PySem.W.Frag) : Sp := fun vs H Q E => ∃ d : Nat, d ≤ 4 ∧ spAny K d vs H Q E
structure G24 (K : PySem.W.Frag) (w : World) (mg : Str → Option Value) (aS aT CT CB fI : Addr) (fdI : FuncData) (tk : Tok) : Prop where
  S : Sg K w mg aS
  fg : mg "FIGURES" = some (.str "0123456789" tk)
  F : Fun K "__init__" "TurnError.__init__" s_init fI fdI
  b : Binds K fdI N_init []
  ty : PySem.W.typeIn K (.ref fI) = some (.type "function")
  R : Ref K CT CB fI
  mB : mg "BadText" = some (.ref CB)
  mS : mg "SHORTS" = some (.ref aT)
  qS : ∀ H : Hp, SqT K H aT (([1, 2, 3, 4] : List Int).map V.int)
structure Fns (P : Program) (w : World) (K : PySem.W.Frag) (mg : Str → Option Value) (base : Heap) : Prop where
  r_is_whole : ∃ f fd, Df K mg "is_whole" s_is_whole P_is_whole f fd
  r_is_prime : ∃ f fd, Df K mg "is_prime" s_is_prime P_is_prime f fd
  r_factors : ∃ f fd, Df K mg "factors" s_factors P_factors f fd
  r_are_coprime : ∃ f fd, Df K mg "are_coprime" s_are_coprime P_are_coprime f fd
  r_bare_length : ∃ f fd, Df K mg "bare_length" s_bare_length P_bare_length f fd
  r_pair_length : ∃ f fd, Df K mg "pair_length" s_pair_length P_pair_length f fd
  r_led_length : ∃ f fd, Df K mg "led_length" s_led_length P_led_length f fd
  r_length_if_plan : ∃ f fd, Df K mg "length_if_plan" s_length_if_plan P_length_if_plan f fd
  r_is_plan : ∃ f fd, Df K mg "is_plan" s_is_plan P_is_plan f fd
  r_plan_text : ∃ f fd, Df K mg "plan_text" s_plan_text P_plan_text f fd
  r_word_of : ∃ f fd, Df K mg "word_of" s_word_of P_word_of f fd
  r_pieces_of : ∃ f fd, Df K mg "pieces_of" s_pieces_of P_pieces_of f fd
  r_number_in : ∃ f fd, Df K mg "number_in" s_number_in P_number_in f fd
  r_part_in : ∃ f fd, Df K mg "part_in" s_part_in P_part_in f fd
  r_bracket_plan : ∃ f fd, Df K mg "bracket_plan" s_bracket_plan P_bracket_plan f fd
  r_plan_in : ∃ f fd, Df K mg "plan_in" s_plan_in P_plan_in f fd
  r__law_box : ∃ f fd, Df K mg "_law_box" s__law_box P__law_box f fd
  r__law_take : ∃ f fd, Df K mg "_law_take" s__law_take P__law_take f fd
  r__law_pick : ∃ f fd, Df K mg "_law_pick" s__law_pick P__law_pick f fd
  r__law_same : ∃ f fd, Df K mg "_law_same" s__law_same P__law_same f fd
  r__law_shares : ∃ f fd, Df K mg "_law_shares" s__law_shares P__law_shares f fd
  r__law_is_plain_prime : ∃ f fd, Df K mg "_law_is_plain_prime" s__law_is_plain_prime P__law_is_plain_prime f fd
  r__law_plan_words : ∃ f fd, Df K mg "_law_plan_words" s__law_plan_words P__law_plan_words f fd
  r__law_any_plan : ∃ f fd, Df K mg "_law_any_plan" s__law_any_plan P__law_any_plan f fd
section
variable {P : Program} {w : World} {K : PySem.W.Frag} {mg : Str → Option Value} {base : Heap}
theorem ok_law {f aS aT CT CB fI : Addr} {fd fdI : FuncData} {tk : Tok} (F : Fun K "law" "law" s_law f fd) (T : Blt mg) (U : Fns P w K mg base) (X : G24 K w mg aS aT CT CB fI fdI tk) : FnOk P w K mg base CX0 22 f fd P_law (spLaw K) := by
  obtain ⟨⟨f_is_whole, d_is_whole, D_is_whole⟩, ⟨f_is_prime, d_is_prime, D_is_prime⟩, ⟨f_factors, d_factors, D_factors⟩, ⟨f_are_coprime, d_are_coprime, D_are_coprime⟩, ⟨f_bare_length, d_bare_length, D_bare_length⟩, ⟨f_pair_length, d_pair_length, D_pair_length⟩, ⟨f_led_length, d_led_length, D_led_length⟩, ⟨f_length_if_plan, d_length_if_plan, D_length_if_plan⟩, ⟨f_is_plan, d_is_plan, D_is_plan⟩, ⟨f_plan_text, d_plan_text, D_plan_text⟩, ⟨f_word_of, d_word_of, D_word_of⟩, ⟨f_pieces_of, d_pieces_of, D_pieces_of⟩, ⟨f_number_in, d_number_in, D_number_in⟩, ⟨f_part_in, d_part_in, D_part_in⟩, ⟨f_bracket_plan, d_bracket_plan, D_bracket_plan⟩, ⟨f_plan_in, d_plan_in, D_plan_in⟩, ⟨f__law_box, d__law_box, D__law_box⟩, ⟨f__law_take, d__law_take, D__law_take⟩, ⟨f__law_pick, d__law_pick, D__law_pick⟩, ⟨f__law_same, d__law_same, D__law_same⟩, ⟨f__law_shares, d__law_shares, D__law_shares⟩, ⟨f__law_is_plain_prime, d__law_is_plain_prime, D__law_is_plain_prime⟩, ⟨f__law_plan_words, d__law_plan_words, D__law_plan_words⟩, ⟨f__law_any_plan, d__law_any_plan, D__law_any_plan⟩⟩ := U
  have S := X.S
  have G__law_box : FnOk P w K mg base CX0 1 f__law_box d__law_box P__law_box (spBox K) := ok_box D__law_box.F T
  have G__law_take : FnOk P w K mg base CX0 1 f__law_take d__law_take P__law_take spTake := ok_take D__law_take.F
  have G__law_same : FnOk P w K mg base CX0 7 f__law_same d__law_same P__law_same (spSame K 6) := ok_same D__law_same T 6
  have G0 : ∀ d : Nat, FnOk P w K mg base CX0 (d + 3) f__law_any_plan d__law_any_plan P__law_any_plan (spAny K d) := ok_any D__law_any_plan T D__law_take D__law_pick D__law_shares D__law_is_plain_prime
  have G__law_any_plan : FnOk P w K mg base CX0 7 f__law_any_plan d__law_any_plan P__law_any_plan (spAnyU K) := ⟨fun vs H Q E ⟨d, hd, h⟩ => (G0 d).len vs H Q E h, fun A outer s H args us vs Q E hr he hb hv ⟨d, hd, h⟩ => (G0 d).run A outer s H args us vs Q E (hr.mono (by omega)) he hb hv h⟩
  have G__law_plan_words : FnOk P w K mg base CX0 14 f__law_plan_words d__law_plan_words P__law_plan_words (spPtx K 12) := ok_wds D__law_plan_words T 12 (Nat.le_refl _)
  have G_plan_text : FnOk P w K mg base CX0 14 f_plan_text d_plan_text P_plan_text (spPtx K 12) := ok_ptx D_plan_text T S 12 (Nat.le_refl _)
  have G_is_plan : FnOk P w K mg base CX0 17 f_is_plan d_is_plan P_is_plan (spIsp K 12) := ok_isp 12 D_is_plan.F D_length_if_plan T X.mS X.qS D_is_whole D_is_prime D_factors D_are_coprime D_bare_length D_pair_length D_led_length
  have G_plan_in : FnOk P w K mg base (L2.CX P w) 19 f_plan_in d_plan_in P_plan_in (spPin K 12) := ok_pin D_plan_in.F T S X.fg X.F X.b X.ty X.R X.mB D_pieces_of D_part_in D_bracket_plan D_is_plan D_number_in D_word_of G_is_plan rfl
  have nd := sc_law.nd
  refine F.ok sc_law (fun vs H Q E h => ?_) (fun cdv A outer s H vs Q E hr h => ?_)
  · obtain ⟨a, ns, rfl, _⟩ := h
    rfl
  · obtain ⟨a, ns, rfl, hS, hlen, q⟩ := h
    refine ⟨_, (pss_cons (ps_set (i := 1) nd rfl (Or.inl rfl) (pe_dnewK))
      (pss_cons (ps_for PassesOwn.never rfl (pi_range1 (by rfl) T.b_range (pa_cons (pe_op op_add (pe_int) (pe_callB (call_min2 rfl) (by rfl) T.b_min (by decide +kernel) (pa_cons (pe_int) (pa_cons (pe_callB (r := rLenQ K) call_len_seq (by rfl) T.b_len (by decide +kernel) (pa_cons (pv 0) pa_nil)) pa_nil)))) pa_nil)) (pg_name (i := 2) nd rfl (Or.inl rfl))
      (pss_cons (ps_set (i := 3) nd rfl (Or.inl rfl) (pe_call G__law_box (hr.mono (by omega)) (by rfl) D__law_box.g D__law_box.F.kp D__law_box.b .nil pass0 (pa_cons (pv 0) (pa_cons (pv 2) pa_nil))))
      (pss_one (ps_for PassesOwn.never rfl (pi_range1 (by rfl) T.b_range (pa_cons (pe_int) pa_nil)) (pg_name (i := 4) nd rfl (Or.inl rfl))
      (pss_cons (ps_set (i := 5) nd rfl (Or.inl rfl) (pe_call G__law_any_plan (hr.mono (by omega)) (by rfl) D__law_any_plan.g D__law_any_plan.F.kp D__law_any_plan.b .nil pass0 (pa_cons (pv 3) (pa_cons (pe_op op_add (pe_int) (pe_call G__law_take (hr.mono (by omega)) (by rfl) D__law_take.g D__law_take.F.kp D__law_take.b .nil pass0 (pa_cons (pv 3) (pa_cons (pe_int) pa_nil)))) (pa_cons (pe_ix (r := rIxL K) ix_list (pe_lst (pa_cons (pe_int) (pa_cons (pe_int) (pa_cons (pe_int) pa_nil)))) (pe_call G__law_take (hr.mono (by omega)) (by rfl) D__law_take.g D__law_take.F.kp D__law_take.b .nil pass0 (pa_cons (pv 3) (pa_cons (pe_int) pa_nil))) (fun _ _ => rfl)) pa_nil)))))
      (pss_cons (ps_set (i := 6) nd rfl (Or.inl rfl) (pe_call G__law_plan_words (hr.mono (by omega)) (by rfl) D__law_plan_words.g D__law_plan_words.F.kp D__law_plan_words.b .nil pass0 (pa_cons (pv 5) pa_nil)))
      (pss_cons (ps_if (PW.pt (pw_or (pt_cmpR op_ne (pe_call G_plan_text (hr.mono (by omega)) (by rfl) D_plan_text.g D_plan_text.F.kp D_plan_text.b .nil pass0 (pa_cons (pv 5) pa_nil)) (pv 6) (nomark _)) (pw_or1 (pt_not (pt_val (pe_call G__law_same (hr.mono (by omega)) (by rfl) D__law_same.g D__law_same.F.kp D__law_same.b .nil pass0 (pa_cons (pe_lst (pa_cons (pe_call G_plan_in (hr.mono (by omega)) (by rfl) D_plan_in.g D_plan_in.F.kp D_plan_in.b .nil passL (pa_cons (pv 6) pa_nil)) (pa_cons (pe_call G_plan_in (hr.mono (by omega)) (by rfl) D_plan_in.g D_plan_in.F.kp D_plan_in.b .nil passL (pa_cons (pv 6) pa_nil)) pa_nil))) (pa_cons (pe_lst (pa_cons (pv 5) (pa_cons (pv 5) pa_nil))) pa_nil)))))))) (pss_one (ps_ret (pe_bl))) pss_nil)
      (pss_one (ps_if (PW.pt (pw_or (pt_cmpR op_ne (pe_call G_plan_text (hr.mono (by omega)) (by rfl) D_plan_text.g D_plan_text.F.kp D_plan_text.b .nil pass0 (pa_cons (pe_call G_plan_in (hr.mono (by omega)) (by rfl) D_plan_in.g D_plan_in.F.kp D_plan_in.b .nil passL (pa_cons (pv 6) pa_nil)) pa_nil)) (pv 6) (nomark _)) (pw_or1 (pt_cmpR (r := rNeD K) (op_neD hr.units) (pe_dsetd (pv 1) (pe_op op_add_str (pe_str) (pv 6)) (pv 5) ⟨rfl, rfl, rfl, rfl⟩) (pv 5) (nomark _))))) (pss_one (ps_ret (pe_bl))) pss_nil)))))))))
      (pss_cons (ps_set (i := 7) nd rfl (Or.inl rfl) (pe_lst (pa_cons (pe_tup (pa_cons (pe_str) (pa_cons (pe_int) pa_nil))) (pa_cons (pe_tup (pa_cons (pe_str) (pa_cons (pe_int) pa_nil))) (pa_cons (pe_tup (pa_cons (pe_str) (pa_cons (pe_tup (pa_cons (pe_str) (pa_cons (pe_int) pa_nil))) (pa_cons (pe_tup (pa_cons (pe_str) (pa_cons (pe_int) pa_nil))) pa_nil)))) (pa_cons (pe_tup (pa_cons (pe_str) (pa_cons (pe_tup (pa_cons (pe_str) (pa_cons (pe_int) pa_nil))) (pa_cons (pe_tup (pa_cons (pe_str) (pa_cons (pe_int) pa_nil))) pa_nil)))) pa_nil))))))
      (pss_cons (ps_set (i := 7) nd rfl (Or.inl rfl) (pe_op op_cat (pv 7) (pe_lst (pa_cons (pe_tup (pa_cons (pe_str) (pa_cons (pe_int) (pa_cons (pe_tup (pa_cons (pe_str) (pa_cons (pe_int) pa_nil))) pa_nil)))) (pa_cons (pe_tup (pa_cons (pe_str) (pa_cons (pe_int) (pa_cons (pe_tup (pa_cons (pe_str) (pa_cons (pe_int) pa_nil))) pa_nil)))) pa_nil)))))
      (pss_cons (ps_set (i := 8) nd rfl (Or.inl rfl) (pe_lst (pa_cons (pe_str) (pa_cons (pe_str) (pa_cons (pe_str) (pa_cons (pe_str) (pa_cons (pe_str) (pa_cons (pe_str) pa_nil))))))))
      (pss_one (ps_ret (pe_and (pe_cmpR (r := rEqD K) (op_eqD hr.units) (pe_lc (own := [("_law_one", 5)]) (g := gName 5) (by rfl) nd (pi_list (pv 7)) (blkOk_by (own := [("_law_one", 5)]) (N := N_law) (sc := defScope s_law) (by decide +kernel)) (fun _ _ _ _ _ => (pg_name (i := 5) nd rfl (Or.inl rfl))) (fun _ _ _ _ _ => pts_nil) (fun _ _ _ _ _ => (pe_call G_plan_text (hr.mono (by omega)) (by rfl) D_plan_text.g D_plan_text.F.kp D_plan_text.b .nil pass0 (pa_cons (pv 5) pa_nil)))) (pv 8) (nomark _)) (pe_one (pe_call G__law_same (hr.mono (by omega)) (by rfl) D__law_same.g D__law_same.F.kp D__law_same.b .nil pass0 (pa_cons (pe_lc (own := [("_law_text", 6)]) (g := gName 6) (by rfl) nd (pi_list (pv 8)) (blkOk_by (own := [("_law_text", 6)]) (N := N_law) (sc := defScope s_law) (by decide +kernel)) (fun _ _ _ _ _ => (pg_name (i := 6) nd rfl (Or.inl rfl))) (fun _ _ _ _ _ => pts_nil) (fun _ _ _ _ _ => (pe_call G_plan_in (hr.mono (by omega)) (by rfl) D_plan_in.g D_plan_in.F.kp D_plan_in.b .nil passL (pa_cons (pv 6) pa_nil)))) (pa_cons (pv 7) pa_nil)))))))))))), ?_⟩
    walk_at "ev"
    intro D hD
    generalize hG1 : upd _ D _ = H1
    obtain ⟨sm1, hq1⟩ := newO hG1 hD
    have hS1 := sm1.seq hS
    clear hG1
    walk_at "ev"
    refine for_range (lo := 0) (n := _) (fun i σ H' => Hold (∃ s1 s2 s3 s4 s5 s6 s7, σ = [some (.ref a), some (.ref D), s1, s2, s3, s4, s5, s6, s7] ∧ Same H H' ∧ ∃ kvs, H' D = some (.dK kvs) ∧ Met K H' kvs ∧ kvs.length ≤ 8 * i)) (.mk ⟨none, none, none, none, none, none, none, rfl, sm1, [], hq1, met_nil, Nat.le_refl _⟩) ?_ ?_
    · intro i σ H2 hi hP
      obtain ⟨s1, s2, s3, s4, s5, s6, s7, rfl, sm2, kvs, hk, hm, hkl⟩ := hP.un
      have hi6 : i < 6 := by
        refine Nat.lt_of_lt_of_le hi ?_
        split <;> omega
      have hS2 := sm2.seq hS
      walk_at "ev"
      intro b H3 hb0 sm3 hbx
      have hbf : H b = none := sm2.free hb0
      have hk3 := sm3 _ _ hk
      have nDb : D ≠ b := fun z => by rw [← z, hk] at hb0; cases hb0
      have hm3 := hm.same sm3
      walk_at "ev"
      refine for_range (lo := 0) (n := (8 : Int).toNat) (fun j σ H' => Hold (∃ s3 s4 s5 s6 s7, σ = [some (.ref a), some (.ref D), some (.int (0 + (i : Int))), some (.ref b), s3, s4, s5, s6, s7] ∧ Same H H' ∧ BoxAt H' b (100 * (j : Int)) ∧ ∃ kvs, H' D = some (.dK kvs) ∧ Met K H' kvs ∧ kvs.length ≤ 8 * i + j)) (.mk ⟨_, _, _, _, _, rfl, sm2.trans sm3, hbx.mono (by omega), kvs, hk3, hm3, by omega⟩) ?_ ?_
      · intro j σ H4 hj hP4
        obtain ⟨s3, s4, s5, s6, s7, rfl, sm4, hb4, kv4, hk4, hm4, hl4⟩ := hP4.un
        have hj8 : j < 8 := hj
        walk_at "ev"
        intro r H5 r0 r1 k5 hb5
        have hk5 := k5 _ _ nDb hk4
        have hm5 := hm4.keepB k5 hb4
        walk_at "ev"
        intro l6 hl6
        generalize hG6 : upd _ l6 _ = H6
        obtain ⟨sm6, hq6⟩ := newO hG6 hl6
        have hb6 := hb5.same sm6
        have nl6 := hb5.ne hl6
        have hk6 := sm6 _ _ hk5
        have hm6 := hm5.same sm6
        clear hG6
        walk_at "ev"
        intro r' H7 r0' r1' k7 hb7
        have hq7 := k7 _ _ nl6 hq6
        have hk7 := k7 _ _ nDb hk6
        have hm7 := hm6.keepB k7 hb6
        have hL7 : SqL K H7 l6 [.int 4, .int 2, .int 1] := SqL.of hq7
        have hdd : ∃ d : Nat, d ≤ 4 ∧ atI [V.int 4, V.int 2, V.int 1] r' = some (.int (d : Int)) := by
          have : r' = 0 ∨ r' = 1 ∨ r' = 2 := by omega
          rcases this with h | h | h <;> rw [h]
          · exact ⟨4, by decide, rfl⟩
          · exact ⟨2, by decide, rfl⟩
          · exact ⟨1, by decide, rfl⟩
        obtain ⟨d, hd4, hat⟩ := hdd
        have htk := tks_le d hd4
        walk_at "ev"
        intro v p H8 hpt hpl hpd hok k8 hb8
        have hk8 := k8 _ _ nDb hk7
        have hm8 := hm7.keepB k8 hb7
        have sm48 : Same H H8 := keep_same (keep_same ((keep_same sm4 hbf k5).trans sm6) hbf k7) hbf k8
        have hp8 : PlAt K H8 v p := hpt.at
        have hwd := hp8.wds
        have hpd4 : pdep p ≤ 4 := by omega
        have hpd12 : pdep p ≤ 12 := by omega
        have htl := txt_b hok hpd12
        clear hk4 hm4 hk5 hm5 hk6 hm6 hk7 hm7 hL7 hq7 hq6 hb4 hb5 hb6 hb7 hpt k5 k7 k8 hat
        walk_at "ev"
        intro H9 sm9
        have hp9 := hp8.same sm9
        walk_at "ev"
        intro H10 sm10
        have hne : decide (V.str (tS (txt p)) = V.str (tS (txt p))) = true := decide_eq_true rfl
        walk_at "ev"
        intro v1 H11 sm11 hv1
        walk_at "ev"
        intro v2 H12 sm12 hv2
        walk_at "ev"
        intro l13 hl13
        generalize hG13 : upd _ l13 _ = H13
        obtain ⟨sm13, hq13⟩ := newO hG13 hl13
        clear hG13
        walk_at "ev"
        intro l14 hl14
        generalize hG14 : upd _ l14 _ = H14
        obtain ⟨sm14, hq14⟩ := newO hG14 hl14
        clear hG14
        have s814 := sm9.trans (sm10.trans (sm11.trans (sm12.trans (sm13.trans sm14))))
        have hp14 := hp8.same s814
        have hv14 := hv1.same (sm12.trans (sm13.trans sm14))
        have hw14 := hv2.same (sm13.trans sm14)
        have hdx : Dp K H14 (.ref l13) (.list [plD p, plD p]) := .lst (SqL.of (sm14 _ _ hq13)) (.cons (dp_pl hv14) (.cons (dp_pl hw14) .nil))
        have hdy : Dp K H14 (.ref l14) (.list [plD p, plD p]) := .lst (SqL.of hq14) (.cons (dp_pl hp14) (.cons (dp_pl hp14) .nil))
        have hfit := fit_2p hpd4
        walk_at "ev"
        intro H15 sm15
        walk_at "ev"
        intro v3 H16 sm16 hv3
        walk_at "ev"
        intro H17 sm17
        have s817 := s814.trans (sm15.trans (sm16.trans sm17))
        have hk17 := s817 _ _ hk8
        have hm17 := hm8.same s817
        have hp17 := hp8.same s817
        have hb17 := hb8.same s817
        have s17 := sm48.trans s817
        have et : Str.ofString "t" ++ tS (txt p) = tS (116 :: txt p) := by
          rw [show Str.ofString "t" = tS [116] from t_pre, tS_app]
          rfl
        have htt : (Str.ofString "t").length + (tS (txt p)).length ≤ sizeLine := by rw [show Str.ofString "t" = tS [116] from t_pre, tS_len, tS_len]; exact szl (by show 1 + _ ≤ 60000; omega)
        have hsk : kv4.length < sizeLine := szm (by omega)
        have hisD : IsD H17 D := .inl ⟨_, .inl hk17⟩
        clear hdx hdy hfit hv14 hw14 hp14 hq13 hq14 hv1 hv2 hv3 sm9 sm10 sm11 sm12 sm13 sm14 sm15 sm16 sm17 hp9 s814 hl13 hl14
        walk_at "ev"
        have hshp := shp_pl hwd hpd12
        have hDf : H D = none := hD
        refine ⟨(show V.str (Str.ofString "t" ++ tS (txt p)) = kV (.inr (tS (116 :: txt p))) from by rw [et]; rfl), hsk, fun u hu => ?_, fun hu => ?_⟩
        · have hu17 := dp_pl (hm17.get hp17 hok hu)
          have hv17 := dp_pl hp17
          walk_at "ev"
          refine iteFe (by rw [eqv_pl hwd]; rfl) ?_
          walk_at "ev"
          exact .mk ⟨_, _, _, _, _, rfl, s17, hb17.mono (by omega), kv4, hk17, hm17, by omega⟩
        · obtain ⟨hmp, hmpl⟩ := hm17.put hk17 hp17 hok hpd4 hu
          have hp18 := dp_pl (hp17.mutD (o := .dK (putK kv4 (.inr (tS (116 :: txt p))) v)) hk17)
          walk_at "ev"
          refine iteFe (by rw [eqv_pl hwd]; rfl) ?_
          walk_at "ev"
          exact .mk ⟨_, _, _, _, _, rfl, same_mut s17 hDf, (hb17.upd nDb).mono (by omega), _, upd_same, hmp, by omega⟩
      · intro σ H4 hP4
        obtain ⟨s3, s4, s5, s6, s7, rfl, sm4, hb4, kv4, hk4, hm4, hl4⟩ := hP4.un
        exact .mk ⟨_, _, _, _, _, _, _, rfl, sm4, kv4, hk4, hm4, by have : (8 : Int).toNat = 8 := rfl; omega⟩
    · intro σ H2 hP
      obtain ⟨s1, s2, s3, s4, s5, s6, s7, rfl, sm2, kvs, hk, hm, hkl⟩ := hP.un
      clear hm hk hkl sm2 hS1 hS hq1 sm1 hP
      walk_at "ev"
      w_cond _1
      walk_at "ev"
      w_cond _2
      walk_at "ev"
      w_cond _3
      walk_at "ev"
      w_cond _4
      walk_at "ev"
      w_cond _5
      walk_at "ev"
      w_cond _6
      walk_at "ev"
      w_cond _7
      walk_at "ev"
      w_cond _8
      walk_at "ev"
      w_cond _9
      walk_at "ev"
      w_cond _10
      walk_at "ev"
      w_cond _11
      walk_at "ev"
      w_cond _12
      walk_at "ev"
      w_cond _13
      walk_at "ev"
      w_cond _14
      have q9 := (sm10.trans (sm11.trans (sm12.trans (sm13.trans sm14)))) _ _ hq9
      have hszc : [V.ref l1, V.ref l2, V.ref l5, V.ref l8].length + [V.ref l11, V.ref l13].length ≤ sizeLine := szl (by show 6 ≤ 60000; decide)
      walk_at "ev"
      w_cond _15
      walk_at "ev"
      w_cond _16
      have hL15 : SqL K H16 l15 [V.ref l1, V.ref l2, V.ref l5, V.ref l8, V.ref l11, V.ref l13] := SqL.of (sm16 _ _ hq15)
      have s8 := (sm9.trans (sm10.trans (sm11.trans (sm12.trans (sm13.trans (sm14.trans (sm15.trans sm16)))))))
      have s5 := sm6.trans (sm7.trans (sm8.trans s8))
      have s13 := sm14.trans (sm15.trans sm16)
      have s11 := sm12.trans (sm13.trans s13)
      have p1 : PlAt K H16 (.ref l1) (.leaf "plain" 5) := .leaf (.inl rfl) (SqT.of ((sm2.trans (sm3.trans (sm4.trans (sm5.trans s5)))) _ _ hq1))
      have p2 : PlAt K H16 (.ref l2) (.leaf "short" 4) := .leaf (.inr rfl) (SqT.of ((sm3.trans (sm4.trans (sm5.trans s5))) _ _ hq2))
      have p5 : PlAt K H16 (.ref l5) (.two "split" (.leaf "short" 2) (.leaf "plain" 3)) := .two (.inl rfl) (SqT.of (s5 _ _ hq5)) (.leaf (.inr rfl) (SqT.of ((sm4.trans (sm5.trans s5)) _ _ hq3))) (.leaf (.inl rfl) (SqT.of ((sm5.trans s5) _ _ hq4)))
      have p8 : PlAt K H16 (.ref l8) (.two "parts" (.leaf "short" 3) (.leaf "short" 4)) := .two (.inr rfl) (SqT.of (s8 _ _ hq8)) (.leaf (.inr rfl) (SqT.of ((sm7.trans (sm8.trans s8)) _ _ hq6))) (.leaf (.inr rfl) (SqT.of ((sm8.trans s8) _ _ hq7)))
      have p11 : PlAt K H16 (.ref l11) (.led "powers" 5 (.leaf "short" 4)) := .led (.inl rfl) (SqT.of (s11 _ _ hq11)) (.leaf (.inr rfl) (SqT.of ((sm11.trans s11) _ _ hq10)))
      have p13 : PlAt K H16 (.ref l13) (.led "stretch" 5 (.leaf "plain" 9)) := .led (.inr rfl) (SqT.of (s13 _ _ hq13)) (.leaf (.inl rfl) (SqT.of ((sm13.trans s13) _ _ hq12)))
      have hPP : Paired (PlAt K H16) [V.ref l1, V.ref l2, V.ref l5, V.ref l8, V.ref l11, V.ref l13] kn6 := .cons p1 (.cons p2 (.cons p5 (.cons p8 (.cons p11 (.cons p13 .nil)))))
      generalize hV : [V.ref l1, V.ref l2, V.ref l5, V.ref l8, V.ref l11, V.ref l13] = vs at *
      have hvl : vs.length = 6 := by rw [← hV]; rfl
      have h16 : H16 l16 = some (.lst (tx6.map V.str)) := hq16
      clear hq1 hq2 hq3 hq4 hq5 hq6 hq7 hq8 hq9 hq10 hq11 hq12 hq13 hq14 hq15 hq16 p1 p2 p5 p8 p11 p13 s8 s5 s13 s11 q9 hszc hl1 hl2 hl3 hl4 hl5 hl6 hl7 hl8 hl9 hl10 hl11 hl12 hl13 hl14 hl15 hl16 sm1 sm2 sm3 sm4 sm5 sm6 sm7 sm8 sm9 sm10 sm11 sm12 sm13 sm14 sm15 sm16
      walk_at "ev"
      refine ⟨⟨_, hL15⟩, ?_⟩
      intro D17 hD17
      refine lc_list (K := K) (a := l15) (xs := vs) (fun i H' => Hold (Same H16 H' ∧ H' D17 = some (.lst ((kn6.map fun p => V.str (tS (txt p))).take i)))) (.mk ⟨same_new hD17, upd_same⟩) ?_ ?_ ?_
      · intro i H' hi hP'
        obtain ⟨sm', hq'⟩ := hP'.un
        exact sm'.seq hL15
      · intro i x H' hx hP'
        obtain ⟨sm', hq'⟩ := hP'.un
        obtain ⟨p, hp, hpx⟩ := paired_get hPP hx
        obtain ⟨_, hok, hdp⟩ := kn6_ok p (List.mem_of_getElem? hp)
        have hp12 : pdep p ≤ 12 := by omega
        have hpx' := hpx.same sm'
        walk_at "ev"
        intro H2 sm2
        have hq2 := sm2 _ _ hq'
        have hsz : ((kn6.map fun p => V.str (tS (txt p))).take i).length < sizeLine := szm (by rw [List.length_take]; exact Nat.le_trans (Nat.min_le_right _ _) (by decide))
        walk_at "ev"
        refine .mk ⟨same_mut (sm'.trans sm2) hD17, ?_⟩
        rw [upd_same, List.take_succ, List.getElem?_map, hp]
        rfl
      · intro H' hP'
        obtain ⟨sm', hq'⟩ := hP'.un
        have e6 : (kn6.map fun p => V.str (tS (txt p))).take vs.length = tx6.map V.str := by
          rw [hvl, ← kn6_txt, List.map_map]
          rfl
        rw [e6] at hq'
        have q16 := sm' _ _ h16
        have hdA : Dp K H' (.ref D17) (.list (tx6.map PyData.str)) := .lst (SqL.of hq') dp_tx6
        have hdB : Dp K H' (.ref l16) (.list (tx6.map PyData.str)) := .lst (SqL.of q16) dp_tx6
        have hshT : SeqAt.shaped (.list (tx6.map PyData.str)) = true := by decide +kernel
        have hL16 : SqL K H' l16 (tx6.map V.str) := SqL.of q16
        have hPP1 := Paired.mapP hPP fun _ _ z => z.same sm'
        have hL151 := sm'.seq hL15
        clear hPP hL15
        walk_at "ev"
        refine ⟨⟨_, hL16⟩, ?_⟩
        clear hdA hdB hshT q16 hq' e6
        intro D18 hD18
        refine lc_list (K := K) (a := l16) (xs := tx6.map V.str) (fun i H2 => Hold (Same H' H2 ∧ ∃ us, H2 D18 = some (.lst us) ∧ Paired (PlAt K H2) us (kn6.take i) ∧ us.length = i)) (.mk ⟨same_new hD18, [], upd_same, .nil, rfl⟩) ?_ ?_ ?_
        · intro i H2 hi hP2
          obtain ⟨sm2, us, hu, hp, hl⟩ := hP2.un
          exact sm2.seq hL16
        · intro i x H2 hx hP2
          obtain ⟨sm2, us, hu, hp, hl⟩ := hP2.un
          have hil : i < (tx6.map V.str).length := (List.getElem?_eq_some_iff.mp hx).1
          have hi6 : i < 6 := hil
          obtain ⟨p, hp6⟩ : ∃ p, kn6[i]? = some p := ⟨_, List.getElem?_eq_getElem (show i < kn6.length from hi6)⟩
          obtain ⟨hwd, hok, hdp⟩ := kn6_ok p (List.mem_of_getElem? hp6)
          have hxt : x = .str (tS (txt p)) := by
            rw [← kn6_txt, List.map_map, List.getElem?_map, hp6] at hx
            exact (Option.some.inj hx).symm
          subst hxt
          have hp12 : pdep p ≤ 12 := by omega
          have husz : us.length < sizeLine := szm (by omega)
          walk_at "ev"
          intro v H3 sm3 hv
          have hu3 := sm3 _ _ hu
          walk_at "ev"
          refine .mk ⟨same_mut (sm2.trans sm3) hD18, _, upd_same, ?_, by rw [List.length_append, hl]; rfl⟩
          rw [List.take_succ, hp6]
          exact paired_snoc (Paired.mapP hp fun _ _ z => (z.same sm3).mutQ hu3) (hv.mutQ hu3)
        · intro H2 hP2
          obtain ⟨sm2, us, hu, hp, hl⟩ := hP2.un
          have hp6 : Paired (PlAt K H2) us kn6 := hp
          have hdA : Dp K H2 (.ref D18) (.list (kn6.map plD)) := .lst (SqL.of hu) (dp_pls hp6)
          have hdB : Dp K H2 (.ref l15) (.list (kn6.map plD)) := .lst (sm2.seq hL151) (dp_pls (Paired.mapP hPP1 fun _ _ z => z.same sm2))
          have hfit : Fit 6 (.list (kn6.map plD)) := fit_ps (fun p hp => (kn6_ok p hp).2.2) (by decide)
          walk_at "ev"
          intro H3 sm3
          walk_at "ev"
          exact q _
end
theorem all_mk {l : PySem.W.OpenLaw} {w : World} {K : PySem.W.Frag} {h : Heap} {mg : Str → Option Value} {fa : Addr} (X : K.In h) (G : h.Ns mainGlobals mg) (hfa : mg "law" = some (.ref fa))
    {od0 an0 : Option Addr} {sl0 : Array (Option Value)} {oc0 kV0 dc0 pm0 cd0 ct0 : Value} {f0 : Addr}
    {od1 an1 : Option Addr} {sl1 : Array (Option Value)} {oc1 kV1 dc1 pm1 cd1 ct1 : Value} {f1 : Addr}
    {od2 an2 : Option Addr} {sl2 : Array (Option Value)} {oc2 kV2 dc2 pm2 cd2 ct2 : Value} {f2 : Addr}
    {od3 an3 : Option Addr} {sl3 : Array (Option Value)} {oc3 kV3 dc3 pm3 cd3 ct3 : Value} {f3 : Addr}
    {od4 an4 : Option Addr} {sl4 : Array (Option Value)} {oc4 kV4 dc4 pm4 cd4 ct4 : Value} {f4 : Addr}
    {od5 an5 : Option Addr} {sl5 : Array (Option Value)} {oc5 kV5 dc5 pm5 cd5 ct5 : Value} {f5 : Addr}
    {od6 an6 : Option Addr} {sl6 : Array (Option Value)} {oc6 kV6 dc6 pm6 cd6 ct6 : Value} {f6 : Addr}
    {od7 an7 : Option Addr} {sl7 : Array (Option Value)} {oc7 kV7 dc7 pm7 cd7 ct7 : Value} {f7 : Addr}
    {od8 an8 : Option Addr} {sl8 : Array (Option Value)} {oc8 kV8 dc8 pm8 cd8 ct8 : Value} {f8 : Addr}
    {od9 an9 : Option Addr} {sl9 : Array (Option Value)} {oc9 kV9 dc9 pm9 cd9 ct9 : Value} {f9 : Addr}
    {od10 an10 : Option Addr} {sl10 : Array (Option Value)} {oc10 kV10 dc10 pm10 cd10 ct10 : Value} {f10 : Addr}
    {od11 an11 : Option Addr} {sl11 : Array (Option Value)} {oc11 kV11 dc11 pm11 cd11 ct11 : Value} {f11 : Addr}
    {od12 an12 : Option Addr} {sl12 : Array (Option Value)} {oc12 kV12 dc12 pm12 cd12 ct12 : Value} {f12 : Addr}
    {od13 an13 : Option Addr} {sl13 : Array (Option Value)} {oc13 kV13 dc13 pm13 cd13 ct13 : Value} {f13 : Addr}
    {od14 an14 : Option Addr} {sl14 : Array (Option Value)} {oc14 kV14 dc14 pm14 cd14 ct14 : Value} {f14 : Addr}
    {od15 an15 : Option Addr} {sl15 : Array (Option Value)} {oc15 kV15 dc15 pm15 cd15 ct15 : Value} {f15 : Addr}
    {od16 an16 : Option Addr} {sl16 : Array (Option Value)} {oc16 kV16 dc16 pm16 cd16 ct16 : Value} {f16 : Addr}
    {od17 an17 : Option Addr} {sl17 : Array (Option Value)} {oc17 kV17 dc17 pm17 cd17 ct17 : Value} {f17 : Addr}
    {od18 an18 : Option Addr} {sl18 : Array (Option Value)} {oc18 kV18 dc18 pm18 cd18 ct18 : Value} {f18 : Addr}
    {od19 an19 : Option Addr} {sl19 : Array (Option Value)} {oc19 kV19 dc19 pm19 cd19 ct19 : Value} {f19 : Addr}
    {od20 an20 : Option Addr} {sl20 : Array (Option Value)} {oc20 kV20 dc20 pm20 cd20 ct20 : Value} {f20 : Addr}
    {od21 an21 : Option Addr} {sl21 : Array (Option Value)} {oc21 kV21 dc21 pm21 cd21 ct21 : Value} {f21 : Addr}
    {od22 an22 : Option Addr} {sl22 : Array (Option Value)} {oc22 kV22 dc22 pm22 cd22 ct22 : Value} {f22 : Addr}
    {od23 an23 : Option Addr} {sl23 : Array (Option Value)} {oc23 kV23 dc23 pm23 cd23 ct23 : Value} {f23 : Addr}
    {od24 an24 : Option Addr} {sl24 : Array (Option Value)} {oc24 kV24 dc24 pm24 cd24 ct24 : Value} {f24 : Addr}
    {fI : Addr} {odI anI : Option Addr} {slI : Array (Option Value)} {ocI kVI dcI pmI cdI ctI : Value}
    {C_TurnError : Addr}
    {C_BadText : Addr}
    {nm_BadText q_BadText : Str} {N_BadText : Addr} {bs_BadText : List Value} {sn_BadText : List Str} {sb_BadText : List Value} {ab_BadText : Bool} {co_BadText : Option Bool} {dd_BadText : Option Addr} {m0_BadText m1_BadText m2_BadText m3_BadText m5_BadText : Option Value}
    {a_SHORTS : Addr} {dd_SHORTS : Option Addr} {n_SHORTS : Nat} {sl_SHORTS : Array (Option Value)} {t_SHORTS_0 : Tok} {t_SHORTS_1 : Tok} {t_SHORTS_2 : Tok} {t_SHORTS_3 : Tok}
    {t_FIGURES : Tok}
    {a_SIGNS : Addr} {es_SIGNS : Array DictEntry} {n_SIGNS : Nat}
    {tk_SIGNS_plain : Tok} {tk_SIGNS_short : Tok} {tk_SIGNS_split : Tok} {tk_SIGNS_parts : Tok} {tk_SIGNS_powers : Tok} {tk_SIGNS_stretch : Tok}
    (g_TurnError : PySem.W.nsIn K mainGlobals "TurnError" = some (some (.ref C_TurnError)))
    (g_BadText : PySem.W.nsIn K mainGlobals "BadText" = some (some (.ref C_BadText)))
    (on : PySem.W.specialIn K (.builtin "object.__class__") "__get__" = some (some (.builtin "getset_descriptor.__get__")))
    (ot : PySem.W.takesIn K (.builtin "object.__class__") = some true)
    (eT : PySem.W.subIn K (.ref C_TurnError) (.type "BaseException") = some true)
    (hT : PySem.W.hasDictIn K C_TurnError = true)
    (tT : PySem.W.typeIn K (.ref C_TurnError) = some (.type "type"))
    (xL_BadText : K.lookup C_BadText = some (excClassObj nm_BadText q_BadText C_BadText N_BadText bs_BadText [.ref C_TurnError, .type "ValueError", .type "Exception", .type "BaseException", .type "object"] true sn_BadText sb_BadText ab_BadText co_BadText dd_BadText m0_BadText m1_BadText m2_BadText m3_BadText m5_BadText "ValueError.__new__"))
    (sa_BadText : PySem.W.findIn K (.ref C_BadText) "__setattr__" = some (some (.builtin "object.__setattr__")))
    (ga_BadText : PySem.W.findIn K (.ref C_BadText) "__getattribute__" = some (some (.builtin "BaseException.__getattribute__")))
    (gg_BadText : PySem.W.findIn K (.ref C_BadText) "__getattr__" = some none)
    (nw_BadText : PySem.W.findIn K (.ref C_BadText) "what" = some none)
    (ii_BadText : PySem.W.findIn K (.ref C_BadText) "__init__" = some (some (.ref fI)))
    (oc_BadText : PySem.W.findIn K (.ref C_BadText) "__class__" = some (some (.builtin "object.__class__")))
    (kC_BadText : PySem.W.keepIn K (.ref C_BadText) = true)
    (eC_BadText : PySem.W.subIn K (.ref C_BadText) (.type "BaseException") = some true)
    (tC_BadText : PySem.W.typeIn K (.ref C_BadText) = some (.type "type"))
    (hC_BadText : PySem.W.hasDictIn K C_BadText = true)
    (mo_BadText : PySem.W.mroIn K C_BadText (.type "object") = some true)
    (su_BadText : PySem.W.subIn K (.ref C_BadText) (.ref C_TurnError) = some true)
    (kv_BadText : PySem.W.kitOne K (.ref C_BadText) (.type "ValueError") = some true)
    (kt_BadText : PySem.W.kitOne K (.ref C_BadText) (.ref C_TurnError) = some true)
    (lI : K.lookup fI = some ⟨ocI, odI, .func (PySem.W.fnOf "__init__" "TurnError.__init__" (defArgs s_init) (defBody s_init) (defScope s_init) .none kVI dcI pmI anI cdI ctI), slI⟩)
    (cI : PySem.W.codeIn K cdI "TurnError.__init__" = true)
    (kI : PySem.W.keepIn K (.ref fI) = true)
    (tI : PySem.W.typeIn K (.ref fI) = some (.type "function"))
    (g_SHORTS : PySem.W.nsIn K mainGlobals "SHORTS" = some (some (.ref a_SHORTS)))
    (l_SHORTS : K.lookup a_SHORTS = some ⟨.type "tuple", dd_SHORTS, .seq #[.int 1 t_SHORTS_0, .int 2 t_SHORTS_1, .int 3 t_SHORTS_2, .int 4 t_SHORTS_3] n_SHORTS, sl_SHORTS⟩)
    (g_FIGURES : PySem.W.nsIn K mainGlobals "FIGURES" = some (some (.str "0123456789" t_FIGURES)))
    (g_SIGNS : PySem.W.nsIn K mainGlobals "SIGNS" = some (some (.ref a_SIGNS)))
    (d_SIGNS : K.lookup a_SIGNS = some ⟨.type "dict", none, .dict es_SIGNS n_SIGNS, #[]⟩)
    (l_SIGNS : PySem.W.KeysLit w.params es_SIGNS.toList)
    (sy_SIGNS : (a_SIGNS == sysModules) = false)
    (pd_SIGNS : Paired (fun (e : DictEntry) (x : Str) => ∃ t, e.key = .str x t) es_SIGNS.toList ["plain", "short", "split", "parts", "powers", "stretch"])
    (v_SIGNS_plain : PySem.W.nsIn K a_SIGNS "plain" = some (some (.str "p" tk_SIGNS_plain)))
    (v_SIGNS_short : PySem.W.nsIn K a_SIGNS "short" = some (some (.str "s" tk_SIGNS_short)))
    (v_SIGNS_split : PySem.W.nsIn K a_SIGNS "split" = some (some (.str "*" tk_SIGNS_split)))
    (v_SIGNS_parts : PySem.W.nsIn K a_SIGNS "parts" = some (some (.str "." tk_SIGNS_parts)))
    (v_SIGNS_powers : PySem.W.nsIn K a_SIGNS "powers" = some (some (.str "^" tk_SIGNS_powers)))
    (v_SIGNS_stretch : PySem.W.nsIn K a_SIGNS "stretch" = some (some (.str "~" tk_SIGNS_stretch)))
    (a0 : PySem.W.nsIn K mainGlobals "is_whole" = some (some (.ref f0))) (l0 : K.lookup f0 = some ⟨oc0, od0, .func (PySem.W.fnOf "is_whole" "is_whole" (defArgs s_is_whole) (defBody s_is_whole) (defScope s_is_whole) .none kV0 dc0 pm0 an0 cd0 ct0), sl0⟩) (c0 : PySem.W.codeIn K cd0 "is_whole" = true) (k0 : PySem.W.keepIn K (.ref f0) = true)
    (a1 : PySem.W.nsIn K mainGlobals "is_prime" = some (some (.ref f1))) (l1 : K.lookup f1 = some ⟨oc1, od1, .func (PySem.W.fnOf "is_prime" "is_prime" (defArgs s_is_prime) (defBody s_is_prime) (defScope s_is_prime) .none kV1 dc1 pm1 an1 cd1 ct1), sl1⟩) (c1 : PySem.W.codeIn K cd1 "is_prime" = true) (k1 : PySem.W.keepIn K (.ref f1) = true)
    (a2 : PySem.W.nsIn K mainGlobals "factors" = some (some (.ref f2))) (l2 : K.lookup f2 = some ⟨oc2, od2, .func (PySem.W.fnOf "factors" "factors" (defArgs s_factors) (defBody s_factors) (defScope s_factors) .none kV2 dc2 pm2 an2 cd2 ct2), sl2⟩) (c2 : PySem.W.codeIn K cd2 "factors" = true) (k2 : PySem.W.keepIn K (.ref f2) = true)
    (a3 : PySem.W.nsIn K mainGlobals "are_coprime" = some (some (.ref f3))) (l3 : K.lookup f3 = some ⟨oc3, od3, .func (PySem.W.fnOf "are_coprime" "are_coprime" (defArgs s_are_coprime) (defBody s_are_coprime) (defScope s_are_coprime) .none kV3 dc3 pm3 an3 cd3 ct3), sl3⟩) (c3 : PySem.W.codeIn K cd3 "are_coprime" = true) (k3 : PySem.W.keepIn K (.ref f3) = true)
    (a4 : PySem.W.nsIn K mainGlobals "bare_length" = some (some (.ref f4))) (l4 : K.lookup f4 = some ⟨oc4, od4, .func (PySem.W.fnOf "bare_length" "bare_length" (defArgs s_bare_length) (defBody s_bare_length) (defScope s_bare_length) .none kV4 dc4 pm4 an4 cd4 ct4), sl4⟩) (c4 : PySem.W.codeIn K cd4 "bare_length" = true) (k4 : PySem.W.keepIn K (.ref f4) = true)
    (a5 : PySem.W.nsIn K mainGlobals "pair_length" = some (some (.ref f5))) (l5 : K.lookup f5 = some ⟨oc5, od5, .func (PySem.W.fnOf "pair_length" "pair_length" (defArgs s_pair_length) (defBody s_pair_length) (defScope s_pair_length) .none kV5 dc5 pm5 an5 cd5 ct5), sl5⟩) (c5 : PySem.W.codeIn K cd5 "pair_length" = true) (k5 : PySem.W.keepIn K (.ref f5) = true)
    (a6 : PySem.W.nsIn K mainGlobals "led_length" = some (some (.ref f6))) (l6 : K.lookup f6 = some ⟨oc6, od6, .func (PySem.W.fnOf "led_length" "led_length" (defArgs s_led_length) (defBody s_led_length) (defScope s_led_length) .none kV6 dc6 pm6 an6 cd6 ct6), sl6⟩) (c6 : PySem.W.codeIn K cd6 "led_length" = true) (k6 : PySem.W.keepIn K (.ref f6) = true)
    (a7 : PySem.W.nsIn K mainGlobals "length_if_plan" = some (some (.ref f7))) (l7 : K.lookup f7 = some ⟨oc7, od7, .func (PySem.W.fnOf "length_if_plan" "length_if_plan" (defArgs s_length_if_plan) (defBody s_length_if_plan) (defScope s_length_if_plan) .none kV7 dc7 pm7 an7 cd7 ct7), sl7⟩) (c7 : PySem.W.codeIn K cd7 "length_if_plan" = true) (k7 : PySem.W.keepIn K (.ref f7) = true)
    (a8 : PySem.W.nsIn K mainGlobals "is_plan" = some (some (.ref f8))) (l8 : K.lookup f8 = some ⟨oc8, od8, .func (PySem.W.fnOf "is_plan" "is_plan" (defArgs s_is_plan) (defBody s_is_plan) (defScope s_is_plan) .none kV8 dc8 pm8 an8 cd8 ct8), sl8⟩) (c8 : PySem.W.codeIn K cd8 "is_plan" = true) (k8 : PySem.W.keepIn K (.ref f8) = true)
    (a9 : PySem.W.nsIn K mainGlobals "plan_text" = some (some (.ref f9))) (l9 : K.lookup f9 = some ⟨oc9, od9, .func (PySem.W.fnOf "plan_text" "plan_text" (defArgs s_plan_text) (defBody s_plan_text) (defScope s_plan_text) .none kV9 dc9 pm9 an9 cd9 ct9), sl9⟩) (c9 : PySem.W.codeIn K cd9 "plan_text" = true) (k9 : PySem.W.keepIn K (.ref f9) = true)
    (a10 : PySem.W.nsIn K mainGlobals "word_of" = some (some (.ref f10))) (l10 : K.lookup f10 = some ⟨oc10, od10, .func (PySem.W.fnOf "word_of" "word_of" (defArgs s_word_of) (defBody s_word_of) (defScope s_word_of) .none kV10 dc10 pm10 an10 cd10 ct10), sl10⟩) (c10 : PySem.W.codeIn K cd10 "word_of" = true) (k10 : PySem.W.keepIn K (.ref f10) = true)
    (a11 : PySem.W.nsIn K mainGlobals "pieces_of" = some (some (.ref f11))) (l11 : K.lookup f11 = some ⟨oc11, od11, .func (PySem.W.fnOf "pieces_of" "pieces_of" (defArgs s_pieces_of) (defBody s_pieces_of) (defScope s_pieces_of) .none kV11 dc11 pm11 an11 cd11 ct11), sl11⟩) (c11 : PySem.W.codeIn K cd11 "pieces_of" = true) (k11 : PySem.W.keepIn K (.ref f11) = true)
    (a12 : PySem.W.nsIn K mainGlobals "number_in" = some (some (.ref f12))) (l12 : K.lookup f12 = some ⟨oc12, od12, .func (PySem.W.fnOf "number_in" "number_in" (defArgs s_number_in) (defBody s_number_in) (defScope s_number_in) .none kV12 dc12 pm12 an12 cd12 ct12), sl12⟩) (c12 : PySem.W.codeIn K cd12 "number_in" = true) (k12 : PySem.W.keepIn K (.ref f12) = true)
    (a13 : PySem.W.nsIn K mainGlobals "part_in" = some (some (.ref f13))) (l13 : K.lookup f13 = some ⟨oc13, od13, .func (PySem.W.fnOf "part_in" "part_in" (defArgs s_part_in) (defBody s_part_in) (defScope s_part_in) .none kV13 dc13 pm13 an13 cd13 ct13), sl13⟩) (c13 : PySem.W.codeIn K cd13 "part_in" = true) (k13 : PySem.W.keepIn K (.ref f13) = true)
    (a14 : PySem.W.nsIn K mainGlobals "bracket_plan" = some (some (.ref f14))) (l14 : K.lookup f14 = some ⟨oc14, od14, .func (PySem.W.fnOf "bracket_plan" "bracket_plan" (defArgs s_bracket_plan) (defBody s_bracket_plan) (defScope s_bracket_plan) .none kV14 dc14 pm14 an14 cd14 ct14), sl14⟩) (c14 : PySem.W.codeIn K cd14 "bracket_plan" = true) (k14 : PySem.W.keepIn K (.ref f14) = true)
    (a15 : PySem.W.nsIn K mainGlobals "plan_in" = some (some (.ref f15))) (l15 : K.lookup f15 = some ⟨oc15, od15, .func (PySem.W.fnOf "plan_in" "plan_in" (defArgs s_plan_in) (defBody s_plan_in) (defScope s_plan_in) .none kV15 dc15 pm15 an15 cd15 ct15), sl15⟩) (c15 : PySem.W.codeIn K cd15 "plan_in" = true) (k15 : PySem.W.keepIn K (.ref f15) = true)
    (a16 : PySem.W.nsIn K mainGlobals "_law_box" = some (some (.ref f16))) (l16 : K.lookup f16 = some ⟨oc16, od16, .func (PySem.W.fnOf "_law_box" "_law_box" (defArgs s__law_box) (defBody s__law_box) (defScope s__law_box) .none kV16 dc16 pm16 an16 cd16 ct16), sl16⟩) (c16 : PySem.W.codeIn K cd16 "_law_box" = true) (k16 : PySem.W.keepIn K (.ref f16) = true)
    (a17 : PySem.W.nsIn K mainGlobals "_law_take" = some (some (.ref f17))) (l17 : K.lookup f17 = some ⟨oc17, od17, .func (PySem.W.fnOf "_law_take" "_law_take" (defArgs s__law_take) (defBody s__law_take) (defScope s__law_take) .none kV17 dc17 pm17 an17 cd17 ct17), sl17⟩) (c17 : PySem.W.codeIn K cd17 "_law_take" = true) (k17 : PySem.W.keepIn K (.ref f17) = true)
    (a18 : PySem.W.nsIn K mainGlobals "_law_pick" = some (some (.ref f18))) (l18 : K.lookup f18 = some ⟨oc18, od18, .func (PySem.W.fnOf "_law_pick" "_law_pick" (defArgs s__law_pick) (defBody s__law_pick) (defScope s__law_pick) .none kV18 dc18 pm18 an18 cd18 ct18), sl18⟩) (c18 : PySem.W.codeIn K cd18 "_law_pick" = true) (k18 : PySem.W.keepIn K (.ref f18) = true)
    (a19 : PySem.W.nsIn K mainGlobals "_law_same" = some (some (.ref f19))) (l19 : K.lookup f19 = some ⟨oc19, od19, .func (PySem.W.fnOf "_law_same" "_law_same" (defArgs s__law_same) (defBody s__law_same) (defScope s__law_same) .none kV19 dc19 pm19 an19 cd19 ct19), sl19⟩) (c19 : PySem.W.codeIn K cd19 "_law_same" = true) (k19 : PySem.W.keepIn K (.ref f19) = true)
    (a20 : PySem.W.nsIn K mainGlobals "_law_shares" = some (some (.ref f20))) (l20 : K.lookup f20 = some ⟨oc20, od20, .func (PySem.W.fnOf "_law_shares" "_law_shares" (defArgs s__law_shares) (defBody s__law_shares) (defScope s__law_shares) .none kV20 dc20 pm20 an20 cd20 ct20), sl20⟩) (c20 : PySem.W.codeIn K cd20 "_law_shares" = true) (k20 : PySem.W.keepIn K (.ref f20) = true)
    (a21 : PySem.W.nsIn K mainGlobals "_law_is_plain_prime" = some (some (.ref f21))) (l21 : K.lookup f21 = some ⟨oc21, od21, .func (PySem.W.fnOf "_law_is_plain_prime" "_law_is_plain_prime" (defArgs s__law_is_plain_prime) (defBody s__law_is_plain_prime) (defScope s__law_is_plain_prime) .none kV21 dc21 pm21 an21 cd21 ct21), sl21⟩) (c21 : PySem.W.codeIn K cd21 "_law_is_plain_prime" = true) (k21 : PySem.W.keepIn K (.ref f21) = true)
    (a22 : PySem.W.nsIn K mainGlobals "_law_plan_words" = some (some (.ref f22))) (l22 : K.lookup f22 = some ⟨oc22, od22, .func (PySem.W.fnOf "_law_plan_words" "_law_plan_words" (defArgs s__law_plan_words) (defBody s__law_plan_words) (defScope s__law_plan_words) .none kV22 dc22 pm22 an22 cd22 ct22), sl22⟩) (c22 : PySem.W.codeIn K cd22 "_law_plan_words" = true) (k22 : PySem.W.keepIn K (.ref f22) = true)
    (a23 : PySem.W.nsIn K mainGlobals "_law_any_plan" = some (some (.ref f23))) (l23 : K.lookup f23 = some ⟨oc23, od23, .func (PySem.W.fnOf "_law_any_plan" "_law_any_plan" (defArgs s__law_any_plan) (defBody s__law_any_plan) (defScope s__law_any_plan) .none kV23 dc23 pm23 an23 cd23 ct23), sl23⟩) (c23 : PySem.W.codeIn K cd23 "_law_any_plan" = true) (k23 : PySem.W.keepIn K (.ref f23) = true)
    (a24 : PySem.W.nsIn K mainGlobals "law" = some (some (.ref f24))) (l24 : K.lookup f24 = some ⟨oc24, od24, .func (PySem.W.fnOf "law" "law" (defArgs s_law) (defBody s_law) (defScope s_law) .none kV24 dc24 pm24 an24 cd24 ct24), sl24⟩) (c24 : PySem.W.codeIn K cd24 "law" = true) (k24 : PySem.W.keepIn K (.ref f24) = true)
    (z0 : PySem.W.nsIn K mainGlobals "ValueError" = some none) (z1 : PySem.W.nsIn K mainGlobals "abs" = some none) (z2 : PySem.W.nsIn K mainGlobals "all" = some none) (z3 : PySem.W.nsIn K mainGlobals "bool" = some none) (z4 : PySem.W.nsIn K mainGlobals "int" = some none) (z5 : PySem.W.nsIn K mainGlobals "isinstance" = some none) (z6 : PySem.W.nsIn K mainGlobals "len" = some none) (z7 : PySem.W.nsIn K mainGlobals "list" = some none) (z8 : PySem.W.nsIn K mainGlobals "min" = some none) (z9 : PySem.W.nsIn K mainGlobals "range" = some none) (z10 : PySem.W.nsIn K mainGlobals "str" = some none) (z11 : PySem.W.nsIn K mainGlobals "tuple" = some none) (z12 : PySem.W.nsIn K mainGlobals "zip" = some none) :
    ∃ fd : FuncData, (∀ (s : Shared) (v : Value), BindsTo s fd ⟨[v], []⟩ [("_law_script", v)]) ∧ ∀ base : Heap, K.In base → base.Ns mainGlobals mg → FnOk l.prog w K mg base CX0 22 fa fd ["_law_script"] (spLaw K) := by
  have e := hfa.symm.trans (PySem.W.mg_of X G a24)
  cases e
  have T : Blt mg := ⟨PySem.W.mg_none_of X G z0, PySem.W.mg_none_of X G z1, PySem.W.mg_none_of X G z2, PySem.W.mg_none_of X G z3, PySem.W.mg_none_of X G z4, PySem.W.mg_none_of X G z5, PySem.W.mg_none_of X G z6, PySem.W.mg_none_of X G z7, PySem.W.mg_none_of X G z8, PySem.W.mg_none_of X G z9, PySem.W.mg_none_of X G z10, PySem.W.mg_none_of X G z11, PySem.W.mg_none_of X G z12⟩
  have F0 := fun_mk (st := s_is_whole) l0 c0 k0
  have b0 := F0.binds (ps := P_is_whole) fun _ _ _ _ _ _ us hl => match us, hl with | [_], _ => rfl
  have F1 := fun_mk (st := s_is_prime) l1 c1 k1
  have b1 := F1.binds (ps := P_is_prime) fun _ _ _ _ _ _ us hl => match us, hl with | [_], _ => rfl
  have F2 := fun_mk (st := s_factors) l2 c2 k2
  have b2 := F2.binds (ps := P_factors) fun _ _ _ _ _ _ us hl => match us, hl with | [_], _ => rfl
  have F3 := fun_mk (st := s_are_coprime) l3 c3 k3
  have b3 := F3.binds (ps := P_are_coprime) fun _ _ _ _ _ _ us hl => match us, hl with | [_, _], _ => rfl
  have F4 := fun_mk (st := s_bare_length) l4 c4 k4
  have b4 := F4.binds (ps := P_bare_length) fun _ _ _ _ _ _ us hl => match us, hl with | [_, _], _ => rfl
  have F5 := fun_mk (st := s_pair_length) l5 c5 k5
  have b5 := F5.binds (ps := P_pair_length) fun _ _ _ _ _ _ us hl => match us, hl with | [_, _, _], _ => rfl
  have F6 := fun_mk (st := s_led_length) l6 c6 k6
  have b6 := F6.binds (ps := P_led_length) fun _ _ _ _ _ _ us hl => match us, hl with | [_, _, _], _ => rfl
  have F7 := fun_mk (st := s_length_if_plan) l7 c7 k7
  have b7 := F7.binds (ps := P_length_if_plan) fun _ _ _ _ _ _ us hl => match us, hl with | [_], _ => rfl
  have F8 := fun_mk (st := s_is_plan) l8 c8 k8
  have b8 := F8.binds (ps := P_is_plan) fun _ _ _ _ _ _ us hl => match us, hl with | [_], _ => rfl
  have F9 := fun_mk (st := s_plan_text) l9 c9 k9
  have b9 := F9.binds (ps := P_plan_text) fun _ _ _ _ _ _ us hl => match us, hl with | [_], _ => rfl
  have F10 := fun_mk (st := s_word_of) l10 c10 k10
  have b10 := F10.binds (ps := P_word_of) fun _ _ _ _ _ _ us hl => match us, hl with | [_], _ => rfl
  have F11 := fun_mk (st := s_pieces_of) l11 c11 k11
  have b11 := F11.binds (ps := P_pieces_of) fun _ _ _ _ _ _ us hl => match us, hl with | [_], _ => rfl
  have F12 := fun_mk (st := s_number_in) l12 c12 k12
  have b12 := F12.binds (ps := P_number_in) fun _ _ _ _ _ _ us hl => match us, hl with | [_], _ => rfl
  have F13 := fun_mk (st := s_part_in) l13 c13 k13
  have b13 := F13.binds (ps := P_part_in) fun _ _ _ _ _ _ us hl => match us, hl with | [_], _ => rfl
  have F14 := fun_mk (st := s_bracket_plan) l14 c14 k14
  have b14 := F14.binds (ps := P_bracket_plan) fun _ _ _ _ _ _ us hl => match us, hl with | [_], _ => rfl
  have F15 := fun_mk (st := s_plan_in) l15 c15 k15
  have b15 := F15.binds (ps := P_plan_in) fun _ _ _ _ _ _ us hl => match us, hl with | [_], _ => rfl
  have F16 := fun_mk (st := s__law_box) l16 c16 k16
  have b16 := F16.binds (ps := P__law_box) fun _ _ _ _ _ _ us hl => match us, hl with | [_, _], _ => rfl
  have F17 := fun_mk (st := s__law_take) l17 c17 k17
  have b17 := F17.binds (ps := P__law_take) fun _ _ _ _ _ _ us hl => match us, hl with | [_, _], _ => rfl
  have F18 := fun_mk (st := s__law_pick) l18 c18 k18
  have b18 := F18.binds (ps := P__law_pick) fun _ _ _ _ _ _ us hl => match us, hl with | [_, _], _ => rfl
  have F19 := fun_mk (st := s__law_same) l19 c19 k19
  have b19 := F19.binds (ps := P__law_same) fun _ _ _ _ _ _ us hl => match us, hl with | [_, _], _ => rfl
  have F20 := fun_mk (st := s__law_shares) l20 c20 k20
  have b20 := F20.binds (ps := P__law_shares) fun _ _ _ _ _ _ us hl => match us, hl with | [_, _], _ => rfl
  have F21 := fun_mk (st := s__law_is_plain_prime) l21 c21 k21
  have b21 := F21.binds (ps := P__law_is_plain_prime) fun _ _ _ _ _ _ us hl => match us, hl with | [_], _ => rfl
  have F22 := fun_mk (st := s__law_plan_words) l22 c22 k22
  have b22 := F22.binds (ps := P__law_plan_words) fun _ _ _ _ _ _ us hl => match us, hl with | [_], _ => rfl
  have F23 := fun_mk (st := s__law_any_plan) l23 c23 k23
  have b23 := F23.binds (ps := P__law_any_plan) fun _ _ _ _ _ _ us hl => match us, hl with | [_, _, _], _ => rfl
  have F24 := fun_mk (st := s_law) l24 c24 k24
  have F_I := fun_mk (st := s_init) lI cI kI
  have b_I := F_I.binds (ps := N_init) fun _ _ _ _ _ _ us hl => match us, hl with | [_, _], _ => rfl
  have EK_BadText : ExK K C_BadText := ⟨⟨⟨nm_BadText, q_BadText, N_BadText, bs_BadText, _, sn_BadText, sb_BadText, ab_BadText, co_BadText, dd_BadText, m0_BadText, m1_BadText, m2_BadText, m3_BadText, m5_BadText, xL_BadText, rfl⟩, sa_BadText, eC_BadText, tC_BadText, kC_BadText⟩, ⟨ga_BadText, gg_BadText, eC_BadText, hC_BadText⟩, ⟨ga_BadText, gg_BadText, eC_BadText, hC_BadText, oc_BadText, on, ot, mo_BadText⟩, nw_BadText⟩
  have R_BadText : Ref K C_TurnError C_BadText fI := ⟨EK_BadText, ii_BadText, PySem.W.exm_ref eT hT tT su_BadText, kv_BadText, kt_BadText⟩
  have M_SHORTS := PySem.W.mg_of X G g_SHORTS
  have Q_SHORTS : ∀ H : Hp, SqT K H a_SHORTS (([1, 2, 3, 4] : List Int).map V.int) := fun H => .inr ⟨_, _, _, l_SHORTS, rfl, rfl, (by show 4 ≤ sizeLine; rw [sizeLine_eq]; decide), (.cons ⟨_, rfl⟩ (.cons ⟨_, rfl⟩ (.cons ⟨_, rfl⟩ (.cons ⟨_, rfl⟩ .nil))))⟩
  have M_FIGURES := PySem.W.mg_of X G g_FIGURES
  have M_SIGNS := PySem.W.mg_of X G g_SIGNS
  have KK_SIGNS : KKs K a_SIGNS ["plain", "short", "split", "parts", "powers", "stretch"] := ⟨sy_SIGNS, _, _, d_SIGNS, pd_SIGNS⟩
  have K_SIGNS_plain : KDct K w a_SIGNS "plain" (.str "p") := ⟨_, _, _, d_SIGNS, l_SIGNS, v_SIGNS_plain, ⟨_, rfl⟩⟩
  have K_SIGNS_short : KDct K w a_SIGNS "short" (.str "s") := ⟨_, _, _, d_SIGNS, l_SIGNS, v_SIGNS_short, ⟨_, rfl⟩⟩
  have K_SIGNS_split : KDct K w a_SIGNS "split" (.str "*") := ⟨_, _, _, d_SIGNS, l_SIGNS, v_SIGNS_split, ⟨_, rfl⟩⟩
  have K_SIGNS_parts : KDct K w a_SIGNS "parts" (.str ".") := ⟨_, _, _, d_SIGNS, l_SIGNS, v_SIGNS_parts, ⟨_, rfl⟩⟩
  have K_SIGNS_powers : KDct K w a_SIGNS "powers" (.str "^") := ⟨_, _, _, d_SIGNS, l_SIGNS, v_SIGNS_powers, ⟨_, rfl⟩⟩
  have K_SIGNS_stretch : KDct K w a_SIGNS "stretch" (.str "~") := ⟨_, _, _, d_SIGNS, l_SIGNS, v_SIGNS_stretch, ⟨_, rfl⟩⟩
  have M_TurnError := PySem.W.mg_of X G g_TurnError
  have M_BadText := PySem.W.mg_of X G g_BadText
  refine ⟨_, fun s v => .of_eq rfl, fun base _ _ => ok_law (P := l.prog) (w := w) (base := base) F24 T ⟨⟨_, _, F0, b0, PySem.W.mg_of X G a0⟩, ⟨_, _, F1, b1, PySem.W.mg_of X G a1⟩, ⟨_, _, F2, b2, PySem.W.mg_of X G a2⟩, ⟨_, _, F3, b3, PySem.W.mg_of X G a3⟩, ⟨_, _, F4, b4, PySem.W.mg_of X G a4⟩, ⟨_, _, F5, b5, PySem.W.mg_of X G a5⟩, ⟨_, _, F6, b6, PySem.W.mg_of X G a6⟩, ⟨_, _, F7, b7, PySem.W.mg_of X G a7⟩, ⟨_, _, F8, b8, PySem.W.mg_of X G a8⟩, ⟨_, _, F9, b9, PySem.W.mg_of X G a9⟩, ⟨_, _, F10, b10, PySem.W.mg_of X G a10⟩, ⟨_, _, F11, b11, PySem.W.mg_of X G a11⟩, ⟨_, _, F12, b12, PySem.W.mg_of X G a12⟩, ⟨_, _, F13, b13, PySem.W.mg_of X G a13⟩, ⟨_, _, F14, b14, PySem.W.mg_of X G a14⟩, ⟨_, _, F15, b15, PySem.W.mg_of X G a15⟩, ⟨_, _, F16, b16, PySem.W.mg_of X G a16⟩, ⟨_, _, F17, b17, PySem.W.mg_of X G a17⟩, ⟨_, _, F18, b18, PySem.W.mg_of X G a18⟩, ⟨_, _, F19, b19, PySem.W.mg_of X G a19⟩, ⟨_, _, F20, b20, PySem.W.mg_of X G a20⟩, ⟨_, _, F21, b21, PySem.W.mg_of X G a21⟩, ⟨_, _, F22, b22, PySem.W.mg_of X G a22⟩, ⟨_, _, F23, b23, PySem.W.mg_of X G a23⟩⟩ ⟨⟨M_SIGNS, KK_SIGNS, K_SIGNS_plain, K_SIGNS_short, K_SIGNS_split, K_SIGNS_parts, K_SIGNS_powers, K_SIGNS_stretch⟩, M_FIGURES, F_I, b_I, tI, R_BadText, M_BadText, M_SHORTS, Q_SHORTS⟩⟩
end My
open PySem PySem.W PyProof.Rows
set_option maxRecDepth 100000 in
set_option maxHeartbeats 0 in
theorem PySem.Challenge.cw_turnsums_k24_plans_as_texts_holds : PySem.Challenge.rw_turnsums_k24_plans_as_texts.Holds := by
  refine My.hdtop ?_
  k_fill
  refine L2.walk_of (l := PySem.Challenge.rw_turnsums_k24_plans_as_texts) (n := 63) (k := 22) (x := "_law_script") (CX := fun _ => L2.CX0) (sp := fun w => My.spLaw _) rfl (by decide) rfl ⟨rfl, by decide, by decide⟩ (fun w h Y => PySem.W.kIn_of Y) ?F (fun _ _ a ns hl _ hS => ⟨a, ns, rfl, hS, hl, fun _ => rfl⟩) (fun _ _ _ _ _ h => h)
  case F =>
    intro w mg fa h KX G hmg
    refine' My.all_mk KX G hmg ?g_TurnError ?g_BadText ?on ?ot ?eT ?hT ?tT ?xL_BadText ?sa_BadText ?ga_BadText ?gg_BadText ?nw_BadText ?ii_BadText ?oc_BadText ?kC_BadText ?eC_BadText ?tC_BadText ?hC_BadText ?mo_BadText ?su_BadText ?kv_BadText ?kt_BadText ?lI ?cI ?kI ?tI ?g_SHORTS ?l_SHORTS ?g_FIGURES ?g_SIGNS ?d_SIGNS ?l_SIGNS ?sy_SIGNS ?pd_SIGNS ?v_SIGNS_plain ?v_SIGNS_short ?v_SIGNS_split ?v_SIGNS_parts ?v_SIGNS_powers ?v_SIGNS_stretch ?a0 ?l0 ?c0 ?k0 ?a1 ?l1 ?c1 ?k1 ?a2 ?l2 ?c2 ?k2 ?a3 ?l3 ?c3 ?k3 ?a4 ?l4 ?c4 ?k4 ?a5 ?l5 ?c5 ?k5 ?a6 ?l6 ?c6 ?k6 ?a7 ?l7 ?c7 ?k7 ?a8 ?l8 ?c8 ?k8 ?a9 ?l9 ?c9 ?k9 ?a10 ?l10 ?c10 ?k10 ?a11 ?l11 ?c11 ?k11 ?a12 ?l12 ?c12 ?k12 ?a13 ?l13 ?c13 ?k13 ?a14 ?l14 ?c14 ?k14 ?a15 ?l15 ?c15 ?k15 ?a16 ?l16 ?c16 ?k16 ?a17 ?l17 ?c17 ?k17 ?a18 ?l18 ?c18 ?k18 ?a19 ?l19 ?c19 ?k19 ?a20 ?l20 ?c20 ?k20 ?a21 ?l21 ?c21 ?k21 ?a22 ?l22 ?c22 ?k22 ?a23 ?l23 ?c23 ?k23 ?a24 ?l24 ?c24 ?k24 ?z0 ?z1 ?z2 ?z3 ?z4 ?z5 ?z6 ?z7 ?z8 ?z9 ?z10 ?z11 ?z12
    (case g_TurnError => first | k_is | rfl)
    (case g_BadText => first | k_is | rfl)
    (case on => first | k_is | rfl)
    (case ot => first | k_is | rfl)
    (case eT => first | k_is | rfl)
    (case hT => first | k_is | rfl)
    (case tT => first | k_is | rfl)
    (case xL_BadText => first | k_is | rfl)
    (case sa_BadText => first | k_is | rfl)
    (case ga_BadText => first | k_is | rfl)
    (case gg_BadText => first | k_is | rfl)
    (case nw_BadText => first | k_is | rfl)
    (case ii_BadText => first | k_is | rfl)
    (case oc_BadText => first | k_is | rfl)
    (case kC_BadText => first | k_is | rfl)
    (case eC_BadText => first | k_is | rfl)
    (case tC_BadText => first | k_is | rfl)
    (case hC_BadText => first | k_is | rfl)
    (case mo_BadText => first | k_is | rfl)
    (case su_BadText => first | k_is | rfl)
    (case kv_BadText => first | k_is | rfl)
    (case kt_BadText => first | k_is | rfl)
    (case lI => first | k_is | rfl)
    (case cI => first | k_is | rfl)
    (case kI => first | k_is | rfl)
    (case tI => first | k_is | rfl)
    (case g_SHORTS => first | k_is | rfl)
    (case l_SHORTS => first | k_is | rfl)
    (case g_FIGURES => first | k_is | rfl)
    (case g_SIGNS => first | k_is | rfl)
    (case d_SIGNS => first | k_is | rfl)
    (case l_SIGNS => first | exact ⟨⟨_, _, rfl, rfl⟩, ⟨_, _, rfl, rfl⟩, ⟨_, _, rfl, rfl⟩, ⟨_, _, rfl, rfl⟩, ⟨_, _, rfl, rfl⟩, ⟨_, _, rfl, rfl⟩, trivial⟩ | k_is | rfl)
    (case sy_SIGNS => first | k_is | rfl)
    (case pd_SIGNS => first | exact (.cons ⟨_, rfl⟩ (.cons ⟨_, rfl⟩ (.cons ⟨_, rfl⟩ (.cons ⟨_, rfl⟩ (.cons ⟨_, rfl⟩ (.cons ⟨_, rfl⟩ .nil)))))) | k_is | rfl)
    (case v_SIGNS_plain => first | k_is | rfl)
    (case v_SIGNS_short => first | k_is | rfl)
    (case v_SIGNS_split => first | k_is | rfl)
    (case v_SIGNS_parts => first | k_is | rfl)
    (case v_SIGNS_powers => first | k_is | rfl)
    (case v_SIGNS_stretch => first | k_is | rfl)
    (case a0 => k_is)
    (case l0 => k_is)
    (case c0 => k_is)
    (case k0 => k_is)
    (case a1 => k_is)
    (case l1 => k_is)
    (case c1 => k_is)
    (case k1 => k_is)
    (case a2 => k_is)
    (case l2 => k_is)
    (case c2 => k_is)
    (case k2 => k_is)
    (case a3 => k_is)
    (case l3 => k_is)
    (case c3 => k_is)
    (case k3 => k_is)
    (case a4 => k_is)
    (case l4 => k_is)
    (case c4 => k_is)
    (case k4 => k_is)
    (case a5 => k_is)
    (case l5 => k_is)
    (case c5 => k_is)
    (case k5 => k_is)
    (case a6 => k_is)
    (case l6 => k_is)
    (case c6 => k_is)
    (case k6 => k_is)
    (case a7 => k_is)
    (case l7 => k_is)
    (case c7 => k_is)
    (case k7 => k_is)
    (case a8 => k_is)
    (case l8 => k_is)
    (case c8 => k_is)
    (case k8 => k_is)
    (case a9 => k_is)
    (case l9 => k_is)
    (case c9 => k_is)
    (case k9 => k_is)
    (case a10 => k_is)
    (case l10 => k_is)
    (case c10 => k_is)
    (case k10 => k_is)
    (case a11 => k_is)
    (case l11 => k_is)
    (case c11 => k_is)
    (case k11 => k_is)
    (case a12 => k_is)
    (case l12 => k_is)
    (case c12 => k_is)
    (case k12 => k_is)
    (case a13 => k_is)
    (case l13 => k_is)
    (case c13 => k_is)
    (case k13 => k_is)
    (case a14 => k_is)
    (case l14 => k_is)
    (case c14 => k_is)
    (case k14 => k_is)
    (case a15 => k_is)
    (case l15 => k_is)
    (case c15 => k_is)
    (case k15 => k_is)
    (case a16 => k_is)
    (case l16 => k_is)
    (case c16 => k_is)
    (case k16 => k_is)
    (case a17 => k_is)
    (case l17 => k_is)
    (case c17 => k_is)
    (case k17 => k_is)
    (case a18 => k_is)
    (case l18 => k_is)
    (case c18 => k_is)
    (case k18 => k_is)
    (case a19 => k_is)
    (case l19 => k_is)
    (case c19 => k_is)
    (case k19 => k_is)
    (case a20 => k_is)
    (case l20 => k_is)
    (case c20 => k_is)
    (case k20 => k_is)
    (case a21 => k_is)
    (case l21 => k_is)
    (case c21 => k_is)
    (case k21 => k_is)
    (case a22 => k_is)
    (case l22 => k_is)
    (case c22 => k_is)
    (case k22 => k_is)
    (case a23 => k_is)
    (case l23 => k_is)
    (case c23 => k_is)
    (case k23 => k_is)
    (case a24 => k_is)
    (case l24 => k_is)
    (case c24 => k_is)
    (case k24 => k_is)
    (case z0 => k_is)
    (case z1 => k_is)
    (case z2 => k_is)
    (case z3 => k_is)
    (case z4 => k_is)
    (case z5 => k_is)
    (case z6 => k_is)
    (case z7 => k_is)
    (case z8 => k_is)
    (case z9 => k_is)
    (case z10 => k_is)
    (case z11 => k_is)
    (case z12 => k_is)

