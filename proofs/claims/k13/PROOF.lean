import PyProof.Rows.All
import Wide.All
import OpenK.AllK
import Wide.FinOn
import HandS.ForMost
import HandS.IsInst
import HandS.Style
import HandS.Wide
import HandS.WideMore
import HandS.Zip
import HandS.Flow
import HandS.SetFor
import HandS.Strs
import HandS.SortInts
import HandS.ExcInit
import HandS.ExcField
import HandS.ExcIs
import HandS.ExcValue
import HandS.WordsExc
import HandS.NoneIn
import HandS.Conv
import HandS.TupMul
import HandS.TupAny
import HandS.Dict
import HandS.Deep
import KE.KExcIs
import KE.GoesMore
import PyProof.Draws
import PySem.Challenge.RW_turnsums_k13_whole_exact_roots_and_share
set_option Elab.async false
set_option linter.all false
set_option maxRecDepth 100000
set_option maxHeartbeats 4000000
namespace My
open PySem L2
def top (i : Nat) : Stmt := PySem.Challenge.pw_turnsums_k13_whole_exact_roots_and_share.main.body.getD i (.Pass ⟨0, 0, 0, 0⟩)
/-- a def of the text: where it stands, how it is called -/
structure Df (K : PySem.W.Frag) (mg : Str → Option Value) (x : Str) (st : Stmt) (ps : List Str) (f : Addr) (fd : FuncData) : Prop where
  F : Fun K x x st f fd
  b : Binds K fd ps []
  g : mg x = some (.ref f)
/-! heaps: all but the box stays -/
theorem same_upd {H H' : Hp} {p : Addr} {o : HO} (h : Same H H') (n : H' p = none) : Same H (upd H' p o) := fun b x e => by
  rw [upd_ne (ne_of_none (h b x e) n)]
  exact h b x e
theorem same_new {H : Hp} {p : Addr} {o : HO} (n : H p = none) : Same H (upd H p o) := same_upd (Same.refl H) n
theorem same_mut {H H' : Hp} {p : Addr} {o : HO} (h : Same H H') (n : H p = none) : Same H (upd H' p o) := fun b x e => by
  rw [upd_ne (ne_of_none e n)]
  exact h b x e
theorem same_t {K : PySem.W.Frag} {H H' : Hp} {a : Addr} {xs : List V} (e : Same H H') (h : SqT K H a xs) : SqT K H' a xs := by
  rcases h with (h | ⟨o, h⟩) | h
  · exact .inl (.inl (e _ _ h))
  · exact .inl (.inr ⟨o, e _ _ h⟩)
  · exact .inr h
def Keep (b : Addr) (H H' : Hp) : Prop := ∀ a o, a ≠ b → H a = some o → H' a = some o
theorem Keep.refl (b : Addr) (H : Hp) : Keep b H H := fun _ _ _ h => h
theorem Keep.trans {b : Addr} {H H1 H2 : Hp} (a : Keep b H H1) (c : Keep b H1 H2) : Keep b H H2 := fun x o n h => c x o n (a x o n h)
theorem keepS {b : Addr} {H H' : Hp} (h : Same H H') : Keep b H H' := fun x o _ e => h x o e
theorem keep_same {b : Addr} {H0 H H' : Hp} (a : Same H0 H) (n : H0 b = none) (k : Keep b H H') : Same H0 H' := fun x o e => k x o (ne_of_none e n) (a x o e)
theorem keep_upd {b : Addr} {H H' : Hp} {o : HO} (h : Keep b H H') : Keep b H (upd H' b o) := fun a u n e => by
  rw [upd_ne n]
  exact h a u n e
theorem keep_new {b p : Addr} {H H' : Hp} {o : HO} (h : Keep b H H') (n : H' p = none) : Keep b H (upd H' p o) := fun a u na e => by
  rw [upd_ne (ne_of_none (h a u na e) n)]
  exact h a u na e
theorem Keep.seq {K : PySem.W.Frag} {b a : Addr} {H H' : Hp} {xs : List V} (e : Keep b H H') (n : a ≠ b) (h : SqL K H a xs) : SqL K H' a xs := by
  rcases h with (h | ⟨o, h⟩) | h
  · exact .inl (.inl (e _ _ n h))
  · exact .inl (.inr ⟨o, e _ _ n h⟩)
  · exact .inr h
def BoxAt (H : Hp) (b : Addr) (n : Int) : Prop := ∃ x y z : Int, H b = some (.lst [.int x, .int y, .int z]) ∧ 0 ≤ x ∧ 0 ≤ y ∧ y ≤ 4294967296 ∧ 0 ≤ z ∧ z ≤ n
theorem BoxAt.mono {H : Hp} {b : Addr} {n m : Int} (h : BoxAt H b n) (e : n ≤ m) : BoxAt H b m := by
  obtain ⟨x, y, z, a1, a2, a3, a4, a5, a6⟩ := h
  exact ⟨x, y, z, a1, a2, a3, a4, a5, by omega⟩
theorem BoxAt.same {H H' : Hp} {b : Addr} {n : Int} (h : BoxAt H b n) (e : Same H H') : BoxAt H' b n := by
  obtain ⟨x, y, z, a1, a2⟩ := h
  exact ⟨x, y, z, e _ _ a1, a2⟩
theorem BoxAt.some {H : Hp} {b : Addr} {n : Int} (h : BoxAt H b n) : ∃ o, H b = some o := by
  obtain ⟨x, y, z, a1, a2⟩ := h
  exact ⟨_, a1⟩
theorem BoxAt.ne {H : Hp} {b p : Addr} {n : Int} (h : BoxAt H b n) (e : H p = none) : p ≠ b := by
  obtain ⟨o, h⟩ := h.some
  exact (ne_of_none h e).symm
theorem szl {n : Nat} (h : n ≤ 60000) : n ≤ sizeLine := Nat.le_trans h (by decide)
theorem szm {n : Nat} (h : n ≤ 60000) : n < sizeLine := Nat.lt_of_le_of_lt h (by decide)
theorem pw6 : (10 : Int) ^ Int.toNat 6 = 1000000 := by decide
theorem pw9 : (10 : Int) ^ Int.toNat 9 = 1000000000 := by decide
theorem newO {H H' : Hp} {p : Addr} {o : HO} (e : upd H p o = H') (hp : H p = none) : Same H H' ∧ H' p = some o := by
  subst e
  exact ⟨same_new hp, upd_same⟩
theorem mutO {H H' : Hp} {p : Addr} {o : HO} (e : upd H p o = H') : Keep p H H' ∧ H' p = some o := by
  subst e
  exact ⟨keep_upd (Keep.refl _ _), upd_same⟩
/-- a word of ours that the walk must not open -/
inductive Hold (p : Prop) : Prop
  | mk : p → Hold p
theorem Hold.un {p : Prop} (h : Hold p) : p := by
  cases h with
  | mk h => exact h
theorem holdN {W : Nat → L2.St → Hp → Prop} {m : Nat} : ∀ (σ' : L2.St) (H' : Hp), Hold (∃ m', m' < m ∧ W m' σ' H') → ∃ m', m' < m ∧ W m' σ' H' := fun _ _ h => h.un
theorem ite_dec {c A B : Prop} [Decidable c] (hc : c) (h : A) : if decide c = true then A else B := by
  rw [decide_eq_true hc]
  exact iteT h
def rLenQ (K : PySem.W.Frag) : List V → Hp → VK → Prop := fun xs H Q => ∃ p ys, xs = [.ref p] ∧ (SqL K H p ys ∨ SqT K H p ys) ∧ Q (.int ys.length) H
theorem iteTe {b : Bool} {A B : Prop} (e : b = true) (h : A) : if b = true then A else B := by
  rw [if_pos e]
  exact h
theorem iteFe {b : Bool} {A B : Prop} (e : b = false) (h : B) : if b = true then A else B := by
  rw [e]
  exact iteF h
theorem cmul_b {i : Int} {b : Bool} : CMul i (if b then 1 else 0) := by
  refine .inr ?_
  cases b <;> exact ⟨by decide, by decide⟩
theorem at_ints {ns : List Int} {k : Int} (h0 : 0 ≤ k) (h : k < (ns.length : Int)) : ∃ c, c ∈ ns ∧ atI (ns.map V.int) k = some (.int c) := by
  have hk : k.toNat < ns.length := by omega
  refine ⟨ns[k.toNat], List.getElem_mem hk, at_of (j := k.toNat) (by omega) ?_⟩
  rw [List.getElem?_map, List.getElem?_eq_getElem hk]
  rfl
theorem at_some {xs : List V} {k : Int} (h0 : 0 ≤ k) (h : k < (xs.length : Int)) : ∃ v, v ∈ xs ∧ atI xs k = some v := by
  have hk : k.toNat < xs.length := by omega
  exact ⟨xs[k.toNat], List.getElem_mem hk, at_of (j := k.toNat) (by omega) (List.getElem?_eq_getElem hk)⟩
theorem int_mem {ns : List Int} {v : V} (h : v ∈ ns.map V.int) : ∃ c, c ∈ ns ∧ v = .int c := by
  obtain ⟨c, hc, e⟩ := List.mem_map.mp h
  exact ⟨c, hc, e.symm⟩
structure Blt (mg : Str → Option Value) : Prop where
  b_ValueError : mg "ValueError" = none
  b_abs : mg "abs" = none
  b_all : mg "all" = none
  b_any : mg "any" = none
  b_bool : mg "bool" = none
  b_enumerate : mg "enumerate" = none
  b_int : mg "int" = none
  b_isinstance : mg "isinstance" = none
  b_len : mg "len" = none
  b_list : mg "list" = none
  b_max : mg "max" = none
  b_min : mg "min" = none
  b_range : mg "range" = none
  b_str : mg "str" = none
  b_tuple : mg "tuple" = none
  b_zip : mg "zip" = none
/-! ### sorted(set(xs)), xs a list of few ints -/
section
open PySem.Spec PyProof.Rows PySem.Calls
abbrev bareSet (w : World) : Obj := { cls := .type "set", dict := none, data := .set #[] 0 (.fresh 0 0 (!w.params.followText "set-order")) }
/-- what set(xs) leaves behind -/
def SetLeft (w : World) (s : Shared) (ns : List Int) (h' : Heap) (c : Nat) : Prop := SetR w h' s.heap.objs.size (fun j => decide (j ∈ ns)) c ∧ c ≤ ns.length ∧ ∀ b o, s.heap.get? b = some o → h'.get? b = some o
variable {P : Program} {w : World} {A : Around} {E : Value → Shared → Prop} {s : Shared}
theorem items_ints {items : Array Value} {ns : List Int} (hi : IntsAre items.toList ns) (i : Nat) (v : Value) (hv : items[i]? = some v) : ∃ k t, ns[i]? = some k ∧ v = .int k t := by
  have hl : items.size = ns.length := by
    rw [← Array.length_toList]
    exact hi.length
  have hlt : i < ns.length := by
    rw [← hl]
    exact (Array.getElem?_eq_some_iff.mp hv).1
  obtain ⟨t, e⟩ := hi.int_at i v (by rw [Array.getElem?_toList]; exact hv)
  refine ⟨ns[i], t, List.getElem?_eq_getElem hlt, e.trans ?_⟩
  rw [List.getD_eq_getElem?_getD, List.getElem?_eq_getElem hlt]
  rfl
set_option maxHeartbeats 3200000 in
theorem set_of_list {l : Addr} {items : Array Value} {ns : List Int} {Q : Value → Shared → Prop} (hh : A.handled = none) (hl : s.heap.IsList l items) (hi : IntsAre items.toList ns) (hb : ns.length + 1 < scanBound)
    (h : ∀ (h' : Heap) (tk c : Nat), SetLeft w s ns h' c → Q (.ref s.heap.objs.size) { s with heap := h', toks := tk }) : wpAny (model P w) A (call (.type "set") [.ref l]) Q E s := by
  have hsz : items.size = ns.length := by
    rw [← Array.length_toList]
    exact hi.length
  obtain ⟨mc, mt, hmro⟩ := F.called_set.mro
  have a1 := F.called_set.made; have a2 := F.called_set.sub; have a3 := F.called_set.notType; have a4 := F.called_set.canCreate; have a5 := F.typeCall_set_1 (.ref l)
  refine wpAny_call (codeAny_of_tree (show wpAny _ _ (callAny (.type "set") _) _ _ _ from wpAny_pure ⟨Code.quiet_builtin _ (by decide +kernel), codeAny_builtin F.entry_type_call ?_⟩))
  rw [Around.under_plain (weight_type_call_type "set" [.ref l] []) rfl]; repeat (any_goals (first | assumption | wp_step))
  refine codeAny_mono (code_set_led1 (.ref l) (E := E) (Q₁ := fun v s' => v = .ref s.heap.objs.size ∧ s' = { s with heap := s.heap.push (bareSet w) }) ⟨rfl, rfl⟩) fun res s1 hres => ?_
  match res, hres with
  | .error e, hres => exact hres
  | .ok .next, hres => exact hres.elim
  | .ok .cont, hres => exact hres.elim
  | .ok .brk, hres => exact hres.elim
  | .ok (.ret v), hres =>
    obtain ⟨rfl, rfl⟩ := hres
    have g0 : (s.heap.push (bareSet w)).get? s.heap.objs.size = some (bareSet w) := Heap.get?_push_size _ rfl
    have ty0 : Shared.TypeIs { s with heap := s.heap.push (bareSet w) } (.ref s.heap.objs.size) "set" := ⟨_, g0, rfl⟩
    have i1 := F.called_set.init.lookup; have i2 := F.called_set.init.bind (.ref s.heap.objs.size)
    repeat (any_goals (first | assumption | wp_step))
    refine codeAny_mono (codeAny_call_builtin (R := wants (fun v s' => v = .none ∧ ∃ h' tk c, s' = { s with heap := h', toks := tk } ∧ SetLeft w s ns h' c) E) F.called_set.init.plain F.entry_set_init (check_set_init_1 ty0 ?_)) fun res2 s2 hres2 => ?_
    · obtain ⟨⟨lc, ld, la, ls⟩, hol, hcl, nl, hdl⟩ := hl
      simp only at hcl hdl; subst hcl; subst hdl
      have hol1 := Heap.get?_push_of_some (bareSet w) hol
      have hL1 : (s.heap.push (bareSet w)).IsList l items := ⟨_, hol1, rfl, nl, rfl⟩
      have n1 := F.sub_list_set; have n2 := F.sub_list_frozenset; have n3 : (Value.type "list" == Value.type "dict") = false := by decide
      unfold Builtin.«set.__init__» noKeywords Builtin.Frozenset.updateFrom; generalize hgo : pyIter = go; wp_walk; subst hgo
      refine wpAny_pyIter_list hL1 (wpAny_bind (wpAny_runValue ?_))
      have ll := Heap.lt_size hol
      have hhd : A.in1.in1.in1.handled = none := by simp [hh]
      have sz1 : (s.heap.push (bareSet w)).objs.size = s.heap.objs.size + 1 := Heap.size_push ..
      have off : l ≠ (s.heap.push (bareSet w)).objs.size := by rw [sz1]; exact Nat.ne_of_lt (Nat.lt_succ_of_lt ll)
      have out : s.heap.objs.size ∉ [(s.heap.push (bareSet w)).objs.size, l] := by
        intro z
        rcases List.mem_cons.mp z with z | z
        · rw [sz1] at z
          exact absurd z (Nat.ne_of_lt (Nat.lt_succ_self _))
        · exact absurd (List.mem_singleton.mp z) (Nat.ne_of_gt ll)
      refine set_update_ints ((Walks.list hhd _ l off items).toS) s.heap.objs.size out ns hsz hb (items_ints hi) (items.size - 0) 0 _ (by omega) (Nat.zero_le _) ⟨⟨_, Heap.get?_push_size _ rfl, rfl, rfl⟩, hL1.push _⟩ ⟨0, Nat.le_refl 0, setR_new_at (Heap.get?_push_of_some _ g0)⟩ ?_
      rintro ⟨h', g', d', tk', os'⟩ c' hm hc' hS'
      obtain ⟨e1, e2, e3⟩ := (show g' = s.gens ∧ d' = s.drawn ∧ os' = s.os from ⟨hm.gens, hm.drawn, hm.os⟩)
      subst e1; subst e2; subst e3
      refine wpAny_pure (show wpAny _ _ (ret Value.none) _ _ _ from wpAny_pure ⟨rfl, h', tk', c', rfl, hS', by omega, fun b o e => ?_⟩)
      have lb := Heap.lt_size e
      refine hm.heap b o ?_ (Heap.get?_push_of_some _ (Heap.get?_push_of_some _ e))
      intro z
      rcases List.mem_cons.mp z with z | z
      · exact absurd z (Nat.ne_of_lt lb)
      · have z2 := List.mem_singleton.mp z
        rw [sz1] at z2
        exact absurd z2 (Nat.ne_of_lt (Nat.lt_succ_of_lt lb))
    · match res2, hres2 with
      | .error e, hres2 => exact hres2
      | .ok .next, hres2 => exact hres2.elim
      | .ok .cont, hres2 => exact hres2.elim
      | .ok .brk, hres2 => exact hres2.elim
      | .ok (.ret v2), hres2 =>
        obtain ⟨rfl, h', tk, c', rfl, hS'⟩ := hres2
        repeat (any_goals (first | assumption | wp_step))
        exact h _ _ _ hS'
end
open PySem.Spec PyProof.Rows in
/-- sorted of a set of ints, however many -/
theorem set_sorted {P : Program} {w : World} {A : Around} {E : Value → Shared → Prop} {s : Shared} {a : Addr} {S : Int → Bool} {n : Nat} {Q : Value → Shared → Prop} (R : SetR w s.heap a S n) (hh : A.handled = none)
    (q : ∀ s' p (out : List Value) (c : Nat) (ms : List Int), (∀ b o, s.heap.get? b = some o → s'.heap.get? b = some o) → s'.gens = s.gens → s'.os = s.os → s.heap.objs.size ≤ p →
      s'.heap.get? p = some (seqObj "list" out.toArray c) → IntsAre out ms → ms.Pairwise (· < ·) → (∀ k, k ∈ ms ↔ S k = true) → ms.length = n → Q (.ref p) s') : wpAny (model P w) A (call (.builtin "sorted") [.ref a]) Q E s := by
  obtain ⟨o, es, ep, t, g1, g2, g3, good, nod, mem, g4, g5, g6, g7, g8⟩ := R
  refine Calls.call_function_entry kind_sorted plain_sorted entry_sorted (args_sorted1 _) ?_; unfold Builtin.«sorted»
  refine wpAny_bind (m := checkCount "sorted" 1 1 _) (wpAny_pure (wpAny_bind (collect_set (A := A.in1) hh ⟨o, g1, g2.1, g3⟩ g5 g4 g7 g8 fun s1 vs k1 z1 e1 e2 pm => ?_)))
  have len : vs.length = n := by
    rw [pm.length_eq, List.length_map, Array.length_toList]
    exact g6
  have ivs : ∀ e ∈ es.toList, SrtO.iv e.2 = keyOf e := fun e he => by
    obtain ⟨k, tk, h1, _⟩ := good e he
    unfold keyOf
    rw [h1]
    rfl
  have hI : IntsAre vs (vs.map SrtO.iv) := SrtO.ints_iv fun v hv => by
    obtain ⟨e, he, ev⟩ := List.mem_map.mp (pm.mem_iff.mp hv)
    obtain ⟨k, tk, h1, _⟩ := good e he
    exact ⟨k, tk, ev.symm.trans h1⟩
  have prm : (vs.map SrtO.iv).Perm (es.toList.map keyOf) := by
    refine (pm.map SrtO.iv).trans ?_
    rw [List.map_map]
    exact List.Perm.of_eq (List.map_congr_left ivs)
  have zn : n ≤ sizeLine := by
    unfold scanBound at g4
    exact szl (by omega)
  refine wpAny_bind (wpAny_newList ?_ (by rw [len]; exact zn))
  have at1 : (s1.heap.push (seqObj "list" vs.toArray 0)).get? s1.heap.objs.size = some (seqObj "list" vs.toArray 0) := Heap.get?_push_size _ rfl
  refine wpAny_bind (wpAny_holding (wpAny_call_entry slot_list_sort ⟨_, at1, rfl⟩ entry_list_sort (SrtO.list_sort_ord SrtO.swo_int at1 (by rw [len]; exact zn) (fun two => SrtO.ints_sortable hI two) fun out o1 o2 => ⟨_, rfl, ?_⟩) (args_list_sort _)))
  obtain ⟨j1, j2, j3⟩ := SrtO.ints_out hI o1 o2
  obtain ⟨c, at2⟩ := sortedHeap_at (vs := vs) (out := out.toArray) at1
  have prm2 := j2.trans prm
  refine wpAny_pure ⟨_, rfl, q _ s1.heap.objs.size out c _ (fun b u e => ?_) e1 e2 z1 at2 j1 (lt_of_le_nodup _ j3 (prm2.nodup_iff.mpr nod)) (fun k => by rw [prm2.mem_iff, ← mem k]) (by rw [prm2.length_eq, List.length_map, Array.length_toList]; exact g6)⟩
  have e3 := k1 b u e
  have l3 := Heap.lt_size e3
  exact (sortedHeap_old (vs := vs) (out := out.toArray) (Nat.ne_of_lt l3) (by rw [size_push']; exact Nat.lt_succ_of_lt l3)).trans (Heap.get?_push_of_some _ e3)
def tSortSet (K : PySem.W.Frag) (ta : TE) : TE := fun σ H Q => ta σ H fun x H1 => ∃ (l : Addr) (ns : List Int), x = .ref l ∧ SqL K H1 l (ns.map V.int) ∧ ns.length ≤ 4000 ∧
  ∀ (out : List Int) (p : Addr), H1 p = none → out.Pairwise (· < ·) → (∀ k, k ∈ out ↔ k ∈ ns) → out.length ≤ ns.length → Q (.ref p) (upd H1 p (.lst (out.map V.int)))
open PySem.Spec PyProof.Rows in
theorem pe_sortSet {X : Cx} {a : Expr} {ta : TE} {p p2 q pos : Pos} (hg : Gl X "sorted") (hm : X.mg "sorted" = none) (hg2 : Gl X "set") (hm2 : X.mg "set" = none) (ha : PE X a ta) (hc : X.calm = true := by rfl)
    (na : starEach [a] X.env = (false, eval a X.env) :: starEach [] X.env := by rfl) : PE X (.Call (.Name "sorted" p) [.Call (.Name "set" p2) [a] [] q] [] pos) (tSortSet X.K ta) := by
  refine ⟨fun pins s σ H Q I h => ?_⟩
  refine Call_ (ld_blt I hg hm boot_sorted (callWith_builtin1 (args_cons (Call_ (ld_blt I hg2 hm2 boot_set (callWith_type1 (args_cons (thn (ha.run pins s σ H _ I h) fun v s1 ⟨x, H1, I1, r1, q1⟩ => args_nil ?_) na) na rfl))) rfl) rfl rfl))
  obtain ⟨l, ns, rfl, hq, hn, q1⟩ := q1
  cases r1
  obtain ⟨its, r, pl, hz⟩ := I1.list hq
  have hd := I1.ok.hd hc
  refine set_of_list hd pl.isList (by simpa using ints_of_vals r) (by unfold scanBound; omega) fun h' tk c hL => args_nil ?_
  obtain ⟨R1, hcn, kept⟩ := hL
  refine set_sorted (s := { s1 with heap := h', toks := tk }) R1 hd fun s' pp out cc ms k g o hp hgt hi hs hmem hlen => ?_
  have kk : ∀ b u, s1.heap.get? b = some u → s'.heap.get? b = some u := fun b u e => k b u (kept b u e)
  have hpp : s1.heap.objs.size ≤ pp := Nat.le_trans (Nat.le_of_lt R1.lt) hp
  have fr : H1 pp = none := I1.hok.fresh hpp
  have sl : (ms.map V.int).length ≤ sizeLine := by
    rw [List.length_map, hlen]
    exact szl (by omega)
  have hos : s'.os = s1.os := o
  have J : Inv X pins σ (upd H1 pp (.lst (ms.map V.int))) { s1 with heap := s'.heap, gens := s'.gens, drawn := s'.drawn, toks := s'.toks } :=
    I1.call (ch := []) (Un.laid kk hpp fr) (I1.hok.laid kk hpp ⟨sl, out, cc, vals_of_ints hi, hgt⟩) (by rw [g]; exact I1.bare) (fun _ z => nomatch z)
  have es : s' = { s1 with heap := s'.heap, gens := s'.gens, drawn := s'.drawn, toks := s'.toks } := by
    obtain ⟨b1, b2, b3, b4, b5⟩ := s'
    simp only at hos
    subst hos
    rfl
  rw [es]
  exact ⟨.ref pp, _, J, rfl, q1 ms pp fr hs (fun j => (hmem j).trans decide_eq_true_iff) (by omega)⟩
local macro_rules | `(tactic| walk_at "ev1") => `(tactic| first
  | with_reducible assumption
  | ((with_reducible show _ = _); exact rfl)
  | ((first | with_reducible show (_ : Int) = _ | with_reducible show (_ : Int) < _ | with_reducible show (_ : Int) ≤ _ | with_reducible show (_ : Nat) < _ | with_reducible show (_ : Nat) ≤ _); first | omega | decide | (simp only [pw6, pw9]; omega) | (simp only [List.length_cons, List.length_nil, List.length_append, List.length_map, List.length_replicate]; omega))
  | assumption
  | exact upd_same
  | exact SqL.of upd_same
  | exact Or.inl (SqL.of upd_same)
  | exact Or.inl (by assumption)
  | exact Or.inr (by assumption)
  | omega
  | exact (show CDiv _ _ from ⟨by omega, by omega⟩)
  | exact (show CPow _ _ from ⟨by omega, by omega, by omega⟩)
  | exact (show CMul _ _ from .inl ⟨by omega, by omega⟩)
  | exact (show CMul _ _ from .inr ⟨by omega, by omega⟩)
  | exact (show CMul _ _ from cmul_b)
  | exact (show CDivW _ _ from wide_div (b := 31) (by omega) (by omega) (by decide) (by decide))
  | exact (Or.inl ⟨rfl, _, SqL.of (by assumption)⟩)
  | exact ClsV.ty _
  | exact .cons (.ty _) (.cons (.ty _) .nil)
  | (refine szl ?_; simp only [List.length_cons, List.length_nil, List.length_append, List.length_map, List.length_replicate]; omega)
  | (refine szm ?_; simp only [List.length_cons, List.length_nil, List.length_append, List.length_map, List.length_replicate]; omega))
local macro_rules | `(tactic| walk_at "s") => `(tactic| (first
  | (refine And.intro ?l ?_; (case l => walk_at "ev1"))
  | with_reducible refine iteT ?_
  | with_reducible refine iteF ?_
  | with_reducible refine ite_dec rfl ?_
  | with_reducible refine iteNS rfl ?_
  | with_reducible refine iteNS (by assumption) ?_
  | (apply Or.inl; apply Exists.intro; apply And.intro rfl)
  | (apply Or.inr; apply Exists.intro; apply And.intro rfl)
  | ((fail_if_success (refine @Exists.intro (Nat → Nat → L2.St → Hp → Prop) _ ?_ ?_)); (fail_if_success (refine @Exists.intro (Nat → L2.St → Hp → Prop) _ ?_ ?_)); (fail_if_success (refine @Exists.intro (L2.St → Hp → Prop) _ ?_ ?_)); (fail_if_success (refine @Exists.intro (Hp → Prop) _ ?_ ?_)); (fail_if_success (refine @Exists.intro (Nat → Nat → Hp → Prop) _ ?_ ?_)); apply Exists.intro)))
local macro_rules | `(tactic| walk_at "ev") => `(tactic| repeat (walk_at "s"))
local macro_rules | `(tactic| w_cond $i:ident) => do
  let b := (i.getId.toString.drop 1).toString
  let l := Lean.mkIdent (.mkSimple ("l" ++ b))
  let hl := Lean.mkIdent (.mkSimple ("hl" ++ b))
  let h := Lean.mkIdent (.mkSimple ("H" ++ b))
  let sm := Lean.mkIdent (.mkSimple ("sm" ++ b))
  let hq := Lean.mkIdent (.mkSimple ("hq" ++ b))
  `(tactic| (intro $l:ident $hl:ident; generalize hG : upd _ $l:ident _ = $h:ident; obtain ⟨$sm:ident, $hq:ident⟩ := newO hG $hl:ident; clear hG))
/-! ### a caught exception that a name keeps behind its clause -/
/-- at a: an exception of the class at C, its dict at d -/
def XOb (C d a : Addr) : HO := .ext fun h => ∃ (ob : Obj) (fl : Array Value), h.get? a = some ob ∧ Zc (.ref C) (some d) ob ∧ ob.data = .fields fl
theorem xob_ok {P : Program} {w : World} {H : Hp} {h : Heap} {C d a : Addr} {ob : Obj} {fl : Array Value} (q1 : h.get? a = some ob) (q2 : Zc (.ref C) (some d) ob) (q3 : ob.data = .fields fl) : ObjOk P w H h a (XOb C d a) :=
  ⟨⟨ob, fl, q1, q2, q3⟩, ⟨ob, q1⟩, fun _ _ ⟨u, v, r1, r2⟩ k => ⟨u, v, k u r1, r2⟩⟩
/-- an object of the heap that nobody tracks is tracked from now on -/
theorem track {X : Cx} {pins : List (Addr × Obj)} {σ : L2.St} {H : Hp} {s : Shared} {a : Addr} {o : HO} (I : Inv X pins σ H s) (n0 : X.s_0.heap.get? a = none) (hn : H a = none) (nL : a ≠ X.env.locals) (nC : ∀ x c, X.env.cells.lookup x = some c → c ≠ a)
    (nP : ∀ p ∈ X.pn ++ pins, p.1 ≠ a) (new : ObjOk X.prog X.w (upd H a o) s.heap a o) : Inv X pins σ (upd H a o) s := by
  have ne : ∀ {b : Addr} {u : HO}, H b = some u → b ≠ a := fun e => ne_of_none e hn
  refine ⟨I.ok, I.os, I.bare, ⟨I.base.keep, I.base.slot, fun b u e n hx => ?_, I.base.there, fun b xs e => ?_, fun b u v e => ?_, fun b ps e => ?_⟩, I.loc, I.cell, ?_, fun x c e => ?_, fun p hp => ?_, I.hok.laidN (fun _ _ z => z) hn new, I.len⟩
  · have : b ≠ a := fun z => by
      rw [z, n0] at e
      cases e
    rw [upd_ne this]
    exact I.base.free b u e n hx
  · have q := I.base.tups b xs e
    rw [upd_ne (ne q)]
    exact q
  · have q := I.base.frzs b u v e
    rw [upd_ne (ne q)]
    exact q
  · obtain ⟨m, q⟩ := I.base.tbls b ps e
    exact ⟨m, by rw [upd_ne (ne q)]; exact q⟩
  · rw [upd_ne nL.symm]
    exact I.free
  · rw [upd_ne (nC x c e)]
    exact I.freeC x c e
  · obtain ⟨e, n, r⟩ := I.pin p hp
    exact ⟨e, by rw [upd_ne (nP p hp)]; exact n, r⟩
/-- what 'except x as n: ..' wishes, the exception tracked behind it -/
def wKeep (K : PySem.W.Frag) (c : Value) (i : Nat) (ts : Addr → TS) (Wout : WX) (D : Ends) : WX := fun cls d σ H =>
  ∃ b, PySem.W.exmOne K cls c = some b ∧ (b = true → ∃ C dd, cls = .ref C ∧ d = some dd ∧ ∀ a, H a = none →
    ts a { nx := fun σ2 H2 => D.nx (σ2.set i none) (upd H2 a (XOb C dd a)), rt := fun _ _ => False, bk := fun _ _ => False, ct := fun _ _ => False } (σ.set i (some (.ref a))) H) ∧ (b = false → Wout cls d σ H)
section
variable {X : Cx} {x n : Str} {c : Value} {i : Nat} {body suite : List Stmt} {b₀ : Stmt} {np pos pos' : Pos} {tb : WX → TS} {ts : Addr → TS} {Wout : WX}
theorem ps_try_keep (hs : X.stack = X.env :: X.outer) (hf : X.env.frame = some X.env.locals) (hex : X.ex = []) (hN : X.N.Nodup) (hi : X.N[i]? = some n) (hln : X.env.kindOf n = some .local) (hc : Names X x c) (tk : Takes X Wout)
    (hb : ∀ (W : WX) (pn : List (Addr × Obj)) (xe : Value → Shared → Prop), Takes (X.tr pn xe) W → PassesOwn (model X.prog X.w) X.A X.env xe → PSs (X.tr pn xe) body (tb W))
    (hsu : ∀ (a : Addr) (pn : List (Addr × Obj)), PSs (X.suite a pn) (b₀ :: suite) (ts a)) :
    PS X (.Try body [.ExceptHandler (some (.Name x np)) (some n) (b₀ :: suite) pos'] [] [] pos) (fun D σ H => tb (wKeep X.K c i ts Wout D) D σ H) := by
  refine ⟨fun pins s σ H D I h => ?_⟩
  have ok := I.ok
  have fr : X.A.frames = some (X.env :: X.outer) := ok.frames.trans (congrArg some hs)
  refine wpAny_Try_except (wpAny_mono ((hb (wKeep X.K c i ts Wout D) (X.pn ++ pins) (fun e s1 => wpAny (model X.prog X.w) X.A (noteFrame e X.env)
    (fun _ s2 => wpAny (model X.prog X.w) X.A (setFlight e none) (fun _ s3 => wpAny (model X.prog X.w) X.A (handleBy e X.env [.ExceptHandler (some (.Name x np)) (some n) (b₀ :: suite) pos']) (SP X pins D) X.xe s3) X.xe s2) X.xe s1)
    (fun u s1 fly => ?_) PassesOwn.looking).run [] s σ H D (I.toTry _) h) (fun f s1 q => ?_) (fun _ _ z => z))
  · obtain ⟨a, B, s0, pins1, σ1, H1, cls, d, rfl, J0, nb, up, sky, na, os, ag, b, hm, yes, no⟩ := fly
    have J : Inv X pins σ1 H1 s0 := J0.ofTry ok
    have sky1 : Sky B (X.env :: X.outer) a (Zc cls d) X.env.locals s1.heap := hs ▸ sky
    show wpAny (model X.prog X.w) X.A (noteFrame (.ref a) X.env) _ _ _
    refine Sky.land Zc.steady fr hf sky1 fun g3 fly3 up3 => ?_
    have J3 : Inv X pins σ1 H1 { s1 with heap := g3 } := J.landed nb fly3.1 (up.trans up3) os ag
    obtain ⟨o3, f3, e3, z3, d3⟩ := fly3.there
    have away : a ∉ frs (X.env :: X.outer) := fun hmem => by
      obtain ⟨_, o', e', hnf⟩ := fly3.2.2.1.mem hmem
      cases e3.symm.trans e'
      exact hnf _ d3
    have nL : a ≠ X.env.locals := fun z => away (List.mem_filterMap.mpr ⟨X.env, List.mem_cons_self, hf.trans (congrArg some z.symm)⟩)
    have nF : a ∉ X.fs := fun hmem => by
      obtain ⟨e, he, q⟩ := List.mem_filterMap.mp hmem
      exact away (List.mem_filterMap.mpr ⟨e, List.mem_cons_of_mem _ he, q⟩)
    have nB : B.get? a = none := fly3.2.1
    have n0 : X.s_0.heap.get? a = none := by
      cases e : X.s_0.heap.get? a with
      | none => rfl
      | some o =>
        obtain ⟨o', q⟩ := J.base.there a o e (by rw [hex]; exact fun z => nomatch z)
        have q2 := nb a o' q (by rw [hs]; exact away)
        rw [nB] at q2
        cases q2
    have nP : ∀ p ∈ X.pn ++ pins, p.1 ≠ a := fun p hp z => by
      obtain ⟨q, _⟩ := J.pin p hp
      have q2 := nb p.1 p.2 q (by rw [hs, z]; exact away)
      rw [z, nB] at q2
      cases q2
    have S3 := J3.suite e3 d3 na nL nF
    have lt : PySem.W.Looks (model X.prog X.w) g3 (typeOf (.ref a)) cls := fun A Q E s k q => wpAny_typeOf_ref (k _ _ e3) (by rw [z3.1]; exact q)
    have lm := PySem.W.exm_one (M := model X.prog X.w) J3.kIn lt hm
    refine wpAny_handleBy_cons (codeAny_handlers_test ?_) (fun q => nomatch q)
    have named : ∀ {Q E : Value → Shared → Prop}, Q c { s1 with heap := g3 } → wpAny (model X.prog X.w) (X.A.mark (some (.ref a))) (eval (.Name x np) X.env) Q E { s1 with heap := g3 } := fun {Q E} q => by
      rcases hc with ⟨hg, hdb, hm1 | ⟨hm1, hv, hnn⟩⟩
      · exact ld_glob (X := X.suite a ((a, o3) :: (X.pn ++ pins))) S3 hg hm1 q hdb
      · exact ld_blt (X := X.suite a ((a, o3) :: (X.pn ++ pins))) S3 hg hm1 hv q hnn hdb
    refine named (lm.here ?_)
    cases b with
    | true =>
      obtain ⟨C, dd, ec, ed, yes⟩ := yes rfl
      refine codeAny_handlers_suite_as (HandSPX.lands_againZ fly3 fun g4 fly4 up4 => ?_)
      have J4 : Inv X pins σ1 H1 { s1 with heap := g4 } := J.landed nb fly4.1 ((up.trans up3).trans up4) os ag
      obtain ⟨o4, f4, e4, z4, d4⟩ := fly4.there
      refine store_ok (X := X.suite a ((a, o4) :: (X.pn ++ pins))) (v := .ref a) (J4.suite e4 d4 na nL nF) hN hi (.inl hln) rfl (fun s5 S5 => ?_) (.inr hln)
      refine wpAny_mono ((hsu a ((a, o4) :: (X.pn ++ pins))).run [] s5 _ H1 _ S5 (yes a na)) (fun f s6 q6 => ?_) (fun _ _ z => z.elim)
      cases f with
      | next =>
        obtain ⟨σ6, H6, S6, q6⟩ := q6
        refine gone_ok (X := X.suite a ((a, o4) :: (X.pn ++ pins))) (pins := []) S6 hN hi hln fun s7 S7 => ?_
        obtain ⟨e7, n7, _⟩ := S7.pin (a, o4) (List.mem_append_left _ List.mem_cons_self)
        refine ⟨_, _, track (S7.unsuite ok) n0 n7 nL (fun y c' ey z => ?_) nP (xob_ok (C := C) (d := dd) e7 (by rw [← ec, ← ed]; exact z4) d4), q6⟩
        obtain ⟨v, ob, q1, q2⟩ := S7.cell y c' ey
        subst z
        cases e7.symm.trans q1
        cases d4.symm.trans q2
      | brk =>
        obtain ⟨_, _, _, q6⟩ := q6
        exact q6.elim
      | cont =>
        obtain ⟨_, _, _, q6⟩ := q6
        exact q6.elim
      | ret u =>
        obtain ⟨_, _, _, _, _, q6⟩ := q6
        exact q6.elim
    | false =>
      show wpAny _ X.A (handleBy (.ref a) X.env []) _ _ _
      refine wpAny_handleBy_nil ?_
      obtain ⟨k1, k2, k3, ob, fl, T, oT, tl, he, hz, hd, h1, hr⟩ := id fly3
      unfold PySem.passOn
      refine wpAny_bind (wpAny_field he hd h1 ?_)
      rw [if_neg (show ¬ ((Value.ref T == Value.none) = true) from by simp)]
      have fin : wpAny (model X.prog X.w) X.A (setFlight (.ref a) X.env.frame) (fun _ s4 => wpAny (model X.prog X.w) X.A (throw (.ref a) : Sem Flow) (SP X pins D) X.xe s4) X.xe { s1 with heap := g3 } := by
        rw [hf]
        exact HandSPX.setFlight_upZ fly3 fun g4 held4 up4 => wpAny_throw (tk _ _ ⟨a, B, s0, pins, σ1, H1, cls, d, rfl, J, nb, (up.trans up3).trans up4, .inr (.inr (hs ▸ held4)), na, os, ag, no rfl⟩)
      first
        | exact wpAny_bind (wpAny_pure (wpAny_bind fin))
        | exact wpAny_bind fin
  · cases f with
    | next =>
      obtain ⟨σ1, H1, J, q⟩ := q
      exact wpAny_execs_nil ⟨σ1, H1, J.ofTry ok, q⟩
    | brk =>
      obtain ⟨σ1, H1, J, q⟩ := q
      exact ⟨σ1, H1, J.ofTry ok, q⟩
    | cont =>
      obtain ⟨σ1, H1, J, q⟩ := q
      exact ⟨σ1, H1, J.ofTry ok, q⟩
    | ret u =>
      obtain ⟨v, σ1, H1, J, r, q⟩ := q
      exact ⟨v, σ1, H1, J.ofTry ok, r, q⟩
end
/-- what is told of an own exception class -/
structure ExK (K : PySem.W.Frag) (C : Addr) : Prop where
  oex : OexC K C
  xf : XfC K C
  ec : ExcC K C
  nw : PySem.W.findIn K (.ref C) "what" = some none
/-- an exception object, tracked, with its fields -/
def XAt (H : Hp) (a C : Addr) (fs : List (Str × V)) : Prop := ∃ d, H a = some (XOb C d a) ∧ H d = some (.xd fs)
theorem XAt.same {H H' : Hp} {a C : Addr} {fs : List (Str × V)} (h : XAt H a C fs) (e : Same H H') : XAt H' a C fs := by
  obtain ⟨d, h1, h2⟩ := h
  exact ⟨d, e _ _ h1, e _ _ h2⟩
theorem xat_inst {X : Cx} {pins : List (Addr × Obj)} {σ : L2.St} {H : Hp} {s : Shared} {a C : Addr} {fs : List (Str × V)} (I : Inv X pins σ H s) (h : XAt H a C fs) : ∃ (ob od : Obj) (mA : Str → Option Value), PySem.W.InstAt s.heap a ob C (some od) ∧ (∀ name, PySem.W.lookIn name od = some (mA name)) ∧ ∀ f, RelO (fs.lookup f) (mA f) := by
  obtain ⟨d, h1, h2⟩ := h
  obtain ⟨⟨ob, fl, q1, q2, q3⟩, _, _⟩ := (show ObjOk X.prog X.w H s.heap a (XOb C d a) from I.hok a _ h1)
  obtain ⟨mA, hns, hr⟩ := (show ObjOk X.prog X.w H s.heap d (.xd fs) from I.hok d _ h2)
  obtain ⟨od, ho, hl⟩ := lookIn_ns hns
  exact ⟨ob, od, mA, ⟨q1, q2.1, by unfold PySem.W.notCls; rw [q3] <;> rfl, by rw [q2.2]; exact ho⟩, hl, hr⟩
/-- isinstance(e, c), e tracked -/
def rIsX (K : PySem.W.Frag) : List V → Hp → VK → Prop := fun xs H Q => ∃ (a C : Addr) (fs : List (Str × V)) (c : V) (cv : Value) (b : Bool), xs = [.ref a, c] ∧ XAt H a C fs ∧ ExK K C ∧ ClsV c cv ∧ PySem.W.kitOne K (.ref C) cv = some b ∧ Q (.bl b) H
def rIsXT (K : PySem.W.Frag) : List V → Hp → VK → Prop := fun xs H Q => ∃ (a C tp : Addr) (fs : List (Str × V)) (cs : List V) (us : List Value) (b : Bool), xs = [.ref a, .ref tp] ∧ H tp = some (.tup cs) ∧ XAt H a C fs ∧ ExK K C ∧ Paired ClsV cs us ∧ PySem.W.kitAny K (.ref C) us = some b ∧ Q (.bl b) H
theorem kit_x {K : PySem.W.Frag} {a C : Addr} {ob od : Obj} (E : ExK K C) : PySem.W.KitX K (.ref a) (.ref C) (fun h => PySem.W.InstAt h a ob C (some od)) := by
  obtain ⟨cd, hc, _⟩ := PySem.W.any_some E.ec.hd
  exact PySem.W.kitx_exc (by rw [hc]; rfl) E.ec.hg E.ec.hk E.ec.hs E.ec.ha E.ec.hn E.ec.ht E.ec.hm
theorem call_isX {X : Cx} : CallR X (.builtin "isinstance") (rIsX X.K) := by
  intro pins s σ H xs us Q I r h
  obtain ⟨a, C, fs, c, cv, b, rfl, hx, E, k, e, q⟩ := h
  obtain ⟨u1, u2, rfl, r1, r2⟩ := vals2 r
  cases (show u1 = Value.ref a from r1)
  have e2 := k.eq r2
  subst e2
  obtain ⟨ob, od, mA, J, _, _⟩ := xat_inst I hx
  exact PySem.W.kia_one (kit_x E) I.kIn J e (fun z => nomatch z) fun tk => ⟨.bl b, H, I.tok tk, rfl, q⟩
theorem call_isXT {X : Cx} : CallR X (.builtin "isinstance") (rIsXT X.K) := by
  intro pins s σ H xs us Q I r h
  obtain ⟨a, C, tp, fs, cs, ws, b, rfl, hT, hx, E, k, e, q⟩ := h
  obtain ⟨u1, u2, rfl, r1, r2⟩ := vals2 r
  cases (show u1 = Value.ref a from r1)
  cases (show u2 = Value.ref tp from r2)
  obtain ⟨ob, od, mA, J, _, _⟩ := xat_inst I hx
  obtain ⟨_, its, rv, o, h1, h2, n, h3⟩ := (show ObjOk X.prog X.w H s.heap tp (.tup cs) from I.hok tp _ hT)
  have e3 := ClsV.all k rv
  subst e3
  rcases o with ⟨oc, od', dt, sl⟩
  dsimp only at h2 h3
  cases h2
  cases h3
  exact PySem.W.kia_tup (kit_x E) I.kIn J h1 e (fun z => nomatch z) fun tk => ⟨.bl b, H, I.tok tk, rfl, q⟩
/-- e.f, e tracked -/
def tXw (K : PySem.W.Frag) (f : Str) (te : TE) : TE := fun σ H Q => te σ H fun x H1 => ∃ (a C : Addr) (fs : List (Str × V)) (v : V), x = .ref a ∧ XAt H1 a C fs ∧ ExK K C ∧ PySem.W.findIn K (.ref C) f = some none ∧ fs.lookup f = some v ∧ Q v H1
theorem pe_xw {X : Cx} {e : Expr} {te : TE} {pos : Pos} {n : Str} (he : PE X e te) (hb : attributeBase e n X.env (eval e X.env) = eval e X.env := by rfl) : PE X (.Attribute e n pos) (tXw X.K n te) := by
  refine ⟨fun pins s σ H Q I h => attr_of hb (thn (he.run pins s σ H _ I h) fun u s1 hh => ?_)⟩
  obtain ⟨x, H1, I1, rx, a, C, fs, v, ex, hx, E, hno, l, q⟩ := hh
  subst ex
  cases (show u = Value.ref a from rx)
  obtain ⟨ob, od, mA, J, hl, hr⟩ := xat_inst I1 hx
  obtain ⟨u, hu, ru⟩ := RelO.some_of (v := v) (o := mA n) (by rw [← l]; exact hr n)
  exact HandSPX.exc_get I1.kIn J E.xf.ga E.xf.gg E.xf.exC (PySem.W.findObj_own E.xf.hdC hno rfl (by rw [hl, hu])) (handed_of ru) ⟨v, H1, I1.tok _, ru, q⟩
/-! ### methods and classes, what they raise wished for at the caller's slots -/
def tMethS (C : Addr) (m : Str) (sp : Sp) (E : L2.St → XK) (ta : TE) (t : TA) : TE := fun σ H Q => ta σ H fun x H1 => ∃ a dx fs, x = .ref a ∧ H1 a = some (.ins C dx fs) ∧ fs.lookup m = none ∧ t σ H1 fun vs H2 => sp (x :: vs) H2 Q (E σ)
def tMakeS (C : Addr) (sp : Sp) (E : L2.St → XK) (t : TA) : TE := fun σ H Q => t σ H fun vs H1 => ∀ x dx, H1 x = none → H1 dx = none → dx ≠ x → sp (.ref x :: vs) (upd (upd H1 dx (.own x)) x (.ins C dx [])) (fun v H2 => v = .non ∧ Q (.ref x) H2) (E σ)
section
variable {X : Cx} {CX : CXT} {k : Nat} {f C : Addr} {fd : FuncData} {ps : List Str} {sp : Sp} {E : L2.St → XK} {x m : Str} {p pos apos : Pos} {e o : Expr} {es : List Expr} {ta : TE} {t : TA}
theorem pe_methS {pl : Sem Bool} (he : PE X o ta) (c : L2.Cls X.K C) (hm : Meth X.K C m f) (F : FnOk X.prog X.w X.K X.mg X.base CX k f fd ps sp) (hr : Room k X.A) (hb : Binds X.K fd ps []) (hx : ∀ σ, PassesAt CX X σ (E σ)) (ha : PA X (e :: es) t)
    (hst : starEach (e :: es) X.env = (false, eval e X.env) :: starEach es X.env := by rfl) (hpl : (backTo pos (starEach es X.env)).any (·.1) = false := by rfl)
    (ht : eval (.Call (.Attribute o m apos) (e :: es) [] pos) X.env = (do
      let ov ← eval o X.env
      standAt apos.atName
      let (f, first) ← holding [ov] (getMethod ov m pl)
      callWith pos f first (backTo pos (starEach (e :: es) X.env)) (backToKw pos (keywordEach [] X.env))) := by rfl) : PE X (.Call (.Attribute o m apos) (e :: es) [] pos) (tMethS C m sp E ta t) := by
  refine ⟨fun pins s σ H Q I h => PySem.W.methodCall_KW (pl := pl) (thn (he.run pins s σ H _ I h) fun u s1 q1 => ?_) ht⟩
  obtain ⟨y, H1, I1, ry, a, dx, fs, ey, ea, l, q⟩ := q1
  subst ey
  cases (show u = Value.ref a from ry)
  refine getmeth_ok I1 ea c hm l (PySem.W.callWith_K (first := [.ref a]) (h₀ := X.base) I.ok.mod.kin hm.kp (thn (ha.run pos pins s1 σ H1 _ I1 q) fun us s2 q2 => ?_) hst hpl)
  obtain ⟨vs, H2, I2, r, q2⟩ := q2
  exact ⟨I2.kIn, run_fnS (us := .ref a :: us) (vs := .ref a :: vs) F hr hb (hx σ) I2 (.cons rfl r) q2⟩
theorem run_makeS {pins : List (Addr × Obj)} {σ : L2.St} {H : Hp} {s : Shared} {Q : VK} {us : List Value} {vs : List V} (M : Mk X.K C f) (F : FnOk X.prog X.w X.K X.mg X.base CX k f fd ps sp) (hr : Room (k + 1) X.A) (hb : Binds X.K fd ps []) (hx : PassesAt CX X σ (E σ)) (I : Inv X pins σ H s) (r : Vals vs us)
    (h : ∀ y dx, H y = none → H dx = none → dx ≠ y → sp (.ref y :: vs) (upd (upd H dx (.own y)) y (.ins C dx [])) (fun v H2 => v = .non ∧ Q (.ref y) H2) (E σ)) : wpAny (model X.prog X.w) X.A (call (.ref C) us) (EP X pins σ Q) X.xe s := by
  have hq := h (s.heap.objs.size + 1) s.heap.objs.size (I.hok.fresh (Nat.le_succ _)) (I.hok.fresh (Nat.le_refl _)) (Nat.ne_of_lt (Nat.lt_succ_self _))
  have J := Inv.made (C := C) I
  have r2 : Vals (V.ref (s.heap.objs.size + 1) :: vs) (Value.ref (s.heap.objs.size + 1) :: us) := .cons rfl r
  have hl : (Value.ref (s.heap.objs.size + 1) :: us).length = ps.length := r2.length.symm.trans (F.len _ _ _ _ hq)
  have bi := hb _ (Value.ref (s.heap.objs.size + 1) :: us) J.kIn (by rw [List.append_nil]; exact hl)
  rw [List.append_nil] at bi
  refine wpAny_call (make_map (f := f) I.kIn M.makes M.init (beq_iff_eq.mp M.fn) (codeAny_mono (F.run _ X.stack _ _ ⟨_, []⟩ _ _ _ (E σ) (hr.make C us []) (J.env0.make C us []) bi r2 hq) fun rs s1 q1 => ?_))
  cases rs with
  | error er => exact hx pins _ _ er s1 J q1
  | ok fl =>
    cases fl with
    | ret u =>
      obtain ⟨v, H3, I3, rv, ev, q3⟩ := J.after q1
      subst ev
      exact ⟨rv, ⟨V.ref (s.heap.objs.size + 1), H3, I3, rfl, q3⟩⟩
    | next => exact q1.elim
    | brk => exact q1.elim
    | cont => exact q1.elim
theorem pe_makeS (M : Mk X.K C f) (F : FnOk X.prog X.w X.K X.mg X.base CX k f fd ps sp) (hr : Room (k + 1) X.A) (hg : Gl X x) (hm : X.mg x = some (.ref C)) (hb : Binds X.K fd ps []) (hx : ∀ σ, PassesAt CX X σ (E σ)) (ha : PA X (e :: es) t)
    (hdb : (x == ("__debug__" : Str)) = false := by decide) (he : starEach (e :: es) X.env = (false, eval e X.env) :: starEach es X.env := by rfl) (hpl : (backTo pos (starEach es X.env)).any (·.1) = false := by rfl) : PE X (.Call (.Name x p) (e :: es) [] pos) (tMakeS C sp E t) := by
  refine ⟨fun pins s σ H Q I h => wpAny_Call_Name_kw (ld_glob I hg hm (PySem.W.callWith_K (h₀ := X.base) I.ok.mod.kin M.kp (thn (ha.run pos pins s σ H _ I h) fun us s1 q1 => ?_) he hpl) hdb)⟩
  obtain ⟨vs, H1, I1, r, q⟩ := q1
  exact ⟨I1.kIn, run_makeS M F hr hb (hx σ) I1 r q⟩
end
/-! ### xs[i] op= e, xs a list -/
section
open PySem.Spec PyProof.Rows
variable {X : Cx}
theorem get_list : PGet X (rIxL X.K) := by
  intro pins s σ H o i ov iv Q I ro ri h
  obtain ⟨p, xs, k, z, rfl, rfl, hq, he, q⟩ := h
  cases ro
  obtain ⟨t, rfl⟩ := ri
  obtain ⟨its, r, pl, hz⟩ := I.list hq
  obtain ⟨j, h1, h2, h3, h4, h5⟩ := atI_get he
  obtain ⟨w, ew, rw'⟩ := r.get h2
  have hl := r.length
  have hn := line63
  have fin : EP X pins σ Q w s := ⟨z, H, I, rw', q⟩
  by_cases h0 : 0 ≤ k
  · have hj : k.toNat = j := by
      rw [seqIndex_of h0 h5] at h1
      exact Option.some.inj h1
    exact wpAny_getItem_list pl.isList h0 (by omega) (by rw [hj]; simpa using ew) fin
  · have hj : (k + (its.toArray.size : Int)).toNat = j := by
      rw [seqIndex_neg (by omega) h4] at h1
      rw [List.size_toArray, ← hl]
      exact Option.some.inj h1
    exact wpAny_getItem_list_neg pl.isList (by omega) (by rw [List.size_toArray] <;> omega) (by omega) (by rw [hj]; simpa using ew) fin
end
/-! ### the drawing -/
theorem log2_lt60 {t : Int} (h0 : 0 < t) (h : t < 1152921504606846976) : t.natAbs.log2 < 9000 := by
  have h1 : t.natAbs < 2 ^ 60 := by
    have : (2 : Nat) ^ 60 = 1152921504606846976 := by decide
    omega
  exact Nat.lt_trans ((Nat.log2_lt (by omega)).mpr h1) (by decide)
abbrev s__law_take : Stmt := top 17
abbrev N__law_take : List Str := ["_law_box_here", "_law_top", "_law_found", "_law_once"]
abbrev P__law_take : List Str := ["_law_box_here", "_law_top"]
theorem sc__law_take : FnScope N__law_take P__law_take (defScope s__law_take) := ⟨rfl, rfl, rfl, by decide +kernel, rfl, by decide +kernel, by decide +kernel⟩
def spTake : Sp := fun vs H Q _ => ∃ (b : Addr) (top n : Int), vs = [.ref b, .int top] ∧ BoxAt H b n ∧ 0 < top ∧ top < 1152921504606846976 ∧ n < 1048576 ∧ ∀ r H', 0 ≤ r → r < top → Keep b H H' → BoxAt H' b (n + 1) → Q (.int r) H'
section
variable {P : Program} {w : World} {K : PySem.W.Frag} {mg : Str → Option Value} {base : Heap}
theorem ok_take {f : Addr} {fd : FuncData} {k : Nat} (F : Fun K "_law_take" "_law_take" s__law_take f fd) : FnOk P w K mg base CX0 (k + 1) f fd P__law_take spTake := by
  have nd := sc__law_take.nd
  refine F.ok sc__law_take (fun vs H Q E h => ?_) (fun cdv A outer s H vs Q E hr h => ?_)
  · obtain ⟨b, top, n, rfl, _⟩ := h
    rfl
  · obtain ⟨b, top, n, rfl, ⟨x, y, z, hb, hx, hy, hy2, hz, hzn⟩, ht, ht2, hn, q⟩ := h
    refine ⟨_, (pss_cons (ps_if (pt_cmpR op_gt (pe_ix (r := rIxL K) ix_list (pv 0) (pe_int) (fun _ _ => rfl)) (pe_int) (nomark _)) (pss_cons (ps_set (i := 2) nd rfl (Or.inl rfl) (pe_op op_mod (pe_ix (r := rIxL K) ix_list (pv 0) (pe_int) (fun _ _ => rfl)) (pv 1)))
      (pss_cons (ps_asg (pe_op op_fdivW (pe_ix (r := rIxL K) ix_list (pv 0) (pe_int) (fun _ _ => rfl)) (pv 1)) (pg_sub (pv 0) (pe_int) set_list))
      (pss_one (ps_ret (pv 2))))) pss_nil)
      (pss_cons (ps_asg (pe_op op_add (pe_ix (r := rIxL K) ix_list (pv 0) (pe_int) (fun _ _ => rfl)) (pe_int)) (pg_sub (pv 0) (pe_int) set_list))
      (pss_cons (ps_set (i := 3) nd rfl (Or.inl rfl) (pe_op op_mod (pe_op op_pow (pe_op op_add (pe_ix (r := rIxL K) ix_list (pv 0) (pe_int) (fun _ _ => rfl)) (pe_op op_mul (pe_int) (pe_ix (r := rIxL K) ix_list (pv 0) (pe_int) (fun _ _ => rfl)))) (pe_int)) (pe_int)))
      (pss_one (ps_ret (pe_op op_mod (pe_op op_fdivW (pe_op op_mod (pe_op op_add (pe_op op_mul (pv 3) (pe_op op_add (pe_op op_mod (pv 3) (pe_int)) (pe_int))) (pe_op op_mul (pe_ix (r := rIxL K) ix_list (pv 0) (pe_int) (fun _ _ => rfl)) (pe_int))) (pe_int)) (pe_int)) (pv 1))))))), ?_⟩
    have hL : SqL K H b [.int x, .int y, .int z] := SqL.of hb
    have cw : ∀ i : Int, CDivW i top := fun i => ⟨ht, log2_lt60 ht ht2⟩
    have cw6 : ∀ i : Int, CDivW i 64 := fun i => ⟨by decide, by decide⟩
    have cw1 := cw x
    walk_at "ev"
    refine ite2 (fun e => ?_) (fun e => ?_)
    · have e1 : 0 < x := of_decide_eq_true e
      walk_at "ev"
      exact q _ _ (Int.emod_nonneg _ (by omega)) (Int.emod_lt_of_pos _ ht) (keep_upd (Keep.refl _ _)) ⟨_, _, _, upd_same, Int.ediv_nonneg hx (by omega), hy, hy2, hz, by omega⟩
    · walk_at "ev"
      exact q _ _ (Int.emod_nonneg _ (by omega)) (Int.emod_lt_of_pos _ ht) (keep_upd (Keep.refl _ _)) ⟨_, _, _, upd_same, hx, hy, hy2, by omega, by omega⟩
end
abbrev s__law_box : Stmt := top 16
abbrev N__law_box : List Str := ["_law_script", "_law_k", "_law_cell"]
abbrev P__law_box : List Str := ["_law_script", "_law_k"]
theorem sc__law_box : FnScope N__law_box P__law_box (defScope s__law_box) := ⟨rfl, rfl, rfl, by decide +kernel, rfl, by decide +kernel, by decide +kernel⟩
def spBox (K : PySem.W.Frag) : Sp := fun vs H Q _ => ∃ (a : Addr) (ns : List Int) (k : Int), vs = [.ref a, .int k] ∧ SqL K H a (ns.map V.int) ∧ 0 ≤ k ∧ k ≤ 100000 ∧ ∀ p H', H p = none → Same H H' → BoxAt H' p 0 → Q (.ref p) H'
section
variable {P : Program} {w : World} {K : PySem.W.Frag} {mg : Str → Option Value} {base : Heap}
theorem ok_box {f : Addr} {fd : FuncData} {k : Nat} (F : Fun K "_law_box" "_law_box" s__law_box f fd) (T : Blt mg) : FnOk P w K mg base CX0 (k + 1) f fd P__law_box (spBox K) := by
  have nd := sc__law_box.nd
  refine F.ok sc__law_box (fun vs H Q E h => ?_) (fun cdv A outer s H vs Q E hr h => ?_)
  · obtain ⟨b, top, n, rfl, _⟩ := h
    rfl
  · obtain ⟨a, ns, k, rfl, hL, h0, h1, q⟩ := h
    refine ⟨_, (pss_cons (ps_set (i := 2) nd rfl (Or.inl rfl) (pe_int))
      (pss_cons (ps_if (pt_cmpR op_lt (pv 1) (pe_callB (r := rLenQ K) call_len_seq (by rfl) T.b_len (by decide +kernel) (pa_cons (pv 0) pa_nil)) (nomark _)) (pss_one (ps_set (i := 2) nd rfl (Or.inl rfl) (pe_ix (r := rIxL K) ix_list (pv 0) (pv 1) (fun _ _ => rfl)))) pss_nil)
      (pss_one (ps_ret (pe_lst (pa_cons (pe_op op_mul (pe_callB call_abs (by rfl) T.b_abs (by decide +kernel) (pa_cons (pv 2) pa_nil)) (pe_callTy call_int1 (by rfl) T.b_int (by decide +kernel) (pa_cons (pe_cmpR op_ge (pe_callB call_abs (by rfl) T.b_abs (by decide +kernel) (pa_cons (pv 2) pa_nil)) (pe_op op_pow (pe_int) (pe_int)) (nomark _)) pa_nil))) (pa_cons (pe_op op_add (pe_op op_add (pe_op op_mod (pv 2) (pe_int)) (pe_op op_mul (pe_int) (pv 1))) (pe_int)) (pa_cons (pe_int) pa_nil)))))))), ?_⟩
    have fin : ∀ c : Int, ∀ p, H p = none → Q (.ref p) (upd H p (.lst [.int ((if c < 0 then -c else c) * (if decide ((10 : Int) ^ 18 ≤ if c < 0 then -c else c) then 1 else 0)), .int (c % 2147483629 + 7919 * k + 11), .int 0])) := by
      intro c p hp
      refine q p _ hp (same_new hp) ⟨_, _, _, upd_same, ?_, ?_, ?_, by omega, by omega⟩
      · refine Int.mul_nonneg ?_ ?_
        · split <;> omega
        · split <;> omega
      · have := Int.emod_nonneg c (show (2147483629 : Int) ≠ 0 by decide)
        omega
      · have := Int.emod_lt_of_pos c (show (0 : Int) < 2147483629 by decide)
        omega
    walk_at "ev"
    refine ite2 (fun e => ?_) (fun e => ?_)
    · have e1 : k < ((ns.map V.int).length : Int) := of_decide_eq_true e
      rw [List.length_map] at e1
      obtain ⟨c, hc, hat⟩ := at_ints h0 e1
      walk_at "ev"
      exact fin c
    · walk_at "ev"
      exact fin 0
end
/-! ### the mathematics of primes -/
def Rough (n d : Int) : Prop := ∀ e : Int, 2 ≤ e → e < d → ¬ e ∣ n
inductive Fac : Int → List Int → Prop
  | one : Fac 1 []
  | cons {n p q : Int} {ps : List Int} : 2 ≤ p → n = p * q → 1 ≤ q → Rough n p → Fac q ps → Fac n (p :: ps)
theorem Fac.uniq : ∀ {n : Int} {xs ys : List Int}, Fac n xs → Fac n ys → xs = ys := by
  intro n xs ys h
  induction h generalizing ys with
  | one =>
    intro k
    cases k with
    | one => rfl
    | cons h1 h2 h3 h4 h5 =>
      rename_i p q ps
      have : 2 * 1 ≤ p * q := Int.mul_le_mul h1 h3 (by omega) (by omega)
      omega
  | cons h1 h2 h3 h4 h5 ih =>
    rename_i n p q ps
    intro k
    cases k with
    | one =>
      have : 2 * 1 ≤ p * q := Int.mul_le_mul h1 h3 (by omega) (by omega)
      omega
    | cons g1 g2 g3 g4 g5 =>
      rename_i p' q' ps'
      have e : p = p' := by
        rcases Int.lt_trichotomy p p' with l | l | l
        · exact absurd ⟨q, h2⟩ (g4 p h1 l)
        · exact l
        · exact absurd ⟨q', g2⟩ (h4 p' g1 l)
      subst e
      have e2 : q = q' := by
        have : p * q = p * q' := by omega
        exact Int.eq_of_mul_eq_mul_left (by omega) this
      subst e2
      rw [ih g5]
theorem Fac.len1 {n : Int} {xs : List Int} (h : Fac n xs) (e : xs.length = 1) : xs = [n] := by
  cases h with
  | one => simp at e
  | cons h1 h2 h3 h4 h5 =>
    rename_i p q ps
    have : ps = [] := by
      cases ps with
      | nil => rfl
      | cons a r => simp at e
    subst this
    cases h5 with
    | one =>
      rw [h2, Int.mul_one]
theorem Fac.self {n : Int} (h : 2 ≤ n) (r : Rough n n) : Fac n [n] := .cons h (by omega) (by omega) r .one
theorem Rough.of_fac {n : Int} (h : Fac n [n]) : 2 ≤ n ∧ Rough n n := by
  cases h with
  | cons h1 h2 h3 h4 h5 => exact ⟨h1, h4⟩
theorem Rough.step {n d : Int} (h : Rough n d) (e : ¬ d ∣ n) : Rough n (d + 1) := fun c h1 h2 => by
  by_cases q : c = d
  · rw [q]; exact e
  · exact h c h1 (by omega)
theorem Rough.quot {n p q d : Int} (h : Rough n d) (e : n = p * q) : Rough q d := fun c h1 h2 k => h c h1 h2 (by rw [e]; exact Int.dvd_trans k (Int.dvd_mul_left p q))
/-- nothing below d divides n, d squared is above n: n has no divisor at all -/
theorem Rough.top {n d : Int} (h : Rough n d) (hd : 2 ≤ d) (hn : 2 ≤ n) (e : n < d * d) : Rough n n := fun c h1 h2 k => by
  obtain ⟨q, hq⟩ := k
  by_cases hc : c < d
  · exact h c h1 hc ⟨q, hq⟩
  · have hq0 : 0 < q := by
      apply Int.lt_of_not_ge
      intro z
      have : c * q ≤ 0 := Int.mul_nonpos_of_nonneg_of_nonpos (by omega) z
      omega
    have hq1 : q ≠ 1 := by
      intro z
      rw [z] at hq
      omega
    have hqd : q < d := by
      apply Int.lt_of_not_ge
      intro z
      have : d * d ≤ c * q := Int.mul_le_mul (by omega) z (by omega) (by omega)
      omega
    exact h q (by omega) hqd ⟨c, by rw [hq, Int.mul_comm]⟩
theorem dvd_iff {n d : Int} : n % d = 0 ↔ d ∣ n := ⟨Int.dvd_of_emod_eq_zero, Int.emod_eq_zero_of_dvd⟩
/-- a divisor taken out -/
theorem Fac.out {n num d : Int} {found : List Int} (h : ∀ ps, Fac num ps → Fac n (found ++ ps)) (hd : 2 ≤ d) (h1 : 1 ≤ num) (r : Rough num d) (e : num % d = 0) :
    (∀ ps, Fac (num / d) ps → Fac n ((found ++ [d]) ++ ps)) ∧ 1 ≤ num / d ∧ Rough (num / d) d ∧ 2 * (num / d) ≤ num := by
  have e1 : num = d * (num / d) := (Int.mul_ediv_cancel' (Int.dvd_of_emod_eq_zero e)).symm
  generalize num / d = q at *
  have q0 : 0 < q := by
    apply Int.lt_of_not_ge
    intro z
    have : d * q ≤ 0 := Int.mul_nonpos_of_nonneg_of_nonpos (by omega) z
    omega
  refine ⟨fun ps f => ?_, q0, r.quot e1, ?_⟩
  · rw [List.append_assoc]
    exact h _ (.cons hd e1 q0 r f)
  · have : 2 * q ≤ d * q := Int.mul_le_mul_of_nonneg_right hd (by omega)
    omega
theorem pow_len {L : Nat} {num n : Int} (h : 2 ^ L * num.toNat ≤ n.toNat) (h1 : 1 ≤ num) (hn : n ≤ 1000000000) : L ≤ 30 := by
  apply Nat.le_of_not_gt
  intro z
  have a : 2 ^ 31 ≤ 2 ^ L := Nat.pow_le_pow_right (by decide) z
  have b : 2 ^ L * 1 ≤ 2 ^ L * num.toNat := Nat.mul_le_mul_left _ (by omega)
  have h31 : (2 : Nat) ^ 31 = 2147483648 := by decide
  omega
theorem pow_step {L : Nat} {num q n : Int} (h : 2 ^ L * num.toNat ≤ n.toNat) (e : 2 * q ≤ num) : 2 ^ (L + 1) * q.toNat ≤ n.toNat := by
  have : 2 ^ (L + 1) * q.toNat = 2 ^ L * (2 * q.toNat) := by rw [Nat.pow_succ, Nat.mul_assoc]
  rw [this]
  exact Nat.le_trans (Nat.mul_le_mul_left _ (by omega)) h
/-! ### kinds of things -/
inductive Kd (K : PySem.W.Frag) (H : Hp) : V → String → Prop
  | non : Kd K H .non "NoneType"
  | bl (b : Bool) : Kd K H (.bl b) "bool"
  | int (i : Int) : Kd K H (.int i) "int"
  | str (x : Str) : Kd K H (.str x) "str"
  | lst {a : Addr} {xs : List V} : SqL K H a xs → Kd K H (.ref a) "list"
  | tup {a : Addr} {xs : List V} : SqT K H a xs → Kd K H (.ref a) "tuple"
theorem Kd.ty {K : PySem.W.Frag} {H : Hp} {x : V} {t : String} (h : Kd K H x t) : TyX K H x (.type t) := by
  cases h with
  | non => exact .base .non
  | bl b => exact .base (.bl b)
  | int i => exact .base (.int i)
  | str x => exact .base (.str x)
  | lst h =>
    rcases h with (h | ⟨o, h⟩) | ⟨o, its, n, h1, h2, _⟩
    · exact .base (.lst h)
    · exact .base (.frz h)
    · exact .kList h1 h2
  | tup h =>
    rcases h with (h | ⟨o, h⟩) | ⟨o, its, n, h1, h2, _⟩
    · exact .base (.tup h)
    · exact .fTuple h
    · exact .kTuple h1 h2
theorem Kd.same {K : PySem.W.Frag} {H H' : Hp} {x : V} {t : String} (h : Kd K H x t) (e : Same H H') : Kd K H' x t := by
  cases h with
  | non => exact .non
  | bl b => exact .bl b
  | int i => exact .int i
  | str x => exact .str x
  | lst h => exact .lst (e.seq h)
  | tup h => exact .tup (same_t e h)
def tis (t c : String) : Bool := t == c || (t == "bool" && c == "int")
theorem Kd.kit {K : PySem.W.Frag} {H : Hp} {x : V} {t : String} (h : Kd K H x t) : PySem.W.kitOne K (.type t) (.type "int") = some (tis t "int") ∧ PySem.W.kitOne K (.type t) (.type "bool") = some (tis t "bool") ∧ PySem.W.kitOne K (.type t) (.type "str") = some (tis t "str") ∧ PySem.W.kitOne K (.type t) (.type "list") = some (tis t "list") ∧ PySem.W.kitOne K (.type t) (.type "tuple") = some (tis t "tuple") := by
  cases h <;> exact ⟨kit_ty (by decide +kernel), kit_ty (by decide +kernel), kit_ty (by decide +kernel), kit_ty (by decide +kernel), kit_ty (by decide +kernel)⟩
theorem kit_lt {K : PySem.W.Frag} {t : String} {a b : Bool} (h1 : PySem.W.kitOne K (.type t) (.type "list") = some a) (h2 : PySem.W.kitOne K (.type t) (.type "tuple") = some b) : PySem.W.kitAny K (.type t) [.type "list", .type "tuple"] = some (a || b) := by
  refine kitAny_cons h1 (fun e => kitAny_cons h2 (fun e2 => ?_) (fun e2 => ?_)) (fun e => by rw [e]; rfl)
  · rw [e, e2]
    exact kitAny_nil
  · rw [e, e2]
    rfl
/-! ### == of lists of ints -/
theorem dp_ints {K : PySem.W.Frag} {H : Hp} : ∀ ns : List Int, DpAll K H (ns.map V.int) (ns.map PyData.int)
  | [] => .nil
  | n :: r => .cons (.int n) (dp_ints r)
theorem eqv_ints : ∀ ns ms : List Int, PyData.eqvAll (ns.map PyData.int) (ms.map PyData.int) = decide (ns = ms)
  | [], [] => by simp [PyData.eqvAll]
  | [], _ :: _ => by simp [PyData.eqvAll]
  | _ :: _, [] => by simp [PyData.eqvAll]
  | a :: r, b :: t => by
    simp only [List.map_cons, PyData.eqvAll, PyData.eqv, eqv_ints r t]
    by_cases h : a = b <;> by_cases h' : r = t <;> simp [h, h']
theorem eqd_ints {K : PySem.W.Frag} {H : Hp} {a b : Addr} {ns ms : List Int} {Q : VK} (ha : SqL K H a (ns.map V.int)) (hb : SqL K H b (ms.map V.int)) (q : Q (.bl (decide (ns = ms))) H) : rEqD K (.ref a) (.ref b) H Q := by
  refine ⟨_, _, .lst ha (dp_ints ns), .lst hb (dp_ints ms), PySem.W.ke_shaped_ints ns, PySem.W.ke_shaped_ints ms, ?_⟩
  have e : PyData.eqv (.list (ns.map PyData.int)) (.list (ms.map PyData.int)) = decide (ns = ms) := by
    rw [PyData.eqv]
    exact eqv_ints ns ms
  rw [e]
  exact q
/-! ### the law's own comparing, of like things -/
abbrev s__law_same : Stmt := top 19
abbrev N__law_same : List Str := ["_law_found", "_law_due", "_law_one", "_law_two"]
abbrev P__law_same : List Str := ["_law_found", "_law_due"]
theorem sc__law_same : FnScope N__law_same P__law_same (defScope s__law_same) := ⟨rfl, rfl, rfl, by decide +kernel, rfl, by decide +kernel, by decide +kernel⟩
def Fit : Nat → PyData → Prop
  | 0, .list _ => False
  | 0, .tuple _ => False
  | n + 1, .list ds => ds.length ≤ 4000 ∧ ∀ e ∈ ds, Fit n e
  | n + 1, .tuple ds => ds.length ≤ 4000 ∧ ∀ e ∈ ds, Fit n e
  | _, .dict _ => False
  | _, _ => True
theorem dpall_len {K : PySem.W.Frag} {H : Hp} : ∀ {xs : List V} {ds : List PyData}, DpAll K H xs ds → xs.length = ds.length
  | _, _, .nil => rfl
  | _, _, .cons _ h => by rw [List.length_cons, List.length_cons, dpall_len h]
theorem dpall_get {K : PySem.W.Frag} {H : Hp} : ∀ {xs : List V} {ds : List PyData} {i : Nat} {x : V}, DpAll K H xs ds → xs[i]? = some x → ∃ d, ds[i]? = some d ∧ Dp K H x d
  | _, _, _, _, .nil, h => by simp at h
  | _, _, 0, _, .cons (d := d) h1 h2, h => ⟨d, rfl, by
      have e := Option.some.inj h
      rw [← e]
      exact h1⟩
  | _, _, i + 1, _, .cons h1 h2, h => dpall_get (i := i) h2 h
mutual
theorem dp_same {K : PySem.W.Frag} {H H' : Hp} (e : Same H H') : ∀ {x : V} {d : PyData}, Dp K H x d → Dp K H' x d
  | _, _, .non => .non
  | _, _, .bl b => .bl b
  | _, _, .int i => .int i
  | _, _, .str x => .str x
  | _, _, .lst h a => .lst (e.seq h) (dpall_same e a)
  | _, _, .tup h a => .tup (same_t e h) (dpall_same e a)
theorem dpall_same {K : PySem.W.Frag} {H H' : Hp} (e : Same H H') : ∀ {xs : List V} {ds : List PyData}, DpAll K H xs ds → DpAll K H' xs ds
  | _, _, .nil => .nil
  | _, _, .cons h a => .cons (dp_same e h) (dpall_same e a)
end
def spSame (K : PySem.W.Frag) (n : Nat) : Sp := fun vs H Q _ => ∃ (x y : V) (d : PyData), vs = [x, y] ∧ Dp K H x d ∧ Dp K H y d ∧ Fit n d ∧ ∀ H', Same H H' → Q (.bl true) H'
/-- a comprehension over pairs -/
theorem lc_pairs {J : It} {xs ys : List V} {g : TG} {tt : TT} {te : TE} {vs : List Nat} {σ : L2.St} {H1 : Hp} {D : Addr} {Qd : Hp → Prop} (Pv : Nat → Hp → Prop) (h0 : Pv 0 (upd H1 D (.lst [])))
    (hgo : ∀ i H, Pv i H → i < xs.length → J.go i H) (hy : ∀ i H v H', Pv i H → i < xs.length → J.yld i H v H' → ∃ T x y, v = .ref T ∧ H T = none ∧ H' = upd H T (.tup [x, y]) ∧ xs[i]? = some x ∧ ys[i]? = some y)
    (hst : ∀ H, Pv xs.length H → J.stop xs.length H)
    (hs : ∀ i x y T H H', xs[i]? = some x → ys[i]? = some y → Pv i H → H T = none → H' = upd H T (.tup [x, y]) → g (.ref T) (wipe σ vs) H' fun σ2 H2 => wipe σ2 vs = wipe σ vs ∧ tt σ2 H2 fun b H3 =>
      if b = true then te σ2 H3 fun y H4 => ∃ acc, H4 D = some (.lst acc) ∧ acc.length < sizeLine ∧ Pv (i + 1) (upd H4 D (.lst (acc ++ [y]))) else Pv (i + 1) H3) (hd : ∀ H, Pv xs.length H → Qd H) :
    ∃ W : Nat → Nat → Hp → Prop, (∃ m, W 0 m (upd H1 D (.lst []))) ∧ ∀ i m H, W i m H →
      (J.stop i H ∧ Qd H) ∨ (J.go i H ∧ ∃ Nx : Hp → Prop, (∀ H', Nx H' → ∃ m', m' < m ∧ W (i + 1) m' H') ∧ ∀ x H', J.yld i H x H' → g x (wipe σ vs) H' fun σ2 H2 => wipe σ2 vs = wipe σ vs ∧ tt σ2 H2 fun b H3 =>
        if b = true then te σ2 H3 fun y H4 => ∃ acc, H4 D = some (.lst acc) ∧ acc.length < sizeLine ∧ Nx (upd H4 D (.lst (acc ++ [y]))) else Nx H3) := by
  refine ⟨fun i m H => m = xs.length - i ∧ i ≤ xs.length ∧ Pv i H, ⟨xs.length, by simp, Nat.zero_le _, h0⟩, ?_⟩
  rintro i m H ⟨rfl, hi, p⟩
  by_cases hlt : i < xs.length
  · refine .inr ⟨hgo i H p hlt, Pv (i + 1), fun H' p' => ⟨xs.length - (i + 1), by omega, rfl, hlt, p'⟩, fun v H' yl => ?_⟩
    obtain ⟨T, x, y, rfl, hT, e, f1, f2⟩ := hy i H v H' p hlt yl
    exact hs i x y T H H' f1 f2 p hT e
  · have e : i = xs.length := by omega
    subst e
    exact .inl ⟨hst H p, hd H p⟩
theorem q_dec {Q : VK} {x : V} {H : Hp} (h : Q (.bl true) H) : Q (.bl (decide (x = x))) H := by
  rw [decide_eq_true rfl]
  exact h
theorem all_true : ∀ n : Nat, (List.replicate n true).all id = true
  | 0 => rfl
  | n + 1 => by
    rw [List.replicate_succ, List.all_cons, all_true n]
    rfl
section
variable {P : Program} {w : World} {K : PySem.W.Frag} {mg : Str → Option Value} {base : Heap}
theorem same_step {f : Addr} {fd : FuncData} {n : Nat} {spI : Sp} (D__law_same : Df K mg "_law_same" s__law_same P__law_same f fd) (T : Blt mg) (G__law_same : FnOk P w K mg base CX0 n f fd P__law_same spI) (hG : ∀ m, n = m + 1 → spI = spSame K m) : FnOk P w K mg base CX0 (n + 1) f fd P__law_same (spSame K n) := by
  have nd := sc__law_same.nd
  refine D__law_same.F.ok sc__law_same (fun vs H Q E h => ?_) (fun cdv A outer s H vs Q E hr h => ?_)
  · obtain ⟨x, y, d, rfl, _⟩ := h
    rfl
  · obtain ⟨x, y, d, rfl, hx, hy, hf, q⟩ := h
    refine ⟨_, (pss_cons (ps_if (pt_val (pe_callB (r := rIsiT K) call_isiT (by rfl) T.b_isinstance (by decide +kernel) (pa_cons (pv 1) (pa_cons (pe_tup (pa_cons (pe_bltn (v := .ty "list") (by rfl) T.b_list (by decide +kernel) rfl) (pa_cons (pe_bltn (v := .ty "tuple") (by rfl) T.b_tuple (by decide +kernel) rfl) pa_nil))) pa_nil)))) (pss_cons (ps_if (PW.pt (pw_or (pt_cmpR op_ne (pe_callB (r := rIsi K) call_isi (by rfl) T.b_isinstance (by decide +kernel) (pa_cons (pv 0) (pa_cons (pe_bltn (v := .ty "list") (by rfl) T.b_list (by decide +kernel) rfl) pa_nil))) (pe_callB (r := rIsi K) call_isi (by rfl) T.b_isinstance (by decide +kernel) (pa_cons (pv 1) (pa_cons (pe_bltn (v := .ty "list") (by rfl) T.b_list (by decide +kernel) rfl) pa_nil))) (nomark _)) (pw_or1 (pt_cmpR op_ne (pe_callB (r := rIsi K) call_isi (by rfl) T.b_isinstance (by decide +kernel) (pa_cons (pv 0) (pa_cons (pe_bltn (v := .ty "tuple") (by rfl) T.b_tuple (by decide +kernel) rfl) pa_nil))) (pe_callB (r := rIsi K) call_isi (by rfl) T.b_isinstance (by decide +kernel) (pa_cons (pv 1) (pa_cons (pe_bltn (v := .ty "tuple") (by rfl) T.b_tuple (by decide +kernel) rfl) pa_nil))) (nomark _))))) (pss_one (ps_ret (pe_bl))) pss_nil)
      (pss_cons (ps_if (pt_cmpR op_ne (pe_callB (r := rLenQ K) call_len_seq (by rfl) T.b_len (by decide +kernel) (pa_cons (pv 0) pa_nil)) (pe_callB (r := rLenQ K) call_len_seq (by rfl) T.b_len (by decide +kernel) (pa_cons (pv 1) pa_nil)) (nomark _)) (pss_one (ps_ret (pe_bl))) pss_nil)
      (pss_one (ps_ret (pe_callB (r := rAll K) (cr_all rfl) (by rfl) T.b_all (by decide +kernel) (pa_cons (pe_lc (own := [("_law_one", 2), ("_law_two", 3)]) (g := gTup K 2 (gCons (gName 2) (gCons (gName 3) gNil))) (by rfl) nd (RZ.pi_zipA (by rfl) T.b_zip (pa_cons (pv 0) (pa_cons (pv 1) pa_nil))) (blkOk_by (own := [("_law_one", 2), ("_law_two", 3)]) (N := N__law_same) (sc := defScope s__law_same) (by decide +kernel)) (fun _ _ _ _ _ => (pg_tup (by rfl) (pgs_cons (pg_name (i := 2) nd rfl (Or.inl rfl)) (pgs_cons (pg_name (i := 3) nd rfl (Or.inl rfl)) pgs_nil)))) (fun _ _ _ _ _ => pts_nil) (fun _ _ _ _ _ => (pe_call G__law_same (hr.mono (by omega)) (by rfl) D__law_same.g D__law_same.F.kp D__law_same.b .nil pass0 (pa_cons (pv 2) (pa_cons (pv 3) pa_nil))))) pa_nil)))))) pss_nil)
      (pss_cons (ps_if (PW.pt (pw_or (pt_cmpR op_isN (pv 1) (pe_non) (nomark _)) (pw_or1 (pt_val (pe_callB (r := rIsi K) call_isi (by rfl) T.b_isinstance (by decide +kernel) (pa_cons (pv 1) (pa_cons (pe_bltn (v := .ty "str") (by rfl) T.b_str (by decide +kernel) rfl) pa_nil))))))) (pss_one (ps_ret (pe_and (pe_cmpR op_eq (pv 0) (pv 1) (nomark _)) (pe_one (pe_cmpR op_eq (pe_callB (r := rIsi K) call_isi (by rfl) T.b_isinstance (by decide +kernel) (pa_cons (pv 0) (pa_cons (pe_bltn (v := .ty "str") (by rfl) T.b_str (by decide +kernel) rfl) pa_nil))) (pe_callB (r := rIsi K) call_isi (by rfl) T.b_isinstance (by decide +kernel) (pa_cons (pv 1) (pa_cons (pe_bltn (v := .ty "str") (by rfl) T.b_str (by decide +kernel) rfl) pa_nil))) (nomark _)))))) pss_nil)
      (pss_one (ps_ret (pe_and (pe_callB (r := rIsi K) call_isi (by rfl) T.b_isinstance (by decide +kernel) (pa_cons (pv 0) (pa_cons (pe_bltn (v := .ty "int") (by rfl) T.b_int (by decide +kernel) rfl) pa_nil))) (pe_and (pe_cmpR op_eq (pe_callB (r := rIsi K) call_isi (by rfl) T.b_isinstance (by decide +kernel) (pa_cons (pv 0) (pa_cons (pe_bltn (v := .ty "bool") (by rfl) T.b_bool (by decide +kernel) rfl) pa_nil))) (pe_callB (r := rIsi K) call_isi (by rfl) T.b_isinstance (by decide +kernel) (pa_cons (pv 1) (pa_cons (pe_bltn (v := .ty "bool") (by rfl) T.b_bool (by decide +kernel) rfl) pa_nil))) (nomark _)) (pe_one (pe_cmpR op_eq (pv 0) (pv 1) (nomark _))))))))), ?_⟩
    cases hx with
    | non =>
      cases hy
      walk_at "ev"
      intro p hp
      generalize hH : upd _ p _ = H1
      obtain ⟨sm, hp1⟩ := newO hH hp
      have kd : Kd K H1 .non "NoneType" := .non
      have ty := kd.ty
      obtain ⟨k1, k2, k3, k4, k5⟩ := kd.kit
      have ka := kit_lt k4 k5
      walk_at "ev"
      exact q_dec (q _ sm)
    | bl b =>
      cases hy
      walk_at "ev"
      intro p hp
      generalize hH : upd _ p _ = H1
      obtain ⟨sm, hp1⟩ := newO hH hp
      have kd : Kd K H1 (.bl b) "bool" := .bl b
      have ty := kd.ty
      obtain ⟨k1, k2, k3, k4, k5⟩ := kd.kit
      have ka := kit_lt k4 k5
      walk_at "ev"
      exact q_dec (q _ sm)
    | int i =>
      cases hy
      walk_at "ev"
      intro p hp
      generalize hH : upd _ p _ = H1
      obtain ⟨sm, hp1⟩ := newO hH hp
      have kd : Kd K H1 (.int i) "int" := .int i
      have ty := kd.ty
      obtain ⟨k1, k2, k3, k4, k5⟩ := kd.kit
      have ka := kit_lt k4 k5
      walk_at "ev"
      exact q_dec (q _ sm)
    | str z =>
      cases hy
      walk_at "ev"
      intro p hp
      generalize hH : upd _ p _ = H1
      obtain ⟨sm, hp1⟩ := newO hH hp
      have kd : Kd K H1 (.str z) "str" := .str z
      have ty := kd.ty
      obtain ⟨k1, k2, k3, k4, k5⟩ := kd.kit
      have ka := kit_lt k4 k5
      walk_at "ev"
      exact q_dec (q _ sm)
    | lst hs ha =>
      rename_i a xs ds
      cases hy with
      | lst ht hb =>
      rename_i b ys
      have el : ys.length = xs.length := (dpall_len hb).trans (dpall_len ha).symm
      have el' : V.int (xs.length : Int) = V.int (ys.length : Int) := by rw [el]
      cases n with
      | zero => exact hf.elim
      | succ n =>
      have hf' : ds.length ≤ 4000 ∧ ∀ e ∈ ds, Fit n e := hf
      have hS := hG n rfl
      subst hS
      walk_at "ev"
      intro p hp
      generalize hH : upd _ p _ = H1
      obtain ⟨sm, hp1⟩ := newO hH hp
      have hs1 := sm.seq hs
      have ht1 := sm.seq ht
      have kd : Kd K H1 (.ref a) "list" := .lst hs1
      have ty := kd.ty
      have kd' : Kd K H1 (.ref b) "list" := .lst ht1
      have ty' := kd'.ty
      obtain ⟨k1, k2, k3, k4, k5⟩ := kd.kit
      have ka := kit_lt k4 k5
      walk_at "ev"
      refine .inl ⟨hs1, ht1, fun D hD => ?_⟩
      refine lc_pairs (xs := xs) (ys := ys) (fun i H' => Hold (Same H1 H' ∧ H' D = some (.lst ((List.replicate i true).map V.bl)))) (.mk ⟨same_new hD, upd_same⟩) ?_ ?_ ?_ ?_ ?_
      · intro i H' hP hi
        obtain ⟨sm2, hD2⟩ := hP.un
        have hi2 : i < ys.length := by omega
        exact ⟨xs, ys, _, _, sm2.seq hs1, sm2.seq ht1, List.getElem?_eq_getElem hi, List.getElem?_eq_getElem hi2⟩
      · intro i H' v H'' hP hi yl
        obtain ⟨sm2, hD2⟩ := hP.un
        obtain ⟨T, x, y, e1, e2, e3, f1, f2⟩ := yl
        exact ⟨T, x, y, e1, e2, e3, f1 _ (sm2.seq hs1), f2 _ (sm2.seq ht1)⟩
      · intro H' hP
        obtain ⟨sm2, hD2⟩ := hP.un
        exact ⟨xs, ys, sm2.seq hs1, sm2.seq ht1, .inl (Nat.le_refl _)⟩
      · intro i x y T' H' H'' hx hy hP hT e
        obtain ⟨sm2, hD2⟩ := hP.un
        obtain ⟨sm3, hT3⟩ := newO e.symm hT
        have hT4 : SqT K H'' T' [x, y] := SqT.of hT3
        obtain ⟨d, hd, hdx⟩ := dpall_get ha hx
        obtain ⟨d', hd', hdy⟩ := dpall_get hb hy
        have ed : d' = d := Option.some.inj (hd'.symm.trans hd)
        subst ed
        have sm4 : Same H H'' := (sm.trans sm2).trans sm3
        have dx := dp_same sm4 hdx
        have dy := dp_same sm4 hdy
        have ft := hf'.2 _ (List.mem_of_getElem? hd)
        have hil : i < xs.length := (List.getElem?_eq_some_iff.mp hx).1
        have hdl := dpall_len ha
        have hlen : i ≤ 4000 := by omega
        walk_at "ev"
        intro H5 sm5
        have hD5 := sm5 _ _ (sm3 _ _ hD2)
        refine ⟨_, hD5, szm (by simp; omega), .mk ⟨same_mut ((sm2.trans sm3).trans sm5) hD, ?_⟩⟩
        rw [upd_same, List.replicate_succ', List.map_append]
        rfl
      · intro H' hP
        obtain ⟨sm2, hD2⟩ := hP.un
        refine ⟨D, List.replicate xs.length true, rfl, SqL.of hD2, ?_⟩
        rw [all_true]
        exact q _ (sm.trans sm2)
    | tup hs ha =>
      rename_i a xs ds
      cases hy with
      | tup ht hb =>
      rename_i b ys
      have el : ys.length = xs.length := (dpall_len hb).trans (dpall_len ha).symm
      have el' : V.int (xs.length : Int) = V.int (ys.length : Int) := by rw [el]
      cases n with
      | zero => exact hf.elim
      | succ n =>
      have hf' : ds.length ≤ 4000 ∧ ∀ e ∈ ds, Fit n e := hf
      have hS := hG n rfl
      subst hS
      walk_at "ev"
      intro p hp
      generalize hH : upd _ p _ = H1
      obtain ⟨sm, hp1⟩ := newO hH hp
      have hs1 := same_t sm hs
      have ht1 := same_t sm ht
      have kd : Kd K H1 (.ref a) "tuple" := .tup hs1
      have ty := kd.ty
      have kd' : Kd K H1 (.ref b) "tuple" := .tup ht1
      have ty' := kd'.ty
      obtain ⟨k1, k2, k3, k4, k5⟩ := kd.kit
      have ka := kit_lt k4 k5
      walk_at "ev"
      refine .inr ⟨hs1, ht1, fun D hD => ?_⟩
      refine lc_pairs (xs := xs) (ys := ys) (fun i H' => Hold (Same H1 H' ∧ H' D = some (.lst ((List.replicate i true).map V.bl)))) (.mk ⟨same_new hD, upd_same⟩) ?_ ?_ ?_ ?_ ?_
      · intro i H' hP hi
        obtain ⟨sm2, hD2⟩ := hP.un
        have hi2 : i < ys.length := by omega
        exact ⟨xs, ys, _, _, same_t sm2 hs1, same_t sm2 ht1, List.getElem?_eq_getElem hi, List.getElem?_eq_getElem hi2⟩
      · intro i H' v H'' hP hi yl
        obtain ⟨sm2, hD2⟩ := hP.un
        obtain ⟨T, x, y, e1, e2, e3, f1, f2⟩ := yl
        exact ⟨T, x, y, e1, e2, e3, f1 _ (same_t sm2 hs1), f2 _ (same_t sm2 ht1)⟩
      · intro H' hP
        obtain ⟨sm2, hD2⟩ := hP.un
        exact ⟨xs, ys, same_t sm2 hs1, same_t sm2 ht1, .inl (Nat.le_refl _)⟩
      · intro i x y T' H' H'' hx hy hP hT e
        obtain ⟨sm2, hD2⟩ := hP.un
        obtain ⟨sm3, hT3⟩ := newO e.symm hT
        have hT4 : SqT K H'' T' [x, y] := SqT.of hT3
        obtain ⟨d, hd, hdx⟩ := dpall_get ha hx
        obtain ⟨d', hd', hdy⟩ := dpall_get hb hy
        have ed : d' = d := Option.some.inj (hd'.symm.trans hd)
        subst ed
        have sm4 : Same H H'' := (sm.trans sm2).trans sm3
        have dx := dp_same sm4 hdx
        have dy := dp_same sm4 hdy
        have ft := hf'.2 _ (List.mem_of_getElem? hd)
        have hil : i < xs.length := (List.getElem?_eq_some_iff.mp hx).1
        have hdl := dpall_len ha
        have hlen : i ≤ 4000 := by omega
        walk_at "ev"
        intro H5 sm5
        have hD5 := sm5 _ _ (sm3 _ _ hD2)
        refine ⟨_, hD5, szm (by simp; omega), .mk ⟨same_mut ((sm2.trans sm3).trans sm5) hD, ?_⟩⟩
        rw [upd_same, List.replicate_succ', List.map_append]
        rfl
      · intro H' hP
        obtain ⟨sm2, hD2⟩ := hP.un
        refine ⟨D, List.replicate xs.length true, rfl, SqL.of hD2, ?_⟩
        rw [all_true]
        exact q _ (sm.trans sm2)
theorem ok_same {f : Addr} {fd : FuncData} (D__law_same : Df K mg "_law_same" s__law_same P__law_same f fd) (T : Blt mg) : ∀ n : Nat, FnOk P w K mg base CX0 (n + 1) f fd P__law_same (spSame K n)
  | 0 => same_step (spI := fun _ _ _ _ => False) D__law_same T ⟨fun _ _ _ _ h => h.elim, fun _ _ _ _ _ _ _ _ _ _ _ _ _ h => h.elim⟩ (fun m h => by omega)
  | n + 1 => same_step D__law_same T (ok_same D__law_same T n) (fun m h => by cases h; rfl)
end
theorem srt_ext : ∀ {l m : List Int}, l.Pairwise (· < ·) → m.Pairwise (· < ·) → (∀ k, k ∈ l ↔ k ∈ m) → l = m
  | [], [], _, _, _ => rfl
  | [], y :: m, _, _, h => by
    have := (h y).mpr List.mem_cons_self
    simp at this
  | x :: l, [], _, _, h => by
    have := (h x).mp List.mem_cons_self
    simp at this
  | x :: l, y :: m, hl, hm, h => by
    obtain ⟨hx, hl'⟩ := List.pairwise_cons.mp hl
    obtain ⟨hy, hm'⟩ := List.pairwise_cons.mp hm
    have e : x = y := by
      have a1 := (h x).mp List.mem_cons_self
      have a2 := (h y).mpr List.mem_cons_self
      rcases List.mem_cons.mp a1 with e | e
      · exact e
      · rcases List.mem_cons.mp a2 with e2 | e2
        · exact e2.symm
        · have := hy x e
          have := hx y e2
          omega
    subst e
    rw [srt_ext hl' hm' fun k => ?_]
    constructor
    · intro hk
      rcases List.mem_cons.mp ((h k).mp (List.mem_cons_of_mem _ hk)) with e | e
      · have := hx k hk
        omega
      · exact e
    · intro hk
      rcases List.mem_cons.mp ((h k).mpr (List.mem_cons_of_mem _ hk)) with e | e
      · have := hy k hk
        omega
      · exact e
/-! ### all divisors, rising -/
/-- ds is the rising list of all that divides n -/
def IsDv (n : Int) (ds : List Int) : Prop := ds.Pairwise (· < ·) ∧ ∀ k, k ∈ ds ↔ 1 ≤ k ∧ k ∣ n
theorem IsDv.uniq {n : Int} {l m : List Int} (a : IsDv n l) (b : IsDv n m) : l = m := srt_ext a.1 b.1 fun k => (a.2 k).trans (b.2 k).symm
theorem sq_lt {a b : Int} (ha : 0 ≤ a) (h : a * a < b * b) (hb : 0 ≤ b) : a < b := by
  apply Int.lt_of_not_ge
  intro z
  have : b * b ≤ a * a := Int.mul_le_mul z z hb ha
  omega
/-- low: those below c; high: the partners of those whose square is less, falling -/
structure Half (n c : Int) (low high : List Int) : Prop where
  up : low.Pairwise (· < ·)
  mem : ∀ k, k ∈ low ↔ 1 ≤ k ∧ k < c ∧ k ∣ n
  down : high.Pairwise (· > ·)
  part : ∀ y, y ∈ high ↔ ∃ d, 1 ≤ d ∧ d < c ∧ d * d < n ∧ y * d = n
  sq : ∀ d, 1 ≤ d → d < c → d * d ≤ n
theorem Half.start (n : Int) : Half n 1 [] [] := ⟨.nil, fun k => ⟨fun h => by simp at h, fun ⟨a, b, _⟩ => by omega⟩, .nil, fun y => ⟨fun h => by simp at h, fun ⟨d, a, b, _⟩ => by omega⟩, fun d a b => by omega⟩
theorem Half.skip {n c : Int} {low high : List Int} (h : Half n c low high) (hc : 1 ≤ c) (e : ¬ c ∣ n) (s : c * c ≤ n) : Half n (c + 1) low high := by
  refine ⟨h.up, fun k => ?_, h.down, fun y => ?_, fun d a b => ?_⟩
  · rw [h.mem]
    constructor
    · rintro ⟨a, b, d⟩
      exact ⟨a, by omega, d⟩
    · rintro ⟨a, b, d⟩
      refine ⟨a, ?_, d⟩
      have : k ≠ c := fun z => e (z ▸ d)
      omega
  · rw [h.part]
    constructor
    · rintro ⟨d, a, b, x, z⟩
      exact ⟨d, a, by omega, x, z⟩
    · rintro ⟨d, a, b, x, z⟩
      refine ⟨d, a, ?_, x, z⟩
      have : d ≠ c := fun w => e ⟨y, by rw [← w, Int.mul_comm]; exact z.symm⟩
      omega
  · by_cases z : d = c
    · rw [z]; exact s
    · exact h.sq d a (by omega)
theorem pw_append {R : Int → Int → Prop} {l : List Int} {x : Int} (h : l.Pairwise R) (k : ∀ y ∈ l, R y x) : (l ++ [x]).Pairwise R := by
  rw [List.pairwise_append]
  exact ⟨h, List.pairwise_singleton _ _, fun a ha b hb => by
    have e : b = x := by simpa using hb
    rw [e]
    exact k a ha⟩
theorem Half.low {n c : Int} {low high : List Int} (h : Half n c low high) (hc : 1 ≤ c) (e : c ∣ n) (s : c * c ≤ n) :
    (c * c < n → Half n (c + 1) (low ++ [c]) (high ++ [n / c])) ∧ (¬ c * c < n → Half n (c + 1) (low ++ [c]) high) := by
  have up : (low ++ [c]).Pairwise (· < ·) := pw_append h.up fun y hy => ((h.mem y).mp hy).2.1
  have mem : ∀ k, k ∈ low ++ [c] ↔ 1 ≤ k ∧ k < c + 1 ∧ k ∣ n := fun k => by
    rw [List.mem_append, h.mem, List.mem_singleton]
    constructor
    · rintro (⟨a, b, d⟩ | z)
      · exact ⟨a, by omega, d⟩
      · rw [z]
        exact ⟨hc, by omega, e⟩
    · rintro ⟨a, b, d⟩
      by_cases z : k = c
      · exact .inr z
      · exact .inl ⟨a, by omega, d⟩
  have sq : ∀ d, 1 ≤ d → d < c + 1 → d * d ≤ n := fun d a b => by
    by_cases z : d = c
    · rw [z]; exact s
    · exact h.sq d a (by omega)
  have ec : n / c * c = n := Int.ediv_mul_cancel e
  constructor
  · intro lt
    refine ⟨up, mem, pw_append h.down fun y hy => ?_, fun y => ?_, sq⟩
    · obtain ⟨d, a, b, x, z⟩ := (h.part y).mp hy
      show n / c < y
      apply Int.lt_of_not_ge
      intro w
      have p1 : y * d ≤ n / c * d := Int.mul_le_mul_of_nonneg_right w (by omega)
      have q0 : 0 < n / c := by
        apply Int.lt_of_not_ge
        intro v
        have : n / c * c ≤ 0 := Int.mul_nonpos_of_nonpos_of_nonneg v (by omega)
        have : 1 * 1 ≤ c * c := Int.mul_le_mul hc hc (by omega) (by omega)
        omega
      have p2 : n / c * d < n / c * c := Int.mul_lt_mul_of_pos_left b q0
      omega
    · rw [List.mem_append, h.part, List.mem_singleton]
      constructor
      · rintro (⟨d, a, b, x, z⟩ | w)
        · exact ⟨d, a, by omega, x, z⟩
        · rw [w]
          exact ⟨c, hc, by omega, lt, ec⟩
      · rintro ⟨d, a, b, x, z⟩
        by_cases w : d = c
        · right
          subst w
          have : y * d = n / d * d := by omega
          exact Int.eq_of_mul_eq_mul_right (by omega) this
        · exact .inl ⟨d, a, by omega, x, z⟩
  · intro nlt
    refine ⟨up, mem, h.down, fun y => ?_, sq⟩
    rw [h.part]
    constructor
    · rintro ⟨d, a, b, x, z⟩
      exact ⟨d, a, by omega, x, z⟩
    · rintro ⟨d, a, b, x, z⟩
      refine ⟨d, a, ?_, x, z⟩
      have : d ≠ c := fun w => nlt (w ▸ x)
      omega
theorem Half.done {n c : Int} {low high : List Int} (h : Half n c low high) (hn : 1 ≤ n) (hc : 1 ≤ c) (e : n < c * c) : IsDv n (low ++ high.reverse) := by
  constructor
  · rw [List.pairwise_append]
    refine ⟨h.up, ?_, fun x hx y hy => ?_⟩
    · rw [List.pairwise_reverse]
      exact h.down
    · obtain ⟨a, b, d⟩ := (h.mem x).mp hx
      obtain ⟨d', a', b', s', z'⟩ := (h.part y).mp (List.mem_reverse.mp hy)
      have sx := h.sq x a b
      -- y * y > n ≥ x * x
      have y0 : 0 < y := by
        apply Int.lt_of_not_ge
        intro v
        have : y * d' ≤ 0 := Int.mul_nonpos_of_nonpos_of_nonneg v (by omega)
        omega
      have yd : d' < y := by
        apply Int.lt_of_not_ge
        intro v
        have : y * d' ≤ d' * d' := Int.mul_le_mul_of_nonneg_right v (by omega)
        omega
      have : y * d' < y * y := Int.mul_lt_mul_of_pos_left yd y0
      exact sq_lt (by omega) (by omega) (by omega)
  · intro k
    rw [List.mem_append, List.mem_reverse, h.mem, h.part]
    constructor
    · rintro (⟨a, b, d⟩ | ⟨d, a, b, x, z⟩)
      · exact ⟨a, d⟩
      · refine ⟨?_, ⟨d, z.symm⟩⟩
        show 0 < k
        apply Int.lt_of_not_ge
        intro v
        have : k * d ≤ 0 := Int.mul_nonpos_of_nonpos_of_nonneg (by omega) (by omega)
        omega
    · rintro ⟨a, b⟩
      by_cases kc : k < c
      · exact .inl ⟨a, kc, b⟩
      · right
        obtain ⟨d, hd⟩ := b
        have d0 : 0 < d := by
          apply Int.lt_of_not_ge
          intro v
          have : k * d ≤ 0 := Int.mul_nonpos_of_nonneg_of_nonpos (by omega) v
          omega
        have dc : d < c := by
          apply Int.lt_of_not_ge
          intro v
          have : c * c ≤ k * d := Int.mul_le_mul (by omega) v (by omega) (by omega)
          omega
        have dk : d < k := by omega
        have : d * d < k * d := Int.mul_lt_mul_of_pos_right dk d0
        exact ⟨d, by omega, dc, by omega, hd.symm⟩
theorem half_len {m : Int} (hm : 1 ≤ m) (hm2 : m ≤ 1000000) : ∀ c : Nat, 1 ≤ c → (∃ (c' : Nat) (low high : List Int), 1 ≤ c' ∧ c' ≤ c ∧ m < (c' : Int) * c' ∧ Half m c' low high ∧ low.length + high.length + 2 ≤ 2 * c') ∨ (∃ low high : List Int, Half m c low high ∧ low.length + high.length + 2 ≤ 2 * c) := by
  intro c
  induction c with
  | zero => intro h; omega
  | succ c ih =>
    intro _
    by_cases c0 : c = 0
    · subst c0
      exact .inr ⟨[], [], Half.start m, by simp⟩
    · rcases ih (by omega) with ⟨c', low, high, a1, a2, a3, a4, a5⟩ | ⟨low, high, a4, a5⟩
      · exact .inl ⟨c', low, high, a1, by omega, a3, a4, a5⟩
      · by_cases z : m < (c : Int) * c
        · exact .inl ⟨c, low, high, by omega, by omega, z, a4, a5⟩
        · have e1 : (((c + 1 : Nat) : Int)) = (c : Int) + 1 := by omega
          by_cases dv : (c : Int) ∣ m
          · obtain ⟨b1, b2⟩ := a4.low (by omega) dv (by omega)
            by_cases lt : (c : Int) * c < m
            · refine .inr ⟨_, _, by rw [e1]; exact b1 lt, ?_⟩
              simp
              omega
            · refine .inr ⟨_, _, by rw [e1]; exact b2 lt, ?_⟩
              simp
              omega
          · refine .inr ⟨low, high, by rw [e1]; exact a4.skip (by omega) dv (by omega), by omega⟩
theorem IsDv.len {m : Int} {ds : List Int} (h : IsDv m ds) (hm : 1 ≤ m) (hm2 : m ≤ 1000000) : ds.length ≤ 2000 := by
  rcases half_len hm hm2 1001 (by decide) with ⟨c', low, high, a1, a2, a3, a4, a5⟩ | ⟨low, high, a4, a5⟩
  · have e := h.uniq (a4.done hm (by omega) a3)
    rw [e, List.length_append, List.length_reverse]
    omega
  · have big : m < ((1001 : Nat) : Int) * ((1001 : Nat) : Int) := by
      have e : ((1001 : Nat) : Int) * ((1001 : Nat) : Int) = 1002001 := by decide
      omega
    have e := h.uniq (a4.done hm (by omega) big)
    rw [e, List.length_append, List.length_reverse]
    omega
theorem dv_one : IsDv 1 [1] := by
  refine ⟨List.pairwise_singleton _ _, fun k => ?_⟩
  rw [List.mem_singleton]
  constructor
  · intro e
    rw [e]
    exact ⟨by decide, Int.dvd_refl _⟩
  · rintro ⟨a, b⟩
    exact Int.le_antisymm (Int.le_of_dvd (by decide) b) a
/-- d divides m * p, p a prime -/
theorem dv_prime {k m p : Int} (hk : 1 ≤ k) (hp : 2 ≤ p) (r : Rough p p) (h : k ∣ m * p) : k ∣ m ∨ ∃ e, k = e * p := by
  by_cases hpk : p ∣ k
  · obtain ⟨e, he⟩ := hpk
    exact .inr ⟨e, by rw [he, Int.mul_comm]⟩
  · left
    have hg : Nat.gcd k.natAbs p.natAbs = 1 := by
      have d1 := Nat.gcd_dvd_left k.natAbs p.natAbs
      have d2 := Nat.gcd_dvd_right k.natAbs p.natAbs
      generalize Nat.gcd k.natAbs p.natAbs = g at *
      have gp : (g : Int) ∣ p := by
        rw [← Int.natAbs_dvd_natAbs, Int.natAbs_natCast]
        exact d2
      have gk : (g : Int) ∣ k := by
        rw [← Int.natAbs_dvd_natAbs, Int.natAbs_natCast]
        exact d1
      have gle : (g : Int) ≤ p := Int.le_of_dvd (by omega) gp
      have g0 : g ≠ 0 := fun z => by
        rw [z] at gp
        have := Int.zero_dvd.mp gp
        omega
      by_cases g1 : g = 1
      · exact g1
      · exfalso
        by_cases gpe : (g : Int) = p
        · rw [gpe] at gk
          exact hpk gk
        · exact r g (by omega) (by omega) gp
    have h1 : k.natAbs ∣ m.natAbs * p.natAbs := by
      rw [← Int.natAbs_mul]
      exact Int.natAbs_dvd_natAbs.mpr h
    have h2 := Nat.Coprime.dvd_of_dvd_mul_right (show Nat.Coprime k.natAbs p.natAbs from hg) h1
    exact Int.natAbs_dvd_natAbs.mp h2
theorem dv_step {m p : Int} {found out : List Int} (h : IsDv m found) (hp : 2 ≤ p) (r : Rough p p) (hs : out.Pairwise (· < ·)) (hm : ∀ k, k ∈ out ↔ k ∈ found ++ found.map (· * p)) : IsDv (m * p) out := by
  refine ⟨hs, fun k => ?_⟩
  rw [hm, List.mem_append, List.mem_map, h.2]
  constructor
  · rintro (⟨a, b⟩ | ⟨x, hx, e⟩)
    · exact ⟨a, Int.dvd_trans b (Int.dvd_mul_right m p)⟩
    · obtain ⟨a, b⟩ := (h.2 x).mp hx
      rw [← e]
      refine ⟨?_, Int.mul_dvd_mul_right p b⟩
      have : 1 * 1 ≤ x * p := Int.mul_le_mul a (by omega) (by omega) (by omega)
      omega
  · rintro ⟨a, b⟩
    rcases dv_prime a hp r b with z | ⟨e, he⟩
    · exact .inl ⟨a, z⟩
    · right
      refine ⟨e, (h.2 e).mpr ⟨?_, ?_⟩, he.symm⟩
      · show 0 < e
        apply Int.lt_of_not_ge
        intro v
        have : e * p ≤ 0 := Int.mul_nonpos_of_nonpos_of_nonneg (by omega) (by omega)
        omega
      · rw [he] at b
        exact Int.dvd_of_mul_dvd_mul_right (by omega) b
abbrev s_divisors : Stmt := top 8
abbrev N_divisors : List Str := ["number", "low", "high", "divisor"]
abbrev P_divisors : List Str := ["number"]
theorem sc_divisors : FnScope N_divisors P_divisors (defScope s_divisors) := ⟨rfl, rfl, rfl, by decide +kernel, rfl, by decide +kernel, by decide +kernel⟩
def spDiv : Sp := fun vs H Q _ => ∃ (n : Int), vs = [.int n] ∧ 1 ≤ n ∧ n ≤ 1000000 ∧ ∀ ds l H', IsDv n ds → H l = none → Same H H' → H' l = some (.lst (ds.map V.int)) → Q (.ref l) H'
section
variable {P : Program} {w : World} {K : PySem.W.Frag} {mg : Str → Option Value} {base : Heap}
theorem ok_divisors {f : Addr} {fd : FuncData} {k : Nat} (F : Fun K "divisors" "divisors" s_divisors f fd) (T : Blt mg) : FnOk P w K mg base CX0 (k + 1) f fd P_divisors spDiv := by
  have nd := sc_divisors.nd
  refine F.ok sc_divisors (fun vs H Q E h => ?_) (fun cdv A outer s H vs Q E hr h => ?_)
  · obtain ⟨n, rfl, _⟩ := h
    rfl
  · obtain ⟨n, rfl, h1, h2, q⟩ := h
    refine ⟨_, (pss_cons (ps_set (i := 1) nd rfl (Or.inl rfl) (pe_lst pa_nil))
      (pss_cons (ps_set (i := 2) nd rfl (Or.inl rfl) (pe_lst pa_nil))
      (pss_cons (ps_set (i := 3) nd rfl (Or.inl rfl) (pe_int))
      (pss_cons (ps_while PassesOwn.never (pt_cmpR op_le (pe_op op_mul (pv 3) (pv 3)) (pv 0) (nomark _))
      (pss_cons (ps_if (pt_cmpR op_eq (pe_op op_mod (pv 0) (pv 3)) (pe_int) (nomark _)) (pss_cons (ps_expr (pe_bm PySem.F.plainAttrs_list PySem.F.slot_list_append PySem.F.type_list_append mt_append (pv 1) (pa_cons (pv 3) pa_nil)))
      (pss_one (ps_if (pt_cmpR op_lt (pe_op op_mul (pv 3) (pv 3)) (pv 0) (nomark _)) (pss_one (ps_expr (pe_bm PySem.F.plainAttrs_list PySem.F.slot_list_append PySem.F.type_list_append mt_append (pv 2) (pa_cons (pe_op op_fdiv (pv 0) (pv 3)) pa_nil)))) pss_nil))) pss_nil)
      (pss_one (ps_aug (i := 3) nd rfl (Or.inl rfl) (pe_int) ip_add))))
      (pss_one (ps_ret (pe_op op_cat (pv 1) (pe_revL (pv 2))))))))), ?_⟩
    walk_at "ev"
    intro a ha
    generalize hG1 : upd _ a _ = H1
    obtain ⟨sm1, hq1⟩ := newO hG1 ha
    walk_at "ev"
    intro b hb
    generalize hG2 : upd _ b _ = H2
    obtain ⟨sm2, hq2⟩ := newO hG2 hb
    have nab : a ≠ b := ne_of_none hq1 hb
    have hbf : H b = none := sm1.free hb
    refine ⟨fun m σ H' => ∃ (c : Int) (low high : List Int), σ = [some (.int n), some (.ref a), some (.ref b), some (.int c)] ∧ m = (n + 1 - c).toNat ∧ 1 ≤ c ∧ c ≤ 1001 ∧ c ≤ n + 1 ∧ Half n c low high ∧ low.length + high.length + 2 ≤ 2 * c.toNat ∧ Same H H' ∧ H' a = some (.lst (low.map V.int)) ∧ H' b = some (.lst (high.map V.int)), ⟨_, 1, [], [], rfl, rfl, by omega, by omega, by omega, Half.start n, by simp, sm1.trans sm2, sm2 _ _ hq1, hq2⟩, ?_⟩
    rintro m σ H' ⟨c, low, high, rfl, rfl, c1, c2, c3, hf, hl, sm, hqa, hqb⟩
    have cm : CMul c c := .inl ⟨by omega, by omega⟩
    walk_at "ev"
    refine ite2 (fun e => ?_) (fun e => ?_)
    · have e1 : c * c ≤ n := of_decide_eq_true e
      have cl : c ≤ c * c := by
        have : 1 * c ≤ c * c := Int.mul_le_mul_of_nonneg_right c1 (by omega)
        omega
      have c1000 : c ≤ 1000 := by
        apply Int.le_of_not_gt
        intro z
        have : 1001 * 1001 ≤ c * c := Int.mul_le_mul (by omega) (by omega) (by omega) (by omega)
        omega
      refine ⟨_, holdN, ?_⟩
      walk_at "ev"
      refine ite2 (fun e2 => ?_) (fun e2 => ?_)
      · have e3 : n % c = 0 := V.int.inj (of_decide_eq_true e2)
        obtain ⟨g1, g2⟩ := hf.low c1 (dvd_iff.mp e3) e1
        have hty : tyV K "list" (.ref a) H' := .inl ⟨rfl, _, SqL.of hqa⟩
        have hsa : (low.map V.int).length < sizeLine := by
          rw [List.length_map]
          exact szm (by omega)
        walk_at "ev"
        generalize hG3 : upd H' a _ = H3
        have hqa3 : H3 a = some (.lst ((low ++ [c]).map V.int)) := by
          rw [(mutO hG3).2, List.map_append]
          rfl
        have hqb3 : H3 b = some (.lst (high.map V.int)) := (mutO hG3).1 _ _ nab.symm hqb
        have sm3 : Same H H3 := by
          rw [← hG3]
          exact same_mut sm ha
        clear hG3
        refine ite2 (fun e4 => ?_) (fun e4 => ?_)
        · have e5 : c * c < n := of_decide_eq_true e4
          have hty3 : tyV K "list" (.ref b) H3 := .inl ⟨rfl, _, SqL.of hqb3⟩
          have hsb : (high.map V.int).length < sizeLine := by
            rw [List.length_map]
            exact szm (by omega)
          walk_at "ev"
          refine .mk ⟨(n + 1 - (c + 1)).toNat, by omega, c + 1, low ++ [c], high ++ [n / c], rfl, rfl, by omega, by omega, by omega, g1 e5, ?_, same_mut sm3 hbf, ?_, ?_⟩
          · simp
            omega
          · rw [upd_ne nab]
            exact hqa3
          · rw [upd_same, List.map_append]
            rfl
        · have e5 : ¬ c * c < n := fun z => e4 (decide_eq_true z)
          walk_at "ev"
          refine .mk ⟨(n + 1 - (c + 1)).toNat, by omega, c + 1, low ++ [c], high, rfl, rfl, by omega, by omega, by omega, g2 e5, ?_, sm3, hqa3, hqb3⟩
          simp
          omega
      · have e3 : ¬ n % c = 0 := fun z => e2 (decide_eq_true (congrArg V.int z))
        walk_at "ev"
        exact .mk ⟨(n + 1 - (c + 1)).toNat, by omega, c + 1, low, high, rfl, rfl, by omega, by omega, by omega, hf.skip c1 (fun z => e3 (dvd_iff.mpr z)) e1, by omega, sm, hqa, hqb⟩
    · have e1 : ¬ c * c ≤ n := fun z => e (decide_eq_true z)
      have hLb : SqL K H' b (high.map V.int) := SqL.of hqb
      walk_at "ev"
      intro r hr'
      generalize hG3 : upd _ r _ = H3
      obtain ⟨sm3, hq3⟩ := newO hG3 hr'
      have hqa3 := sm3 _ _ hqa
      have hsz : (low.map V.int).length + (high.map V.int).reverse.length ≤ sizeLine := by
        rw [List.length_map, List.length_reverse, List.length_map]
        exact szl (by omega)
      walk_at "ev"
      intro p hp
      generalize hG4 : upd _ p _ = H4
      obtain ⟨sm4, hq4⟩ := newO hG4 hp
      refine q (low ++ high.reverse) p H4 (hf.done h1 c1 (by omega)) ((sm.trans sm3).free hp) (sm.trans (sm3.trans sm4)) ?_
      rw [hq4, List.map_append, List.map_reverse]
end
/-! ### a list or a tuple -/
section
open PySem.Spec PyProof.Rows
variable {X : Cx}
def rIxQ (K : PySem.W.Frag) : R2 := fun x y H Q => ∃ p xs i v, x = .ref p ∧ y = .int i ∧ (SqL K H p xs ∨ SqT K H p xs) ∧ atI xs i = some v ∧ Q v H
theorem ix_seq : IxR X (rIxQ X.K) := by
  intro value slice pins s σ H x y v u Q I rx ry h hs
  obtain ⟨p, xs, i, z, e1, e2, hq | hq, he, q⟩ := h
  · exact ix_list value slice pins s σ H x y v u Q I rx ry ⟨p, xs, i, z, e1, e2, hq, he, q⟩ hs
  · exact ix_tup value slice pins s σ H x y v u Q I rx ry ⟨p, xs, i, z, e1, e2, hq, he, q⟩ hs
end
theorem sq_same {K : PySem.W.Frag} {H H' : Hp} {a : Addr} {xs : List V} (e : Same H H') (h : SqL K H a xs ∨ SqT K H a xs) : SqL K H' a xs ∨ SqT K H' a xs := by
  rcases h with h | h
  · exact .inl (e.seq h)
  · exact .inr (same_t e h)
/-! ### the refusals' own making -/
abbrev s_init : Stmt := inClass (top 2) 0
abbrev N_init : List Str := ["self", "what"]
theorem sc_init : FnScope N_init N_init (defScope s_init) := ⟨rfl, rfl, rfl, by decide +kernel, rfl, by decide +kernel, by decide +kernel⟩
def spInit (K : PySem.W.Frag) : Sp := fun vs H Q _ => ∃ (a C : Addr) (v : V), vs = [.ref a, v] ∧ OexC K C ∧ PySem.W.findIn K (.ref C) "what" = some none ∧ H a = some (exo a C none) ∧
  ∀ dx, H dx = none → dx ≠ a → Q .non (upd (upd H dx (exd dx [(("what" : Str), v)])) a (exo a C (some dx)))
section
variable {P : Program} {w : World} {K : PySem.W.Frag} {mg : Str → Option Value} {base : Heap}
theorem ok_init {f : Addr} {fd : FuncData} {k : Nat} (F : Fun K "__init__" "TurnError.__init__" s_init f fd) : FnOk P w K mg base CX0 (k + 1) f fd N_init (spInit K) := by
  refine F.ok sc_init (fun vs H Q E h => ?_) (fun cdv A outer s H vs Q E hr h => ?_)
  · obtain ⟨a, C, v, rfl, _⟩ := h
    rfl
  · obtain ⟨a, C, v, rfl, T, nw, ha, q⟩ := h
    refine ⟨_, pss_one (ps_ost (pv 0) (pv 1)), ?_⟩
    exact ⟨_, rfl, _, rfl, a, C, rfl, T, nw, .inl ⟨ha, q⟩⟩
end
/-- C(v), made to be raised -/
theorem mk_what {K : PySem.W.Frag} {C : Addr} {v : V} {Q : XK} {H1 : Hp} (E : ExK K C) (h : ∀ d H', H1 d = none → Same H1 H' → H' d = some (.xd [(("what" : Str), v)]) → Q (.ref C) (some d) H') : ∀ a, H1 a = none → spInit K (.ref a :: ([v] ++ [])) (upd H1 a (exo a C none))
    (fun v' H2 => v' = .non ∧ ∃ (d : Addr) (fs : List (Str × V)), H2 a = some (exo a C (some d)) ∧ H2 d = some (exd d fs) ∧ H1 d = none ∧ Q (.ref C) (some d) (upd (del H2 a) d (.xd fs))) (fun _ _ _ => False) := by
  intro a ha
  refine ⟨a, C, v, rfl, E.oex, E.nw, upd_same, fun dx hd ne => ?_⟩
  rw [upd_ne ne] at hd
  refine ⟨rfl, dx, _, upd_same, ?_, hd, h dx _ hd (fun b o e => ?_) upd_same⟩
  · rw [upd_ne ne, upd_same]
  · have n1 := ne_of_none e hd
    have n2 := ne_of_none e ha
    rw [upd_ne n1, del_ne n2, upd_ne n2, upd_ne n1, upd_ne n2]
    exact e
/-- what is told of the class of a refusal, under TurnError at CT -/
structure Ref (K : PySem.W.Frag) (CT C fI : Addr) : Prop where
  ek : ExK K C
  ini : PySem.W.findIn K (.ref C) "__init__" = some (some (.ref fI))
  em : PySem.W.exmOne K (.ref C) (.ref CT) = some true
  kv : PySem.W.kitOne K (.ref C) (.type "ValueError") = some true
  kt : PySem.W.kitOne K (.ref C) (.ref CT) = some true
abbrev s_is_whole : Stmt := top 7
abbrev N_is_whole : List Str := ["thing"]
abbrev P_is_whole : List Str := ["thing"]
theorem sc_is_whole : FnScope N_is_whole P_is_whole (defScope s_is_whole) := ⟨rfl, rfl, rfl, by decide +kernel, rfl, by decide +kernel, by decide +kernel⟩
def spWhole (K : PySem.W.Frag) : Sp := fun vs H Q _ => ∃ (x : V) (t : String), vs = [x] ∧ Kd K H x t ∧ Q (.bl (t == "int")) H
section
variable {P : Program} {w : World} {K : PySem.W.Frag} {mg : Str → Option Value} {base : Heap}
theorem ok_whole {f : Addr} {fd : FuncData} {k : Nat} (F : Fun K "is_whole" "is_whole" s_is_whole f fd) (T : Blt mg) : FnOk P w K mg base CX0 (k + 1) f fd P_is_whole (spWhole K) := by
  have nd := sc_is_whole.nd
  refine F.ok sc_is_whole (fun vs H Q E h => ?_) (fun cdv A outer s H vs Q E hr h => ?_)
  · obtain ⟨x, t, rfl, _⟩ := h
    rfl
  · obtain ⟨x, t, rfl, kd, q⟩ := h
    refine ⟨_, (pss_one (ps_ret (pe_and (pe_callB (r := rIsi K) call_isi (by rfl) T.b_isinstance (by decide +kernel) (pa_cons (pv 0) (pa_cons (pe_bltn (v := .ty "int") (by rfl) T.b_int (by decide +kernel) rfl) pa_nil))) (pe_one (pe_not (pe_callB (r := rIsi K) call_isi (by rfl) T.b_isinstance (by decide +kernel) (pa_cons (pv 0) (pa_cons (pe_bltn (v := .ty "bool") (by rfl) T.b_bool (by decide +kernel) rfl) pa_nil)))))))), ?_⟩
    have ty := kd.ty
    obtain ⟨k1, k2, k3, k4, k5⟩ := kd.kit
    walk_at "ev"
    cases kd
    all_goals (walk_at "ev"; exact q)
end
abbrev s__law_pick : Stmt := top 18
abbrev N__law_pick : List Str := ["_law_box_here", "_law_things"]
abbrev P__law_pick : List Str := ["_law_box_here", "_law_things"]
theorem sc__law_pick : FnScope N__law_pick P__law_pick (defScope s__law_pick) := ⟨rfl, rfl, rfl, by decide +kernel, rfl, by decide +kernel, by decide +kernel⟩
def spPick (K : PySem.W.Frag) : Sp := fun vs H Q _ => ∃ (b a : Addr) (xs : List V) (n : Int), vs = [.ref b, .ref a] ∧ BoxAt H b n ∧ SqL K H a xs ∧ a ≠ b ∧ 0 < (xs.length : Int) ∧ (xs.length : Int) < 1048576 ∧ n < 1048576 ∧ ∀ v H', v ∈ xs → Keep b H H' → BoxAt H' b (n + 1) → Q v H'
section
variable {P : Program} {w : World} {K : PySem.W.Frag} {mg : Str → Option Value} {base : Heap}
theorem ok_pick {f fT : Addr} {fd fdT : FuncData} {k : Nat} (F : Fun K "_law_pick" "_law_pick" s__law_pick f fd) (T : Blt mg) (D__law_take : Df K mg "_law_take" s__law_take P__law_take fT fdT) : FnOk P w K mg base CX0 (k + 2) f fd P__law_pick (spPick K) := by
  have G__law_take : FnOk P w K mg base CX0 (k + 1) fT fdT P__law_take spTake := ok_take D__law_take.F
  have nd := sc__law_pick.nd
  refine F.ok sc__law_pick (fun vs H Q E h => ?_) (fun cdv A outer s H vs Q E hr h => ?_)
  · obtain ⟨b, a, xs, n, rfl, _⟩ := h
    rfl
  · obtain ⟨b, a, xs, n, rfl, hb, hL, hne, h0, h1, hn, q⟩ := h
    refine ⟨_, (pss_one (ps_ret (pe_ix (r := rIxL K) ix_list (pv 1) (pe_call G__law_take (hr.mono (by omega)) (by rfl) D__law_take.g D__law_take.F.kp D__law_take.b .nil pass0 (pa_cons (pv 0) (pa_cons (pe_callB (r := rLenQ K) call_len_seq (by rfl) T.b_len (by decide +kernel) (pa_cons (pv 1) pa_nil)) pa_nil))) (fun _ _ => rfl)))), ?_⟩
    walk_at "ev"
    intro r H' hr0 hr1 hk hb'
    obtain ⟨v, hv, hat⟩ := at_some hr0 hr1
    have hL' := hk.seq hne hL
    walk_at "ev"
    exact q _ _ hv hk hb'
end
theorem keep_fresh {b D : Addr} {H H' : Hp} {o : HO} (h : Keep b H H') (n : H D = none) : Keep b H (upd H' D o) := fun a u na e => by
  rw [upd_ne (ne_of_none e n)]
  exact h a u na e
theorem BoxAt.upd {H : Hp} {b D : Addr} {n : Int} {o : HO} (h : BoxAt H b n) (e : D ≠ b) : BoxAt (L2.upd H D o) b n := by
  obtain ⟨x, y, z, a1, a2⟩ := h
  exact ⟨x, y, z, by rw [upd_ne e.symm]; exact a1, a2⟩
theorem dpl {K : PySem.W.Frag} {H : Hp} {a : Addr} (ns : List Int) (h : SqL K H a (ns.map V.int)) : Dp K H (.ref a) (.list (ns.map PyData.int)) := .lst h (dp_ints ns)
theorem fitl (ns : List Int) (h : ns.length ≤ 4000) : Fit 1 (.list (ns.map PyData.int)) := by
  refine ⟨by rw [List.length_map]; exact h, fun e he => ?_⟩
  obtain ⟨c, _, rfl⟩ := List.mem_map.mp he
  exact True.intro
theorem fit_ni {x : Str} {a : Int} : Fit 1 (.tuple [.str x, .int a]) := by
  refine ⟨by simp, fun e he => ?_⟩
  simp only [List.mem_cons, List.not_mem_nil, or_false] at he
  rcases he with h | h <;> rw [h] <;> exact True.intro
/-! ### a loop over enumerate -/
theorem for_enumL {K : PySem.W.Frag} {a : Addr} {xs : List V} {g : TG} {tb : TS} {D : Ends} {σ : L2.St} {H : Hp} (Pv : Nat → L2.St → Hp → Prop) (h0 : Pv 0 σ H) (hq : ∀ i σ H, Pv i σ H → SqL K H a xs)
    (hs : ∀ (i : Nat) (x : V) (T : Addr) (σ : L2.St) (H : Hp), xs[i]? = some x → Pv i σ H → H T = none → g (.ref T) σ (upd H T (.tup [.int (i : Nat), x])) fun σ2 H2 => tb { D with nx := Pv (i + 1), ct := Pv (i + 1), bk := D.nx } σ2 H2) (hd : ∀ σ H, Pv xs.length σ H → D.nx σ H) :
    ∃ W : Nat → Nat → L2.St → Hp → Prop, (∃ m, W 0 m σ H) ∧ ∀ i m σ H, W i m σ H →
      ((Ite K a).stop i H ∧ D.nx σ H) ∨ ((Ite K a).go i H ∧ ∃ N : L2.St → Hp → Prop, (∀ σ' H', N σ' H' → ∃ m', m' < m ∧ W (i + 1) m' σ' H') ∧ ∀ v H', (Ite K a).yld i H v H' → g v σ H' fun σ2 H2 => tb { D with nx := N, ct := N, bk := D.nx } σ2 H2) := by
  refine ⟨fun i m σ H => m = xs.length - i ∧ i ≤ xs.length ∧ Pv i σ H, ⟨xs.length, rfl, Nat.zero_le _, h0⟩, ?_⟩
  rintro i m σ H ⟨rfl, hi, p⟩
  have q := hq i σ H p
  by_cases hlt : i < xs.length
  · refine .inr ⟨⟨xs, xs[i], q, List.getElem?_eq_getElem hlt⟩, Pv (i + 1), fun σ' H' p' => ⟨xs.length - (i + 1), by omega, rfl, hlt, p'⟩, fun v H' y => ?_⟩
    obtain ⟨T, x', rfl, hT, rfl, f1⟩ := y
    exact hs i x' T σ H (f1 xs q) p hT
  · have e : i = xs.length := by omega
    subst e
    exact .inl ⟨⟨xs, q, Nat.le_refl _⟩, hd σ H p⟩
/-! ### enumerate of a tuple -/
section
open PySem.Spec PyProof.Rows
abbrev tIt (t : Addr) : Obj := { cls := .type "tuple_iterator", data := .fields #[.ref t, .int 0 0] }
abbrev tEn (i : Addr) : Obj := { cls := .type "enumerate", data := .fields #[.none, .bool false, .ref i, rawInt 0, .none, .none] }
theorem meets_enumT (l : Addr) (items : Array Value) (n : Nat) (dct : Option Addr) (sl : Array (Option Value)) :
    Meets (Builtin.«enumerate.__new__» ⟨[.type "enumerate", .ref l], []⟩) (fun _ R s => s.heap.get? l = some { cls := .type "tuple", dict := dct, data := .seq items n, slots := sl } ∧
      R (.ok (.ret (.ref (s.heap.push (tIt l)).objs.size))) { s with heap := (s.heap.push (tIt l)).push (tEn s.heap.objs.size) }) :=
  .of_wp fun prog w A R s h => by
    obtain ⟨hp, g, d, tk, os⟩ := s
    obtain ⟨hl, h⟩ := h
    have hsub := sub_enumerate
    have hT : Heap.IsTuple (Shared.heap ⟨hp, g, d, tk, os⟩) l items := ⟨_, hl, rfl, n, rfl⟩
    have q1 : ∀ {A' : Around} {E : Value → Shared → Prop} {Q : Value → Shared → Prop}, Q (.ref hp.objs.size) ⟨hp.push (tIt l), g, d, tk, os⟩ → wpAny (model prog w) A' (pyIter (.ref l)) Q E ⟨hp, g, d, tk, os⟩ := fun q => wpAny_pyIter_tuple hT q
    wp_walk using AutoSeq1.wpAny_loadPart' hl
    refine wpAny_stack_any fun st => wpAny_pure ?_
    split
    · rename_i c _ _ _ _ _
      cases (c == Value.type "enumerate")
      · wp_walk using AutoSeq1.wpAny_loadPart' hl, q1
        exact ⟨_, rfl, h⟩
      · wp_walk using AutoSeq1.wpAny_loadPart' hl, q1
        exact ⟨_, rfl, h⟩
    · wp_walk using AutoSeq1.wpAny_loadPart' hl, q1
      exact ⟨_, rfl, h⟩
theorem call_enumT {prog : Program} {w : World} {A : Around} {E : Value → Shared → Prop} {s : Shared} {l : Addr} {items : Array Value} {Q : Value → Shared → Prop} (hL : s.heap.IsTuple l items)
    (h : ∀ h', IsEnum h' (s.heap.objs.size + 1) s.heap.objs.size 0 .none → h'.IsTupleIter s.heap.objs.size l 0 → (∀ b o, s.heap.get? b = some o → h'.get? b = some o) → Q (.ref (s.heap.objs.size + 1)) { s with heap := h' }) :
    wpAny (model prog w) A (call (.type "enumerate") [.ref l]) Q E s := by
  obtain ⟨⟨c, dct, dt, sl⟩, hl, hc, n, hd⟩ := hL
  replace hc : c = .type "tuple" := hc
  replace hd : dt = .seq items n := hd
  subst hc hd
  refine callType_new F.called_enumerate (by decide) (F.typeCall_enumerate_1 _) (F.newCall_enumerate_1 _) (fun obj => F.args_object_init_2 obj _) F.entry_enumerate_new (meets_enumT l items n dct sl) ⟨hl, ?_⟩
  have hz : (s.heap.push (tIt l)).objs.size = s.heap.objs.size + 1 := Heap.size_push ..
  show _ ∧ _
  rw [hz]
  have he : IsEnum ((s.heap.push (tIt l)).push (tEn s.heap.objs.size)) (s.heap.objs.size + 1) s.heap.objs.size 0 .none := by
    have k := Heap.get?_push_size (s.heap.push (tIt l)) (o := tEn s.heap.objs.size) rfl
    rw [hz] at k
    exact k
  exact ⟨⟨_, he, rfl⟩, h _ he ⟨_, Heap.get?_push_of_some _ (Heap.get?_push_size _ rfl), rfl, rfl⟩ fun b o x => Heap.get?_push_of_some _ (Heap.get?_push_of_some _ x)⟩
/-- the tuple at a, each item in a new pair -/
def IteT (K : PySem.W.Frag) (a : Addr) : It :=
  ⟨fun i H => ∃ (xs : List V) (x : V), SqT K H a xs ∧ xs[i]? = some x, fun i H v H' => ∃ T x, v = .ref T ∧ H T = none ∧ H' = upd H T (.tup [.int (i : Nat), x]) ∧ ∀ xs, SqT K H a xs → xs[i]? = some x, fun i H => ∃ xs : List V, SqT K H a xs ∧ xs.length = i⟩
theorem turn_enumT {P : Program} {w : World} {K : PySem.W.Frag} {elts : List Expr} {kk : Nat} {tpos : Pos} (a e it : Addr) :
    Turn P w K (.Tuple elts kk tpos) (IteT K a) [e, it] e (fun i h => (∃ old, IsEnum h e it ((i : Nat) : Int) old) ∧ h.IsTupleIter it a i ∧ e ≠ it ∧ a ≠ it ∧ a ≠ e) where
  mem := by simp
  obj := fun i h st b hb => by
    obtain ⟨⟨old, he⟩, ⟨o, ho, hc, hd⟩, _⟩ := st
    have z : b = e ∨ b = it := by simpa using hb
    rcases z with z | z
    · rw [z]
      exact ⟨_, he, fun v q => nomatch q⟩
    · rw [z]
      exact ⟨o, ho, fun v q => by rw [hd] at q; cases q⟩
  keep := fun i h h' st k => by
    obtain ⟨⟨old, he⟩, hi, hne⟩ := st
    exact ⟨⟨old, k e (by simp) _ he⟩, hi.at fun o q => k it (by simp) o q, hne⟩
  item := by
    intro X hP hw hK hc i pins s σ H E I hf st hg
    subst hP hw hK
    obtain ⟨⟨old, he⟩, hit, hne, hna, hnb⟩ := st
    obtain ⟨xs, x, hq, hx⟩ := hg
    obtain ⟨its, rv, p, hz⟩ := I.tuple hq
    obtain ⟨u, hu, ru⟩ := rv.get hx
    have hel : e < s.heap.objs.size := Heap.lt_size he
    have hil : it < s.heap.objs.size := by
      obtain ⟨_, q, _⟩ := hit
      exact Heap.lt_size q
    have hlt : i < its.toArray.size := by
      rw [List.size_toArray]
      exact (List.getElem?_eq_some_iff.mp hu).1
    have dr : Draws X.prog X.w X.A.in1 it [it, a] its.toArray.size (fun i v => its.toArray[i]? = some v) (fun i h => h.IsTupleIter it a i ∧ h.IsTuple a its.toArray) := Draws.tuple (A := X.A.in1) (I.ok.hd hc) it a hna its.toArray
    refine wpAny_pyNext_enum_itemD dr he ⟨hit, p⟩ hlt hne (by simp [hne, hnb.symm]) fun y h' tk hy ho hst hT hsz hk => ?_
    have ey : y = u := by
      have h1 : its.toArray[i]? = some u := by simpa using hu
      rw [h1] at hy
      exact (Option.some.inj hy).symm
    subst ey
    refine ⟨_, rfl, wpAny_letOwnedTupleGo_enum (s := { s with heap := h', toks := tk + 1 }) ho fun h'' he' sb => ?_⟩
    have hT2 := (sb.2 _ (Nat.ne_of_gt hel)).trans hT
    have new : ObjOk X.prog X.w (upd H s.heap.objs.size (.tup [.int (i : Nat), x])) h'' s.heap.objs.size (.tup [.int (i : Nat), x]) := ⟨by show 2 ≤ sizeLine; decide, [.int i tk, y], .cons ⟨_, rfl⟩ (.cons ru .nil), ⟨_, hT2, rfl, _, rfl⟩⟩
    have I1 : Inv X pins σ (upd H s.heap.objs.size (.tup [.int (i : Nat), x])) { s with heap := h'', toks := tk + 1 } :=
      I.turnedNew (ch := [e, it]) (fun b ob hb q => (sb.2 b (fun z => hb (by simp [z]))).trans (hk b ob (fun z => hb (by simp [z])) (fun z => hb (by simp [z])) q)) hf (Nat.le_refl _) new
    refine ⟨.ref s.heap.objs.size, _, I1, rfl, ⟨_, x, rfl, I.hok.fresh (Nat.le_refl _), rfl, fun ys hy => by rw [I.tuple_inj hy hq]; exact hx⟩, ⟨⟨y, ?_⟩, hst.1.at fun o q => (sb.2 it hne.symm).trans q, hne, hna, hnb⟩, fun b hb => ?_⟩
    · rw [show ((i + 1 : Nat) : Int) = (i : Int) + 1 by omega]
      exact he'
    · have hb' : b < s.heap.objs.size := by
        have z : b = e ∨ b = it := by simpa using hb
        rcases z with z | z <;> rw [z]
        · exact hel
        · exact hil
      rw [upd_ne (Nat.ne_of_lt hb')]
      exact (hf b hb).1
  done := by
    intro X hP hw hK hc i pins s σ H E I hf st hg
    subst hP hw hK
    obtain ⟨⟨old, he⟩, hit, hne, hna, hnb⟩ := st
    obtain ⟨xs, hq, hx⟩ := hg
    obtain ⟨its, rv, p, hz⟩ := I.tuple hq
    obtain ⟨f0, f1, f2, f3, f4, f5⟩ := hf it (by simp)
    have hl : its.toArray.size = i := by
      rw [List.size_toArray, ← rv.length]
      exact hx
    have dr : Draws X.prog X.w X.A.in1 it [it, a] its.toArray.size (fun i v => its.toArray[i]? = some v) (fun i h => h.IsTupleIter it a i ∧ h.IsTuple a its.toArray) := Draws.tuple (A := X.A.in1) (I.ok.hd hc) it a hna its.toArray
    exact wpAny_pyNext_enum_endD dr he (by rw [hl]; exact ⟨hit, p⟩) fun h' eb => ⟨rfl, I.turned (t' := s.toks) (fun b o hb q => eb b o hb q) f0 f1 f3 f4 f5⟩
  self := fun A i s Q E st h => by
    obtain ⟨⟨_, he⟩, _⟩ := st
    exact wpAny_pyIter_enum he h
def iEnumT (K : PySem.W.Frag) (ta : TA) : TI := fun σ H R => ta σ H fun vs H1 => ∃ a xs, vs = [.ref a] ∧ SqT K H1 a xs ∧ R (IteT K a) H1
theorem pi_enumT {X : Cx} {e : Expr} {ta : TA} {p pos tpos : Pos} {elts : List Expr} {kk : Nat} (hg : Gl X "enumerate") (hm : X.mg "enumerate" = none) (ha : PA X [e] ta) (hs : starEach [e] X.env = [(false, eval e X.env)] := by rfl) :
    PI X (.Tuple elts kk tpos) (.Call (.Name "enumerate" p) [e] [] pos) (iEnumT X.K ta) := by
  refine ⟨fun pins s σ H R I h => ?_⟩
  refine Call_ (ld_blt I hg hm boot_enumerate (PyProof.Rows.callWith_type1 (thn (ha.run pos pins s σ H _ I h) fun us s1 ⟨vs, H1, I1, r1, q1⟩ => ?_) hs rfl))
  obtain ⟨a, xs, ex, hq, q⟩ := q1
  subst ex
  obtain ⟨u, rfl, ru⟩ := r1.one
  cases ru
  obtain ⟨its, rv, p', hz⟩ := I1.tuple hq
  have hal : a < s1.heap.objs.size := by
    obtain ⟨o, ho, _⟩ := p'
    exact Heap.lt_size ho
  refine call_enumT p' fun h' he hit hk => wpAny_pyIter_enum he ?_
  have I2 : Inv X pins σ H1 { s1 with heap := h' } := I1.kept (t' := s1.toks) hk
  refine ⟨s1.heap.objs.size + 1, [s1.heap.objs.size + 1, s1.heap.objs.size], _, _, H1, rfl, I2, turn_enumT a (s1.heap.objs.size + 1) s1.heap.objs.size, ⟨⟨.none, he⟩, hit, Nat.succ_ne_self _, Nat.ne_of_lt hal, Nat.ne_of_lt (Nat.lt_succ_of_lt hal)⟩, fun b hb => ?_, q⟩
  have hle : s1.heap.objs.size ≤ b := by
    have z : b = s1.heap.objs.size + 1 ∨ b = s1.heap.objs.size := by simpa using hb
    rcases z with z | z <;> rw [z]
    · exact Nat.le_add_right _ _
    · exact Nat.le_refl _
  exact I1.fpOk hle (I1.hok.fresh hle)
end
theorem for_enumT {K : PySem.W.Frag} {a : Addr} {xs : List V} {g : TG} {tb : TS} {D : Ends} {σ : L2.St} {H : Hp} (Pv : Nat → L2.St → Hp → Prop) (h0 : Pv 0 σ H) (hq : ∀ i σ H, Pv i σ H → SqT K H a xs)
    (hs : ∀ (i : Nat) (x : V) (T : Addr) (σ : L2.St) (H : Hp), xs[i]? = some x → Pv i σ H → H T = none → g (.ref T) σ (upd H T (.tup [.int (i : Nat), x])) fun σ2 H2 => tb { D with nx := Pv (i + 1), ct := Pv (i + 1), bk := D.nx } σ2 H2) (hd : ∀ σ H, Pv xs.length σ H → D.nx σ H) :
    ∃ W : Nat → Nat → L2.St → Hp → Prop, (∃ m, W 0 m σ H) ∧ ∀ i m σ H, W i m σ H →
      ((IteT K a).stop i H ∧ D.nx σ H) ∨ ((IteT K a).go i H ∧ ∃ N : L2.St → Hp → Prop, (∀ σ' H', N σ' H' → ∃ m', m' < m ∧ W (i + 1) m' σ' H') ∧ ∀ v H', (IteT K a).yld i H v H' → g v σ H' fun σ2 H2 => tb { D with nx := N, ct := N, bk := D.nx } σ2 H2) := by
  refine ⟨fun i m σ H => m = xs.length - i ∧ i ≤ xs.length ∧ Pv i σ H, ⟨xs.length, rfl, Nat.zero_le _, h0⟩, ?_⟩
  rintro i m σ H ⟨rfl, hi, p⟩
  have q := hq i σ H p
  by_cases hlt : i < xs.length
  · refine .inr ⟨⟨xs, xs[i], q, List.getElem?_eq_getElem hlt⟩, Pv (i + 1), fun σ' H' p' => ⟨xs.length - (i + 1), by omega, rfl, hlt, p'⟩, fun v H' y => ?_⟩
    obtain ⟨T, x', rfl, hT, rfl, f1⟩ := y
    exact hs i x' T σ H (f1 xs q) p hT
  · have e : i = xs.length := by omega
    subst e
    exact .inl ⟨⟨xs, q, rfl⟩, hd σ H p⟩
theorem ned_ints {K : PySem.W.Frag} {H : Hp} {a b : Addr} {ns ms : List Int} {Q : VK} (ha : SqL K H a (ns.map V.int)) (hb : SqL K H b (ms.map V.int)) (q : Q (.bl (!decide (ns = ms))) H) : rNeD K (.ref a) (.ref b) H Q := by
  refine ⟨_, _, .lst ha (dp_ints ns), .lst hb (dp_ints ms), PySem.W.ke_shaped_ints ns, PySem.W.ke_shaped_ints ms, ?_⟩
  have e : PyData.eqv (.list (ns.map PyData.int)) (.list (ms.map PyData.int)) = decide (ns = ms) := by
    rw [PyData.eqv]
    exact eqv_ints ns ms
  rw [e]
  exact q
/-! ### long division of rows, as the program walks it -/
def subAt (start : Nat) (top : Int) (bs : List Int) (r : List Int) : Nat → List Int
  | 0 => r
  | i + 1 => (subAt start top bs r i).set (start + i) ((subAt start top bs r i).getD (start + i) 0 - top * bs.getD i 0)
theorem subAt_len {start : Nat} {top : Int} {bs r : List Int} {i : Nat} : (subAt start top bs r i).length = r.length := by
  induction i with
  | zero => rfl
  | succ i ih => rw [subAt, List.length_set, ih]
def dvS (bs : List Int) (x : List Int × List Int) : List Int × List Int :=
  (subAt (x.1.length - 1 - (bs.length - 1)) (x.1.getD (x.1.length - 1) 0) bs x.1.dropLast (bs.length - 1), x.2 ++ [x.1.getD (x.1.length - 1) 0])
def dvN (bs : List Int) (row : List Int) : Nat → List Int × List Int
  | 0 => (row, [])
  | n + 1 => dvS bs (dvN bs row n)
theorem dvN_len {bs row : List Int} {n : Nat} : (dvN bs row n).1.length = row.length - n ∧ (dvN bs row n).2.length = n := by
  induction n with
  | zero => exact ⟨rfl, rfl⟩
  | succ n ih =>
    rw [dvN, dvS]
    refine ⟨?_, ?_⟩
    · show (subAt _ _ _ _ _).length = _
      rw [subAt_len, List.length_dropLast, ih.1]
      omega
    · show List.length (_ ++ _) = _
      rw [List.length_append, ih.2]
      rfl
theorem at_nat {xs : List V} {v : V} {i : Int} {j : Nat} (h : xs[j]? = some v) (e : i = (j : Int)) : atI xs i = some v := at_of (j := j) (by omega) (by rw [← h])
theorem at_map {ns : List Int} {i : Int} {j : Nat} (h : j < ns.length) (e : i = (j : Int)) : atI (ns.map V.int) i = some (.int (ns.getD j 0)) := by
  refine at_nat ?_ e
  rw [List.getElem?_map, List.getD_eq_getElem?_getD, List.getElem?_eq_getElem h]
  rfl
theorem ixn_of {n j : Nat} {i : Int} (h : j < n) (e : i = (j : Int)) : ixN n i = some j := by
  subst e
  unfold ixN
  simp [h]
theorem rep_len {n : Nat} {v : V} : (List.replicate n [v]).flatten.length = n := by
  induction n with
  | zero => rfl
  | succ n ih =>
    rw [List.replicate_succ, List.flatten_cons, List.length_append, ih]
    show 1 + n = n + 1
    omega
/-- the share of row by bs -/
def dvQ (bs row : List Int) : List Int := (dvN bs row (row.length - (bs.length - 1))).2.reverse
/-- the rest of row by bs -/
def dvR (bs row : List Int) : List Int := (dvN bs row (row.length - (bs.length - 1))).1 ++ List.replicate (bs.length - 1 - (dvN bs row (row.length - (bs.length - 1))).1.length) 0
theorem rep_flat2 {n : Nat} {v : V} : (List.replicate n [v]).flatten = List.replicate n v := by
  induction n with
  | zero => rfl
  | succ n ih =>
    rw [List.replicate_succ, List.flatten_cons, ih]
    rfl
section
open PySem.Spec PyProof.Rows
variable {P : Program} {w : World} {K : PySem.W.Frag} {mg : Str → Option Value} {base : Heap}
theorem fnsub {CX : CXT} {k : Nat} {f : Addr} {fd : FuncData} {ps : List Str} {sp sp1 : Sp} (G1 : FnOk P w K mg base CX k f fd ps sp1) (h : ∀ vs H Q E, sp vs H Q E → sp1 vs H Q E) : FnOk P w K mg base CX k f fd ps sp :=
  ⟨fun vs H Q E x => G1.len vs H Q E (h vs H Q E x), fun A outer s H args us vs Q E hr e0 hb r x => G1.run A outer s H args us vs Q E hr e0 hb r (h vs H Q E x)⟩
end
abbrev s_divided : Stmt := top 11
abbrev N_divided : List Str := ["row", "by", "degree", "rest", "falling", "top", "start", "at"]
abbrev P_divided : List Str := ["row", "by"]
theorem sc_divided : FnScope N_divided P_divided (defScope s_divided) := ⟨rfl, rfl, rfl, by decide +kernel, rfl, by decide +kernel, by decide +kernel⟩
def spDvd (K : PySem.W.Frag) : Sp := fun vs H Q _ => ∃ (a b : Addr) (row bs : List Int), vs = [.ref a, .ref b] ∧ SqL K H a (row.map V.int) ∧ SqL K H b (bs.map V.int) ∧ 1 ≤ bs.length ∧ bs.length ≤ 1000 ∧ row.length ≤ 1000 ∧ (∀ x ∈ bs, -1000000 ≤ x ∧ x ≤ 1000000) ∧
  ∀ t q z H', H q = none → Same H H' → SqT K H' t [.ref q, .ref z] → H' q = some (.lst ((dvQ bs row).map V.int)) → Q (.ref t) H'
def spDvd2 (K : PySem.W.Frag) : Sp := fun vs H Q _ => ∃ (a b : Addr) (row bs : List Int), vs = [.ref a, .ref b] ∧ SqL K H a (row.map V.int) ∧ (SqL K H b (bs.map V.int) ∨ SqT K H b (bs.map V.int)) ∧ 1 ≤ bs.length ∧ bs.length ≤ 1000 ∧ row.length ≤ 1000 ∧ (∀ x ∈ bs, -1000000 ≤ x ∧ x ≤ 1000000) ∧
  ∀ t q z H', H q = none → Same H H' → SqT K H' t [.ref q, .ref z] → H' q = some (.lst ((dvQ bs row).map V.int)) → H z = none → H' z = some (.lst ((dvR bs row).map V.int)) → Q (.ref t) H'
section
variable {P : Program} {w : World} {K : PySem.W.Frag} {mg : Str → Option Value} {base : Heap}
theorem ok_divided2 {f : Addr} {fd : FuncData} {k : Nat} (F : Fun K "divided" "divided" s_divided f fd) (T : Blt mg) : FnOk P w K mg base CX0 (k + 1) f fd P_divided (spDvd2 K) := by
  have nd := sc_divided.nd
  refine F.ok sc_divided (fun vs H Q E h => ?_) (fun cdv A outer s H vs Q E hr h => ?_)
  · obtain ⟨a, b, row, bs, rfl, _⟩ := h
    rfl
  · obtain ⟨a, b, row, bs, rfl, ha, hb, b1, b2, r1, hbb, q⟩ := h
    refine ⟨_, (pss_cons (ps_set (i := 2) nd rfl (Or.inl rfl) (pe_op op_sub (pe_callB (r := rLenQ K) call_len_seq (by rfl) T.b_len (by decide +kernel) (pa_cons (pv 1) pa_nil)) (pe_int)))
      (pss_cons (ps_set (i := 3) nd rfl (Or.inl rfl) (pe_callTy call_list_of (by rfl) T.b_list (by decide +kernel) (pa_cons (pv 0) pa_nil)))
      (pss_cons (ps_set (i := 4) nd rfl (Or.inl rfl) (pe_lst pa_nil))
      (pss_cons (ps_while PassesOwn.never (pt_cmpR op_gt (pe_callB (r := rLenQ K) call_len_seq (by rfl) T.b_len (by decide +kernel) (pa_cons (pv 3) pa_nil)) (pv 2) (nomark _))
      (pss_cons (ps_set (i := 5) nd rfl (Or.inl rfl) (pe_bm0 PySem.F.plainAttrs_list PySem.F.slot_list_pop PySem.F.type_list_pop mt_pop (pv 3)))
      (pss_cons (ps_expr (pe_bm PySem.F.plainAttrs_list PySem.F.slot_list_append PySem.F.type_list_append mt_append (pv 4) (pa_cons (pv 5) pa_nil)))
      (pss_cons (ps_set (i := 6) nd rfl (Or.inl rfl) (pe_op op_sub (pe_callB (r := rLenQ K) call_len_seq (by rfl) T.b_len (by decide +kernel) (pa_cons (pv 3) pa_nil)) (pv 2)))
      (pss_one (ps_for PassesOwn.never rfl (pi_range1 (by rfl) T.b_range (pa_cons (pv 2) pa_nil)) (pg_name (i := 7) nd rfl (Or.inl rfl))
      (pss_one (ps_augS (pv 3) (pe_op op_add (pv 6) (pv 7)) (get_list (X := _)) (pe_op op_mul (pv 5) (pe_ix (r := rIxQ K) ix_seq (pv 1) (pv 7) (fun _ _ => rfl))) ip_sub set_list))))))))
      (pss_one (ps_ret (pe_tup (pa_cons (pe_revL (pv 4)) (pa_cons (pe_op op_cat (pv 3) (pe_op op_rep (pe_lst (pa_cons (pe_int) pa_nil)) (pe_op op_sub (pv 2) (pe_callB (r := rLenQ K) call_len_seq (by rfl) T.b_len (by decide +kernel) (pa_cons (pv 3) pa_nil))))) pa_nil))))))))), ?_⟩
    walk_at "ev"
    intro l1 hl1
    generalize hG : upd _ l1 _ = H1
    obtain ⟨sm1, hq1⟩ := newO hG hl1
    clear hG
    walk_at "ev"
    intro l2 hl2
    generalize hG : upd _ l2 _ = H2
    obtain ⟨sm2, hq2⟩ := newO hG hl2
    clear hG
    have n12 : l1 ≠ l2 := ne_of_none hq1 hl2
    have f2 : H l2 = none := sm1.free hl2
    walk_at "ev"
    refine ⟨fun m σ H' => ∃ (n : Nat) (s5 s6 s7 : Option V), σ = [some (.ref a), some (.ref b), some (.int (((bs.map V.int).length : Int) - 1)), some (.ref l1), some (.ref l2), s5, s6, s7] ∧ m = row.length - n ∧ n ≤ row.length - (bs.length - 1) ∧ Same H H' ∧ H' l1 = some (.lst ((dvN bs row n).1.map V.int)) ∧ H' l2 = some (.lst ((dvN bs row n).2.map V.int)), ⟨_, 0, none, none, none, rfl, rfl, Nat.zero_le _, sm1.trans sm2, sm2 _ _ hq1, hq2⟩, ?_⟩
    rintro m σ H3 ⟨n, s5, s6, s7, rfl, rfl, hn, sm3, h1, h2⟩
    obtain ⟨e1, e2⟩ := dvN_len (bs := bs) (row := row) (n := n)
    have hL1 := SqL.of (K := K) h1
    walk_at "ev"
    refine ite2 (fun c => ?_) (fun c => ?_)
    · have c1 := of_decide_eq_true c
      simp only [List.length_map, e1] at c1
      refine ⟨_, holdN, ?_⟩
      have hy : ((dvN bs row n).1.map V.int)[((dvN bs row n).1.map V.int).length - 1]? = some (.int ((dvN bs row n).1.getD ((dvN bs row n).1.length - 1) 0)) := by
        rw [List.getElem?_map, List.length_map, List.getD_eq_getElem?_getD, List.getElem?_eq_getElem (by omega)]
        rfl
      have etop : ∃ top, (dvN bs row n).1.getD ((dvN bs row n).1.length - 1) 0 = top := ⟨_, rfl⟩
      obtain ⟨top, htop⟩ := etop
      rw [htop] at hy
      walk_at "ev"
      generalize hG : upd _ l1 _ = H4
      obtain ⟨k4, hq4⟩ := mutO hG
      have sm4 : Same H H4 := by rw [← hG]; exact same_mut sm3 hl1
      clear hG
      have h24 := k4 _ _ n12.symm h2
      have h14 : upd H4 l2 (.lst ((dvN bs row n).2.map V.int ++ [.int top])) l1 = some (.lst ((dvN bs row n).1.map V.int).dropLast) := by
        rw [upd_ne n12]
        exact hq4
      have hL5 := SqL.of (K := K) h14
      walk_at "ev"
      generalize hG : upd H4 l2 _ = H5
      have sm5 : Same H H5 := by rw [← hG]; exact same_mut sm4 f2
      have h25 := (mutO hG).2
      rw [hG] at h14
      clear hG hL5
      have edl : ((dvN bs row n).1.map V.int).dropLast = (dvN bs row n).1.dropLast.map V.int := by
        rw [List.map_dropLast]
      rw [edl] at h14
      refine for_range (lo := 0) (n := (((bs.map V.int).length : Int) - 1).toNat) (fun i σ H' => Hold (∃ s7, σ = [some (.ref a), some (.ref b), some (.int (((bs.map V.int).length : Int) - 1)), some (.ref l1), some (.ref l2), some (.int top), some (.int (((((dvN bs row n).1.map V.int).dropLast).length : Int) - (((bs.map V.int).length : Int) - 1))), s7] ∧ Same H H' ∧ H' l1 = some (.lst ((subAt ((dvN bs row n).1.length - 1 - (bs.length - 1)) top bs (dvN bs row n).1.dropLast i).map V.int)) ∧ H' l2 = some (.lst ((dvN bs row n).2.map V.int ++ [.int top])))) (.mk ⟨_, rfl, sm5, h14, h25⟩) ?_ ?_
      · intro i σ H6 hi hP
        obtain ⟨s7, rfl, sm6, h16, h26⟩ := hP.un
        have hi1 : i < bs.length - 1 := by
          rw [List.length_map] at hi
          omega
        have hb6 := sq_same sm6 hb
        have hL6 := SqL.of (K := K) h16
        have hsl := subAt_len (start := (dvN bs row n).1.length - 1 - (bs.length - 1)) (top := top) (bs := bs) (r := (dvN bs row n).1.dropLast) (i := i)
        rw [List.length_dropLast] at hsl
        have eix : ((((dvN bs row n).1.map V.int).dropLast).length : Int) - (((bs.map V.int).length : Int) - 1) + (0 + (i : Int)) = (((dvN bs row n).1.length - 1 - (bs.length - 1) + i : Nat) : Int) := by
          rw [List.length_dropLast, List.length_map, List.length_map]
          omega
        have hlt : (dvN bs row n).1.length - 1 - (bs.length - 1) + i < (dvN bs row n).1.length - 1 := by omega
        have at1 : atI ((subAt ((dvN bs row n).1.length - 1 - (bs.length - 1)) top bs (dvN bs row n).1.dropLast i).map V.int) (((((dvN bs row n).1.map V.int).dropLast).length : Int) - (((bs.map V.int).length : Int) - 1) + (0 + (i : Int))) = some (.int ((subAt ((dvN bs row n).1.length - 1 - (bs.length - 1)) top bs (dvN bs row n).1.dropLast i).getD ((dvN bs row n).1.length - 1 - (bs.length - 1) + i) 0)) := by
          refine at_nat ?_ eix
          rw [List.getElem?_map, List.getD_eq_getElem?_getD, List.getElem?_eq_getElem (by omega)]
          rfl
        have hix : ixN ((subAt ((dvN bs row n).1.length - 1 - (bs.length - 1)) top bs (dvN bs row n).1.dropLast i).map V.int).length (((((dvN bs row n).1.map V.int).dropLast).length : Int) - (((bs.map V.int).length : Int) - 1) + (0 + (i : Int))) = some ((dvN bs row n).1.length - 1 - (bs.length - 1) + i) := by
          exact ixn_of (by rw [List.length_map]; omega) eix
        have at2 : atI (bs.map V.int) (0 + (i : Int)) = some (.int (bs.getD i 0)) := by
          refine at_nat (j := i) ?_ (by omega)
          rw [List.getElem?_map, List.getD_eq_getElem?_getD, List.getElem?_eq_getElem (by omega)]
          rfl
        have hbi : -1000000 ≤ bs.getD i 0 ∧ bs.getD i 0 ≤ 1000000 := by
          rw [List.getD_eq_getElem?_getD, List.getElem?_eq_getElem (by omega)]
          exact hbb _ (List.getElem_mem _)
        have cm : CMul top (bs.getD i 0) := .inr ⟨by omega, by omega⟩
        walk_at "ev"
        refine .mk ⟨_, rfl, same_mut sm6 hl1, ?_, ?_⟩
        · rw [upd_same, subAt, List.map_set]
        · rw [upd_ne n12.symm]
          exact h26
      · intro σ H6 hP
        obtain ⟨s7, rfl, sm6, h16, h26⟩ := hP.un
        have edg : (((bs.map V.int).length : Int) - 1).toNat = bs.length - 1 := by
          rw [List.length_map]
          omega
        rw [edg] at h16
        refine .mk ⟨row.length - (n + 1), by omega, n + 1, _, _, _, rfl, rfl, by omega, sm6, ?_, ?_⟩
        · rw [h16, dvN, dvS, htop]
        · rw [h26, dvN, dvS, htop]
          show _ = some (HO.lst (List.map _ (_ ++ _)))
          rw [List.map_append]
          rfl
    · have c1 : ¬ _ := fun z => c (decide_eq_true z)
      simp only [List.length_map, e1] at c1
      have hL2 := SqL.of (K := K) h2
      have en : n = row.length - (bs.length - 1) := by omega
      walk_at "ev"
      intro q1 hq
      generalize hG : upd _ q1 _ = H4
      obtain ⟨sm4, hq4⟩ := newO hG hq
      clear hG
      have hL4 := sm4.seq hL1
      walk_at "ev"
      intro l5 hl5
      generalize hG : upd _ l5 _ = H5
      obtain ⟨sm5, hq5⟩ := newO hG hl5
      clear hG
      have hL5 := sm5.seq hL4
      have z1 : ([V.int 0] : List V).length * ((((bs.map V.int).length : Int) - 1) - (((dvN bs row n).1.map V.int).length : Int)).toNat ≤ sizeLine := szl (by rw [List.length_map, List.length_map]; show 1 * _ ≤ 60000; omega)
      have z2 : -(2 ^ 63) ≤ (((bs.map V.int).length : Int) - 1) - (((dvN bs row n).1.map V.int).length : Int) := by rw [List.length_map, List.length_map]; omega
      have z3 : (((bs.map V.int).length : Int) - 1) - (((dvN bs row n).1.map V.int).length : Int) < 2 ^ 63 := by rw [List.length_map, List.length_map]; omega
      walk_at "ev"
      intro l6 hl6
      generalize hG : upd _ l6 _ = H6
      obtain ⟨sm6, hq6⟩ := newO hG hl6
      clear hG
      have h16 := (sm4.trans (sm5.trans sm6)) _ _ h1
      have z4 : ((dvN bs row n).1.map V.int).length + (List.replicate ((((bs.map V.int).length : Int) - 1) - (((dvN bs row n).1.map V.int).length : Int)).toNat [V.int 0]).flatten.length ≤ sizeLine := szl (by
        rw [rep_len, List.length_map, List.length_map]
        show _ ≤ 60000
        omega)
      walk_at "ev"
      intro l7 hl7
      generalize hG : upd _ l7 _ = H7
      obtain ⟨sm7, hq7⟩ := newO hG hl7
      clear hG
      walk_at "ev"
      intro t8 ht8
      generalize hG : upd _ t8 _ = H8
      obtain ⟨sm8, hq8⟩ := newO hG ht8
      clear hG
      have s48 := sm5.trans (sm6.trans (sm7.trans sm8))
      refine q t8 q1 l7 H8 (sm3.free hq) (sm3.trans (sm4.trans s48)) (SqT.of hq8) ?_ ((sm3.trans (sm4.trans (sm5.trans sm6))).free hl7) ?_
      · rw [s48 _ _ hq4, dvQ, ← en, List.map_reverse]
      · rw [sm8 _ _ hq7, dvR, ← en, List.map_append, rep_flat2, List.map_replicate, List.length_map, List.length_map]
        congr 4
        omega
theorem ok_divided {f : Addr} {fd : FuncData} {k : Nat} (F : Fun K "divided" "divided" s_divided f fd) (T : Blt mg) : FnOk P w K mg base CX0 (k + 1) f fd P_divided (spDvd K) :=
  fnsub (ok_divided2 F T) fun vs H Q E ⟨a, b, row, bs, h1, h2, h3, h4, h5, h6, h7, q⟩ => ⟨a, b, row, bs, h1, h2, .inl h3, h4, h5, h6, h7, fun t y z H' e1 e2 e3 e4 _ _ => q t y z H' e1 e2 e3 e4⟩
end
/-! ### wheels to thirty, by a table -/
def WT : List (List Int) := [[], [-1, 1], [1, 1], [1, 1, 1], [1, 0, 1], [1, 1, 1, 1, 1], [1, -1, 1], [1, 1, 1, 1, 1, 1, 1], [1, 0, 0, 0, 1], [1, 0, 0, 1, 0, 0, 1], [1, -1, 1, -1, 1], [1, 1, 1, 1, 1, 1, 1, 1, 1, 1, 1], [1, 0, -1, 0, 1], [1, 1, 1, 1, 1, 1, 1, 1, 1, 1, 1, 1, 1], [1, -1, 1, -1, 1, -1, 1], [1, -1, 0, 1, -1, 1, 0, -1, 1], [1, 0, 0, 0, 0, 0, 0, 0, 1], [1, 1, 1, 1, 1, 1, 1, 1, 1, 1, 1, 1, 1, 1, 1, 1, 1], [1, 0, 0, -1, 0, 0, 1], [1, 1, 1, 1, 1, 1, 1, 1, 1, 1, 1, 1, 1, 1, 1, 1, 1, 1, 1], [1, 0, -1, 0, 1, 0, -1, 0, 1], [1, -1, 0, 1, -1, 0, 1, 0, -1, 1, 0, -1, 1], [1, -1, 1, -1, 1, -1, 1, -1, 1, -1, 1], [1, 1, 1, 1, 1, 1, 1, 1, 1, 1, 1, 1, 1, 1, 1, 1, 1, 1, 1, 1, 1, 1, 1], [1, 0, 0, 0, -1, 0, 0, 0, 1], [1, 0, 0, 0, 0, 1, 0, 0, 0, 0, 1, 0, 0, 0, 0, 1, 0, 0, 0, 0, 1], [1, -1, 1, -1, 1, -1, 1, -1, 1, -1, 1, -1, 1], [1, 0, 0, 0, 0, 0, 0, 0, 0, 1, 0, 0, 0, 0, 0, 0, 0, 0, 1], [1, 0, -1, 0, 1, 0, -1, 0, 1, 0, -1, 0, 1], [1, 1, 1, 1, 1, 1, 1, 1, 1, 1, 1, 1, 1, 1, 1, 1, 1, 1, 1, 1, 1, 1, 1, 1, 1, 1, 1, 1, 1], [1, 1, 0, -1, -1, -1, 0, 1, 1]]
def whl (n : Nat) : List Int := WT.getD n []
def pdv (n : Nat) : List Nat := (List.range' 1 (n - 1)).filter fun d => decide (n % d = 0)
def whS (n : Nat) : List Int := [-1] ++ List.replicate (n - 1) 0 ++ [1]
theorem whl_ok : ∀ n < 31, 1 ≤ n → (pdv n).foldl (fun t d => dvQ (whl d) t) (whS n) = whl n := by decide +kernel
theorem whl_len : ∀ n < 31, 1 ≤ n → 1 ≤ (whl n).length ∧ (whl n).length ≤ 31 := by decide +kernel
theorem whl_bnd : ∀ n < 31, ∀ x ∈ whl n, -1000000 ≤ x ∧ x ≤ 1000000 := by decide +kernel
theorem dvQ_len {bs row : List Int} : (dvQ bs row).length ≤ row.length := by
  unfold dvQ
  rw [List.length_reverse, dvN_len.2]
  omega
theorem pdv_dv {n : Nat} (h : 1 ≤ n) : IsDv (n : Int) ((pdv n ++ [n]).map Int.ofNat) := by
  refine ⟨?_, fun k => ?_⟩
  · rw [List.pairwise_map, List.pairwise_append]
    refine ⟨?_, List.pairwise_singleton _ _, fun x hx y hy => ?_⟩
    · refine (List.Pairwise.filter _ (List.pairwise_lt_range' (s := 1) (n := n - 1))).imp fun {x y} z => ?_
      exact Int.ofNat_lt.mpr z
    · have h1 := (List.mem_filter.mp hx).1
      rw [List.mem_range'_1] at h1
      rw [List.mem_singleton.mp hy]
      exact Int.ofNat_lt.mpr (by omega)
  · rw [List.mem_map]
    constructor
    · rintro ⟨x, hx, rfl⟩
      rcases List.mem_append.mp hx with z | z
      · obtain ⟨h1, h2⟩ := List.mem_filter.mp z
        rw [List.mem_range'_1] at h1
        exact ⟨Int.ofNat_le.mpr h1.1, Int.ofNat_dvd.mpr (Nat.dvd_of_mod_eq_zero (of_decide_eq_true h2))⟩
      · rw [List.mem_singleton.mp z]
        exact ⟨Int.ofNat_le.mpr h, Int.dvd_refl _⟩
    · rintro ⟨h1, h2⟩
      obtain ⟨m, rfl⟩ := Int.eq_ofNat_of_zero_le (show 0 ≤ k by omega)
      have h3 : m ∣ n := Int.ofNat_dvd.mp h2
      have h4 := Nat.le_of_dvd (by omega) h3
      refine ⟨m, List.mem_append.mpr ?_, rfl⟩
      by_cases c : m = n
      · exact .inr (by rw [c]; exact List.mem_singleton.mpr rfl)
      · refine .inl (List.mem_filter.mpr ⟨?_, decide_eq_true (Nat.mod_eq_zero_of_dvd h3)⟩)
        rw [List.mem_range'_1]
        omega
theorem rep_flat {n : Nat} {v : V} : (List.replicate n [v]).flatten = List.replicate n v := by
  induction n with
  | zero => rfl
  | succ n ih =>
    rw [List.replicate_succ, List.flatten_cons, ih]
    rfl
theorem cut_last {xs : List V} {v : V} : cutV (xs ++ [v]) none (some (-1)) = xs := by
  unfold cutV
  have e : HT.sIx (xs ++ [v]).length (xs ++ [v]).length (some (-1)) = xs.length := by
    simp [HT.sIx]
    try omega
  have e0 : HT.sIx (xs ++ [v]).length 0 none = 0 := by simp [HT.sIx]
  rw [e, e0, List.drop_zero, Nat.sub_zero, List.take_left]
abbrev s_wheel : Stmt := top 13
abbrev N_wheel : List Str := ["order", "told", "divisor"]
abbrev P_wheel : List Str := ["order"]
theorem sc_wheel : FnScope N_wheel P_wheel (defScope s_wheel) := ⟨rfl, rfl, rfl, by decide +kernel, rfl, by decide +kernel, by decide +kernel⟩
def spWheel (j : Nat) : Sp := fun vs H Q _ => ∃ (n : Nat), vs = [.int (n : Int)] ∧ 1 ≤ n ∧ n < 31 ∧ n < 2 ^ j ∧ ∀ l H', H l = none → Same H H' → H' l = some (.lst ((whl n).map V.int)) → Q (.ref l) H'
section
variable {P : Program} {w : World} {K : PySem.W.Frag} {mg : Str → Option Value} {base : Heap}
theorem wheel_step {f f1 f2 : Addr} {fd d1 d2 : FuncData} {j : Nat} (D_wheel : Df K mg "wheel" s_wheel P_wheel f fd) (T : Blt mg) (D_divisors : Df K mg "divisors" s_divisors P_divisors f1 d1) (D_divided : Df K mg "divided" s_divided P_divided f2 d2)
    (G_wheel : FnOk P w K mg base CX0 (j + 1) f fd P_wheel (spWheel j)) : FnOk P w K mg base CX0 (j + 2) f fd P_wheel (spWheel (j + 1)) := by
  have F := D_wheel.F
  have G_divisors : FnOk P w K mg base CX0 1 f1 d1 P_divisors spDiv := ok_divisors D_divisors.F T
  have G_divided : FnOk P w K mg base CX0 1 f2 d2 P_divided (spDvd K) := ok_divided D_divided.F T
  have nd := sc_wheel.nd
  refine F.ok sc_wheel (fun vs H Q E h => ?_) (fun cdv A outer s H vs Q E hr h => ?_)
  · obtain ⟨n, rfl, _⟩ := h
    rfl
  · obtain ⟨n, rfl, n1, n31, nj, q⟩ := h
    refine ⟨_, (pss_cons (ps_set (i := 1) nd rfl (Or.inl rfl) (pe_op op_cat (pe_op op_cat (pe_lst (pa_cons (pe_un un_neg (pe_int)) pa_nil)) (pe_op op_rep (pe_lst (pa_cons (pe_int) pa_nil)) (pe_op op_sub (pv 0) (pe_int)))) (pe_lst (pa_cons (pe_int) pa_nil))))
      (pss_cons (ps_for PassesOwn.never rfl (pi_list (pe_slice (r := rSlL K) sl_list (pe_call G_divisors (hr.mono (by omega)) (by rfl) D_divisors.g D_divisors.F.kp D_divisors.b .nil pass0 (pa_cons (pv 0) pa_nil)) po_none (po_some (pe_un un_neg (pe_int))))) (pg_name (i := 2) nd rfl (Or.inl rfl))
      (pss_one (ps_set (i := 1) nd rfl (Or.inl rfl) (pe_ix (r := rIxT K) ix_tup (pe_call G_divided (hr.mono (by omega)) (by rfl) D_divided.g D_divided.F.kp D_divided.b .nil pass0 (pa_cons (pv 1) (pa_cons (pe_call G_wheel (hr.mono (by omega)) (by rfl) D_wheel.g D_wheel.F.kp D_wheel.b .nil pass0 (pa_cons (pv 2) pa_nil)) pa_nil))) (pe_int) (fun _ _ => rfl)))))
      (pss_one (ps_ret (pv 1))))), ?_⟩
    walk_at "ev"
    intro l1 hl1
    generalize hG : upd _ l1 _ = H1
    obtain ⟨sm1, hq1⟩ := newO hG hl1
    clear hG
    walk_at "ev"
    intro l2 hl2
    generalize hG : upd _ l2 _ = H2
    obtain ⟨sm2, hq2⟩ := newO hG hl2
    clear hG
    have z1 : ([V.int 0] : List V).length * ((n : Int) - 1).toNat ≤ sizeLine := szl (by show 1 * _ ≤ 60000; omega)
    walk_at "ev"
    intro l3 hl3
    generalize hG : upd _ l3 _ = H3
    obtain ⟨sm3, hq3⟩ := newO hG hl3
    clear hG
    have h13 := (sm2.trans sm3) _ _ hq1
    have z2 : ([(fun i => V.int (-i)) 1] : List V).length + (List.replicate ((n : Int) - 1).toNat [V.int 0]).flatten.length ≤ sizeLine := szl (by rw [rep_len]; show 1 + _ ≤ 60000; omega)
    walk_at "ev"
    intro l4 hl4
    generalize hG : upd _ l4 _ = H4
    obtain ⟨sm4, hq4⟩ := newO hG hl4
    clear hG
    walk_at "ev"
    intro l5 hl5
    generalize hG : upd _ l5 _ = H5
    obtain ⟨sm5, hq5⟩ := newO hG hl5
    clear hG
    have h45 := sm5 _ _ hq4
    have z3 : ([(fun i => V.int (-i)) 1] ++ (List.replicate ((n : Int) - 1).toNat [V.int 0]).flatten).length + ([V.int 1] : List V).length ≤ sizeLine := szl (by rw [List.length_append, rep_len]; show 1 + _ + 1 ≤ 60000; omega)
    walk_at "ev"
    intro l6 hl6
    generalize hG : upd _ l6 _ = H6
    obtain ⟨sm6, hq6⟩ := newO hG hl6
    clear hG
    have ew : [(fun i => V.int (-i)) 1] ++ (List.replicate ((n : Int) - 1).toNat [V.int 0]).flatten ++ [V.int 1] = (whS n).map V.int := by
      unfold whS
      rw [List.map_append, List.map_append, show ((n : Int) - 1).toNat = n - 1 by omega, List.map_replicate, rep_flat]
      rfl
    rw [ew] at hq6
    have s06 := sm1.trans (sm2.trans (sm3.trans (sm4.trans (sm5.trans sm6))))
    have f6 : H l6 = none := (sm1.trans (sm2.trans (sm3.trans (sm4.trans sm5)))).free hl6
    walk_at "ev"
    intro ds l7 H7 hdv hl7 sm7 hq7
    have eds := hdv.uniq (pdv_dv n1)
    subst eds
    have hL7 := SqL.of (K := K) hq7
    walk_at "ev"
    intro l8 hl8
    generalize hG : upd _ l8 _ = H8
    obtain ⟨sm8, hq8⟩ := newO hG hl8
    clear hG
    have ec : cutV (((pdv n ++ [n]).map Int.ofNat).map V.int) none (some (-1)) = (pdv n).map fun (d : Nat) => V.int (d : Int) := by
      rw [List.map_map, List.map_append]
      exact cut_last
    have hq8' : H8 l8 = some (.lst ((pdv n).map fun (d : Nat) => V.int (d : Int))) := by
      rw [hq8, ← ec]
    clear hq8
    have s08 := s06.trans (sm7.trans sm8)
    have f8 : H l8 = none := (s06.trans sm7).free hl8
    refine ⟨l8, rfl, ⟨_, SqL.of hq8'⟩, ?_⟩
    refine for_list (K := K) (a := l8) (xs := (pdv n).map fun (d : Nat) => V.int (d : Int)) (fun i σ H' => Hold (∃ (lt : Addr) (s2 : Option V), σ = [some (.int (n : Int)), some (.ref lt), s2] ∧ H lt = none ∧ Same H H' ∧ H' l8 = some (.lst ((pdv n).map fun (d : Nat) => V.int (d : Int))) ∧ (((pdv n).take i).foldl (fun t d => dvQ (whl d) t) (whS n)).length ≤ 1000 ∧ H' lt = some (.lst ((((pdv n).take i).foldl (fun t d => dvQ (whl d) t) (whS n)).map V.int)))) (.mk ⟨l6, _, rfl, f6, s08, hq8', ?_, (sm7.trans sm8) _ _ hq6⟩) ?_ ?_ ?_
    · show (whS n).length ≤ 1000
      unfold whS
      rw [List.length_append, List.length_append, List.length_replicate]
      show 1 + (n - 1) + 1 ≤ 1000
      omega
    · intro i σ Hx hi hP
      obtain ⟨lt, s2, rfl, ft, smx, hx8, hlen, hxt⟩ := hP.un
      exact SqL.of hx8
    · intro i v σ Hx hv hP
      obtain ⟨lt, s2, rfl, ft, smx, hx8, hlen, hxt⟩ := hP.un
      rw [List.getElem?_map] at hv
      obtain ⟨d, hd, ev⟩ := Option.map_eq_some_iff.mp hv
      subst ev
      obtain ⟨hd1, hd2⟩ := List.mem_filter.mp (List.mem_of_getElem? hd)
      rw [List.mem_range'_1] at hd1
      have hd3 := of_decide_eq_true hd2
      have hdn : 2 * d ≤ n := by
        obtain ⟨c, hc⟩ := Nat.dvd_of_mod_eq_zero hd3
        have c2 : 2 ≤ c := by
          apply Nat.le_of_not_lt
          intro z
          have : c = 0 ∨ c = 1 := by omega
          rcases this with z | z <;> subst z <;> omega
        have := Nat.mul_le_mul_left d c2
        omega
      have hdj : d < 2 ^ j := by
        rw [Nat.pow_succ] at nj
        omega
      have hd31 : d < 31 := by omega
      have hd0 : 1 ≤ d := hd1.1
      have hLt := SqL.of (K := K) hxt
      obtain ⟨wl1, wl2⟩ := whl_len d hd31 hd0
      have wl3 : (whl d).length ≤ 1000 := by omega
      have wb := whl_bnd d hd31
      walk_at "ev"
      intro lw H9 hlw sm9 hq9
      have hLw := SqL.of (K := K) hq9
      have hLt9 := sm9.seq hLt
      have et : ((pdv n).take (i + 1)).foldl (fun t d => dvQ (whl d) t) (whS n) = dvQ (whl d) (((pdv n).take i).foldl (fun t d => dvQ (whl d) t) (whS n)) := by
        rw [List.take_succ, hd, List.foldl_append]
        rfl
      have el := dvQ_len (bs := whl d) (row := ((pdv n).take i).foldl (fun t d => dvQ (whl d) t) (whS n))
      walk_at "ev"
      intro t10 q10 z10 H10 hq sm10 hT hq10
      have at0 : atI [V.ref q10, V.ref z10] 0 = some (.ref q10) := rfl
      walk_at "ev"
      refine .mk ⟨q10, _, rfl, (smx.trans sm9).free hq, smx.trans (sm9.trans sm10), (sm9.trans sm10) _ _ hx8, ?_, ?_⟩
      · rw [et]
        omega
      · rw [et]
        exact hq10
    · intro σ Hx hP
      obtain ⟨lt, s2, rfl, ft, smx, hx8, hlen, hxt⟩ := hP.un
      rw [List.length_map, List.take_length, whl_ok n n31 n1] at hxt
      walk_at "ev"
      exact q lt Hx ft smx hxt
theorem ok_wheel {f f1 f2 : Addr} {fd d1 d2 : FuncData} (D_wheel : Df K mg "wheel" s_wheel P_wheel f fd) (T : Blt mg) (D_divisors : Df K mg "divisors" s_divisors P_divisors f1 d1) (D_divided : Df K mg "divided" s_divided P_divided f2 d2) : ∀ j : Nat, FnOk P w K mg base CX0 (j + 1) f fd P_wheel (spWheel j)
  | 0 => ⟨fun _ _ _ _ ⟨n, _, h1, _, h2, _⟩ => absurd h2 (by rw [Nat.pow_zero]; omega), fun _ _ _ _ _ _ _ _ _ _ _ _ _ ⟨n, _, h1, _, h2, _⟩ => absurd h2 (by rw [Nat.pow_zero]; omega)⟩
  | j + 1 => wheel_step D_wheel T D_divisors D_divided (ok_wheel D_wheel T D_divisors D_divided j)
end
/-! ### the law's own dividing -/
def ldN (bs row : List Int) : Nat → List Int × List Int
  | 0 => (row, [])
  | n + 1 => (subAt (row.length - bs.length - n) ((ldN bs row n).1.getD (row.length - bs.length - n + bs.length - 1) 0) bs (ldN bs row n).1 bs.length, (ldN bs row n).2 ++ [(ldN bs row n).1.getD (row.length - bs.length - n + bs.length - 1) 0])
theorem ldN_len {bs row : List Int} {n : Nat} : (ldN bs row n).1.length = row.length ∧ (ldN bs row n).2.length = n := by
  induction n with
  | zero => exact ⟨rfl, rfl⟩
  | succ n ih =>
    rw [ldN]
    refine ⟨?_, ?_⟩
    · show (subAt _ _ _ _ _).length = _
      rw [subAt_len, ih.1]
    · show List.length (_ ++ _) = _
      rw [List.length_append, ih.2]
      rfl
def ldQ (bs row : List Int) : List Int := (ldN bs row (row.length + 1 - bs.length)).2.reverse
theorem ldQ_len {bs row : List Int} (h : 1 ≤ bs.length) : (ldQ bs row).length ≤ row.length := by
  unfold ldQ
  rw [List.length_reverse, ldN_len.2]
  omega
abbrev s__law_divided : Stmt := top 20
abbrev N__law_divided : List Str := ["_law_top", "_law_low", "_law_rest", "_law_found", "_law_place", "_law_many", "_law_spot", "_law_number"]
abbrev P__law_divided : List Str := ["_law_top", "_law_low"]
theorem sc__law_divided : FnScope N__law_divided P__law_divided (defScope s__law_divided) := ⟨rfl, rfl, rfl, by decide +kernel, rfl, by decide +kernel, by decide +kernel⟩
def spLdv (K : PySem.W.Frag) : Sp := fun vs H Q _ => ∃ (a b : Addr) (row bs : List Int), vs = [.ref a, .ref b] ∧ SqL K H a (row.map V.int) ∧ SqL K H b (bs.map V.int) ∧ 1 ≤ bs.length ∧ bs.length ≤ 1000 ∧ row.length ≤ 1000 ∧ (∀ x ∈ bs, -1000000 ≤ x ∧ x ≤ 1000000) ∧
  ∀ q H', H q = none → Same H H' → H' q = some (.lst ((ldQ bs row).map V.int)) → Q (.ref q) H'
section
variable {P : Program} {w : World} {K : PySem.W.Frag} {mg : Str → Option Value} {base : Heap}
theorem ok_ldv {f : Addr} {fd : FuncData} {k : Nat} (F : Fun K "_law_divided" "_law_divided" s__law_divided f fd) (T : Blt mg) : FnOk P w K mg base CX0 (k + 1) f fd P__law_divided (spLdv K) := by
  have nd := sc__law_divided.nd
  refine F.ok sc__law_divided (fun vs H Q E h => ?_) (fun cdv A outer s H vs Q E hr h => ?_)
  · obtain ⟨a, b, row, bs, rfl, _⟩ := h
    rfl
  · obtain ⟨a, b, row, bs, rfl, ha, hb, b1, b2, r1, hbb, q⟩ := h
    refine ⟨_, (pss_cons (ps_par (i := 2) (j := 3) (by rfl) nd rfl rfl (by decide) rfl rfl (pa_cons (pe_callTy call_list_of (by rfl) T.b_list (by decide +kernel) (pa_cons (pv 0) pa_nil)) (pa_cons (pe_lst pa_nil) pa_nil)) (by rfl))
      (pss_cons (ps_for PassesOwn.never rfl (pi_range3 (by rfl) T.b_range (pa_cons (pe_op op_sub (pe_callB (r := rLenQ K) call_len_seq (by rfl) T.b_len (by decide +kernel) (pa_cons (pv 0) pa_nil)) (pe_callB (r := rLenQ K) call_len_seq (by rfl) T.b_len (by decide +kernel) (pa_cons (pv 1) pa_nil))) (pa_cons (pe_un un_neg (pe_int)) (pa_cons (pe_un un_neg (pe_int)) pa_nil)))) (pg_name (i := 4) nd rfl (Or.inl rfl))
      (pss_cons (ps_set (i := 5) nd rfl (Or.inl rfl) (pe_ix (r := rIxL K) ix_list (pv 2) (pe_op op_sub (pe_op op_add (pv 4) (pe_callB (r := rLenQ K) call_len_seq (by rfl) T.b_len (by decide +kernel) (pa_cons (pv 1) pa_nil))) (pe_int)) (fun _ _ => rfl)))
      (pss_cons (ps_expr (pe_bm PySem.F.plainAttrs_list PySem.F.slot_list_append PySem.F.type_list_append mt_append (pv 3) (pa_cons (pv 5) pa_nil)))
      (pss_one (ps_for PassesOwn.never rfl (pi_enum (by rfl) T.b_enumerate (pa_cons (pv 1) pa_nil)) (pg_tup (by rfl) (pgs_cons (pg_name (i := 6) nd rfl (Or.inl rfl)) (pgs_cons (pg_name (i := 7) nd rfl (Or.inl rfl)) pgs_nil)))
      (pss_one (ps_asg (pe_op op_sub (pe_ix (r := rIxL K) ix_list (pv 2) (pe_op op_add (pv 4) (pv 6)) (fun _ _ => rfl)) (pe_op op_mul (pv 5) (pv 7))) (pg_sub (pv 2) (pe_op op_add (pv 4) (pv 6)) set_list))))))))
      (pss_one (ps_ret (pe_revL (pv 3)))))), ?_⟩
    walk_at "ev"
    intro l1 hl1
    generalize hG : upd _ l1 _ = H1
    obtain ⟨sm1, hq1⟩ := newO hG hl1
    clear hG
    walk_at "ev"
    intro l2 hl2
    generalize hG : upd _ l2 _ = H2
    obtain ⟨sm2, hq2⟩ := newO hG hl2
    clear hG
    have n12 : l1 ≠ l2 := ne_of_none hq1 hl2
    have f2 : H l2 = none := sm1.free hl2
    have sm02 := sm1.trans sm2
    have ha2 := sm02.seq ha
    have hb2 := sm02.seq hb
    have rg : RgC (((row.map V.int).length : Int) - ((bs.map V.int).length : Int)) (-1) (-1) ((((row.map V.int).length : Int) - ((bs.map V.int).length : Int)) - (-1)).toNat := RgC.neg (by rw [List.length_map, List.length_map]; omega) (by rw [List.length_map, List.length_map]; omega) (by decide) (by decide)
    walk_at "ev"
    have en : ((((row.map V.int).length : Int) - ((bs.map V.int).length : Int)) - (-1)).toNat = row.length + 1 - bs.length := by
      rw [List.length_map, List.length_map]
      omega
    refine for_rangeC (lo := _) (c := _) (n := _) (fun n σ H' => Hold (∃ (s4 s5 s6 s7 : Option V), σ = [some (.ref a), some (.ref b), some (.ref l1), some (.ref l2), s4, s5, s6, s7] ∧ Same H H' ∧ H' l1 = some (.lst ((ldN bs row n).1.map V.int)) ∧ H' l2 = some (.lst ((ldN bs row n).2.map V.int)))) (.mk ⟨none, none, none, none, rfl, sm02, sm2 _ _ hq1, hq2⟩) ?_ ?_
    · intro n σ H3 hn hP
      obtain ⟨s4, s5, s6, s7, rfl, sm3, h1, h2⟩ := hP.un
      rw [en] at hn
      obtain ⟨e1, e2⟩ := ldN_len (bs := bs) (row := row) (n := n)
      have hL1 := SqL.of (K := K) h1
      have hb3 := sm3.seq hb
      have epl : (((row.map V.int).length : Int) - ((bs.map V.int).length : Int)) + (n : Nat) * (-1) = ((row.length - bs.length - n : Nat) : Int) := by
        rw [List.length_map, List.length_map]
        omega
      rw [epl]
      have at1 : atI ((ldN bs row n).1.map V.int) (((row.length - bs.length - n : Nat) : Int) + ((bs.map V.int).length : Int) - 1) = some (.int ((ldN bs row n).1.getD (row.length - bs.length - n + bs.length - 1) 0)) := at_map (by omega) (by rw [List.length_map]; omega)
      obtain ⟨top, htop⟩ : ∃ top, (ldN bs row n).1.getD (row.length - bs.length - n + bs.length - 1) 0 = top := ⟨_, rfl⟩
      rw [htop] at at1
      walk_at "ev"
      generalize hG : upd _ l2 _ = H4
      obtain ⟨k4, hq4⟩ := mutO hG
      have sm4 : Same H H4 := by rw [← hG]; exact same_mut sm3 f2
      clear hG
      have h14 := k4 _ _ n12 h1
      have hb4 := sm4.seq hb
      refine ⟨hb4, for_enumL (K := K) (a := b) (xs := bs.map V.int) (fun i σ H' => Hold (∃ (s6 s7 : Option V), σ = [some (.ref a), some (.ref b), some (.ref l1), some (.ref l2), some (.int ((row.length - bs.length - n : Nat) : Int)), some (.int top), s6, s7] ∧ Same H H' ∧ H' l1 = some (.lst ((subAt (row.length - bs.length - n) top bs (ldN bs row n).1 i).map V.int)) ∧ H' l2 = some (.lst ((ldN bs row n).2.map V.int ++ [.int top])))) (.mk ⟨_, _, rfl, sm4, h14, hq4⟩) ?_ ?_ ?_⟩
      · intro i σ H5 hP
        obtain ⟨s6, s7, rfl, sm5, h15, h25⟩ := hP.un
        exact sm5.seq hb
      · intro i v T' σ H5 hv hP hT
        obtain ⟨s6, s7, rfl, sm5, h15, h25⟩ := hP.un
        rw [List.getElem?_map] at hv
        obtain ⟨x, hx, ev⟩ := Option.map_eq_some_iff.mp hv
        subst ev
        have hil : i < bs.length := (List.getElem?_eq_some_iff.mp hx).1
        have exi : bs.getD i 0 = x := by rw [List.getD_eq_getElem?_getD, hx]; rfl
        have hxb := hbb x (List.mem_of_getElem? hx)
        generalize hG : upd _ T' _ = H6
        obtain ⟨sm6, hq6⟩ := newO hG hT
        clear hG
        have hT6 : SqT K H6 T' [.int (i : Nat), .int x] := SqT.of hq6
        have h16 := sm6 _ _ h15
        have hL6 := SqL.of (K := K) h16
        have hsl := subAt_len (start := row.length - bs.length - n) (top := top) (bs := bs) (r := (ldN bs row n).1) (i := i)
        have at2 : atI ((subAt (row.length - bs.length - n) top bs (ldN bs row n).1 i).map V.int) (((row.length - bs.length - n : Nat) : Int) + (i : Nat)) = some (.int ((subAt (row.length - bs.length - n) top bs (ldN bs row n).1 i).getD (row.length - bs.length - n + i) 0)) := at_map (by omega) (by omega)
        have hix : ixN ((subAt (row.length - bs.length - n) top bs (ldN bs row n).1 i).map V.int).length (((row.length - bs.length - n : Nat) : Int) + (i : Nat)) = some (row.length - bs.length - n + i) := ixn_of (by rw [List.length_map]; omega) (by omega)
        have cm : CMul top x := .inr ⟨by omega, by omega⟩
        walk_at "ev"
        refine .mk ⟨_, _, rfl, same_mut (sm5.trans sm6) hl1, ?_, ?_⟩
        · rw [upd_same, subAt, List.map_set, exi]
        · rw [upd_ne n12.symm]
          exact sm6 _ _ h25
      · intro σ H5 hP
        obtain ⟨s6, s7, rfl, sm5, h15, h25⟩ := hP.un
        rw [List.length_map] at h15
        refine .mk ⟨_, _, _, _, rfl, sm5, ?_, ?_⟩
        · rw [h15, ldN, htop]
        · rw [h25, ldN, htop, List.map_append]
          rfl
    · intro σ H3 hP
      obtain ⟨s4, s5, s6, s7, rfl, sm3, h1, h2⟩ := hP.un
      rw [en] at h2
      have hL2 := SqL.of (K := K) h2
      walk_at "ev"
      intro q1 hq
      generalize hG : upd _ q1 _ = H4
      obtain ⟨sm4, hq4⟩ := newO hG hq
      clear hG
      refine q q1 H4 (sm3.free hq) (sm3.trans sm4) ?_
      rw [hq4, ldQ, List.map_reverse]
end
theorem owl_ok : ∀ n < 31, 1 ≤ n → (pdv n).foldl (fun t d => ldQ (whl d) t) (whS n) = whl n := by decide +kernel
theorem pdv_step {n i : Nat} (h : i < n - 1) : (List.range' 1 (i + 1)).filter (fun d => decide (n % d = 0)) = (List.range' 1 i).filter (fun d => decide (n % d = 0)) ++ (if n % (1 + i) = 0 then [1 + i] else []) := by
  rw [List.range'_concat, List.filter_append, Nat.one_mul]
  congr 1
  by_cases c : n % (1 + i) = 0
  · rw [if_pos c]
    simp [c]
  · rw [if_neg c]
    simp [c]
abbrev s__law_own_wheel : Stmt := top 21
abbrev N__law_own_wheel : List Str := ["_law_number", "_law_found", "_law_part"]
abbrev P__law_own_wheel : List Str := ["_law_number"]
theorem sc__law_own_wheel : FnScope N__law_own_wheel P__law_own_wheel (defScope s__law_own_wheel) := ⟨rfl, rfl, rfl, by decide +kernel, rfl, by decide +kernel, by decide +kernel⟩
section
variable {P : Program} {w : World} {K : PySem.W.Frag} {mg : Str → Option Value} {base : Heap}
theorem own_step {f f2 : Addr} {fd d2 : FuncData} {j : Nat} (D__law_own_wheel : Df K mg "_law_own_wheel" s__law_own_wheel P__law_own_wheel f fd) (T : Blt mg) (D__law_divided : Df K mg "_law_divided" s__law_divided P__law_divided f2 d2)
    (G__law_own_wheel : FnOk P w K mg base CX0 (j + 1) f fd P__law_own_wheel (spWheel j)) : FnOk P w K mg base CX0 (j + 2) f fd P__law_own_wheel (spWheel (j + 1)) := by
  have F := D__law_own_wheel.F
  have G__law_divided : FnOk P w K mg base CX0 1 f2 d2 P__law_divided (spLdv K) := ok_ldv D__law_divided.F T
  have nd := sc__law_own_wheel.nd
  refine F.ok sc__law_own_wheel (fun vs H Q E h => ?_) (fun cdv A outer s H vs Q E hr h => ?_)
  · obtain ⟨n, rfl, _⟩ := h
    rfl
  · obtain ⟨n, rfl, n1, n31, nj, q⟩ := h
    refine ⟨_, (pss_cons (ps_set (i := 1) nd rfl (Or.inl rfl) (pe_op op_cat (pe_op op_cat (pe_lst (pa_cons (pe_un un_neg (pe_int)) pa_nil)) (pe_op op_rep (pe_lst (pa_cons (pe_int) pa_nil)) (pe_op op_sub (pv 0) (pe_int)))) (pe_lst (pa_cons (pe_int) pa_nil))))
      (pss_cons (ps_for PassesOwn.never rfl (pi_range2 (by rfl) T.b_range (pa_cons (pe_int) (pa_cons (pv 0) pa_nil))) (pg_name (i := 2) nd rfl (Or.inl rfl))
      (pss_one (ps_if (pt_cmpR op_eq (pe_op op_mod (pv 0) (pv 2)) (pe_int) (nomark _)) (pss_one (ps_set (i := 1) nd rfl (Or.inl rfl) (pe_call G__law_divided (hr.mono (by omega)) (by rfl) D__law_divided.g D__law_divided.F.kp D__law_divided.b .nil pass0 (pa_cons (pv 1) (pa_cons (pe_call G__law_own_wheel (hr.mono (by omega)) (by rfl) D__law_own_wheel.g D__law_own_wheel.F.kp D__law_own_wheel.b .nil pass0 (pa_cons (pv 2) pa_nil)) pa_nil))))) pss_nil)))
      (pss_one (ps_ret (pv 1))))), ?_⟩
    walk_at "ev"
    intro l1 hl1
    generalize hG : upd _ l1 _ = H1
    obtain ⟨sm1, hq1⟩ := newO hG hl1
    clear hG
    walk_at "ev"
    intro l2 hl2
    generalize hG : upd _ l2 _ = H2
    obtain ⟨sm2, hq2⟩ := newO hG hl2
    clear hG
    have z1 : ([V.int 0] : List V).length * ((n : Int) - 1).toNat ≤ sizeLine := szl (by show 1 * _ ≤ 60000; omega)
    walk_at "ev"
    intro l3 hl3
    generalize hG : upd _ l3 _ = H3
    obtain ⟨sm3, hq3⟩ := newO hG hl3
    clear hG
    have h13 := (sm2.trans sm3) _ _ hq1
    have z2 : ([(fun i => V.int (-i)) 1] : List V).length + (List.replicate ((n : Int) - 1).toNat [V.int 0]).flatten.length ≤ sizeLine := szl (by rw [rep_len]; show 1 + _ ≤ 60000; omega)
    walk_at "ev"
    intro l4 hl4
    generalize hG : upd _ l4 _ = H4
    obtain ⟨sm4, hq4⟩ := newO hG hl4
    clear hG
    walk_at "ev"
    intro l5 hl5
    generalize hG : upd _ l5 _ = H5
    obtain ⟨sm5, hq5⟩ := newO hG hl5
    clear hG
    have h45 := sm5 _ _ hq4
    have z3 : ([(fun i => V.int (-i)) 1] ++ (List.replicate ((n : Int) - 1).toNat [V.int 0]).flatten).length + ([V.int 1] : List V).length ≤ sizeLine := szl (by rw [List.length_append, rep_len]; show 1 + _ + 1 ≤ 60000; omega)
    walk_at "ev"
    intro l6 hl6
    generalize hG : upd _ l6 _ = H6
    obtain ⟨sm6, hq6⟩ := newO hG hl6
    clear hG
    have ew : [(fun i => V.int (-i)) 1] ++ (List.replicate ((n : Int) - 1).toNat [V.int 0]).flatten ++ [V.int 1] = (whS n).map V.int := by
      unfold whS
      rw [List.map_append, List.map_append, show ((n : Int) - 1).toNat = n - 1 by omega, List.map_replicate, rep_flat]
      rfl
    rw [ew] at hq6
    have s06 := sm1.trans (sm2.trans (sm3.trans (sm4.trans (sm5.trans sm6))))
    have f6 : H l6 = none := (sm1.trans (sm2.trans (sm3.trans (sm4.trans sm5)))).free hl6
    walk_at "ev"
    refine for_range (lo := 1) (n := _) (fun i σ H' => Hold (∃ (lt : Addr) (s2 : Option V), σ = [some (.int (n : Int)), some (.ref lt), s2] ∧ H lt = none ∧ Same H H' ∧ ((((List.range' 1 i).filter fun d => decide (n % d = 0))).foldl (fun t d => ldQ (whl d) t) (whS n)).length ≤ 1000 ∧ H' lt = some (.lst (((((List.range' 1 i).filter fun d => decide (n % d = 0))).foldl (fun t d => ldQ (whl d) t) (whS n)).map V.int)))) (.mk ⟨l6, _, rfl, f6, s06, ?_, hq6⟩) ?_ ?_
    · show (whS n).length ≤ 1000
      unfold whS
      rw [List.length_append, List.length_append, List.length_replicate]
      show 1 + (n - 1) + 1 ≤ 1000
      omega
    · intro i σ Hx hi hP
      obtain ⟨lt, s2, rfl, ft, smx, hlen, hxt⟩ := hP.un
      have hi1 : i < n - 1 := by omega
      have hst := pdv_step hi1
      have ei : (1 : Int) + (i : Nat) = ((1 + i : Nat) : Int) := by omega
      rw [ei]
      walk_at "ev"
      refine ite2 (fun c => ?_) (fun c => ?_)
      · have c1 : n % (1 + i) = 0 := by
          have := V.int.inj (of_decide_eq_true c)
          omega
        rw [if_pos c1] at hst
        have hdn : 2 * (1 + i) ≤ n := by
          obtain ⟨m, hc⟩ := Nat.dvd_of_mod_eq_zero c1
          have c2 : 2 ≤ m := by
            apply Nat.le_of_not_lt
            intro z
            have : m = 0 ∨ m = 1 := by omega
            rcases this with z | z <;> subst z <;> omega
          have := Nat.mul_le_mul_left (1 + i) c2
          omega
        have hdj : 1 + i < 2 ^ j := by
          rw [Nat.pow_succ] at nj
          omega
        have hd31 : 1 + i < 31 := by omega
        have hd0 : 1 ≤ 1 + i := by omega
        have hLt := SqL.of (K := K) hxt
        obtain ⟨wl1, wl2⟩ := whl_len (1 + i) hd31 hd0
        have wl3 : (whl (1 + i)).length ≤ 1000 := by omega
        have wb := whl_bnd (1 + i) hd31
        walk_at "ev"
        intro lw H9 hlw sm9 hq9
        have hLw := SqL.of (K := K) hq9
        have hLt9 := sm9.seq hLt
        have el := ldQ_len (bs := whl (1 + i)) (row := ((List.range' 1 i).filter fun d => decide (n % d = 0)).foldl (fun t d => ldQ (whl d) t) (whS n)) wl1
        walk_at "ev"
        intro q10 H10 hq sm10 hq10
        refine .mk ⟨q10, _, rfl, (smx.trans sm9).free hq, smx.trans (sm9.trans sm10), ?_, ?_⟩
        · rw [hst, List.foldl_append]
          show (ldQ _ _).length ≤ 1000
          omega
        · rw [hst, List.foldl_append]
          exact hq10
      · have c1 : ¬ n % (1 + i) = 0 := fun z => c (decide_eq_true (congrArg V.int (by omega)))
        rw [if_neg c1, List.append_nil] at hst
        walk_at "ev"
        refine .mk ⟨lt, _, rfl, ft, smx, ?_, ?_⟩
        · rw [hst]
          exact hlen
        · rw [hst]
          exact hxt
    · intro σ Hx hP
      obtain ⟨lt, s2, rfl, ft, smx, hlen, hxt⟩ := hP.un
      have en : ((n : Int) - 1).toNat = n - 1 := by omega
      rw [en] at hxt
      have hk := owl_ok n n31 n1
      unfold pdv at hk
      rw [hk] at hxt
      walk_at "ev"
      exact q lt Hx ft smx hxt
theorem ok_own {f f2 : Addr} {fd d2 : FuncData} (D__law_own_wheel : Df K mg "_law_own_wheel" s__law_own_wheel P__law_own_wheel f fd) (T : Blt mg) (D__law_divided : Df K mg "_law_divided" s__law_divided P__law_divided f2 d2) : ∀ j : Nat, FnOk P w K mg base CX0 (j + 1) f fd P__law_own_wheel (spWheel j)
  | 0 => ⟨fun _ _ _ _ ⟨n, _, h1, _, h2, _⟩ => absurd h2 (by rw [Nat.pow_zero]; omega), fun _ _ _ _ _ _ _ _ _ _ _ _ _ ⟨n, _, h1, _, h2, _⟩ => absurd h2 (by rw [Nat.pow_zero]; omega)⟩
  | j + 1 => own_step D__law_own_wheel T D__law_divided (ok_own D__law_own_wheel T D__law_divided j)
end
/-! ### the law's own multiplying -/
def addAt (start : Nat) (top : Int) (bs : List Int) (r : List Int) : Nat → List Int
  | 0 => r
  | i + 1 => (addAt start top bs r i).set (start + i) ((addAt start top bs r i).getD (start + i) 0 + top * bs.getD i 0)
theorem addAt_len {start : Nat} {top : Int} {bs r : List Int} {i : Nat} : (addAt start top bs r i).length = r.length := by
  induction i with
  | zero => rfl
  | succ i ih => rw [addAt, List.length_set, ih]
def pmN (one two : List Int) : Nat → List Int
  | 0 => List.replicate (one.length + two.length - 1) 0
  | n + 1 => addAt n (one.getD n 0) two (pmN one two n) two.length
theorem pmN_len {one two : List Int} {n : Nat} : (pmN one two n).length = one.length + two.length - 1 := by
  induction n with
  | zero => rw [pmN, List.length_replicate]
  | succ n ih => rw [pmN, addAt_len, ih]
def pmul (one two : List Int) : List Int := pmN one two one.length
theorem set_same {l : List Int} {k : Nat} (h : k < l.length) : l.set k (l.getD k 0) = l := by
  rw [List.getD_eq_getElem?_getD, List.getElem?_eq_getElem h]
  exact List.set_getElem_self h
theorem addAt_zero {start : Nat} {bs r : List Int} : ∀ {i : Nat}, start + i ≤ r.length → addAt start 0 bs r i = r
  | 0, _ => rfl
  | i + 1, h => by
    rw [addAt, addAt_zero (by omega), Int.zero_mul, Int.add_zero]
    exact set_same (by omega)
abbrev s_multiplied : Stmt := top 12
abbrev N_multiplied : List Str := ["one", "other", "told", "at", "part", "place", "worth"]
abbrev P_multiplied : List Str := ["one", "other"]
theorem sc_multiplied : FnScope N_multiplied P_multiplied (defScope s_multiplied) := ⟨rfl, rfl, rfl, by decide +kernel, rfl, by decide +kernel, by decide +kernel⟩
def spMulT (K : PySem.W.Frag) : Sp := fun vs H Q _ => ∃ (a b : Addr) (one two : List Int), vs = [.ref a, .ref b] ∧ SqT K H a (one.map V.int) ∧ SqT K H b (two.map V.int) ∧ 1 ≤ two.length ∧ two.length ≤ 1000 ∧ one.length ≤ 1000 ∧ (∀ x ∈ one, x.natAbs < 2 ^ 400) ∧ (∀ x ∈ two, x.natAbs < 2 ^ 400) ∧
  ∀ q H', H q = none → Same H H' → H' q = some (.lst ((pmul one two).map V.int)) → Q (.ref q) H'
section
variable {P : Program} {w : World} {K : PySem.W.Frag} {mg : Str → Option Value} {base : Heap}
theorem ok_mulT {f : Addr} {fd : FuncData} {k : Nat} (F : Fun K "multiplied" "multiplied" s_multiplied f fd) (T : Blt mg) : FnOk P w K mg base CX0 (k + 1) f fd P_multiplied (spMulT K) := by
  have nd := sc_multiplied.nd
  refine F.ok sc_multiplied (fun vs H Q E h => ?_) (fun cdv A outer s H vs Q E hr h => ?_)
  · obtain ⟨a, b, one, two, rfl, _⟩ := h
    rfl
  · obtain ⟨a, b, one, two, rfl, ha, hb, b1, b2, r1, hbo, hbb, q⟩ := h
    refine ⟨_, (pss_cons (ps_set (i := 2) nd rfl (Or.inl rfl) (pe_op op_rep (pe_lst (pa_cons (pe_int) pa_nil)) (pe_op op_sub (pe_op op_add (pe_callB (r := rLenQ K) call_len_seq (by rfl) T.b_len (by decide +kernel) (pa_cons (pv 0) pa_nil)) (pe_callB (r := rLenQ K) call_len_seq (by rfl) T.b_len (by decide +kernel) (pa_cons (pv 1) pa_nil))) (pe_int))))
      (pss_cons (ps_for PassesOwn.never rfl (pi_enumT (by rfl) T.b_enumerate (pa_cons (pv 0) pa_nil)) (pg_tup (by rfl) (pgs_cons (pg_name (i := 3) nd rfl (Or.inl rfl)) (pgs_cons (pg_name (i := 4) nd rfl (Or.inl rfl)) pgs_nil)))
      (pss_one (ps_if (pt_cmpR op_ne (pv 4) (pe_int) (nomark _)) (pss_one (ps_for PassesOwn.never rfl (pi_enumT (by rfl) T.b_enumerate (pa_cons (pv 1) pa_nil)) (pg_tup (by rfl) (pgs_cons (pg_name (i := 5) nd rfl (Or.inl rfl)) (pgs_cons (pg_name (i := 6) nd rfl (Or.inl rfl)) pgs_nil)))
      (pss_one (ps_augS (pv 2) (pe_op op_add (pv 3) (pv 5)) (get_list (X := _)) (pe_op op_mulW (pv 4) (pv 6)) ip_add set_list)))) pss_nil)))
      (pss_one (ps_ret (pv 2))))), ?_⟩
    have z2 : -(2 ^ 63) ≤ ((one.map V.int).length : Int) + ((two.map V.int).length : Int) - 1 := by rw [List.length_map, List.length_map]; omega
    have z3 : ((one.map V.int).length : Int) + ((two.map V.int).length : Int) - 1 < 2 ^ 63 := by rw [List.length_map, List.length_map]; omega
    have z1 : ([V.int 0] : List V).length * (((one.map V.int).length : Int) + ((two.map V.int).length : Int) - 1).toNat ≤ sizeLine := szl (by rw [List.length_map, List.length_map]; show 1 * _ ≤ 60000; omega)
    walk_at "ev"
    intro l0 hl0
    generalize hG : upd _ l0 _ = H0
    obtain ⟨sm0, hq0⟩ := newO hG hl0
    clear hG
    have ha0 := same_t sm0 ha
    have hb0 := same_t sm0 hb
    walk_at "ev"
    intro l1 hl1
    generalize hG : upd _ l1 _ = H1
    obtain ⟨sm1, hq1⟩ := newO hG hl1
    clear hG
    have en : (((one.map V.int).length : Int) + ((two.map V.int).length : Int) - 1).toNat = one.length + two.length - 1 := by
      rw [List.length_map, List.length_map]
      omega
    have hq1' : H1 l1 = some (.lst ((pmN one two 0).map V.int)) := by
      rw [hq1, pmN, en, rep_flat, List.map_replicate]
    clear hq1
    have sm01 := sm0.trans sm1
    have ha1 := same_t sm01 ha
    have f1 : H l1 = none := sm0.free hl1
    walk_at "ev"
    refine for_enumT (K := K) (a := a) (xs := one.map V.int) (fun n σ H' => Hold (∃ (s3 s4 s5 s6 : Option V), σ = [some (.ref a), some (.ref b), some (.ref l1), s3, s4, s5, s6] ∧ Same H H' ∧ H' l1 = some (.lst ((pmN one two n).map V.int)))) (.mk ⟨none, none, none, none, rfl, sm01, hq1'⟩) ?_ ?_ ?_
    · intro i σ H5 hP
      obtain ⟨s3, s4, s5, s6, rfl, sm5, h15⟩ := hP.un
      exact same_t sm5 ha
    · intro n v T' σ H5 hv hP hT
      obtain ⟨s3, s4, s5, s6, rfl, sm5, h15⟩ := hP.un
      rw [List.getElem?_map] at hv
      obtain ⟨top, hx, ev⟩ := Option.map_eq_some_iff.mp hv
      subst ev
      have hnl : n < one.length := (List.getElem?_eq_some_iff.mp hx).1
      have exn : one.getD n 0 = top := by rw [List.getD_eq_getElem?_getD, hx]; rfl
      generalize hG : upd _ T' _ = H6
      obtain ⟨sm6, hq6⟩ := newO hG hT
      clear hG
      have hT6 : SqT K H6 T' [.int (n : Nat), .int top] := SqT.of hq6
      have h16 := sm6 _ _ h15
      have sm06 := sm5.trans sm6
      have hb6 := same_t sm06 hb
      walk_at "ev"
      by_cases c0 : top = 0
      · subst c0
        refine iteFe rfl ?_
        walk_at "ev"
        refine .mk ⟨_, _, _, _, rfl, sm06, ?_⟩
        rw [h16, pmN, exn, addAt_zero (by rw [pmN_len]; omega)]
      refine iteTe (by simp [c0]) ?_
      walk_at "ev"
      refine for_enumT (K := K) (a := b) (xs := two.map V.int) (fun i σ H' => Hold (∃ (s5 s6 : Option V), σ = [some (.ref a), some (.ref b), some (.ref l1), some (.int (n : Nat)), some (.int top), s5, s6] ∧ Same H H' ∧ H' l1 = some (.lst ((addAt n top two (pmN one two n) i).map V.int)))) (.mk ⟨_, _, rfl, sm06, h16⟩) ?_ ?_ ?_
      · intro i σ H7 hP
        obtain ⟨s5, s6, rfl, sm7, h17⟩ := hP.un
        exact same_t sm7 hb
      · intro i v T2 σ H7 hv hP hT2
        obtain ⟨s5, s6, rfl, sm7, h17⟩ := hP.un
        rw [List.getElem?_map] at hv
        obtain ⟨x, hx2, ev⟩ := Option.map_eq_some_iff.mp hv
        subst ev
        have hil : i < two.length := (List.getElem?_eq_some_iff.mp hx2).1
        have exi : two.getD i 0 = x := by rw [List.getD_eq_getElem?_getD, hx2]; rfl
        have hxb := hbb x (List.mem_of_getElem? hx2)
        generalize hG : upd _ T2 _ = H8
        obtain ⟨sm8, hq8⟩ := newO hG hT2
        clear hG
        have hT8 : SqT K H8 T2 [.int (i : Nat), .int x] := SqT.of hq8
        have h18 := sm8 _ _ h17
        have hL8 := SqL.of (K := K) h18
        have hsl := addAt_len (start := n) (top := top) (bs := two) (r := pmN one two n) (i := i)
        rw [pmN_len] at hsl
        have at2 : atI ((addAt n top two (pmN one two n) i).map V.int) ((n : Nat) + (i : Nat)) = some (.int ((addAt n top two (pmN one two n) i).getD (n + i) 0)) := at_map (by omega) (by omega)
        have hix : ixN ((addAt n top two (pmN one two n) i).map V.int).length ((n : Nat) + (i : Nat)) = some (n + i) := ixn_of (by rw [List.length_map]; omega) (by omega)
        have cm : CMulW top x := wide_mul (hbo top (List.mem_of_getElem? hx)) hxb (by decide) (by decide) (by decide)
        walk_at "ev"
        refine .mk ⟨_, _, rfl, same_mut (sm7.trans sm8) f1, ?_⟩
        rw [upd_same, addAt, List.map_set, exi]
      · intro σ H7 hP
        obtain ⟨s5, s6, rfl, sm7, h17⟩ := hP.un
        rw [List.length_map] at h17
        refine .mk ⟨_, _, _, _, rfl, sm7, ?_⟩
        rw [h17, pmN, exn]
    · intro σ H5 hP
      obtain ⟨s3, s4, s5, s6, rfl, sm5, h15⟩ := hP.un
      rw [List.length_map] at h15
      walk_at "ev"
      exact q l1 H5 f1 sm5 h15
end
/-! ### the rest, as the law walks it -/
def lrN (bs row : List Int) : Nat → List Int
  | 0 => row
  | n + 1 => subAt (row.length - 1 - n - (bs.length - 1)) ((lrN bs row n).getD (row.length - 1 - n) 0) bs (lrN bs row n) bs.length
theorem lrN_len {bs row : List Int} : ∀ n : Nat, (lrN bs row n).length = row.length
  | 0 => rfl
  | n + 1 => by rw [lrN, subAt_len, lrN_len n]
def lrR (bs row : List Int) : List Int := ((lrN bs row (row.length - (bs.length - 1))) ++ List.replicate (bs.length - 1) 0).take (bs.length - 1)
theorem getD_app {x y : List Int} {k : Nat} (h : k < x.length) : (x ++ y).getD k 0 = x.getD k 0 := by
  rw [List.getD_eq_getElem?_getD, List.getD_eq_getElem?_getD, List.getElem?_append_left h]
theorem subAt_app {start : Nat} {top : Int} {bs x y : List Int} : ∀ {i : Nat}, start + i ≤ x.length → subAt start top bs (x ++ y) i = subAt start top bs x i ++ y
  | 0, _ => rfl
  | i + 1, h => by
    have ih := subAt_app (start := start) (top := top) (bs := bs) (x := x) (y := y) (i := i) (by omega)
    have hl := subAt_len (start := start) (top := top) (bs := bs) (r := x) (i := i)
    rw [subAt, subAt, ih, getD_app (by omega), List.set_append_left _ _ (by omega)]
theorem lr_dv {bs row : List Int} (h1 : 1 ≤ bs.length) (h2 : bs.getD (bs.length - 1) 0 = 1) : ∀ n : Nat, n ≤ row.length - (bs.length - 1) → lrN bs row n = (dvN bs row n).1 ++ List.replicate n 0
  | 0, _ => by
    rw [lrN, dvN]
    exact (List.append_nil row).symm
  | n + 1, hn => by
    have ih := lr_dv (row := row) h1 h2 n (by omega)
    obtain ⟨e1, _⟩ := dvN_len (bs := bs) (row := row) (n := n)
    rw [lrN, ih, dvN, dvS, show bs.length = bs.length - 1 + 1 by omega, subAt]
    generalize hr : (dvN bs row n).1 = r at *
    have hrl : r.length = row.length - n := e1
    have hr0 : r ≠ [] := fun z => by rw [z, List.length_nil] at hrl; omega
    obtain ⟨top, htop⟩ : ∃ top, r.getD (r.length - 1) 0 = top := ⟨_, rfl⟩
    have es : r = r.dropLast ++ [top] := by
      have h := List.dropLast_concat_getLast hr0
      rw [← htop, List.getD_eq_getElem?_getD, List.getElem?_eq_getElem (by omega)]
      show r = r.dropLast ++ [r[r.length - 1]]
      rw [← List.getLast_eq_getElem hr0]
      exact h.symm
    have hpl : row.length - 1 - n = r.length - 1 := by omega
    have hdl : r.dropLast.length = r.length - 1 := List.length_dropLast
    rw [show bs.length - 1 + 1 - 1 = bs.length - 1 by omega, hpl, getD_app (by omega), htop]
    show (subAt (r.length - 1 - (bs.length - 1)) top bs (r ++ List.replicate n 0) (bs.length - 1)).set (r.length - 1 - (bs.length - 1) + (bs.length - 1)) ((subAt (r.length - 1 - (bs.length - 1)) top bs (r ++ List.replicate n 0) (bs.length - 1)).getD (r.length - 1 - (bs.length - 1) + (bs.length - 1)) 0 - top * bs.getD (bs.length - 1) 0) = subAt (r.length - 1 - (bs.length - 1)) top bs r.dropLast (bs.length - 1) ++ List.replicate (n + 1) 0
    have e2 : r ++ List.replicate n 0 = r.dropLast ++ ([top] ++ List.replicate n 0) := by
      rw [← List.append_assoc, ← es]
    rw [e2, subAt_app (by omega), show r.length - 1 - (bs.length - 1) + (bs.length - 1) = r.length - 1 by omega, h2, Int.mul_one]
    have hsl := subAt_len (start := r.length - 1 - (bs.length - 1)) (top := top) (bs := bs) (r := r.dropLast) (i := bs.length - 1)
    generalize hZ : subAt (r.length - 1 - (bs.length - 1)) top bs r.dropLast (bs.length - 1) = Z at *
    rw [List.set_append_right _ _ (by omega), show r.length - 1 - Z.length = 0 by omega, List.getD_eq_getElem?_getD, List.getElem?_append_right (by omega), show r.length - 1 - Z.length = 0 by omega]
    show Z ++ (top - top) :: List.replicate n 0 = Z ++ List.replicate (n + 1) 0
    rw [Int.sub_self]
    rfl
theorem lrR_eq {bs row : List Int} (h1 : 1 ≤ bs.length) (h2 : bs.getD (bs.length - 1) 0 = 1) : lrR bs row = dvR bs row := by
  unfold lrR dvR
  rw [lr_dv h1 h2 _ (Nat.le_refl _)]
  obtain ⟨e1, _⟩ := dvN_len (bs := bs) (row := row) (n := row.length - (bs.length - 1))
  generalize (dvN bs row (row.length - (bs.length - 1))).1 = r at *
  rw [List.append_assoc, List.replicate_append_replicate, List.take_append, List.take_of_length_le (by omega), List.take_replicate]
  congr 2
  omega
/-! ### how great they get -/
def Bd (A : Nat) (l : List Int) : Prop := ∀ x ∈ l, x.natAbs ≤ A
theorem Bd.up {A B : Nat} {l : List Int} (h : Bd A l) (e : A ≤ B) : Bd B l := fun x hx => Nat.le_trans (h x hx) e
theorem Bd.getD {A : Nat} {l : List Int} (h : Bd A l) (k : Nat) : (l.getD k 0).natAbs ≤ A := by
  rw [List.getD_eq_getElem?_getD]
  cases e : l[k]? with
  | none => exact Nat.zero_le _
  | some x => exact h x (List.mem_of_getElem? e)
theorem Bd.set {A : Nat} {l : List Int} {k : Nat} {v : Int} (h : Bd A l) (hv : v.natAbs ≤ A) : Bd A (l.set k v) := fun x hx => by
  rcases List.mem_or_eq_of_mem_set hx with z | z
  · exact h x z
  · rw [z]
    exact hv
/-- places from where on all is yet as it was -/
theorem subAt_bd {A : Nat} {start : Nat} {top : Int} {bs r : List Int} (hr : Bd A r) (hb : Bd 1 bs) (ht : top.natAbs ≤ A) : ∀ i : Nat, Bd (2 * A) (subAt start top bs r i) ∧ ∀ k, start + i ≤ k → (subAt start top bs r i).getD k 0 = r.getD k 0
  | 0 => ⟨hr.up (by omega), fun k _ => rfl⟩
  | i + 1 => by
    obtain ⟨a, b⟩ := subAt_bd (start := start) hr hb ht i
    refine ⟨?_, fun k hk => ?_⟩
    · rw [subAt]
      refine a.set ?_
      rw [b (start + i) (Nat.le_refl _)]
      have h1 := hr.getD (start + i)
      have h2 := hb.getD i
      have h3 : (top * bs.getD i 0).natAbs ≤ A := by
        rw [Int.natAbs_mul]
        exact Nat.le_trans (Nat.mul_le_mul ht h2) (by omega)
      omega
    · rw [subAt, ← b k (by omega), List.getD_eq_getElem?_getD, List.getElem?_set_ne (by omega), ← List.getD_eq_getElem?_getD]
theorem dvN_bd {A : Nat} {bs row : List Int} (hr : Bd A row) (hb : Bd 1 bs) : ∀ n : Nat, Bd (A * 2 ^ n) (dvN bs row n).1
  | 0 => by rw [Nat.pow_zero, Nat.mul_one]; exact hr
  | n + 1 => by
    have ih := dvN_bd hr hb n
    rw [dvN, dvS]
    have e : A * 2 ^ (n + 1) = 2 * (A * 2 ^ n) := by rw [Nat.pow_succ, Nat.mul_comm 2, Nat.mul_assoc]
    rw [e]
    exact (subAt_bd (fun x hx => ih x ((List.dropLast_sublist _).subset hx)) hb (ih.getD _) _).1
theorem dvR_bd {A : Nat} {bs row : List Int} (hr : Bd A row) (hb : Bd 1 bs) : Bd (A * 2 ^ row.length) (dvR bs row) := fun x hx => by
  unfold dvR at hx
  rcases List.mem_append.mp hx with z | z
  · exact Nat.le_trans (dvN_bd hr hb _ x z) (Nat.mul_le_mul_left A (Nat.pow_le_pow_right (by decide) (by omega)))
  · rw [(List.mem_replicate.mp z).2]
    exact Nat.zero_le _
theorem dvR_len {bs row : List Int} : (dvR bs row).length = bs.length - 1 := by
  unfold dvR
  obtain ⟨e1, _⟩ := dvN_len (bs := bs) (row := row) (n := row.length - (bs.length - 1))
  rw [List.length_append, List.length_replicate]
  omega
theorem addAt_bd {A B C : Nat} {start : Nat} {top : Int} {bs r : List Int} (hr : Bd C r) (hb : Bd B bs) (ht : top.natAbs ≤ A) : ∀ i : Nat, Bd (C + A * B) (addAt start top bs r i) ∧ ∀ k, start + i ≤ k → (addAt start top bs r i).getD k 0 = r.getD k 0
  | 0 => ⟨hr.up (by omega), fun k _ => rfl⟩
  | i + 1 => by
    obtain ⟨a, b⟩ := addAt_bd (start := start) hr hb ht i
    refine ⟨?_, fun k hk => ?_⟩
    · rw [addAt]
      refine a.set ?_
      rw [b (start + i) (Nat.le_refl _)]
      have h1 := hr.getD (start + i)
      have h2 := hb.getD i
      have h3 : (top * bs.getD i 0).natAbs ≤ A * B := by
        rw [Int.natAbs_mul]
        exact Nat.mul_le_mul ht h2
      omega
    · rw [addAt, ← b k (by omega), List.getD_eq_getElem?_getD, List.getElem?_set_ne (by omega), ← List.getD_eq_getElem?_getD]
theorem pmN_bd {A B : Nat} {one two : List Int} (ha : Bd A one) (hb : Bd B two) : ∀ n : Nat, Bd (n * (A * B)) (pmN one two n)
  | 0 => fun x hx => by
    rw [pmN] at hx
    rw [(List.mem_replicate.mp hx).2]
    exact Nat.zero_le _
  | n + 1 => by
    rw [pmN, Nat.succ_mul]
    exact (addAt_bd (pmN_bd ha hb n) hb (ha.getD n) _).1
theorem pmul_bd {A B : Nat} {one two : List Int} (ha : Bd A one) (hb : Bd B two) : Bd (one.length * (A * B)) (pmul one two) := pmN_bd ha hb _
theorem pmul_len {one two : List Int} : (pmul one two).length = one.length + two.length - 1 := pmN_len
/-! ### either way about -/
def isum (f : Nat → Int) : Nat → Int
  | 0 => 0
  | n + 1 => isum f n + f n
theorem isum_congr {f g : Nat → Int} : ∀ {n : Nat}, (∀ i < n, f i = g i) → isum f n = isum g n
  | 0, _ => rfl
  | n + 1, h => by rw [isum, isum, isum_congr fun i hi => h i (by omega), h n (by omega)]
theorem isum_add {f g : Nat → Int} : ∀ {n : Nat}, isum (fun i => f i + g i) n = isum f n + isum g n
  | 0 => rfl
  | n + 1 => by
    rw [isum, isum, isum, isum_add]
    omega
theorem isum_zero : ∀ {n : Nat}, isum (fun _ => 0) n = 0
  | 0 => rfl
  | n + 1 => by rw [isum, isum_zero]; rfl
theorem isum_comm {f : Nat → Nat → Int} {m : Nat} : ∀ {n : Nat}, isum (fun i => isum (fun j => f i j) m) n = isum (fun j => isum (fun i => f i j) n) m
  | 0 => by rw [isum]; exact (isum_zero (n := m)).symm
  | n + 1 => by
    rw [isum, isum_comm (n := n), ← isum_add]
    exact isum_congr fun j _ => rfl
theorem addAt_get {start : Nat} {top : Int} {bs r : List Int} : ∀ {i : Nat}, start + i ≤ r.length → ∀ k, (addAt start top bs r i).getD k 0 = r.getD k 0 + isum (fun j => if start + j = k then top * bs.getD j 0 else 0) i
  | 0, _, k => by
    rw [addAt, isum]
    omega
  | i + 1, h, k => by
    have ih := addAt_get (top := top) (bs := bs) (i := i) (r := r) (start := start) (by omega)
    have hl := addAt_len (start := start) (top := top) (bs := bs) (r := r) (i := i)
    rw [addAt, isum]
    by_cases c : start + i = k
    · subst c
      rw [if_pos rfl, List.getD_eq_getElem?_getD, List.getElem?_set_self (by omega)]
      show _ + _ = _
      rw [ih]
      omega
    · rw [if_neg c, List.getD_eq_getElem?_getD, List.getElem?_set_ne c, ← List.getD_eq_getElem?_getD, ih]
      omega
theorem pmN_get {one two : List Int} (h2 : 1 ≤ two.length) : ∀ {n : Nat}, n ≤ one.length → ∀ k, (pmN one two n).getD k 0 = isum (fun i => isum (fun j => if i + j = k then one.getD i 0 * two.getD j 0 else 0) two.length) n
  | 0, _, k => by
    rw [pmN, isum, List.getD_eq_getElem?_getD]
    by_cases c : k < one.length + two.length - 1
    · rw [List.getElem?_replicate, if_pos c]
      rfl
    · rw [List.getElem?_replicate, if_neg c]
      rfl
  | n + 1, h, k => by
    rw [pmN, addAt_get (by rw [pmN_len]; omega), pmN_get h2 (by omega), isum]
theorem pmul_comm {one two : List Int} (h1 : 1 ≤ one.length) (h2 : 1 ≤ two.length) : pmul one two = pmul two one := by
  have e : ∀ k, (pmul one two).getD k 0 = (pmul two one).getD k 0 := fun k => by
    unfold pmul
    rw [pmN_get h2 (Nat.le_refl _), pmN_get h1 (Nat.le_refl _), isum_comm]
    refine isum_congr fun j _ => isum_congr fun i _ => ?_
    rw [Nat.add_comm i j, Int.mul_comm]
  have l1 : (pmul one two).length = (pmul two one).length := by rw [pmul_len, pmul_len, Nat.add_comm]
  refine List.ext_getElem l1 fun k a b => ?_
  have := e k
  rw [List.getD_eq_getElem?_getD, List.getD_eq_getElem?_getD, List.getElem?_eq_getElem a, List.getElem?_eq_getElem b] at this
  exact this
abbrev s__law_rest_by : Stmt := top 22
abbrev N__law_rest_by : List Str := ["_law_ring", "_law_numbers", "_law_rest", "_law_many", "_law_place", "_law_top", "_law_spot", "_law_number", "_law_at"]
abbrev P__law_rest_by : List Str := ["_law_ring", "_law_numbers"]
theorem sc__law_rest_by : FnScope N__law_rest_by P__law_rest_by (defScope s__law_rest_by) := ⟨rfl, rfl, rfl, by decide +kernel, rfl, by decide +kernel, by decide +kernel⟩
def spRest (K : PySem.W.Frag) : Sp := fun vs H Q _ => ∃ (a b : Addr) (bs row : List Int), vs = [.ref b, .ref a] ∧ SqL K H b (bs.map V.int) ∧ SqL K H a (row.map V.int) ∧ 2 ≤ bs.length ∧ bs.length ≤ 1000 ∧ row.length ≤ 1000 ∧ (∀ x ∈ bs, -1000000 ≤ x ∧ x ≤ 1000000) ∧ bs.getD (bs.length - 1) 0 = 1 ∧
  ∀ q H', H q = none → Same H H' → H' q = some (.tup ((dvR bs row).map V.int)) → Q (.ref q) H'
section
variable {P : Program} {w : World} {K : PySem.W.Frag} {mg : Str → Option Value} {base : Heap}
theorem ok_rest {f : Addr} {fd : FuncData} {k : Nat} (F : Fun K "_law_rest_by" "_law_rest_by" s__law_rest_by f fd) (T : Blt mg) : FnOk P w K mg base CX0 (k + 1) f fd P__law_rest_by (spRest K) := by
  have nd := sc__law_rest_by.nd
  refine F.ok sc__law_rest_by (fun vs H Q E h => ?_) (fun cdv A outer s H vs Q E hr h => ?_)
  · obtain ⟨a, b, bs, row, rfl, _⟩ := h
    rfl
  · obtain ⟨a, b, bs, row, rfl, hb, ha, b1, b2, r1, hbb, blast, q⟩ := h
    refine ⟨_, (pss_cons (ps_par (i := 2) (j := 3) (by rfl) nd rfl rfl (by decide) rfl rfl (pa_cons (pe_callTy call_list_of (by rfl) T.b_list (by decide +kernel) (pa_cons (pv 1) pa_nil)) (pa_cons (pe_op op_sub (pe_callB (r := rLenQ K) call_len_seq (by rfl) T.b_len (by decide +kernel) (pa_cons (pv 0) pa_nil)) (pe_int)) pa_nil)) (by rfl))
      (pss_cons (ps_for PassesOwn.never rfl (pi_range3 (by rfl) T.b_range (pa_cons (pe_op op_sub (pe_callB (r := rLenQ K) call_len_seq (by rfl) T.b_len (by decide +kernel) (pa_cons (pv 2) pa_nil)) (pe_int)) (pa_cons (pe_op op_sub (pv 3) (pe_int)) (pa_cons (pe_un un_neg (pe_int)) pa_nil)))) (pg_name (i := 4) nd rfl (Or.inl rfl))
      (pss_cons (ps_set (i := 5) nd rfl (Or.inl rfl) (pe_ix (r := rIxL K) ix_list (pv 2) (pv 4) (fun _ _ => rfl)))
      (pss_one (ps_for PassesOwn.never rfl (pi_enum (by rfl) T.b_enumerate (pa_cons (pv 0) pa_nil)) (pg_tup (by rfl) (pgs_cons (pg_name (i := 6) nd rfl (Or.inl rfl)) (pgs_cons (pg_name (i := 7) nd rfl (Or.inl rfl)) pgs_nil)))
      (pss_cons (ps_set (i := 8) nd rfl (Or.inl rfl) (pe_op op_add (pe_op op_sub (pv 4) (pv 3)) (pv 6)))
      (pss_one (ps_asg (pe_op op_sub (pe_ix (r := rIxL K) ix_list (pv 2) (pv 8) (fun _ _ => rfl)) (pe_op op_mul (pv 5) (pv 7))) (pg_sub (pv 2) (pv 8) set_list))))))))
      (pss_one (ps_ret (pe_callTy call_tuple_of (by rfl) T.b_tuple (by decide +kernel) (pa_cons (pe_slice (r := rSlL K) sl_list (pe_op op_cat (pv 2) (pe_op op_rep (pe_lst (pa_cons (pe_int) pa_nil)) (pv 3))) po_none (po_some (pv 3))) pa_nil)))))), ?_⟩
    walk_at "ev"
    w_cond _1
    have hb1 := sm1.seq hb
    have hL1 := SqL.of (K := K) hq1
    have rg : RgC (((row.map V.int).length : Int) - 1) (((bs.map V.int).length : Int) - 1 - 1) (-1) ((((row.map V.int).length : Int) - 1) - (((bs.map V.int).length : Int) - 1 - 1)).toNat := RgC.neg (by rw [List.length_map]; omega) (by rw [List.length_map]; omega) (by rw [List.length_map]; omega) (by rw [List.length_map]; omega)
    walk_at "ev"
    have en : ((((row.map V.int).length : Int) - 1) - (((bs.map V.int).length : Int) - 1 - 1)).toNat = row.length - (bs.length - 1) := by
      rw [List.length_map, List.length_map]
      omega
    refine for_rangeC (lo := _) (c := _) (n := _) (fun n σ H' => Hold (∃ (s4 s5 s6 s7 s8 : Option V), σ = [some (.ref b), some (.ref a), some (.ref l1), some (.int (((bs.map V.int).length : Int) - 1)), s4, s5, s6, s7, s8] ∧ Same H H' ∧ H' l1 = some (.lst ((lrN bs row n).map V.int)))) (.mk ⟨none, none, none, none, none, rfl, sm1, hq1⟩) ?_ ?_
    · intro n σ H3 hn hP
      obtain ⟨s4, s5, s6, s7, s8, rfl, sm3, h1⟩ := hP.un
      rw [en] at hn
      have e1 := lrN_len (bs := bs) (row := row) n
      have hL3 := SqL.of (K := K) h1
      have hb3 := sm3.seq hb
      have epl : (((row.map V.int).length : Int) - 1) + (n : Nat) * (-1) = ((row.length - 1 - n : Nat) : Int) := by
        rw [List.length_map]
        omega
      rw [epl]
      have at1 : atI ((lrN bs row n).map V.int) ((row.length - 1 - n : Nat) : Int) = some (.int ((lrN bs row n).getD (row.length - 1 - n) 0)) := at_map (by omega) rfl
      obtain ⟨top, htop⟩ : ∃ top, (lrN bs row n).getD (row.length - 1 - n) 0 = top := ⟨_, rfl⟩
      rw [htop] at at1
      walk_at "ev"
      refine for_enumL (K := K) (a := b) (xs := bs.map V.int) (fun i σ H' => Hold (∃ (s6 s7 s8 : Option V), σ = [some (.ref b), some (.ref a), some (.ref l1), some (.int (((bs.map V.int).length : Int) - 1)), some (.int ((row.length - 1 - n : Nat) : Int)), some (.int top), s6, s7, s8] ∧ Same H H' ∧ H' l1 = some (.lst ((subAt (row.length - 1 - n - (bs.length - 1)) top bs (lrN bs row n) i).map V.int)))) (.mk ⟨_, _, _, rfl, sm3, h1⟩) ?_ ?_ ?_
      · intro i σ H5 hP
        obtain ⟨s6, s7, s8, rfl, sm5, h15⟩ := hP.un
        exact sm5.seq hb
      · intro i v T' σ H5 hv hP hT
        obtain ⟨s6, s7, s8, rfl, sm5, h15⟩ := hP.un
        rw [List.getElem?_map] at hv
        obtain ⟨x, hx, ev⟩ := Option.map_eq_some_iff.mp hv
        subst ev
        have hil : i < bs.length := (List.getElem?_eq_some_iff.mp hx).1
        have exi : bs.getD i 0 = x := by rw [List.getD_eq_getElem?_getD, hx]; rfl
        have hxb := hbb x (List.mem_of_getElem? hx)
        generalize hG : upd _ T' _ = H6
        obtain ⟨sm6, hq6⟩ := newO hG hT
        clear hG
        have hT6 : SqT K H6 T' [.int (i : Nat), .int x] := SqT.of hq6
        have h16 := sm6 _ _ h15
        have hL6 := SqL.of (K := K) h16
        have hsl := subAt_len (start := row.length - 1 - n - (bs.length - 1)) (top := top) (bs := bs) (r := lrN bs row n) (i := i)
        have eix : ((row.length - 1 - n : Nat) : Int) - (((bs.map V.int).length : Int) - 1) + (i : Nat) = ((row.length - 1 - n - (bs.length - 1) + i : Nat) : Int) := by
          rw [List.length_map]
          omega
        have at2 : atI ((subAt (row.length - 1 - n - (bs.length - 1)) top bs (lrN bs row n) i).map V.int) (((row.length - 1 - n : Nat) : Int) - (((bs.map V.int).length : Int) - 1) + (i : Nat)) = some (.int ((subAt (row.length - 1 - n - (bs.length - 1)) top bs (lrN bs row n) i).getD (row.length - 1 - n - (bs.length - 1) + i) 0)) := at_map (by omega) eix
        have hix : ixN ((subAt (row.length - 1 - n - (bs.length - 1)) top bs (lrN bs row n) i).map V.int).length (((row.length - 1 - n : Nat) : Int) - (((bs.map V.int).length : Int) - 1) + (i : Nat)) = some (row.length - 1 - n - (bs.length - 1) + i) := ixn_of (by rw [List.length_map]; omega) eix
        have cm : CMul top x := .inr ⟨by omega, by omega⟩
        walk_at "ev"
        refine .mk ⟨_, _, _, rfl, same_mut (sm5.trans sm6) hl1, ?_⟩
        rw [upd_same, subAt, List.map_set, exi]
      · intro σ H5 hP
        obtain ⟨s6, s7, s8, rfl, sm5, h15⟩ := hP.un
        rw [List.length_map] at h15
        refine .mk ⟨_, _, _, _, _, rfl, sm5, ?_⟩
        rw [h15, lrN, htop]
    · intro σ H3 hP
      obtain ⟨s4, s5, s6, s7, s8, rfl, sm3, h1⟩ := hP.un
      rw [en] at h1
      have z1 : ([V.int 0] : List V).length * (((bs.map V.int).length : Int) - 1).toNat ≤ sizeLine := szl (by rw [List.length_map]; show 1 * _ ≤ 60000; omega)
      have z2 : ((bs.map V.int).length : Int) - 1 < 2 ^ 63 := by rw [List.length_map]; omega
      walk_at "ev"
      w_cond _4
      walk_at "ev"
      w_cond _5
      have h15 := (sm4.trans sm5) _ _ h1
      have e1 := lrN_len (bs := bs) (row := row) (row.length - (bs.length - 1))
      have z3 : ((lrN bs row (row.length - (bs.length - 1))).map V.int).length + (List.replicate (((bs.map V.int).length : Int) - 1).toNat [V.int 0]).flatten.length ≤ sizeLine := szl (by rw [rep_flat, List.length_replicate, List.length_map, List.length_map]; omega)
      walk_at "ev"
      w_cond _6
      have hL6 := SqL.of (K := K) hq6
      walk_at "ev"
      w_cond _7
      walk_at "ev"
      refine .inl ⟨SqL.of hq7, ?_⟩
      w_cond _8
      refine q l8 H8 ((sm3.trans (sm4.trans (sm5.trans (sm6.trans sm7)))).free hl8) (sm3.trans (sm4.trans (sm5.trans (sm6.trans (sm7.trans sm8))))) ?_
      rw [hq8, rep_flat, ← lrR_eq (by omega) blast, lrR, List.map_take, List.map_append, List.map_replicate]
      have ek : ((bs.map V.int).length : Int) - 1 = ((bs.length - 1 : Nat) : Int) := by
        rw [List.length_map]
        omega
      rw [ek]
      have ec : ∀ (xs : List V) (k : Nat), k ≤ xs.length → cutV xs none (some ((k : Nat) : Int)) = xs.take k := fun xs k hk => by
        have z : cutV xs none (some ((k : Nat) : Int)) = (xs.drop 0).take (HT.sIx xs.length xs.length (some ((k : Nat) : Int)) - 0) := rfl
        rw [z, HT.sIx_nat, Nat.min_eq_left hk]
        rfl
      rw [Int.toNat_natCast, ec _ _ (by rw [List.length_append, List.length_replicate]; omega)]
end
/-! ### things, by what they are -/
def intD : PyData → Bool
  | .int _ => true
  | _ => false
def tyD : PyData → String
  | .none => "NoneType"
  | .bool _ => "bool"
  | .int _ => "int"
  | .str _ => "str"
  | .list _ => "list"
  | .tuple _ => "tuple"
  | .dict _ => "dict"
theorem kdD {K : PySem.W.Frag} {H : Hp} {v : V} {d : PyData} (h : Dp K H v d) : Kd K H v (tyD d) := by
  cases h with
  | non => exact .non
  | bl b => exact .bl b
  | int i => exact .int i
  | str x => exact .str x
  | lst h _ => exact .lst h
  | tup h _ => exact .tup h
theorem tyD_int (d : PyData) : (tyD d == "int") = intD d := by
  cases d <;> rfl
local macro_rules | `(tactic| walk_at "ev1") => `(tactic| ((first | with_reducible show ClsV _ _ | with_reducible show Paired ClsV _ _); first | exact ClsV.own _ | exact ClsV.ty _ | exact .cons (.own _) (.cons (.own _) .nil) | exact .cons (.own _) (.cons (.own _) (.cons (.own _) .nil))))
/-! ### the ground of exact roots -/
theorem whl_last : ∀ n < 31, 1 ≤ n → 2 ≤ (whl n).length ∧ (whl n).length ≤ 31 ∧ (whl n).getD ((whl n).length - 1) 0 = 1 := by decide +kernel
theorem whl_bd1 : ∀ n < 31, ∀ x ∈ whl n, x.natAbs ≤ 1 := by decide +kernel
abbrev rootF (n : Nat) (r : Addr) : List (Str × V) := [(("order" : Str), .int (n : Int)), (("rim" : Str), .ref r)]
def RootAt (C : Addr) (H : Hp) (a : Addr) (n : Nat) : Prop := ∃ dx r, H a = some (.ins C dx (rootF n r)) ∧ H r = some (.tup ((whl n).map V.int))
theorem RootAt.same {C : Addr} {H H' : Hp} {a : Addr} {n : Nat} (h : RootAt C H a n) (e : Same H H') : RootAt C H' a n := by
  obtain ⟨dx, r, h1, h2⟩ := h
  exact ⟨dx, r, e _ _ h1, e _ _ h2⟩
theorem RootAt.keep {C b : Addr} {H H' : Hp} {a : Addr} {n : Nat} {c : Int} (h : RootAt C H a n) (hb : BoxAt H b c) (e : Keep b H H') : RootAt C H' a n := by
  obtain ⟨dx, r, h1, h2⟩ := h
  obtain ⟨x, y, z, b1, _⟩ := hb
  exact ⟨dx, r, e _ _ (fun w => by rw [w, b1] at h1; cases h1) h1, e _ _ (fun w => by rw [w, b1] at h2; cases h2) h2⟩
theorem RootAt.some {C : Addr} {H : Hp} {a : Addr} {n : Nat} (h : RootAt C H a n) : ∃ o, H a = some o := by
  obtain ⟨dx, r, h1, h2⟩ := h
  exact ⟨_, h1⟩
structure RootC (K : PySem.W.Frag) (C : Addr) : Prop where
  cl : L2.Cls K C
  no : NoAttr K C "order"
  nr : NoAttr K C "rim"
abbrev s_Roots___init__ : Stmt := inClass (top 14) 0
abbrev N_Roots___init__ : List Str := ["self", "order"]
abbrev P_Roots___init__ : List Str := ["self", "order"]
theorem sc_Roots___init__ : FnScope N_Roots___init__ P_Roots___init__ (defScope s_Roots___init__) := ⟨rfl, rfl, rfl, by decide +kernel, rfl, by decide +kernel, by decide +kernel⟩
/-- Roots(v): a new one of each order to thirty; BadGround of all else -/
def spRoI (K : PySem.W.Frag) (C CB : Addr) : Sp := fun vs H Q E => ∃ (a dx : Addr) (v : V) (t : String), vs = [.ref a, v] ∧ H a = some (.ins C dx []) ∧ Kd K H v t ∧
  (∀ n : Nat, v = .int (n : Int) → 1 ≤ n → n < 31 → ∀ H', Keep a H H' → RootAt C H' a n → Q .non H') ∧
  ((¬ ∃ n : Nat, v = .int (n : Int) ∧ 1 ≤ n ∧ n < 31) → ∀ d H', H d = none → Same H H' → H' d = some (.xd [(("what" : Str), v)]) → E (.ref CB) (some d) H')
section
variable {P : Program} {w : World} {K : PySem.W.Frag} {mg : Str → Option Value} {base : Heap}
theorem ok_roi {f f1 f2 f3 f4 fI C CB CT : Addr} {fd d1 d2 d3 d4 fdI : FuncData} {tM : Tok} (F : Fun K "__init__" "Roots.__init__" s_Roots___init__ f fd) (T : Blt mg) (RC : RootC K C) (D_is_whole : Df K mg "is_whole" s_is_whole P_is_whole f1 d1) (D_wheel : Df K mg "wheel" s_wheel P_wheel f2 d2) (D_divisors : Df K mg "divisors" s_divisors P_divisors f3 d3) (D_divided : Df K mg "divided" s_divided P_divided f4 d4)
    (M_MOST_ORDER : mg "MOST_ORDER" = some (.int 30 tM)) (FI : Fun K "__init__" "TurnError.__init__" s_init fI fdI) (I_b : Binds K fdI N_init []) (I_ty : PySem.W.typeIn K (.ref fI) = some (.type "function"))
    (R : Ref K CT CB fI) (M_BadGround : mg "BadGround" = some (.ref CB)) : FnOk P w K mg base (L2.CX P w) 7 f fd P_Roots___init__ (spRoI K C CB) := by
  have G_is_whole : FnOk P w K mg base CX0 1 f1 d1 P_is_whole (spWhole K) := ok_whole D_is_whole.F T
  have G_wheel : FnOk P w K mg base CX0 6 f2 d2 P_wheel (spWheel 5) := ok_wheel D_wheel T D_divisors D_divided 5
  have G_init : FnOk P w K mg base CX0 1 fI fdI N_init (spInit K) := ok_init FI
  have EK_BadGround := R.ek
  have II_BadGround := R.ini
  have nd := sc_Roots___init__.nd
  refine F.okX sc_Roots___init__ (fun vs H Q E h => ?_) (fun cdv A outer s H vs Q E hr h => ?_)
  · obtain ⟨a, dx, v, t, rfl, _⟩ := h
    rfl
  · obtain ⟨a, dx, v, t, rfl, ha, kd, qy, qn⟩ := h
    refine ⟨_, (pss_cons (ps_if (PW.pt (pw_or (pt_not (pt_val (pe_call G_is_whole (hr.mono (by omega)) (by rfl) D_is_whole.g D_is_whole.F.kp D_is_whole.b .nil pass0 (pa_cons (pv 1) pa_nil)))) (pw_or (pt_cmpR op_lt (pv 1) (pe_int) (nomark _)) (pw_or1 (pt_cmpR op_gt (pv 1) (pe_glob (v := .int 30) (by rfl) M_MOST_ORDER ⟨_, rfl⟩) (nomark _)))))) (pss_one (ps_raise rfl (takes_of rfl rfl rfl rfl) (pmk_oex EK_BadGround.oex II_BadGround I_ty G_init (hr.mono (by omega)) I_b .nil pass0 (by rfl) M_BadGround (pa_cons (pv 1) pa_nil)))) pss_nil)
      (pss_cons (ps_fld (pv 0) (pv 1) (by rfl))
      (pss_one (ps_fld (pv 0) (pe_callTy call_tuple_of (by rfl) T.b_tuple (by decide +kernel) (pa_cons (pe_call G_wheel (hr.mono (by omega)) (by rfl) D_wheel.g D_wheel.F.kp D_wheel.b .nil pass0 (pa_cons (pv 1) pa_nil)) pa_nil)) (by rfl))))), ?_⟩
    obtain ⟨cl, no, nr⟩ := RC
    have bad : ∀ H1, Same H H1 → (¬ ∃ n : Nat, v = .int (n : Int) ∧ 1 ≤ n ∧ n < 31) → ∀ z, H1 z = none → _ := fun H1 sm1 no => mk_what (v := v) (Q := E) R.ek fun d H2 hd sm2 hq => qn no d H2 (sm1.free hd) (sm1.trans sm2) hq
    walk_at "ev"
    cases kd with
    | int p =>
      walk_at "ev"
      refine ite2 (fun e => ?_) (fun e => ?_)
      · have e1 : p < 1 := of_decide_eq_true e
        refine ⟨_, rfl, (by show 1 ≤ 1000; decide), bad _ (Same.refl _) ?_⟩
        rintro ⟨n, h1, h2, h3⟩
        cases h1
        omega
      · have e1 : ¬ p < 1 := fun z => e (decide_eq_true z)
        walk_at "ev"
        refine ite2 (fun e2 => ?_) (fun e2 => ?_)
        · have e3 : 30 < p := of_decide_eq_true e2
          refine ⟨_, rfl, (by show 1 ≤ 1000; decide), bad _ (Same.refl _) ?_⟩
          rintro ⟨n, h1, h2, h3⟩
          cases h1
          omega
        · have e3 : ¬ 30 < p := fun z => e2 (decide_eq_true z)
          obtain ⟨n, rfl⟩ := Int.eq_ofNat_of_zero_le (show 0 ≤ p by omega)
          have n1 : 1 ≤ n := by omega
          have n31 : n < 31 := by omega
          have n32 : n < 2 ^ 5 := by omega
          walk_at "ev"
          generalize hG : upd H a _ = H2
          obtain ⟨k2, hq2⟩ := mutO hG
          clear hG
          walk_at "ev"
          intro l H3 hl sm3 hq3
          walk_at "ev"
          refine .inl ⟨SqL.of hq3, ?_⟩
          w_cond _4
          have ha4 := (sm3.trans sm4) _ _ hq2
          have na4 : l4 ≠ a := (ne_of_none (sm3 _ _ hq2) hl4).symm
          walk_at "ev"
          refine ⟨(by show 1 < 1000; decide), ?_⟩
          exact qy n rfl n1 n31 _ ((k2.trans (keepS (sm3.trans sm4))).trans (keep_upd (Keep.refl _ _))) ⟨dx, l4, upd_same, by rw [upd_ne na4]; exact hq4⟩
    | _ =>
      walk_at "ev"
      refine bad _ (Same.refl _) ?_
      rintro ⟨n, h1, h2⟩
      cases h1
end
abbrev s_Roots_sum_of : Stmt := inClass (top 14) 7
abbrev N_Roots_sum_of : List Str := ["self", "one", "other", "part", "beside"]
abbrev P_Roots_sum_of : List Str := ["self", "one", "other"]
theorem sc_Roots_sum_of : FnScope N_Roots_sum_of P_Roots_sum_of (defScope s_Roots_sum_of) := ⟨rfl, rfl, rfl, by decide +kernel, rfl, by decide +kernel, by decide +kernel⟩
def spSumO (K : PySem.W.Frag) : Sp := fun vs H Q _ => ∃ (a x y : Addr) (one two : List Int), vs = [.ref a, .ref x, .ref y] ∧ SqT K H x (one.map V.int) ∧ SqT K H y (two.map V.int) ∧ one.length = two.length ∧ one.length ≤ 100 ∧ ∀ p H', H p = none → Same H H' → H' p = some (.tup ((List.zipWith (· + ·) one two).map V.int)) → Q (.ref p) H'
section
variable {P : Program} {w : World} {K : PySem.W.Frag} {mg : Str → Option Value} {base : Heap}
theorem ok_sum_ofR {f : Addr} {fd : FuncData} {k : Nat} (F : Fun K "sum_of" "Roots.sum_of" s_Roots_sum_of f fd) (T : Blt mg) : FnOk P w K mg base CX0 (k + 1) f fd P_Roots_sum_of (spSumO K) := by
  have nd := sc_Roots_sum_of.nd
  refine F.ok sc_Roots_sum_of (fun vs H Q E h => ?_) (fun cdv A outer s H vs Q E hr h => ?_)
  · obtain ⟨a, x, y, one, two, rfl, _⟩ := h
    rfl
  · obtain ⟨a, x, y, one, two, rfl, hx, hy, hle, hl, q⟩ := h
    refine ⟨_, (pss_one (ps_ret (pe_callTy call_tuple_of (by rfl) T.b_tuple (by decide +kernel) (pa_cons (pe_lc (own := [("part", 3), ("beside", 4)]) (g := gTup K 2 (gCons (gName 3) (gCons (gName 4) gNil))) (by rfl) nd (RZ.pi_zipA (by rfl) T.b_zip (pa_cons (pv 1) (pa_cons (pv 2) pa_nil))) (blkOk_by (own := [("part", 3), ("beside", 4)]) (N := N_Roots_sum_of) (sc := defScope s_Roots_sum_of) (by decide +kernel)) (fun _ _ _ _ _ => (pg_tup (by rfl) (pgs_cons (pg_name (i := 3) nd rfl (Or.inl rfl)) (pgs_cons (pg_name (i := 4) nd rfl (Or.inl rfl)) pgs_nil)))) (fun _ _ _ _ _ => pts_nil) (fun _ _ _ _ _ => (pe_op op_add (pv 3) (pv 4)))) pa_nil)))), ?_⟩
    walk_at "ev"
    refine .inr ⟨hx, hy, fun D hD => ?_⟩
    refine lc_pairs (xs := one.map V.int) (ys := two.map V.int) (fun i H' => Hold (Same H H' ∧ H' D = some (.lst (((List.zipWith (· + ·) one two).take i).map V.int)))) (.mk ⟨same_new hD, upd_same⟩) ?_ ?_ ?_ ?_ ?_
    · intro i H' hP hi
      obtain ⟨sm2, hD2⟩ := hP.un
      have hi2 : i < (two.map V.int).length := by rw [List.length_map] at *; omega
      exact ⟨_, _, _, _, same_t sm2 hx, same_t sm2 hy, List.getElem?_eq_getElem hi, List.getElem?_eq_getElem hi2⟩
    · intro i H' v H'' hP hi yl
      obtain ⟨sm2, hD2⟩ := hP.un
      obtain ⟨T, x', y', e1, e2, e3, f1, f2⟩ := yl
      exact ⟨T, x', y', e1, e2, e3, f1 _ (same_t sm2 hx), f2 _ (same_t sm2 hy)⟩
    · intro H' hP
      obtain ⟨sm2, hD2⟩ := hP.un
      exact ⟨_, _, same_t sm2 hx, same_t sm2 hy, .inl (Nat.le_refl _)⟩
    · intro i x' y' T' H' H'' hx' hy' hP hT e
      obtain ⟨sm2, hD2⟩ := hP.un
      obtain ⟨sm3, hT3⟩ := newO e.symm hT
      have hT4 : SqT K H'' T' [x', y'] := SqT.of hT3
      rw [List.getElem?_map] at hx' hy'
      obtain ⟨u, hu, eu⟩ := Option.map_eq_some_iff.mp hx'
      obtain ⟨v, hv, ev⟩ := Option.map_eq_some_iff.mp hy'
      subst eu ev
      have hil : i < one.length := (List.getElem?_eq_some_iff.mp hu).1
      have hsz : (((List.zipWith (· + ·) one two).take i).map V.int).length < sizeLine := szm (by rw [List.length_map, List.length_take]; omega)
      have hD3 := sm3 _ _ hD2
      walk_at "ev"
      refine .mk ⟨same_mut (sm2.trans sm3) hD, ?_⟩
      rw [upd_same, List.take_add_one, List.getElem?_zipWith, hu, hv, List.map_append]
      rfl
    · intro H' hP
      obtain ⟨sm2, hD2⟩ := hP.un
      have ez : (List.zipWith (· + ·) one two).length = (one.map V.int).length := by rw [List.length_zipWith, List.length_map]; omega
      rw [← ez, List.take_length] at hD2
      walk_at "ev"
      refine .inl ⟨SqL.of hD2, ?_⟩
      w_cond _3
      exact q l3 H3 (sm2.free hl3) (sm2.trans sm3) hq3
end
abbrev s_Roots_product_of : Stmt := inClass (top 14) 9
abbrev N_Roots_product_of : List Str := ["self", "one", "other"]
abbrev P_Roots_product_of : List Str := ["self", "one", "other"]
theorem sc_Roots_product_of : FnScope N_Roots_product_of P_Roots_product_of (defScope s_Roots_product_of) := ⟨rfl, rfl, rfl, by decide +kernel, rfl, by decide +kernel, by decide +kernel⟩
def spProdO (K : PySem.W.Frag) (C : Addr) : Sp := fun vs H Q _ => ∃ (a x y : Addr) (n : Nat) (one two : List Int), vs = [.ref a, .ref x, .ref y] ∧ RootAt C H a n ∧ 1 ≤ n ∧ n < 31 ∧ SqT K H x (one.map V.int) ∧ SqT K H y (two.map V.int) ∧ 1 ≤ one.length ∧ 1 ≤ two.length ∧ one.length ≤ 100 ∧ two.length ≤ 100 ∧ (∀ x ∈ one, x.natAbs < 2 ^ 400) ∧ (∀ x ∈ two, x.natAbs < 2 ^ 400) ∧
  ∀ p H', H p = none → Same H H' → H' p = some (.tup ((dvR (whl n) (pmul one two)).map V.int)) → Q (.ref p) H'
section
variable {P : Program} {w : World} {K : PySem.W.Frag} {mg : Str → Option Value} {base : Heap}
theorem ok_prodO {f f1 f2 C : Addr} {fd d1 d2 : FuncData} {k : Nat} (F : Fun K "product_of" "Roots.product_of" s_Roots_product_of f fd) (T : Blt mg) (RC : RootC K C) (D_divided : Df K mg "divided" s_divided P_divided f1 d1) (D_multiplied : Df K mg "multiplied" s_multiplied P_multiplied f2 d2) : FnOk P w K mg base CX0 (k + 2) f fd P_Roots_product_of (spProdO K C) := by
  have G_divided : FnOk P w K mg base CX0 1 f1 d1 P_divided (spDvd2 K) := ok_divided2 D_divided.F T
  have G_multiplied : FnOk P w K mg base CX0 1 f2 d2 P_multiplied (spMulT K) := ok_mulT D_multiplied.F T
  have nd := sc_Roots_product_of.nd
  refine F.ok sc_Roots_product_of (fun vs H Q E h => ?_) (fun cdv A outer s H vs Q E hr h => ?_)
  · obtain ⟨a, x, y, n, one, two, rfl, _⟩ := h
    rfl
  · obtain ⟨a, x, y, n, one, two, rfl, ⟨dx, r, ha, hrm⟩, n1, n31, hx, hy, o1, t1, ol, tl, bo, bt, q⟩ := h
    refine ⟨_, (pss_one (ps_ret (pe_callTy call_tuple_of (by rfl) T.b_tuple (by decide +kernel) (pa_cons (pe_ix (r := rIxT K) ix_tup (pe_call G_divided (hr.mono (by omega)) (by rfl) D_divided.g D_divided.F.kp D_divided.b .nil pass0 (pa_cons (pe_call G_multiplied (hr.mono (by omega)) (by rfl) D_multiplied.g D_multiplied.F.kp D_multiplied.b .nil pass0 (pa_cons (pv 1) (pa_cons (pv 2) pa_nil))) (pa_cons (pe_fld (pv 0) (by rfl)) pa_nil))) (pe_int) (fun _ _ => rfl)) pa_nil)))), ?_⟩
    obtain ⟨cl, no, nr⟩ := RC
    obtain ⟨w2, w31, _⟩ := whl_last n n31 n1
    have wb := whl_bnd n n31
    have o1000 : one.length ≤ 1000 := by omega
    have t1000 : two.length ≤ 1000 := by omega
    walk_at "ev"
    intro m H1 hm sm1 hq1
    have ha1 := sm1 _ _ ha
    have hM := SqL.of (K := K) hq1
    have hR1 : SqL K H1 r ((whl n).map V.int) ∨ SqT K H1 r ((whl n).map V.int) := .inr (SqT.of (sm1 _ _ hrm))
    have z1 : 1 ≤ (whl n).length := by omega
    have z2 : (whl n).length ≤ 1000 := by omega
    have z3 : (pmul one two).length ≤ 1000 := by rw [pmul_len]; omega
    walk_at "ev"
    intro t' qq z H2 hq sm2 hT hQ hz hZ
    have at1 : atI [V.ref qq, V.ref z] 1 = some (.ref z) := rfl
    walk_at "ev"
    refine .inl ⟨SqL.of hZ, ?_⟩
    w_cond _3
    exact q l3 H3 ((sm1.trans sm2).free hl3) (sm1.trans (sm2.trans sm3)) hq3
end
abbrev s_Roots_worth_of : Stmt := inClass (top 14) 6
abbrev N_Roots_worth_of : List Str := ["self", "number"]
abbrev P_Roots_worth_of : List Str := ["self", "number"]
theorem sc_Roots_worth_of : FnScope N_Roots_worth_of P_Roots_worth_of (defScope s_Roots_worth_of) := ⟨rfl, rfl, rfl, by decide +kernel, rfl, by decide +kernel, by decide +kernel⟩
def spWorO (K : PySem.W.Frag) (C : Addr) : Sp := fun vs H Q _ => ∃ (a : Addr) (n : Nat) (i : Int), vs = [.ref a, .int i] ∧ RootAt C H a n ∧ 1 ≤ n ∧ n < 31 ∧ ∀ p H', H p = none → Same H H' → H' p = some (.tup ((i :: List.replicate ((whl n).length - 2) 0).map V.int)) → Q (.ref p) H'
theorem dvR_one {bs : List Int} {i : Int} (h : 2 ≤ bs.length) : dvR bs [i] = i :: List.replicate (bs.length - 2) 0 := by
  unfold dvR
  rw [show ([i] : List Int).length - (bs.length - 1) = 0 by rw [List.length_singleton]; omega, dvN]
  show [i] ++ List.replicate (bs.length - 1 - 1) 0 = _
  rw [show bs.length - 1 - 1 = bs.length - 2 by omega]
  rfl
section
variable {P : Program} {w : World} {K : PySem.W.Frag} {mg : Str → Option Value} {base : Heap}
theorem ok_worO {f f1 C : Addr} {fd d1 : FuncData} {k : Nat} (F : Fun K "worth_of" "Roots.worth_of" s_Roots_worth_of f fd) (T : Blt mg) (RC : RootC K C) (D_divided : Df K mg "divided" s_divided P_divided f1 d1) : FnOk P w K mg base CX0 (k + 2) f fd P_Roots_worth_of (spWorO K C) := by
  have G_divided : FnOk P w K mg base CX0 1 f1 d1 P_divided (spDvd2 K) := ok_divided2 D_divided.F T
  have nd := sc_Roots_worth_of.nd
  refine F.ok sc_Roots_worth_of (fun vs H Q E h => ?_) (fun cdv A outer s H vs Q E hr h => ?_)
  · obtain ⟨a, n, i, rfl, _⟩ := h
    rfl
  · obtain ⟨a, n, i, rfl, ⟨dx, r, ha, hrm⟩, n1, n31, q⟩ := h
    refine ⟨_, (pss_one (ps_ret (pe_callTy call_tuple_of (by rfl) T.b_tuple (by decide +kernel) (pa_cons (pe_ix (r := rIxT K) ix_tup (pe_call G_divided (hr.mono (by omega)) (by rfl) D_divided.g D_divided.F.kp D_divided.b .nil pass0 (pa_cons (pe_lst (pa_cons (pv 1) pa_nil)) (pa_cons (pe_fld (pv 0) (by rfl)) pa_nil))) (pe_int) (fun _ _ => rfl)) pa_nil)))), ?_⟩
    obtain ⟨cl, no, nr⟩ := RC
    obtain ⟨w2, w31, _⟩ := whl_last n n31 n1
    have wb := whl_bnd n n31
    walk_at "ev"
    w_cond _1
    have ha1 := sm1 _ _ ha
    have hM : SqL K H1 l1 (([i] : List Int).map V.int) := SqL.of hq1
    have hR1 : SqL K H1 r ((whl n).map V.int) ∨ SqT K H1 r ((whl n).map V.int) := .inr (SqT.of (sm1 _ _ hrm))
    have z1 : 1 ≤ (whl n).length := by omega
    have z2 : (whl n).length ≤ 1000 := by omega
    have z3 : ([i] : List Int).length ≤ 1000 := by show 1 ≤ 1000; decide
    walk_at "ev"
    intro t' qq z H2 hq sm2 hT hQ hz hZ
    rw [dvR_one w2] at hZ
    have at1 : atI [V.ref qq, V.ref z] 1 = some (.ref z) := rfl
    walk_at "ev"
    refine .inl ⟨SqL.of hZ, ?_⟩
    w_cond _3
    exact q l3 H3 ((sm1.trans sm2).free hl3) (sm1.trans (sm2.trans sm3)) hq3
end
/-! ### t * k, t a tuple, k any -/
section
open PySem.Spec PyProof.Rows
theorem tuple_mulW1 (l : Addr) (items : Array Value) (n : Nat) (dd : Option Addr) (sl : Array (Option Value)) (u : Tok) :
    Meets (Builtin.«tuple.__mul__» ⟨[.ref l, .int 1 u], []⟩) (fun _ R s => s.heap.get? l = some { cls := .type "tuple", dict := dd, data := .seq items n, slots := sl } ∧ R (.ok (.ret (Value.ref l))) s) :=
  .of_wp fun prog w A R s h => by
    obtain ⟨hp, g, d, tk, os⟩ := s
    obtain ⟨hl, h⟩ := h
    have f1 := AutoSeq1.idx_int
    have c1 : (items.isEmpty || (1 : Int) == 1) = true := by rw [beq_self_eq_true, Bool.or_true]
    wp_walk using wpAny_loadPart' hl
    repeat (first
      | (refine wpAny_ite_false (decide_eq_false (by decide)) ?_; wp_walk using wpAny_loadPart' hl)
      | (refine wpAny_ite_true (decide_eq_true c1) ?_; wp_walk using wpAny_loadPart' hl))
    exact ⟨_, rfl, h⟩
theorem tuple_mulW0 (l : Addr) (items : Array Value) (n : Nat) (dd : Option Addr) (sl : Array (Option Value)) (x : Int) (u : Tok) (c0 : (decide (x < -(2 ^ 63)) || decide (x ≥ 2 ^ 63)) = false) (c1 : (items.isEmpty || x == 1) = false) (c2 : (decide (x ≤ 0) || items.isEmpty) = true) :
    Meets (Builtin.«tuple.__mul__» ⟨[.ref l, .int x u], []⟩) (fun _ R s => s.heap.get? l = some { cls := .type "tuple", dict := dd, data := .seq items n, slots := sl } ∧
      R (.ok (.ret (Value.ref s.heap.objs.size))) { s with heap := s.heap.push { cls := Value.type "tuple", data := Data.seq #[] }, toks := s.toks }) :=
  .of_wp fun prog w A R s h => by
    obtain ⟨hp, g, d, tk, os⟩ := s
    obtain ⟨hl, h⟩ := h
    have f1 := AutoSeq1.idx_int
    have hsz : ¬ (#[] : Array Value).size > sizeLine := by rw [sizeLine_eq]; decide
    wp_walk using wpAny_loadPart' hl
    repeat (first
      | (refine wpAny_ite_false (decide_eq_false (by rw [c0]; exact Bool.false_ne_true)) ?_; wp_walk using wpAny_loadPart' hl)
      | (refine wpAny_ite_false (decide_eq_false (by rw [c1]; exact Bool.false_ne_true)) ?_; wp_walk using wpAny_loadPart' hl)
      | (refine wpAny_ite_true (decide_eq_true c2) ?_; wp_walk using wpAny_loadPart' hl)
      | (refine wpAny_ite_false (decide_eq_false hsz) ?_; wp_walk using wpAny_loadPart' hl))
    exact ⟨_, rfl, h⟩
def rRepA (K : PySem.W.Frag) : R2 := fun x y H Q => ∃ l k xs, x = .ref l ∧ y = .int k ∧ SqT K H l xs ∧ xs ≠ [] ∧ -1000 ≤ k ∧ k ≤ 1000 ∧ xs.length ≤ 1000 ∧ (k = 1 → Q (.ref l) H) ∧ (k ≠ 1 → ∀ p, H p = none → Q (.ref p) (upd H p (.tup (List.replicate k.toNat xs).flatten)))
theorem op_repA {X : Cx} : OpR X (binaryOp .Mult) (rRepA X.K) := by
  intro pins s σ H x y v u Q I rx ry h
  obtain ⟨l, k, xs, rfl, rfl, hT, hne, h1, h2, hz, q1, q2⟩ := h
  by_cases c : 2 ≤ k
  · exact op_repT pins s σ H _ _ v u Q I rx ry ⟨l, k, xs, rfl, rfl, hT, hne, c, h2, hz, q2 (by omega)⟩
  cases rx
  obtain ⟨t, rfl⟩ := ry
  obtain ⟨its, r, ⟨⟨cls, dd, data, sl⟩, ho, hc, n, hd⟩, hs⟩ := I.tuple hT
  simp only at hc hd
  subst hc hd
  have hle : its.length = xs.length := r.length.symm
  have hn : its ≠ [] := fun e => hne (by
    rw [e] at hle
    exact List.eq_nil_of_length_eq_zero hle.symm)
  have hi : its.toArray.isEmpty = false := by
    cases its with
    | nil => exact absurd rfl hn
    | cons a b => rfl
  by_cases c1 : k = 1
  · subst c1
    exact wpAny_binaryOp_repeat_ref (T := "tuple") (U := "int") (by decide) ⟨_, ho, rfl⟩ (fun s' => typeIs_int s' 1 t) noFill_tuple_mul F.fills_int_mul F.slot_int_rmul repeat_tuple F.slot_int_index.lookup
      (call_meets F.slot_int_rmul (typeIs_int s 1 t) F.entry_int_rmul (F.args_int_rmul_2 _ _) (int_rmul_tuple 1 t l its.toArray n dd sl)
        ⟨ho, rfl, ⟨_, ho, rfl⟩, call_meets F.slot_tuple_mul ⟨_, ho, rfl⟩ F.entry_tuple_mul (F.args_tuple_mul_2 _ _) (tuple_mulW1 l its.toArray n dd sl t) ⟨ho, ⟨.ref l, H, I, rfl, q1 rfl⟩⟩⟩)
  · have c0 : (decide (k < -(2 ^ 63)) || decide (k ≥ 2 ^ 63)) = false := by
      rw [decide_eq_false (by omega), decide_eq_false (by omega)] <;> rfl
    have d1 : (its.toArray.isEmpty || k == 1) = false := by
      rw [hi, Bool.false_or]
      exact beq_eq_false_iff_ne.mpr c1
    have d2 : (decide (k ≤ 0) || its.toArray.isEmpty) = true := by
      rw [decide_eq_true (by omega)]
      rfl
    refine wpAny_binaryOp_repeat_ref (T := "tuple") (U := "int") (by decide) ⟨_, ho, rfl⟩ (fun s' => typeIs_int s' k t) noFill_tuple_mul F.fills_int_mul F.slot_int_rmul repeat_tuple F.slot_int_index.lookup
      (call_meets F.slot_int_rmul (typeIs_int s k t) F.entry_int_rmul (F.args_int_rmul_2 _ _) (int_rmul_tuple k t l its.toArray n dd sl)
        ⟨ho, rfl, ⟨_, ho, rfl⟩, call_meets F.slot_tuple_mul ⟨_, ho, rfl⟩ F.entry_tuple_mul (F.args_tuple_mul_2 _ _) (tuple_mulW0 l its.toArray n dd sl k t c0 d1 d2) ⟨ho, ?_⟩⟩)
    have e : (List.replicate k.toNat xs).flatten = [] := by
      rw [show k.toNat = 0 by omega]
      rfl
    have q3 := q2 c1
    rw [e] at q3
    refine ⟨.ref s.heap.objs.size, _, I.laid (t' := s.toks) (o := .tup []) (fun b ob q => Heap.get?_push_of_some _ q) (Nat.le_refl _) ?_, rfl, q3 _ (I.hok.fresh (Nat.le_refl _))⟩
    exact ⟨Nat.zero_le _, _, .nil, IsTup.new _ _⟩
end
/-! ### the law's worlds -/
theorem du {k : Nat} {A : Around} (h : Room k A) : A.units + 1 < cLine := by
  have := h.units
  omega
theorem keep_free {b p : Addr} {H H' : Hp} (k : Keep b H H') (n : p ≠ b) (h : H' p = none) : H p = none := by
  cases u : H p with
  | none => rfl
  | some o =>
    rw [k p o n u] at h
    cases h
abbrev wrldK (n : Nat) (l : Addr) : List (Key × V) := [(.inr "kind", .str "roots"), (.inr "by", .int (n : Int)), (.inr "wheel", .ref l), (.inr "first", .non)]
def WorldAt (H : Hp) (b d : Addr) (n : Nat) : Prop := ∃ l, l ≠ b ∧ d ≠ b ∧ H d = some (.dK (wrldK n l)) ∧ H l = some (.lst ((whl n).map V.int))
theorem WorldAt.keep {H H' : Hp} {b d : Addr} {n : Nat} (h : WorldAt H b d n) (e : Keep b H H') : WorldAt H' b d n := by
  obtain ⟨l, h1, h2, h3, h4⟩ := h
  exact ⟨l, h1, h2, e _ _ h2 h3, e _ _ h1 h4⟩
theorem WorldAt.same {H H' : Hp} {b d : Addr} {n : Nat} (h : WorldAt H b d n) (e : Same H H') : WorldAt H' b d n := h.keep (keepS e)
theorem dget_w {H : Hp} {d l : Addr} {n : Nat} (h : H d = some (.dK (wrldK n l))) : DGet H d (.str "kind") (some (.str "roots")) ∧ DGet H d (.str "by") (some (.int (n : Int))) ∧ DGet H d (.str "wheel") (some (.ref l)) :=
  ⟨DGet.k (k := .inr "kind") h, DGet.k (k := .inr "by") h, DGet.k (k := .inr "wheel") h⟩
abbrev s__law_exact : Stmt := top 24
abbrev N__law_exact : List Str := ["_law_box_here", "_law_order"]
abbrev P__law_exact : List Str := ["_law_box_here"]
theorem sc__law_exact : FnScope N__law_exact P__law_exact (defScope s__law_exact) := ⟨rfl, rfl, rfl, by decide +kernel, rfl, by decide +kernel, by decide +kernel⟩
def spExact : Sp := fun vs H Q _ => ∃ (b : Addr) (c : Int), vs = [.ref b] ∧ BoxAt H b c ∧ c < 900000 ∧ ∀ d l n H', 1 ≤ n → n < 31 → H d = none → H l = none → Keep b H H' → BoxAt H' b (c + 2) → l ≠ b → d ≠ b → H' d = some (.dK (wrldK n l)) → H' l = some (.lst ((whl n).map V.int)) → Q (.ref d) H'
section
variable {P : Program} {w : World} {K : PySem.W.Frag} {mg : Str → Option Value} {base : Heap}
theorem ok_exact {f f1 f2 f3 : Addr} {fd d1 d2 d3 : FuncData} (F : Fun K "_law_exact" "_law_exact" s__law_exact f fd) (T : Blt mg) (D__law_take : Df K mg "_law_take" s__law_take P__law_take f1 d1) (D__law_own_wheel : Df K mg "_law_own_wheel" s__law_own_wheel P__law_own_wheel f2 d2) (D__law_divided : Df K mg "_law_divided" s__law_divided P__law_divided f3 d3) : FnOk P w K mg base CX0 7 f fd P__law_exact spExact := by
  have G__law_take : FnOk P w K mg base CX0 1 f1 d1 P__law_take spTake := ok_take D__law_take.F
  have G__law_own_wheel : FnOk P w K mg base CX0 6 f2 d2 P__law_own_wheel (spWheel 5) := ok_own D__law_own_wheel T D__law_divided 5
  have nd := sc__law_exact.nd
  refine F.ok sc__law_exact (fun vs H Q E h => ?_) (fun cdv A outer s H vs Q E hr h => ?_)
  · obtain ⟨b, c, rfl, _⟩ := h
    rfl
  · obtain ⟨b, c, rfl, hb, hc, q⟩ := h
    refine ⟨_, (pss_cons (ps_set (i := 1) nd rfl (Or.inl rfl) (pe_ix (r := rIxL K) ix_list (pe_lst (pa_cons (pe_op op_add (pe_int) (pe_call G__law_take (hr.mono (by omega)) (by rfl) D__law_take.g D__law_take.F.kp D__law_take.b .nil pass0 (pa_cons (pv 0) (pa_cons (pe_int) pa_nil)))) (pa_cons (pe_int) (pa_cons (pe_int) (pa_cons (pe_int) (pa_cons (pe_int) pa_nil)))))) (pe_call G__law_take (hr.mono (by omega)) (by rfl) D__law_take.g D__law_take.F.kp D__law_take.b .nil pass0 (pa_cons (pv 0) (pa_cons (pe_int) pa_nil))) (fun _ _ => rfl)))
      (pss_one (ps_ret (pe_disp (pps_cons (pe_str) (pe_str) (pps_cons (pe_str) (pv 1) (pps_cons (pe_str) (pe_call G__law_own_wheel (hr.mono (by omega)) (by rfl) D__law_own_wheel.g D__law_own_wheel.F.kp D__law_own_wheel.b .nil pass0 (pa_cons (pv 1) pa_nil)) (pps_cons (pe_str) (pe_non) pps_nil)))) (by rfl) (by rfl) (by simp) (by decide))))), ?_⟩
    walk_at "ev"
    intro r1 H1 r10 r11 k1 hb1
    walk_at "ev"
    w_cond _2
    have hb2 := hb1.same sm2
    have n2b := hb1.ne hl2
    walk_at "ev"
    intro r3 H3 r30 r31 k3 hb3
    have hL3 := SqL.of (K := K) (k3 _ _ n2b hq2)
    obtain ⟨n, hn, hat⟩ : ∃ n : Nat, (1 ≤ n ∧ n < 31) ∧ atI [V.int (1 + r1), V.int 12, V.int 30, V.int 1, V.int 2] r3 = some (.int (n : Int)) := by
      have : r3 = 0 ∨ r3 = 1 ∨ r3 = 2 ∨ r3 = 3 ∨ r3 = 4 := by omega
      rcases this with z | z | z | z | z <;> subst z
      · obtain ⟨m, hm⟩ := Int.eq_ofNat_of_zero_le (show 0 ≤ 1 + r1 by omega)
        exact ⟨m, by omega, by rw [← hm]; rfl⟩
      · exact ⟨12, by decide, rfl⟩
      · exact ⟨30, by decide, rfl⟩
      · exact ⟨1, by decide, rfl⟩
      · exact ⟨2, by decide, rfl⟩
    obtain ⟨n1, n31⟩ := hn
    have n32 : n < 2 ^ 5 := by omega
    walk_at "ev"
    intro p hp
    generalize hG : upd H3 p _ = H4
    obtain ⟨sm4, hq4⟩ := newO hG hp
    clear hG
    have hb4 := hb3.same sm4
    walk_at "ev"
    intro l H5 hl sm5 hq5
    have hq45 := sm5 _ _ hq4
    have npl : l ≠ p := (ne_of_none hq4 hl).symm
    have npb : p ≠ b := hb3.ne hp
    have nlb : l ≠ b := hb4.ne hl
    have em : mergeK [] (wrldK n l) = wrldK n l := rfl
    have k13 : Keep b H H3 := k1.trans ((keepS sm2).trans k3)
    walk_at "ev"
    refine ⟨(show _ = List.map (fun kv : Key × V => (kV kv.1, kv.2)) (wrldK n l) from rfl), (by show 4 ≤ 15; decide), ?_⟩
    rw [em]
    exact q p l n _ n1 n31 (keep_free k13 npb hp) (keep_free (k13.trans (keepS sm4)) nlb hl) (keep_fresh (k13.trans (keepS (sm4.trans sm5))) (keep_free k13 npb hp)) (((hb4.same sm5).upd npb).mono (by omega)) nlb npb upd_same (by rw [upd_ne npl]; exact hq5)
end
abbrev s__law_worth : Stmt := top 23
abbrev N__law_worth : List Str := ["_law_box_here", "_law_world", "_law_prime", "_law_some", "_law_found", "_law_turn", "_law_way"]
abbrev P__law_worth : List Str := ["_law_box_here", "_law_world"]
theorem sc__law_worth : FnScope N__law_worth P__law_worth (defScope s__law_worth) := ⟨rfl, rfl, rfl, by decide +kernel, rfl, by decide +kernel, by decide +kernel⟩
def spWorth : Sp := fun vs H Q _ => ∃ (b d : Addr) (c : Int) (n : Nat), vs = [.ref b, .ref d] ∧ BoxAt H b c ∧ c < 900000 ∧ 1 ≤ n ∧ n < 31 ∧ WorldAt H b d n ∧ ∀ p (xs : List Int) H', H p = none → Keep b H H' → BoxAt H' b (c + 90) → xs.length = (whl n).length - 1 → Bd 1000000000 xs → H' p = some (.tup (xs.map V.int)) → Q (.ref p) H'
section
variable {P : Program} {w : World} {K : PySem.W.Frag} {mg : Str → Option Value} {base : Heap}
theorem ok_worth {f f1 f2 : Addr} {fd d1 d2 : FuncData} {k : Nat} (F : Fun K "_law_worth" "_law_worth" s__law_worth f fd) (T : Blt mg) (D__law_take : Df K mg "_law_take" s__law_take P__law_take f1 d1) (D__law_pick : Df K mg "_law_pick" s__law_pick P__law_pick f2 d2) : FnOk P w K mg base CX0 (k + 3) f fd P__law_worth spWorth := by
  have G__law_take : FnOk P w K mg base CX0 1 f1 d1 P__law_take spTake := ok_take D__law_take.F
  have G__law_pick : FnOk P w K mg base CX0 2 f2 d2 P__law_pick (spPick K) := ok_pick (k := 0) D__law_pick.F T D__law_take
  have nd := sc__law_worth.nd
  refine F.ok sc__law_worth (fun vs H Q E h => ?_) (fun cdv A outer s H vs Q E hr h => ?_)
  · obtain ⟨b, d, c, n, rfl, _⟩ := h
    rfl
  · obtain ⟨b, d, c, n, rfl, hb, hc, n1, n31, hW, q⟩ := h
    refine ⟨_, (pss_cons (ps_if (pt_cmpR op_eq (pe_dget (du hr) (pv 1) (pe_str) (fun _ _ => rfl)) (pe_str) (nomark _)) (pss_cons (ps_set (i := 2) nd rfl (Or.inl rfl) (pe_dget (du hr) (pv 1) (pe_str) (fun _ _ => rfl)))
      (pss_cons (ps_set (i := 3) nd rfl (Or.inl rfl) (pe_lst (pa_cons (pe_int) (pa_cons (pe_op op_mod (pe_int) (pv 2)) (pa_cons (pe_op op_sub (pv 2) (pe_int)) (pa_cons (pe_call G__law_take (hr.mono (by omega)) (by rfl) D__law_take.g D__law_take.F.kp D__law_take.b .nil pass0 (pa_cons (pv 0) (pa_cons (pv 2) pa_nil))) (pa_cons (pe_call G__law_take (hr.mono (by omega)) (by rfl) D__law_take.g D__law_take.F.kp D__law_take.b .nil pass0 (pa_cons (pv 0) (pa_cons (pv 2) pa_nil))) (pa_cons (pe_call G__law_take (hr.mono (by omega)) (by rfl) D__law_take.g D__law_take.F.kp D__law_take.b .nil pass0 (pa_cons (pv 0) (pa_cons (pe_callB (call_min2 rfl) (by rfl) T.b_min (by decide +kernel) (pa_cons (pv 2) (pa_cons (pe_int) pa_nil))) pa_nil))) pa_nil))))))))
      (pss_one (ps_ret (pe_call G__law_pick (hr.mono (by omega)) (by rfl) D__law_pick.g D__law_pick.F.kp D__law_pick.b .nil pass0 (pa_cons (pv 0) (pa_cons (pv 3) pa_nil))))))) pss_nil)
      (pss_cons (ps_set (i := 4) nd rfl (Or.inl rfl) (pe_lst pa_nil))
      (pss_cons (ps_for PassesOwn.never rfl (pi_range1 (by rfl) T.b_range (pa_cons (pe_op op_sub (pe_callB (r := rLenQ K) call_len_seq (by rfl) T.b_len (by decide +kernel) (pa_cons (pe_dget (du hr) (pv 1) (pe_str) (fun _ _ => rfl)) pa_nil)) (pe_int)) pa_nil)) (pg_name (i := 5) nd rfl (Or.inl rfl))
      (pss_cons (ps_set (i := 6) nd rfl (Or.inl rfl) (pe_call G__law_take (hr.mono (by omega)) (by rfl) D__law_take.g D__law_take.F.kp D__law_take.b .nil pass0 (pa_cons (pv 0) (pa_cons (pe_int) pa_nil))))
      (pss_one (ps_expr (pe_bm PySem.F.plainAttrs_list PySem.F.slot_list_append PySem.F.type_list_append mt_append (pv 4) (pa_cons (pe_ix (r := rIxL K) ix_list (pe_lst (pa_cons (pe_int) (pa_cons (pe_int) (pa_cons (pe_un un_neg (pe_int)) (pa_cons (pe_op op_sub (pe_call G__law_take (hr.mono (by omega)) (by rfl) D__law_take.g D__law_take.F.kp D__law_take.b .nil pass0 (pa_cons (pv 0) (pa_cons (pe_int) pa_nil))) (pe_int)) (pa_cons (pe_op op_sub (pe_call G__law_take (hr.mono (by omega)) (by rfl) D__law_take.g D__law_take.F.kp D__law_take.b .nil pass0 (pa_cons (pv 0) (pa_cons (pe_int) pa_nil))) (pe_int)) (pa_cons (pe_op op_pow (pe_int) (pe_int)) (pa_cons (pe_op op_sub (pe_int) (pe_op op_pow (pe_int) (pe_int))) pa_nil)))))))) (pv 6) (fun _ _ => rfl)) pa_nil))))))
      (pss_one (ps_ret (pe_callTy call_tuple_of (by rfl) T.b_tuple (by decide +kernel) (pa_cons (pv 4) pa_nil))))))), ?_⟩
    obtain ⟨l, nlb, ndb, hd, hl⟩ := hW
    obtain ⟨g1, g2, g3⟩ := dget_w hd
    obtain ⟨w2, w31, _⟩ := whl_last n n31 n1
    walk_at "ev"
    w_cond _1
    have g3' := (dget_w (sm1 _ _ hd)).2.2
    have hl1' : SqL K H1 l ((whl n).map V.int) ∨ SqT K H1 l ((whl n).map V.int) := .inl (SqL.of (sm1 _ _ hl))
    have hb1 := hb.same sm1
    have n1b := hb.ne hl1
    have elen : ((((whl n).map V.int).length : Int) - 1) = (((whl n).length - 1 : Nat) : Int) := by rw [List.length_map]; omega
    walk_at "ev"
    refine for_range (lo := 0) (n := _) (fun i σ H' => Hold (∃ (xs : List Int) (s5 s6 : Option V), σ = [some (.ref b), some (.ref d), none, none, some (.ref l1), s5, s6] ∧ xs.length = i ∧ Bd 1000000000 xs ∧ Keep b H H' ∧ BoxAt H' b (c + 3 * (i : Int)) ∧ H' l1 = some (.lst (xs.map V.int)))) (.mk ⟨[], none, none, rfl, rfl, (fun x hx => by cases hx), keepS sm1, hb1.mono (by omega), hq1⟩) ?_ ?_
    · intro i σ H2 hi hP
      obtain ⟨xs, s5, s6, rfl, hxl, hbd, k2, hb2, hq2⟩ := hP.un
      have hi31 : i < 31 := by
        rw [List.length_map] at hi
        omega
      walk_at "ev"
      intro r3 H3 r30 r31 k3 hb3
      have hq3 := k3 _ _ n1b hq2
      have ty3 : tyV K "list" (.ref l1) H3 := .inl ⟨rfl, _, SqL.of hq3⟩
      walk_at "ev"
      intro r4 H4 r40 r41 k4 hb4
      walk_at "ev"
      intro r5 H5 r50 r51 k5 hb5
      walk_at "ev"
      w_cond _6
      have hL6 := SqL.of (K := K) hq6
      have hq16 := sm6 _ _ (k5 _ _ n1b (k4 _ _ n1b hq3))
      have e9 : (10 : Int) ^ Int.toNat 9 = 1000000000 := by decide
      rw [e9] at hL6
      obtain ⟨z, hz, hat⟩ : ∃ z : Int, z.natAbs ≤ 1000000000 ∧ atI [V.int 0, V.int 1, V.int (-1), V.int (r4 - 9), V.int (r5 - 99), V.int 1000000000, V.int (0 - 1000000000)] r3 = some (.int z) := by
        have : r3 = 0 ∨ r3 = 1 ∨ r3 = 2 ∨ r3 = 3 ∨ r3 = 4 ∨ r3 = 5 ∨ r3 = 6 := by omega
        rcases this with z | z | z | z | z | z | z <;> subst z
        · exact ⟨0, by omega, rfl⟩
        · exact ⟨1, by omega, rfl⟩
        · exact ⟨-1, by omega, rfl⟩
        · exact ⟨r4 - 9, by omega, rfl⟩
        · exact ⟨r5 - 99, by omega, rfl⟩
        · exact ⟨1000000000, by omega, rfl⟩
        · exact ⟨0 - 1000000000, by omega, rfl⟩
      have hsz : (xs.map V.int).length < sizeLine := szm (by rw [List.length_map]; omega)
      walk_at "ev"
      refine .mk ⟨xs ++ [z], _, _, rfl, by rw [List.length_append, hxl]; rfl, fun x hx => ?_, keep_fresh (k2.trans (k3.trans (k4.trans (k5.trans (keepS sm6))))) hl1, ((hb5.same sm6).upd n1b).mono (by omega), ?_⟩
      · rcases List.mem_append.mp hx with y | y
        · exact hbd x y
        · rw [List.mem_singleton.mp y]
          exact hz
      · rw [upd_same, List.map_append]
        rfl
    · intro σ H2 hP
      obtain ⟨xs, s5, s6, rfl, hxl, hbd, k2, hb2, hq2⟩ := hP.un
      walk_at "ev"
      refine .inl ⟨SqL.of hq2, ?_⟩
      w_cond _3
      have hm : xs.length = (whl n).length - 1 := by
        rw [hxl, List.length_map]
        omega
      refine q l3 xs H3 (keep_free k2 (hb2.ne hl3) hl3) (k2.trans (keepS sm3)) ((hb2.same sm3).mono ?_) hm hbd hq3
      rw [← hxl, hm]
      omega
end
section
open PySem.Spec PyProof.Rows
/-- t * k and t + u, whatever comes: a tuple, new or not -/
def rRepB (K : PySem.W.Frag) : R2 := fun x y H Q => ∃ l k xs, x = .ref l ∧ y = .int k ∧ SqT K H l xs ∧ xs ≠ [] ∧ -1000 ≤ k ∧ k ≤ 1000 ∧ xs.length ≤ 1000 ∧ ∀ p H', Same H H' → SqT K H' p (List.replicate k.toNat xs).flatten → Q (.ref p) H'
theorem op_repB {X : Cx} : OpR X (binaryOp .Mult) (rRepB X.K) := by
  intro pins s σ H x y v u Q I rx ry h
  obtain ⟨l, k, xs, e1, e2, hT, hne, h1, h2, hz, q⟩ := h
  refine op_repA pins s σ H x y v u Q I rx ry ⟨l, k, xs, e1, e2, hT, hne, h1, h2, hz, fun e => ?_, fun e p hp => q p _ (same_new hp) (SqT.of upd_same)⟩
  subst e
  refine q l H (Same.refl _) ?_
  have z : (List.replicate (1 : Int).toNat xs).flatten = xs := by
    show xs ++ [] = xs
    exact List.append_nil xs
  rw [z]
  exact hT
def rCatB (K : PySem.W.Frag) : R2 := fun x y H Q => ∃ a b xs ys, x = .ref a ∧ y = .ref b ∧ SqT K H a xs ∧ SqT K H b ys ∧ xs.length + ys.length ≤ sizeLine ∧ ∀ p H', Same H H' → SqT K H' p (xs ++ ys) → Q (.ref p) H'
theorem op_catB {X : Cx} : OpR X (binaryOp .Add) (rCatB X.K) := by
  intro pins s σ H x y v u Q I rx ry h
  obtain ⟨a, b, xs, ys, e1, e2, ha, hb, hz, q⟩ := h
  refine op_catA pins s σ H x y v u Q I rx ry ⟨a, b, xs, ys, e1, e2, ha, hb, hz, fun e => ?_, fun _ e => ?_, fun _ _ p hp => q p _ (same_new hp) (SqT.of upd_same)⟩
  · refine q b H (Same.refl _) ?_
    rw [e]
    exact hb
  · refine q a H (Same.refl _) ?_
    rw [e, List.append_nil]
    exact ha
end
theorem rep1 {k : Nat} {v : V} : (List.replicate (k : Int).toNat [v]).flatten = List.replicate k v := by
  rw [Int.toNat_natCast]
  exact rep_flat
section
variable {X : Cx} {T : String} {name : Str} {id : String} {r : V → List V → Hp → VK → Prop} {o e : Expr} {es : List Expr} {to : TE} {t : TA} {apos cpos : Pos}
theorem pe_bmK {K : PySem.W.Frag} (hK : X.K = K) (pa : PlainAttrs T) (slot : Slot T name id) (hty : typeOf (.builtin id) = pure (.type "method_descriptor")) (hm : MtR X id r) (ho : PE X o to) (ha : PA X (e :: es) t)
    (hbase : attributeBase o name X.env (eval o X.env) = eval o X.env := by rfl)
    (hfew : ((backTo cpos (starEach (e :: es) X.env)).all (fun x => !x.1) && (backToKw cpos (keywordEach [] X.env)).all (fun x => x.1.isSome)
      && decide ((e :: es).length + ([] : List Keyword).length + (if ([] : List Keyword).isEmpty then 0 else 1) < 30)) = true := by rfl)
    (hline : (apos.endLine == cpos.line) = true := by rfl) (hs : starEach (e :: es) X.env = (false, eval e X.env) :: starEach es X.env := by rfl) (hplain : (backTo cpos (starEach es X.env)).any (·.1) = false := by rfl) :
    PE X (.Call (.Attribute o name apos) (e :: es) [] cpos) (tBM K T r to t) := by
  subst hK
  exact pe_bm pa slot hty hm ho ha hbase hfew hline hs hplain
end
abbrev tupD (xs : List Int) : PyData := .tuple (xs.map PyData.int)
theorem dpt {K : PySem.W.Frag} {H : Hp} {a : Addr} {xs : List Int} (h : H a = some (.tup (xs.map V.int))) : Dp K H (.ref a) (tupD xs) := .tup (SqT.of h) (dp_ints xs)
theorem fitt {xs : List Int} (h : xs.length ≤ 4000) : Fit 1 (tupD xs) := by
  refine ⟨by rw [List.length_map]; exact h, fun e he => ?_⟩
  obtain ⟨c, _, rfl⟩ := List.mem_map.mp he
  exact True.intro
theorem bd400 {xs : List Int} (k : Bd 1000000000 xs) : ∀ z ∈ xs, z.natAbs < 2 ^ 400 := fun z hz => Nat.lt_of_le_of_lt (k z hz) (by decide +kernel)
theorem fit_up : ∀ {n : Nat} {d : PyData}, Fit n d → Fit (n + 1) d
  | 0, .list _, h => h.elim
  | 0, .tuple _, h => h.elim
  | n + 1, .list ds, h => ⟨h.1, fun e he => fit_up (h.2 e he)⟩
  | n + 1, .tuple ds, h => ⟨h.1, fun e he => fit_up (h.2 e he)⟩
  | 0, .dict _, h => h.elim
  | _ + 1, .dict _, h => h.elim
  | 0, .none, _ => True.intro
  | _ + 1, .none, _ => True.intro
  | 0, .bool _, _ => True.intro
  | _ + 1, .bool _, _ => True.intro
  | 0, .int _, _ => True.intro
  | _ + 1, .int _, _ => True.intro
  | 0, .str _, _ => True.intro
  | _ + 1, .str _, _ => True.intro
theorem intD_all : ∀ ns : List Int, (ns.map PyData.int).all intD = true
  | [] => rfl
  | x :: r => by
    rw [List.map_cons, List.all_cons, intD_all r]
    rfl
theorem keep_mk {x dx C : Addr} {H H' : Hp} (hx : H x = none) (hd : H dx = none) (h : Keep x (upd (upd H dx (.own x)) x (.ins C dx [])) H') : Same H H' := fun b o e => by
  have n1 := ne_of_none e hx
  refine h b o n1 ?_
  rw [upd_ne n1, upd_ne (ne_of_none e hd)]
  exact e
theorem same_mk {x dx C : Addr} {H H' : Hp} (hx : H x = none) (hd : H dx = none) (h : Same (upd (upd H dx (.own x)) x (.ins C dx [])) H') : Same H H' := keep_mk (C := C) hx hd (keepS h)
theorem kd_mk {K : PySem.W.Frag} {x dx C : Addr} {H : Hp} {v : V} {t : String} (hx : H x = none) (hd : H dx = none) (h : Kd K H v t) : Kd K (upd (upd H dx (.own x)) x (.ins C dx [])) v t := h.same (same_mk hx hd (Same.refl _))
theorem del_le {H : Hp} {D : Addr} : Same (delH H D) H := fun a o e => by
  unfold delH at e
  split at e
  · cases e
  · exact e
theorem del_mono {H H1 : Hp} {D : Addr} (h : Same H H1) : Same (delH H D) (delH H1 D) := fun a o e => by
  unfold delH at *
  split at e
  · cases e
  · rename_i c
    rw [if_neg c]
    exact h a o e
theorem del_upd {H : Hp} {D : Addr} {o : HO} : Same (delH H D) (delH (upd H D o) D) := fun a u e => by
  unfold delH at *
  split at e
  · cases e
  · rename_i c
    rw [if_neg c, upd_ne c]
    exact e
theorem sqt_del {K : PySem.W.Frag} {H : Hp} {D a : Addr} {xs ys : List V} (hD : H D = some (.lst ys)) (h : SqT K H a xs) : SqT K (delH H D) a xs := by
  rcases h with (h | ⟨o, h⟩) | h
  · refine .inl (.inl ?_)
    rw [delH_ne (fun z => by rw [z, hD] at h; cases h)]
    exact h
  · refine .inl (.inr ⟨o, ?_⟩)
    rw [delH_ne (fun z => by rw [z, hD] at h; cases h)]
    exact h
  · exact .inr h
theorem RootAt.updL {C D : Addr} {H : Hp} {a : Addr} {n : Nat} {ys : List V} {o : HO} (h : RootAt C H a n) (hD : H D = Option.some (HO.lst ys)) : RootAt C (upd H D o) a n := by
  obtain ⟨dx, r, h1, h2⟩ := h
  exact ⟨dx, r, by rw [upd_ne (fun z => by rw [z, hD] at h1; cases h1)]; exact h1, by rw [upd_ne (fun z => by rw [z, hD] at h2; cases h2)]; exact h2⟩
/-! ### the powers of the exact roots -/
def PW : List (List (List Int)) := [[], [[1]], [[1], [-1]], [[1, 0], [0, 1], [-1, -1]], [[1, 0], [0, 1], [-1, 0], [0, -1]], [[1, 0, 0, 0], [0, 1, 0, 0], [0, 0, 1, 0], [0, 0, 0, 1], [-1, -1, -1, -1]], [[1, 0], [0, 1], [-1, 1], [-1, 0], [0, -1], [1, -1]], [[1, 0, 0, 0, 0, 0], [0, 1, 0, 0, 0, 0], [0, 0, 1, 0, 0, 0], [0, 0, 0, 1, 0, 0], [0, 0, 0, 0, 1, 0], [0, 0, 0, 0, 0, 1], [-1, -1, -1, -1, -1, -1]], [[1, 0, 0, 0], [0, 1, 0, 0], [0, 0, 1, 0], [0, 0, 0, 1], [-1, 0, 0, 0], [0, -1, 0, 0], [0, 0, -1, 0], [0, 0, 0, -1]], [[1, 0, 0, 0, 0, 0], [0, 1, 0, 0, 0, 0], [0, 0, 1, 0, 0, 0], [0, 0, 0, 1, 0, 0], [0, 0, 0, 0, 1, 0], [0, 0, 0, 0, 0, 1], [-1, 0, 0, -1, 0, 0], [0, -1, 0, 0, -1, 0], [0, 0, -1, 0, 0, -1]], [[1, 0, 0, 0], [0, 1, 0, 0], [0, 0, 1, 0], [0, 0, 0, 1], [-1, 1, -1, 1], [-1, 0, 0, 0], [0, -1, 0, 0], [0, 0, -1, 0], [0, 0, 0, -1], [1, -1, 1, -1]], [[1, 0, 0, 0, 0, 0, 0, 0, 0, 0], [0, 1, 0, 0, 0, 0, 0, 0, 0, 0], [0, 0, 1, 0, 0, 0, 0, 0, 0, 0], [0, 0, 0, 1, 0, 0, 0, 0, 0, 0], [0, 0, 0, 0, 1, 0, 0, 0, 0, 0], [0, 0, 0, 0, 0, 1, 0, 0, 0, 0], [0, 0, 0, 0, 0, 0, 1, 0, 0, 0], [0, 0, 0, 0, 0, 0, 0, 1, 0, 0], [0, 0, 0, 0, 0, 0, 0, 0, 1, 0], [0, 0, 0, 0, 0, 0, 0, 0, 0, 1], [-1, -1, -1, -1, -1, -1, -1, -1, -1, -1]], [[1, 0, 0, 0], [0, 1, 0, 0], [0, 0, 1, 0], [0, 0, 0, 1], [-1, 0, 1, 0], [0, -1, 0, 1], [-1, 0, 0, 0], [0, -1, 0, 0], [0, 0, -1, 0], [0, 0, 0, -1], [1, 0, -1, 0], [0, 1, 0, -1]], [[1, 0, 0, 0, 0, 0, 0, 0, 0, 0, 0, 0], [0, 1, 0, 0, 0, 0, 0, 0, 0, 0, 0, 0], [0, 0, 1, 0, 0, 0, 0, 0, 0, 0, 0, 0], [0, 0, 0, 1, 0, 0, 0, 0, 0, 0, 0, 0], [0, 0, 0, 0, 1, 0, 0, 0, 0, 0, 0, 0], [0, 0, 0, 0, 0, 1, 0, 0, 0, 0, 0, 0], [0, 0, 0, 0, 0, 0, 1, 0, 0, 0, 0, 0], [0, 0, 0, 0, 0, 0, 0, 1, 0, 0, 0, 0], [0, 0, 0, 0, 0, 0, 0, 0, 1, 0, 0, 0], [0, 0, 0, 0, 0, 0, 0, 0, 0, 1, 0, 0], [0, 0, 0, 0, 0, 0, 0, 0, 0, 0, 1, 0], [0, 0, 0, 0, 0, 0, 0, 0, 0, 0, 0, 1], [-1, -1, -1, -1, -1, -1, -1, -1, -1, -1, -1, -1]], [[1, 0, 0, 0, 0, 0], [0, 1, 0, 0, 0, 0], [0, 0, 1, 0, 0, 0], [0, 0, 0, 1, 0, 0], [0, 0, 0, 0, 1, 0], [0, 0, 0, 0, 0, 1], [-1, 1, -1, 1, -1, 1], [-1, 0, 0, 0, 0, 0], [0, -1, 0, 0, 0, 0], [0, 0, -1, 0, 0, 0], [0, 0, 0, -1, 0, 0], [0, 0, 0, 0, -1, 0], [0, 0, 0, 0, 0, -1], [1, -1, 1, -1, 1, -1]], [[1, 0, 0, 0, 0, 0, 0, 0], [0, 1, 0, 0, 0, 0, 0, 0], [0, 0, 1, 0, 0, 0, 0, 0], [0, 0, 0, 1, 0, 0, 0, 0], [0, 0, 0, 0, 1, 0, 0, 0], [0, 0, 0, 0, 0, 1, 0, 0], [0, 0, 0, 0, 0, 0, 1, 0], [0, 0, 0, 0, 0, 0, 0, 1], [-1, 1, 0, -1, 1, -1, 0, 1], [-1, 0, 1, -1, 0, 0, -1, 1], [-1, 0, 0, 0, 0, -1, 0, 0], [0, -1, 0, 0, 0, 0, -1, 0], [0, 0, -1, 0, 0, 0, 0, -1], [1, -1, 0, 0, -1, 1, 0, -1], [1, 0, -1, 1, -1, 0, 1, -1]], [[1, 0, 0, 0, 0, 0, 0, 0], [0, 1, 0, 0, 0, 0, 0, 0], [0, 0, 1, 0, 0, 0, 0, 0], [0, 0, 0, 1, 0, 0, 0, 0], [0, 0, 0, 0, 1, 0, 0, 0], [0, 0, 0, 0, 0, 1, 0, 0], [0, 0, 0, 0, 0, 0, 1, 0], [0, 0, 0, 0, 0, 0, 0, 1], [-1, 0, 0, 0, 0, 0, 0, 0], [0, -1, 0, 0, 0, 0, 0, 0], [0, 0, -1, 0, 0, 0, 0, 0], [0, 0, 0, -1, 0, 0, 0, 0], [0, 0, 0, 0, -1, 0, 0, 0], [0, 0, 0, 0, 0, -1, 0, 0], [0, 0, 0, 0, 0, 0, -1, 0], [0, 0, 0, 0, 0, 0, 0, -1]], [[1, 0, 0, 0, 0, 0, 0, 0, 0, 0, 0, 0, 0, 0, 0, 0], [0, 1, 0, 0, 0, 0, 0, 0, 0, 0, 0, 0, 0, 0, 0, 0], [0, 0, 1, 0, 0, 0, 0, 0, 0, 0, 0, 0, 0, 0, 0, 0], [0, 0, 0, 1, 0, 0, 0, 0, 0, 0, 0, 0, 0, 0, 0, 0], [0, 0, 0, 0, 1, 0, 0, 0, 0, 0, 0, 0, 0, 0, 0, 0], [0, 0, 0, 0, 0, 1, 0, 0, 0, 0, 0, 0, 0, 0, 0, 0], [0, 0, 0, 0, 0, 0, 1, 0, 0, 0, 0, 0, 0, 0, 0, 0], [0, 0, 0, 0, 0, 0, 0, 1, 0, 0, 0, 0, 0, 0, 0, 0], [0, 0, 0, 0, 0, 0, 0, 0, 1, 0, 0, 0, 0, 0, 0, 0], [0, 0, 0, 0, 0, 0, 0, 0, 0, 1, 0, 0, 0, 0, 0, 0], [0, 0, 0, 0, 0, 0, 0, 0, 0, 0, 1, 0, 0, 0, 0, 0], [0, 0, 0, 0, 0, 0, 0, 0, 0, 0, 0, 1, 0, 0, 0, 0], [0, 0, 0, 0, 0, 0, 0, 0, 0, 0, 0, 0, 1, 0, 0, 0], [0, 0, 0, 0, 0, 0, 0, 0, 0, 0, 0, 0, 0, 1, 0, 0], [0, 0, 0, 0, 0, 0, 0, 0, 0, 0, 0, 0, 0, 0, 1, 0], [0, 0, 0, 0, 0, 0, 0, 0, 0, 0, 0, 0, 0, 0, 0, 1], [-1, -1, -1, -1, -1, -1, -1, -1, -1, -1, -1, -1, -1, -1, -1, -1]], [[1, 0, 0, 0, 0, 0], [0, 1, 0, 0, 0, 0], [0, 0, 1, 0, 0, 0], [0, 0, 0, 1, 0, 0], [0, 0, 0, 0, 1, 0], [0, 0, 0, 0, 0, 1], [-1, 0, 0, 1, 0, 0], [0, -1, 0, 0, 1, 0], [0, 0, -1, 0, 0, 1], [-1, 0, 0, 0, 0, 0], [0, -1, 0, 0, 0, 0], [0, 0, -1, 0, 0, 0], [0, 0, 0, -1, 0, 0], [0, 0, 0, 0, -1, 0], [0, 0, 0, 0, 0, -1], [1, 0, 0, -1, 0, 0], [0, 1, 0, 0, -1, 0], [0, 0, 1, 0, 0, -1]], [[1, 0, 0, 0, 0, 0, 0, 0, 0, 0, 0, 0, 0, 0, 0, 0, 0, 0], [0, 1, 0, 0, 0, 0, 0, 0, 0, 0, 0, 0, 0, 0, 0, 0, 0, 0], [0, 0, 1, 0, 0, 0, 0, 0, 0, 0, 0, 0, 0, 0, 0, 0, 0, 0], [0, 0, 0, 1, 0, 0, 0, 0, 0, 0, 0, 0, 0, 0, 0, 0, 0, 0], [0, 0, 0, 0, 1, 0, 0, 0, 0, 0, 0, 0, 0, 0, 0, 0, 0, 0], [0, 0, 0, 0, 0, 1, 0, 0, 0, 0, 0, 0, 0, 0, 0, 0, 0, 0], [0, 0, 0, 0, 0, 0, 1, 0, 0, 0, 0, 0, 0, 0, 0, 0, 0, 0], [0, 0, 0, 0, 0, 0, 0, 1, 0, 0, 0, 0, 0, 0, 0, 0, 0, 0], [0, 0, 0, 0, 0, 0, 0, 0, 1, 0, 0, 0, 0, 0, 0, 0, 0, 0], [0, 0, 0, 0, 0, 0, 0, 0, 0, 1, 0, 0, 0, 0, 0, 0, 0, 0], [0, 0, 0, 0, 0, 0, 0, 0, 0, 0, 1, 0, 0, 0, 0, 0, 0, 0], [0, 0, 0, 0, 0, 0, 0, 0, 0, 0, 0, 1, 0, 0, 0, 0, 0, 0], [0, 0, 0, 0, 0, 0, 0, 0, 0, 0, 0, 0, 1, 0, 0, 0, 0, 0], [0, 0, 0, 0, 0, 0, 0, 0, 0, 0, 0, 0, 0, 1, 0, 0, 0, 0], [0, 0, 0, 0, 0, 0, 0, 0, 0, 0, 0, 0, 0, 0, 1, 0, 0, 0], [0, 0, 0, 0, 0, 0, 0, 0, 0, 0, 0, 0, 0, 0, 0, 1, 0, 0], [0, 0, 0, 0, 0, 0, 0, 0, 0, 0, 0, 0, 0, 0, 0, 0, 1, 0], [0, 0, 0, 0, 0, 0, 0, 0, 0, 0, 0, 0, 0, 0, 0, 0, 0, 1], [-1, -1, -1, -1, -1, -1, -1, -1, -1, -1, -1, -1, -1, -1, -1, -1, -1, -1]], [[1, 0, 0, 0, 0, 0, 0, 0], [0, 1, 0, 0, 0, 0, 0, 0], [0, 0, 1, 0, 0, 0, 0, 0], [0, 0, 0, 1, 0, 0, 0, 0], [0, 0, 0, 0, 1, 0, 0, 0], [0, 0, 0, 0, 0, 1, 0, 0], [0, 0, 0, 0, 0, 0, 1, 0], [0, 0, 0, 0, 0, 0, 0, 1], [-1, 0, 1, 0, -1, 0, 1, 0], [0, -1, 0, 1, 0, -1, 0, 1], [-1, 0, 0, 0, 0, 0, 0, 0], [0, -1, 0, 0, 0, 0, 0, 0], [0, 0, -1, 0, 0, 0, 0, 0], [0, 0, 0, -1, 0, 0, 0, 0], [0, 0, 0, 0, -1, 0, 0, 0], [0, 0, 0, 0, 0, -1, 0, 0], [0, 0, 0, 0, 0, 0, -1, 0], [0, 0, 0, 0, 0, 0, 0, -1], [1, 0, -1, 0, 1, 0, -1, 0], [0, 1, 0, -1, 0, 1, 0, -1]], [[1, 0, 0, 0, 0, 0, 0, 0, 0, 0, 0, 0], [0, 1, 0, 0, 0, 0, 0, 0, 0, 0, 0, 0], [0, 0, 1, 0, 0, 0, 0, 0, 0, 0, 0, 0], [0, 0, 0, 1, 0, 0, 0, 0, 0, 0, 0, 0], [0, 0, 0, 0, 1, 0, 0, 0, 0, 0, 0, 0], [0, 0, 0, 0, 0, 1, 0, 0, 0, 0, 0, 0], [0, 0, 0, 0, 0, 0, 1, 0, 0, 0, 0, 0], [0, 0, 0, 0, 0, 0, 0, 1, 0, 0, 0, 0], [0, 0, 0, 0, 0, 0, 0, 0, 1, 0, 0, 0], [0, 0, 0, 0, 0, 0, 0, 0, 0, 1, 0, 0], [0, 0, 0, 0, 0, 0, 0, 0, 0, 0, 1, 0], [0, 0, 0, 0, 0, 0, 0, 0, 0, 0, 0, 1], [-1, 1, 0, -1, 1, 0, -1, 0, 1, -1, 0, 1], [-1, 0, 1, -1, 0, 1, -1, -1, 1, 0, -1, 1], [-1, 0, 0, 0, 0, 0, 0, -1, 0, 0, 0, 0], [0, -1, 0, 0, 0, 0, 0, 0, -1, 0, 0, 0], [0, 0, -1, 0, 0, 0, 0, 0, 0, -1, 0, 0], [0, 0, 0, -1, 0, 0, 0, 0, 0, 0, -1, 0], [0, 0, 0, 0, -1, 0, 0, 0, 0, 0, 0, -1], [1, -1, 0, 1, -1, -1, 1, 0, -1, 1, 0, -1], [1, 0, -1, 1, 0, -1, 0, 1, -1, 0, 1, -1]], [[1, 0, 0, 0, 0, 0, 0, 0, 0, 0], [0, 1, 0, 0, 0, 0, 0, 0, 0, 0], [0, 0, 1, 0, 0, 0, 0, 0, 0, 0], [0, 0, 0, 1, 0, 0, 0, 0, 0, 0], [0, 0, 0, 0, 1, 0, 0, 0, 0, 0], [0, 0, 0, 0, 0, 1, 0, 0, 0, 0], [0, 0, 0, 0, 0, 0, 1, 0, 0, 0], [0, 0, 0, 0, 0, 0, 0, 1, 0, 0], [0, 0, 0, 0, 0, 0, 0, 0, 1, 0], [0, 0, 0, 0, 0, 0, 0, 0, 0, 1], [-1, 1, -1, 1, -1, 1, -1, 1, -1, 1], [-1, 0, 0, 0, 0, 0, 0, 0, 0, 0], [0, -1, 0, 0, 0, 0, 0, 0, 0, 0], [0, 0, -1, 0, 0, 0, 0, 0, 0, 0], [0, 0, 0, -1, 0, 0, 0, 0, 0, 0], [0, 0, 0, 0, -1, 0, 0, 0, 0, 0], [0, 0, 0, 0, 0, -1, 0, 0, 0, 0], [0, 0, 0, 0, 0, 0, -1, 0, 0, 0], [0, 0, 0, 0, 0, 0, 0, -1, 0, 0], [0, 0, 0, 0, 0, 0, 0, 0, -1, 0], [0, 0, 0, 0, 0, 0, 0, 0, 0, -1], [1, -1, 1, -1, 1, -1, 1, -1, 1, -1]], [[1, 0, 0, 0, 0, 0, 0, 0, 0, 0, 0, 0, 0, 0, 0, 0, 0, 0, 0, 0, 0, 0], [0, 1, 0, 0, 0, 0, 0, 0, 0, 0, 0, 0, 0, 0, 0, 0, 0, 0, 0, 0, 0, 0], [0, 0, 1, 0, 0, 0, 0, 0, 0, 0, 0, 0, 0, 0, 0, 0, 0, 0, 0, 0, 0, 0], [0, 0, 0, 1, 0, 0, 0, 0, 0, 0, 0, 0, 0, 0, 0, 0, 0, 0, 0, 0, 0, 0], [0, 0, 0, 0, 1, 0, 0, 0, 0, 0, 0, 0, 0, 0, 0, 0, 0, 0, 0, 0, 0, 0], [0, 0, 0, 0, 0, 1, 0, 0, 0, 0, 0, 0, 0, 0, 0, 0, 0, 0, 0, 0, 0, 0], [0, 0, 0, 0, 0, 0, 1, 0, 0, 0, 0, 0, 0, 0, 0, 0, 0, 0, 0, 0, 0, 0], [0, 0, 0, 0, 0, 0, 0, 1, 0, 0, 0, 0, 0, 0, 0, 0, 0, 0, 0, 0, 0, 0], [0, 0, 0, 0, 0, 0, 0, 0, 1, 0, 0, 0, 0, 0, 0, 0, 0, 0, 0, 0, 0, 0], [0, 0, 0, 0, 0, 0, 0, 0, 0, 1, 0, 0, 0, 0, 0, 0, 0, 0, 0, 0, 0, 0], [0, 0, 0, 0, 0, 0, 0, 0, 0, 0, 1, 0, 0, 0, 0, 0, 0, 0, 0, 0, 0, 0], [0, 0, 0, 0, 0, 0, 0, 0, 0, 0, 0, 1, 0, 0, 0, 0, 0, 0, 0, 0, 0, 0], [0, 0, 0, 0, 0, 0, 0, 0, 0, 0, 0, 0, 1, 0, 0, 0, 0, 0, 0, 0, 0, 0], [0, 0, 0, 0, 0, 0, 0, 0, 0, 0, 0, 0, 0, 1, 0, 0, 0, 0, 0, 0, 0, 0], [0, 0, 0, 0, 0, 0, 0, 0, 0, 0, 0, 0, 0, 0, 1, 0, 0, 0, 0, 0, 0, 0], [0, 0, 0, 0, 0, 0, 0, 0, 0, 0, 0, 0, 0, 0, 0, 1, 0, 0, 0, 0, 0, 0], [0, 0, 0, 0, 0, 0, 0, 0, 0, 0, 0, 0, 0, 0, 0, 0, 1, 0, 0, 0, 0, 0], [0, 0, 0, 0, 0, 0, 0, 0, 0, 0, 0, 0, 0, 0, 0, 0, 0, 1, 0, 0, 0, 0], [0, 0, 0, 0, 0, 0, 0, 0, 0, 0, 0, 0, 0, 0, 0, 0, 0, 0, 1, 0, 0, 0], [0, 0, 0, 0, 0, 0, 0, 0, 0, 0, 0, 0, 0, 0, 0, 0, 0, 0, 0, 1, 0, 0], [0, 0, 0, 0, 0, 0, 0, 0, 0, 0, 0, 0, 0, 0, 0, 0, 0, 0, 0, 0, 1, 0], [0, 0, 0, 0, 0, 0, 0, 0, 0, 0, 0, 0, 0, 0, 0, 0, 0, 0, 0, 0, 0, 1], [-1, -1, -1, -1, -1, -1, -1, -1, -1, -1, -1, -1, -1, -1, -1, -1, -1, -1, -1, -1, -1, -1]], [[1, 0, 0, 0, 0, 0, 0, 0], [0, 1, 0, 0, 0, 0, 0, 0], [0, 0, 1, 0, 0, 0, 0, 0], [0, 0, 0, 1, 0, 0, 0, 0], [0, 0, 0, 0, 1, 0, 0, 0], [0, 0, 0, 0, 0, 1, 0, 0], [0, 0, 0, 0, 0, 0, 1, 0], [0, 0, 0, 0, 0, 0, 0, 1], [-1, 0, 0, 0, 1, 0, 0, 0], [0, -1, 0, 0, 0, 1, 0, 0], [0, 0, -1, 0, 0, 0, 1, 0], [0, 0, 0, -1, 0, 0, 0, 1], [-1, 0, 0, 0, 0, 0, 0, 0], [0, -1, 0, 0, 0, 0, 0, 0], [0, 0, -1, 0, 0, 0, 0, 0], [0, 0, 0, -1, 0, 0, 0, 0], [0, 0, 0, 0, -1, 0, 0, 0], [0, 0, 0, 0, 0, -1, 0, 0], [0, 0, 0, 0, 0, 0, -1, 0], [0, 0, 0, 0, 0, 0, 0, -1], [1, 0, 0, 0, -1, 0, 0, 0], [0, 1, 0, 0, 0, -1, 0, 0], [0, 0, 1, 0, 0, 0, -1, 0], [0, 0, 0, 1, 0, 0, 0, -1]], [[1, 0, 0, 0, 0, 0, 0, 0, 0, 0, 0, 0, 0, 0, 0, 0, 0, 0, 0, 0], [0, 1, 0, 0, 0, 0, 0, 0, 0, 0, 0, 0, 0, 0, 0, 0, 0, 0, 0, 0], [0, 0, 1, 0, 0, 0, 0, 0, 0, 0, 0, 0, 0, 0, 0, 0, 0, 0, 0, 0], [0, 0, 0, 1, 0, 0, 0, 0, 0, 0, 0, 0, 0, 0, 0, 0, 0, 0, 0, 0], [0, 0, 0, 0, 1, 0, 0, 0, 0, 0, 0, 0, 0, 0, 0, 0, 0, 0, 0, 0], [0, 0, 0, 0, 0, 1, 0, 0, 0, 0, 0, 0, 0, 0, 0, 0, 0, 0, 0, 0], [0, 0, 0, 0, 0, 0, 1, 0, 0, 0, 0, 0, 0, 0, 0, 0, 0, 0, 0, 0], [0, 0, 0, 0, 0, 0, 0, 1, 0, 0, 0, 0, 0, 0, 0, 0, 0, 0, 0, 0], [0, 0, 0, 0, 0, 0, 0, 0, 1, 0, 0, 0, 0, 0, 0, 0, 0, 0, 0, 0], [0, 0, 0, 0, 0, 0, 0, 0, 0, 1, 0, 0, 0, 0, 0, 0, 0, 0, 0, 0], [0, 0, 0, 0, 0, 0, 0, 0, 0, 0, 1, 0, 0, 0, 0, 0, 0, 0, 0, 0], [0, 0, 0, 0, 0, 0, 0, 0, 0, 0, 0, 1, 0, 0, 0, 0, 0, 0, 0, 0], [0, 0, 0, 0, 0, 0, 0, 0, 0, 0, 0, 0, 1, 0, 0, 0, 0, 0, 0, 0], [0, 0, 0, 0, 0, 0, 0, 0, 0, 0, 0, 0, 0, 1, 0, 0, 0, 0, 0, 0], [0, 0, 0, 0, 0, 0, 0, 0, 0, 0, 0, 0, 0, 0, 1, 0, 0, 0, 0, 0], [0, 0, 0, 0, 0, 0, 0, 0, 0, 0, 0, 0, 0, 0, 0, 1, 0, 0, 0, 0], [0, 0, 0, 0, 0, 0, 0, 0, 0, 0, 0, 0, 0, 0, 0, 0, 1, 0, 0, 0], [0, 0, 0, 0, 0, 0, 0, 0, 0, 0, 0, 0, 0, 0, 0, 0, 0, 1, 0, 0], [0, 0, 0, 0, 0, 0, 0, 0, 0, 0, 0, 0, 0, 0, 0, 0, 0, 0, 1, 0], [0, 0, 0, 0, 0, 0, 0, 0, 0, 0, 0, 0, 0, 0, 0, 0, 0, 0, 0, 1], [-1, 0, 0, 0, 0, -1, 0, 0, 0, 0, -1, 0, 0, 0, 0, -1, 0, 0, 0, 0], [0, -1, 0, 0, 0, 0, -1, 0, 0, 0, 0, -1, 0, 0, 0, 0, -1, 0, 0, 0], [0, 0, -1, 0, 0, 0, 0, -1, 0, 0, 0, 0, -1, 0, 0, 0, 0, -1, 0, 0], [0, 0, 0, -1, 0, 0, 0, 0, -1, 0, 0, 0, 0, -1, 0, 0, 0, 0, -1, 0], [0, 0, 0, 0, -1, 0, 0, 0, 0, -1, 0, 0, 0, 0, -1, 0, 0, 0, 0, -1]], [[1, 0, 0, 0, 0, 0, 0, 0, 0, 0, 0, 0], [0, 1, 0, 0, 0, 0, 0, 0, 0, 0, 0, 0], [0, 0, 1, 0, 0, 0, 0, 0, 0, 0, 0, 0], [0, 0, 0, 1, 0, 0, 0, 0, 0, 0, 0, 0], [0, 0, 0, 0, 1, 0, 0, 0, 0, 0, 0, 0], [0, 0, 0, 0, 0, 1, 0, 0, 0, 0, 0, 0], [0, 0, 0, 0, 0, 0, 1, 0, 0, 0, 0, 0], [0, 0, 0, 0, 0, 0, 0, 1, 0, 0, 0, 0], [0, 0, 0, 0, 0, 0, 0, 0, 1, 0, 0, 0], [0, 0, 0, 0, 0, 0, 0, 0, 0, 1, 0, 0], [0, 0, 0, 0, 0, 0, 0, 0, 0, 0, 1, 0], [0, 0, 0, 0, 0, 0, 0, 0, 0, 0, 0, 1], [-1, 1, -1, 1, -1, 1, -1, 1, -1, 1, -1, 1], [-1, 0, 0, 0, 0, 0, 0, 0, 0, 0, 0, 0], [0, -1, 0, 0, 0, 0, 0, 0, 0, 0, 0, 0], [0, 0, -1, 0, 0, 0, 0, 0, 0, 0, 0, 0], [0, 0, 0, -1, 0, 0, 0, 0, 0, 0, 0, 0], [0, 0, 0, 0, -1, 0, 0, 0, 0, 0, 0, 0], [0, 0, 0, 0, 0, -1, 0, 0, 0, 0, 0, 0], [0, 0, 0, 0, 0, 0, -1, 0, 0, 0, 0, 0], [0, 0, 0, 0, 0, 0, 0, -1, 0, 0, 0, 0], [0, 0, 0, 0, 0, 0, 0, 0, -1, 0, 0, 0], [0, 0, 0, 0, 0, 0, 0, 0, 0, -1, 0, 0], [0, 0, 0, 0, 0, 0, 0, 0, 0, 0, -1, 0], [0, 0, 0, 0, 0, 0, 0, 0, 0, 0, 0, -1], [1, -1, 1, -1, 1, -1, 1, -1, 1, -1, 1, -1]], [[1, 0, 0, 0, 0, 0, 0, 0, 0, 0, 0, 0, 0, 0, 0, 0, 0, 0], [0, 1, 0, 0, 0, 0, 0, 0, 0, 0, 0, 0, 0, 0, 0, 0, 0, 0], [0, 0, 1, 0, 0, 0, 0, 0, 0, 0, 0, 0, 0, 0, 0, 0, 0, 0], [0, 0, 0, 1, 0, 0, 0, 0, 0, 0, 0, 0, 0, 0, 0, 0, 0, 0], [0, 0, 0, 0, 1, 0, 0, 0, 0, 0, 0, 0, 0, 0, 0, 0, 0, 0], [0, 0, 0, 0, 0, 1, 0, 0, 0, 0, 0, 0, 0, 0, 0, 0, 0, 0], [0, 0, 0, 0, 0, 0, 1, 0, 0, 0, 0, 0, 0, 0, 0, 0, 0, 0], [0, 0, 0, 0, 0, 0, 0, 1, 0, 0, 0, 0, 0, 0, 0, 0, 0, 0], [0, 0, 0, 0, 0, 0, 0, 0, 1, 0, 0, 0, 0, 0, 0, 0, 0, 0], [0, 0, 0, 0, 0, 0, 0, 0, 0, 1, 0, 0, 0, 0, 0, 0, 0, 0], [0, 0, 0, 0, 0, 0, 0, 0, 0, 0, 1, 0, 0, 0, 0, 0, 0, 0], [0, 0, 0, 0, 0, 0, 0, 0, 0, 0, 0, 1, 0, 0, 0, 0, 0, 0], [0, 0, 0, 0, 0, 0, 0, 0, 0, 0, 0, 0, 1, 0, 0, 0, 0, 0], [0, 0, 0, 0, 0, 0, 0, 0, 0, 0, 0, 0, 0, 1, 0, 0, 0, 0], [0, 0, 0, 0, 0, 0, 0, 0, 0, 0, 0, 0, 0, 0, 1, 0, 0, 0], [0, 0, 0, 0, 0, 0, 0, 0, 0, 0, 0, 0, 0, 0, 0, 1, 0, 0], [0, 0, 0, 0, 0, 0, 0, 0, 0, 0, 0, 0, 0, 0, 0, 0, 1, 0], [0, 0, 0, 0, 0, 0, 0, 0, 0, 0, 0, 0, 0, 0, 0, 0, 0, 1], [-1, 0, 0, 0, 0, 0, 0, 0, 0, -1, 0, 0, 0, 0, 0, 0, 0, 0], [0, -1, 0, 0, 0, 0, 0, 0, 0, 0, -1, 0, 0, 0, 0, 0, 0, 0], [0, 0, -1, 0, 0, 0, 0, 0, 0, 0, 0, -1, 0, 0, 0, 0, 0, 0], [0, 0, 0, -1, 0, 0, 0, 0, 0, 0, 0, 0, -1, 0, 0, 0, 0, 0], [0, 0, 0, 0, -1, 0, 0, 0, 0, 0, 0, 0, 0, -1, 0, 0, 0, 0], [0, 0, 0, 0, 0, -1, 0, 0, 0, 0, 0, 0, 0, 0, -1, 0, 0, 0], [0, 0, 0, 0, 0, 0, -1, 0, 0, 0, 0, 0, 0, 0, 0, -1, 0, 0], [0, 0, 0, 0, 0, 0, 0, -1, 0, 0, 0, 0, 0, 0, 0, 0, -1, 0], [0, 0, 0, 0, 0, 0, 0, 0, -1, 0, 0, 0, 0, 0, 0, 0, 0, -1]], [[1, 0, 0, 0, 0, 0, 0, 0, 0, 0, 0, 0], [0, 1, 0, 0, 0, 0, 0, 0, 0, 0, 0, 0], [0, 0, 1, 0, 0, 0, 0, 0, 0, 0, 0, 0], [0, 0, 0, 1, 0, 0, 0, 0, 0, 0, 0, 0], [0, 0, 0, 0, 1, 0, 0, 0, 0, 0, 0, 0], [0, 0, 0, 0, 0, 1, 0, 0, 0, 0, 0, 0], [0, 0, 0, 0, 0, 0, 1, 0, 0, 0, 0, 0], [0, 0, 0, 0, 0, 0, 0, 1, 0, 0, 0, 0], [0, 0, 0, 0, 0, 0, 0, 0, 1, 0, 0, 0], [0, 0, 0, 0, 0, 0, 0, 0, 0, 1, 0, 0], [0, 0, 0, 0, 0, 0, 0, 0, 0, 0, 1, 0], [0, 0, 0, 0, 0, 0, 0, 0, 0, 0, 0, 1], [-1, 0, 1, 0, -1, 0, 1, 0, -1, 0, 1, 0], [0, -1, 0, 1, 0, -1, 0, 1, 0, -1, 0, 1], [-1, 0, 0, 0, 0, 0, 0, 0, 0, 0, 0, 0], [0, -1, 0, 0, 0, 0, 0, 0, 0, 0, 0, 0], [0, 0, -1, 0, 0, 0, 0, 0, 0, 0, 0, 0], [0, 0, 0, -1, 0, 0, 0, 0, 0, 0, 0, 0], [0, 0, 0, 0, -1, 0, 0, 0, 0, 0, 0, 0], [0, 0, 0, 0, 0, -1, 0, 0, 0, 0, 0, 0], [0, 0, 0, 0, 0, 0, -1, 0, 0, 0, 0, 0], [0, 0, 0, 0, 0, 0, 0, -1, 0, 0, 0, 0], [0, 0, 0, 0, 0, 0, 0, 0, -1, 0, 0, 0], [0, 0, 0, 0, 0, 0, 0, 0, 0, -1, 0, 0], [0, 0, 0, 0, 0, 0, 0, 0, 0, 0, -1, 0], [0, 0, 0, 0, 0, 0, 0, 0, 0, 0, 0, -1], [1, 0, -1, 0, 1, 0, -1, 0, 1, 0, -1, 0], [0, 1, 0, -1, 0, 1, 0, -1, 0, 1, 0, -1]], [[1, 0, 0, 0, 0, 0, 0, 0, 0, 0, 0, 0, 0, 0, 0, 0, 0, 0, 0, 0, 0, 0, 0, 0, 0, 0, 0, 0], [0, 1, 0, 0, 0, 0, 0, 0, 0, 0, 0, 0, 0, 0, 0, 0, 0, 0, 0, 0, 0, 0, 0, 0, 0, 0, 0, 0], [0, 0, 1, 0, 0, 0, 0, 0, 0, 0, 0, 0, 0, 0, 0, 0, 0, 0, 0, 0, 0, 0, 0, 0, 0, 0, 0, 0], [0, 0, 0, 1, 0, 0, 0, 0, 0, 0, 0, 0, 0, 0, 0, 0, 0, 0, 0, 0, 0, 0, 0, 0, 0, 0, 0, 0], [0, 0, 0, 0, 1, 0, 0, 0, 0, 0, 0, 0, 0, 0, 0, 0, 0, 0, 0, 0, 0, 0, 0, 0, 0, 0, 0, 0], [0, 0, 0, 0, 0, 1, 0, 0, 0, 0, 0, 0, 0, 0, 0, 0, 0, 0, 0, 0, 0, 0, 0, 0, 0, 0, 0, 0], [0, 0, 0, 0, 0, 0, 1, 0, 0, 0, 0, 0, 0, 0, 0, 0, 0, 0, 0, 0, 0, 0, 0, 0, 0, 0, 0, 0], [0, 0, 0, 0, 0, 0, 0, 1, 0, 0, 0, 0, 0, 0, 0, 0, 0, 0, 0, 0, 0, 0, 0, 0, 0, 0, 0, 0], [0, 0, 0, 0, 0, 0, 0, 0, 1, 0, 0, 0, 0, 0, 0, 0, 0, 0, 0, 0, 0, 0, 0, 0, 0, 0, 0, 0], [0, 0, 0, 0, 0, 0, 0, 0, 0, 1, 0, 0, 0, 0, 0, 0, 0, 0, 0, 0, 0, 0, 0, 0, 0, 0, 0, 0], [0, 0, 0, 0, 0, 0, 0, 0, 0, 0, 1, 0, 0, 0, 0, 0, 0, 0, 0, 0, 0, 0, 0, 0, 0, 0, 0, 0], [0, 0, 0, 0, 0, 0, 0, 0, 0, 0, 0, 1, 0, 0, 0, 0, 0, 0, 0, 0, 0, 0, 0, 0, 0, 0, 0, 0], [0, 0, 0, 0, 0, 0, 0, 0, 0, 0, 0, 0, 1, 0, 0, 0, 0, 0, 0, 0, 0, 0, 0, 0, 0, 0, 0, 0], [0, 0, 0, 0, 0, 0, 0, 0, 0, 0, 0, 0, 0, 1, 0, 0, 0, 0, 0, 0, 0, 0, 0, 0, 0, 0, 0, 0], [0, 0, 0, 0, 0, 0, 0, 0, 0, 0, 0, 0, 0, 0, 1, 0, 0, 0, 0, 0, 0, 0, 0, 0, 0, 0, 0, 0], [0, 0, 0, 0, 0, 0, 0, 0, 0, 0, 0, 0, 0, 0, 0, 1, 0, 0, 0, 0, 0, 0, 0, 0, 0, 0, 0, 0], [0, 0, 0, 0, 0, 0, 0, 0, 0, 0, 0, 0, 0, 0, 0, 0, 1, 0, 0, 0, 0, 0, 0, 0, 0, 0, 0, 0], [0, 0, 0, 0, 0, 0, 0, 0, 0, 0, 0, 0, 0, 0, 0, 0, 0, 1, 0, 0, 0, 0, 0, 0, 0, 0, 0, 0], [0, 0, 0, 0, 0, 0, 0, 0, 0, 0, 0, 0, 0, 0, 0, 0, 0, 0, 1, 0, 0, 0, 0, 0, 0, 0, 0, 0], [0, 0, 0, 0, 0, 0, 0, 0, 0, 0, 0, 0, 0, 0, 0, 0, 0, 0, 0, 1, 0, 0, 0, 0, 0, 0, 0, 0], [0, 0, 0, 0, 0, 0, 0, 0, 0, 0, 0, 0, 0, 0, 0, 0, 0, 0, 0, 0, 1, 0, 0, 0, 0, 0, 0, 0], [0, 0, 0, 0, 0, 0, 0, 0, 0, 0, 0, 0, 0, 0, 0, 0, 0, 0, 0, 0, 0, 1, 0, 0, 0, 0, 0, 0], [0, 0, 0, 0, 0, 0, 0, 0, 0, 0, 0, 0, 0, 0, 0, 0, 0, 0, 0, 0, 0, 0, 1, 0, 0, 0, 0, 0], [0, 0, 0, 0, 0, 0, 0, 0, 0, 0, 0, 0, 0, 0, 0, 0, 0, 0, 0, 0, 0, 0, 0, 1, 0, 0, 0, 0], [0, 0, 0, 0, 0, 0, 0, 0, 0, 0, 0, 0, 0, 0, 0, 0, 0, 0, 0, 0, 0, 0, 0, 0, 1, 0, 0, 0], [0, 0, 0, 0, 0, 0, 0, 0, 0, 0, 0, 0, 0, 0, 0, 0, 0, 0, 0, 0, 0, 0, 0, 0, 0, 1, 0, 0], [0, 0, 0, 0, 0, 0, 0, 0, 0, 0, 0, 0, 0, 0, 0, 0, 0, 0, 0, 0, 0, 0, 0, 0, 0, 0, 1, 0], [0, 0, 0, 0, 0, 0, 0, 0, 0, 0, 0, 0, 0, 0, 0, 0, 0, 0, 0, 0, 0, 0, 0, 0, 0, 0, 0, 1], [-1, -1, -1, -1, -1, -1, -1, -1, -1, -1, -1, -1, -1, -1, -1, -1, -1, -1, -1, -1, -1, -1, -1, -1, -1, -1, -1, -1]], [[1, 0, 0, 0, 0, 0, 0, 0], [0, 1, 0, 0, 0, 0, 0, 0], [0, 0, 1, 0, 0, 0, 0, 0], [0, 0, 0, 1, 0, 0, 0, 0], [0, 0, 0, 0, 1, 0, 0, 0], [0, 0, 0, 0, 0, 1, 0, 0], [0, 0, 0, 0, 0, 0, 1, 0], [0, 0, 0, 0, 0, 0, 0, 1], [-1, -1, 0, 1, 1, 1, 0, -1], [1, 0, -1, -1, 0, 0, 1, 1], [-1, 0, 0, 0, 0, 1, 0, 0], [0, -1, 0, 0, 0, 0, 1, 0], [0, 0, -1, 0, 0, 0, 0, 1], [-1, -1, 0, 0, 1, 1, 0, -1], [1, 0, -1, -1, -1, 0, 1, 1], [-1, 0, 0, 0, 0, 0, 0, 0], [0, -1, 0, 0, 0, 0, 0, 0], [0, 0, -1, 0, 0, 0, 0, 0], [0, 0, 0, -1, 0, 0, 0, 0], [0, 0, 0, 0, -1, 0, 0, 0], [0, 0, 0, 0, 0, -1, 0, 0], [0, 0, 0, 0, 0, 0, -1, 0], [0, 0, 0, 0, 0, 0, 0, -1], [1, 1, 0, -1, -1, -1, 0, 1], [-1, 0, 1, 1, 0, 0, -1, -1], [1, 0, 0, 0, 0, -1, 0, 0], [0, 1, 0, 0, 0, 0, -1, 0], [0, 0, 1, 0, 0, 0, 0, -1], [1, 1, 0, 0, -1, -1, 0, 1], [-1, 0, 1, 1, 1, 0, -1, -1]]]
def pwr (n e : Nat) : List Int := (PW.getD n []).getD e []
def rtP (n e : Nat) : List Int := dvR (whl n) (List.replicate e 0 ++ [1])
theorem pwr_ok : ∀ n < 31, ∀ e < n, rtP n e = pwr n e := by decide +kernel
theorem pwr_nd : ∀ n < 31, (PW.getD n []).Nodup := by decide +kernel
theorem pwr_len : ∀ n < 31, (PW.getD n []).length = n := by decide +kernel
theorem pwr_wid : ∀ n < 31, ∀ e < n, (pwr n e).length = (whl n).length - 1 := by decide +kernel
def addL (x y : List Int) : List Int := List.zipWith (· + ·) x y
def sumP (n L : Nat) : Nat → List Int
  | 0 => List.replicate ((whl n).length - 1) 0
  | i + 1 => addL (sumP n L i) (pwr n (n / L * i))
theorem sum_b : ((List.range 31).all fun n => (List.range 31).all fun L => decide (L = 0) || decide (n = 0) || decide (n % L ≠ 0) || decide (sumP n L L = (if L = 1 then (1 : Int) else 0) :: List.replicate ((whl n).length - 2) (0 : Int))) = true := by decide +kernel
theorem sum_ok {n L : Nat} (hn : n < 31) (hL : L < 31) (L1 : 1 ≤ L) (hd : n % L = 0) (n1 : 1 ≤ n) : sumP n L L = (if L = 1 then (1 : Int) else 0) :: List.replicate ((whl n).length - 2) (0 : Int) := by
  have h1 := List.all_eq_true.mp sum_b n (List.mem_range.mpr hn)
  have h2 := List.all_eq_true.mp h1 L (List.mem_range.mpr hL)
  rw [decide_eq_false (by omega), decide_eq_false (by omega), decide_eq_false (fun z => z hd)] at h2
  exact of_decide_eq_true h2
theorem pwr_inj {n i j : Nat} (hn : n < 31) (hi : i < n) (hj : j < n) (e : pwr n i = pwr n j) : i = j := by
  have hl := pwr_len n hn
  have hnd := pwr_nd n hn
  unfold pwr at e
  generalize PW.getD n [] = l at *
  rw [List.getD_eq_getElem?_getD, List.getD_eq_getElem?_getD, List.getElem?_eq_getElem (by omega), List.getElem?_eq_getElem (by omega)] at e
  exact (List.getElem_inj hnd).mp e
section
open PySem.Spec PyProof.Rows
variable {X : Cx}
/-- l.count(x), by what they are -/
def rCntD (K : PySem.W.Frag) : V → List V → Hp → VK → Prop := fun x xs H Q => ∃ (a : Addr) (y : V) (d : PyData) (ds : List PyData), x = V.ref a ∧ xs = [y] ∧ Dp K H (V.ref a) (.list ds) ∧ Dp K H y d ∧ SeqAt.shaped (.list ds) = true ∧ SeqAt.shaped d = true ∧ Q (.int (ds.countP (fun z => PyData.eqv z d) : Nat)) H
theorem mt_countD (hu : X.A.units + 65 < cLine) : MtR X "list.count" (rCntD X.K) := by
  intro pins s σ H x xs v us Q I rx rxs h
  obtain ⟨a, y, d, ds, rfl, rfl, hl, hy, sl, sd, q⟩ := h
  cases rx
  cases rxs with
  | cons ry rt =>
    rename_i uy ut
    cases rt
    obtain ⟨bs, r1⟩ := Dp.reads I d y uy hy ry
    have hxs : PyData.canLayAll0 ds = true := SeqAt.canLay_of_shaped sl
    have hroom : X.A.units + 1 + min (PyData.depthAll ds) d.depth < cLine := room_in_shaped sd hu
    cases hl with
    | lst hs ha =>
      obtain ⟨its, rv, ⟨⟨cls, dd, data, sls⟩, n, ho, hc, hdn, hdt⟩, hlen⟩ := I.list hs
      simp only at hc hdt
      subst hc hdt
      obtain ⟨as, h4⟩ := Dp.readsAll I ds _ its ha rv
      have hmap : its.map (SeqAt.readOf s.heap) = ds := SeqAt.readsAll_map ds its as hxs h4
      refine call_meets PySem.F.slot_list_count ⟨_, ho, rfl⟩ PySem.F.entry_list_count (PySem.F.args_list_count_2 _ _)
        (SeqAt.list_countAt a its.toArray n dd sls uy (fun u => PyData.eqv (SeqAt.readOf s.heap u) d)) ⟨ho, SeqAt.items_eqAt (vs := its.toArray) (show ReadsAll s.heap its.toArray.toList ds as from h4) r1 hxs (SeqAt.canLay_of_shaped sd) hroom, ?_⟩
      have ec : its.toArray.toList.countP (fun u => PyData.eqv (SeqAt.readOf s.heap u) d) = ds.countP (fun z => PyData.eqv z d) := by
        rw [← hmap, List.countP_map]
        rfl
      refine ⟨.int (ds.countP (fun z => PyData.eqv z d) : Nat), H, I.tok _, ⟨s.toks, ?_⟩, q⟩
      rw [ec]
end
theorem du65 {k : Nat} {A : Around} (h : Room k A) : A.units + 65 < cLine := by
  have := h.un
  omega
abbrev s_Roots_has_root : Stmt := inClass (top 14) 4
abbrev N_Roots_has_root : List Str := ["self", "length"]
abbrev P_Roots_has_root : List Str := ["self", "length"]
theorem sc_Roots_has_root : FnScope N_Roots_has_root P_Roots_has_root (defScope s_Roots_has_root) := ⟨rfl, rfl, rfl, by decide +kernel, rfl, by decide +kernel, by decide +kernel⟩
def spHasR (C : Addr) : Sp := fun vs H Q _ => ∃ (a : Addr) (n L : Nat), vs = [.ref a, .int (L : Int)] ∧ RootAt C H a n ∧ 1 ≤ L ∧ L ≤ 1000 ∧ Q (.bl (decide (n % L = 0))) H
abbrev s_Roots_root_at : Stmt := inClass (top 14) 10
abbrev N_Roots_root_at : List Str := ["self", "length", "power", "raised"]
abbrev P_Roots_root_at : List Str := ["self", "length", "power"]
theorem sc_Roots_root_at : FnScope N_Roots_root_at P_Roots_root_at (defScope s_Roots_root_at) := ⟨rfl, rfl, rfl, by decide +kernel, rfl, by decide +kernel, by decide +kernel⟩
def spRootA (C CR : Addr) : Sp := fun vs H Q E => ∃ (a : Addr) (n L : Nat) (p : Int), vs = [.ref a, .int (L : Int), .int p] ∧ RootAt C H a n ∧ 1 ≤ n ∧ n < 31 ∧ 1 ≤ L ∧ L ≤ 1000 ∧
  (n % L = 0 → ∀ z H', H z = none → Same H H' → H' z = some (.tup ((pwr n (n / L * (p % L).toNat)).map V.int)) → Q (.ref z) H') ∧ (¬ n % L = 0 → ∀ d H', H d = none → Same H H' → H' d = some (.xd [(("what" : Str), .int (L : Int))]) → E (.ref CR) (some d) H')
theorem pwr_lt {n L : Nat} {p : Int} (h1 : 1 ≤ n) (hL : 1 ≤ L) (h : n % L = 0) : n / L * (p % (L : Int)).toNat < n := by
  have h2 : (p % (L : Int)).toNat < L := by
    have := Int.emod_lt_of_pos p (show (0 : Int) < L by omega)
    have := Int.emod_nonneg p (show (L : Int) ≠ 0 by omega)
    omega
  have h3 : n / L * L = n := Nat.div_mul_cancel (Nat.dvd_of_mod_eq_zero h)
  have h4 : 0 < n / L := by
    apply Nat.pos_of_ne_zero
    intro z
    rw [z, Nat.zero_mul] at h3
    omega
  calc n / L * (p % (L : Int)).toNat < n / L * L := Nat.mul_lt_mul_of_pos_left h2 h4
    _ = n := h3
section
variable {P : Program} {w : World} {K : PySem.W.Frag} {mg : Str → Option Value} {base : Heap}
theorem ok_hasR {f C : Addr} {fd : FuncData} {k : Nat} (F : Fun K "has_root" "Roots.has_root" s_Roots_has_root f fd) (RC : RootC K C) : FnOk P w K mg base CX0 (k + 1) f fd P_Roots_has_root (spHasR C) := by
  have nd := sc_Roots_has_root.nd
  refine F.ok sc_Roots_has_root (fun vs H Q E h => ?_) (fun cdv A outer s H vs Q E hr h => ?_)
  · obtain ⟨a, n, L, rfl, _⟩ := h
    rfl
  · obtain ⟨a, n, L, rfl, ⟨dx, r, ha, hrm⟩, L1, L2', q⟩ := h
    refine ⟨_, (pss_one (ps_ret (pe_and (pe_cmpR op_gt (pv 1) (pe_int) (nomark _)) (pe_one (pe_cmpR op_eq (pe_op op_mod (pe_fld (pv 0) (by rfl)) (pv 1)) (pe_int) (nomark _)))))), ?_⟩
    obtain ⟨cl, no, nr⟩ := RC
    have c1 : decide ((0 : Int) < (L : Int)) = true := decide_eq_true (by omega)
    walk_at "ev"
    refine iteTe c1 ?_
    walk_at "ev"
    have e : decide (V.int ((n : Int) % (L : Int)) = V.int 0) = decide (n % L = 0) := by
      exact decide_eq_decide.mpr ⟨fun h => by have := V.int.inj h; omega, fun h => congrArg V.int (by omega)⟩
    rw [e]
    exact q
theorem ok_rootA {f f1 f2 fI C CR CT : Addr} {fd d1 d2 fdI : FuncData} {k : Nat} (F : Fun K "root_at" "Roots.root_at" s_Roots_root_at f fd) (T : Blt mg) (RC : RootC K C) (F1 : Fun K "has_root" "Roots.has_root" s_Roots_has_root f1 d1) (B_Roots_has_root : Binds K d1 P_Roots_has_root []) (ME_Roots_has_root : Meth K C "has_root" f1) (D_divided : Df K mg "divided" s_divided P_divided f2 d2)
    (FI : Fun K "__init__" "TurnError.__init__" s_init fI fdI) (I_b : Binds K fdI N_init []) (I_ty : PySem.W.typeIn K (.ref fI) = some (.type "function")) (R : Ref K CT CR fI) (M_NoRoot : mg "NoRoot" = some (.ref CR)) : FnOk P w K mg base (L2.CX P w) (k + 3) f fd P_Roots_root_at (spRootA C CR) := by
  have G_init : FnOk P w K mg base CX0 1 fI fdI N_init (spInit K) := ok_init FI
  have G_Roots_has_root : FnOk P w K mg base CX0 1 f1 d1 P_Roots_has_root (spHasR C) := ok_hasR F1 RC
  have G_divided : FnOk P w K mg base CX0 1 f2 d2 P_divided (spDvd2 K) := ok_divided2 D_divided.F T
  have EK_NoRoot := R.ek
  have II_NoRoot := R.ini
  have CL_Roots := RC.cl
  have nd := sc_Roots_root_at.nd
  refine F.okX sc_Roots_root_at (fun vs H Q E h => ?_) (fun cdv A outer s H vs Q E hr h => ?_)
  · obtain ⟨a, n, L, p, rfl, _⟩ := h
    rfl
  · obtain ⟨a, n, L, p, rfl, hR, n1, n31, L1, L2', qy, qn⟩ := h
    refine ⟨_, (pss_cons (ps_if (pt_not (pt_val (pe_meth (pv 0) CL_Roots ME_Roots_has_root G_Roots_has_root (hr.mono (by omega)) B_Roots_has_root .nil pass0 (pa_cons (pv 1) pa_nil)))) (pss_one (ps_raise rfl (takes_of rfl rfl rfl rfl) (pmk_oex EK_NoRoot.oex II_NoRoot I_ty G_init (hr.mono (by omega)) I_b .nil pass0 (by rfl) M_NoRoot (pa_cons (pv 1) pa_nil)))) pss_nil)
      (pss_cons (ps_set (i := 3) nd rfl (Or.inl rfl) (pe_op op_mul (pe_op op_fdiv (pe_fld (pv 0) (by rfl)) (pv 1)) (pe_op op_mod (pv 2) (pv 1))))
      (pss_one (ps_ret (pe_callTy call_tuple_of (by rfl) T.b_tuple (by decide +kernel) (pa_cons (pe_ix (r := rIxT K) ix_tup (pe_call G_divided (hr.mono (by omega)) (by rfl) D_divided.g D_divided.F.kp D_divided.b .nil pass0 (pa_cons (pe_op op_cat (pe_op op_rep (pe_lst (pa_cons (pe_int) pa_nil)) (pv 3)) (pe_lst (pa_cons (pe_int) pa_nil))) (pa_cons (pe_fld (pv 0) (by rfl)) pa_nil))) (pe_int) (fun _ _ => rfl)) pa_nil)))))), ?_⟩
    obtain ⟨no, nr⟩ := (⟨RC.no, RC.nr⟩ : NoAttr K C "order" ∧ NoAttr K C "rim")
    obtain ⟨w2, w31, wl⟩ := whl_last n n31 n1
    have wb := whl_bnd n n31
    obtain ⟨dx, r, ha, hrm⟩ := hR
    have hR' : RootAt C H a n := ⟨dx, r, ha, hrm⟩
    walk_at "ev"
    by_cases c : n % L = 0
    · rw [decide_eq_true c]
      have hlt := pwr_lt (p := p) n1 L1 c
      have m0 := Int.emod_nonneg p (show (L : Int) ≠ 0 by omega)
      have m1 := Int.emod_lt_of_pos p (show (0 : Int) < (L : Int) by omega)
      have ee : (n : Int) / (L : Int) * (p % (L : Int)) = ((n / L * (p % (L : Int)).toNat : Nat) : Int) := by
        rw [Int.natCast_mul, Int.toNat_of_nonneg m0]
        rfl
      have cm : CMul ((n : Int) / (L : Int)) (p % (L : Int)) := .inr ⟨by omega, by omega⟩
      obtain ⟨e, he⟩ : ∃ e, n / L * (p % (L : Int)).toNat = e := ⟨_, rfl⟩
      rw [he] at ee hlt
      walk_at "ev"
      w_cond _1
      have z1 : ([V.int 0] : List V).length * ((n : Int) / (L : Int) * (p % (L : Int))).toNat ≤ sizeLine := szl (by rw [ee, Int.toNat_natCast]; show 1 * e ≤ 60000; omega)
      have z2 : -(2 ^ 63) ≤ (n : Int) / (L : Int) * (p % (L : Int)) := by rw [ee]; omega
      have z3 : (n : Int) / (L : Int) * (p % (L : Int)) < 2 ^ 63 := by rw [ee]; omega
      walk_at "ev"
      w_cond _2
      rw [ee, rep1] at hq2
      walk_at "ev"
      w_cond _3
      have hq23 := sm3 _ _ hq2
      have z4 : (List.replicate e (V.int 0)).length + ([V.int 1] : List V).length ≤ sizeLine := szl (by rw [List.length_replicate]; show e + 1 ≤ 60000; omega)
      walk_at "ev"
      w_cond _4
      have s04 := sm1.trans (sm2.trans (sm3.trans sm4))
      have ha4 := s04 _ _ ha
      have hRow : SqL K H4 l4 ((List.replicate e (0 : Int) ++ [1]).map V.int) := by
        have := SqL.of (K := K) hq4
        rw [List.map_append, List.map_replicate]
        exact this
      have hR4 : SqL K H4 r ((whl n).map V.int) ∨ SqT K H4 r ((whl n).map V.int) := .inr (SqT.of (s04 _ _ hrm))
      have y1 : 1 ≤ (whl n).length := by omega
      have y2 : (whl n).length ≤ 1000 := by omega
      have y3 : (List.replicate e (0 : Int) ++ [1]).length ≤ 1000 := by rw [List.length_append, List.length_replicate]; show e + 1 ≤ 1000; omega
      walk_at "ev"
      intro t' qq z H5 hq sm5 hT hQ hz hZ
      have e2 : dvR (whl n) (List.replicate e (0 : Int) ++ [1]) = pwr n e := pwr_ok n n31 e hlt
      rw [e2] at hZ
      have at1 : atI [V.ref qq, V.ref z] 1 = some (.ref z) := rfl
      walk_at "ev"
      refine .inl ⟨SqL.of hZ, ?_⟩
      w_cond _6
      have q1 := qy c l6 H6 ((s04.trans sm5).free hl6) (s04.trans (sm5.trans sm6))
      rw [he] at q1
      exact q1 hq6
    · rw [decide_eq_false c]
      walk_at "ev"
      exact mk_what R.ek fun d H' hd sm hq => qn c d H' hd sm hq
end
abbrev s_Roots_shared_by : Stmt := inClass (top 14) 11
abbrev N_Roots_shared_by : List Str := ["self", "worth", "number", "part"]
abbrev P_Roots_shared_by : List Str := ["self", "worth", "number"]
theorem sc_Roots_shared_by : FnScope N_Roots_shared_by P_Roots_shared_by (defScope s_Roots_shared_by) := ⟨rfl, rfl, rfl, by decide +kernel, rfl, by decide +kernel, by decide +kernel⟩
def spShareO (K : PySem.W.Frag) (CS : Addr) : Sp := fun vs H Q E => ∃ (a x : Addr) (xs : List Int) (m : Int), vs = [.ref a, .ref x, .int m] ∧ SqT K H x (xs.map V.int) ∧ xs.length ≤ 100 ∧ 1 ≤ m ∧ m ≤ 1000000 ∧
  ((∀ i ∈ xs, i % m = 0) → ∀ z H', H z = none → Same H H' → H' z = some (.tup ((xs.map (· / m)).map V.int)) → Q (.ref z) H') ∧ ((¬ ∀ i ∈ xs, i % m = 0) → ∀ d H', H d = none → Same H H' → H' d = some (.xd [(("what" : Str), .int m)]) → E (.ref CS) (some d) H')
section
variable {P : Program} {w : World} {K : PySem.W.Frag} {mg : Str → Option Value} {base : Heap}
theorem ok_shareO {f fI CS CT : Addr} {fd fdI : FuncData} {k : Nat} (F : Fun K "shared_by" "Roots.shared_by" s_Roots_shared_by f fd) (T : Blt mg) (FI : Fun K "__init__" "TurnError.__init__" s_init fI fdI) (I_b : Binds K fdI N_init []) (I_ty : PySem.W.typeIn K (.ref fI) = some (.type "function")) (R : Ref K CT CS fI) (M_NoShare : mg "NoShare" = some (.ref CS)) : FnOk P w K mg base (L2.CX P w) (k + 3) f fd P_Roots_shared_by (spShareO K CS) := by
  have G_init : FnOk P w K mg base CX0 1 fI fdI N_init (spInit K) := ok_init FI
  have EK_NoShare := R.ek
  have II_NoShare := R.ini
  have nd := sc_Roots_shared_by.nd
  refine F.okX sc_Roots_shared_by (fun vs H Q E h => ?_) (fun cdv A outer s H vs Q E hr h => ?_)
  · obtain ⟨a, x, xs, m, rfl, _⟩ := h
    rfl
  · obtain ⟨a, x, xs, m, rfl, hx, hxl, m1, m2, qy, qn⟩ := h
    refine ⟨_, (pss_cons (ps_if (pt_val (pe_callB (r := rAny K) (cr_any rfl) (by rfl) T.b_any (by decide +kernel) (pa_cons (pe_lc (own := [("part", 3)]) (g := gName 3) (by rfl) nd (pi_tup (pv 1)) (blkOk_by (own := [("part", 3)]) (N := N_Roots_shared_by) (sc := defScope s_Roots_shared_by) (by decide +kernel)) (fun _ _ _ _ _ => (pg_name (i := 3) nd rfl (Or.inl rfl))) (fun _ _ _ _ _ => pts_nil) (fun _ _ _ _ _ => (pe_cmpR op_ne (pe_op op_mod (pv 3) (pv 2)) (pe_int) (nomark _)))) pa_nil))) (pss_one (ps_raise rfl (takes_of rfl rfl rfl rfl) (pmk_oex EK_NoShare.oex II_NoShare I_ty G_init (hr.mono (by omega)) I_b .nil pass0 (by rfl) M_NoShare (pa_cons (pv 2) pa_nil)))) pss_nil)
      (pss_one (ps_ret (pe_callTy call_tuple_of (by rfl) T.b_tuple (by decide +kernel) (pa_cons (pe_lc (own := [("part", 3)]) (g := gName 3) (by rfl) nd (pi_tup (pv 1)) (blkOk_by (own := [("part", 3)]) (N := N_Roots_shared_by) (sc := defScope s_Roots_shared_by) (by decide +kernel)) (fun _ _ _ _ _ => (pg_name (i := 3) nd rfl (Or.inl rfl))) (fun _ _ _ _ _ => pts_nil) (fun _ _ _ _ _ => (pe_op op_fdiv (pv 3) (pv 2)))) pa_nil))))), ?_⟩
    have hL' : ∃ xs, SqT K H x xs := ⟨_, hx⟩
    have cdm : CDiv 0 m := ⟨by omega, by omega⟩
    walk_at "ev"
    intro D hD
    refine lc_tup (K := K) (a := x) (xs := xs.map V.int) (fun i H' => Hold (Same H H' ∧ H' D = some (.lst (((xs.take i).map fun z => !decide (z % m = 0)).map V.bl)))) (.mk ⟨same_new hD, upd_same⟩) ?_ ?_ ?_
    · intro i H1 hi hP
      obtain ⟨sm1, hD1⟩ := hP.un
      exact same_t sm1 hx
    · intro i v H1 hv hP
      obtain ⟨sm1, hD1⟩ := hP.un
      rw [List.getElem?_map] at hv
      obtain ⟨y, hy, ev⟩ := Option.map_eq_some_iff.mp hv
      subst ev
      have hil : i < xs.length := (List.getElem?_eq_some_iff.mp hy).1
      have hsz : (((xs.take i).map fun z => !decide (z % m = 0)).map V.bl).length < sizeLine := szm (by rw [List.length_map, List.length_map, List.length_take]; omega)
      walk_at "ev"
      refine .mk ⟨same_mut sm1 hD, ?_⟩
      rw [upd_same, List.take_add_one, hy, List.map_append, List.map_append]
      have e : decide (V.int (y % m) = V.int 0) = decide (y % m = 0) := decide_eq_decide.mpr ⟨fun h => V.int.inj h, fun h => congrArg V.int h⟩
      rw [e]
      rfl
    · intro H1 hP
      obtain ⟨sm1, hD1⟩ := hP.un
      rw [List.length_map, List.take_length] at hD1
      refine ⟨D, _, rfl, SqL.of hD1, ?_⟩
      have hany : ((xs.map fun z => !decide (z % m = 0)).any id = true) ↔ ¬ ∀ i ∈ xs, i % m = 0 := by
        rw [List.any_map, List.any_eq_true]
        constructor
        · rintro ⟨z, hz, e⟩ h
          have : (!decide (z % m = 0)) = true := e
          rw [decide_eq_true (h z hz)] at this
          cases this
        · intro h
          apply Classical.byContradiction
          intro c
          apply h
          intro i hi
          apply Classical.byContradiction
          intro c2
          refine c ⟨i, hi, ?_⟩
          show (!decide (i % m = 0)) = true
          rw [decide_eq_false c2]
          rfl
      by_cases c : ∀ i ∈ xs, i % m = 0
      · have hf : (xs.map fun z => !decide (z % m = 0)).any id = false := by
          cases e : (xs.map fun z => !decide (z % m = 0)).any id with
          | false => rfl
          | true => exact absurd c (hany.mp e)
        rw [hf]
        have hx1 := same_t sm1 hx
        have hL1 : ∃ xs, SqT K H1 x xs := ⟨_, hx1⟩
        walk_at "ev"
        intro D2 hD2
        refine lc_tup (K := K) (a := x) (xs := xs.map V.int) (fun i H' => Hold (Same H1 H' ∧ H' D2 = some (.lst (((xs.take i).map (· / m)).map V.int)))) (.mk ⟨same_new hD2, upd_same⟩) ?_ ?_ ?_
        · intro i H2 hi hP2
          obtain ⟨sm2, hD2'⟩ := hP2.un
          exact same_t sm2 hx1
        · intro i v H2 hv hP2
          obtain ⟨sm2, hD2'⟩ := hP2.un
          rw [List.getElem?_map] at hv
          obtain ⟨y, hy, ev⟩ := Option.map_eq_some_iff.mp hv
          subst ev
          have hil : i < xs.length := (List.getElem?_eq_some_iff.mp hy).1
          have hsz : (((xs.take i).map (· / m)).map V.int).length < sizeLine := szm (by rw [List.length_map, List.length_map, List.length_take]; omega)
          walk_at "ev"
          refine .mk ⟨same_mut sm2 hD2, ?_⟩
          rw [upd_same, List.take_add_one, hy, List.map_append, List.map_append]
          rfl
        · intro H2 hP2
          obtain ⟨sm2, hD2'⟩ := hP2.un
          rw [List.length_map, List.take_length] at hD2'
          walk_at "ev"
          refine .inl ⟨SqL.of hD2', ?_⟩
          w_cond _3
          exact qy c l3 H3 ((sm1.trans sm2).free hl3) (sm1.trans (sm2.trans sm3)) hq3
      · rw [hany.mpr c]
        walk_at "ev"
        exact mk_what R.ek fun d H' hd sm hq => qn c d H' (sm1.free hd) (sm1.trans sm) hq
end
abbrev s__law_refused_by : Stmt := top 25
abbrev N__law_refused_by : List Str := ["_law_way", "_law_ground", "_law_first", "_law_second", "_law_found", "_law_caught", "error"]
abbrev P__law_refused_by : List Str := ["_law_way", "_law_ground", "_law_first", "_law_second"]
theorem sc__law_refused_by : FnScope N__law_refused_by P__law_refused_by (defScope s__law_refused_by) := ⟨rfl, rfl, rfl, by decide +kernel, rfl, by decide +kernel, by decide +kernel⟩
structure Rf13 (K : PySem.W.Frag) (mg : Str → Option Value) (C CT CR CS fI f1 f2 f3 : Addr) (fdI e1 e2 e3 : FuncData) : Prop where
  RC : RootC K C
  F1 : Fun K "has_root" "Roots.has_root" s_Roots_has_root f1 e1
  B1 : Binds K e1 P_Roots_has_root []
  M1 : Meth K C "has_root" f1
  F2 : Fun K "root_at" "Roots.root_at" s_Roots_root_at f2 e2
  B2 : Binds K e2 P_Roots_root_at []
  M2 : Meth K C "root_at" f2
  F3 : Fun K "shared_by" "Roots.shared_by" s_Roots_shared_by f3 e3
  B3 : Binds K e3 P_Roots_shared_by []
  M3 : Meth K C "shared_by" f3
  FI : Fun K "__init__" "TurnError.__init__" s_init fI fdI
  I_b : Binds K fdI N_init []
  I_ty : PySem.W.typeIn K (.ref fI) = some (.type "function")
  RR : Ref K CT CR fI
  RS : Ref K CT CS fI
  m1 : mg "TurnError" = some (.ref CT)
  m2 : mg "NoRoot" = some (.ref CR)
  m3 : mg "NoShare" = some (.ref CS)
  k1 : PySem.W.kitOne K (.ref CR) (.ref CR) = some true
  k2 : PySem.W.kitOne K (.ref CR) (.ref CS) = some false
  k3 : PySem.W.kitOne K (.ref CS) (.ref CR) = some false
  k4 : PySem.W.kitOne K (.ref CS) (.ref CS) = some true
def spRefR (K : PySem.W.Frag) (C : Addr) : Sp := fun vs H Q _ => ∃ (a : Addr) (n L : Nat) (p : Int), vs = [.str "root", .ref a, .int (L : Int), .int p] ∧ RootAt C H a n ∧ 1 ≤ n ∧ n < 31 ∧ 1 ≤ L ∧ L ≤ 1000 ∧
  (n % L = 0 → ∀ z H', H z = none → Same H H' → H' z = some (.tup ((pwr n (n / L * (p % L).toNat)).map V.int)) → Q (.ref z) H') ∧ (¬ n % L = 0 → ∀ t H', Same H H' → SqT K H' t [.str "no root", .int (L : Int)] → Q (.ref t) H')
def spRefS (K : PySem.W.Frag) (C : Addr) : Sp := fun vs H Q _ => ∃ (a x : Addr) (n : Nat) (xs : List Int) (m : Int), vs = [.str "share", .ref a, .ref x, .int m] ∧ RootAt C H a n ∧ SqT K H x (xs.map V.int) ∧ xs.length ≤ 100 ∧ 1 ≤ m ∧ m ≤ 1000000 ∧
  ((∀ i ∈ xs, i % m = 0) → ∀ z H', H z = none → Same H H' → H' z = some (.tup ((xs.map (· / m)).map V.int)) → Q (.ref z) H') ∧ ((¬ ∀ i ∈ xs, i % m = 0) → ∀ t H', Same H H' → SqT K H' t [.str "no share", .int m] → Q (.ref t) H')
section
variable {P : Program} {w : World} {K : PySem.W.Frag} {mg : Str → Option Value} {base : Heap}
theorem ok_refR {f C CT CR CS fI f1 f2 f3 a1 : Addr} {fd fdI e1 e2 e3 d1 : FuncData} (F : Fun K "_law_refused_by" "_law_refused_by" s__law_refused_by f fd) (T : Blt mg) (S : Rf13 K mg C CT CR CS fI f1 f2 f3 fdI e1 e2 e3) (D_divided : Df K mg "divided" s_divided P_divided a1 d1) : FnOk P w K mg base CX0 4 f fd P__law_refused_by (spRefR K C) := by
  have G_Roots_root_at : FnOk P w K mg base (L2.CX P w) 3 f2 e2 P_Roots_root_at (spRootA C CR) := ok_rootA (k := 0) S.F2 T S.RC S.F1 S.B1 S.M1 D_divided S.FI S.I_b S.I_ty S.RR S.m2
  have G_Roots_shared_by : FnOk P w K mg base (L2.CX P w) 3 f3 e3 P_Roots_shared_by (spShareO K CS) := ok_shareO (k := 0) S.F3 T S.FI S.I_b S.I_ty S.RS S.m3
  have CL_Roots := S.RC.cl
  have B_Roots_root_at := S.B2
  have ME_Roots_root_at := S.M2
  have B_Roots_shared_by := S.B3
  have ME_Roots_shared_by := S.M3
  have M_TurnError := S.m1
  have M_NoRoot := S.m2
  have M_NoShare := S.m3
  have k1 := S.k1
  have k2 := S.k2
  have nd := sc__law_refused_by.nd
  refine F.ok sc__law_refused_by (fun vs H Q E h => ?_) (fun cdv A outer s H vs Q E hr h => ?_)
  · obtain ⟨a, n, L, p, rfl, _⟩ := h
    rfl
  · obtain ⟨a, n, L, p, rfl, hR, n1, n31, L1, L2', qy, qn⟩ := h
    refine ⟨_, (pss_cons (ps_asg (pe_tup (pa_cons (pe_non) (pa_cons (pe_non) pa_nil))) (pg_tup (by rfl) (pgs_cons (pg_name (i := 4) nd rfl (Or.inl rfl)) (pgs_cons (pg_name (i := 5) nd rfl (Or.inl rfl)) pgs_nil))))
      (pss_cons (ps_try_keep (i := 6) (Wout := fun _ _ _ _ => False) rfl rfl rfl nd rfl rfl ⟨by rfl, by decide, Or.inl M_TurnError⟩ takes0 (fun W pn xe tk _ => (pss_one (ps_set (i := 4) nd rfl (Or.inl rfl) (pe_ifExp (pt_cmpR op_eq (pv 0) (pe_str) (nomark _)) (pe_methS (pv 1) CL_Roots ME_Roots_root_at G_Roots_root_at (hr.mono (by omega)) B_Roots_root_at (fun σ => passAt tk σ) (pa_cons (pv 2) (pa_cons (pv 3) pa_nil))) (pe_methS (pv 1) CL_Roots ME_Roots_shared_by G_Roots_shared_by (hr.mono (by omega)) B_Roots_shared_by (fun σ => passAt tk σ) (pa_cons (pv 2) (pa_cons (pv 3) pa_nil))))))) (fun a pn => (pss_one (ps_set (i := 5) nd rfl (Or.inl rfl) (pv 6)))))
      (pss_cons (ps_if (pt_cmpR op_isN (pv 5) (pe_non) (nomark _)) (pss_one (ps_ret (pv 4))) pss_nil)
      (pss_cons (ps_if (PW.pt (pw_or (pt_not (pt_val (pe_callB (r := rIsX K) call_isX (by rfl) T.b_isinstance (by decide +kernel) (pa_cons (pv 5) (pa_cons (pe_bltn (v := .ty "ValueError") (by rfl) T.b_ValueError (by decide +kernel) rfl) pa_nil))))) (pw_or1 (pt_cmpR op_eq (pe_callB (r := rIsX K) call_isX (by rfl) T.b_isinstance (by decide +kernel) (pa_cons (pv 5) (pa_cons (pe_glob (v := .ref _) (by rfl) M_NoRoot rfl) pa_nil))) (pe_callB (r := rIsX K) call_isX (by rfl) T.b_isinstance (by decide +kernel) (pa_cons (pv 5) (pa_cons (pe_glob (v := .ref _) (by rfl) M_NoShare rfl) pa_nil))) (nomark _))))) (pss_one (ps_ret (pe_str))) pss_nil)
      (pss_one (ps_ret (pe_tup (pa_cons (pe_ifExp (pt_val (pe_callB (r := rIsX K) call_isX (by rfl) T.b_isinstance (by decide +kernel) (pa_cons (pv 5) (pa_cons (pe_glob (v := .ref _) (by rfl) M_NoRoot rfl) pa_nil)))) (pe_str) (pe_str)) (pa_cons (pe_xw (pv 5)) pa_nil))))))))), ?_⟩
    walk_at "ev"
    w_cond _1
    have hT1 := SqT.of (K := K) hq1
    have hR1 := hR.same sm1
    obtain ⟨dx, r, ha, hrm⟩ := id hR1
    walk_at "ev"
    refine ⟨fun e z H2 hz sm2 hq2 => ?_, fun e d H2 hd sm2 hq2 => ?_⟩
    · walk_at "ev"
      exact qy e z H2 (sm1.free hz) (sm1.trans sm2) hq2
    · refine ⟨true, S.RR.em, fun _ => ⟨CR, d, rfl, rfl, fun z hz => ?_⟩, fun z => nomatch z⟩
      have sm3 : Same H2 (upd H2 z (XOb CR d z)) := same_new hz
      have hx3 : XAt (upd H2 z (XOb CR d z)) z CR [(("what" : Str), .int (L : Int))] := ⟨d, upd_same, sm3 _ _ hq2⟩
      have ek := S.RR.ek
      have kv := S.RR.kv
      have nw := S.RR.ek.nw
      walk_at "ev"
      intro t4 ht4
      generalize hG : upd _ t4 _ = H4
      obtain ⟨sm4, hq4⟩ := newO hG ht4
      exact qn e t4 H4 (sm1.trans (sm2.trans (sm3.trans sm4))) (SqT.of hq4)
theorem ok_refS {f C CT CR CS fI f1 f2 f3 a1 : Addr} {fd fdI e1 e2 e3 d1 : FuncData} (F : Fun K "_law_refused_by" "_law_refused_by" s__law_refused_by f fd) (T : Blt mg) (S : Rf13 K mg C CT CR CS fI f1 f2 f3 fdI e1 e2 e3) (D_divided : Df K mg "divided" s_divided P_divided a1 d1) : FnOk P w K mg base CX0 4 f fd P__law_refused_by (spRefS K C) := by
  have G_Roots_root_at : FnOk P w K mg base (L2.CX P w) 3 f2 e2 P_Roots_root_at (spRootA C CR) := ok_rootA (k := 0) S.F2 T S.RC S.F1 S.B1 S.M1 D_divided S.FI S.I_b S.I_ty S.RR S.m2
  have G_Roots_shared_by : FnOk P w K mg base (L2.CX P w) 3 f3 e3 P_Roots_shared_by (spShareO K CS) := ok_shareO (k := 0) S.F3 T S.FI S.I_b S.I_ty S.RS S.m3
  have CL_Roots := S.RC.cl
  have B_Roots_root_at := S.B2
  have ME_Roots_root_at := S.M2
  have B_Roots_shared_by := S.B3
  have ME_Roots_shared_by := S.M3
  have M_TurnError := S.m1
  have M_NoRoot := S.m2
  have M_NoShare := S.m3
  have k1 := S.k3
  have k2 := S.k4
  have nd := sc__law_refused_by.nd
  refine F.ok sc__law_refused_by (fun vs H Q E h => ?_) (fun cdv A outer s H vs Q E hr h => ?_)
  · obtain ⟨a, x, n, xs, m, rfl, _⟩ := h
    rfl
  · obtain ⟨a, x, n, xs, m, rfl, hR, hx, hxl, m1, m2, qy, qn⟩ := h
    refine ⟨_, (pss_cons (ps_asg (pe_tup (pa_cons (pe_non) (pa_cons (pe_non) pa_nil))) (pg_tup (by rfl) (pgs_cons (pg_name (i := 4) nd rfl (Or.inl rfl)) (pgs_cons (pg_name (i := 5) nd rfl (Or.inl rfl)) pgs_nil))))
      (pss_cons (ps_try_keep (i := 6) (Wout := fun _ _ _ _ => False) rfl rfl rfl nd rfl rfl ⟨by rfl, by decide, Or.inl M_TurnError⟩ takes0 (fun W pn xe tk _ => (pss_one (ps_set (i := 4) nd rfl (Or.inl rfl) (pe_ifExp (pt_cmpR op_eq (pv 0) (pe_str) (nomark _)) (pe_methS (pv 1) CL_Roots ME_Roots_root_at G_Roots_root_at (hr.mono (by omega)) B_Roots_root_at (fun σ => passAt tk σ) (pa_cons (pv 2) (pa_cons (pv 3) pa_nil))) (pe_methS (pv 1) CL_Roots ME_Roots_shared_by G_Roots_shared_by (hr.mono (by omega)) B_Roots_shared_by (fun σ => passAt tk σ) (pa_cons (pv 2) (pa_cons (pv 3) pa_nil))))))) (fun a pn => (pss_one (ps_set (i := 5) nd rfl (Or.inl rfl) (pv 6)))))
      (pss_cons (ps_if (pt_cmpR op_isN (pv 5) (pe_non) (nomark _)) (pss_one (ps_ret (pv 4))) pss_nil)
      (pss_cons (ps_if (PW.pt (pw_or (pt_not (pt_val (pe_callB (r := rIsX K) call_isX (by rfl) T.b_isinstance (by decide +kernel) (pa_cons (pv 5) (pa_cons (pe_bltn (v := .ty "ValueError") (by rfl) T.b_ValueError (by decide +kernel) rfl) pa_nil))))) (pw_or1 (pt_cmpR op_eq (pe_callB (r := rIsX K) call_isX (by rfl) T.b_isinstance (by decide +kernel) (pa_cons (pv 5) (pa_cons (pe_glob (v := .ref _) (by rfl) M_NoRoot rfl) pa_nil))) (pe_callB (r := rIsX K) call_isX (by rfl) T.b_isinstance (by decide +kernel) (pa_cons (pv 5) (pa_cons (pe_glob (v := .ref _) (by rfl) M_NoShare rfl) pa_nil))) (nomark _))))) (pss_one (ps_ret (pe_str))) pss_nil)
      (pss_one (ps_ret (pe_tup (pa_cons (pe_ifExp (pt_val (pe_callB (r := rIsX K) call_isX (by rfl) T.b_isinstance (by decide +kernel) (pa_cons (pv 5) (pa_cons (pe_glob (v := .ref _) (by rfl) M_NoRoot rfl) pa_nil)))) (pe_str) (pe_str)) (pa_cons (pe_xw (pv 5)) pa_nil))))))))), ?_⟩
    walk_at "ev"
    w_cond _1
    have hT1 := SqT.of (K := K) hq1
    have hR1 := hR.same sm1
    obtain ⟨dx, r, ha, hrm⟩ := id hR1
    have hx1 := same_t sm1 hx
    walk_at "ev"
    refine ⟨fun e z H2 hz sm2 hq2 => ?_, fun e d H2 hd sm2 hq2 => ?_⟩
    · walk_at "ev"
      exact qy e z H2 (sm1.free hz) (sm1.trans sm2) hq2
    · refine ⟨true, S.RS.em, fun _ => ⟨CS, d, rfl, rfl, fun z hz => ?_⟩, fun z => nomatch z⟩
      have sm3 : Same H2 (upd H2 z (XOb CS d z)) := same_new hz
      have hx3 : XAt (upd H2 z (XOb CS d z)) z CS [(("what" : Str), .int m)] := ⟨d, upd_same, sm3 _ _ hq2⟩
      have ek := S.RS.ek
      have kv := S.RS.kv
      have nw := S.RS.ek.nw
      walk_at "ev"
      intro t4 ht4
      generalize hG : upd _ t4 _ = H4
      obtain ⟨sm4, hq4⟩ := newO hG ht4
      exact qn e t4 H4 (sm1.trans (sm2.trans (sm3.trans sm4))) (SqT.of hq4)
end
theorem shp_tups {ls : List (List Int)} : SeqAt.shaped (.list (ls.map tupD)) = true := by
  have h1 : ∀ xs : List Int, PyData.canLayAll0 (xs.map PyData.int) = true ∧ PyData.depthAll (xs.map PyData.int) = 0 := fun xs => by
    induction xs with
    | nil => exact ⟨by rw [List.map_nil, PyData.canLayAll0], by rw [List.map_nil, PyData.depthAll]⟩
    | cons x r ih => exact ⟨by rw [List.map_cons, PyData.canLayAll0, PyData.canLay0, ih.1]; rfl, by rw [List.map_cons, PyData.depthAll, PyData.depth, ih.2]; rfl⟩
  have h2 : ∀ ls : List (List Int), PyData.canLayAll0 (ls.map tupD) = true ∧ PyData.depthAll (ls.map tupD) ≤ 1 := fun ls => by
    induction ls with
    | nil => exact ⟨by rw [List.map_nil, PyData.canLayAll0], by rw [List.map_nil, PyData.depthAll]; exact Nat.zero_le _⟩
    | cons x r ih => exact ⟨by rw [List.map_cons, PyData.canLayAll0, PyData.canLay0, (h1 x).1, ih.1]; rfl, by rw [List.map_cons, PyData.depthAll, PyData.depth, (h1 x).2]; exact Nat.max_le.mpr ⟨by omega, ih.2⟩⟩
  unfold SeqAt.shaped
  rw [PyData.canLay0, PyData.depth, (h2 ls).1, decide_eq_true (by have := (h2 ls).2; omega)]
  rfl
theorem shp_tup {xs : List Int} : SeqAt.shaped (tupD xs) = true := by
  have h1 : ∀ xs : List Int, PyData.canLayAll0 (xs.map PyData.int) = true ∧ PyData.depthAll (xs.map PyData.int) = 0 := fun xs => by
    induction xs with
    | nil => exact ⟨by rw [List.map_nil, PyData.canLayAll0], by rw [List.map_nil, PyData.depthAll]⟩
    | cons x r ih => exact ⟨by rw [List.map_cons, PyData.canLayAll0, PyData.canLay0, ih.1]; rfl, by rw [List.map_cons, PyData.depthAll, PyData.depth, ih.2]; rfl⟩
  unfold SeqAt.shaped
  rw [PyData.canLay0, PyData.depth, (h1 xs).1, (h1 xs).2]
  rfl
theorem eqv_tup {xs ys : List Int} : PyData.eqv (tupD xs) (tupD ys) = decide (xs = ys) := by
  rw [PyData.eqv, eqv_ints]
theorem dp_tups {K : PySem.W.Frag} {H : Hp} : ∀ {ps : List (Addr × List Int)}, (∀ q ∈ ps, H q.1 = some (.tup (q.2.map V.int))) → DpAll K H (ps.map fun q => V.ref q.1) ((ps.map (·.2)).map tupD)
  | [], _ => .nil
  | q :: r, h => .cons (dpt (h q List.mem_cons_self)) (dp_tups fun x hx => h x (List.mem_cons_of_mem _ hx))
theorem fit_tups {ls : List (List Int)} (h : ∀ l ∈ ls, l.length ≤ 100) (k : ls.length ≤ 100) : Fit 2 (.list (ls.map tupD)) := by
  refine ⟨by rw [List.length_map]; omega, fun e he => ?_⟩
  obtain ⟨l, hl, rfl⟩ := List.mem_map.mp he
  exact fitt (by have := h l hl; omega)
/-- the told powers, one behind the other -/
def rws (n L : Nat) (k : Nat) : List (List Int) := (List.range k).map fun i => pwr n (n / L * (i % L))
theorem cnt_one {n L k : Nat} (n1 : 1 ≤ n) (n31 : n < 31) (L1 : 1 ≤ L) (hd : n % L = 0) (k1 : 1 ≤ k) (kL : k < L) : ((rws n L (L + 1)).map tupD).countP (fun z => PyData.eqv z (tupD (pwr n (n / L * k)))) = 1 := by
  have h3 : n / L * L = n := Nat.div_mul_cancel (Nat.dvd_of_mod_eq_zero hd)
  have h4 : 0 < n / L := by
    apply Nat.pos_of_ne_zero
    intro z
    rw [z, Nat.zero_mul] at h3
    omega
  have e : ∀ i, i < L + 1 → PyData.eqv (tupD (pwr n (n / L * (i % L)))) (tupD (pwr n (n / L * k))) = decide (i = k) := fun i hi => by
    rw [eqv_tup]
    refine decide_eq_decide.mpr ⟨fun e => ?_, fun e => ?_⟩
    · have him : i % L < L := Nat.mod_lt _ (by omega)
      have l1 : n / L * (i % L) < n := by
        calc n / L * (i % L) < n / L * L := Nat.mul_lt_mul_of_pos_left him h4
          _ = n := h3
      have l2 : n / L * k < n := by
        calc n / L * k < n / L * L := Nat.mul_lt_mul_of_pos_left kL h4
          _ = n := h3
      have := pwr_inj n31 l1 l2 e
      have hik : i % L = k := Nat.eq_of_mul_eq_mul_left h4 this
      by_cases c : i < L
      · rw [Nat.mod_eq_of_lt c] at hik
        exact hik
      · have : i = L := by omega
        rw [this, Nat.mod_self] at hik
        omega
    · rw [e, Nat.mod_eq_of_lt kL]
  rw [rws, List.map_map, List.countP_map]
  have e2 : (List.range (L + 1)).countP ((fun z => PyData.eqv z (tupD (pwr n (n / L * k)))) ∘ (tupD ∘ fun i => pwr n (n / L * (i % L)))) = (List.range (L + 1)).countP (fun i => i == k) := by
    refine List.countP_congr fun i hi => ?_
    have hi2 := List.mem_range.mp hi
    show PyData.eqv (tupD (pwr n (n / L * (i % L)))) (tupD (pwr n (n / L * k))) = true ↔ (i == k) = true
    rw [e i hi2, decide_eq_true_iff, beq_iff_eq]
  rw [e2]
  show (List.range (L + 1)).count k = 1
  rw [List.nodup_range.count, if_pos (List.mem_range.mpr (by omega))]
theorem cut_m1 {xs : List V} (h : 1 ≤ xs.length) : cutV xs none (some (-1)) = xs.take (xs.length - 1) := by
  have e : cutV xs none (some (-1)) = (xs.drop 0).take (HT.sIx xs.length xs.length (some (-1)) - 0) := rfl
  have e2 : HT.sIx xs.length xs.length (some (-1)) = xs.length - 1 := by
    show (if (-1 : Int) < 0 then ((-1 : Int) + (xs.length : Int)).toNat else min (-1 : Int).toNat xs.length) = xs.length - 1
    rw [if_pos (by decide)]
    omega
  rw [e, e2]
  rfl
theorem cut_1m1 {xs : List V} (h : 2 ≤ xs.length) : cutV xs (some 1) (some (-1)) = (xs.drop 1).take (xs.length - 2) := by
  have e : cutV xs (some 1) (some (-1)) = (xs.drop (HT.sIx xs.length 0 (some 1))).take (HT.sIx xs.length xs.length (some (-1)) - HT.sIx xs.length 0 (some 1)) := rfl
  have e2 : HT.sIx xs.length xs.length (some (-1)) = xs.length - 1 := by
    show (if (-1 : Int) < 0 then ((-1 : Int) + (xs.length : Int)).toNat else min (-1 : Int).toNat xs.length) = xs.length - 1
    rw [if_pos (by decide)]
    omega
  have e3 : HT.sIx xs.length 0 (some 1) = 1 := by
    have := HT.sIx_nat xs.length 0 1
    rw [show ((1 : Nat) : Int) = 1 from rfl] at this
    rw [this]
    omega
  rw [e, e2, e3]
  rfl
theorem cut_1 {xs : List V} (h : 1 ≤ xs.length) : cutV xs none (some 1) = xs.take 1 := by
  have z : cutV xs none (some 1) = xs.take (min 1 xs.length) := rfl
  rw [z, Nat.min_eq_left h]
theorem sumP_len {n L : Nat} (n31 : n < 31) : ∀ i : Nat, (∀ j < i, n / L * j < n) → (sumP n L i).length = (whl n).length - 1
  | 0, _ => by rw [sumP, List.length_replicate]
  | i + 1, h => by
    rw [sumP, addL, List.length_zipWith, sumP_len n31 i (fun j hj => h j (by omega)), pwr_wid n n31 _ (h i (by omega)), Nat.min_self]
theorem any_false : ∀ n : Nat, (List.replicate n false).any id = false
  | 0 => rfl
  | n + 1 => by
    rw [List.replicate_succ, List.any_cons, any_false n]
    rfl
abbrev s__law_root_right : Stmt := top 26
abbrev N__law_root_right : List Str := ["_law_box_here", "_law_ground", "_law_world", "_law_length", "_law_power", "_law_found", "_law_fine", "_law_step", "_law_due", "_law_told", "_law_total", "_law_one", "_law_at"]
abbrev P__law_root_right : List Str := ["_law_box_here", "_law_ground", "_law_world", "_law_length"]
theorem sc__law_root_right : FnScope N__law_root_right P__law_root_right (defScope s__law_root_right) := ⟨rfl, rfl, rfl, by decide +kernel, rfl, by decide +kernel, by decide +kernel⟩
def spRR (C : Addr) : Sp := fun vs H Q _ => ∃ (b g d : Addr) (c : Int) (n L : Nat), vs = [.ref b, .ref g, .ref d, .int (L : Int)] ∧ BoxAt H b c ∧ c < 800000 ∧ 1 ≤ n ∧ n < 31 ∧ 1 ≤ L ∧ L ≤ 31 ∧ RootAt C H g n ∧ WorldAt H b d n ∧ ∀ H', Keep b H H' → BoxAt H' b (c + 3) → Q (.bl true) H'
section
variable {P : Program} {w : World} {K : PySem.W.Frag} {mg : Str → Option Value} {base : Heap}
theorem ok_rr {f C CT CR CS fI f1 f2 f3 f4 f5 a1 a2 a3 a4 a5 a6 : Addr} {fd fdI e1 e2 e3 e4 e5 d1 d2 d3 d4 d5 d6 : FuncData} (F : Fun K "_law_root_right" "_law_root_right" s__law_root_right f fd) (T : Blt mg) (S : Rf13 K mg C CT CR CS fI f1 f2 f3 fdI e1 e2 e3)
    (F4 : Fun K "sum_of" "Roots.sum_of" s_Roots_sum_of f4 e4) (B_Roots_sum_of : Binds K e4 P_Roots_sum_of []) (ME_Roots_sum_of : Meth K C "sum_of" f4) (F5 : Fun K "worth_of" "Roots.worth_of" s_Roots_worth_of f5 e5) (B_Roots_worth_of : Binds K e5 P_Roots_worth_of []) (ME_Roots_worth_of : Meth K C "worth_of" f5)
    (D__law_same : Df K mg "_law_same" s__law_same P__law_same a1 d1) (D__law_take : Df K mg "_law_take" s__law_take P__law_take a2 d2) (D__law_pick : Df K mg "_law_pick" s__law_pick P__law_pick a3 d3) (D__law_rest_by : Df K mg "_law_rest_by" s__law_rest_by P__law_rest_by a4 d4) (D__law_refused_by : Df K mg "_law_refused_by" s__law_refused_by P__law_refused_by a5 d5) (D_divided : Df K mg "divided" s_divided P_divided a6 d6) : FnOk P w K mg base CX0 6 f fd P__law_root_right (spRR C) := by
  have G__law_same : FnOk P w K mg base CX0 4 a1 d1 P__law_same (spSame K 3) := ok_same D__law_same T 3
  have G__law_take : FnOk P w K mg base CX0 1 a2 d2 P__law_take spTake := ok_take D__law_take.F
  have G__law_pick : FnOk P w K mg base CX0 2 a3 d3 P__law_pick (spPick K) := ok_pick (k := 0) D__law_pick.F T D__law_take
  have G__law_rest_by : FnOk P w K mg base CX0 1 a4 d4 P__law_rest_by (spRest K) := ok_rest D__law_rest_by.F T
  have G__law_refused_by : FnOk P w K mg base CX0 4 a5 d5 P__law_refused_by (spRefR K C) := ok_refR D__law_refused_by.F T S D_divided
  have G_Roots_has_root : FnOk P w K mg base CX0 1 f1 e1 P_Roots_has_root (spHasR C) := ok_hasR S.F1 S.RC
  have G_Roots_root_at : FnOk P w K mg base (L2.CX P w) 3 f2 e2 P_Roots_root_at (spRootA C CR) := ok_rootA (k := 0) S.F2 T S.RC S.F1 S.B1 S.M1 D_divided S.FI S.I_b S.I_ty S.RR S.m2
  have G_Roots_sum_of : FnOk P w K mg base CX0 1 f4 e4 P_Roots_sum_of (spSumO K) := ok_sum_ofR F4 T
  have G_Roots_worth_of : FnOk P w K mg base CX0 2 f5 e5 P_Roots_worth_of (spWorO K C) := ok_worO (k := 0) F5 T S.RC D_divided
  have CL_Roots := S.RC.cl
  have B_Roots_has_root := S.B1
  have ME_Roots_has_root := S.M1
  have B_Roots_root_at := S.B2
  have ME_Roots_root_at := S.M2
  have nd := sc__law_root_right.nd
  refine F.ok sc__law_root_right (fun vs H Q E h => ?_) (fun cdv A outer s H vs Q E hr h => ?_)
  · obtain ⟨b, g, d, c, n, L, rfl, _⟩ := h
    rfl
  · obtain ⟨b, g, d, c, n, L, rfl, hb, hc, n1, n31, L1, L31, hR, hW, q⟩ := h
    refine ⟨_, (pss_cons (ps_set (i := 4) nd rfl (Or.inl rfl) (pe_call G__law_pick (hr.mono (by omega)) (by rfl) D__law_pick.g D__law_pick.F.kp D__law_pick.b .nil pass0 (pa_cons (pv 0) (pa_cons (pe_lst (pa_cons (pe_int) (pa_cons (pe_int) (pa_cons (pe_un un_neg (pe_int)) (pa_cons (pe_op op_sub (pv 3) (pe_int)) (pa_cons (pe_call G__law_take (hr.mono (by omega)) (by rfl) D__law_take.g D__law_take.F.kp D__law_take.b .nil pass0 (pa_cons (pv 0) (pa_cons (pe_op op_pow (pe_int) (pe_int)) pa_nil))) (pa_cons (pe_op op_sub (pe_int) (pe_call G__law_take (hr.mono (by omega)) (by rfl) D__law_take.g D__law_take.F.kp D__law_take.b .nil pass0 (pa_cons (pv 0) (pa_cons (pe_op op_pow (pe_int) (pe_int)) pa_nil)))) pa_nil))))))) pa_nil))))
      (pss_cons (ps_par (i := 5) (j := 6) (by rfl) nd rfl rfl (by decide) rfl rfl (pa_cons (pe_call G__law_refused_by (hr.mono (by omega)) (by rfl) D__law_refused_by.g D__law_refused_by.F.kp D__law_refused_by.b .nil pass0 (pa_cons (pe_str) (pa_cons (pv 1) (pa_cons (pv 3) (pa_cons (pv 4) pa_nil))))) (pa_cons (pe_cmpR op_eq (pe_op op_mod (pe_dget (du hr) (pv 2) (pe_str) (fun _ _ => rfl)) (pv 3)) (pe_int) (nomark _)) pa_nil)) (by rfl))
      (pss_cons (ps_if (pt_not (pt_val (pe_call G__law_same (hr.mono (by omega)) (by rfl) D__law_same.g D__law_same.F.kp D__law_same.b .nil pass0 (pa_cons (pe_meth (pv 1) CL_Roots ME_Roots_has_root G_Roots_has_root (hr.mono (by omega)) B_Roots_has_root .nil pass0 (pa_cons (pv 3) pa_nil)) (pa_cons (pv 6) pa_nil))))) (pss_one (ps_ret (pe_bl))) pss_nil)
      (pss_cons (ps_if (pt_not (pt_val (pv 6))) (pss_one (ps_ret (pe_call G__law_same (hr.mono (by omega)) (by rfl) D__law_same.g D__law_same.F.kp D__law_same.b .nil pass0 (pa_cons (pe_lst (pa_cons (pv 5) (pa_cons (pe_call G__law_refused_by (hr.mono (by omega)) (by rfl) D__law_refused_by.g D__law_refused_by.F.kp D__law_refused_by.b .nil pass0 (pa_cons (pe_str) (pa_cons (pv 1) (pa_cons (pv 3) (pa_cons (pe_int) pa_nil))))) pa_nil))) (pa_cons (pe_op op_rep (pe_lst (pa_cons (pe_tup (pa_cons (pe_str) (pa_cons (pv 3) pa_nil))) pa_nil)) (pe_int)) pa_nil))))) pss_nil)
      (pss_cons (ps_set (i := 7) nd rfl (Or.inr rfl) (pe_op op_fdiv (pe_dget (du hr) (pv 2) (pe_str) (fun _ _ => rfl)) (pv 3)))
      (pss_cons (ps_setLc (i := 8) (own := [("_law_at", 12)]) (g := gName 12) (by rfl) nd rfl rfl (sw_true rfl rfl rfl (by decide +kernel)) (pi_range1 (by rfl) T.b_range (pa_cons (pv 3) pa_nil)) (blkOk_by (own := [("_law_at", 12)]) (N := N__law_root_right) (sc := defScope s__law_root_right) (by decide +kernel)) (fun _ _ _ _ _ => (pg_name (i := 12) nd rfl (Or.inl rfl))) (fun _ _ _ _ _ => pts_nil) (fun _ _ _ _ _ => (pe_call G__law_rest_by (hr.mono (by omega)) (by rfl) D__law_rest_by.g D__law_rest_by.F.kp D__law_rest_by.b .nil pass0 (pa_cons (pe_dget (du hr) (pv 2) (pe_str) (fun _ _ => rfl)) (pa_cons (pe_op op_cat (pe_op op_rep (pe_lst (pa_cons (pe_int) pa_nil)) (pe_op op_mul (pv 7) (pv 12))) (pe_lst (pa_cons (pe_int) pa_nil))) pa_nil)))))
      (pss_cons (ps_if (pt_not (pt_val (pe_call G__law_same (hr.mono (by omega)) (by rfl) D__law_same.g D__law_same.F.kp D__law_same.b .nil pass0 (pa_cons (pe_lst (pa_cons (pv 5) (pa_cons (pe_meth (pv 1) CL_Roots ME_Roots_root_at G_Roots_root_at (hr.mono (by omega)) B_Roots_root_at .nil passL (pa_cons (pv 3) (pa_cons (pv 4) pa_nil))) pa_nil))) (pa_cons (pe_op op_rep (pe_lst (pa_cons (pe_ix (r := rIxL K) ix_list (pv 8) (pe_op op_mod (pv 4) (pv 3)) (fun _ _ => rfl)) pa_nil)) (pe_int)) pa_nil))))) (pss_one (ps_ret (pe_bl))) pss_nil)
      (pss_cons (ps_asg (pe_tup (pa_cons (pe_lc (own := [("_law_at", 12)]) (g := gName 12) (by rfl) nd (pi_range1 (by rfl) T.b_range (pa_cons (pe_op op_add (pv 3) (pe_int)) pa_nil)) (blkOk_by (own := [("_law_at", 12)]) (N := N__law_root_right) (sc := defScope s__law_root_right) (by decide +kernel)) (fun _ _ _ _ _ => (pg_name (i := 12) nd rfl (Or.inl rfl))) (fun _ _ _ _ _ => pts_nil) (fun _ _ _ _ _ => (pe_meth (pv 1) CL_Roots ME_Roots_root_at G_Roots_root_at (hr.mono (by omega)) B_Roots_root_at .nil passL (pa_cons (pv 3) (pa_cons (pv 12) pa_nil))))) (pa_cons (pe_meth (pv 1) CL_Roots ME_Roots_worth_of G_Roots_worth_of (hr.mono (by omega)) B_Roots_worth_of .nil pass0 (pa_cons (pe_int) pa_nil)) pa_nil))) (pg_tup (by rfl) (pgs_cons (pg_name (i := 9) nd rfl (Or.inr rfl)) (pgs_cons (pg_name (i := 10) nd rfl (Or.inl rfl)) pgs_nil))))
      (pss_cons (ps_for PassesOwn.never rfl (pi_list (pe_slice (r := rSlL K) sl_list (pv 9) po_none (po_some (pe_un un_neg (pe_int))))) (pg_name (i := 11) nd rfl (Or.inl rfl))
      (pss_one (ps_set (i := 10) nd rfl (Or.inl rfl) (pe_meth (pv 1) CL_Roots ME_Roots_sum_of G_Roots_sum_of (hr.mono (by omega)) B_Roots_sum_of .nil pass0 (pa_cons (pv 10) (pa_cons (pv 11) pa_nil))))))
      (pss_cons (ps_if (PW.pt (pw_or (pt_not (pt_val (pe_call G__law_same (hr.mono (by omega)) (by rfl) D__law_same.g D__law_same.F.kp D__law_same.b .nil pass0 (pa_cons (pv 9) (pa_cons (pe_op op_cat (pv 8) (pe_slice (r := rSlL K) sl_list (pv 8) po_none (po_some (pe_int)))) pa_nil))))) (pw_or1 (pt_val (pe_callB (r := rAny K) (cr_any rfl) (by rfl) T.b_any (by decide +kernel) (pa_cons (pe_lc (own := [("_law_one", 11)]) (g := gName 11) (by rfl) nd (pi_list (pe_slice (r := rSlL K) sl_list (pv 9) (po_some (pe_int)) (po_some (pe_un un_neg (pe_int))))) (blkOk_by (own := [("_law_one", 11)]) (N := N__law_root_right) (sc := defScope s__law_root_right) (by decide +kernel)) (fun _ _ _ _ _ => (pg_name (i := 11) nd rfl (Or.inl rfl))) (fun _ _ _ _ _ => pts_nil) (fun _ _ _ _ _ => (pe_cmpR op_ne (pe_bmK (K := K) (r := rCntD K) rfl PySem.F.plainAttrs_list PySem.F.slot_list_count PySem.F.type_list_count (mt_countD (du65 hr)) (pv 9) (pa_cons (pv 11) pa_nil)) (pe_int) (nomark _)))) pa_nil)))))) (pss_one (ps_ret (pe_bl))) pss_nil)
      (pss_one (ps_ret (pe_cmpR (r := rEqD K) (op_eqD hr.units) (pv 10) (pe_meth (pv 1) CL_Roots ME_Roots_worth_of G_Roots_worth_of (hr.mono (by omega)) B_Roots_worth_of .nil pass0 (pa_cons (pe_callTy call_int1 (by rfl) T.b_int (by decide +kernel) (pa_cons (pe_cmpR op_eq (pv 3) (pe_int) (nomark _)) pa_nil)) pa_nil)) (nomark _)))))))))))))), ?_⟩
    obtain ⟨w2, w31, wl⟩ := whl_last n n31 n1
    have wb := whl_bnd n n31
    have e9 : (10 : Int) ^ Int.toNat 9 = 1000000000 := by decide
    walk_at "ev"
    intro r1 H1 r10 r11 k1 hb1
    rw [e9] at r11
    walk_at "ev"
    intro r2 H2 r20 r21 k2 hb2
    rw [e9] at r21
    walk_at "ev"
    w_cond _3
    have hb3 := hb2.same sm3
    have n3b := hb2.ne hl3
    have hL3 := SqL.of (K := K) hq3
    have k03 : Keep b H H3 := k1.trans (k2.trans (keepS sm3))
    walk_at "ev"
    intro v H4 hv k4 hb4
    obtain ⟨pw, rfl⟩ : ∃ pw : Int, v = .int pw := by
      simp only [List.mem_cons, List.not_mem_nil, or_false] at hv
      rcases hv with y | y | y | y | y | y <;> exact ⟨_, y⟩
    clear hv
    have k04 := k03.trans k4
    have hR4 := hR.keep hb k04
    have hW4 := hW.keep k04
    have L1000 : L ≤ 1000 := by omega
    obtain ⟨dx, rm, hga4, hgr4⟩ := id hR4
    obtain ⟨l, nlb, ndb, hwd4, hwl4⟩ := id hW4
    by_cases cd : n % L = 0
    · have efine : decide ((fun i j : Int => V.int (i % j)) (n : Int) (L : Int) = V.int 0) = true := decide_eq_true (congrArg V.int (by omega))
      walk_at "ev"
      refine ⟨fun _ z5 H5 hz5 sm5 hq5 => ?_, fun e => absurd cd e⟩
      have hga5 := sm5 _ _ hga4
      have hR5 := hR4.same sm5
      have gby := (dget_w (sm5 _ _ hwd4)).2.1
      have hdT : Dp K H5 (.bl true) (.bool true) := .bl true
      have hfT : Fit 3 (.bool true) := True.intro
      walk_at "ev"
      rw [efine, decide_eq_true cd]
      walk_at "ev"
      intro H6 sm6
      have s46 := sm5.trans sm6
      have gby6 := (dget_w (s46 _ _ hwd4)).2.1
      walk_at "ev"
      have h3 : n / L * L = n := Nat.div_mul_cancel (Nat.dvd_of_mod_eq_zero cd)
      have h4 : 0 < n / L := by
        apply Nat.pos_of_ne_zero
        intro z
        rw [z, Nat.zero_mul] at h3
        omega
      have hstep : ∀ j, j < L → n / L * j < n := fun j hj => by
        calc n / L * j < n / L * L := Nat.mul_lt_mul_of_pos_left hj h4
          _ = n := h3
      intro D hD
      refine lc_range (lo := 0) (n := _) (fun j H' => Hold (∃ ps : List (Addr × List Int), ps.map (·.2) = (List.range j).map (fun i => pwr n (n / L * i)) ∧ Same H6 H' ∧ H' D = some (.lst (ps.map fun q => V.ref q.1)) ∧ ∀ q ∈ ps, H' q.1 = some (.tup (q.2.map V.int)))) (.mk ⟨[], rfl, same_new hD, upd_same, (fun q hq => by cases hq)⟩) ?_ ?_
      · intro j H7 hj hP7
        obtain ⟨ps, hps, sm7, hD7, hp7⟩ := hP7.un
        have hjL : j < L := by omega
        have hlt := hstep j hjL
        have ee : (n : Int) / (L : Int) * (0 + (j : Int)) = ((n / L * j : Nat) : Int) := by
          rw [Int.zero_add, Int.natCast_mul]
          rfl
        obtain ⟨e, he⟩ : ∃ e, n / L * j = e := ⟨_, rfl⟩
        rw [he] at ee hlt
        have g3 := (dget_w ((s46.trans sm7) _ _ hwd4)).2.2
        have hpl : ps.length = j := by
          have := congrArg List.length hps
          rw [List.length_map, List.length_map, List.length_range] at this
          exact this
        have cm : CMul ((n : Int) / (L : Int)) (0 + (j : Int)) := .inr ⟨by omega, by omega⟩
        walk_at "ev"
        w_cond _8
        have z1 : ([V.int 0] : List V).length * ((n : Int) / (L : Int) * (0 + (j : Int))).toNat ≤ sizeLine := szl (by rw [ee, Int.toNat_natCast]; show 1 * e ≤ 60000; omega)
        have z2 : -(2 ^ 63) ≤ (n : Int) / (L : Int) * (0 + (j : Int)) := by rw [ee]; omega
        have z3 : (n : Int) / (L : Int) * (0 + (j : Int)) < 2 ^ 63 := by rw [ee]; omega
        walk_at "ev"
        w_cond _9
        rw [ee, rep1] at hq9
        walk_at "ev"
        w_cond _10
        have hq910 := sm10 _ _ hq9
        have z4 : (List.replicate e (V.int 0)).length + ([V.int 1] : List V).length ≤ sizeLine := szl (by rw [List.length_replicate]; show e + 1 ≤ 60000; omega)
        walk_at "ev"
        w_cond _11
        have s711 := sm8.trans (sm9.trans (sm10.trans sm11))
        have hRow : SqL K H11 l11 ((List.replicate e (0 : Int) ++ [1]).map V.int) := by
          have := SqL.of (K := K) hq11
          rw [List.map_append, List.map_replicate]
          exact this
        have hLw := SqL.of (K := K) ((s46.trans (sm7.trans s711)) _ _ hwl4)
        have y2 : (whl n).length ≤ 1000 := by omega
        have y3 : (List.replicate e (0 : Int) ++ [1]).length ≤ 1000 := by rw [List.length_append, List.length_replicate]; show e + 1 ≤ 1000; omega
        walk_at "ev"
        intro pz H12 hpz sm12 hq12
        have e2 : dvR (whl n) (List.replicate e (0 : Int) ++ [1]) = pwr n e := pwr_ok n n31 e hlt
        rw [e2] at hq12
        have s712 := s711.trans sm12
        have hD12 := s712 _ _ hD7
        refine ⟨_, hD12, szm (by rw [List.length_map]; omega), .mk ⟨ps ++ [(pz, pwr n e)], ?_, same_mut (sm7.trans s712) hD, by rw [upd_same, List.map_append]; rfl, fun x hx => ?_⟩⟩
        · rw [List.map_append, hps, List.range_succ, List.map_append, ← he]
          rfl
        · have nx : ∀ (y : Addr × List Int), H12 y.1 = some (.tup (y.2.map V.int)) → (upd H12 D (.lst (ps.map (fun q => V.ref q.1) ++ [V.ref pz]))) y.1 = some (.tup (y.2.map V.int)) := fun y hy => by
            rw [upd_ne (fun z => by rw [z, hD12] at hy; cases hy)]
            exact hy
          rcases List.mem_append.mp hx with y | y
          · exact nx x (s712 _ _ (hp7 x y))
          · rw [List.mem_singleton.mp y]
            exact nx (pz, pwr n e) hq12
      · intro H7 hP7
        obtain ⟨ps, hps, sm7, hD7, hp7⟩ := hP7.un
        have eL : (L : Int).toNat = L := Int.toNat_natCast L
        rw [eL] at hps
        have hpl : ps.length = L := by
          have := congrArg List.length hps
          rw [List.length_map, List.length_map, List.length_range] at this
          exact this
        have s47 := s46.trans sm7
        have hga7 := s47 _ _ hga4
        have hR7 := hR4.same s47
        walk_at "ev"
        refine ⟨fun _ z8 H8 hz8 sm8 hq8 => ?_, fun e => absurd cd e⟩
        walk_at "ev"
        w_cond _9
        have hkl : (pw % (L : Int)).toNat < L := by
          have := Int.emod_lt_of_pos pw (show (0 : Int) < L by omega)
          have := Int.emod_nonneg pw (show (L : Int) ≠ 0 by omega)
          omega
        have hk0 : 0 ≤ pw % (L : Int) := Int.emod_nonneg pw (show (L : Int) ≠ 0 by omega)
        obtain ⟨kk, hkk⟩ : ∃ kk, (pw % (L : Int)).toNat = kk := ⟨_, rfl⟩
        rw [hkk] at hq5 hq8 hkl
        obtain ⟨⟨pk, xk⟩, hpk⟩ : ∃ x, ps[kk]? = some x := ⟨_, List.getElem?_eq_getElem (by omega)⟩
        have exk : xk = pwr n (n / L * kk) := by
          have := congrArg (fun l => l[kk]?) hps
          simp only [List.getElem?_map, hpk, List.getElem?_range hkl] at this
          exact Option.some.inj this
        have atk : atI (ps.map fun q => V.ref q.1) (pw % (L : Int)) = some (.ref pk) := at_nat (j := kk) (by rw [List.getElem?_map, hpk]; rfl) (by omega)
        have hD9 := SqL.of (K := K) ((sm8.trans sm9) _ _ hD7)
        walk_at "ev"
        w_cond _10
        have zr : ([V.ref pk] : List V).length * (2 : Int).toNat ≤ sizeLine := szl (by show 1 * 2 ≤ 60000; decide)
        walk_at "ev"
        w_cond _11
        have hq11' : H11 l11 = some (.lst [.ref pk, .ref pk]) := hq11
        have s811 := sm9.trans (sm10.trans sm11)
        have s411 := s47.trans (sm8.trans s811)
        have hpk7 := hp7 _ (List.mem_of_getElem? hpk)
        rw [exk] at hpk7
        have hdA : Dp K H11 (.ref l9) (.list ([pwr n (n / L * kk), pwr n (n / L * kk)].map tupD)) := .lst (SqL.of ((sm10.trans sm11) _ _ hq9)) (.cons (dpt ((sm6.trans (sm7.trans (sm8.trans s811))) _ _ hq5)) (.cons (dpt (s811 _ _ hq8)) .nil))
        have hdB : Dp K H11 (.ref l11) (.list ([pwr n (n / L * kk), pwr n (n / L * kk)].map tupD)) := .lst (SqL.of hq11') (.cons (dpt ((sm8.trans s811) _ _ hpk7)) (.cons (dpt ((sm8.trans s811) _ _ hpk7)) .nil))
        have hwid : ∀ j, j < L → (pwr n (n / L * j)).length = (whl n).length - 1 := fun j hj => pwr_wid n n31 _ (hstep j hj)
        have hft : Fit 3 (.list ([pwr n (n / L * kk), pwr n (n / L * kk)].map tupD)) := fit_up (fit_tups (fun x hx => by
          simp only [List.mem_cons, List.not_mem_nil, or_false] at hx
          have := hwid kk hkl
          rcases hx with y | y <;> rw [y] <;> omega) (by show 2 ≤ 100; decide))
        walk_at "ev"
        intro H12 sm12
        have s412 := s411.trans sm12
        walk_at "ev"
        intro D2 hD2
        refine lc_range (lo := 0) (n := _) (fun j H' => Hold (∃ ts : List (Addr × List Int), ts.map (·.2) = rws n L j ∧ Same H12 H' ∧ H' D2 = some (.lst (ts.map fun q => V.ref q.1)) ∧ ∀ q ∈ ts, H' q.1 = some (.tup (q.2.map V.int)))) (.mk ⟨[], rfl, same_new hD2, upd_same, (fun q hq => by cases hq)⟩) ?_ ?_
        · intro j H13 hj hP13
          obtain ⟨ts, hts, sm13, hD13, ht13⟩ := hP13.un
          have hjL : j < L + 1 := by omega
          have s413 := s412.trans sm13
          have hga13 := s413 _ _ hga4
          have hR13 := hR4.same s413
          have htl : ts.length = j := by
            have := congrArg List.length hts
            rw [rws, List.length_map, List.length_map, List.length_range] at this
            exact this
          walk_at "ev"
          refine ⟨fun _ pz H14 hpz sm14 hq14 => ?_, fun e => absurd cd e⟩
          have em : ((0 + (j : Int)) % (L : Int)).toNat = j % L := by
            rw [Int.zero_add]
            exact Int.toNat_natCast (j % L)
          rw [em] at hq14
          have hD14 := sm14 _ _ hD13
          refine ⟨_, hD14, szm (by rw [List.length_map]; omega), .mk ⟨ts ++ [(pz, pwr n (n / L * (j % L)))], ?_, same_mut (sm13.trans sm14) hD2, by rw [upd_same, List.map_append]; rfl, fun x hx => ?_⟩⟩
          · rw [List.map_append, hts, rws, rws, List.range_succ, List.map_append]
            rfl
          · have nx : ∀ (y : Addr × List Int), H14 y.1 = some (.tup (y.2.map V.int)) → (upd H14 D2 (.lst (ts.map (fun q => V.ref q.1) ++ [V.ref pz]))) y.1 = some (.tup (y.2.map V.int)) := fun y hy => by
              rw [upd_ne (fun z => by rw [z, hD14] at hy; cases hy)]
              exact hy
            rcases List.mem_append.mp hx with y | y
            · exact nx x (sm14 _ _ (ht13 x y))
            · rw [List.mem_singleton.mp y]
              exact nx (pz, pwr n (n / L * (j % L))) hq14
        intro H13 hP13
        obtain ⟨ts, hts, sm13, hD13, ht13⟩ := hP13.un
        have eL1 : ((L : Int) + 1).toNat = L + 1 := by omega
        rw [eL1] at hts
        have htl : ts.length = L + 1 := by
          have := congrArg List.length hts
          rw [rws, List.length_map, List.length_map, List.length_range] at this
          exact this
        have s413 := s412.trans sm13
        have hga13 := s413 _ _ hga4
        have hR13 := hR4.same s413
        walk_at "ev"
        intro p14 H14 hp14 sm14 hq14
        walk_at "ev"
        w_cond _15
        have hT15 := SqT.of (K := K) hq15
        have s1315 := sm14.trans sm15
        have hD15 := SqL.of (K := K) (s1315 _ _ hD13)
        walk_at "ev"
        w_cond _16
        rw [cut_m1 (by rw [List.length_map]; omega), List.length_map, htl] at hq16
        have hL16 := SqL.of (K := K) hq16
        have s1316 := s1315.trans sm16
        have hts16 : ∀ q ∈ ts, H16 q.1 = some (.tup (q.2.map V.int)) := fun q hq => s1316 _ _ (ht13 q hq)
        have h14 : H16 p14 = some (.tup ((sumP n L 0).map V.int)) := by
          rw [(sm15.trans sm16) _ _ hq14, sumP]
          rw [show (whl n).length - 1 = (whl n).length - 2 + 1 by omega, List.replicate_succ]
        refine ⟨l16, rfl, ⟨_, hL16⟩, ?_⟩
        have estep : (fun i j : Int => V.int (i / j)) (n : Int) (L : Int) = V.int ((n : Int) / (L : Int)) := rfl
        refine for_list (K := K) (a := l16) (xs := (ts.map fun q => V.ref q.1).take (L + 1 - 1)) (fun i σ H' => Hold (∃ (pt : Addr) (y11 : Option V), σ = [some (.ref b), some (.ref g), some (.ref d), some (.int (L : Int)), some (.int pw), some (.ref z5), some (.bl true), some (.int ((n : Int) / (L : Int))), some (.ref D), some (.ref D2), some (.ref pt), y11, none] ∧ Same H16 H' ∧ H' pt = some (.tup ((sumP n L i).map V.int)))) (.mk ⟨p14, _, rfl, Same.refl _, h14⟩) ?_ ?_ ?_
        · intro i σ H17 hi hP17
          obtain ⟨pt, y11, rfl, sm17, hpt⟩ := hP17.un
          exact sm17.seq hL16
        · intro i v σ H17 hv hP17
          obtain ⟨pt, y11, rfl, sm17, hpt⟩ := hP17.un
          have hiL : i < L := by
            have := (List.getElem?_eq_some_iff.mp hv).1
            rw [List.length_take] at this
            omega
          rw [List.getElem?_take_of_lt (by omega), List.getElem?_map] at hv
          obtain ⟨⟨pq, xq⟩, hq, ev⟩ := Option.map_eq_some_iff.mp hv
          subst ev
          have exq : xq = pwr n (n / L * i) := by
            have := congrArg (fun l => l[i]?) hts
            simp only [rws, List.getElem?_map, hq, List.getElem?_range (show i < L + 1 by omega)] at this
            have t2 : xq = pwr n (n / L * (i % L)) := Option.some.inj this
            rw [Nat.mod_eq_of_lt hiL] at t2
            exact t2
          subst exq
          have hxq := SqT.of (K := K) (sm17 _ _ (hts16 _ (List.mem_of_getElem? hq)))
          have hpT := SqT.of (K := K) hpt
          have hga17 := (s413.trans (s1316.trans sm17)) _ _ hga4
          have hl1 : (sumP n L i).length = (pwr n (n / L * i)).length := by rw [sumP_len n31 i (fun j hj => hstep j (by omega)), hwid i hiL]
          have hl2 : (sumP n L i).length ≤ 100 := by rw [sumP_len n31 i (fun j hj => hstep j (by omega))]; omega
          walk_at "ev"
          intro pn H18 hpn sm18 hq18
          exact .mk ⟨pn, _, rfl, sm17.trans sm18, hq18⟩
        intro σ H17 hP17
        obtain ⟨pt, y11, rfl, sm17, hpt⟩ := hP17.un
        have hlx : ((ts.map fun q => V.ref q.1).take (L + 1 - 1)).length = L := by rw [List.length_take, List.length_map, htl]; omega
        rw [hlx] at hpt
        have s1317 := s1316.trans sm17
        have hD17 := (sm8.trans (s811.trans (sm12.trans (sm13.trans s1317)))) _ _ hD7
        have hDL17 := SqL.of (K := K) hD17
        walk_at "ev"
        w_cond _18
        rw [cut_1 (by rw [List.length_map]; omega)] at hq18
        have hD18 := sm18 _ _ hD17
        have zc : (ps.map fun q => V.ref q.1).length + ((ps.map fun q => V.ref q.1).take 1).length ≤ sizeLine := szl (by rw [List.length_take, List.length_map]; omega)
        walk_at "ev"
        w_cond _19
        have s1319 := s1317.trans (sm18.trans sm19)
        have s719 := sm8.trans (s811.trans (sm12.trans (sm13.trans s1319)))
        have eD : (ps.map fun q => V.ref q.1) ++ (ps.map fun q => V.ref q.1).take 1 = (ps ++ ps.take 1).map fun q => V.ref q.1 := by
          rw [List.map_append, List.map_take]
        rw [eD] at hq19
        have erow : (ps ++ ps.take 1).map (·.2) = rws n L (L + 1) := by
          rw [List.map_append, List.map_take, hps, rws, List.range_succ, List.map_append, ← List.map_take, List.take_range, Nat.min_eq_left L1]
          congr 1
          · refine List.map_congr_left fun i hi => ?_
            rw [Nat.mod_eq_of_lt (List.mem_range.mp hi)]
          · show [pwr n (n / L * 0)] = [pwr n (n / L * (L % L))]
            rw [Nat.mod_self]
        have hdT' : Dp K H19 (.ref D2) (.list ((rws n L (L + 1)).map tupD)) := by
          rw [← hts]
          exact .lst (SqL.of (s1319 _ _ hD13)) (dp_tups fun q hq => s1319 _ _ (ht13 q hq))
        have hdU : Dp K H19 (.ref l19) (.list ((rws n L (L + 1)).map tupD)) := by
          rw [← erow]
          refine .lst (SqL.of hq19) (dp_tups fun q hq => s719 _ _ (hp7 q ?_))
          rcases List.mem_append.mp hq with y | y
          · exact y
          · exact List.mem_of_mem_take y
        have hft2 : Fit 3 (.list ((rws n L (L + 1)).map tupD)) := fit_up (fit_tups (fun x hx => by
          obtain ⟨i, hi, rfl⟩ := List.mem_map.mp hx
          have := hwid (i % L) (Nat.mod_lt _ (by omega))
          omega) (by rw [rws, List.length_map, List.length_range]; omega))
        walk_at "ev"
        intro H20 sm20
        have s1320 := s1319.trans sm20
        have hDD20 := SqL.of (K := K) (s1320 _ _ hD13)
        walk_at "ev"
        w_cond _21
        rw [cut_1m1 (by rw [List.length_map]; omega), List.length_map, htl] at hq21
        have hL21 := SqL.of (K := K) hq21
        have hLe21 : ∃ xs, SqL K H21 l21 xs := ⟨_, hL21⟩
        have hts21 : ∀ q ∈ ts, H21 q.1 = some (.tup (q.2.map V.int)) := fun q hq => (s1320.trans sm21) _ _ (ht13 q hq)
        have hD21 := (s1320.trans sm21) _ _ hD13
        have hlx2 : (((ts.map fun q => V.ref q.1).drop 1).take (L + 1 - 2)).length = L - 1 := by rw [List.length_take, List.length_drop, List.length_map, htl]; omega
        walk_at "ev"
        intro D3 hD3
        refine lc_list (K := K) (a := l21) (xs := ((ts.map fun q => V.ref q.1).drop 1).take (L + 1 - 2)) (fun j H' => Hold (Same H21 H' ∧ H' D3 = some (.lst ((List.replicate j false).map V.bl)))) (.mk ⟨same_new hD3, upd_same⟩) ?_ ?_ ?_
        · intro j H22 hj hP22
          obtain ⟨sm22, hD22⟩ := hP22.un
          exact sm22.seq hL21
        · intro j v H22 hv hP22
          obtain ⟨sm22, hD22⟩ := hP22.un
          have hjL : j < L - 1 := by
            have := (List.getElem?_eq_some_iff.mp hv).1
            rw [hlx2] at this
            exact this
          rw [List.getElem?_take_of_lt (by omega), List.getElem?_drop, List.getElem?_map] at hv
          obtain ⟨⟨pq, xq⟩, hq, ev⟩ := Option.map_eq_some_iff.mp hv
          subst ev
          have exq : xq = pwr n (n / L * (1 + j)) := by
            have := congrArg (fun l => l[1 + j]?) hts
            simp only [rws, List.getElem?_map, hq, List.getElem?_range (show 1 + j < L + 1 by omega)] at this
            have t2 : xq = pwr n (n / L * ((1 + j) % L)) := Option.some.inj this
            rw [Nat.mod_eq_of_lt (by omega)] at t2
            exact t2
          subst exq
          have hdO : Dp K H22 (.ref pq) (tupD (pwr n (n / L * (1 + j)))) := dpt (sm22 _ _ (hts21 _ (List.mem_of_getElem? hq)))
          have hdL : Dp K H22 (.ref D2) (.list ((rws n L (L + 1)).map tupD)) := by
            rw [← hts]
            exact .lst (SqL.of (sm22 _ _ hD21)) (dp_tups fun q hq => sm22 _ _ (hts21 q hq))
          have sh1 : SeqAt.shaped (.list ((rws n L (L + 1)).map tupD)) = true := shp_tups
          have sh2 : SeqAt.shaped (tupD (pwr n (n / L * (1 + j)))) = true := shp_tup
          have ty22 : tyV K "list" (.ref D2) H22 := .inl ⟨rfl, _, SqL.of (sm22 _ _ hD21)⟩
          have hcnt := cnt_one n1 n31 L1 cd (show 1 ≤ 1 + j by omega) (by omega)
          have hsz : ((List.replicate j false).map V.bl).length < sizeLine := szm (by rw [List.length_map, List.length_replicate]; omega)
          walk_at "ev"
          rw [hcnt]
          refine .mk ⟨same_mut sm22 hD3, ?_⟩
          rw [upd_same, List.replicate_succ', List.map_append]
          rfl
        · intro H22 hP22
          obtain ⟨sm22, hD22⟩ := hP22.un
          refine ⟨D3, _, rfl, SqL.of hD22, ?_⟩
          rw [any_false]
          have s1322 := s1320.trans (sm21.trans sm22)
          have hga22 := (s413.trans s1322) _ _ hga4
          have hR22 := hR4.same (s413.trans s1322)
          walk_at "ev"
          intro pf H23 hpf sm23 hq23
          have hLn : L ≤ n := Nat.le_of_dvd (by omega) (Nat.dvd_of_mod_eq_zero cd)
          have e1 : (if decide (V.int (L : Int) = V.int 1) = true then (1 : Int) else 0) = if L = 1 then 1 else 0 := by
            by_cases c : L = 1
            · rw [if_pos c, if_pos (decide_eq_true (by rw [c]; rfl))]
            · rw [if_neg c, if_neg (fun z => c (by have := V.int.inj (of_decide_eq_true z); omega))]
          rw [e1, ← sum_ok n31 (by omega) L1 cd n1] at hq23
          have s1723 := sm18.trans (sm19.trans (sm20.trans (sm21.trans (sm22.trans sm23))))
          refine ⟨_, _, dpt (s1723 _ _ hpt), dpt hq23, shp_tup, shp_tup, ?_⟩
          rw [eqv_tup, decide_eq_true rfl]
          have s423 := s413.trans (s1322.trans sm23)
          exact q _ (k04.trans (keepS s423)) ((hb4.same s423).mono (by omega))
    · have efine : decide ((fun i j : Int => V.int (i % j)) (n : Int) (L : Int) = V.int 0) = false := decide_eq_false fun z => cd (by have := V.int.inj z; omega)
      walk_at "ev"
      intro _ t5 H5 sm5 hT5
      have hga5 := sm5 _ _ hga4
      have hR5 := hR4.same sm5
      have gby := (dget_w (sm5 _ _ hwd4)).2.1
      have hdT : Dp K H5 (.bl false) (.bool false) := .bl false
      have hfT : Fit 3 (.bool false) := True.intro
      walk_at "ev"
      rw [efine, decide_eq_false cd]
      walk_at "ev"
      intro H6 sm6
      have hR6 := hR5.same sm6
      have hga6 := sm6 _ _ hga5
      walk_at "ev"
      intro _ t7 H7 sm7 hT7
      walk_at "ev"
      w_cond _8
      walk_at "ev"
      w_cond _9
      walk_at "ev"
      w_cond _10
      have zr : ([V.ref l9] : List V).length * (2 : Int).toNat ≤ sizeLine := szl (by show 1 * 2 ≤ 60000; decide)
      walk_at "ev"
      w_cond _11
      have hq11' : H11 l11 = some (.lst [.ref l9, .ref l9]) := hq11
      have s811 := sm9.trans (sm10.trans sm11)
      have s711 := sm8.trans s811
      have dN : ∀ (Hx : Hp) (a : Addr), SqT K Hx a [.str "no root", .int (L : Int)] → Dp K Hx (.ref a) (.tuple [.str "no root", .int (L : Int)]) := fun Hx a h => .tup h (.cons (.str _) (.cons (.int _) .nil))
      have hdA : Dp K H11 (.ref l8) (.list [.tuple [.str "no root", .int (L : Int)], .tuple [.str "no root", .int (L : Int)]]) := .lst (SqL.of (s811 _ _ hq8)) (.cons (dN _ _ (same_t (sm6.trans (sm7.trans s711)) hT5)) (.cons (dN _ _ (same_t s711 hT7)) .nil))
      have hT9 : SqT K H11 l9 [.str "no root", .int (L : Int)] := SqT.of ((sm10.trans sm11) _ _ hq9)
      have hdB : Dp K H11 (.ref l11) (.list [.tuple [.str "no root", .int (L : Int)], .tuple [.str "no root", .int (L : Int)]]) := .lst (SqL.of hq11') (.cons (dN _ _ hT9) (.cons (dN _ _ hT9) .nil))
      have hft : Fit 3 (.list [.tuple [.str "no root", .int (L : Int)], .tuple [.str "no root", .int (L : Int)]]) := by
        have f1 : Fit 2 (.tuple [.str "no root", .int (L : Int)]) := ⟨by show 2 ≤ 4000; decide, fun e he => by
          simp only [List.mem_cons, List.not_mem_nil, or_false] at he
          rcases he with y | y <;> rw [y] <;> exact True.intro⟩
        refine ⟨by show 2 ≤ 4000; decide, fun e he => ?_⟩
        simp only [List.mem_cons, List.not_mem_nil, or_false] at he
        rcases he with y | y <;> rw [y] <;> exact f1
      walk_at "ev"
      intro H12 sm12
      have s412 := sm5.trans (sm6.trans (sm7.trans (s711.trans sm12)))
      exact q _ (k04.trans (keepS s412)) ((hb4.same s412).mono (by omega))
end
theorem isum_none {f : Nat → Int} : ∀ {n : Nat}, (∀ j < n, f j = 0) → isum f n = 0
  | 0, _ => rfl
  | n + 1, h => by
    rw [isum, isum_none fun j hj => h j (by omega), h n (by omega)]
    rfl
theorem isum_one {f : Nat → Int} {j0 : Nat} : ∀ {n : Nat}, j0 < n → (∀ j < n, j ≠ j0 → f j = 0) → isum f n = f j0
  | 0, h, _ => by omega
  | n + 1, h, k => by
    rw [isum]
    by_cases c : j0 = n
    · subst c
      rw [isum_none fun j hj => k j (by omega) (by omega)]
      omega
    · rw [isum_one (by omega) fun j hj => k j (by omega), k n (by omega) (fun z => c z.symm)]
      omega
theorem subAt_zero {start : Nat} {bs r : List Int} : ∀ {i : Nat}, start + i ≤ r.length → subAt start 0 bs r i = r
  | 0, _ => rfl
  | i + 1, h => by
    rw [subAt, subAt_zero (by omega), Int.zero_mul, Int.sub_zero]
    exact set_same (by omega)
theorem dvN_zeros {bs x : List Int} {t : Nat} (hx : x.length = bs.length - 1) : ∀ n : Nat, n ≤ t → (dvN bs (x ++ List.replicate t 0) n).1 = x ++ List.replicate (t - n) 0
  | 0, _ => rfl
  | n + 1, h => by
    have ih := dvN_zeros (t := t) hx n (by omega)
    rw [dvN, dvS, ih]
    have et : t - n = t - (n + 1) + 1 := by omega
    have e1 : x ++ List.replicate (t - n) 0 = (x ++ List.replicate (t - (n + 1)) (0 : Int)) ++ [0] := by
      rw [et, List.replicate_succ', List.append_assoc]
    rw [e1]
    have e2 : ((x ++ List.replicate (t - (n + 1)) (0 : Int)) ++ [0]).length = x.length + (t - (n + 1)) + 1 := by
      rw [List.length_append, List.length_append, List.length_replicate]
      rfl
    have e3 : ((x ++ List.replicate (t - (n + 1)) (0 : Int)) ++ [0]).getD (((x ++ List.replicate (t - (n + 1)) (0 : Int)) ++ [0]).length - 1) 0 = 0 := by
      rw [e2, List.getD_eq_getElem?_getD, List.getElem?_append_right (by rw [List.length_append, List.length_replicate]; omega), List.length_append, List.length_replicate, show x.length + (t - (n + 1)) + 1 - 1 - (x.length + (t - (n + 1))) = 0 by omega]
      rfl
    show subAt _ _ bs (List.dropLast _) _ = _
    rw [e3, List.dropLast_concat]
    refine subAt_zero ?_
    rw [e2, List.length_append, List.length_replicate]
    omega
theorem dvR_zeros {bs x : List Int} {t : Nat} (hx : x.length = bs.length - 1) : dvR bs (x ++ List.replicate t 0) = x := by
  unfold dvR
  have e : (x ++ List.replicate t (0 : Int)).length - (bs.length - 1) = t := by
    rw [List.length_append, List.length_replicate]
    omega
  rw [e, dvN_zeros hx t (Nat.le_refl _), Nat.sub_self]
  show (x ++ []) ++ List.replicate (bs.length - 1 - (x ++ []).length) 0 = x
  rw [List.append_nil, hx, Nat.sub_self]
  exact List.append_nil x
theorem pmul_c {ys : List Int} {c : Int} {t : Nat} (h1 : 1 ≤ ys.length) : pmul ys (c :: List.replicate t 0) = ys.map (· * c) ++ List.replicate t 0 := by
  have hl : (pmul ys (c :: List.replicate t 0)).length = (ys.map (· * c) ++ List.replicate t (0 : Int)).length := by
    rw [pmul_len, List.length_cons, List.length_append, List.length_map, List.length_replicate]
    omega
  have e : ∀ k, (pmul ys (c :: List.replicate t 0)).getD k 0 = (ys.map (· * c) ++ List.replicate t (0 : Int)).getD k 0 := fun k => by
    have h2 : 1 ≤ (c :: List.replicate t (0 : Int)).length := by rw [List.length_cons]; omega
    have hin : ∀ i, isum (fun j => if i + j = k then ys.getD i 0 * (c :: List.replicate t (0 : Int)).getD j 0 else 0) (c :: List.replicate t (0 : Int)).length = if i = k then ys.getD i 0 * c else 0 := fun i => by
      rw [isum_one (j0 := 0) (by omega) fun j hj hne => ?_]
      · rfl
      · by_cases cc : i + j = k
        · rw [if_pos cc]
          cases j with
          | zero => exact absurd rfl hne
          | succ j =>
            have : (c :: List.replicate t (0 : Int)).getD (j + 1) 0 = 0 := by
              rw [List.getD_eq_getElem?_getD, List.getElem?_cons_succ, List.getElem?_replicate]
              split <;> rfl
            rw [this, Int.mul_zero]
        · rw [if_neg cc]
    unfold pmul
    rw [pmN_get h2 (Nat.le_refl _), isum_congr fun i _ => hin i]
    by_cases ck : k < ys.length
    · rw [isum_one ck fun j hj hne => if_neg hne, if_pos rfl, List.getD_eq_getElem?_getD, List.getD_eq_getElem?_getD, List.getElem?_append_left (by rw [List.length_map]; exact ck), List.getElem?_map, List.getElem?_eq_getElem ck]
      rfl
    · rw [isum_none fun j hj => if_neg (by omega), List.getD_eq_getElem?_getD, List.getElem?_append_right (by rw [List.length_map]; omega), List.getElem?_replicate]
      split <;> rfl
  refine List.ext_getElem hl fun k a b => ?_
  have := e k
  rw [List.getD_eq_getElem?_getD, List.getD_eq_getElem?_getD, List.getElem?_eq_getElem a, List.getElem?_eq_getElem b] at this
  exact this
theorem prod_c {n : Nat} {ys : List Int} {c : Int} (hy : ys.length = (whl n).length - 1) (h1 : 1 ≤ ys.length) : dvR (whl n) (pmul ys (c :: List.replicate ((whl n).length - 2) 0)) = ys.map (· * c) := by
  rw [pmul_c h1]
  exact dvR_zeros (by rw [List.length_map]; exact hy)
abbrev s__law_share_right : Stmt := top 27
abbrev N__law_share_right : List Str := ["_law_box_here", "_law_ground", "_law_world", "_law_worth_here", "_law_number", "_law_many", "_law_thing", "_law_found", "_law_fine", "_law_one"]
abbrev P__law_share_right : List Str := ["_law_box_here", "_law_ground", "_law_world"]
theorem sc__law_share_right : FnScope N__law_share_right P__law_share_right (defScope s__law_share_right) := ⟨rfl, rfl, rfl, by decide +kernel, rfl, by decide +kernel, by decide +kernel⟩
def spSR (C : Addr) : Sp := fun vs H Q _ => ∃ (b g d : Addr) (c : Int) (n : Nat), vs = [.ref b, .ref g, .ref d] ∧ BoxAt H b c ∧ c < 800000 ∧ 1 ≤ n ∧ n < 31 ∧ RootAt C H g n ∧ WorldAt H b d n ∧ ∀ H', Keep b H H' → BoxAt H' b (c + 91) → Q (.bl true) H'
section
variable {P : Program} {w : World} {K : PySem.W.Frag} {mg : Str → Option Value} {base : Heap}
theorem ok_sr {f C CT CR CS fI f1 f2 f3 f4 f5 a1 a2 a3 a4 a5 a6 a7 : Addr} {fd fdI e1 e2 e3 e4 e5 d1 d2 d3 d4 d5 d6 d7 : FuncData} (F : Fun K "_law_share_right" "_law_share_right" s__law_share_right f fd) (T : Blt mg) (S : Rf13 K mg C CT CR CS fI f1 f2 f3 fdI e1 e2 e3)
    (F4 : Fun K "product_of" "Roots.product_of" s_Roots_product_of f4 e4) (B_Roots_product_of : Binds K e4 P_Roots_product_of []) (ME_Roots_product_of : Meth K C "product_of" f4) (F5 : Fun K "worth_of" "Roots.worth_of" s_Roots_worth_of f5 e5) (B_Roots_worth_of : Binds K e5 P_Roots_worth_of []) (ME_Roots_worth_of : Meth K C "worth_of" f5)
    (D__law_same : Df K mg "_law_same" s__law_same P__law_same a1 d1) (D__law_take : Df K mg "_law_take" s__law_take P__law_take a2 d2) (D__law_pick : Df K mg "_law_pick" s__law_pick P__law_pick a3 d3) (D__law_worth : Df K mg "_law_worth" s__law_worth P__law_worth a4 d4) (D__law_refused_by : Df K mg "_law_refused_by" s__law_refused_by P__law_refused_by a5 d5) (D_divided : Df K mg "divided" s_divided P_divided a6 d6) (D_multiplied : Df K mg "multiplied" s_multiplied P_multiplied a7 d7) : FnOk P w K mg base CX0 6 f fd P__law_share_right (spSR C) := by
  have G__law_same : FnOk P w K mg base CX0 4 a1 d1 P__law_same (spSame K 3) := ok_same D__law_same T 3
  have G__law_take : FnOk P w K mg base CX0 1 a2 d2 P__law_take spTake := ok_take D__law_take.F
  have G__law_worth : FnOk P w K mg base CX0 3 a4 d4 P__law_worth spWorth := ok_worth (k := 0) D__law_worth.F T D__law_take D__law_pick
  have G__law_refused_by : FnOk P w K mg base CX0 4 a5 d5 P__law_refused_by (spRefS K C) := ok_refS D__law_refused_by.F T S D_divided
  have G_Roots_shared_by : FnOk P w K mg base (L2.CX P w) 3 f3 e3 P_Roots_shared_by (spShareO K CS) := ok_shareO (k := 0) S.F3 T S.FI S.I_b S.I_ty S.RS S.m3
  have G_Roots_product_of : FnOk P w K mg base CX0 2 f4 e4 P_Roots_product_of (spProdO K C) := ok_prodO (k := 0) F4 T S.RC D_divided D_multiplied
  have G_Roots_worth_of : FnOk P w K mg base CX0 2 f5 e5 P_Roots_worth_of (spWorO K C) := ok_worO (k := 0) F5 T S.RC D_divided
  have CL_Roots := S.RC.cl
  have B_Roots_shared_by := S.B3
  have ME_Roots_shared_by := S.M3
  have nd := sc__law_share_right.nd
  refine F.ok sc__law_share_right (fun vs H Q E h => ?_) (fun cdv A outer s H vs Q E hr h => ?_)
  · obtain ⟨b, g, d, c, n, rfl, _⟩ := h
    rfl
  · obtain ⟨b, g, d, c, n, rfl, hb, hc, n1, n31, hR, hW, q⟩ := h
    refine ⟨_, (pss_cons (ps_asg (pe_tup (pa_cons (pe_callTy call_tuple_of (by rfl) T.b_tuple (by decide +kernel) (pa_cons (pe_lc (own := [("_law_one", 9)]) (g := gName 9) (by rfl) nd (pi_tup (pe_call G__law_worth (hr.mono (by omega)) (by rfl) D__law_worth.g D__law_worth.F.kp D__law_worth.b .nil pass0 (pa_cons (pv 0) (pa_cons (pv 2) pa_nil)))) (blkOk_by (own := [("_law_one", 9)]) (N := N__law_share_right) (sc := defScope s__law_share_right) (by decide +kernel)) (fun _ _ _ _ _ => (pg_name (i := 9) nd rfl (Or.inl rfl))) (fun _ _ _ _ _ => pts_nil) (fun _ _ _ _ _ => (pe_op op_fdiv (pv 9) (pe_int)))) pa_nil)) (pa_cons (pe_op op_add (pe_int) (pe_call G__law_take (hr.mono (by omega)) (by rfl) D__law_take.g D__law_take.F.kp D__law_take.b .nil pass0 (pa_cons (pv 0) (pa_cons (pe_int) pa_nil)))) pa_nil))) (pg_tup (by rfl) (pgs_cons (pg_name (i := 3) nd rfl (Or.inl rfl)) (pgs_cons (pg_name (i := 4) nd rfl (Or.inr rfl)) pgs_nil))))
      (pss_cons (ps_set (i := 5) nd rfl (Or.inl rfl) (pe_callTy call_tuple_of (by rfl) T.b_tuple (by decide +kernel) (pa_cons (pe_lc (own := [("_law_one", 9)]) (g := gName 9) (by rfl) nd (pi_tup (pv 3)) (blkOk_by (own := [("_law_one", 9)]) (N := N__law_share_right) (sc := defScope s__law_share_right) (by decide +kernel)) (fun _ _ _ _ _ => (pg_name (i := 9) nd rfl (Or.inl rfl))) (fun _ _ _ _ _ => pts_nil) (fun _ _ _ _ _ => (pe_op op_mul (pv 9) (pv 4)))) pa_nil)))
      (pss_cons (ps_for PassesOwn.never rfl (pi_tup (pe_tup (pa_cons (pv 3) (pa_cons (pv 5) (pa_cons (pe_op (r := rCatB K) op_catB (pe_slice (r := rSlT K) sl_tup (pv 5) po_none (po_some (pe_un un_neg (pe_int)))) (pe_tup (pa_cons (pe_op op_add (pe_ix (r := rIxT K) ix_tup (pv 5) (pe_un un_neg (pe_int)) (fun _ _ => rfl)) (pe_int)) pa_nil))) (pa_cons (pe_op (r := rCatB K) op_catB (pe_tup (pa_cons (pe_op op_sub (pe_ix (r := rIxT K) ix_tup (pv 5) (pe_int) (fun _ _ => rfl)) (pe_int)) pa_nil)) (pe_slice (r := rSlT K) sl_tup (pv 5) (po_some (pe_int)) po_none)) pa_nil)))))) (pg_name (i := 6) nd rfl (Or.inl rfl))
      (pss_cons (ps_set (i := 7) nd rfl (Or.inl rfl) (pe_call G__law_refused_by (hr.mono (by omega)) (by rfl) D__law_refused_by.g D__law_refused_by.F.kp D__law_refused_by.b .nil pass0 (pa_cons (pe_str) (pa_cons (pv 1) (pa_cons (pv 6) (pa_cons (pv 4) pa_nil))))))
      (pss_cons (ps_set (i := 8) nd rfl (Or.inl rfl) (pe_callB (r := rAll K) (cr_all rfl) (by rfl) T.b_all (by decide +kernel) (pa_cons (pe_lc (own := [("_law_one", 9)]) (g := gName 9) (by rfl) nd (pi_tup (pv 6)) (blkOk_by (own := [("_law_one", 9)]) (N := N__law_share_right) (sc := defScope s__law_share_right) (by decide +kernel)) (fun _ _ _ _ _ => (pg_name (i := 9) nd rfl (Or.inl rfl))) (fun _ _ _ _ _ => pts_nil) (fun _ _ _ _ _ => (pe_cmpR op_eq (pe_op op_mod (pv 9) (pv 4)) (pe_int) (nomark _)))) pa_nil)))
      (pss_cons (ps_if (pt_not (pt_val (pe_call G__law_same (hr.mono (by omega)) (by rfl) D__law_same.g D__law_same.F.kp D__law_same.b .nil pass0 (pa_cons (pv 7) (pa_cons (pe_ifExp (pt_val (pv 8)) (pe_callTy call_tuple_of (by rfl) T.b_tuple (by decide +kernel) (pa_cons (pe_lc (own := [("_law_one", 9)]) (g := gName 9) (by rfl) nd (pi_tup (pv 6)) (blkOk_by (own := [("_law_one", 9)]) (N := N__law_share_right) (sc := defScope s__law_share_right) (by decide +kernel)) (fun _ _ _ _ _ => (pg_name (i := 9) nd rfl (Or.inl rfl))) (fun _ _ _ _ _ => pts_nil) (fun _ _ _ _ _ => (pe_op op_fdiv (pv 9) (pv 4)))) pa_nil)) (pe_tup (pa_cons (pe_str) (pa_cons (pv 4) pa_nil)))) pa_nil))))) (pss_one (ps_ret (pe_bl))) pss_nil)
      (pss_one (ps_if (PW.pt (pw_and (pt_val (pv 8)) (pw_and1 (pt_cmpR (r := rNeD K) (op_neD hr.units) (pe_meth (pv 1) CL_Roots ME_Roots_product_of G_Roots_product_of (hr.mono (by omega)) B_Roots_product_of .nil pass0 (pa_cons (pv 7) (pa_cons (pe_meth (pv 1) CL_Roots ME_Roots_worth_of G_Roots_worth_of (hr.mono (by omega)) B_Roots_worth_of .nil pass0 (pa_cons (pv 4) pa_nil)) pa_nil))) (pv 6) (nomark _))))) (pss_one (ps_ret (pe_bl))) pss_nil))))))
      (pss_one (ps_ret (pe_call G__law_same (hr.mono (by omega)) (by rfl) D__law_same.g D__law_same.F.kp D__law_same.b .nil pass0 (pa_cons (pe_meth (pv 1) CL_Roots ME_Roots_shared_by G_Roots_shared_by (hr.mono (by omega)) B_Roots_shared_by .nil passL (pa_cons (pv 5) (pa_cons (pv 4) pa_nil))) (pa_cons (pv 3) pa_nil)))))))), ?_⟩
    obtain ⟨w2, w31, wl⟩ := whl_last n n31 n1
    walk_at "ev"
    intro p1 ws H1 hp1 k1 hb1 hwl' hwb hq1
    have hx1 := SqT.of (K := K) hq1
    have hL1 : ∃ xs, SqT K H1 p1 xs := ⟨_, hx1⟩
    walk_at "ev"
    intro DA hDA
    refine lc_tup (K := K) (a := p1) (xs := ws.map V.int) (fun i H' => Hold (Same H1 H' ∧ H' DA = some (.lst (((ws.take i).map (· / 100)).map V.int)))) (.mk ⟨same_new hDA, upd_same⟩) ?_ ?_ ?_
    · intro i H2 hi hP
      obtain ⟨sm2, hD2⟩ := hP.un
      exact same_t sm2 hx1
    · intro i v H2 hv hP
      obtain ⟨sm2, hD2⟩ := hP.un
      rw [List.getElem?_map] at hv
      obtain ⟨y, hy, ev⟩ := Option.map_eq_some_iff.mp hv
      subst ev
      have hil : i < ws.length := (List.getElem?_eq_some_iff.mp hy).1
      have hsz : (((ws.take i).map (· / 100)).map V.int).length < sizeLine := szm (by rw [List.length_map, List.length_map, List.length_take]; omega)
      walk_at "ev"
      refine .mk ⟨same_mut sm2 hDA, ?_⟩
      rw [upd_same, List.take_add_one, hy, List.map_append, List.map_append]
      rfl
    intro H2 hP2
    obtain ⟨sm2, hD2⟩ := hP2.un
    rw [List.length_map, List.take_length] at hD2
    have hb2 := hb1.same sm2
    walk_at "ev"
    refine .inl ⟨SqL.of hD2, ?_⟩
    w_cond _3
    have hb3 := hb2.same sm3
    have n3b := hb2.ne hl3
    walk_at "ev"
    intro r4 H41 r40 r41 k41 hb41
    obtain ⟨m, hm⟩ : ∃ m : Int, 1 + r4 = m := ⟨_, rfl⟩
    have m1 : 1 ≤ m := by omega
    have m60 : m ≤ 60 := by omega
    walk_at "ev"
    w_cond _4
    have hT4 : SqT K H4 l4 [.ref l3, .int m] := by
      rw [← hm]
      exact SqT.of hq4
    have hb4 := hb41.same sm4
    clear hq4
    obtain ⟨us, hus⟩ : ∃ us, ws.map (· / 100) = us := ⟨_, rfl⟩
    rw [hus] at hq3
    have hul : us.length = (whl n).length - 1 := by rw [← hus, List.length_map]; exact hwl'
    have hub : Bd 10000000 us := fun x hx => by
      rw [← hus] at hx
      obtain ⟨y, hy, rfl⟩ := List.mem_map.mp hx
      have := hwb y hy
      omega
    clear hus
    have hq4 := sm4 _ _ (k41 _ _ n3b hq3)
    have hx4 := SqT.of (K := K) hq4
    have hL4 : ∃ xs, SqT K H4 l3 xs := ⟨_, hx4⟩
    have k04 : Keep b H H4 := k1.trans ((keepS (sm2.trans sm3)).trans (k41.trans (keepS sm4)))
    have hR4 := hR.keep hb k04
    obtain ⟨dx, rm, hga4, hgr4⟩ := id hR4
    walk_at "ev"
    intro DB hDB
    refine lc_tup (K := K) (a := l3) (xs := us.map V.int) (fun i H' => Hold (Same H4 H' ∧ H' DB = some (.lst (((us.take i).map (· * m)).map V.int)))) (.mk ⟨same_new hDB, upd_same⟩) ?_ ?_ ?_
    · intro i H5 hi hP
      obtain ⟨sm5, hD5⟩ := hP.un
      exact same_t sm5 hx4
    · intro i v H5 hv hP
      obtain ⟨sm5, hD5⟩ := hP.un
      rw [List.getElem?_map] at hv
      obtain ⟨y, hy, ev⟩ := Option.map_eq_some_iff.mp hv
      subst ev
      have hil : i < us.length := (List.getElem?_eq_some_iff.mp hy).1
      have hsz : (((us.take i).map (· * m)).map V.int).length < sizeLine := szm (by rw [List.length_map, List.length_map, List.length_take]; omega)
      have hyb := hub y (List.mem_of_getElem? hy)
      have cm : CMul y m := .inr ⟨by omega, by omega⟩
      walk_at "ev"
      refine .mk ⟨same_mut sm5 hDB, ?_⟩
      rw [upd_same, List.take_add_one, hy, List.map_append, List.map_append]
      rfl
    intro H5 hP5
    obtain ⟨sm5, hD5⟩ := hP5.un
    rw [List.length_map, List.take_length] at hD5
    walk_at "ev"
    refine .inl ⟨SqL.of hD5, ?_⟩
    w_cond _6
    have hq6' : H6 l6 = some (.tup ((us.map (· * m)).map V.int)) := hq6
    obtain ⟨ms, hms⟩ : ∃ ms, us.map (· * m) = ms := ⟨_, rfl⟩
    have hml : ms.length = (whl n).length - 1 := by rw [← hms, List.length_map]; exact hul
    have hmb : Bd 600000000 ms := fun x hx => by
      rw [← hms] at hx
      obtain ⟨y, hy, rfl⟩ := List.mem_map.mp hx
      have := hub y hy
      rw [Int.natAbs_mul]
      have e2 : m.natAbs ≤ 60 := by omega
      exact Nat.le_trans (Nat.mul_le_mul this e2) (by decide)
    rw [hms] at hq6'
    have hx6 := SqT.of (K := K) hq6'
    have hml1 : 1 ≤ ms.length := by omega
    have nw1 : ¬ (HT.sIx (ms.map V.int).length 0 none = 0 ∧ HT.sIx (ms.map V.int).length (ms.map V.int).length (some (-1)) = (ms.map V.int).length) := by
      rintro ⟨_, z⟩
      have e2 : HT.sIx (ms.map V.int).length (ms.map V.int).length (some (-1)) = (ms.map V.int).length - 1 := by
        show (if (-1 : Int) < 0 then ((-1 : Int) + ((ms.map V.int).length : Int)).toNat else min (-1 : Int).toNat (ms.map V.int).length) = (ms.map V.int).length - 1
        rw [if_pos (by decide)]
        rw [List.length_map]
        omega
      rw [e2, List.length_map] at z
      omega
    have at1 : atI (ms.map V.int) (-1) = some (.int (ms.getD (ms.length - 1) 0)) := by
      unfold atI ixN
      rw [if_neg (by decide), if_pos (by rw [List.length_map]; omega)]
      show (ms.map V.int)[((-1 : Int) + ((ms.map V.int).length : Int)).toNat]? = _
      rw [List.length_map, show ((-1 : Int) + (ms.length : Int)).toNat = ms.length - 1 by omega, List.getElem?_map, List.getD_eq_getElem?_getD, List.getElem?_eq_getElem (by omega)]
      rfl
    have at0 : atI (ms.map V.int) 0 = some (.int (ms.getD 0 0)) := at_map hml1 rfl
    walk_at "ev"
    w_cond _7
    have c1 : cutV (ms.map V.int) none (some (-1)) = (ms.take (ms.length - 1)).map V.int := by
      rw [cut_m1 (by rw [List.length_map]; exact hml1), List.length_map, List.map_take]
    rw [c1] at hq7
    have hT7 := SqT.of (K := K) hq7
    have hx7 := same_t sm7 hx6
    walk_at "ev"
    w_cond _8
    have hT8 : SqT K H8 l8 [.int (ms.getD (ms.length - 1) 0 + 1)] := SqT.of hq8
    have hT78 := same_t sm8 hT7
    have zc1 : ((ms.take (ms.length - 1)).map V.int).length + ([V.int (ms.getD (ms.length - 1) 0 + 1)] : List V).length ≤ sizeLine := szl (by rw [List.length_map, List.length_take]; show _ + 1 ≤ 60000; omega)
    walk_at "ev"
    intro p9 H9 sm9 hT9
    have hx9 := same_t (sm8.trans sm9) hx7
    have nw2 : ¬ (HT.sIx (ms.map V.int).length 0 (some 1) = 0 ∧ HT.sIx (ms.map V.int).length (ms.map V.int).length none = (ms.map V.int).length) := by
      rintro ⟨z, _⟩
      have := HT.sIx_nat (ms.map V.int).length 0 1
      rw [show ((1 : Nat) : Int) = 1 from rfl, z, List.length_map] at this
      omega
    walk_at "ev"
    w_cond _10
    have hT10 : SqT K H10 l10 [.int (ms.getD 0 0 - 1)] := SqT.of hq10
    have hx10 := same_t sm10 hx9
    walk_at "ev"
    w_cond _11
    have c2 : cutV (ms.map V.int) (some 1) none = (ms.drop 1).map V.int := by
      have z : cutV (ms.map V.int) (some 1) none = ((ms.map V.int).drop (min 1 (ms.map V.int).length)).take ((ms.map V.int).length - min 1 (ms.map V.int).length) := rfl
      rw [z, List.length_map, Nat.min_eq_left hml1, List.take_of_length_le (by rw [List.length_drop, List.length_map]; omega), List.map_drop]
    rw [c2] at hq11
    have hT11 := SqT.of (K := K) hq11
    have hT1011 := same_t sm11 hT10
    have zc2 : ([V.int (ms.getD 0 0 - 1)] : List V).length + ((ms.drop 1).map V.int).length ≤ sizeLine := szl (by rw [List.length_map, List.length_drop]; show 1 + _ ≤ 60000; omega)
    walk_at "ev"
    intro p12 H12 sm12 hT12
    walk_at "ev"
    w_cond _13
    have s1213 := sm13
    have s913 := sm10.trans (sm11.trans (sm12.trans sm13))
    have s613 := sm7.trans (sm8.trans (sm9.trans s913))
    have s413 := sm5.trans (sm6.trans s613)
    have hLT := SqT.of (K := K) hq13
    have hLT' : ∃ xs, SqT K H13 l13 xs := ⟨_, hLT⟩
    have hall : ∀ v ∈ [V.ref l3, V.ref l6, V.ref p9, V.ref p12], ∃ (a : Addr) (xs : List Int), v = .ref a ∧ SqT K H13 a (xs.map V.int) ∧ xs.length = (whl n).length - 1 ∧ Bd 1000000000 xs := by
      intro v hv
      simp only [List.mem_cons, List.not_mem_nil, or_false] at hv
      rcases hv with y | y | y | y
      · exact ⟨l3, us, y, same_t s413 hx4, hul, hub.up (by decide)⟩
      · exact ⟨l6, ms, y, same_t s613 hx6, hml, hmb.up (by decide)⟩
      · refine ⟨p9, ms.take (ms.length - 1) ++ [ms.getD (ms.length - 1) 0 + 1], y, ?_, ?_, fun x hx => ?_⟩
        · rw [List.map_append]
          exact same_t s913 hT9
        · rw [List.length_append, List.length_take]
          show min _ _ + 1 = _
          omega
        · rcases List.mem_append.mp hx with z | z
          · exact Nat.le_trans (hmb x (List.mem_of_mem_take z)) (by decide)
          · rw [List.mem_singleton.mp z]
            have := hmb.getD (ms.length - 1)
            omega
      · refine ⟨p12, [ms.getD 0 0 - 1] ++ ms.drop 1, y, ?_, ?_, fun x hx => ?_⟩
        · rw [List.map_append]
          exact same_t sm13 hT12
        · rw [List.length_append, List.length_drop]
          show 1 + _ = _
          omega
        · rcases List.mem_append.mp hx with z | z
          · rw [List.mem_singleton.mp z]
            have := hmb.getD 0
            omega
          · exact Nat.le_trans (hmb x (List.mem_of_mem_drop z)) (by decide)
    refine ⟨l13, rfl, hLT', ?_⟩
    refine for_tup (K := K) (a := l13) (xs := [.ref l3, .ref l6, .ref p9, .ref p12]) (fun j σ H' => Hold (∃ y6 y7 y8, σ = [some (.ref b), some (.ref g), some (.ref d), some (.ref l3), some (.int m), some (.ref l6), y6, y7, y8, none] ∧ Same H13 H')) (.mk ⟨_, _, _, rfl, Same.refl _⟩) ?_ ?_ ?_
    · intro j σ H14 hj hP
      obtain ⟨y6, y7, y8, rfl, sm14⟩ := hP.un
      exact same_t sm14 hLT
    · intro j v σ H14 hv hP
      obtain ⟨y6, y7, y8, rfl, sm14⟩ := hP.un
      obtain ⟨a, xs, rfl, hxs, hxl, hxb⟩ := hall v (List.mem_of_getElem? hv)
      have s414 := s413.trans sm14
      have hR14 := hR4.same s414
      have hx14 := same_t sm14 hxs
      have hxl100 : xs.length ≤ 100 := by omega
      have m6 : m ≤ 1000000 := by omega
      have hfin : ∀ (σ' : Option V × Option V × Option V) (Hx : Hp), Same H14 Hx → Hold (∃ y6 y7 y8, [some (.ref b), some (.ref g), some (.ref d), some (.ref l3), some (.int m), some (.ref l6), σ'.1, σ'.2.1, σ'.2.2, none] = [some (.ref b), some (.ref g), some (.ref d), some (.ref l3), some (.int m), some (.ref l6), y6, y7, y8, none] ∧ Same H13 Hx) := fun σ' Hx sx => .mk ⟨_, _, _, rfl, sm14.trans sx⟩
      walk_at "ev"
      refine ⟨fun cf z H15 hz sm15 hq15 => ?_, fun cf t H15 sm15 hT15 => ?_⟩
      · have hx15 := same_t sm15 hx14
        have hL15 : ∃ xs, SqT K H15 a xs := ⟨_, hx15⟩
        walk_at "ev"
        intro DC hDC
        refine lc_tup (K := K) (a := a) (xs := xs.map V.int) (fun i H' => Hold (Same H15 H' ∧ H' DC = some (.lst (((xs.take i).map (fun z => decide (z % m = 0))).map V.bl)))) (.mk ⟨same_new hDC, upd_same⟩) ?_ ?_ ?_
        · intro i H16 hi hP
          obtain ⟨sm16, hD16⟩ := hP.un
          exact same_t sm16 hx15
        · intro i v H16 hv hP
          obtain ⟨sm16, hD16⟩ := hP.un
          rw [List.getElem?_map] at hv
          obtain ⟨y, hy, ev⟩ := Option.map_eq_some_iff.mp hv
          subst ev
          have hil : i < xs.length := (List.getElem?_eq_some_iff.mp hy).1
          have hsz : (((xs.take i).map (fun z => decide (z % m = 0))).map V.bl).length < sizeLine := szm (by rw [List.length_map, List.length_map, List.length_take]; omega)
          walk_at "ev"
          refine .mk ⟨same_mut sm16 hDC, ?_⟩
          rw [upd_same, List.take_add_one, hy, List.map_append, List.map_append]
          have e : decide (V.int (y % m) = V.int 0) = decide (y % m = 0) := decide_eq_decide.mpr ⟨fun h => V.int.inj h, fun h => congrArg V.int h⟩
          rw [e]
          rfl
        intro H16 hP16
        obtain ⟨sm16, hD16⟩ := hP16.un
        rw [List.length_map, List.take_length] at hD16
        have hal : ((xs.map fun z => decide (z % m = 0)).all id) = true := by
          rw [List.all_map, List.all_eq_true]
          exact fun x hx => decide_eq_true (cf x hx)
        refine ⟨DC, _, rfl, SqL.of hD16, ?_⟩
        rw [hal]
        have hx16 := same_t sm16 hx15
        have hL16 : ∃ xs, SqT K H16 a xs := ⟨_, hx16⟩
        walk_at "ev"
        intro DD hDD
        refine lc_tup (K := K) (a := a) (xs := xs.map V.int) (fun i H' => Hold (Same H16 H' ∧ H' DD = some (.lst (((xs.take i).map (· / m)).map V.int)))) (.mk ⟨same_new hDD, upd_same⟩) ?_ ?_ ?_
        · intro i H17 hi hP
          obtain ⟨sm17, hD17⟩ := hP.un
          exact same_t sm17 hx16
        · intro i v H17 hv hP
          obtain ⟨sm17, hD17⟩ := hP.un
          rw [List.getElem?_map] at hv
          obtain ⟨y, hy, ev⟩ := Option.map_eq_some_iff.mp hv
          subst ev
          have hil : i < xs.length := (List.getElem?_eq_some_iff.mp hy).1
          have hsz : (((xs.take i).map (· / m)).map V.int).length < sizeLine := szm (by rw [List.length_map, List.length_map, List.length_take]; omega)
          walk_at "ev"
          refine .mk ⟨same_mut sm17 hDD, ?_⟩
          rw [upd_same, List.take_add_one, hy, List.map_append, List.map_append]
          rfl
        intro H17 hP17
        obtain ⟨sm17, hD17⟩ := hP17.un
        rw [List.length_map, List.take_length] at hD17
        walk_at "ev"
        refine .inl ⟨SqL.of hD17, ?_⟩
        w_cond _18
        have s1518 := sm16.trans (sm17.trans sm18)
        have hdA : Dp K H18 (.ref z) (tupD (xs.map (· / m))) := dpt (s1518 _ _ hq15)
        have hdB : Dp K H18 (.ref l18) (tupD (xs.map (· / m))) := dpt hq18
        have hft : Fit 3 (tupD (xs.map (· / m))) := fit_up (fit_up (fitt (by rw [List.length_map]; omega)))
        walk_at "ev"
        intro H19 sm19
        have s1519 := s1518.trans sm19
        have s419 := s414.trans (sm15.trans s1519)
        have hga19 := s419 _ _ hga4
        have hR19 := hR4.same s419
        walk_at "ev"
        intro p20 H20 hp20 sm20 hq20
        have hga20 := sm20 _ _ hga19
        have hR20 := hR19.same sm20
        have hZ20 := SqT.of (K := K) ((s1519.trans sm20) _ _ hq15)
        have hW20 := SqT.of (K := K) hq20
        have v1 : 1 ≤ (xs.map (· / m)).length := by rw [List.length_map]; omega
        have v2 : 1 ≤ (m :: List.replicate ((whl n).length - 2) (0 : Int)).length := by rw [List.length_cons]; omega
        have v3 : (xs.map (· / m)).length ≤ 100 := by rw [List.length_map]; omega
        have v4 : (m :: List.replicate ((whl n).length - 2) (0 : Int)).length ≤ 100 := by rw [List.length_cons, List.length_replicate]; omega
        have v5 : ∀ x ∈ xs.map (· / m), x.natAbs < 2 ^ 400 := fun x hx => by
          obtain ⟨y, hy, rfl⟩ := List.mem_map.mp hx
          have h1 := hxb y hy
          have h2 : (y / m).natAbs ≤ 1000000001 := by
            have e1 : -1000000000 ≤ y := by omega
            have e2 : y ≤ 1000000000 := by omega
            have d1 : y / m ≤ 1000000000 := Int.ediv_le_of_le_mul (by omega) (by
              have : (1000000000 : Int) * 1 ≤ 1000000000 * m := Int.mul_le_mul_of_nonneg_left m1 (by decide)
              omega)
            have d2 : -1000000000 ≤ y / m := Int.le_ediv_of_mul_le (by omega) (by
              have : (-1000000000 : Int) * m ≤ -1000000000 * 1 := Int.mul_le_mul_of_nonpos_left (by decide) m1
              omega)
            omega
          exact Nat.lt_of_le_of_lt h2 (by decide +kernel)
        have v6 : ∀ x ∈ (m :: List.replicate ((whl n).length - 2) (0 : Int)), x.natAbs < 2 ^ 400 := fun x hx => by
          rcases List.mem_cons.mp hx with y | y
          · rw [y]
            exact Nat.lt_of_le_of_lt (show m.natAbs ≤ 60 by omega) (by decide +kernel)
          · rw [(List.mem_replicate.mp y).2]
            decide +kernel
        walk_at "ev"
        intro p21 H21 hp21 sm21 hq21
        have ebk : (xs.map (· / m)).map (· * m) = xs := by
          rw [List.map_map]
          refine (List.map_congr_left fun y hy => ?_).trans (List.map_id xs)
          show y / m * m = y
          exact Int.ediv_mul_cancel (Int.dvd_of_emod_eq_zero (cf y hy))
        rw [prod_c (by rw [List.length_map]; exact hxl) v1, ebk] at hq21
        have s1421 := sm15.trans (s1519.trans (sm20.trans sm21))
        have hdP : Dp K H21 (.ref p21) (tupD xs) := dpt hq21
        have hdX : Dp K H21 (.ref a) (tupD xs) := .tup (same_t s1421 hx14) (dp_ints xs)
        have hsp : SeqAt.shaped (tupD xs) = true := shp_tup
        have hne : (!PyData.eqv (tupD xs) (tupD xs)) = false := by
          rw [eqv_tup, decide_eq_true rfl]
          rfl
        walk_at "ev"
        refine iteFe hne ?_
        walk_at "ev"
        exact hfin (_, _, _) _ s1421
      · have hx15 := same_t sm15 hx14
        have hL15 : ∃ xs, SqT K H15 a xs := ⟨_, hx15⟩
        walk_at "ev"
        intro DC hDC
        refine lc_tup (K := K) (a := a) (xs := xs.map V.int) (fun i H' => Hold (Same H15 H' ∧ H' DC = some (.lst (((xs.take i).map (fun z => decide (z % m = 0))).map V.bl)))) (.mk ⟨same_new hDC, upd_same⟩) ?_ ?_ ?_
        · intro i H16 hi hP
          obtain ⟨sm16, hD16⟩ := hP.un
          exact same_t sm16 hx15
        · intro i v H16 hv hP
          obtain ⟨sm16, hD16⟩ := hP.un
          rw [List.getElem?_map] at hv
          obtain ⟨y, hy, ev⟩ := Option.map_eq_some_iff.mp hv
          subst ev
          have hil : i < xs.length := (List.getElem?_eq_some_iff.mp hy).1
          have hsz : (((xs.take i).map (fun z => decide (z % m = 0))).map V.bl).length < sizeLine := szm (by rw [List.length_map, List.length_map, List.length_take]; omega)
          walk_at "ev"
          refine .mk ⟨same_mut sm16 hDC, ?_⟩
          rw [upd_same, List.take_add_one, hy, List.map_append, List.map_append]
          have e : decide (V.int (y % m) = V.int 0) = decide (y % m = 0) := decide_eq_decide.mpr ⟨fun h => V.int.inj h, fun h => congrArg V.int h⟩
          rw [e]
          rfl
        intro H16 hP16
        obtain ⟨sm16, hD16⟩ := hP16.un
        rw [List.length_map, List.take_length] at hD16
        have hal : ((xs.map fun z => decide (z % m = 0)).all id) = false := by
          cases e : (xs.map fun z => decide (z % m = 0)).all id with
          | false => rfl
          | true =>
            rw [List.all_map, List.all_eq_true] at e
            exact absurd (fun x hx => of_decide_eq_true (e x hx)) cf
        refine ⟨DC, _, rfl, SqL.of hD16, ?_⟩
        rw [hal]
        walk_at "ev"
        w_cond _17
        have hT17 : SqT K H17 l17 [.str "no share", .int m] := SqT.of hq17
        have hdA : Dp K H17 (.ref t) (.tuple [.str "no share", .int m]) := .tup (same_t (sm16.trans sm17) hT15) (.cons (.str _) (.cons (.int _) .nil))
        have hdB : Dp K H17 (.ref l17) (.tuple [.str "no share", .int m]) := .tup hT17 (.cons (.str _) (.cons (.int _) .nil))
        have hft : Fit 3 (.tuple [.str "no share", .int m]) := ⟨by show 2 ≤ 4000; decide, fun e he => by
          simp only [List.mem_cons, List.not_mem_nil, or_false] at he
          rcases he with y | y <;> rw [y] <;> exact True.intro⟩
        walk_at "ev"
        intro H18 sm18
        walk_at "ev"
        exact hfin (_, _, _) _ (sm15.trans (sm16.trans (sm17.trans sm18)))
    · intro σ H14 hP
      obtain ⟨y6, y7, y8, rfl, sm14⟩ := hP.un
      have s414 := s413.trans sm14
      have hga14 := s414 _ _ hga4
      have hx14 := same_t (s613.trans sm14) hx6
      have hml100 : ms.length ≤ 100 := by omega
      have m6 : m ≤ 1000000 := by omega
      have hdv : ∀ i ∈ ms, i % m = 0 := fun i hi => by
        rw [← hms] at hi
        obtain ⟨y, hy, rfl⟩ := List.mem_map.mp hi
        exact Int.mul_emod_left y m
      have eback : ms.map (· / m) = us := by
        rw [← hms, List.map_map]
        refine (List.map_congr_left fun y hy => ?_).trans (List.map_id us)
        show y * m / m = y
        exact Int.mul_ediv_cancel y (by omega)
      walk_at "ev"
      refine ⟨fun _ z H15 hz sm15 hq15 => ?_, fun e => absurd hdv e⟩
      rw [eback] at hq15
      have hdA : Dp K H15 (.ref z) (tupD us) := dpt hq15
      have hdB : Dp K H15 (.ref l3) (tupD us) := .tup (same_t (s414.trans sm15) hx4) (dp_ints us)
      have hft : Fit 3 (tupD us) := fit_up (fit_up (fitt (by omega)))
      walk_at "ev"
      intro H16 sm16
      have s416 := s414.trans (sm15.trans sm16)
      exact q _ (k04.trans (keepS s416)) ((hb4.same s416).mono (by omega))
end
abbrev s_law : Stmt := top 28
abbrev N_law : List Str := ["_law_script", "_law_k", "_law_box_here", "_law_turn", "_law_world", "_law_ground", "_law_length", "_law_more"]
abbrev P_law : List Str := ["_law_script"]
theorem sc_law : FnScope N_law P_law (defScope s_law) := ⟨rfl, rfl, rfl, by decide +kernel, rfl, by decide +kernel, by decide +kernel⟩
def spLaw (K : PySem.W.Frag) : Sp := fun vs H Q _ => ∃ (a : Addr) (ns : List Int), vs = [.ref a] ∧ SqL K H a (ns.map V.int) ∧ ns.length ≤ 63 ∧ ∀ H', Q (.bl true) H'
structure Fns (P : Program) (w : World) (K : PySem.W.Frag) (mg : Str → Option Value) (base : Heap) : Prop where
  x0 : ∃ f fd, Df K mg "is_whole" s_is_whole P_is_whole f fd
  x1 : ∃ f fd, Df K mg "divisors" s_divisors P_divisors f fd
  x2 : ∃ f fd, Df K mg "divided" s_divided P_divided f fd
  x3 : ∃ f fd, Df K mg "multiplied" s_multiplied P_multiplied f fd
  x4 : ∃ f fd, Df K mg "wheel" s_wheel P_wheel f fd
  x5 : ∃ f fd, Df K mg "_law_box" s__law_box P__law_box f fd
  x6 : ∃ f fd, Df K mg "_law_take" s__law_take P__law_take f fd
  x7 : ∃ f fd, Df K mg "_law_pick" s__law_pick P__law_pick f fd
  x8 : ∃ f fd, Df K mg "_law_same" s__law_same P__law_same f fd
  x9 : ∃ f fd, Df K mg "_law_divided" s__law_divided P__law_divided f fd
  x10 : ∃ f fd, Df K mg "_law_own_wheel" s__law_own_wheel P__law_own_wheel f fd
  x11 : ∃ f fd, Df K mg "_law_rest_by" s__law_rest_by P__law_rest_by f fd
  x12 : ∃ f fd, Df K mg "_law_worth" s__law_worth P__law_worth f fd
  x13 : ∃ f fd, Df K mg "_law_exact" s__law_exact P__law_exact f fd
  x14 : ∃ f fd, Df K mg "_law_refused_by" s__law_refused_by P__law_refused_by f fd
  x15 : ∃ f fd, Df K mg "_law_root_right" s__law_root_right P__law_root_right f fd
  x16 : ∃ f fd, Df K mg "_law_share_right" s__law_share_right P__law_share_right f fd
structure ClsS (K : PySem.W.Frag) (mg : Str → Option Value) (C CT CB CR CS fI : Addr) (fdI : FuncData) : Prop where
  rf : ∃ f1 f2 f3 e1 e2 e3, Rf13 K mg C CT CR CS fI f1 f2 f3 fdI e1 e2 e3
  RB : Ref K CT CB fI
  m2 : mg "BadGround" = some (.ref CB)
  m5 : mg "Roots" = some (.ref C)
  mp : ∃ t, mg "MOST_ORDER" = some (.int 30 t)
  mak : ∃ f fd, Mk K C f ∧ Fun K "__init__" "Roots.__init__" s_Roots___init__ f fd ∧ Binds K fd P_Roots___init__ []
  sum : ∃ f fd, Fun K "sum_of" "Roots.sum_of" s_Roots_sum_of f fd ∧ Binds K fd P_Roots_sum_of [] ∧ Meth K C "sum_of" f
  prd : ∃ f fd, Fun K "product_of" "Roots.product_of" s_Roots_product_of f fd ∧ Binds K fd P_Roots_product_of [] ∧ Meth K C "product_of" f
  wor : ∃ f fd, Fun K "worth_of" "Roots.worth_of" s_Roots_worth_of f fd ∧ Binds K fd P_Roots_worth_of [] ∧ Meth K C "worth_of" f
section
variable {P : Program} {w : World} {K : PySem.W.Frag} {mg : Str → Option Value} {base : Heap}
theorem ok_law {f C CT CB CR CS fI : Addr} {fd fdI : FuncData} (F : Fun K "law" "law" s_law f fd) (T : Blt mg) (U : Fns P w K mg base) (S : ClsS K mg C CT CB CR CS fI fdI) : FnOk P w K mg base CX0 9 f fd P_law (spLaw K) := by
  obtain ⟨⟨f0, d0, D_is_whole⟩, ⟨f1, d1, D_divisors⟩, ⟨f2, d2, D_divided⟩, ⟨f3, d3, D_multiplied⟩, ⟨f4, d4, D_wheel⟩, ⟨f5, d5, D__law_box⟩, ⟨f6, d6, D__law_take⟩, ⟨f7, d7, D__law_pick⟩, ⟨f8, d8, D__law_same⟩, ⟨f9, d9, D__law_divided⟩, ⟨f10, d10, D__law_own_wheel⟩, ⟨f11, d11, D__law_rest_by⟩, ⟨f12, d12, D__law_worth⟩, ⟨f13, d13, D__law_exact⟩, ⟨f14, d14, D__law_refused_by⟩, ⟨f15, d15, D__law_root_right⟩, ⟨f16, d16, D__law_share_right⟩⟩ := U
  obtain ⟨tM, hM⟩ := S.mp
  obtain ⟨fM, dM, MK_Roots, FM, B_Roots___init__⟩ := S.mak
  obtain ⟨r1, r2, r3, q1, q2, q3, RF⟩ := S.rf
  obtain ⟨s1', t1', A1, A2, A3⟩ := S.sum
  obtain ⟨s2', t2', B1, B2, B3⟩ := S.prd
  obtain ⟨s3', t3', C1, C2, C3⟩ := S.wor
  have M_Roots := S.m5
  have G__law_box : FnOk P w K mg base CX0 1 f5 d5 P__law_box (spBox K) := ok_box D__law_box.F T
  have G__law_exact : FnOk P w K mg base CX0 7 f13 d13 P__law_exact spExact := ok_exact D__law_exact.F T D__law_take D__law_own_wheel D__law_divided
  have G_Roots___init__ : FnOk P w K mg base (L2.CX P w) 7 fM dM P_Roots___init__ (spRoI K C CB) := ok_roi FM T RF.RC D_is_whole D_wheel D_divisors D_divided hM RF.FI RF.I_b RF.I_ty S.RB S.m2
  have G__law_root_right : FnOk P w K mg base CX0 6 f15 d15 P__law_root_right (spRR C) := ok_rr D__law_root_right.F T RF A1 A2 A3 C1 C2 C3 D__law_same D__law_take D__law_pick D__law_rest_by D__law_refused_by D_divided
  have G__law_share_right : FnOk P w K mg base CX0 6 f16 d16 P__law_share_right (spSR C) := ok_sr D__law_share_right.F T RF B1 B2 B3 C1 C2 C3 D__law_same D__law_take D__law_pick D__law_worth D__law_refused_by D_divided D_multiplied
  have nd := sc_law.nd
  refine F.ok sc_law (fun vs H Q E h => ?_) (fun cdv A outer s H vs Q E hr h => ?_)
  · obtain ⟨a, ns, rfl, _⟩ := h
    rfl
  · obtain ⟨a, ns, rfl, hS, hlen, q⟩ := h
    refine ⟨_, (pss_cons (ps_for PassesOwn.never rfl (pi_range1 (by rfl) T.b_range (pa_cons (pe_callB (call_max2 rfl) (by rfl) T.b_max (by decide +kernel) (pa_cons (pe_int) (pa_cons (pe_callB (call_min2 rfl) (by rfl) T.b_min (by decide +kernel) (pa_cons (pe_int) (pa_cons (pe_callB (r := rLenQ K) call_len_seq (by rfl) T.b_len (by decide +kernel) (pa_cons (pv 0) pa_nil)) pa_nil))) pa_nil))) pa_nil)) (pg_name (i := 1) nd rfl (Or.inl rfl))
      (pss_cons (ps_set (i := 2) nd rfl (Or.inr rfl) (pe_call G__law_box (hr.mono (by omega)) (by rfl) D__law_box.g D__law_box.F.kp D__law_box.b .nil pass0 (pa_cons (pv 0) (pa_cons (pv 1) pa_nil))))
      (pss_one (ps_for PassesOwn.never rfl (pi_range1 (by rfl) T.b_range (pa_cons (pe_int) pa_nil)) (pg_name (i := 3) nd rfl (Or.inl rfl))
      (pss_cons (ps_set (i := 4) nd rfl (Or.inr rfl) (pe_call G__law_exact (hr.mono (by omega)) (by rfl) D__law_exact.g D__law_exact.F.kp D__law_exact.b .nil pass0 (pa_cons (pv 2) pa_nil)))
      (pss_cons (ps_set (i := 5) nd rfl (Or.inr rfl) (pe_make MK_Roots G_Roots___init__ (hr.mono (by omega)) (by rfl) M_Roots B_Roots___init__ .nil passL (pa_cons (pe_dget (du hr) (pv 4) (pe_str) (fun _ _ => rfl)) pa_nil)))
      (pss_cons (ps_if (pt_not (pt_val (pe_callB (r := rAll K) (cr_all rfl) (by rfl) T.b_all (by decide +kernel) (pa_cons (pe_lc (own := [("_law_length", 6)]) (g := gName 6) (by rfl) nd (pi_range2 (by rfl) T.b_range (pa_cons (pe_int) (pa_cons (pe_int) pa_nil))) (blkOk_by (own := [("_law_length", 6)]) (N := N_law) (sc := defScope s_law) (by decide +kernel)) (fun _ _ _ _ _ => (pg_name (i := 6) nd rfl (Or.inl rfl))) (fun _ _ _ _ _ => pts_nil) (fun _ _ _ _ _ => (pe_call G__law_root_right (hr.mono (by omega)) (by rfl) D__law_root_right.g D__law_root_right.F.kp D__law_root_right.b .nil pass0 (pa_cons (pv 2) (pa_cons (pv 5) (pa_cons (pv 4) (pa_cons (pv 6) pa_nil))))))) pa_nil)))) (pss_one (ps_ret (pe_bl))) pss_nil)
      (pss_one (ps_if (pt_not (pt_val (pe_callB (r := rAll K) (cr_all rfl) (by rfl) T.b_all (by decide +kernel) (pa_cons (pe_lc (own := [("_law_more", 7)]) (g := gName 7) (by rfl) nd (pi_range1 (by rfl) T.b_range (pa_cons (pe_int) pa_nil)) (blkOk_by (own := [("_law_more", 7)]) (N := N_law) (sc := defScope s_law) (by decide +kernel)) (fun _ _ _ _ _ => (pg_name (i := 7) nd rfl (Or.inl rfl))) (fun _ _ _ _ _ => pts_nil) (fun _ _ _ _ _ => (pe_call G__law_share_right (hr.mono (by omega)) (by rfl) D__law_share_right.g D__law_share_right.F.kp D__law_share_right.b .nil pass0 (pa_cons (pv 2) (pa_cons (pv 5) (pa_cons (pv 4) pa_nil)))))) pa_nil)))) (pss_one (ps_ret (pe_bl))) pss_nil)))))))))
      (pss_one (ps_ret (pe_bl)))), ?_⟩
    walk_at "ev"
    have htop : (if (if ((ns.map V.int).length : Int) < 4 then ((ns.map V.int).length : Int) else 4) > 1 then (if ((ns.map V.int).length : Int) < 4 then ((ns.map V.int).length : Int) else 4) else 1 : Int).toNat ≤ 4 := by
      split <;> (try split) <;> omega
    refine for_range (lo := 0) (n := _) (fun i σ H' => Hold (∃ s1 s2 s3 s4 s5, σ = [some (.ref a), s1, s2, s3, s4, s5, none, none] ∧ Same H H')) (.mk ⟨_, _, _, _, _, rfl, Same.refl _⟩) ?_ ?_
    · intro i σ H5 hi hP5
      obtain ⟨s1, s2, s3, s4, s5, rfl, sm5⟩ := hP5.un
      have hi4 : i < 5 := by omega
      have hS5 := sm5.seq hS
      walk_at "ev"
      intro b H6 hb0 sm6 hbx
      walk_at "ev"
      refine for_range (lo := 0) (n := _) (fun j σ H' => Hold (∃ s3 s4 s5, σ = [some (.ref a), some (.int (0 + (i : Int))), some (.ref b), s3, s4, s5, none, none] ∧ Keep b H6 H' ∧ BoxAt H' b (700 * (j : Int)))) (.mk ⟨_, _, _, rfl, Keep.refl _ _, hbx.mono (by omega)⟩) ?_ ?_
      · intro j σ H7 hj hP7
        obtain ⟨s3, s4, s5, rfl, k7, b7⟩ := hP7.un
        have hj3 : j < 3 := hj
        walk_at "ev"
        intro dd ll nn H8 nn1 nn31 hdd hll k8 b8 nlb ndb hd8 hl8
        have hW8 : WorldAt H8 b dd nn := ⟨ll, nlb, ndb, hd8, hl8⟩
        have gby := (dget_w hd8).2.1
        walk_at "ev"
        intro x dx hx0 hd0 ne
        refine ⟨x, dx, _, _, rfl, upd_same, .int _, fun p ep p1 p31 H9 k9 hR9 => ⟨rfl, ?_⟩, fun no => absurd ⟨nn, rfl, nn1, nn31⟩ no⟩
        have epn : p = nn := by
          have := V.int.inj ep
          omega
        subst epn
        have sm9 := keep_mk hx0 hd0 k9
        have b9 := b8.same sm9
        have hW9 := hW8.same sm9
        walk_at "ev"
        intro D hD
        have nDb := b9.ne hD
        refine lc_range (lo := 1) (n := _) (fun e H' => Hold (Keep b H9 H' ∧ BoxAt H' b (700 * (j : Int) + 2 + 3 * (e : Int)) ∧ H' D = some (.lst ((List.replicate e true).map V.bl)))) (.mk ⟨keepS (same_new hD), (b9.upd nDb).mono (by omega), upd_same⟩) ?_ ?_
        · intro e H10 he hP10
          obtain ⟨k10, b10, hD10⟩ := hP10.un
          have he31 : e < 31 := he
          have hR10 := hR9.keep b9 k10
          have hW10 := hW9.keep k10
          have eL : (1 : Int) + (e : Int) = ((1 + e : Nat) : Int) := by omega
          rw [eL]
          walk_at "ev"
          intro H11 k11 b11
          have hD11 := k11 _ _ nDb hD10
          refine ⟨_, hD11, szm (by rw [List.length_map, List.length_replicate]; omega), .mk ⟨keep_fresh (k10.trans k11) hD, (b11.upd nDb).mono (by omega), ?_⟩⟩
          rw [upd_same, List.replicate_succ', List.map_append]
          rfl
        intro H10 hP10
        obtain ⟨k10, b10, hD10⟩ := hP10.un
        refine ⟨D, _, rfl, SqL.of hD10, ?_⟩
        rw [all_true]
        have b10' : BoxAt H10 b (700 * (j : Int) + 95) := b10.mono (by show 700 * (j : Int) + 2 + 3 * ((31 : Nat) : Int) ≤ _; omega)
        walk_at "ev"
        intro D2 hD2
        have nD2b := b10.ne hD2
        have hR10 := hR9.keep b9 k10
        have hW10 := hW9.keep k10
        refine lc_range (lo := 0) (n := _) (fun e H' => Hold (Keep b H10 H' ∧ BoxAt H' b (700 * (j : Int) + 95 + 91 * (e : Int)) ∧ H' D2 = some (.lst ((List.replicate e true).map V.bl)))) (.mk ⟨keepS (same_new hD2), (b10'.upd nD2b).mono (by omega), upd_same⟩) ?_ ?_
        · intro e H11 he hP11
          obtain ⟨k11, b11, hD11⟩ := hP11.un
          have he6 : e < 6 := he
          have hR11 := hR10.keep b10 k11
          have hW11 := hW10.keep k11
          walk_at "ev"
          intro H12 k12 b12
          have hD12 := k12 _ _ nD2b hD11
          refine ⟨_, hD12, szm (by rw [List.length_map, List.length_replicate]; omega), .mk ⟨keep_fresh (k11.trans k12) hD2, (b12.upd nD2b).mono (by omega), ?_⟩⟩
          rw [upd_same, List.replicate_succ', List.map_append]
          rfl
        intro H11 hP11
        obtain ⟨k11, b11, hD11⟩ := hP11.un
        refine ⟨D2, _, rfl, SqL.of hD11, ?_⟩
        rw [all_true]
        walk_at "ev"
        exact .mk ⟨_, _, _, rfl, k7.trans (k8.trans ((keepS sm9).trans (k10.trans k11))), b11.mono (by show 700 * (j : Int) + 95 + 91 * ((6 : Nat) : Int) ≤ _; omega)⟩
      · intro σ H7 hP7
        obtain ⟨s3, s4, s5, rfl, k7, b7⟩ := hP7.un
        exact .mk ⟨_, _, _, _, _, rfl, sm5.trans (keep_same sm6 hb0 k7)⟩
    · intro σ H5 hP5
      obtain ⟨s1, s2, s3, s4, s5, rfl, sm5⟩ := hP5.un
      walk_at "ev"
      exact q _
end
theorem all_mk {l : PySem.W.OpenLaw} {w : World} {K : PySem.W.Frag} {h : Heap} {mg : Str → Option Value} {fa : Addr} (X : K.In h) (G : h.Ns mainGlobals mg) (hfa : mg "law" = some (.ref fa))
    {od0 an0 : Option Addr} {sl0 : Array (Option Value)} {oc0 kV0 dc0 pm0 cd0 ct0 : Value} {f0 : Addr}
    {od1 an1 : Option Addr} {sl1 : Array (Option Value)} {oc1 kV1 dc1 pm1 cd1 ct1 : Value} {f1 : Addr}
    {od2 an2 : Option Addr} {sl2 : Array (Option Value)} {oc2 kV2 dc2 pm2 cd2 ct2 : Value} {f2 : Addr}
    {od3 an3 : Option Addr} {sl3 : Array (Option Value)} {oc3 kV3 dc3 pm3 cd3 ct3 : Value} {f3 : Addr}
    {od4 an4 : Option Addr} {sl4 : Array (Option Value)} {oc4 kV4 dc4 pm4 cd4 ct4 : Value} {f4 : Addr}
    {od5 an5 : Option Addr} {sl5 : Array (Option Value)} {oc5 kV5 dc5 pm5 cd5 ct5 : Value} {f5 : Addr}
    {od6 an6 : Option Addr} {sl6 : Array (Option Value)} {oc6 kV6 dc6 pm6 cd6 ct6 : Value} {f6 : Addr}
    {od7 an7 : Option Addr} {sl7 : Array (Option Value)} {oc7 kV7 dc7 pm7 cd7 ct7 : Value} {f7 : Addr}
    {od8 an8 : Option Addr} {sl8 : Array (Option Value)} {oc8 kV8 dc8 pm8 cd8 ct8 : Value} {f8 : Addr}
    {od9 an9 : Option Addr} {sl9 : Array (Option Value)} {oc9 kV9 dc9 pm9 cd9 ct9 : Value} {f9 : Addr}
    {od10 an10 : Option Addr} {sl10 : Array (Option Value)} {oc10 kV10 dc10 pm10 cd10 ct10 : Value} {f10 : Addr}
    {od11 an11 : Option Addr} {sl11 : Array (Option Value)} {oc11 kV11 dc11 pm11 cd11 ct11 : Value} {f11 : Addr}
    {od12 an12 : Option Addr} {sl12 : Array (Option Value)} {oc12 kV12 dc12 pm12 cd12 ct12 : Value} {f12 : Addr}
    {od13 an13 : Option Addr} {sl13 : Array (Option Value)} {oc13 kV13 dc13 pm13 cd13 ct13 : Value} {f13 : Addr}
    {od14 an14 : Option Addr} {sl14 : Array (Option Value)} {oc14 kV14 dc14 pm14 cd14 ct14 : Value} {f14 : Addr}
    {od15 an15 : Option Addr} {sl15 : Array (Option Value)} {oc15 kV15 dc15 pm15 cd15 ct15 : Value} {f15 : Addr}
    {od16 an16 : Option Addr} {sl16 : Array (Option Value)} {oc16 kV16 dc16 pm16 cd16 ct16 : Value} {f16 : Addr}
    {od17 an17 : Option Addr} {sl17 : Array (Option Value)} {oc17 kV17 dc17 pm17 cd17 ct17 : Value} {f17 : Addr}
    {fI : Addr} {odI anI : Option Addr} {slI : Array (Option Value)} {ocI kVI dcI pmI cdI ctI : Value}
    {C_TurnError : Addr}
    {C_BadGround : Addr}
    {C_NoRoot : Addr}
    {C_NoShare : Addr}
    {C_Roots : Addr}
    {nm_BadGround q_BadGround : Str} {N_BadGround : Addr} {bs_BadGround : List Value} {sn_BadGround : List Str} {sb_BadGround : List Value} {ab_BadGround : Bool} {co_BadGround : Option Bool} {dd_BadGround : Option Addr} {m0_BadGround m1_BadGround m2_BadGround m3_BadGround m5_BadGround : Option Value}
    {nm_NoRoot q_NoRoot : Str} {N_NoRoot : Addr} {bs_NoRoot : List Value} {sn_NoRoot : List Str} {sb_NoRoot : List Value} {ab_NoRoot : Bool} {co_NoRoot : Option Bool} {dd_NoRoot : Option Addr} {m0_NoRoot m1_NoRoot m2_NoRoot m3_NoRoot m5_NoRoot : Option Value}
    {nm_NoShare q_NoShare : Str} {N_NoShare : Addr} {bs_NoShare : List Value} {sn_NoShare : List Str} {sb_NoShare : List Value} {ab_NoShare : Bool} {co_NoShare : Option Bool} {dd_NoShare : Option Addr} {m0_NoShare m1_NoShare m2_NoShare m3_NoShare m5_NoShare : Option Value}
    {t_MOST_ORDER : Tok}
    {od_Roots___init__ an_Roots___init__ : Option Addr} {sl_Roots___init__ : Array (Option Value)} {oc_Roots___init__ kV_Roots___init__ dc_Roots___init__ pm_Roots___init__ cd_Roots___init__ ct_Roots___init__ : Value} {f_Roots___init__ : Addr}
    {od_Roots_has_root an_Roots_has_root : Option Addr} {sl_Roots_has_root : Array (Option Value)} {oc_Roots_has_root kV_Roots_has_root dc_Roots_has_root pm_Roots_has_root cd_Roots_has_root ct_Roots_has_root : Value} {f_Roots_has_root : Addr}
    {od_Roots_root_at an_Roots_root_at : Option Addr} {sl_Roots_root_at : Array (Option Value)} {oc_Roots_root_at kV_Roots_root_at dc_Roots_root_at pm_Roots_root_at cd_Roots_root_at ct_Roots_root_at : Value} {f_Roots_root_at : Addr}
    {od_Roots_shared_by an_Roots_shared_by : Option Addr} {sl_Roots_shared_by : Array (Option Value)} {oc_Roots_shared_by kV_Roots_shared_by dc_Roots_shared_by pm_Roots_shared_by cd_Roots_shared_by ct_Roots_shared_by : Value} {f_Roots_shared_by : Addr}
    {od_Roots_sum_of an_Roots_sum_of : Option Addr} {sl_Roots_sum_of : Array (Option Value)} {oc_Roots_sum_of kV_Roots_sum_of dc_Roots_sum_of pm_Roots_sum_of cd_Roots_sum_of ct_Roots_sum_of : Value} {f_Roots_sum_of : Addr}
    {od_Roots_product_of an_Roots_product_of : Option Addr} {sl_Roots_product_of : Array (Option Value)} {oc_Roots_product_of kV_Roots_product_of dc_Roots_product_of pm_Roots_product_of cd_Roots_product_of ct_Roots_product_of : Value} {f_Roots_product_of : Addr}
    {od_Roots_worth_of an_Roots_worth_of : Option Addr} {sl_Roots_worth_of : Array (Option Value)} {oc_Roots_worth_of kV_Roots_worth_of dc_Roots_worth_of pm_Roots_worth_of cd_Roots_worth_of ct_Roots_worth_of : Value} {f_Roots_worth_of : Addr}
    (g_TurnError : PySem.W.nsIn K mainGlobals "TurnError" = some (some (.ref C_TurnError)))
    (g_BadGround : PySem.W.nsIn K mainGlobals "BadGround" = some (some (.ref C_BadGround)))
    (g_NoRoot : PySem.W.nsIn K mainGlobals "NoRoot" = some (some (.ref C_NoRoot)))
    (g_NoShare : PySem.W.nsIn K mainGlobals "NoShare" = some (some (.ref C_NoShare)))
    (g_Roots : PySem.W.nsIn K mainGlobals "Roots" = some (some (.ref C_Roots)))
    (on : PySem.W.specialIn K (.builtin "object.__class__") "__get__" = some (some (.builtin "getset_descriptor.__get__")))
    (ot : PySem.W.takesIn K (.builtin "object.__class__") = some true)
    (eT : PySem.W.subIn K (.ref C_TurnError) (.type "BaseException") = some true)
    (hT : PySem.W.hasDictIn K C_TurnError = true)
    (tT : PySem.W.typeIn K (.ref C_TurnError) = some (.type "type"))
    (xL_BadGround : K.lookup C_BadGround = some (excClassObj nm_BadGround q_BadGround C_BadGround N_BadGround bs_BadGround [.ref C_TurnError, .type "ValueError", .type "Exception", .type "BaseException", .type "object"] true sn_BadGround sb_BadGround ab_BadGround co_BadGround dd_BadGround m0_BadGround m1_BadGround m2_BadGround m3_BadGround m5_BadGround "ValueError.__new__"))
    (sa_BadGround : PySem.W.findIn K (.ref C_BadGround) "__setattr__" = some (some (.builtin "object.__setattr__")))
    (ga_BadGround : PySem.W.findIn K (.ref C_BadGround) "__getattribute__" = some (some (.builtin "BaseException.__getattribute__")))
    (gg_BadGround : PySem.W.findIn K (.ref C_BadGround) "__getattr__" = some none)
    (nw_BadGround : PySem.W.findIn K (.ref C_BadGround) "what" = some none)
    (ii_BadGround : PySem.W.findIn K (.ref C_BadGround) "__init__" = some (some (.ref fI)))
    (oc_BadGround : PySem.W.findIn K (.ref C_BadGround) "__class__" = some (some (.builtin "object.__class__")))
    (kC_BadGround : PySem.W.keepIn K (.ref C_BadGround) = true)
    (eC_BadGround : PySem.W.subIn K (.ref C_BadGround) (.type "BaseException") = some true)
    (tC_BadGround : PySem.W.typeIn K (.ref C_BadGround) = some (.type "type"))
    (hC_BadGround : PySem.W.hasDictIn K C_BadGround = true)
    (mo_BadGround : PySem.W.mroIn K C_BadGround (.type "object") = some true)
    (su_BadGround : PySem.W.subIn K (.ref C_BadGround) (.ref C_TurnError) = some true)
    (kv_BadGround : PySem.W.kitOne K (.ref C_BadGround) (.type "ValueError") = some true)
    (kt_BadGround : PySem.W.kitOne K (.ref C_BadGround) (.ref C_TurnError) = some true)
    (xL_NoRoot : K.lookup C_NoRoot = some (excClassObj nm_NoRoot q_NoRoot C_NoRoot N_NoRoot bs_NoRoot [.ref C_TurnError, .type "ValueError", .type "Exception", .type "BaseException", .type "object"] true sn_NoRoot sb_NoRoot ab_NoRoot co_NoRoot dd_NoRoot m0_NoRoot m1_NoRoot m2_NoRoot m3_NoRoot m5_NoRoot "ValueError.__new__"))
    (sa_NoRoot : PySem.W.findIn K (.ref C_NoRoot) "__setattr__" = some (some (.builtin "object.__setattr__")))
    (ga_NoRoot : PySem.W.findIn K (.ref C_NoRoot) "__getattribute__" = some (some (.builtin "BaseException.__getattribute__")))
    (gg_NoRoot : PySem.W.findIn K (.ref C_NoRoot) "__getattr__" = some none)
    (nw_NoRoot : PySem.W.findIn K (.ref C_NoRoot) "what" = some none)
    (ii_NoRoot : PySem.W.findIn K (.ref C_NoRoot) "__init__" = some (some (.ref fI)))
    (oc_NoRoot : PySem.W.findIn K (.ref C_NoRoot) "__class__" = some (some (.builtin "object.__class__")))
    (kC_NoRoot : PySem.W.keepIn K (.ref C_NoRoot) = true)
    (eC_NoRoot : PySem.W.subIn K (.ref C_NoRoot) (.type "BaseException") = some true)
    (tC_NoRoot : PySem.W.typeIn K (.ref C_NoRoot) = some (.type "type"))
    (hC_NoRoot : PySem.W.hasDictIn K C_NoRoot = true)
    (mo_NoRoot : PySem.W.mroIn K C_NoRoot (.type "object") = some true)
    (su_NoRoot : PySem.W.subIn K (.ref C_NoRoot) (.ref C_TurnError) = some true)
    (kv_NoRoot : PySem.W.kitOne K (.ref C_NoRoot) (.type "ValueError") = some true)
    (kt_NoRoot : PySem.W.kitOne K (.ref C_NoRoot) (.ref C_TurnError) = some true)
    (xL_NoShare : K.lookup C_NoShare = some (excClassObj nm_NoShare q_NoShare C_NoShare N_NoShare bs_NoShare [.ref C_TurnError, .type "ValueError", .type "Exception", .type "BaseException", .type "object"] true sn_NoShare sb_NoShare ab_NoShare co_NoShare dd_NoShare m0_NoShare m1_NoShare m2_NoShare m3_NoShare m5_NoShare "ValueError.__new__"))
    (sa_NoShare : PySem.W.findIn K (.ref C_NoShare) "__setattr__" = some (some (.builtin "object.__setattr__")))
    (ga_NoShare : PySem.W.findIn K (.ref C_NoShare) "__getattribute__" = some (some (.builtin "BaseException.__getattribute__")))
    (gg_NoShare : PySem.W.findIn K (.ref C_NoShare) "__getattr__" = some none)
    (nw_NoShare : PySem.W.findIn K (.ref C_NoShare) "what" = some none)
    (ii_NoShare : PySem.W.findIn K (.ref C_NoShare) "__init__" = some (some (.ref fI)))
    (oc_NoShare : PySem.W.findIn K (.ref C_NoShare) "__class__" = some (some (.builtin "object.__class__")))
    (kC_NoShare : PySem.W.keepIn K (.ref C_NoShare) = true)
    (eC_NoShare : PySem.W.subIn K (.ref C_NoShare) (.type "BaseException") = some true)
    (tC_NoShare : PySem.W.typeIn K (.ref C_NoShare) = some (.type "type"))
    (hC_NoShare : PySem.W.hasDictIn K C_NoShare = true)
    (mo_NoShare : PySem.W.mroIn K C_NoShare (.type "object") = some true)
    (su_NoShare : PySem.W.subIn K (.ref C_NoShare) (.ref C_TurnError) = some true)
    (kv_NoShare : PySem.W.kitOne K (.ref C_NoShare) (.type "ValueError") = some true)
    (kt_NoShare : PySem.W.kitOne K (.ref C_NoShare) (.ref C_TurnError) = some true)
    (lI : K.lookup fI = some ⟨ocI, odI, .func (PySem.W.fnOf "__init__" "TurnError.__init__" (defArgs s_init) (defBody s_init) (defScope s_init) .none kVI dcI pmI anI cdI ctI), slI⟩)
    (cI : PySem.W.codeIn K cdI "TurnError.__init__" = true)
    (kI : PySem.W.keepIn K (.ref fI) = true)
    (tI : PySem.W.typeIn K (.ref fI) = some (.type "function"))
    (g_MOST_ORDER : PySem.W.nsIn K mainGlobals "MOST_ORDER" = some (some (.int 30 t_MOST_ORDER)))
    (pg_Roots : PySem.W.plainGet K C_Roots Str.empty = true)
    (hd_Roots : PySem.W.hasDictIn K C_Roots = true)
    (po_Roots : PySem.W.plainOver K C_Roots = true)
    (sa_Roots : PySem.W.findIn K (.ref C_Roots) "__setattr__" = some (some (.builtin "object.__setattr__")))
    (mk_Roots : PySem.W.makesIn K C_Roots = true)
    (kc_Roots : PySem.W.keepIn K (.ref C_Roots) = true)
    (nf_Roots_order : PySem.W.findIn K (.ref C_Roots) "order" = some none)
    (nf_Roots_rim : PySem.W.findIn K (.ref C_Roots) "rim" = some none)
    (at_Roots___init__ : PySem.W.findIn K (.ref C_Roots) "__init__" = some (some (.ref f_Roots___init__)))
    (lk_Roots___init__ : K.lookup f_Roots___init__ = some ⟨oc_Roots___init__, od_Roots___init__, .func (PySem.W.fnOf "__init__" "Roots.__init__" (defArgs s_Roots___init__) (defBody s_Roots___init__) (defScope s_Roots___init__) .none kV_Roots___init__ dc_Roots___init__ pm_Roots___init__ an_Roots___init__ cd_Roots___init__ ct_Roots___init__), sl_Roots___init__⟩)
    (cn_Roots___init__ : PySem.W.codeIn K cd_Roots___init__ "Roots.__init__" = true)
    (kp_Roots___init__ : PySem.W.keepIn K (.ref f_Roots___init__) = true)
    (fn_Roots___init__ : PySem.W.isFn K (.ref f_Roots___init__) = true)
    (at_Roots_has_root : PySem.W.findIn K (.ref C_Roots) "has_root" = some (some (.ref f_Roots_has_root)))
    (lk_Roots_has_root : K.lookup f_Roots_has_root = some ⟨oc_Roots_has_root, od_Roots_has_root, .func (PySem.W.fnOf "has_root" "Roots.has_root" (defArgs s_Roots_has_root) (defBody s_Roots_has_root) (defScope s_Roots_has_root) .none kV_Roots_has_root dc_Roots_has_root pm_Roots_has_root an_Roots_has_root cd_Roots_has_root ct_Roots_has_root), sl_Roots_has_root⟩)
    (cn_Roots_has_root : PySem.W.codeIn K cd_Roots_has_root "Roots.has_root" = true)
    (kp_Roots_has_root : PySem.W.keepIn K (.ref f_Roots_has_root) = true)
    (fn_Roots_has_root : PySem.W.isFn K (.ref f_Roots_has_root) = true)
    (at_Roots_root_at : PySem.W.findIn K (.ref C_Roots) "root_at" = some (some (.ref f_Roots_root_at)))
    (lk_Roots_root_at : K.lookup f_Roots_root_at = some ⟨oc_Roots_root_at, od_Roots_root_at, .func (PySem.W.fnOf "root_at" "Roots.root_at" (defArgs s_Roots_root_at) (defBody s_Roots_root_at) (defScope s_Roots_root_at) .none kV_Roots_root_at dc_Roots_root_at pm_Roots_root_at an_Roots_root_at cd_Roots_root_at ct_Roots_root_at), sl_Roots_root_at⟩)
    (cn_Roots_root_at : PySem.W.codeIn K cd_Roots_root_at "Roots.root_at" = true)
    (kp_Roots_root_at : PySem.W.keepIn K (.ref f_Roots_root_at) = true)
    (fn_Roots_root_at : PySem.W.isFn K (.ref f_Roots_root_at) = true)
    (at_Roots_shared_by : PySem.W.findIn K (.ref C_Roots) "shared_by" = some (some (.ref f_Roots_shared_by)))
    (lk_Roots_shared_by : K.lookup f_Roots_shared_by = some ⟨oc_Roots_shared_by, od_Roots_shared_by, .func (PySem.W.fnOf "shared_by" "Roots.shared_by" (defArgs s_Roots_shared_by) (defBody s_Roots_shared_by) (defScope s_Roots_shared_by) .none kV_Roots_shared_by dc_Roots_shared_by pm_Roots_shared_by an_Roots_shared_by cd_Roots_shared_by ct_Roots_shared_by), sl_Roots_shared_by⟩)
    (cn_Roots_shared_by : PySem.W.codeIn K cd_Roots_shared_by "Roots.shared_by" = true)
    (kp_Roots_shared_by : PySem.W.keepIn K (.ref f_Roots_shared_by) = true)
    (fn_Roots_shared_by : PySem.W.isFn K (.ref f_Roots_shared_by) = true)
    (at_Roots_sum_of : PySem.W.findIn K (.ref C_Roots) "sum_of" = some (some (.ref f_Roots_sum_of)))
    (lk_Roots_sum_of : K.lookup f_Roots_sum_of = some ⟨oc_Roots_sum_of, od_Roots_sum_of, .func (PySem.W.fnOf "sum_of" "Roots.sum_of" (defArgs s_Roots_sum_of) (defBody s_Roots_sum_of) (defScope s_Roots_sum_of) .none kV_Roots_sum_of dc_Roots_sum_of pm_Roots_sum_of an_Roots_sum_of cd_Roots_sum_of ct_Roots_sum_of), sl_Roots_sum_of⟩)
    (cn_Roots_sum_of : PySem.W.codeIn K cd_Roots_sum_of "Roots.sum_of" = true)
    (kp_Roots_sum_of : PySem.W.keepIn K (.ref f_Roots_sum_of) = true)
    (fn_Roots_sum_of : PySem.W.isFn K (.ref f_Roots_sum_of) = true)
    (at_Roots_product_of : PySem.W.findIn K (.ref C_Roots) "product_of" = some (some (.ref f_Roots_product_of)))
    (lk_Roots_product_of : K.lookup f_Roots_product_of = some ⟨oc_Roots_product_of, od_Roots_product_of, .func (PySem.W.fnOf "product_of" "Roots.product_of" (defArgs s_Roots_product_of) (defBody s_Roots_product_of) (defScope s_Roots_product_of) .none kV_Roots_product_of dc_Roots_product_of pm_Roots_product_of an_Roots_product_of cd_Roots_product_of ct_Roots_product_of), sl_Roots_product_of⟩)
    (cn_Roots_product_of : PySem.W.codeIn K cd_Roots_product_of "Roots.product_of" = true)
    (kp_Roots_product_of : PySem.W.keepIn K (.ref f_Roots_product_of) = true)
    (fn_Roots_product_of : PySem.W.isFn K (.ref f_Roots_product_of) = true)
    (at_Roots_worth_of : PySem.W.findIn K (.ref C_Roots) "worth_of" = some (some (.ref f_Roots_worth_of)))
    (lk_Roots_worth_of : K.lookup f_Roots_worth_of = some ⟨oc_Roots_worth_of, od_Roots_worth_of, .func (PySem.W.fnOf "worth_of" "Roots.worth_of" (defArgs s_Roots_worth_of) (defBody s_Roots_worth_of) (defScope s_Roots_worth_of) .none kV_Roots_worth_of dc_Roots_worth_of pm_Roots_worth_of an_Roots_worth_of cd_Roots_worth_of ct_Roots_worth_of), sl_Roots_worth_of⟩)
    (cn_Roots_worth_of : PySem.W.codeIn K cd_Roots_worth_of "Roots.worth_of" = true)
    (kp_Roots_worth_of : PySem.W.keepIn K (.ref f_Roots_worth_of) = true)
    (fn_Roots_worth_of : PySem.W.isFn K (.ref f_Roots_worth_of) = true)
    (fk1 : PySem.W.kitOne K (.ref C_NoRoot) (.ref C_NoRoot) = some true)
    (fk2 : PySem.W.kitOne K (.ref C_NoRoot) (.ref C_NoShare) = some false)
    (fk3 : PySem.W.kitOne K (.ref C_NoShare) (.ref C_NoRoot) = some false)
    (fk4 : PySem.W.kitOne K (.ref C_NoShare) (.ref C_NoShare) = some true)
    (a0 : PySem.W.nsIn K mainGlobals "is_whole" = some (some (.ref f0))) (l0 : K.lookup f0 = some ⟨oc0, od0, .func (PySem.W.fnOf "is_whole" "is_whole" (defArgs s_is_whole) (defBody s_is_whole) (defScope s_is_whole) .none kV0 dc0 pm0 an0 cd0 ct0), sl0⟩) (c0 : PySem.W.codeIn K cd0 "is_whole" = true) (k0 : PySem.W.keepIn K (.ref f0) = true)
    (a1 : PySem.W.nsIn K mainGlobals "divisors" = some (some (.ref f1))) (l1 : K.lookup f1 = some ⟨oc1, od1, .func (PySem.W.fnOf "divisors" "divisors" (defArgs s_divisors) (defBody s_divisors) (defScope s_divisors) .none kV1 dc1 pm1 an1 cd1 ct1), sl1⟩) (c1 : PySem.W.codeIn K cd1 "divisors" = true) (k1 : PySem.W.keepIn K (.ref f1) = true)
    (a2 : PySem.W.nsIn K mainGlobals "divided" = some (some (.ref f2))) (l2 : K.lookup f2 = some ⟨oc2, od2, .func (PySem.W.fnOf "divided" "divided" (defArgs s_divided) (defBody s_divided) (defScope s_divided) .none kV2 dc2 pm2 an2 cd2 ct2), sl2⟩) (c2 : PySem.W.codeIn K cd2 "divided" = true) (k2 : PySem.W.keepIn K (.ref f2) = true)
    (a3 : PySem.W.nsIn K mainGlobals "multiplied" = some (some (.ref f3))) (l3 : K.lookup f3 = some ⟨oc3, od3, .func (PySem.W.fnOf "multiplied" "multiplied" (defArgs s_multiplied) (defBody s_multiplied) (defScope s_multiplied) .none kV3 dc3 pm3 an3 cd3 ct3), sl3⟩) (c3 : PySem.W.codeIn K cd3 "multiplied" = true) (k3 : PySem.W.keepIn K (.ref f3) = true)
    (a4 : PySem.W.nsIn K mainGlobals "wheel" = some (some (.ref f4))) (l4 : K.lookup f4 = some ⟨oc4, od4, .func (PySem.W.fnOf "wheel" "wheel" (defArgs s_wheel) (defBody s_wheel) (defScope s_wheel) .none kV4 dc4 pm4 an4 cd4 ct4), sl4⟩) (c4 : PySem.W.codeIn K cd4 "wheel" = true) (k4 : PySem.W.keepIn K (.ref f4) = true)
    (a5 : PySem.W.nsIn K mainGlobals "_law_box" = some (some (.ref f5))) (l5 : K.lookup f5 = some ⟨oc5, od5, .func (PySem.W.fnOf "_law_box" "_law_box" (defArgs s__law_box) (defBody s__law_box) (defScope s__law_box) .none kV5 dc5 pm5 an5 cd5 ct5), sl5⟩) (c5 : PySem.W.codeIn K cd5 "_law_box" = true) (k5 : PySem.W.keepIn K (.ref f5) = true)
    (a6 : PySem.W.nsIn K mainGlobals "_law_take" = some (some (.ref f6))) (l6 : K.lookup f6 = some ⟨oc6, od6, .func (PySem.W.fnOf "_law_take" "_law_take" (defArgs s__law_take) (defBody s__law_take) (defScope s__law_take) .none kV6 dc6 pm6 an6 cd6 ct6), sl6⟩) (c6 : PySem.W.codeIn K cd6 "_law_take" = true) (k6 : PySem.W.keepIn K (.ref f6) = true)
    (a7 : PySem.W.nsIn K mainGlobals "_law_pick" = some (some (.ref f7))) (l7 : K.lookup f7 = some ⟨oc7, od7, .func (PySem.W.fnOf "_law_pick" "_law_pick" (defArgs s__law_pick) (defBody s__law_pick) (defScope s__law_pick) .none kV7 dc7 pm7 an7 cd7 ct7), sl7⟩) (c7 : PySem.W.codeIn K cd7 "_law_pick" = true) (k7 : PySem.W.keepIn K (.ref f7) = true)
    (a8 : PySem.W.nsIn K mainGlobals "_law_same" = some (some (.ref f8))) (l8 : K.lookup f8 = some ⟨oc8, od8, .func (PySem.W.fnOf "_law_same" "_law_same" (defArgs s__law_same) (defBody s__law_same) (defScope s__law_same) .none kV8 dc8 pm8 an8 cd8 ct8), sl8⟩) (c8 : PySem.W.codeIn K cd8 "_law_same" = true) (k8 : PySem.W.keepIn K (.ref f8) = true)
    (a9 : PySem.W.nsIn K mainGlobals "_law_divided" = some (some (.ref f9))) (l9 : K.lookup f9 = some ⟨oc9, od9, .func (PySem.W.fnOf "_law_divided" "_law_divided" (defArgs s__law_divided) (defBody s__law_divided) (defScope s__law_divided) .none kV9 dc9 pm9 an9 cd9 ct9), sl9⟩) (c9 : PySem.W.codeIn K cd9 "_law_divided" = true) (k9 : PySem.W.keepIn K (.ref f9) = true)
    (a10 : PySem.W.nsIn K mainGlobals "_law_own_wheel" = some (some (.ref f10))) (l10 : K.lookup f10 = some ⟨oc10, od10, .func (PySem.W.fnOf "_law_own_wheel" "_law_own_wheel" (defArgs s__law_own_wheel) (defBody s__law_own_wheel) (defScope s__law_own_wheel) .none kV10 dc10 pm10 an10 cd10 ct10), sl10⟩) (c10 : PySem.W.codeIn K cd10 "_law_own_wheel" = true) (k10 : PySem.W.keepIn K (.ref f10) = true)
    (a11 : PySem.W.nsIn K mainGlobals "_law_rest_by" = some (some (.ref f11))) (l11 : K.lookup f11 = some ⟨oc11, od11, .func (PySem.W.fnOf "_law_rest_by" "_law_rest_by" (defArgs s__law_rest_by) (defBody s__law_rest_by) (defScope s__law_rest_by) .none kV11 dc11 pm11 an11 cd11 ct11), sl11⟩) (c11 : PySem.W.codeIn K cd11 "_law_rest_by" = true) (k11 : PySem.W.keepIn K (.ref f11) = true)
    (a12 : PySem.W.nsIn K mainGlobals "_law_worth" = some (some (.ref f12))) (l12 : K.lookup f12 = some ⟨oc12, od12, .func (PySem.W.fnOf "_law_worth" "_law_worth" (defArgs s__law_worth) (defBody s__law_worth) (defScope s__law_worth) .none kV12 dc12 pm12 an12 cd12 ct12), sl12⟩) (c12 : PySem.W.codeIn K cd12 "_law_worth" = true) (k12 : PySem.W.keepIn K (.ref f12) = true)
    (a13 : PySem.W.nsIn K mainGlobals "_law_exact" = some (some (.ref f13))) (l13 : K.lookup f13 = some ⟨oc13, od13, .func (PySem.W.fnOf "_law_exact" "_law_exact" (defArgs s__law_exact) (defBody s__law_exact) (defScope s__law_exact) .none kV13 dc13 pm13 an13 cd13 ct13), sl13⟩) (c13 : PySem.W.codeIn K cd13 "_law_exact" = true) (k13 : PySem.W.keepIn K (.ref f13) = true)
    (a14 : PySem.W.nsIn K mainGlobals "_law_refused_by" = some (some (.ref f14))) (l14 : K.lookup f14 = some ⟨oc14, od14, .func (PySem.W.fnOf "_law_refused_by" "_law_refused_by" (defArgs s__law_refused_by) (defBody s__law_refused_by) (defScope s__law_refused_by) .none kV14 dc14 pm14 an14 cd14 ct14), sl14⟩) (c14 : PySem.W.codeIn K cd14 "_law_refused_by" = true) (k14 : PySem.W.keepIn K (.ref f14) = true)
    (a15 : PySem.W.nsIn K mainGlobals "_law_root_right" = some (some (.ref f15))) (l15 : K.lookup f15 = some ⟨oc15, od15, .func (PySem.W.fnOf "_law_root_right" "_law_root_right" (defArgs s__law_root_right) (defBody s__law_root_right) (defScope s__law_root_right) .none kV15 dc15 pm15 an15 cd15 ct15), sl15⟩) (c15 : PySem.W.codeIn K cd15 "_law_root_right" = true) (k15 : PySem.W.keepIn K (.ref f15) = true)
    (a16 : PySem.W.nsIn K mainGlobals "_law_share_right" = some (some (.ref f16))) (l16 : K.lookup f16 = some ⟨oc16, od16, .func (PySem.W.fnOf "_law_share_right" "_law_share_right" (defArgs s__law_share_right) (defBody s__law_share_right) (defScope s__law_share_right) .none kV16 dc16 pm16 an16 cd16 ct16), sl16⟩) (c16 : PySem.W.codeIn K cd16 "_law_share_right" = true) (k16 : PySem.W.keepIn K (.ref f16) = true)
    (a17 : PySem.W.nsIn K mainGlobals "law" = some (some (.ref f17))) (l17 : K.lookup f17 = some ⟨oc17, od17, .func (PySem.W.fnOf "law" "law" (defArgs s_law) (defBody s_law) (defScope s_law) .none kV17 dc17 pm17 an17 cd17 ct17), sl17⟩) (c17 : PySem.W.codeIn K cd17 "law" = true) (k17 : PySem.W.keepIn K (.ref f17) = true)
    (z0 : PySem.W.nsIn K mainGlobals "ValueError" = some none) (z1 : PySem.W.nsIn K mainGlobals "abs" = some none) (z2 : PySem.W.nsIn K mainGlobals "all" = some none) (z3 : PySem.W.nsIn K mainGlobals "any" = some none) (z4 : PySem.W.nsIn K mainGlobals "bool" = some none) (z5 : PySem.W.nsIn K mainGlobals "enumerate" = some none) (z6 : PySem.W.nsIn K mainGlobals "int" = some none) (z7 : PySem.W.nsIn K mainGlobals "isinstance" = some none) (z8 : PySem.W.nsIn K mainGlobals "len" = some none) (z9 : PySem.W.nsIn K mainGlobals "list" = some none) (z10 : PySem.W.nsIn K mainGlobals "max" = some none) (z11 : PySem.W.nsIn K mainGlobals "min" = some none) (z12 : PySem.W.nsIn K mainGlobals "range" = some none) (z13 : PySem.W.nsIn K mainGlobals "str" = some none) (z14 : PySem.W.nsIn K mainGlobals "tuple" = some none) (z15 : PySem.W.nsIn K mainGlobals "zip" = some none) :
    ∃ fd : FuncData, (∀ (s : Shared) (v : Value), BindsTo s fd ⟨[v], []⟩ [("_law_script", v)]) ∧ ∀ base : Heap, K.In base → base.Ns mainGlobals mg → FnOk l.prog w K mg base CX0 9 fa fd ["_law_script"] (spLaw K) := by
  have e := hfa.symm.trans (PySem.W.mg_of X G a17)
  cases e
  have T : Blt mg := ⟨PySem.W.mg_none_of X G z0, PySem.W.mg_none_of X G z1, PySem.W.mg_none_of X G z2, PySem.W.mg_none_of X G z3, PySem.W.mg_none_of X G z4, PySem.W.mg_none_of X G z5, PySem.W.mg_none_of X G z6, PySem.W.mg_none_of X G z7, PySem.W.mg_none_of X G z8, PySem.W.mg_none_of X G z9, PySem.W.mg_none_of X G z10, PySem.W.mg_none_of X G z11, PySem.W.mg_none_of X G z12, PySem.W.mg_none_of X G z13, PySem.W.mg_none_of X G z14, PySem.W.mg_none_of X G z15⟩
  have F0 := fun_mk (st := s_is_whole) l0 c0 k0
  have b0 := F0.binds (ps := P_is_whole) fun _ _ _ _ _ _ us hl => match us, hl with | [_], _ => rfl
  have F1 := fun_mk (st := s_divisors) l1 c1 k1
  have b1 := F1.binds (ps := P_divisors) fun _ _ _ _ _ _ us hl => match us, hl with | [_], _ => rfl
  have F2 := fun_mk (st := s_divided) l2 c2 k2
  have b2 := F2.binds (ps := P_divided) fun _ _ _ _ _ _ us hl => match us, hl with | [_, _], _ => rfl
  have F3 := fun_mk (st := s_multiplied) l3 c3 k3
  have b3 := F3.binds (ps := P_multiplied) fun _ _ _ _ _ _ us hl => match us, hl with | [_, _], _ => rfl
  have F4 := fun_mk (st := s_wheel) l4 c4 k4
  have b4 := F4.binds (ps := P_wheel) fun _ _ _ _ _ _ us hl => match us, hl with | [_], _ => rfl
  have F5 := fun_mk (st := s__law_box) l5 c5 k5
  have b5 := F5.binds (ps := P__law_box) fun _ _ _ _ _ _ us hl => match us, hl with | [_, _], _ => rfl
  have F6 := fun_mk (st := s__law_take) l6 c6 k6
  have b6 := F6.binds (ps := P__law_take) fun _ _ _ _ _ _ us hl => match us, hl with | [_, _], _ => rfl
  have F7 := fun_mk (st := s__law_pick) l7 c7 k7
  have b7 := F7.binds (ps := P__law_pick) fun _ _ _ _ _ _ us hl => match us, hl with | [_, _], _ => rfl
  have F8 := fun_mk (st := s__law_same) l8 c8 k8
  have b8 := F8.binds (ps := P__law_same) fun _ _ _ _ _ _ us hl => match us, hl with | [_, _], _ => rfl
  have F9 := fun_mk (st := s__law_divided) l9 c9 k9
  have b9 := F9.binds (ps := P__law_divided) fun _ _ _ _ _ _ us hl => match us, hl with | [_, _], _ => rfl
  have F10 := fun_mk (st := s__law_own_wheel) l10 c10 k10
  have b10 := F10.binds (ps := P__law_own_wheel) fun _ _ _ _ _ _ us hl => match us, hl with | [_], _ => rfl
  have F11 := fun_mk (st := s__law_rest_by) l11 c11 k11
  have b11 := F11.binds (ps := P__law_rest_by) fun _ _ _ _ _ _ us hl => match us, hl with | [_, _], _ => rfl
  have F12 := fun_mk (st := s__law_worth) l12 c12 k12
  have b12 := F12.binds (ps := P__law_worth) fun _ _ _ _ _ _ us hl => match us, hl with | [_, _], _ => rfl
  have F13 := fun_mk (st := s__law_exact) l13 c13 k13
  have b13 := F13.binds (ps := P__law_exact) fun _ _ _ _ _ _ us hl => match us, hl with | [_], _ => rfl
  have F14 := fun_mk (st := s__law_refused_by) l14 c14 k14
  have b14 := F14.binds (ps := P__law_refused_by) fun _ _ _ _ _ _ us hl => match us, hl with | [_, _, _, _], _ => rfl
  have F15 := fun_mk (st := s__law_root_right) l15 c15 k15
  have b15 := F15.binds (ps := P__law_root_right) fun _ _ _ _ _ _ us hl => match us, hl with | [_, _, _, _], _ => rfl
  have F16 := fun_mk (st := s__law_share_right) l16 c16 k16
  have b16 := F16.binds (ps := P__law_share_right) fun _ _ _ _ _ _ us hl => match us, hl with | [_, _, _], _ => rfl
  have F17 := fun_mk (st := s_law) l17 c17 k17
  have F_I := fun_mk (st := s_init) lI cI kI
  have b_I := F_I.binds (ps := N_init) fun _ _ _ _ _ _ us hl => match us, hl with | [_, _], _ => rfl
  have EK_BadGround : ExK K C_BadGround := ⟨⟨⟨nm_BadGround, q_BadGround, N_BadGround, bs_BadGround, _, sn_BadGround, sb_BadGround, ab_BadGround, co_BadGround, dd_BadGround, m0_BadGround, m1_BadGround, m2_BadGround, m3_BadGround, m5_BadGround, xL_BadGround, rfl⟩, sa_BadGround, eC_BadGround, tC_BadGround, kC_BadGround⟩, ⟨ga_BadGround, gg_BadGround, eC_BadGround, hC_BadGround⟩, ⟨ga_BadGround, gg_BadGround, eC_BadGround, hC_BadGround, oc_BadGround, on, ot, mo_BadGround⟩, nw_BadGround⟩
  have R_BadGround : Ref K C_TurnError C_BadGround fI := ⟨EK_BadGround, ii_BadGround, PySem.W.exm_ref eT hT tT su_BadGround, kv_BadGround, kt_BadGround⟩
  have EK_NoRoot : ExK K C_NoRoot := ⟨⟨⟨nm_NoRoot, q_NoRoot, N_NoRoot, bs_NoRoot, _, sn_NoRoot, sb_NoRoot, ab_NoRoot, co_NoRoot, dd_NoRoot, m0_NoRoot, m1_NoRoot, m2_NoRoot, m3_NoRoot, m5_NoRoot, xL_NoRoot, rfl⟩, sa_NoRoot, eC_NoRoot, tC_NoRoot, kC_NoRoot⟩, ⟨ga_NoRoot, gg_NoRoot, eC_NoRoot, hC_NoRoot⟩, ⟨ga_NoRoot, gg_NoRoot, eC_NoRoot, hC_NoRoot, oc_NoRoot, on, ot, mo_NoRoot⟩, nw_NoRoot⟩
  have R_NoRoot : Ref K C_TurnError C_NoRoot fI := ⟨EK_NoRoot, ii_NoRoot, PySem.W.exm_ref eT hT tT su_NoRoot, kv_NoRoot, kt_NoRoot⟩
  have EK_NoShare : ExK K C_NoShare := ⟨⟨⟨nm_NoShare, q_NoShare, N_NoShare, bs_NoShare, _, sn_NoShare, sb_NoShare, ab_NoShare, co_NoShare, dd_NoShare, m0_NoShare, m1_NoShare, m2_NoShare, m3_NoShare, m5_NoShare, xL_NoShare, rfl⟩, sa_NoShare, eC_NoShare, tC_NoShare, kC_NoShare⟩, ⟨ga_NoShare, gg_NoShare, eC_NoShare, hC_NoShare⟩, ⟨ga_NoShare, gg_NoShare, eC_NoShare, hC_NoShare, oc_NoShare, on, ot, mo_NoShare⟩, nw_NoShare⟩
  have R_NoShare : Ref K C_TurnError C_NoShare fI := ⟨EK_NoShare, ii_NoShare, PySem.W.exm_ref eT hT tT su_NoShare, kv_NoShare, kt_NoShare⟩
  have M_MOST_ORDER := PySem.W.mg_of X G g_MOST_ORDER
  have CL_Roots : L2.Cls K C_Roots := ⟨pg_Roots, hd_Roots, po_Roots, sa_Roots⟩
  have F_Roots___init__ := fun_mk (st := s_Roots___init__) lk_Roots___init__ cn_Roots___init__ kp_Roots___init__
  have B_Roots___init__ := F_Roots___init__.binds (ps := P_Roots___init__) fun _ _ _ _ _ _ us hl => match us, hl with | [_, _], _ => rfl
  have MK_Roots : Mk K C_Roots f_Roots___init__ := ⟨mk_Roots, at_Roots___init__, fn_Roots___init__, kc_Roots⟩
  have F_Roots_has_root := fun_mk (st := s_Roots_has_root) lk_Roots_has_root cn_Roots_has_root kp_Roots_has_root
  have B_Roots_has_root := F_Roots_has_root.binds (ps := P_Roots_has_root) fun _ _ _ _ _ _ us hl => match us, hl with | [_, _], _ => rfl
  have ME_Roots_has_root : Meth K C_Roots "has_root" f_Roots_has_root := ⟨at_Roots_has_root, fn_Roots_has_root, kp_Roots_has_root⟩
  have F_Roots_root_at := fun_mk (st := s_Roots_root_at) lk_Roots_root_at cn_Roots_root_at kp_Roots_root_at
  have B_Roots_root_at := F_Roots_root_at.binds (ps := P_Roots_root_at) fun _ _ _ _ _ _ us hl => match us, hl with | [_, _, _], _ => rfl
  have ME_Roots_root_at : Meth K C_Roots "root_at" f_Roots_root_at := ⟨at_Roots_root_at, fn_Roots_root_at, kp_Roots_root_at⟩
  have F_Roots_shared_by := fun_mk (st := s_Roots_shared_by) lk_Roots_shared_by cn_Roots_shared_by kp_Roots_shared_by
  have B_Roots_shared_by := F_Roots_shared_by.binds (ps := P_Roots_shared_by) fun _ _ _ _ _ _ us hl => match us, hl with | [_, _, _], _ => rfl
  have ME_Roots_shared_by : Meth K C_Roots "shared_by" f_Roots_shared_by := ⟨at_Roots_shared_by, fn_Roots_shared_by, kp_Roots_shared_by⟩
  have F_Roots_sum_of := fun_mk (st := s_Roots_sum_of) lk_Roots_sum_of cn_Roots_sum_of kp_Roots_sum_of
  have B_Roots_sum_of := F_Roots_sum_of.binds (ps := P_Roots_sum_of) fun _ _ _ _ _ _ us hl => match us, hl with | [_, _, _], _ => rfl
  have ME_Roots_sum_of : Meth K C_Roots "sum_of" f_Roots_sum_of := ⟨at_Roots_sum_of, fn_Roots_sum_of, kp_Roots_sum_of⟩
  have F_Roots_product_of := fun_mk (st := s_Roots_product_of) lk_Roots_product_of cn_Roots_product_of kp_Roots_product_of
  have B_Roots_product_of := F_Roots_product_of.binds (ps := P_Roots_product_of) fun _ _ _ _ _ _ us hl => match us, hl with | [_, _, _], _ => rfl
  have ME_Roots_product_of : Meth K C_Roots "product_of" f_Roots_product_of := ⟨at_Roots_product_of, fn_Roots_product_of, kp_Roots_product_of⟩
  have F_Roots_worth_of := fun_mk (st := s_Roots_worth_of) lk_Roots_worth_of cn_Roots_worth_of kp_Roots_worth_of
  have B_Roots_worth_of := F_Roots_worth_of.binds (ps := P_Roots_worth_of) fun _ _ _ _ _ _ us hl => match us, hl with | [_, _], _ => rfl
  have ME_Roots_worth_of : Meth K C_Roots "worth_of" f_Roots_worth_of := ⟨at_Roots_worth_of, fn_Roots_worth_of, kp_Roots_worth_of⟩
  have M_TurnError := PySem.W.mg_of X G g_TurnError
  have M_BadGround := PySem.W.mg_of X G g_BadGround
  have M_NoRoot := PySem.W.mg_of X G g_NoRoot
  have M_NoShare := PySem.W.mg_of X G g_NoShare
  have M_Roots := PySem.W.mg_of X G g_Roots
  refine ⟨_, fun s v => .of_eq rfl, fun base _ _ => ok_law (P := l.prog) (w := w) (base := base) F17 T ⟨⟨_, _, F0, b0, PySem.W.mg_of X G a0⟩, ⟨_, _, F1, b1, PySem.W.mg_of X G a1⟩, ⟨_, _, F2, b2, PySem.W.mg_of X G a2⟩, ⟨_, _, F3, b3, PySem.W.mg_of X G a3⟩, ⟨_, _, F4, b4, PySem.W.mg_of X G a4⟩, ⟨_, _, F5, b5, PySem.W.mg_of X G a5⟩, ⟨_, _, F6, b6, PySem.W.mg_of X G a6⟩, ⟨_, _, F7, b7, PySem.W.mg_of X G a7⟩, ⟨_, _, F8, b8, PySem.W.mg_of X G a8⟩, ⟨_, _, F9, b9, PySem.W.mg_of X G a9⟩, ⟨_, _, F10, b10, PySem.W.mg_of X G a10⟩, ⟨_, _, F11, b11, PySem.W.mg_of X G a11⟩, ⟨_, _, F12, b12, PySem.W.mg_of X G a12⟩, ⟨_, _, F13, b13, PySem.W.mg_of X G a13⟩, ⟨_, _, F14, b14, PySem.W.mg_of X G a14⟩, ⟨_, _, F15, b15, PySem.W.mg_of X G a15⟩, ⟨_, _, F16, b16, PySem.W.mg_of X G a16⟩⟩ ⟨⟨_, _, _, _, _, _, ⟨⟨CL_Roots, nf_Roots_order, nf_Roots_rim⟩, F_Roots_has_root, B_Roots_has_root, ME_Roots_has_root, F_Roots_root_at, B_Roots_root_at, ME_Roots_root_at, F_Roots_shared_by, B_Roots_shared_by, ME_Roots_shared_by, F_I, b_I, tI, R_NoRoot, R_NoShare, M_TurnError, M_NoRoot, M_NoShare, fk1, fk2, fk3, fk4⟩⟩, R_BadGround, M_BadGround, M_Roots, ⟨_, M_MOST_ORDER⟩, ⟨_, _, MK_Roots, F_Roots___init__, B_Roots___init__⟩, ⟨_, _, F_Roots_sum_of, B_Roots_sum_of, ME_Roots_sum_of⟩, ⟨_, _, F_Roots_product_of, B_Roots_product_of, ME_Roots_product_of⟩, ⟨_, _, F_Roots_worth_of, B_Roots_worth_of, ME_Roots_worth_of⟩⟩⟩
end My
open PySem PySem.W PyProof.Rows
set_option maxRecDepth 100000 in
set_option maxHeartbeats 0 in
theorem PySem.Challenge.cw_turnsums_k13_whole_exact_roots_and_share_holds : PySem.Challenge.rw_turnsums_k13_whole_exact_roots_and_share.Holds := by
  w_on; o_law; k_head; (case hw => w_witness2)
  k_fill
  refine L2.walk_of (l := PySem.Challenge.rw_turnsums_k13_whole_exact_roots_and_share) (n := 63) (k := 9) (x := "_law_script") (CX := fun _ => L2.CX0) (sp := fun w => My.spLaw _) rfl (by decide) rfl ⟨rfl, by decide, by decide⟩ (fun w h Y => PySem.W.kIn_of Y) ?F (fun _ _ a ns hl _ hS => ⟨a, ns, rfl, hS, hl, fun _ => rfl⟩) (fun _ _ _ _ _ h => h)
  case F =>
    intro w mg fa h KX G hmg
    refine' My.all_mk KX G hmg ?g_TurnError ?g_BadGround ?g_NoRoot ?g_NoShare ?g_Roots ?on ?ot ?eT ?hT ?tT ?xL_BadGround ?sa_BadGround ?ga_BadGround ?gg_BadGround ?nw_BadGround ?ii_BadGround ?oc_BadGround ?kC_BadGround ?eC_BadGround ?tC_BadGround ?hC_BadGround ?mo_BadGround ?su_BadGround ?kv_BadGround ?kt_BadGround ?xL_NoRoot ?sa_NoRoot ?ga_NoRoot ?gg_NoRoot ?nw_NoRoot ?ii_NoRoot ?oc_NoRoot ?kC_NoRoot ?eC_NoRoot ?tC_NoRoot ?hC_NoRoot ?mo_NoRoot ?su_NoRoot ?kv_NoRoot ?kt_NoRoot ?xL_NoShare ?sa_NoShare ?ga_NoShare ?gg_NoShare ?nw_NoShare ?ii_NoShare ?oc_NoShare ?kC_NoShare ?eC_NoShare ?tC_NoShare ?hC_NoShare ?mo_NoShare ?su_NoShare ?kv_NoShare ?kt_NoShare ?lI ?cI ?kI ?tI ?g_MOST_ORDER ?pg_Roots ?hd_Roots ?po_Roots ?sa_Roots ?mk_Roots ?kc_Roots ?nf_Roots_order ?nf_Roots_rim ?at_Roots___init__ ?lk_Roots___init__ ?cn_Roots___init__ ?kp_Roots___init__ ?fn_Roots___init__ ?at_Roots_has_root ?lk_Roots_has_root ?cn_Roots_has_root ?kp_Roots_has_root ?fn_Roots_has_root ?at_Roots_root_at ?lk_Roots_root_at ?cn_Roots_root_at ?kp_Roots_root_at ?fn_Roots_root_at ?at_Roots_shared_by ?lk_Roots_shared_by ?cn_Roots_shared_by ?kp_Roots_shared_by ?fn_Roots_shared_by ?at_Roots_sum_of ?lk_Roots_sum_of ?cn_Roots_sum_of ?kp_Roots_sum_of ?fn_Roots_sum_of ?at_Roots_product_of ?lk_Roots_product_of ?cn_Roots_product_of ?kp_Roots_product_of ?fn_Roots_product_of ?at_Roots_worth_of ?lk_Roots_worth_of ?cn_Roots_worth_of ?kp_Roots_worth_of ?fn_Roots_worth_of ?fk1 ?fk2 ?fk3 ?fk4 ?a0 ?l0 ?c0 ?k0 ?a1 ?l1 ?c1 ?k1 ?a2 ?l2 ?c2 ?k2 ?a3 ?l3 ?c3 ?k3 ?a4 ?l4 ?c4 ?k4 ?a5 ?l5 ?c5 ?k5 ?a6 ?l6 ?c6 ?k6 ?a7 ?l7 ?c7 ?k7 ?a8 ?l8 ?c8 ?k8 ?a9 ?l9 ?c9 ?k9 ?a10 ?l10 ?c10 ?k10 ?a11 ?l11 ?c11 ?k11 ?a12 ?l12 ?c12 ?k12 ?a13 ?l13 ?c13 ?k13 ?a14 ?l14 ?c14 ?k14 ?a15 ?l15 ?c15 ?k15 ?a16 ?l16 ?c16 ?k16 ?a17 ?l17 ?c17 ?k17 ?z0 ?z1 ?z2 ?z3 ?z4 ?z5 ?z6 ?z7 ?z8 ?z9 ?z10 ?z11 ?z12 ?z13 ?z14 ?z15
    (case g_TurnError => first | k_is | rfl)
    (case g_BadGround => first | k_is | rfl)
    (case g_NoRoot => first | k_is | rfl)
    (case g_NoShare => first | k_is | rfl)
    (case g_Roots => first | k_is | rfl)
    (case on => first | k_is | rfl)
    (case ot => first | k_is | rfl)
    (case eT => first | k_is | rfl)
    (case hT => first | k_is | rfl)
    (case tT => first | k_is | rfl)
    (case xL_BadGround => first | k_is | rfl)
    (case sa_BadGround => first | k_is | rfl)
    (case ga_BadGround => first | k_is | rfl)
    (case gg_BadGround => first | k_is | rfl)
    (case nw_BadGround => first | k_is | rfl)
    (case ii_BadGround => first | k_is | rfl)
    (case oc_BadGround => first | k_is | rfl)
    (case kC_BadGround => first | k_is | rfl)
    (case eC_BadGround => first | k_is | rfl)
    (case tC_BadGround => first | k_is | rfl)
    (case hC_BadGround => first | k_is | rfl)
    (case mo_BadGround => first | k_is | rfl)
    (case su_BadGround => first | k_is | rfl)
    (case kv_BadGround => first | k_is | rfl)
    (case kt_BadGround => first | k_is | rfl)
    (case xL_NoRoot => first | k_is | rfl)
    (case sa_NoRoot => first | k_is | rfl)
    (case ga_NoRoot => first | k_is | rfl)
    (case gg_NoRoot => first | k_is | rfl)
    (case nw_NoRoot => first | k_is | rfl)
    (case ii_NoRoot => first | k_is | rfl)
    (case oc_NoRoot => first | k_is | rfl)
    (case kC_NoRoot => first | k_is | rfl)
    (case eC_NoRoot => first | k_is | rfl)
    (case tC_NoRoot => first | k_is | rfl)
    (case hC_NoRoot => first | k_is | rfl)
    (case mo_NoRoot => first | k_is | rfl)
    (case su_NoRoot => first | k_is | rfl)
    (case kv_NoRoot => first | k_is | rfl)
    (case kt_NoRoot => first | k_is | rfl)
    (case xL_NoShare => first | k_is | rfl)
    (case sa_NoShare => first | k_is | rfl)
    (case ga_NoShare => first | k_is | rfl)
    (case gg_NoShare => first | k_is | rfl)
    (case nw_NoShare => first | k_is | rfl)
    (case ii_NoShare => first | k_is | rfl)
    (case oc_NoShare => first | k_is | rfl)
    (case kC_NoShare => first | k_is | rfl)
    (case eC_NoShare => first | k_is | rfl)
    (case tC_NoShare => first | k_is | rfl)
    (case hC_NoShare => first | k_is | rfl)
    (case mo_NoShare => first | k_is | rfl)
    (case su_NoShare => first | k_is | rfl)
    (case kv_NoShare => first | k_is | rfl)
    (case kt_NoShare => first | k_is | rfl)
    (case lI => first | k_is | rfl)
    (case cI => first | k_is | rfl)
    (case kI => first | k_is | rfl)
    (case tI => first | k_is | rfl)
    (case g_MOST_ORDER => first | k_is | rfl)
    (case pg_Roots => first | k_is | rfl)
    (case hd_Roots => first | k_is | rfl)
    (case po_Roots => first | k_is | rfl)
    (case sa_Roots => first | k_is | rfl)
    (case mk_Roots => first | k_is | rfl)
    (case kc_Roots => first | k_is | rfl)
    (case nf_Roots_order => first | k_is | rfl)
    (case nf_Roots_rim => first | k_is | rfl)
    (case at_Roots___init__ => first | k_is | rfl)
    (case lk_Roots___init__ => first | k_is | rfl)
    (case cn_Roots___init__ => first | k_is | rfl)
    (case kp_Roots___init__ => first | k_is | rfl)
    (case fn_Roots___init__ => first | k_is | rfl)
    (case at_Roots_has_root => first | k_is | rfl)
    (case lk_Roots_has_root => first | k_is | rfl)
    (case cn_Roots_has_root => first | k_is | rfl)
    (case kp_Roots_has_root => first | k_is | rfl)
    (case fn_Roots_has_root => first | k_is | rfl)
    (case at_Roots_root_at => first | k_is | rfl)
    (case lk_Roots_root_at => first | k_is | rfl)
    (case cn_Roots_root_at => first | k_is | rfl)
    (case kp_Roots_root_at => first | k_is | rfl)
    (case fn_Roots_root_at => first | k_is | rfl)
    (case at_Roots_shared_by => first | k_is | rfl)
    (case lk_Roots_shared_by => first | k_is | rfl)
    (case cn_Roots_shared_by => first | k_is | rfl)
    (case kp_Roots_shared_by => first | k_is | rfl)
    (case fn_Roots_shared_by => first | k_is | rfl)
    (case at_Roots_sum_of => first | k_is | rfl)
    (case lk_Roots_sum_of => first | k_is | rfl)
    (case cn_Roots_sum_of => first | k_is | rfl)
    (case kp_Roots_sum_of => first | k_is | rfl)
    (case fn_Roots_sum_of => first | k_is | rfl)
    (case at_Roots_product_of => first | k_is | rfl)
    (case lk_Roots_product_of => first | k_is | rfl)
    (case cn_Roots_product_of => first | k_is | rfl)
    (case kp_Roots_product_of => first | k_is | rfl)
    (case fn_Roots_product_of => first | k_is | rfl)
    (case at_Roots_worth_of => first | k_is | rfl)
    (case lk_Roots_worth_of => first | k_is | rfl)
    (case cn_Roots_worth_of => first | k_is | rfl)
    (case kp_Roots_worth_of => first | k_is | rfl)
    (case fn_Roots_worth_of => first | k_is | rfl)
    (case fk1 => first | k_is | rfl)
    (case fk2 => first | k_is | rfl)
    (case fk3 => first | k_is | rfl)
    (case fk4 => first | k_is | rfl)
    (case a0 => k_is)
    (case l0 => k_is)
    (case c0 => k_is)
    (case k0 => k_is)
    (case a1 => k_is)
    (case l1 => k_is)
    (case c1 => k_is)
    (case k1 => k_is)
    (case a2 => k_is)
    (case l2 => k_is)
    (case c2 => k_is)
    (case k2 => k_is)
    (case a3 => k_is)
    (case l3 => k_is)
    (case c3 => k_is)
    (case k3 => k_is)
    (case a4 => k_is)
    (case l4 => k_is)
    (case c4 => k_is)
    (case k4 => k_is)
    (case a5 => k_is)
    (case l5 => k_is)
    (case c5 => k_is)
    (case k5 => k_is)
    (case a6 => k_is)
    (case l6 => k_is)
    (case c6 => k_is)
    (case k6 => k_is)
    (case a7 => k_is)
    (case l7 => k_is)
    (case c7 => k_is)
    (case k7 => k_is)
    (case a8 => k_is)
    (case l8 => k_is)
    (case c8 => k_is)
    (case k8 => k_is)
    (case a9 => k_is)
    (case l9 => k_is)
    (case c9 => k_is)
    (case k9 => k_is)
    (case a10 => k_is)
    (case l10 => k_is)
    (case c10 => k_is)
    (case k10 => k_is)
    (case a11 => k_is)
    (case l11 => k_is)
    (case c11 => k_is)
    (case k11 => k_is)
    (case a12 => k_is)
    (case l12 => k_is)
    (case c12 => k_is)
    (case k12 => k_is)
    (case a13 => k_is)
    (case l13 => k_is)
    (case c13 => k_is)
    (case k13 => k_is)
    (case a14 => k_is)
    (case l14 => k_is)
    (case c14 => k_is)
    (case k14 => k_is)
    (case a15 => k_is)
    (case l15 => k_is)
    (case c15 => k_is)
    (case k15 => k_is)
    (case a16 => k_is)
    (case l16 => k_is)
    (case c16 => k_is)
    (case k16 => k_is)
    (case a17 => k_is)
    (case l17 => k_is)
    (case c17 => k_is)
    (case k17 => k_is)
    (case z0 => k_is)
    (case z1 => k_is)
    (case z2 => k_is)
    (case z3 => k_is)
    (case z4 => k_is)
    (case z5 => k_is)
    (case z6 => k_is)
    (case z7 => k_is)
    (case z8 => k_is)
    (case z9 => k_is)
    (case z10 => k_is)
    (case z11 => k_is)
    (case z12 => k_is)
    (case z13 => k_is)
    (case z14 => k_is)
    (case z15 => k_is)

