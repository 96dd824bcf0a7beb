import PyProof.Rows.All
import Wide.All
import OpenK.AllK
import Wide.FinOn
import HandS.ForMost
import HandS.IsInst
import HandS.Style
import HandS.Wide
import HandS.WideMore
import HandS.Zip
import HandS.Flow
import HandS.SetFor
import HandS.Strs
import HandS.SortInts
import HandS.ExcInit
import HandS.ExcField
import HandS.ExcIs
import HandS.ExcValue
import HandS.WordsExc
import HandS.NoneIn
import HandS.Conv
import KE.KExcIs
import PySem.Challenge.RW_turnsums_k68_into_parts_and_out
set_option Elab.async false
set_option linter.all false
set_option maxRecDepth 100000
set_option maxHeartbeats 4000000
namespace My
open PySem L2
def top (i : Nat) : Stmt := PySem.Challenge.pw_turnsums_k68_into_parts_and_out.main.body.getD i (.Pass ⟨0, 0, 0, 0⟩)
/-- a def of the text: where it stands, how it is called -/
structure Df (K : PySem.W.Frag) (mg : Str → Option Value) (x : Str) (st : Stmt) (ps : List Str) (f : Addr) (fd : FuncData) : Prop where
  F : Fun K x x st f fd
  b : Binds K fd ps []
  g : mg x = some (.ref f)
/-! heaps: all but the box stays -/
theorem same_upd {H H' : Hp} {p : Addr} {o : HO} (h : Same H H') (n : H' p = none) : Same H (upd H' p o) := fun b x e => by
  rw [upd_ne (ne_of_none (h b x e) n)]
  exact h b x e
theorem same_new {H : Hp} {p : Addr} {o : HO} (n : H p = none) : Same H (upd H p o) := same_upd (Same.refl H) n
theorem same_mut {H H' : Hp} {p : Addr} {o : HO} (h : Same H H') (n : H p = none) : Same H (upd H' p o) := fun b x e => by
  rw [upd_ne (ne_of_none e n)]
  exact h b x e
theorem same_t {K : PySem.W.Frag} {H H' : Hp} {a : Addr} {xs : List V} (e : Same H H') (h : SqT K H a xs) : SqT K H' a xs := by
  rcases h with (h | ⟨o, h⟩) | h
  · exact .inl (.inl (e _ _ h))
  · exact .inl (.inr ⟨o, e _ _ h⟩)
  · exact .inr h
def Keep (b : Addr) (H H' : Hp) : Prop := ∀ a o, a ≠ b → H a = some o → H' a = some o
theorem Keep.refl (b : Addr) (H : Hp) : Keep b H H := fun _ _ _ h => h
theorem Keep.trans {b : Addr} {H H1 H2 : Hp} (a : Keep b H H1) (c : Keep b H1 H2) : Keep b H H2 := fun x o n h => c x o n (a x o n h)
theorem keepS {b : Addr} {H H' : Hp} (h : Same H H') : Keep b H H' := fun x o _ e => h x o e
theorem keep_same {b : Addr} {H0 H H' : Hp} (a : Same H0 H) (n : H0 b = none) (k : Keep b H H') : Same H0 H' := fun x o e => k x o (ne_of_none e n) (a x o e)
theorem keep_upd {b : Addr} {H H' : Hp} {o : HO} (h : Keep b H H') : Keep b H (upd H' b o) := fun a u n e => by
  rw [upd_ne n]
  exact h a u n e
theorem keep_new {b p : Addr} {H H' : Hp} {o : HO} (h : Keep b H H') (n : H' p = none) : Keep b H (upd H' p o) := fun a u na e => by
  rw [upd_ne (ne_of_none (h a u na e) n)]
  exact h a u na e
theorem Keep.seq {K : PySem.W.Frag} {b a : Addr} {H H' : Hp} {xs : List V} (e : Keep b H H') (n : a ≠ b) (h : SqL K H a xs) : SqL K H' a xs := by
  rcases h with (h | ⟨o, h⟩) | h
  · exact .inl (.inl (e _ _ n h))
  · exact .inl (.inr ⟨o, e _ _ n h⟩)
  · exact .inr h
def BoxAt (H : Hp) (b : Addr) (n : Int) : Prop := ∃ x y z : Int, H b = some (.lst [.int x, .int y, .int z]) ∧ 0 ≤ x ∧ 0 ≤ y ∧ y ≤ 4294967296 ∧ 0 ≤ z ∧ z ≤ n
theorem BoxAt.mono {H : Hp} {b : Addr} {n m : Int} (h : BoxAt H b n) (e : n ≤ m) : BoxAt H b m := by
  obtain ⟨x, y, z, a1, a2, a3, a4, a5, a6⟩ := h
  exact ⟨x, y, z, a1, a2, a3, a4, a5, by omega⟩
theorem BoxAt.same {H H' : Hp} {b : Addr} {n : Int} (h : BoxAt H b n) (e : Same H H') : BoxAt H' b n := by
  obtain ⟨x, y, z, a1, a2⟩ := h
  exact ⟨x, y, z, e _ _ a1, a2⟩
theorem BoxAt.some {H : Hp} {b : Addr} {n : Int} (h : BoxAt H b n) : ∃ o, H b = some o := by
  obtain ⟨x, y, z, a1, a2⟩ := h
  exact ⟨_, a1⟩
theorem BoxAt.ne {H : Hp} {b p : Addr} {n : Int} (h : BoxAt H b n) (e : H p = none) : p ≠ b := by
  obtain ⟨o, h⟩ := h.some
  exact (ne_of_none h e).symm
theorem szl {n : Nat} (h : n ≤ 60000) : n ≤ sizeLine := Nat.le_trans h (by decide)
theorem szm {n : Nat} (h : n ≤ 60000) : n < sizeLine := Nat.lt_of_le_of_lt h (by decide)
theorem pw6 : (10 : Int) ^ Int.toNat 6 = 1000000 := by decide
theorem pw9 : (10 : Int) ^ Int.toNat 9 = 1000000000 := by decide
theorem newO {H H' : Hp} {p : Addr} {o : HO} (e : upd H p o = H') (hp : H p = none) : Same H H' ∧ H' p = some o := by
  subst e
  exact ⟨same_new hp, upd_same⟩
theorem mutO {H H' : Hp} {p : Addr} {o : HO} (e : upd H p o = H') : Keep p H H' ∧ H' p = some o := by
  subst e
  exact ⟨keep_upd (Keep.refl _ _), upd_same⟩
/-- a word of ours that the walk must not open -/
inductive Hold (p : Prop) : Prop
  | mk : p → Hold p
theorem Hold.un {p : Prop} (h : Hold p) : p := by
  cases h with
  | mk h => exact h
theorem holdN {W : Nat → L2.St → Hp → Prop} {m : Nat} : ∀ (σ' : L2.St) (H' : Hp), Hold (∃ m', m' < m ∧ W m' σ' H') → ∃ m', m' < m ∧ W m' σ' H' := fun _ _ h => h.un
theorem ite_dec {c A B : Prop} [Decidable c] (hc : c) (h : A) : if decide c = true then A else B := by
  rw [decide_eq_true hc]
  exact iteT h
def rLenQ (K : PySem.W.Frag) : List V → Hp → VK → Prop := fun xs H Q => ∃ p ys, xs = [.ref p] ∧ (SqL K H p ys ∨ SqT K H p ys) ∧ Q (.int ys.length) H
theorem iteTe {b : Bool} {A B : Prop} (e : b = true) (h : A) : if b = true then A else B := by
  rw [if_pos e]
  exact h
theorem iteFe {b : Bool} {A B : Prop} (e : b = false) (h : B) : if b = true then A else B := by
  rw [e]
  exact iteF h
theorem cmul_b {i : Int} {b : Bool} : CMul i (if b then 1 else 0) := by
  refine .inr ?_
  cases b <;> exact ⟨by decide, by decide⟩
theorem at_ints {ns : List Int} {k : Int} (h0 : 0 ≤ k) (h : k < (ns.length : Int)) : ∃ c, c ∈ ns ∧ atI (ns.map V.int) k = some (.int c) := by
  have hk : k.toNat < ns.length := by omega
  refine ⟨ns[k.toNat], List.getElem_mem hk, at_of (j := k.toNat) (by omega) ?_⟩
  rw [List.getElem?_map, List.getElem?_eq_getElem hk]
  rfl
theorem at_some {xs : List V} {k : Int} (h0 : 0 ≤ k) (h : k < (xs.length : Int)) : ∃ v, v ∈ xs ∧ atI xs k = some v := by
  have hk : k.toNat < xs.length := by omega
  exact ⟨xs[k.toNat], List.getElem_mem hk, at_of (j := k.toNat) (by omega) (List.getElem?_eq_getElem hk)⟩
theorem int_mem {ns : List Int} {v : V} (h : v ∈ ns.map V.int) : ∃ c, c ∈ ns ∧ v = .int c := by
  obtain ⟨c, hc, e⟩ := List.mem_map.mp h
  exact ⟨c, hc, e.symm⟩
structure Blt (mg : Str → Option Value) : Prop where
  b_ValueError : mg "ValueError" = none
  b_abs : mg "abs" = none
  b_all : mg "all" = none
  b_any : mg "any" = none
  b_bool : mg "bool" = none
  b_enumerate : mg "enumerate" = none
  b_int : mg "int" = none
  b_isinstance : mg "isinstance" = none
  b_len : mg "len" = none
  b_list : mg "list" = none
  b_range : mg "range" = none
  b_str : mg "str" = none
  b_tuple : mg "tuple" = none
  b_zip : mg "zip" = none
/-! ### sorted(set(xs)), xs a list of few ints -/
section
open PySem.Spec PyProof.Rows PySem.Calls
abbrev bareSet (w : World) : Obj := { cls := .type "set", dict := none, data := .set #[] 0 (.fresh 0 0 (!w.params.followText "set-order")) }
/-- what set(xs) leaves behind -/
def SetLeft (w : World) (s : Shared) (ns : List Int) (h' : Heap) (c : Nat) : Prop := SetR w h' s.heap.objs.size (fun j => decide (j ∈ ns)) c ∧ c ≤ ns.length ∧ ∀ b o, s.heap.get? b = some o → h'.get? b = some o
variable {P : Program} {w : World} {A : Around} {E : Value → Shared → Prop} {s : Shared}
theorem items_ints {items : Array Value} {ns : List Int} (hi : IntsAre items.toList ns) (i : Nat) (v : Value) (hv : items[i]? = some v) : ∃ k t, ns[i]? = some k ∧ v = .int k t := by
  have hl : items.size = ns.length := by
    rw [← Array.length_toList]
    exact hi.length
  have hlt : i < ns.length := by
    rw [← hl]
    exact (Array.getElem?_eq_some_iff.mp hv).1
  obtain ⟨t, e⟩ := hi.int_at i v (by rw [Array.getElem?_toList]; exact hv)
  refine ⟨ns[i], t, List.getElem?_eq_getElem hlt, e.trans ?_⟩
  rw [List.getD_eq_getElem?_getD, List.getElem?_eq_getElem hlt]
  rfl
set_option maxHeartbeats 3200000 in
theorem set_of_list {l : Addr} {items : Array Value} {ns : List Int} {Q : Value → Shared → Prop} (hh : A.handled = none) (hl : s.heap.IsList l items) (hi : IntsAre items.toList ns) (hb : ns.length + 1 < scanBound)
    (h : ∀ (h' : Heap) (tk c : Nat), SetLeft w s ns h' c → Q (.ref s.heap.objs.size) { s with heap := h', toks := tk }) : wpAny (model P w) A (call (.type "set") [.ref l]) Q E s := by
  have hsz : items.size = ns.length := by
    rw [← Array.length_toList]
    exact hi.length
  obtain ⟨mc, mt, hmro⟩ := F.called_set.mro
  have a1 := F.called_set.made; have a2 := F.called_set.sub; have a3 := F.called_set.notType; have a4 := F.called_set.canCreate; have a5 := F.typeCall_set_1 (.ref l)
  refine wpAny_call (codeAny_of_tree (show wpAny _ _ (callAny (.type "set") _) _ _ _ from wpAny_pure ⟨Code.quiet_builtin _ (by decide +kernel), codeAny_builtin F.entry_type_call ?_⟩))
  rw [Around.under_plain (weight_type_call_type "set" [.ref l] []) rfl]; repeat (any_goals (first | assumption | wp_step))
  refine codeAny_mono (code_set_led1 (.ref l) (E := E) (Q₁ := fun v s' => v = .ref s.heap.objs.size ∧ s' = { s with heap := s.heap.push (bareSet w) }) ⟨rfl, rfl⟩) fun res s1 hres => ?_
  match res, hres with
  | .error e, hres => exact hres
  | .ok .next, hres => exact hres.elim
  | .ok .cont, hres => exact hres.elim
  | .ok .brk, hres => exact hres.elim
  | .ok (.ret v), hres =>
    obtain ⟨rfl, rfl⟩ := hres
    have g0 : (s.heap.push (bareSet w)).get? s.heap.objs.size = some (bareSet w) := Heap.get?_push_size _ rfl
    have ty0 : Shared.TypeIs { s with heap := s.heap.push (bareSet w) } (.ref s.heap.objs.size) "set" := ⟨_, g0, rfl⟩
    have i1 := F.called_set.init.lookup; have i2 := F.called_set.init.bind (.ref s.heap.objs.size)
    repeat (any_goals (first | assumption | wp_step))
    refine codeAny_mono (codeAny_call_builtin (R := wants (fun v s' => v = .none ∧ ∃ h' tk c, s' = { s with heap := h', toks := tk } ∧ SetLeft w s ns h' c) E) F.called_set.init.plain F.entry_set_init (check_set_init_1 ty0 ?_)) fun res2 s2 hres2 => ?_
    · obtain ⟨⟨lc, ld, la, ls⟩, hol, hcl, nl, hdl⟩ := hl
      simp only at hcl hdl; subst hcl; subst hdl
      have hol1 := Heap.get?_push_of_some (bareSet w) hol
      have hL1 : (s.heap.push (bareSet w)).IsList l items := ⟨_, hol1, rfl, nl, rfl⟩
      have n1 := F.sub_list_set; have n2 := F.sub_list_frozenset; have n3 : (Value.type "list" == Value.type "dict") = false := by decide
      unfold Builtin.«set.__init__» noKeywords Builtin.Frozenset.updateFrom; generalize hgo : pyIter = go; wp_walk; subst hgo
      refine wpAny_pyIter_list hL1 (wpAny_bind (wpAny_runValue ?_))
      have ll := Heap.lt_size hol
      have hhd : A.in1.in1.in1.handled = none := by simp [hh]
      have sz1 : (s.heap.push (bareSet w)).objs.size = s.heap.objs.size + 1 := Heap.size_push ..
      have off : l ≠ (s.heap.push (bareSet w)).objs.size := by rw [sz1]; exact Nat.ne_of_lt (Nat.lt_succ_of_lt ll)
      have out : s.heap.objs.size ∉ [(s.heap.push (bareSet w)).objs.size, l] := by
        intro z
        rcases List.mem_cons.mp z with z | z
        · rw [sz1] at z
          exact absurd z (Nat.ne_of_lt (Nat.lt_succ_self _))
        · exact absurd (List.mem_singleton.mp z) (Nat.ne_of_gt ll)
      refine set_update_ints ((Walks.list hhd _ l off items).toS) s.heap.objs.size out ns hsz hb (items_ints hi) (items.size - 0) 0 _ (by omega) (Nat.zero_le _) ⟨⟨_, Heap.get?_push_size _ rfl, rfl, rfl⟩, hL1.push _⟩ ⟨0, Nat.le_refl 0, setR_new_at (Heap.get?_push_of_some _ g0)⟩ ?_
      rintro ⟨h', g', d', tk', os'⟩ c' hm hc' hS'
      obtain ⟨e1, e2, e3⟩ := (show g' = s.gens ∧ d' = s.drawn ∧ os' = s.os from ⟨hm.gens, hm.drawn, hm.os⟩)
      subst e1; subst e2; subst e3
      refine wpAny_pure (show wpAny _ _ (ret Value.none) _ _ _ from wpAny_pure ⟨rfl, h', tk', c', rfl, hS', by omega, fun b o e => ?_⟩)
      have lb := Heap.lt_size e
      refine hm.heap b o ?_ (Heap.get?_push_of_some _ (Heap.get?_push_of_some _ e))
      intro z
      rcases List.mem_cons.mp z with z | z
      · exact absurd z (Nat.ne_of_lt lb)
      · have z2 := List.mem_singleton.mp z
        rw [sz1] at z2
        exact absurd z2 (Nat.ne_of_lt (Nat.lt_succ_of_lt lb))
    · match res2, hres2 with
      | .error e, hres2 => exact hres2
      | .ok .next, hres2 => exact hres2.elim
      | .ok .cont, hres2 => exact hres2.elim
      | .ok .brk, hres2 => exact hres2.elim
      | .ok (.ret v2), hres2 =>
        obtain ⟨rfl, h', tk, c', rfl, hS'⟩ := hres2
        repeat (any_goals (first | assumption | wp_step))
        exact h _ _ _ hS'
end
open PySem.Spec PyProof.Rows in
/-- sorted of a set of ints, however many -/
theorem set_sorted {P : Program} {w : World} {A : Around} {E : Value → Shared → Prop} {s : Shared} {a : Addr} {S : Int → Bool} {n : Nat} {Q : Value → Shared → Prop} (R : SetR w s.heap a S n) (hh : A.handled = none)
    (q : ∀ s' p (out : List Value) (c : Nat) (ms : List Int), (∀ b o, s.heap.get? b = some o → s'.heap.get? b = some o) → s'.gens = s.gens → s'.os = s.os → s.heap.objs.size ≤ p →
      s'.heap.get? p = some (seqObj "list" out.toArray c) → IntsAre out ms → ms.Pairwise (· < ·) → (∀ k, k ∈ ms ↔ S k = true) → ms.length = n → Q (.ref p) s') : wpAny (model P w) A (call (.builtin "sorted") [.ref a]) Q E s := by
  obtain ⟨o, es, ep, t, g1, g2, g3, good, nod, mem, g4, g5, g6, g7, g8⟩ := R
  refine Calls.call_function_entry kind_sorted plain_sorted entry_sorted (args_sorted1 _) ?_; unfold Builtin.«sorted»
  refine wpAny_bind (m := checkCount "sorted" 1 1 _) (wpAny_pure (wpAny_bind (collect_set (A := A.in1) hh ⟨o, g1, g2.1, g3⟩ g5 g4 g7 g8 fun s1 vs k1 z1 e1 e2 pm => ?_)))
  have len : vs.length = n := by
    rw [pm.length_eq, List.length_map, Array.length_toList]
    exact g6
  have ivs : ∀ e ∈ es.toList, SrtO.iv e.2 = keyOf e := fun e he => by
    obtain ⟨k, tk, h1, _⟩ := good e he
    unfold keyOf
    rw [h1]
    rfl
  have hI : IntsAre vs (vs.map SrtO.iv) := SrtO.ints_iv fun v hv => by
    obtain ⟨e, he, ev⟩ := List.mem_map.mp (pm.mem_iff.mp hv)
    obtain ⟨k, tk, h1, _⟩ := good e he
    exact ⟨k, tk, ev.symm.trans h1⟩
  have prm : (vs.map SrtO.iv).Perm (es.toList.map keyOf) := by
    refine (pm.map SrtO.iv).trans ?_
    rw [List.map_map]
    exact List.Perm.of_eq (List.map_congr_left ivs)
  have zn : n ≤ sizeLine := by
    unfold scanBound at g4
    exact szl (by omega)
  refine wpAny_bind (wpAny_newList ?_ (by rw [len]; exact zn))
  have at1 : (s1.heap.push (seqObj "list" vs.toArray 0)).get? s1.heap.objs.size = some (seqObj "list" vs.toArray 0) := Heap.get?_push_size _ rfl
  refine wpAny_bind (wpAny_holding (wpAny_call_entry slot_list_sort ⟨_, at1, rfl⟩ entry_list_sort (SrtO.list_sort_ord SrtO.swo_int at1 (by rw [len]; exact zn) (fun two => SrtO.ints_sortable hI two) fun out o1 o2 => ⟨_, rfl, ?_⟩) (args_list_sort _)))
  obtain ⟨j1, j2, j3⟩ := SrtO.ints_out hI o1 o2
  obtain ⟨c, at2⟩ := sortedHeap_at (vs := vs) (out := out.toArray) at1
  have prm2 := j2.trans prm
  refine wpAny_pure ⟨_, rfl, q _ s1.heap.objs.size out c _ (fun b u e => ?_) e1 e2 z1 at2 j1 (lt_of_le_nodup _ j3 (prm2.nodup_iff.mpr nod)) (fun k => by rw [prm2.mem_iff, ← mem k]) (by rw [prm2.length_eq, List.length_map, Array.length_toList]; exact g6)⟩
  have e3 := k1 b u e
  have l3 := Heap.lt_size e3
  exact (sortedHeap_old (vs := vs) (out := out.toArray) (Nat.ne_of_lt l3) (by rw [size_push']; exact Nat.lt_succ_of_lt l3)).trans (Heap.get?_push_of_some _ e3)
def tSortSet (K : PySem.W.Frag) (ta : TE) : TE := fun σ H Q => ta σ H fun x H1 => ∃ (l : Addr) (ns : List Int), x = .ref l ∧ SqL K H1 l (ns.map V.int) ∧ ns.length ≤ 4000 ∧
  ∀ (out : List Int) (p : Addr), H1 p = none → out.Pairwise (· < ·) → (∀ k, k ∈ out ↔ k ∈ ns) → out.length ≤ ns.length → Q (.ref p) (upd H1 p (.lst (out.map V.int)))
open PySem.Spec PyProof.Rows in
theorem pe_sortSet {X : Cx} {a : Expr} {ta : TE} {p p2 q pos : Pos} (hg : Gl X "sorted") (hm : X.mg "sorted" = none) (hg2 : Gl X "set") (hm2 : X.mg "set" = none) (ha : PE X a ta) (hc : X.calm = true := by rfl)
    (na : starEach [a] X.env = (false, eval a X.env) :: starEach [] X.env := by rfl) : PE X (.Call (.Name "sorted" p) [.Call (.Name "set" p2) [a] [] q] [] pos) (tSortSet X.K ta) := by
  refine ⟨fun pins s σ H Q I h => ?_⟩
  refine Call_ (ld_blt I hg hm boot_sorted (callWith_builtin1 (args_cons (Call_ (ld_blt I hg2 hm2 boot_set (callWith_type1 (args_cons (thn (ha.run pins s σ H _ I h) fun v s1 ⟨x, H1, I1, r1, q1⟩ => args_nil ?_) na) na rfl))) rfl) rfl rfl))
  obtain ⟨l, ns, rfl, hq, hn, q1⟩ := q1
  cases r1
  obtain ⟨its, r, pl, hz⟩ := I1.list hq
  have hd := I1.ok.hd hc
  refine set_of_list hd pl.isList (by simpa using ints_of_vals r) (by unfold scanBound; omega) fun h' tk c hL => args_nil ?_
  obtain ⟨R1, hcn, kept⟩ := hL
  refine set_sorted (s := { s1 with heap := h', toks := tk }) R1 hd fun s' pp out cc ms k g o hp hgt hi hs hmem hlen => ?_
  have kk : ∀ b u, s1.heap.get? b = some u → s'.heap.get? b = some u := fun b u e => k b u (kept b u e)
  have hpp : s1.heap.objs.size ≤ pp := Nat.le_trans (Nat.le_of_lt R1.lt) hp
  have fr : H1 pp = none := I1.hok.fresh hpp
  have sl : (ms.map V.int).length ≤ sizeLine := by
    rw [List.length_map, hlen]
    exact szl (by omega)
  have hos : s'.os = s1.os := o
  have J : Inv X pins σ (upd H1 pp (.lst (ms.map V.int))) { s1 with heap := s'.heap, gens := s'.gens, drawn := s'.drawn, toks := s'.toks } :=
    I1.call (ch := []) (Un.laid kk hpp fr) (I1.hok.laid kk hpp ⟨sl, out, cc, vals_of_ints hi, hgt⟩) (by rw [g]; exact I1.bare) (fun _ z => nomatch z)
  have es : s' = { s1 with heap := s'.heap, gens := s'.gens, drawn := s'.drawn, toks := s'.toks } := by
    obtain ⟨b1, b2, b3, b4, b5⟩ := s'
    simp only at hos
    subst hos
    rfl
  rw [es]
  exact ⟨.ref pp, _, J, rfl, q1 ms pp fr hs (fun j => (hmem j).trans decide_eq_true_iff) (by omega)⟩
local macro_rules | `(tactic| walk_at "ev1") => `(tactic| first
  | with_reducible assumption
  | ((with_reducible show _ = _); exact rfl)
  | ((first | with_reducible show (_ : Int) = _ | with_reducible show (_ : Int) < _ | with_reducible show (_ : Int) ≤ _ | with_reducible show (_ : Nat) < _ | with_reducible show (_ : Nat) ≤ _); first | omega | decide | (simp only [pw6, pw9]; omega) | (simp only [List.length_cons, List.length_nil, List.length_append, List.length_map, List.length_replicate]; omega))
  | assumption
  | exact upd_same
  | exact SqL.of upd_same
  | exact Or.inl (SqL.of upd_same)
  | exact Or.inl (by assumption)
  | exact Or.inr (by assumption)
  | omega
  | exact (show CDiv _ _ from ⟨by omega, by omega⟩)
  | exact (show CPow _ _ from ⟨by omega, by omega, by omega⟩)
  | exact (show CMul _ _ from .inl ⟨by omega, by omega⟩)
  | exact (show CMul _ _ from .inr ⟨by omega, by omega⟩)
  | exact (show CMul _ _ from cmul_b)
  | exact (show CDivW _ _ from wide_div (b := 31) (by omega) (by omega) (by decide) (by decide))
  | exact (Or.inl ⟨rfl, _, SqL.of (by assumption)⟩)
  | exact ClsV.ty _
  | exact .cons (.ty _) (.cons (.ty _) .nil)
  | (refine szl ?_; simp only [List.length_cons, List.length_nil, List.length_append, List.length_map, List.length_replicate]; omega)
  | (refine szm ?_; simp only [List.length_cons, List.length_nil, List.length_append, List.length_map, List.length_replicate]; omega))
local macro_rules | `(tactic| walk_at "s") => `(tactic| (first
  | (refine And.intro ?l ?_; (case l => walk_at "ev1"))
  | with_reducible refine iteT ?_
  | with_reducible refine iteF ?_
  | with_reducible refine ite_dec rfl ?_
  | with_reducible refine iteNS rfl ?_
  | with_reducible refine iteNS (by assumption) ?_
  | (apply Or.inl; apply Exists.intro; apply And.intro rfl)
  | (apply Or.inr; apply Exists.intro; apply And.intro rfl)
  | ((fail_if_success (refine @Exists.intro (Nat → Nat → L2.St → Hp → Prop) _ ?_ ?_)); (fail_if_success (refine @Exists.intro (Nat → L2.St → Hp → Prop) _ ?_ ?_)); (fail_if_success (refine @Exists.intro (L2.St → Hp → Prop) _ ?_ ?_)); (fail_if_success (refine @Exists.intro (Hp → Prop) _ ?_ ?_)); (fail_if_success (refine @Exists.intro (Nat → Nat → Hp → Prop) _ ?_ ?_)); apply Exists.intro)))
local macro_rules | `(tactic| walk_at "ev") => `(tactic| repeat (walk_at "s"))
local macro_rules | `(tactic| w_cond $i:ident) => do
  let b := (i.getId.toString.drop 1).toString
  let l := Lean.mkIdent (.mkSimple ("l" ++ b))
  let hl := Lean.mkIdent (.mkSimple ("hl" ++ b))
  let h := Lean.mkIdent (.mkSimple ("H" ++ b))
  let sm := Lean.mkIdent (.mkSimple ("sm" ++ b))
  let hq := Lean.mkIdent (.mkSimple ("hq" ++ b))
  `(tactic| (intro $l:ident $hl:ident; generalize hG : upd _ $l:ident _ = $h:ident; obtain ⟨$sm:ident, $hq:ident⟩ := newO hG $hl:ident; clear hG))
/-! ### a caught exception that a name keeps behind its clause -/
/-- at a: an exception of the class at C, its dict at d -/
def XOb (C d a : Addr) : HO := .ext fun h => ∃ (ob : Obj) (fl : Array Value), h.get? a = some ob ∧ Zc (.ref C) (some d) ob ∧ ob.data = .fields fl
theorem xob_ok {P : Program} {w : World} {H : Hp} {h : Heap} {C d a : Addr} {ob : Obj} {fl : Array Value} (q1 : h.get? a = some ob) (q2 : Zc (.ref C) (some d) ob) (q3 : ob.data = .fields fl) : ObjOk P w H h a (XOb C d a) :=
  ⟨⟨ob, fl, q1, q2, q3⟩, ⟨ob, q1⟩, fun _ _ ⟨u, v, r1, r2⟩ k => ⟨u, v, k u r1, r2⟩⟩
/-- an object of the heap that nobody tracks is tracked from now on -/
theorem track {X : Cx} {pins : List (Addr × Obj)} {σ : L2.St} {H : Hp} {s : Shared} {a : Addr} {o : HO} (I : Inv X pins σ H s) (n0 : X.s_0.heap.get? a = none) (hn : H a = none) (nL : a ≠ X.env.locals) (nC : ∀ x c, X.env.cells.lookup x = some c → c ≠ a)
    (nP : ∀ p ∈ X.pn ++ pins, p.1 ≠ a) (new : ObjOk X.prog X.w (upd H a o) s.heap a o) : Inv X pins σ (upd H a o) s := by
  have ne : ∀ {b : Addr} {u : HO}, H b = some u → b ≠ a := fun e => ne_of_none e hn
  refine ⟨I.ok, I.os, I.bare, ⟨I.base.keep, I.base.slot, fun b u e n hx => ?_, I.base.there, fun b xs e => ?_, fun b u v e => ?_, fun b ps e => ?_⟩, I.loc, I.cell, ?_, fun x c e => ?_, fun p hp => ?_, I.hok.laidN (fun _ _ z => z) hn new, I.len⟩
  · have : b ≠ a := fun z => by
      rw [z, n0] at e
      cases e
    rw [upd_ne this]
    exact I.base.free b u e n hx
  · have q := I.base.tups b xs e
    rw [upd_ne (ne q)]
    exact q
  · have q := I.base.frzs b u v e
    rw [upd_ne (ne q)]
    exact q
  · obtain ⟨m, q⟩ := I.base.tbls b ps e
    exact ⟨m, by rw [upd_ne (ne q)]; exact q⟩
  · rw [upd_ne nL.symm]
    exact I.free
  · rw [upd_ne (nC x c e)]
    exact I.freeC x c e
  · obtain ⟨e, n, r⟩ := I.pin p hp
    exact ⟨e, by rw [upd_ne (nP p hp)]; exact n, r⟩
/-- what 'except x as n: ..' wishes, the exception tracked behind it -/
def wKeep (K : PySem.W.Frag) (c : Value) (i : Nat) (ts : Addr → TS) (Wout : WX) (D : Ends) : WX := fun cls d σ H =>
  ∃ b, PySem.W.exmOne K cls c = some b ∧ (b = true → ∃ C dd, cls = .ref C ∧ d = some dd ∧ ∀ a, H a = none →
    ts a { nx := fun σ2 H2 => D.nx (σ2.set i none) (upd H2 a (XOb C dd a)), rt := fun _ _ => False, bk := fun _ _ => False, ct := fun _ _ => False } (σ.set i (some (.ref a))) H) ∧ (b = false → Wout cls d σ H)
section
variable {X : Cx} {x n : Str} {c : Value} {i : Nat} {body suite : List Stmt} {b₀ : Stmt} {np pos pos' : Pos} {tb : WX → TS} {ts : Addr → TS} {Wout : WX}
theorem ps_try_keep (hs : X.stack = X.env :: X.outer) (hf : X.env.frame = some X.env.locals) (hex : X.ex = []) (hN : X.N.Nodup) (hi : X.N[i]? = some n) (hln : X.env.kindOf n = some .local) (hc : Names X x c) (tk : Takes X Wout)
    (hb : ∀ (W : WX) (pn : List (Addr × Obj)) (xe : Value → Shared → Prop), Takes (X.tr pn xe) W → PassesOwn (model X.prog X.w) X.A X.env xe → PSs (X.tr pn xe) body (tb W))
    (hsu : ∀ (a : Addr) (pn : List (Addr × Obj)), PSs (X.suite a pn) (b₀ :: suite) (ts a)) :
    PS X (.Try body [.ExceptHandler (some (.Name x np)) (some n) (b₀ :: suite) pos'] [] [] pos) (fun D σ H => tb (wKeep X.K c i ts Wout D) D σ H) := by
  refine ⟨fun pins s σ H D I h => ?_⟩
  have ok := I.ok
  have fr : X.A.frames = some (X.env :: X.outer) := ok.frames.trans (congrArg some hs)
  refine wpAny_Try_except (wpAny_mono ((hb (wKeep X.K c i ts Wout D) (X.pn ++ pins) (fun e s1 => wpAny (model X.prog X.w) X.A (noteFrame e X.env)
    (fun _ s2 => wpAny (model X.prog X.w) X.A (setFlight e none) (fun _ s3 => wpAny (model X.prog X.w) X.A (handleBy e X.env [.ExceptHandler (some (.Name x np)) (some n) (b₀ :: suite) pos']) (SP X pins D) X.xe s3) X.xe s2) X.xe s1)
    (fun u s1 fly => ?_) PassesOwn.looking).run [] s σ H D (I.toTry _) h) (fun f s1 q => ?_) (fun _ _ z => z))
  · obtain ⟨a, B, s0, pins1, σ1, H1, cls, d, rfl, J0, nb, up, sky, na, os, ag, b, hm, yes, no⟩ := fly
    have J : Inv X pins σ1 H1 s0 := J0.ofTry ok
    have sky1 : Sky B (X.env :: X.outer) a (Zc cls d) X.env.locals s1.heap := hs ▸ sky
    show wpAny (model X.prog X.w) X.A (noteFrame (.ref a) X.env) _ _ _
    refine Sky.land Zc.steady fr hf sky1 fun g3 fly3 up3 => ?_
    have J3 : Inv X pins σ1 H1 { s1 with heap := g3 } := J.landed nb fly3.1 (up.trans up3) os ag
    obtain ⟨o3, f3, e3, z3, d3⟩ := fly3.there
    have away : a ∉ frs (X.env :: X.outer) := fun hmem => by
      obtain ⟨_, o', e', hnf⟩ := fly3.2.2.1.mem hmem
      cases e3.symm.trans e'
      exact hnf _ d3
    have nL : a ≠ X.env.locals := fun z => away (List.mem_filterMap.mpr ⟨X.env, List.mem_cons_self, hf.trans (congrArg some z.symm)⟩)
    have nF : a ∉ X.fs := fun hmem => by
      obtain ⟨e, he, q⟩ := List.mem_filterMap.mp hmem
      exact away (List.mem_filterMap.mpr ⟨e, List.mem_cons_of_mem _ he, q⟩)
    have nB : B.get? a = none := fly3.2.1
    have n0 : X.s_0.heap.get? a = none := by
      cases e : X.s_0.heap.get? a with
      | none => rfl
      | some o =>
        obtain ⟨o', q⟩ := J.base.there a o e (by rw [hex]; exact fun z => nomatch z)
        have q2 := nb a o' q (by rw [hs]; exact away)
        rw [nB] at q2
        cases q2
    have nP : ∀ p ∈ X.pn ++ pins, p.1 ≠ a := fun p hp z => by
      obtain ⟨q, _⟩ := J.pin p hp
      have q2 := nb p.1 p.2 q (by rw [hs, z]; exact away)
      rw [z, nB] at q2
      cases q2
    have S3 := J3.suite e3 d3 na nL nF
    have lt : PySem.W.Looks (model X.prog X.w) g3 (typeOf (.ref a)) cls := fun A Q E s k q => wpAny_typeOf_ref (k _ _ e3) (by rw [z3.1]; exact q)
    have lm := PySem.W.exm_one (M := model X.prog X.w) J3.kIn lt hm
    refine wpAny_handleBy_cons (codeAny_handlers_test ?_) (fun q => nomatch q)
    have named : ∀ {Q E : Value → Shared → Prop}, Q c { s1 with heap := g3 } → wpAny (model X.prog X.w) (X.A.mark (some (.ref a))) (eval (.Name x np) X.env) Q E { s1 with heap := g3 } := fun {Q E} q => by
      rcases hc with ⟨hg, hdb, hm1 | ⟨hm1, hv, hnn⟩⟩
      · exact ld_glob (X := X.suite a ((a, o3) :: (X.pn ++ pins))) S3 hg hm1 q hdb
      · exact ld_blt (X := X.suite a ((a, o3) :: (X.pn ++ pins))) S3 hg hm1 hv q hnn hdb
    refine named (lm.here ?_)
    cases b with
    | true =>
      obtain ⟨C, dd, ec, ed, yes⟩ := yes rfl
      refine codeAny_handlers_suite_as (HandSPX.lands_againZ fly3 fun g4 fly4 up4 => ?_)
      have J4 : Inv X pins σ1 H1 { s1 with heap := g4 } := J.landed nb fly4.1 ((up.trans up3).trans up4) os ag
      obtain ⟨o4, f4, e4, z4, d4⟩ := fly4.there
      refine store_ok (X := X.suite a ((a, o4) :: (X.pn ++ pins))) (v := .ref a) (J4.suite e4 d4 na nL nF) hN hi (.inl hln) rfl (fun s5 S5 => ?_) (.inr hln)
      refine wpAny_mono ((hsu a ((a, o4) :: (X.pn ++ pins))).run [] s5 _ H1 _ S5 (yes a na)) (fun f s6 q6 => ?_) (fun _ _ z => z.elim)
      cases f with
      | next =>
        obtain ⟨σ6, H6, S6, q6⟩ := q6
        refine gone_ok (X := X.suite a ((a, o4) :: (X.pn ++ pins))) (pins := []) S6 hN hi hln fun s7 S7 => ?_
        obtain ⟨e7, n7, _⟩ := S7.pin (a, o4) (List.mem_append_left _ List.mem_cons_self)
        refine ⟨_, _, track (S7.unsuite ok) n0 n7 nL (fun y c' ey z => ?_) nP (xob_ok (C := C) (d := dd) e7 (by rw [← ec, ← ed]; exact z4) d4), q6⟩
        obtain ⟨v, ob, q1, q2⟩ := S7.cell y c' ey
        subst z
        cases e7.symm.trans q1
        cases d4.symm.trans q2
      | brk =>
        obtain ⟨_, _, _, q6⟩ := q6
        exact q6.elim
      | cont =>
        obtain ⟨_, _, _, q6⟩ := q6
        exact q6.elim
      | ret u =>
        obtain ⟨_, _, _, _, _, q6⟩ := q6
        exact q6.elim
    | false =>
      show wpAny _ X.A (handleBy (.ref a) X.env []) _ _ _
      refine wpAny_handleBy_nil ?_
      obtain ⟨k1, k2, k3, ob, fl, T, oT, tl, he, hz, hd, h1, hr⟩ := id fly3
      unfold PySem.passOn
      refine wpAny_bind (wpAny_field he hd h1 ?_)
      rw [if_neg (show ¬ ((Value.ref T == Value.none) = true) from by simp)]
      have fin : wpAny (model X.prog X.w) X.A (setFlight (.ref a) X.env.frame) (fun _ s4 => wpAny (model X.prog X.w) X.A (throw (.ref a) : Sem Flow) (SP X pins D) X.xe s4) X.xe { s1 with heap := g3 } := by
        rw [hf]
        exact HandSPX.setFlight_upZ fly3 fun g4 held4 up4 => wpAny_throw (tk _ _ ⟨a, B, s0, pins, σ1, H1, cls, d, rfl, J, nb, (up.trans up3).trans up4, .inr (.inr (hs ▸ held4)), na, os, ag, no rfl⟩)
      first
        | exact wpAny_bind (wpAny_pure (wpAny_bind fin))
        | exact wpAny_bind fin
  · cases f with
    | next =>
      obtain ⟨σ1, H1, J, q⟩ := q
      exact wpAny_execs_nil ⟨σ1, H1, J.ofTry ok, q⟩
    | brk =>
      obtain ⟨σ1, H1, J, q⟩ := q
      exact ⟨σ1, H1, J.ofTry ok, q⟩
    | cont =>
      obtain ⟨σ1, H1, J, q⟩ := q
      exact ⟨σ1, H1, J.ofTry ok, q⟩
    | ret u =>
      obtain ⟨v, σ1, H1, J, r, q⟩ := q
      exact ⟨v, σ1, H1, J.ofTry ok, r, q⟩
end
/-- what is told of an own exception class -/
structure ExK (K : PySem.W.Frag) (C : Addr) : Prop where
  oex : OexC K C
  xf : XfC K C
  ec : ExcC K C
  nw : PySem.W.findIn K (.ref C) "what" = some none
/-- an exception object, tracked, with its fields -/
def XAt (H : Hp) (a C : Addr) (fs : List (Str × V)) : Prop := ∃ d, H a = some (XOb C d a) ∧ H d = some (.xd fs)
theorem XAt.same {H H' : Hp} {a C : Addr} {fs : List (Str × V)} (h : XAt H a C fs) (e : Same H H') : XAt H' a C fs := by
  obtain ⟨d, h1, h2⟩ := h
  exact ⟨d, e _ _ h1, e _ _ h2⟩
theorem xat_inst {X : Cx} {pins : List (Addr × Obj)} {σ : L2.St} {H : Hp} {s : Shared} {a C : Addr} {fs : List (Str × V)} (I : Inv X pins σ H s) (h : XAt H a C fs) : ∃ (ob od : Obj) (mA : Str → Option Value), PySem.W.InstAt s.heap a ob C (some od) ∧ (∀ name, PySem.W.lookIn name od = some (mA name)) ∧ ∀ f, RelO (fs.lookup f) (mA f) := by
  obtain ⟨d, h1, h2⟩ := h
  obtain ⟨⟨ob, fl, q1, q2, q3⟩, _, _⟩ := (show ObjOk X.prog X.w H s.heap a (XOb C d a) from I.hok a _ h1)
  obtain ⟨mA, hns, hr⟩ := (show ObjOk X.prog X.w H s.heap d (.xd fs) from I.hok d _ h2)
  obtain ⟨od, ho, hl⟩ := lookIn_ns hns
  exact ⟨ob, od, mA, ⟨q1, q2.1, by unfold PySem.W.notCls; rw [q3] <;> rfl, by rw [q2.2]; exact ho⟩, hl, hr⟩
/-- isinstance(e, c), e tracked -/
def rIsX (K : PySem.W.Frag) : List V → Hp → VK → Prop := fun xs H Q => ∃ (a C : Addr) (fs : List (Str × V)) (c : V) (cv : Value) (b : Bool), xs = [.ref a, c] ∧ XAt H a C fs ∧ ExK K C ∧ ClsV c cv ∧ PySem.W.kitOne K (.ref C) cv = some b ∧ Q (.bl b) H
def rIsXT (K : PySem.W.Frag) : List V → Hp → VK → Prop := fun xs H Q => ∃ (a C tp : Addr) (fs : List (Str × V)) (cs : List V) (us : List Value) (b : Bool), xs = [.ref a, .ref tp] ∧ H tp = some (.tup cs) ∧ XAt H a C fs ∧ ExK K C ∧ Paired ClsV cs us ∧ PySem.W.kitAny K (.ref C) us = some b ∧ Q (.bl b) H
theorem kit_x {K : PySem.W.Frag} {a C : Addr} {ob od : Obj} (E : ExK K C) : PySem.W.KitX K (.ref a) (.ref C) (fun h => PySem.W.InstAt h a ob C (some od)) := by
  obtain ⟨cd, hc, _⟩ := PySem.W.any_some E.ec.hd
  exact PySem.W.kitx_exc (by rw [hc]; rfl) E.ec.hg E.ec.hk E.ec.hs E.ec.ha E.ec.hn E.ec.ht E.ec.hm
theorem call_isX {X : Cx} : CallR X (.builtin "isinstance") (rIsX X.K) := by
  intro pins s σ H xs us Q I r h
  obtain ⟨a, C, fs, c, cv, b, rfl, hx, E, k, e, q⟩ := h
  obtain ⟨u1, u2, rfl, r1, r2⟩ := vals2 r
  cases (show u1 = Value.ref a from r1)
  have e2 := k.eq r2
  subst e2
  obtain ⟨ob, od, mA, J, _, _⟩ := xat_inst I hx
  exact PySem.W.kia_one (kit_x E) I.kIn J e (fun z => nomatch z) fun tk => ⟨.bl b, H, I.tok tk, rfl, q⟩
theorem call_isXT {X : Cx} : CallR X (.builtin "isinstance") (rIsXT X.K) := by
  intro pins s σ H xs us Q I r h
  obtain ⟨a, C, tp, fs, cs, ws, b, rfl, hT, hx, E, k, e, q⟩ := h
  obtain ⟨u1, u2, rfl, r1, r2⟩ := vals2 r
  cases (show u1 = Value.ref a from r1)
  cases (show u2 = Value.ref tp from r2)
  obtain ⟨ob, od, mA, J, _, _⟩ := xat_inst I hx
  obtain ⟨_, its, rv, o, h1, h2, n, h3⟩ := (show ObjOk X.prog X.w H s.heap tp (.tup cs) from I.hok tp _ hT)
  have e3 := ClsV.all k rv
  subst e3
  rcases o with ⟨oc, od', dt, sl⟩
  dsimp only at h2 h3
  cases h2
  cases h3
  exact PySem.W.kia_tup (kit_x E) I.kIn J h1 e (fun z => nomatch z) fun tk => ⟨.bl b, H, I.tok tk, rfl, q⟩
/-- e.f, e tracked -/
def tXw (K : PySem.W.Frag) (f : Str) (te : TE) : TE := fun σ H Q => te σ H fun x H1 => ∃ (a C : Addr) (fs : List (Str × V)) (v : V), x = .ref a ∧ XAt H1 a C fs ∧ ExK K C ∧ PySem.W.findIn K (.ref C) f = some none ∧ fs.lookup f = some v ∧ Q v H1
theorem pe_xw {X : Cx} {e : Expr} {te : TE} {pos : Pos} {n : Str} (he : PE X e te) (hb : attributeBase e n X.env (eval e X.env) = eval e X.env := by rfl) : PE X (.Attribute e n pos) (tXw X.K n te) := by
  refine ⟨fun pins s σ H Q I h => attr_of hb (thn (he.run pins s σ H _ I h) fun u s1 hh => ?_)⟩
  obtain ⟨x, H1, I1, rx, a, C, fs, v, ex, hx, E, hno, l, q⟩ := hh
  subst ex
  cases (show u = Value.ref a from rx)
  obtain ⟨ob, od, mA, J, hl, hr⟩ := xat_inst I1 hx
  obtain ⟨u, hu, ru⟩ := RelO.some_of (v := v) (o := mA n) (by rw [← l]; exact hr n)
  exact HandSPX.exc_get I1.kIn J E.xf.ga E.xf.gg E.xf.exC (PySem.W.findObj_own E.xf.hdC hno rfl (by rw [hl, hu])) (handed_of ru) ⟨v, H1, I1.tok _, ru, q⟩
/-! ### methods and classes, what they raise wished for at the caller's slots -/
def tMethS (C : Addr) (m : Str) (sp : Sp) (E : L2.St → XK) (ta : TE) (t : TA) : TE := fun σ H Q => ta σ H fun x H1 => ∃ a dx fs, x = .ref a ∧ H1 a = some (.ins C dx fs) ∧ fs.lookup m = none ∧ t σ H1 fun vs H2 => sp (x :: vs) H2 Q (E σ)
def tMakeS (C : Addr) (sp : Sp) (E : L2.St → XK) (t : TA) : TE := fun σ H Q => t σ H fun vs H1 => ∀ x dx, H1 x = none → H1 dx = none → dx ≠ x → sp (.ref x :: vs) (upd (upd H1 dx (.own x)) x (.ins C dx [])) (fun v H2 => v = .non ∧ Q (.ref x) H2) (E σ)
section
variable {X : Cx} {CX : CXT} {k : Nat} {f C : Addr} {fd : FuncData} {ps : List Str} {sp : Sp} {E : L2.St → XK} {x m : Str} {p pos apos : Pos} {e o : Expr} {es : List Expr} {ta : TE} {t : TA}
theorem pe_methS {pl : Sem Bool} (he : PE X o ta) (c : L2.Cls X.K C) (hm : Meth X.K C m f) (F : FnOk X.prog X.w X.K X.mg X.base CX k f fd ps sp) (hr : Room k X.A) (hb : Binds X.K fd ps []) (hx : ∀ σ, PassesAt CX X σ (E σ)) (ha : PA X (e :: es) t)
    (hst : starEach (e :: es) X.env = (false, eval e X.env) :: starEach es X.env := by rfl) (hpl : (backTo pos (starEach es X.env)).any (·.1) = false := by rfl)
    (ht : eval (.Call (.Attribute o m apos) (e :: es) [] pos) X.env = (do
      let ov ← eval o X.env
      standAt apos.atName
      let (f, first) ← holding [ov] (getMethod ov m pl)
      callWith pos f first (backTo pos (starEach (e :: es) X.env)) (backToKw pos (keywordEach [] X.env))) := by rfl) : PE X (.Call (.Attribute o m apos) (e :: es) [] pos) (tMethS C m sp E ta t) := by
  refine ⟨fun pins s σ H Q I h => PySem.W.methodCall_KW (pl := pl) (thn (he.run pins s σ H _ I h) fun u s1 q1 => ?_) ht⟩
  obtain ⟨y, H1, I1, ry, a, dx, fs, ey, ea, l, q⟩ := q1
  subst ey
  cases (show u = Value.ref a from ry)
  refine getmeth_ok I1 ea c hm l (PySem.W.callWith_K (first := [.ref a]) (h₀ := X.base) I.ok.mod.kin hm.kp (thn (ha.run pos pins s1 σ H1 _ I1 q) fun us s2 q2 => ?_) hst hpl)
  obtain ⟨vs, H2, I2, r, q2⟩ := q2
  exact ⟨I2.kIn, run_fnS (us := .ref a :: us) (vs := .ref a :: vs) F hr hb (hx σ) I2 (.cons rfl r) q2⟩
theorem run_makeS {pins : List (Addr × Obj)} {σ : L2.St} {H : Hp} {s : Shared} {Q : VK} {us : List Value} {vs : List V} (M : Mk X.K C f) (F : FnOk X.prog X.w X.K X.mg X.base CX k f fd ps sp) (hr : Room (k + 1) X.A) (hb : Binds X.K fd ps []) (hx : PassesAt CX X σ (E σ)) (I : Inv X pins σ H s) (r : Vals vs us)
    (h : ∀ y dx, H y = none → H dx = none → dx ≠ y → sp (.ref y :: vs) (upd (upd H dx (.own y)) y (.ins C dx [])) (fun v H2 => v = .non ∧ Q (.ref y) H2) (E σ)) : wpAny (model X.prog X.w) X.A (call (.ref C) us) (EP X pins σ Q) X.xe s := by
  have hq := h (s.heap.objs.size + 1) s.heap.objs.size (I.hok.fresh (Nat.le_succ _)) (I.hok.fresh (Nat.le_refl _)) (Nat.ne_of_lt (Nat.lt_succ_self _))
  have J := Inv.made (C := C) I
  have r2 : Vals (V.ref (s.heap.objs.size + 1) :: vs) (Value.ref (s.heap.objs.size + 1) :: us) := .cons rfl r
  have hl : (Value.ref (s.heap.objs.size + 1) :: us).length = ps.length := r2.length.symm.trans (F.len _ _ _ _ hq)
  have bi := hb _ (Value.ref (s.heap.objs.size + 1) :: us) J.kIn (by rw [List.append_nil]; exact hl)
  rw [List.append_nil] at bi
  refine wpAny_call (make_map (f := f) I.kIn M.makes M.init (beq_iff_eq.mp M.fn) (codeAny_mono (F.run _ X.stack _ _ ⟨_, []⟩ _ _ _ (E σ) (hr.make C us []) (J.env0.make C us []) bi r2 hq) fun rs s1 q1 => ?_))
  cases rs with
  | error er => exact hx pins _ _ er s1 J q1
  | ok fl =>
    cases fl with
    | ret u =>
      obtain ⟨v, H3, I3, rv, ev, q3⟩ := J.after q1
      subst ev
      exact ⟨rv, ⟨V.ref (s.heap.objs.size + 1), H3, I3, rfl, q3⟩⟩
    | next => exact q1.elim
    | brk => exact q1.elim
    | cont => exact q1.elim
theorem pe_makeS (M : Mk X.K C f) (F : FnOk X.prog X.w X.K X.mg X.base CX k f fd ps sp) (hr : Room (k + 1) X.A) (hg : Gl X x) (hm : X.mg x = some (.ref C)) (hb : Binds X.K fd ps []) (hx : ∀ σ, PassesAt CX X σ (E σ)) (ha : PA X (e :: es) t)
    (hdb : (x == ("__debug__" : Str)) = false := by decide) (he : starEach (e :: es) X.env = (false, eval e X.env) :: starEach es X.env := by rfl) (hpl : (backTo pos (starEach es X.env)).any (·.1) = false := by rfl) : PE X (.Call (.Name x p) (e :: es) [] pos) (tMakeS C sp E t) := by
  refine ⟨fun pins s σ H Q I h => wpAny_Call_Name_kw (ld_glob I hg hm (PySem.W.callWith_K (h₀ := X.base) I.ok.mod.kin M.kp (thn (ha.run pos pins s σ H _ I h) fun us s1 q1 => ?_) he hpl) hdb)⟩
  obtain ⟨vs, H1, I1, r, q⟩ := q1
  exact ⟨I1.kIn, run_makeS M F hr hb (hx σ) I1 r q⟩
end
/-! ### the drawing -/
theorem log2_lt60 {t : Int} (h0 : 0 < t) (h : t < 1152921504606846976) : t.natAbs.log2 < 9000 := by
  have h1 : t.natAbs < 2 ^ 60 := by
    have : (2 : Nat) ^ 60 = 1152921504606846976 := by decide
    omega
  exact Nat.lt_trans ((Nat.log2_lt (by omega)).mpr h1) (by decide)
abbrev s__law_take : Stmt := top 17
abbrev N__law_take : List Str := ["_law_box_here", "_law_top", "_law_found", "_law_once"]
abbrev P__law_take : List Str := ["_law_box_here", "_law_top"]
theorem sc__law_take : FnScope N__law_take P__law_take (defScope s__law_take) := ⟨rfl, rfl, rfl, by decide +kernel, rfl, by decide +kernel, by decide +kernel⟩
def spTake : Sp := fun vs H Q _ => ∃ (b : Addr) (top n : Int), vs = [.ref b, .int top] ∧ BoxAt H b n ∧ 0 < top ∧ top < 1152921504606846976 ∧ n < 1048576 ∧ ∀ r H', 0 ≤ r → r < top → Keep b H H' → BoxAt H' b (n + 1) → Q (.int r) H'
section
variable {P : Program} {w : World} {K : PySem.W.Frag} {mg : Str → Option Value} {base : Heap}
theorem ok_take {f : Addr} {fd : FuncData} {k : Nat} (F : Fun K "_law_take" "_law_take" s__law_take f fd) : FnOk P w K mg base CX0 (k + 1) f fd P__law_take spTake := by
  have nd := sc__law_take.nd
  refine F.ok sc__law_take (fun vs H Q E h => ?_) (fun cdv A outer s H vs Q E hr h => ?_)
  · obtain ⟨b, top, n, rfl, _⟩ := h
    rfl
  · obtain ⟨b, top, n, rfl, ⟨x, y, z, hb, hx, hy, hy2, hz, hzn⟩, ht, ht2, hn, q⟩ := h
    refine ⟨_, (pss_cons (ps_if (pt_cmpR op_gt (pe_ix (r := rIxL K) ix_list (pv 0) (pe_int) (fun _ _ => rfl)) (pe_int) (nomark _)) (pss_cons (ps_set (i := 2) nd rfl (Or.inl rfl) (pe_op op_mod (pe_ix (r := rIxL K) ix_list (pv 0) (pe_int) (fun _ _ => rfl)) (pv 1)))
      (pss_cons (ps_asg (pe_op op_fdivW (pe_ix (r := rIxL K) ix_list (pv 0) (pe_int) (fun _ _ => rfl)) (pv 1)) (pg_sub (pv 0) (pe_int) set_list))
      (pss_one (ps_ret (pv 2))))) pss_nil)
      (pss_cons (ps_asg (pe_op op_add (pe_ix (r := rIxL K) ix_list (pv 0) (pe_int) (fun _ _ => rfl)) (pe_int)) (pg_sub (pv 0) (pe_int) set_list))
      (pss_cons (ps_set (i := 3) nd rfl (Or.inl rfl) (pe_op op_mod (pe_op op_pow (pe_op op_add (pe_ix (r := rIxL K) ix_list (pv 0) (pe_int) (fun _ _ => rfl)) (pe_op op_mul (pe_int) (pe_ix (r := rIxL K) ix_list (pv 0) (pe_int) (fun _ _ => rfl)))) (pe_int)) (pe_int)))
      (pss_one (ps_ret (pe_op op_mod (pe_op op_fdivW (pe_op op_mod (pe_op op_add (pe_op op_mul (pv 3) (pe_op op_add (pe_op op_mod (pv 3) (pe_int)) (pe_int))) (pe_op op_mul (pe_ix (r := rIxL K) ix_list (pv 0) (pe_int) (fun _ _ => rfl)) (pe_int))) (pe_int)) (pe_int)) (pv 1))))))), ?_⟩
    have hL : SqL K H b [.int x, .int y, .int z] := SqL.of hb
    have cw : ∀ i : Int, CDivW i top := fun i => ⟨ht, log2_lt60 ht ht2⟩
    have cw6 : ∀ i : Int, CDivW i 64 := fun i => ⟨by decide, by decide⟩
    have cw1 := cw x
    walk_at "ev"
    refine ite2 (fun e => ?_) (fun e => ?_)
    · have e1 : 0 < x := of_decide_eq_true e
      walk_at "ev"
      exact q _ _ (Int.emod_nonneg _ (by omega)) (Int.emod_lt_of_pos _ ht) (keep_upd (Keep.refl _ _)) ⟨_, _, _, upd_same, Int.ediv_nonneg hx (by omega), hy, hy2, hz, by omega⟩
    · walk_at "ev"
      exact q _ _ (Int.emod_nonneg _ (by omega)) (Int.emod_lt_of_pos _ ht) (keep_upd (Keep.refl _ _)) ⟨_, _, _, upd_same, hx, hy, hy2, by omega, by omega⟩
end
abbrev s__law_box : Stmt := top 16
abbrev N__law_box : List Str := ["_law_script", "_law_k", "_law_cell"]
abbrev P__law_box : List Str := ["_law_script", "_law_k"]
theorem sc__law_box : FnScope N__law_box P__law_box (defScope s__law_box) := ⟨rfl, rfl, rfl, by decide +kernel, rfl, by decide +kernel, by decide +kernel⟩
def spBox (K : PySem.W.Frag) : Sp := fun vs H Q _ => ∃ (a : Addr) (ns : List Int) (k : Int), vs = [.ref a, .int k] ∧ SqL K H a (ns.map V.int) ∧ 0 ≤ k ∧ k ≤ 100000 ∧ ∀ p H', H p = none → Same H H' → BoxAt H' p 0 → Q (.ref p) H'
section
variable {P : Program} {w : World} {K : PySem.W.Frag} {mg : Str → Option Value} {base : Heap}
theorem ok_box {f : Addr} {fd : FuncData} {k : Nat} (F : Fun K "_law_box" "_law_box" s__law_box f fd) (T : Blt mg) : FnOk P w K mg base CX0 (k + 1) f fd P__law_box (spBox K) := by
  have nd := sc__law_box.nd
  refine F.ok sc__law_box (fun vs H Q E h => ?_) (fun cdv A outer s H vs Q E hr h => ?_)
  · obtain ⟨b, top, n, rfl, _⟩ := h
    rfl
  · obtain ⟨a, ns, k, rfl, hL, h0, h1, q⟩ := h
    refine ⟨_, (pss_cons (ps_set (i := 2) nd rfl (Or.inl rfl) (pe_int))
      (pss_cons (ps_if (pt_cmpR op_lt (pv 1) (pe_callB (r := rLenQ K) call_len_seq (by rfl) T.b_len (by decide +kernel) (pa_cons (pv 0) pa_nil)) (nomark _)) (pss_one (ps_set (i := 2) nd rfl (Or.inl rfl) (pe_ix (r := rIxL K) ix_list (pv 0) (pv 1) (fun _ _ => rfl)))) pss_nil)
      (pss_one (ps_ret (pe_lst (pa_cons (pe_op op_mul (pe_callB call_abs (by rfl) T.b_abs (by decide +kernel) (pa_cons (pv 2) pa_nil)) (pe_callTy call_int1 (by rfl) T.b_int (by decide +kernel) (pa_cons (pe_cmpR op_ge (pe_callB call_abs (by rfl) T.b_abs (by decide +kernel) (pa_cons (pv 2) pa_nil)) (pe_op op_pow (pe_int) (pe_int)) (nomark _)) pa_nil))) (pa_cons (pe_op op_add (pe_op op_add (pe_op op_mod (pv 2) (pe_int)) (pe_op op_mul (pe_int) (pv 1))) (pe_int)) (pa_cons (pe_int) pa_nil)))))))), ?_⟩
    have fin : ∀ c : Int, ∀ p, H p = none → Q (.ref p) (upd H p (.lst [.int ((if c < 0 then -c else c) * (if decide ((10 : Int) ^ 18 ≤ if c < 0 then -c else c) then 1 else 0)), .int (c % 2147483629 + 7919 * k + 11), .int 0])) := by
      intro c p hp
      refine q p _ hp (same_new hp) ⟨_, _, _, upd_same, ?_, ?_, ?_, by omega, by omega⟩
      · refine Int.mul_nonneg ?_ ?_
        · split <;> omega
        · split <;> omega
      · have := Int.emod_nonneg c (show (2147483629 : Int) ≠ 0 by decide)
        omega
      · have := Int.emod_lt_of_pos c (show (0 : Int) < 2147483629 by decide)
        omega
    walk_at "ev"
    refine ite2 (fun e => ?_) (fun e => ?_)
    · have e1 : k < ((ns.map V.int).length : Int) := of_decide_eq_true e
      rw [List.length_map] at e1
      obtain ⟨c, hc, hat⟩ := at_ints h0 e1
      walk_at "ev"
      exact fin c
    · walk_at "ev"
      exact fin 0
end
/-! ### kinds of things -/
inductive Kd (K : PySem.W.Frag) (H : Hp) : V → String → Prop
  | non : Kd K H .non "NoneType"
  | bl (b : Bool) : Kd K H (.bl b) "bool"
  | int (i : Int) : Kd K H (.int i) "int"
  | str (x : Str) : Kd K H (.str x) "str"
  | lst {a : Addr} {xs : List V} : SqL K H a xs → Kd K H (.ref a) "list"
  | tup {a : Addr} {xs : List V} : SqT K H a xs → Kd K H (.ref a) "tuple"
theorem Kd.ty {K : PySem.W.Frag} {H : Hp} {x : V} {t : String} (h : Kd K H x t) : TyX K H x (.type t) := by
  cases h with
  | non => exact .base .non
  | bl b => exact .base (.bl b)
  | int i => exact .base (.int i)
  | str x => exact .base (.str x)
  | lst h =>
    rcases h with (h | ⟨o, h⟩) | ⟨o, its, n, h1, h2, _⟩
    · exact .base (.lst h)
    · exact .base (.frz h)
    · exact .kList h1 h2
  | tup h =>
    rcases h with (h | ⟨o, h⟩) | ⟨o, its, n, h1, h2, _⟩
    · exact .base (.tup h)
    · exact .fTuple h
    · exact .kTuple h1 h2
theorem Kd.same {K : PySem.W.Frag} {H H' : Hp} {x : V} {t : String} (h : Kd K H x t) (e : Same H H') : Kd K H' x t := by
  cases h with
  | non => exact .non
  | bl b => exact .bl b
  | int i => exact .int i
  | str x => exact .str x
  | lst h => exact .lst (e.seq h)
  | tup h => exact .tup (same_t e h)
def tis (t c : String) : Bool := t == c || (t == "bool" && c == "int")
theorem Kd.kit {K : PySem.W.Frag} {H : Hp} {x : V} {t : String} (h : Kd K H x t) : PySem.W.kitOne K (.type t) (.type "int") = some (tis t "int") ∧ PySem.W.kitOne K (.type t) (.type "bool") = some (tis t "bool") ∧ PySem.W.kitOne K (.type t) (.type "str") = some (tis t "str") ∧ PySem.W.kitOne K (.type t) (.type "list") = some (tis t "list") ∧ PySem.W.kitOne K (.type t) (.type "tuple") = some (tis t "tuple") := by
  cases h <;> exact ⟨kit_ty (by decide +kernel), kit_ty (by decide +kernel), kit_ty (by decide +kernel), kit_ty (by decide +kernel), kit_ty (by decide +kernel)⟩
theorem kit_lt {K : PySem.W.Frag} {t : String} {a b : Bool} (h1 : PySem.W.kitOne K (.type t) (.type "list") = some a) (h2 : PySem.W.kitOne K (.type t) (.type "tuple") = some b) : PySem.W.kitAny K (.type t) [.type "list", .type "tuple"] = some (a || b) := by
  refine kitAny_cons h1 (fun e => kitAny_cons h2 (fun e2 => ?_) (fun e2 => ?_)) (fun e => by rw [e]; rfl)
  · rw [e, e2]
    exact kitAny_nil
  · rw [e, e2]
    rfl
/-! ### == of lists of ints -/
theorem dp_ints {K : PySem.W.Frag} {H : Hp} : ∀ ns : List Int, DpAll K H (ns.map V.int) (ns.map PyData.int)
  | [] => .nil
  | n :: r => .cons (.int n) (dp_ints r)
theorem eqv_ints : ∀ ns ms : List Int, PyData.eqvAll (ns.map PyData.int) (ms.map PyData.int) = decide (ns = ms)
  | [], [] => by simp [PyData.eqvAll]
  | [], _ :: _ => by simp [PyData.eqvAll]
  | _ :: _, [] => by simp [PyData.eqvAll]
  | a :: r, b :: t => by
    simp only [List.map_cons, PyData.eqvAll, PyData.eqv, eqv_ints r t]
    by_cases h : a = b <;> by_cases h' : r = t <;> simp [h, h']
theorem eqd_ints {K : PySem.W.Frag} {H : Hp} {a b : Addr} {ns ms : List Int} {Q : VK} (ha : SqL K H a (ns.map V.int)) (hb : SqL K H b (ms.map V.int)) (q : Q (.bl (decide (ns = ms))) H) : rEqD K (.ref a) (.ref b) H Q := by
  refine ⟨_, _, .lst ha (dp_ints ns), .lst hb (dp_ints ms), PySem.W.ke_shaped_ints ns, PySem.W.ke_shaped_ints ms, ?_⟩
  have e : PyData.eqv (.list (ns.map PyData.int)) (.list (ms.map PyData.int)) = decide (ns = ms) := by
    rw [PyData.eqv]
    exact eqv_ints ns ms
  rw [e]
  exact q
/-! ### the law's own comparing, of like things -/
abbrev s__law_same : Stmt := top 19
abbrev N__law_same : List Str := ["_law_found", "_law_due", "_law_one", "_law_two"]
abbrev P__law_same : List Str := ["_law_found", "_law_due"]
theorem sc__law_same : FnScope N__law_same P__law_same (defScope s__law_same) := ⟨rfl, rfl, rfl, by decide +kernel, rfl, by decide +kernel, by decide +kernel⟩
def Fit : Nat → PyData → Prop
  | 0, .list _ => False
  | 0, .tuple _ => False
  | n + 1, .list ds => ds.length ≤ 4000 ∧ ∀ e ∈ ds, Fit n e
  | n + 1, .tuple ds => ds.length ≤ 4000 ∧ ∀ e ∈ ds, Fit n e
  | _, .dict _ => False
  | _, _ => True
theorem dpall_len {K : PySem.W.Frag} {H : Hp} : ∀ {xs : List V} {ds : List PyData}, DpAll K H xs ds → xs.length = ds.length
  | _, _, .nil => rfl
  | _, _, .cons _ h => by rw [List.length_cons, List.length_cons, dpall_len h]
theorem dpall_get {K : PySem.W.Frag} {H : Hp} : ∀ {xs : List V} {ds : List PyData} {i : Nat} {x : V}, DpAll K H xs ds → xs[i]? = some x → ∃ d, ds[i]? = some d ∧ Dp K H x d
  | _, _, _, _, .nil, h => by simp at h
  | _, _, 0, _, .cons (d := d) h1 h2, h => ⟨d, rfl, by
      have e := Option.some.inj h
      rw [← e]
      exact h1⟩
  | _, _, i + 1, _, .cons h1 h2, h => dpall_get (i := i) h2 h
mutual
theorem dp_same {K : PySem.W.Frag} {H H' : Hp} (e : Same H H') : ∀ {x : V} {d : PyData}, Dp K H x d → Dp K H' x d
  | _, _, .non => .non
  | _, _, .bl b => .bl b
  | _, _, .int i => .int i
  | _, _, .str x => .str x
  | _, _, .lst h a => .lst (e.seq h) (dpall_same e a)
  | _, _, .tup h a => .tup (same_t e h) (dpall_same e a)
theorem dpall_same {K : PySem.W.Frag} {H H' : Hp} (e : Same H H') : ∀ {xs : List V} {ds : List PyData}, DpAll K H xs ds → DpAll K H' xs ds
  | _, _, .nil => .nil
  | _, _, .cons h a => .cons (dp_same e h) (dpall_same e a)
end
def spSame (K : PySem.W.Frag) (n : Nat) : Sp := fun vs H Q _ => ∃ (x y : V) (d : PyData), vs = [x, y] ∧ Dp K H x d ∧ Dp K H y d ∧ Fit n d ∧ ∀ H', Same H H' → Q (.bl true) H'
/-- a comprehension over pairs -/
theorem lc_pairs {J : It} {xs ys : List V} {g : TG} {tt : TT} {te : TE} {vs : List Nat} {σ : L2.St} {H1 : Hp} {D : Addr} {Qd : Hp → Prop} (Pv : Nat → Hp → Prop) (h0 : Pv 0 (upd H1 D (.lst [])))
    (hgo : ∀ i H, Pv i H → i < xs.length → J.go i H) (hy : ∀ i H v H', Pv i H → i < xs.length → J.yld i H v H' → ∃ T x y, v = .ref T ∧ H T = none ∧ H' = upd H T (.tup [x, y]) ∧ xs[i]? = some x ∧ ys[i]? = some y)
    (hst : ∀ H, Pv xs.length H → J.stop xs.length H)
    (hs : ∀ i x y T H H', xs[i]? = some x → ys[i]? = some y → Pv i H → H T = none → H' = upd H T (.tup [x, y]) → g (.ref T) (wipe σ vs) H' fun σ2 H2 => wipe σ2 vs = wipe σ vs ∧ tt σ2 H2 fun b H3 =>
      if b = true then te σ2 H3 fun y H4 => ∃ acc, H4 D = some (.lst acc) ∧ acc.length < sizeLine ∧ Pv (i + 1) (upd H4 D (.lst (acc ++ [y]))) else Pv (i + 1) H3) (hd : ∀ H, Pv xs.length H → Qd H) :
    ∃ W : Nat → Nat → Hp → Prop, (∃ m, W 0 m (upd H1 D (.lst []))) ∧ ∀ i m H, W i m H →
      (J.stop i H ∧ Qd H) ∨ (J.go i H ∧ ∃ Nx : Hp → Prop, (∀ H', Nx H' → ∃ m', m' < m ∧ W (i + 1) m' H') ∧ ∀ x H', J.yld i H x H' → g x (wipe σ vs) H' fun σ2 H2 => wipe σ2 vs = wipe σ vs ∧ tt σ2 H2 fun b H3 =>
        if b = true then te σ2 H3 fun y H4 => ∃ acc, H4 D = some (.lst acc) ∧ acc.length < sizeLine ∧ Nx (upd H4 D (.lst (acc ++ [y]))) else Nx H3) := by
  refine ⟨fun i m H => m = xs.length - i ∧ i ≤ xs.length ∧ Pv i H, ⟨xs.length, by simp, Nat.zero_le _, h0⟩, ?_⟩
  rintro i m H ⟨rfl, hi, p⟩
  by_cases hlt : i < xs.length
  · refine .inr ⟨hgo i H p hlt, Pv (i + 1), fun H' p' => ⟨xs.length - (i + 1), by omega, rfl, hlt, p'⟩, fun v H' yl => ?_⟩
    obtain ⟨T, x, y, rfl, hT, e, f1, f2⟩ := hy i H v H' p hlt yl
    exact hs i x y T H H' f1 f2 p hT e
  · have e : i = xs.length := by omega
    subst e
    exact .inl ⟨hst H p, hd H p⟩
theorem q_dec {Q : VK} {x : V} {H : Hp} (h : Q (.bl true) H) : Q (.bl (decide (x = x))) H := by
  rw [decide_eq_true rfl]
  exact h
theorem all_true : ∀ n : Nat, (List.replicate n true).all id = true
  | 0 => rfl
  | n + 1 => by
    rw [List.replicate_succ, List.all_cons, all_true n]
    rfl
section
variable {P : Program} {w : World} {K : PySem.W.Frag} {mg : Str → Option Value} {base : Heap}
theorem same_step {f : Addr} {fd : FuncData} {n : Nat} {spI : Sp} (D__law_same : Df K mg "_law_same" s__law_same P__law_same f fd) (T : Blt mg) (G__law_same : FnOk P w K mg base CX0 n f fd P__law_same spI) (hG : ∀ m, n = m + 1 → spI = spSame K m) : FnOk P w K mg base CX0 (n + 1) f fd P__law_same (spSame K n) := by
  have nd := sc__law_same.nd
  refine D__law_same.F.ok sc__law_same (fun vs H Q E h => ?_) (fun cdv A outer s H vs Q E hr h => ?_)
  · obtain ⟨x, y, d, rfl, _⟩ := h
    rfl
  · obtain ⟨x, y, d, rfl, hx, hy, hf, q⟩ := h
    refine ⟨_, (pss_cons (ps_if (pt_val (pe_callB (r := rIsiT K) call_isiT (by rfl) T.b_isinstance (by decide +kernel) (pa_cons (pv 1) (pa_cons (pe_tup (pa_cons (pe_bltn (v := .ty "list") (by rfl) T.b_list (by decide +kernel) rfl) (pa_cons (pe_bltn (v := .ty "tuple") (by rfl) T.b_tuple (by decide +kernel) rfl) pa_nil))) pa_nil)))) (pss_cons (ps_if (PW.pt (pw_or (pt_cmpR op_ne (pe_callB (r := rIsi K) call_isi (by rfl) T.b_isinstance (by decide +kernel) (pa_cons (pv 0) (pa_cons (pe_bltn (v := .ty "list") (by rfl) T.b_list (by decide +kernel) rfl) pa_nil))) (pe_callB (r := rIsi K) call_isi (by rfl) T.b_isinstance (by decide +kernel) (pa_cons (pv 1) (pa_cons (pe_bltn (v := .ty "list") (by rfl) T.b_list (by decide +kernel) rfl) pa_nil))) (nomark _)) (pw_or1 (pt_cmpR op_ne (pe_callB (r := rIsi K) call_isi (by rfl) T.b_isinstance (by decide +kernel) (pa_cons (pv 0) (pa_cons (pe_bltn (v := .ty "tuple") (by rfl) T.b_tuple (by decide +kernel) rfl) pa_nil))) (pe_callB (r := rIsi K) call_isi (by rfl) T.b_isinstance (by decide +kernel) (pa_cons (pv 1) (pa_cons (pe_bltn (v := .ty "tuple") (by rfl) T.b_tuple (by decide +kernel) rfl) pa_nil))) (nomark _))))) (pss_one (ps_ret (pe_bl))) pss_nil)
      (pss_cons (ps_if (pt_cmpR op_ne (pe_callB (r := rLenQ K) call_len_seq (by rfl) T.b_len (by decide +kernel) (pa_cons (pv 0) pa_nil)) (pe_callB (r := rLenQ K) call_len_seq (by rfl) T.b_len (by decide +kernel) (pa_cons (pv 1) pa_nil)) (nomark _)) (pss_one (ps_ret (pe_bl))) pss_nil)
      (pss_one (ps_ret (pe_callB (r := rAll K) (cr_all rfl) (by rfl) T.b_all (by decide +kernel) (pa_cons (pe_lc (own := [("_law_one", 2), ("_law_two", 3)]) (g := gTup K 2 (gCons (gName 2) (gCons (gName 3) gNil))) (by rfl) nd (RZ.pi_zipA (by rfl) T.b_zip (pa_cons (pv 0) (pa_cons (pv 1) pa_nil))) (blkOk_by (own := [("_law_one", 2), ("_law_two", 3)]) (N := N__law_same) (sc := defScope s__law_same) (by decide +kernel)) (fun _ _ _ _ _ => (pg_tup (by rfl) (pgs_cons (pg_name (i := 2) nd rfl (Or.inl rfl)) (pgs_cons (pg_name (i := 3) nd rfl (Or.inl rfl)) pgs_nil)))) (fun _ _ _ _ _ => pts_nil) (fun _ _ _ _ _ => (pe_call G__law_same (hr.mono (by omega)) (by rfl) D__law_same.g D__law_same.F.kp D__law_same.b .nil pass0 (pa_cons (pv 2) (pa_cons (pv 3) pa_nil))))) pa_nil)))))) pss_nil)
      (pss_cons (ps_if (PW.pt (pw_or (pt_cmpR op_isN (pv 1) (pe_non) (nomark _)) (pw_or1 (pt_val (pe_callB (r := rIsi K) call_isi (by rfl) T.b_isinstance (by decide +kernel) (pa_cons (pv 1) (pa_cons (pe_bltn (v := .ty "str") (by rfl) T.b_str (by decide +kernel) rfl) pa_nil))))))) (pss_one (ps_ret (pe_and (pe_cmpR op_eq (pv 0) (pv 1) (nomark _)) (pe_one (pe_cmpR op_eq (pe_callB (r := rIsi K) call_isi (by rfl) T.b_isinstance (by decide +kernel) (pa_cons (pv 0) (pa_cons (pe_bltn (v := .ty "str") (by rfl) T.b_str (by decide +kernel) rfl) pa_nil))) (pe_callB (r := rIsi K) call_isi (by rfl) T.b_isinstance (by decide +kernel) (pa_cons (pv 1) (pa_cons (pe_bltn (v := .ty "str") (by rfl) T.b_str (by decide +kernel) rfl) pa_nil))) (nomark _)))))) pss_nil)
      (pss_one (ps_ret (pe_and (pe_callB (r := rIsi K) call_isi (by rfl) T.b_isinstance (by decide +kernel) (pa_cons (pv 0) (pa_cons (pe_bltn (v := .ty "int") (by rfl) T.b_int (by decide +kernel) rfl) pa_nil))) (pe_and (pe_cmpR op_eq (pe_callB (r := rIsi K) call_isi (by rfl) T.b_isinstance (by decide +kernel) (pa_cons (pv 0) (pa_cons (pe_bltn (v := .ty "bool") (by rfl) T.b_bool (by decide +kernel) rfl) pa_nil))) (pe_callB (r := rIsi K) call_isi (by rfl) T.b_isinstance (by decide +kernel) (pa_cons (pv 1) (pa_cons (pe_bltn (v := .ty "bool") (by rfl) T.b_bool (by decide +kernel) rfl) pa_nil))) (nomark _)) (pe_one (pe_cmpR op_eq (pv 0) (pv 1) (nomark _))))))))), ?_⟩
    cases hx with
    | non =>
      cases hy
      walk_at "ev"
      intro p hp
      generalize hH : upd _ p _ = H1
      obtain ⟨sm, hp1⟩ := newO hH hp
      have kd : Kd K H1 .non "NoneType" := .non
      have ty := kd.ty
      obtain ⟨k1, k2, k3, k4, k5⟩ := kd.kit
      have ka := kit_lt k4 k5
      walk_at "ev"
      exact q_dec (q _ sm)
    | bl b =>
      cases hy
      walk_at "ev"
      intro p hp
      generalize hH : upd _ p _ = H1
      obtain ⟨sm, hp1⟩ := newO hH hp
      have kd : Kd K H1 (.bl b) "bool" := .bl b
      have ty := kd.ty
      obtain ⟨k1, k2, k3, k4, k5⟩ := kd.kit
      have ka := kit_lt k4 k5
      walk_at "ev"
      exact q_dec (q _ sm)
    | int i =>
      cases hy
      walk_at "ev"
      intro p hp
      generalize hH : upd _ p _ = H1
      obtain ⟨sm, hp1⟩ := newO hH hp
      have kd : Kd K H1 (.int i) "int" := .int i
      have ty := kd.ty
      obtain ⟨k1, k2, k3, k4, k5⟩ := kd.kit
      have ka := kit_lt k4 k5
      walk_at "ev"
      exact q_dec (q _ sm)
    | str z =>
      cases hy
      walk_at "ev"
      intro p hp
      generalize hH : upd _ p _ = H1
      obtain ⟨sm, hp1⟩ := newO hH hp
      have kd : Kd K H1 (.str z) "str" := .str z
      have ty := kd.ty
      obtain ⟨k1, k2, k3, k4, k5⟩ := kd.kit
      have ka := kit_lt k4 k5
      walk_at "ev"
      exact q_dec (q _ sm)
    | lst hs ha =>
      rename_i a xs ds
      cases hy with
      | lst ht hb =>
      rename_i b ys
      have el : ys.length = xs.length := (dpall_len hb).trans (dpall_len ha).symm
      have el' : V.int (xs.length : Int) = V.int (ys.length : Int) := by rw [el]
      cases n with
      | zero => exact hf.elim
      | succ n =>
      have hf' : ds.length ≤ 4000 ∧ ∀ e ∈ ds, Fit n e := hf
      have hS := hG n rfl
      subst hS
      walk_at "ev"
      intro p hp
      generalize hH : upd _ p _ = H1
      obtain ⟨sm, hp1⟩ := newO hH hp
      have hs1 := sm.seq hs
      have ht1 := sm.seq ht
      have kd : Kd K H1 (.ref a) "list" := .lst hs1
      have ty := kd.ty
      have kd' : Kd K H1 (.ref b) "list" := .lst ht1
      have ty' := kd'.ty
      obtain ⟨k1, k2, k3, k4, k5⟩ := kd.kit
      have ka := kit_lt k4 k5
      walk_at "ev"
      refine .inl ⟨hs1, ht1, fun D hD => ?_⟩
      refine lc_pairs (xs := xs) (ys := ys) (fun i H' => Hold (Same H1 H' ∧ H' D = some (.lst ((List.replicate i true).map V.bl)))) (.mk ⟨same_new hD, upd_same⟩) ?_ ?_ ?_ ?_ ?_
      · intro i H' hP hi
        obtain ⟨sm2, hD2⟩ := hP.un
        have hi2 : i < ys.length := by omega
        exact ⟨xs, ys, _, _, sm2.seq hs1, sm2.seq ht1, List.getElem?_eq_getElem hi, List.getElem?_eq_getElem hi2⟩
      · intro i H' v H'' hP hi yl
        obtain ⟨sm2, hD2⟩ := hP.un
        obtain ⟨T, x, y, e1, e2, e3, f1, f2⟩ := yl
        exact ⟨T, x, y, e1, e2, e3, f1 _ (sm2.seq hs1), f2 _ (sm2.seq ht1)⟩
      · intro H' hP
        obtain ⟨sm2, hD2⟩ := hP.un
        exact ⟨xs, ys, sm2.seq hs1, sm2.seq ht1, .inl (Nat.le_refl _)⟩
      · intro i x y T' H' H'' hx hy hP hT e
        obtain ⟨sm2, hD2⟩ := hP.un
        obtain ⟨sm3, hT3⟩ := newO e.symm hT
        have hT4 : SqT K H'' T' [x, y] := SqT.of hT3
        obtain ⟨d, hd, hdx⟩ := dpall_get ha hx
        obtain ⟨d', hd', hdy⟩ := dpall_get hb hy
        have ed : d' = d := Option.some.inj (hd'.symm.trans hd)
        subst ed
        have sm4 : Same H H'' := (sm.trans sm2).trans sm3
        have dx := dp_same sm4 hdx
        have dy := dp_same sm4 hdy
        have ft := hf'.2 _ (List.mem_of_getElem? hd)
        have hil : i < xs.length := (List.getElem?_eq_some_iff.mp hx).1
        have hdl := dpall_len ha
        have hlen : i ≤ 4000 := by omega
        walk_at "ev"
        intro H5 sm5
        have hD5 := sm5 _ _ (sm3 _ _ hD2)
        refine ⟨_, hD5, szm (by simp; omega), .mk ⟨same_mut ((sm2.trans sm3).trans sm5) hD, ?_⟩⟩
        rw [upd_same, List.replicate_succ', List.map_append]
        rfl
      · intro H' hP
        obtain ⟨sm2, hD2⟩ := hP.un
        refine ⟨D, List.replicate xs.length true, rfl, SqL.of hD2, ?_⟩
        rw [all_true]
        exact q _ (sm.trans sm2)
    | tup hs ha =>
      rename_i a xs ds
      cases hy with
      | tup ht hb =>
      rename_i b ys
      have el : ys.length = xs.length := (dpall_len hb).trans (dpall_len ha).symm
      have el' : V.int (xs.length : Int) = V.int (ys.length : Int) := by rw [el]
      cases n with
      | zero => exact hf.elim
      | succ n =>
      have hf' : ds.length ≤ 4000 ∧ ∀ e ∈ ds, Fit n e := hf
      have hS := hG n rfl
      subst hS
      walk_at "ev"
      intro p hp
      generalize hH : upd _ p _ = H1
      obtain ⟨sm, hp1⟩ := newO hH hp
      have hs1 := same_t sm hs
      have ht1 := same_t sm ht
      have kd : Kd K H1 (.ref a) "tuple" := .tup hs1
      have ty := kd.ty
      have kd' : Kd K H1 (.ref b) "tuple" := .tup ht1
      have ty' := kd'.ty
      obtain ⟨k1, k2, k3, k4, k5⟩ := kd.kit
      have ka := kit_lt k4 k5
      walk_at "ev"
      refine .inr ⟨hs1, ht1, fun D hD => ?_⟩
      refine lc_pairs (xs := xs) (ys := ys) (fun i H' => Hold (Same H1 H' ∧ H' D = some (.lst ((List.replicate i true).map V.bl)))) (.mk ⟨same_new hD, upd_same⟩) ?_ ?_ ?_ ?_ ?_
      · intro i H' hP hi
        obtain ⟨sm2, hD2⟩ := hP.un
        have hi2 : i < ys.length := by omega
        exact ⟨xs, ys, _, _, same_t sm2 hs1, same_t sm2 ht1, List.getElem?_eq_getElem hi, List.getElem?_eq_getElem hi2⟩
      · intro i H' v H'' hP hi yl
        obtain ⟨sm2, hD2⟩ := hP.un
        obtain ⟨T, x, y, e1, e2, e3, f1, f2⟩ := yl
        exact ⟨T, x, y, e1, e2, e3, f1 _ (same_t sm2 hs1), f2 _ (same_t sm2 ht1)⟩
      · intro H' hP
        obtain ⟨sm2, hD2⟩ := hP.un
        exact ⟨xs, ys, same_t sm2 hs1, same_t sm2 ht1, .inl (Nat.le_refl _)⟩
      · intro i x y T' H' H'' hx hy hP hT e
        obtain ⟨sm2, hD2⟩ := hP.un
        obtain ⟨sm3, hT3⟩ := newO e.symm hT
        have hT4 : SqT K H'' T' [x, y] := SqT.of hT3
        obtain ⟨d, hd, hdx⟩ := dpall_get ha hx
        obtain ⟨d', hd', hdy⟩ := dpall_get hb hy
        have ed : d' = d := Option.some.inj (hd'.symm.trans hd)
        subst ed
        have sm4 : Same H H'' := (sm.trans sm2).trans sm3
        have dx := dp_same sm4 hdx
        have dy := dp_same sm4 hdy
        have ft := hf'.2 _ (List.mem_of_getElem? hd)
        have hil : i < xs.length := (List.getElem?_eq_some_iff.mp hx).1
        have hdl := dpall_len ha
        have hlen : i ≤ 4000 := by omega
        walk_at "ev"
        intro H5 sm5
        have hD5 := sm5 _ _ (sm3 _ _ hD2)
        refine ⟨_, hD5, szm (by simp; omega), .mk ⟨same_mut ((sm2.trans sm3).trans sm5) hD, ?_⟩⟩
        rw [upd_same, List.replicate_succ', List.map_append]
        rfl
      · intro H' hP
        obtain ⟨sm2, hD2⟩ := hP.un
        refine ⟨D, List.replicate xs.length true, rfl, SqL.of hD2, ?_⟩
        rw [all_true]
        exact q _ (sm.trans sm2)
theorem ok_same {f : Addr} {fd : FuncData} (D__law_same : Df K mg "_law_same" s__law_same P__law_same f fd) (T : Blt mg) : ∀ n : Nat, FnOk P w K mg base CX0 (n + 1) f fd P__law_same (spSame K n)
  | 0 => same_step (spI := fun _ _ _ _ => False) D__law_same T ⟨fun _ _ _ _ h => h.elim, fun _ _ _ _ _ _ _ _ _ _ _ _ _ h => h.elim⟩ (fun m h => by omega)
  | n + 1 => same_step D__law_same T (ok_same D__law_same T n) (fun m h => by cases h; rfl)
end
/-! ### the refusals' own making -/
abbrev s_init : Stmt := inClass (top 1) 0
abbrev N_init : List Str := ["self", "what"]
theorem sc_init : FnScope N_init N_init (defScope s_init) := ⟨rfl, rfl, rfl, by decide +kernel, rfl, by decide +kernel, by decide +kernel⟩
def spInit (K : PySem.W.Frag) : Sp := fun vs H Q _ => ∃ (a C : Addr) (v : V), vs = [.ref a, v] ∧ OexC K C ∧ PySem.W.findIn K (.ref C) "what" = some none ∧ H a = some (exo a C none) ∧
  ∀ dx, H dx = none → dx ≠ a → Q .non (upd (upd H dx (exd dx [(("what" : Str), v)])) a (exo a C (some dx)))
section
variable {P : Program} {w : World} {K : PySem.W.Frag} {mg : Str → Option Value} {base : Heap}
theorem ok_init {f : Addr} {fd : FuncData} {k : Nat} (F : Fun K "__init__" "TurnError.__init__" s_init f fd) : FnOk P w K mg base CX0 (k + 1) f fd N_init (spInit K) := by
  refine F.ok sc_init (fun vs H Q E h => ?_) (fun cdv A outer s H vs Q E hr h => ?_)
  · obtain ⟨a, C, v, rfl, _⟩ := h
    rfl
  · obtain ⟨a, C, v, rfl, T, nw, ha, q⟩ := h
    refine ⟨_, pss_one (ps_ost (pv 0) (pv 1)), ?_⟩
    exact ⟨_, rfl, _, rfl, a, C, rfl, T, nw, .inl ⟨ha, q⟩⟩
end
/-- C(v), made to be raised -/
theorem mk_what {K : PySem.W.Frag} {C : Addr} {v : V} {Q : XK} {H1 : Hp} (E : ExK K C) (h : ∀ d H', H1 d = none → Same H1 H' → H' d = some (.xd [(("what" : Str), v)]) → Q (.ref C) (some d) H') : ∀ a, H1 a = none → spInit K (.ref a :: ([v] ++ [])) (upd H1 a (exo a C none))
    (fun v' H2 => v' = .non ∧ ∃ (d : Addr) (fs : List (Str × V)), H2 a = some (exo a C (some d)) ∧ H2 d = some (exd d fs) ∧ H1 d = none ∧ Q (.ref C) (some d) (upd (del H2 a) d (.xd fs))) (fun _ _ _ => False) := by
  intro a ha
  refine ⟨a, C, v, rfl, E.oex, E.nw, upd_same, fun dx hd ne => ?_⟩
  rw [upd_ne ne] at hd
  refine ⟨rfl, dx, _, upd_same, ?_, hd, h dx _ hd (fun b o e => ?_) upd_same⟩
  · rw [upd_ne ne, upd_same]
  · have n1 := ne_of_none e hd
    have n2 := ne_of_none e ha
    rw [upd_ne n1, del_ne n2, upd_ne n2, upd_ne n1, upd_ne n2]
    exact e
/-- what is told of the class of a refusal, under TurnError at CT -/
structure Ref (K : PySem.W.Frag) (CT C fI : Addr) : Prop where
  ek : ExK K C
  ini : PySem.W.findIn K (.ref C) "__init__" = some (some (.ref fI))
  em : PySem.W.exmOne K (.ref C) (.ref CT) = some true
  kv : PySem.W.kitOne K (.ref C) (.type "ValueError") = some true
  kt : PySem.W.kitOne K (.ref C) (.ref CT) = some true
/-! ### a list or a tuple -/
section
open PySem.Spec PyProof.Rows
variable {X : Cx}
def rIxQ (K : PySem.W.Frag) : R2 := fun x y H Q => ∃ p xs i v, x = .ref p ∧ y = .int i ∧ (SqL K H p xs ∨ SqT K H p xs) ∧ atI xs i = some v ∧ Q v H
theorem ix_seq : IxR X (rIxQ X.K) := by
  intro value slice pins s σ H x y v u Q I rx ry h hs
  obtain ⟨p, xs, i, z, e1, e2, hq | hq, he, q⟩ := h
  · exact ix_list value slice pins s σ H x y v u Q I rx ry ⟨p, xs, i, z, e1, e2, hq, he, q⟩ hs
  · exact ix_tup value slice pins s σ H x y v u Q I rx ry ⟨p, xs, i, z, e1, e2, hq, he, q⟩ hs
end
theorem sq_same {K : PySem.W.Frag} {H H' : Hp} {a : Addr} {xs : List V} (e : Same H H') (h : SqL K H a xs ∨ SqT K H a xs) : SqL K H' a xs ∨ SqT K H' a xs := by
  rcases h with h | h
  · exact .inl (e.seq h)
  · exact .inr (same_t e h)
/-! ### divisors in common -/
theorem gcd_step {a b : Int} (ha : 0 ≤ a) (hb : 0 ≤ b) : Int.gcd b (a % b) = Int.gcd a b := by
  obtain ⟨m, rfl⟩ := Int.eq_ofNat_of_zero_le ha
  obtain ⟨n, rfl⟩ := Int.eq_ofNat_of_zero_le hb
  have e : ((m : Int) % (n : Int)).natAbs = m % n := by rw [← Int.natCast_emod]; rfl
  show Nat.gcd n ((m : Int) % (n : Int)).natAbs = Nat.gcd m n
  rw [e, Nat.gcd_comm n, ← Nat.gcd_rec, Nat.gcd_comm]
theorem emod_half {a b : Int} (hb : 0 < b) (h : b ≤ a) : 2 * (a % b) ≤ a := by
  have h1 := Int.emod_lt_of_pos a hb
  have h2 : a % b + b * (a / b) = a := Int.emod_add_mul_ediv a b
  have h3 : 1 ≤ a / b := (Int.le_ediv_iff_mul_le hb).mpr (by omega)
  have h4 : b * 1 ≤ b * (a / b) := Int.mul_le_mul_of_nonneg_left h3 (by omega)
  omega
/-- a product has the rest 1: no divisor in common -/
theorem gcd_of_inv {n x m : Int} (h : n * x % m = 1) : Int.gcd n m = 1 := by
  have h1 : ((Int.gcd n m : Nat) : Int) ∣ n * x := Int.dvd_mul_of_dvd_left (Int.gcd_dvd_left n m)
  have h2 : ((Int.gcd n m : Nat) : Int) ∣ m * (n * x / m) := Int.dvd_mul_of_dvd_left (Int.gcd_dvd_right n m)
  have h3 : n * x % m + m * (n * x / m) = n * x := Int.emod_add_mul_ediv _ _
  have h4 : ((Int.gcd n m : Nat) : Int) ∣ 1 := by
    have : (1 : Int) = n * x - m * (n * x / m) := by omega
    rw [this]
    exact Int.dvd_sub h1 h2
  have h5 := Int.le_of_dvd (by decide) h4
  have h6 : Int.gcd n m ≠ 0 := by
    intro z
    rw [z] at h4
    exact absurd (Int.zero_dvd.mp h4) (by decide)
  omega
abbrev s_are_coprime : Stmt := top 8
abbrev N_are_coprime : List Str := ["one", "other"]
abbrev P_are_coprime : List Str := ["one", "other"]
theorem sc_are_coprime : FnScope N_are_coprime P_are_coprime (defScope s_are_coprime) := ⟨rfl, rfl, rfl, by decide +kernel, rfl, by decide +kernel, by decide +kernel⟩
def spCop : Sp := fun vs H Q _ => ∃ (x y : Int), vs = [.int x, .int y] ∧ 0 ≤ x ∧ 0 ≤ y ∧ Q (.bl (decide (Int.gcd x y = 1))) H
section
variable {P : Program} {w : World} {K : PySem.W.Frag} {mg : Str → Option Value} {base : Heap}
theorem ok_coprime {f : Addr} {fd : FuncData} {k : Nat} (F : Fun K "are_coprime" "are_coprime" s_are_coprime f fd) : FnOk P w K mg base CX0 (k + 1) f fd P_are_coprime spCop := by
  have nd := sc_are_coprime.nd
  refine F.ok sc_are_coprime (fun vs H Q E h => ?_) (fun cdv A outer s H vs Q E hr h => ?_)
  · obtain ⟨x, y, rfl, _⟩ := h
    rfl
  · obtain ⟨x, y, rfl, hx, hy, q⟩ := h
    refine ⟨_, (pss_cons (ps_while PassesOwn.never (pt_cmpR op_ne (pv 1) (pe_int) (nomark _))
      (pss_one (ps_par (i := 0) (j := 1) (by rfl) nd rfl rfl (by decide) rfl rfl (pa_cons (pv 1) (pa_cons (pe_op op_mod (pv 0) (pv 1)) pa_nil)) (by rfl))))
      (pss_one (ps_ret (pe_cmpR op_eq (pv 0) (pe_int) (nomark _))))), ?_⟩
    refine ⟨fun z σ H' => H' = H ∧ ∃ (a b : Int), σ = [some (.int a), some (.int b)] ∧ z = b.toNat ∧ 0 ≤ a ∧ 0 ≤ b ∧ Int.gcd a b = Int.gcd x y, ⟨_, rfl, x, y, rfl, rfl, hx, hy, rfl⟩, ?_⟩
    rintro z σ H' ⟨rfl, a, b, rfl, rfl, ha, hb, hg⟩
    walk_at "ev"
    by_cases c : b = 0
    · subst c
      refine iteFe (by simp) ?_
      walk_at "ev"
      have e : decide (V.int a = V.int 1) = decide (Int.gcd x y = 1) := by
        rw [← hg, Int.gcd_zero_right]
        exact decide_eq_decide.mpr ⟨fun h => by have := V.int.inj h; omega, fun h => congrArg V.int (by omega)⟩
      rw [e]
      exact q
    · refine iteTe (by simp [c]) ?_
      refine ⟨_, holdN, ?_⟩
      walk_at "ev"
      have h1 := Int.emod_lt_of_pos a (show 0 < b by omega)
      have h0 := Int.emod_nonneg a c
      exact .mk ⟨(a % b).toNat, by omega, rfl, b, a % b, rfl, rfl, hb, h0, by rw [gcd_step ha hb]; exact hg⟩
end
def shM : Nat → Int → Int → Bool
  | 0, _, _ => true
  | k + 1, x, y => if y = 0 then decide (1 < x) else shM k y (x % y)
abbrev s__law_shares : Stmt := top 20
abbrev N__law_shares : List Str := ["_law_one", "_law_two", "_law_turn"]
abbrev P__law_shares : List Str := ["_law_one", "_law_two"]
theorem sc__law_shares : FnScope N__law_shares P__law_shares (defScope s__law_shares) := ⟨rfl, rfl, rfl, by decide +kernel, rfl, by decide +kernel, by decide +kernel⟩
def spShM : Sp := fun vs H Q _ => ∃ (x y : Int), vs = [.int x, .int y] ∧ 0 ≤ x ∧ 0 ≤ y ∧ Q (.bl (shM 64 x y)) H
section
variable {P : Program} {w : World} {K : PySem.W.Frag} {mg : Str → Option Value} {base : Heap}
theorem ok_shm {f : Addr} {fd : FuncData} {k : Nat} (F : Fun K "_law_shares" "_law_shares" s__law_shares f fd) (T : Blt mg) : FnOk P w K mg base CX0 (k + 1) f fd P__law_shares spShM := by
  have nd := sc__law_shares.nd
  refine F.ok sc__law_shares (fun vs H Q E h => ?_) (fun cdv A outer s H vs Q E hr h => ?_)
  · obtain ⟨x, y, rfl, _⟩ := h
    rfl
  · obtain ⟨x, y, rfl, hx, hy, q⟩ := h
    refine ⟨_, (pss_cons (ps_for PassesOwn.never rfl (pi_range1 (by rfl) T.b_range (pa_cons (pe_int) pa_nil)) (pg_name (i := 2) nd rfl (Or.inl rfl))
      (pss_cons (ps_if (pt_cmpR op_eq (pv 1) (pe_int) (nomark _)) (pss_one (ps_ret (pe_cmpR op_gt (pv 0) (pe_int) (nomark _)))) pss_nil)
      (pss_one (ps_par (i := 0) (j := 1) (by rfl) nd rfl rfl (by decide) rfl rfl (pa_cons (pv 1) (pa_cons (pe_op op_mod (pv 0) (pv 1)) pa_nil)) (by rfl)))))
      (pss_one (ps_ret (pe_bl)))), ?_⟩
    walk_at "ev"
    refine for_range (lo := 0) (n := (64 : Int).toNat) (fun i σ H' => Hold (∃ (x' y' : Int) (s2 : Option V), σ = [some (.int x'), some (.int y'), s2] ∧ 0 ≤ x' ∧ 0 ≤ y' ∧ i ≤ 64 ∧ shM (64 - i) x' y' = shM 64 x y ∧ H' = H)) (.mk ⟨x, y, none, rfl, hx, hy, by omega, rfl, rfl⟩) ?_ ?_
    · intro i σ H' hi hP
      obtain ⟨x', y', s2, rfl, hx', hy', h64, inv, rfl⟩ := hP.un
      have hi64 : i < 64 := hi
      have e64 : 64 - i = (64 - (i + 1)) + 1 := by omega
      have est : shM (64 - i) x' y' = if y' = 0 then decide (1 < x') else shM (64 - (i + 1)) y' (x' % y') := by
        rw [e64]
        rfl
      rw [est] at inv
      walk_at "ev"
      refine ite2 (fun e => ?_) (fun e => ?_)
      · have e1 : y' = 0 := V.int.inj (of_decide_eq_true e)
        rw [if_pos e1] at inv
        walk_at "ev"
        rw [← inv] at q
        exact q
      · have e1 : y' ≠ 0 := fun z => e (decide_eq_true (congrArg V.int z))
        rw [if_neg e1] at inv
        walk_at "ev"
        exact .mk ⟨_, _, _, rfl, hy', Int.emod_nonneg _ e1, by omega, inv, rfl⟩
    · intro σ H' hP
      obtain ⟨x', y', s2, rfl, hx', hy', h64, inv, rfl⟩ := hP.un
      walk_at "ev"
      have e0 : shM (64 - (64 : Int).toNat) x' y' = true := rfl
      rw [e0] at inv
      rw [← inv] at q
      exact q
end
def prN (k : Nat) : Bool := (List.range' 2 (k - 2)).all fun d => decide (k % d ≠ 0)
def outC (s : Nat) : List Int := ((List.range' 2 (s - 1)).filter fun k => decide (s % k = 0) && prN k).map Int.ofNat
section
open PySem.Spec PyProof.Rows
variable {X : Cx}
theorem ip_mul : OpR X (inplaceOp .Mult) (rI CMul fun i j => .int (i * j)) := opI fun _ _ _ _ _ _ _ hc q => imul_int q hc.ok
end
abbrev s_product : Stmt := top 7
abbrev N_product : List Str := ["numbers", "told", "number"]
abbrev P_product : List Str := ["numbers"]
theorem sc_product : FnScope N_product P_product (defScope s_product) := ⟨rfl, rfl, rfl, by decide +kernel, rfl, by decide +kernel, by decide +kernel⟩
def prd (ns : List Int) : Int := ns.foldl (· * ·) 1
def spProdT (K : PySem.W.Frag) : Sp := fun vs H Q _ => ∃ (t : Addr) (ns : List Int), vs = [.ref t] ∧ SqT K H t (ns.map V.int) ∧ (∀ x ∈ ns, 0 ≤ x ∧ x ≤ 1000000) ∧ Q (.int (prd ns)) H
section
variable {P : Program} {w : World} {K : PySem.W.Frag} {mg : Str → Option Value} {base : Heap}
theorem ok_prodT {f : Addr} {fd : FuncData} {k : Nat} (F : Fun K "product" "product" s_product f fd) : FnOk P w K mg base CX0 (k + 1) f fd P_product (spProdT K) := by
  have nd := sc_product.nd
  refine F.ok sc_product (fun vs H Q E h => ?_) (fun cdv A outer s H vs Q E hr h => ?_)
  · obtain ⟨t, ns, rfl, _⟩ := h
    rfl
  · obtain ⟨t, ns, rfl, hT, hb, q⟩ := h
    refine ⟨_, (pss_cons (ps_set (i := 1) nd rfl (Or.inl rfl) (pe_int))
      (pss_cons (ps_for PassesOwn.never rfl (pi_tup (pv 0)) (pg_name (i := 2) nd rfl (Or.inl rfl))
      (pss_one (ps_aug (i := 1) nd rfl (Or.inl rfl) (pv 2) ip_mul)))
      (pss_one (ps_ret (pv 1))))), ?_⟩
    walk_at "ev"
    refine ⟨⟨_, hT⟩, ?_⟩
    refine for_tup (K := K) (a := t) (xs := ns.map V.int) (fun i σ H' => Hold (∃ (z : Int) (s2 : Option V), σ = [some (.ref t), some (.int z), s2] ∧ z = prd (ns.take i) ∧ H' = H)) (.mk ⟨1, none, rfl, rfl, rfl⟩) ?_ ?_ ?_
    · intro i σ H1 hi hP
      obtain ⟨z, s2, rfl, hz, rfl⟩ := hP.un
      exact hT
    · intro i v σ H1 hv hP
      obtain ⟨z, s2, rfl, hz, rfl⟩ := hP.un
      rw [List.getElem?_map] at hv
      obtain ⟨x, hx, ev⟩ := Option.map_eq_some_iff.mp hv
      subst ev
      have hxb := hb x (List.mem_of_getElem? hx)
      have cm : CMul z x := .inr ⟨by omega, by omega⟩
      walk_at "ev"
      refine .mk ⟨_, _, rfl, ?_, rfl⟩
      have e : prd (ns.take (i + 1)) = prd (ns.take i) * x := by
        unfold prd
        rw [List.take_add_one, hx, List.foldl_append]
        rfl
      rw [e, hz]
    · intro σ H1 hP
      obtain ⟨z, s2, rfl, hz, rfl⟩ := hP.un
      rw [List.length_map, List.take_length] at hz
      walk_at "ev"
      rw [hz]
      exact q
end
abbrev s_place_at : Stmt := top 11
abbrev N_place_at : List Str := ["sizes", "spot", "place", "size", "at"]
abbrev P_place_at : List Str := ["sizes", "spot"]
theorem sc_place_at : FnScope N_place_at P_place_at (defScope s_place_at) := ⟨rfl, rfl, rfl, by decide +kernel, rfl, by decide +kernel, by decide +kernel⟩
def spPlace (K : PySem.W.Frag) : Sp := fun vs H Q _ => ∃ (t u : Addr) (a b p : Int), vs = [.ref t, .ref u] ∧ SqT K H t [.int a, .int b] ∧ SqT K H u [.int p, .int p] ∧ 1 ≤ a ∧ a ≤ 1000 ∧ 1 ≤ b ∧ b ≤ 1000 ∧ ∀ H', Same H H' → Q (.int (p % a * b + p % b)) H'
section
variable {P : Program} {w : World} {K : PySem.W.Frag} {mg : Str → Option Value} {base : Heap}
theorem ok_place {f : Addr} {fd : FuncData} {k : Nat} (F : Fun K "place_at" "place_at" s_place_at f fd) (T : Blt mg) : FnOk P w K mg base CX0 (k + 1) f fd P_place_at (spPlace K) := by
  have nd := sc_place_at.nd
  refine F.ok sc_place_at (fun vs H Q E h => ?_) (fun cdv A outer s H vs Q E hr h => ?_)
  · obtain ⟨t, u, a, b, p, rfl, _⟩ := h
    rfl
  · obtain ⟨t, u, a, b, p, rfl, hT, hU, a1, a2, b1, b2, q⟩ := h
    refine ⟨_, (pss_cons (ps_set (i := 2) nd rfl (Or.inl rfl) (pe_int))
      (pss_cons (ps_for PassesOwn.never rfl (RZ.pi_zipA (by rfl) T.b_zip (pa_cons (pv 0) (pa_cons (pv 1) pa_nil))) (pg_tup (by rfl) (pgs_cons (pg_name (i := 3) nd rfl (Or.inl rfl)) (pgs_cons (pg_name (i := 4) nd rfl (Or.inl rfl)) pgs_nil)))
      (pss_one (ps_set (i := 2) nd rfl (Or.inl rfl) (pe_op op_add (pe_op op_mul (pv 2) (pv 3)) (pe_op op_mod (pv 4) (pv 3))))))
      (pss_one (ps_ret (pv 2))))), ?_⟩
    walk_at "ev"
    refine .inr ⟨hT, hU, ?_⟩
    have m0 := Int.emod_nonneg p (show a ≠ 0 by omega)
    have m1 := Int.emod_lt_of_pos p (show 0 < a by omega)
    refine RZ.for_zipT (K := K) (a := t) (b := u) (xs := [.int a, .int b]) (ys := [.int p, .int p]) rfl (fun i σ H' => Hold (∃ (z : Int) (s3 s4 : Option V), σ = [some (.ref t), some (.ref u), some (.int z), s3, s4] ∧ (z = match i with | 0 => 0 | 1 => p % a | _ => p % a * b + p % b) ∧ Same H H')) (.mk ⟨0, none, none, rfl, rfl, Same.refl _⟩) ?_ ?_ ?_
    · intro i σ H1 hP
      obtain ⟨z, s3, s4, rfl, hz, sm1⟩ := hP.un
      exact ⟨same_t sm1 hT, same_t sm1 hU⟩
    · intro i x y T' σ H1 hx hy hP hT'
      obtain ⟨z, s3, s4, rfl, hz, sm1⟩ := hP.un
      generalize hG : upd _ T' _ = H2
      obtain ⟨sm2, hq2⟩ := newO hG hT'
      clear hG
      have hT2 := SqT.of (K := K) hq2
      match i, hx, hy with
      | 0, hx, hy =>
        cases hx
        cases hy
        have hz0 : z = 0 := hz
        have cm : CMul z a := .inr ⟨by omega, by omega⟩
        walk_at "ev"
        refine .mk ⟨_, _, _, rfl, ?_, sm1.trans sm2⟩
        show z * a + p % a = p % a
        rw [hz0, Int.zero_mul, Int.zero_add]
      | 1, hx, hy =>
        cases hx
        cases hy
        have hz0 : z = p % a := hz
        have cm : CMul z b := .inr ⟨by omega, by omega⟩
        walk_at "ev"
        refine .mk ⟨_, _, _, rfl, ?_, sm1.trans sm2⟩
        show z * b + p % b = p % a * b + p % b
        rw [hz0]
      | i + 2, hx, hy => simp at hx
    · intro σ H1 hP
      obtain ⟨z, s3, s4, rfl, hz, sm1⟩ := hP.un
      have hz0 : z = p % a * b + p % b := hz
      walk_at "ev"
      rw [hz0]
      exact q _ sm1
end
theorem lc2_rgO {lo : Int} {n : Nat} {g : TG} {tt : TT} {vs : List Nat} {σ : L2.St} {H1 : Hp} {D : Addr} {Qd : Hp → Prop} (B : L2.St → Hp → (Hp → Prop) → Bool → Prop) (Pv : Nat → Hp → Prop) (h0 : Pv 0 (upd H1 D (.lst [])))
    (hs : ∀ i H, i < n → Pv i H → g (.int (lo + i)) (wipe σ vs) H fun σ2 H2 => wipe σ2 vs = wipe σ vs ∧ tt σ2 H2 fun b H3 => B σ2 H3 (Pv (i + 1)) b) (hd : ∀ H, Pv n H → Qd H) :
    ∃ W : Nat → Nat → Hp → Prop, (∃ m, W 0 m (upd H1 D (.lst []))) ∧ ∀ i m H, W i m H → ((Itr lo n).stop i H ∧ Qd H) ∨ ((Itr lo n).go i H ∧ ∃ Nx : Hp → Prop, (∀ H', Nx H' → ∃ m', m' < m ∧ W (i + 1) m' H') ∧ ∀ x H', (Itr lo n).yld i H x H' → g x (wipe σ vs) H' fun σ2 H2 => wipe σ2 vs = wipe σ vs ∧ tt σ2 H2 fun b H3 => B σ2 H3 Nx b) := by
  refine ⟨fun i m H => m = n - i ∧ i ≤ n ∧ Pv i H, ⟨n, by simp, Nat.zero_le _, h0⟩, ?_⟩
  rintro i m H ⟨rfl, hi, p⟩
  by_cases hlt : i < n
  · refine .inr ⟨hlt, Pv (i + 1), fun H' p' => ⟨n - (i + 1), by omega, rfl, hlt, p'⟩, fun x H' y => ?_⟩
    obtain ⟨e, y⟩ := y
    subst e y
    exact hs i _ hlt p
  · have e : i = n := by omega
    subst e
    exact .inl ⟨Nat.le_refl _, hd H p⟩
theorem lc2_rgI {lo : Int} {n : Nat} {g : TG} {tt : TT} {te : TE} {vs : List Nat} {σ : L2.St} {H1 : Hp} {D : Addr} {Qd : Hp → Prop} (Pv : Nat → Hp → Prop) (h0 : Pv 0 H1)
    (hs : ∀ i H, i < n → Pv i H → g (.int (lo + i)) (wipe σ vs) H fun σ2 H2 => wipe σ2 vs = wipe σ vs ∧ tt σ2 H2 fun b H3 => if b = true then te σ2 H3 fun y H4 => ∃ acc, H4 D = some (.lst acc) ∧ acc.length < sizeLine ∧ Pv (i + 1) (upd H4 D (.lst (acc ++ [y]))) else Pv (i + 1) H3) (hd : ∀ H, Pv n H → Qd H) :
    ∃ W : Nat → Nat → Hp → Prop, (∃ m, W 0 m H1) ∧ ∀ i m H, W i m H → ((Itr lo n).stop i H ∧ Qd H) ∨ ((Itr lo n).go i H ∧ ∃ Nx : Hp → Prop, (∀ H', Nx H' → ∃ m', m' < m ∧ W (i + 1) m' H') ∧ ∀ x H', (Itr lo n).yld i H x H' → g x (wipe σ vs) H' fun σ2 H2 => wipe σ2 vs = wipe σ vs ∧ tt σ2 H2 fun b H3 =>
      if b = true then te σ2 H3 fun y H4 => ∃ acc, H4 D = some (.lst acc) ∧ acc.length < sizeLine ∧ Nx (upd H4 D (.lst (acc ++ [y]))) else Nx H3) := by
  refine ⟨fun i m H => m = n - i ∧ i ≤ n ∧ Pv i H, ⟨n, by simp, Nat.zero_le _, h0⟩, ?_⟩
  rintro i m H ⟨rfl, hi, p⟩
  by_cases hlt : i < n
  · refine .inr ⟨hlt, Pv (i + 1), fun H' p' => ⟨n - (i + 1), by omega, rfl, hlt, p'⟩, fun x H' y => ?_⟩
    obtain ⟨e, y⟩ := y
    subst e y
    exact hs i _ hlt p
  · have e : i = n := by omega
    subst e
    exact .inl ⟨Nat.le_refl _, hd H p⟩
/-- what is told of the refusals' own making -/
structure XI (K : PySem.W.Frag) (fI : Addr) (fdI : FuncData) : Prop where
  F : Fun K "__init__" "TurnError.__init__" s_init fI fdI
  b : Binds K fdI N_init []
  ty : PySem.W.typeIn K (.ref fI) = some (.type "function")
abbrev s_check_length : Stmt := top 10
abbrev N_check_length : List Str := ["row", "sizes"]
abbrev P_check_length : List Str := ["row", "sizes"]
theorem sc_check_length : FnScope N_check_length P_check_length (defScope s_check_length) := ⟨rfl, rfl, rfl, by decide +kernel, rfl, by decide +kernel, by decide +kernel⟩
def Wh (H H' : Hp) (d : Addr) (v : V) : Prop := H d = none ∧ Same H H' ∧ H' d = some (.xd [(("what" : Str), v)])
def spChkL (K : PySem.W.Frag) (C : Addr) : Sp := fun vs H Q E => ∃ (r t : Addr) (xs : List V) (a b : Nat), vs = [.ref r, .ref t] ∧ (SqL K H r xs ∨ SqT K H r xs) ∧ SqT K H t [.int a, .int b] ∧ a ≤ 1000 ∧ b ≤ 1000 ∧
  (xs.length = a * b → Q .non H) ∧ (xs.length ≠ a * b → ∀ d H', Wh H H' d (.int xs.length) → E (.ref C) (some d) H')
section
variable {P : Program} {w : World} {K : PySem.W.Frag} {mg : Str → Option Value} {base : Heap}
theorem ok_chkL {f f1 fI C CT : Addr} {fd d1 fdI : FuncData} {k : Nat} (F : Fun K "check_length" "check_length" s_check_length f fd) (T : Blt mg) (D_product : Df K mg "product" s_product P_product f1 d1) (x : XI K fI fdI)
    (R : Ref K CT C fI) (M_BadLength : mg "BadLength" = some (.ref C)) : FnOk P w K mg base (L2.CX P w) (k + 3) f fd P_check_length (spChkL K C) := by
  have G_init : FnOk P w K mg base CX0 1 fI fdI N_init (spInit K) := ok_init x.F
  have G_product : FnOk P w K mg base CX0 1 f1 d1 P_product (spProdT K) := ok_prodT D_product.F
  have I_ty := x.ty
  have I_b := x.b
  have EK_BadLength := R.ek
  have II_BadLength := R.ini
  have nd := sc_check_length.nd
  refine F.okX sc_check_length (fun vs H Q E h => ?_) (fun cdv A outer s H vs Q E hr h => ?_)
  · obtain ⟨r, t, xs, a, b, rfl, _⟩ := h
    rfl
  · obtain ⟨r, t, xs, a, b, rfl, hr', hT, a1, b1, qy, qn⟩ := h
    refine ⟨_, (pss_one (ps_if (pt_cmpR op_ne (pe_callB (r := rLenQ K) call_len_seq (by rfl) T.b_len (by decide +kernel) (pa_cons (pv 0) pa_nil)) (pe_call G_product (hr.mono (by omega)) (by rfl) D_product.g D_product.F.kp D_product.b .nil pass0 (pa_cons (pv 1) pa_nil)) (nomark _)) (pss_one (ps_raise rfl (takes_of rfl rfl rfl rfl) (pmk_oex EK_BadLength.oex II_BadLength I_ty G_init (hr.mono (by omega)) I_b .nil pass0 (by rfl) M_BadLength (pa_cons (pe_callB (r := rLenQ K) call_len_seq (by rfl) T.b_len (by decide +kernel) (pa_cons (pv 0) pa_nil)) pa_nil)))) pss_nil)), ?_⟩
    have hT' : SqT K H t (([(a : Int), (b : Int)] : List Int).map V.int) := hT
    have hbb : ∀ x ∈ ([(a : Int), (b : Int)] : List Int), 0 ≤ x ∧ x ≤ 1000000 := by
      intro x hx
      simp only [List.mem_cons, List.not_mem_nil, or_false] at hx
      omega
    walk_at "ev"
    have ep : prd [(a : Int), (b : Int)] = ((a * b : Nat) : Int) := by
      show 1 * (a : Int) * b = _
      rw [Int.one_mul, Int.natCast_mul]
    rw [ep]
    refine ite2 (fun c => ?_) (fun c => ?_)
    · have c1 : xs.length ≠ a * b := fun z => by
        rw [z] at c
        simp at c
      refine ⟨_, rfl, _, _, rfl, hr', ?_⟩
      refine ⟨(by show 1 ≤ 1000; decide), mk_what R.ek fun d H' hd sm hq => ?_⟩
      exact qn c1 d H' ⟨hd, sm, hq⟩
    · have c1 : xs.length = a * b := by
        apply Classical.byContradiction
        intro z
        refine c ?_
        simp
        omega
      exact qy c1
end
abbrev s_check_parts : Stmt := top 12
abbrev N_check_parts : List Str := ["row", "first", "second"]
abbrev P_check_parts : List Str := ["row", "first", "second"]
theorem sc_check_parts : FnScope N_check_parts P_check_parts (defScope s_check_parts) := ⟨rfl, rfl, rfl, by decide +kernel, rfl, by decide +kernel, by decide +kernel⟩
def spChkP (K : PySem.W.Frag) (CB CN : Addr) : Sp := fun vs H Q E => ∃ (r : Addr) (xs : List V) (a b : Nat), vs = [.ref r, .int a, .int b] ∧ (SqL K H r xs ∨ SqT K H r xs) ∧ a ≤ 1000 ∧ b ≤ 1000 ∧
  (xs.length = a * b → Nat.gcd a b = 1 → ∀ H', Same H H' → Q .non H') ∧ (xs.length ≠ a * b → ∀ d H', Wh H H' d (.int xs.length) → E (.ref CB) (some d) H') ∧ (xs.length = a * b → Nat.gcd a b ≠ 1 → ∀ d H', Wh H H' d (.int 1) → E (.ref CN) (some d) H')
section
variable {P : Program} {w : World} {K : PySem.W.Frag} {mg : Str → Option Value} {base : Heap}
theorem ok_chkP {f f1 f2 f3 fI CB CN CT : Addr} {fd d1 d2 d3 fdI : FuncData} {k : Nat} (F : Fun K "check_parts" "check_parts" s_check_parts f fd) (T : Blt mg) (D_product : Df K mg "product" s_product P_product f1 d1) (D_check_length : Df K mg "check_length" s_check_length P_check_length f2 d2) (D_are_coprime : Df K mg "are_coprime" s_are_coprime P_are_coprime f3 d3) (x : XI K fI fdI)
    (RB : Ref K CT CB fI) (M_BadLength : mg "BadLength" = some (.ref CB)) (R : Ref K CT CN fI) (M_NotCoprime : mg "NotCoprime" = some (.ref CN)) : FnOk P w K mg base (L2.CX P w) (k + 4) f fd P_check_parts (spChkP K CB CN) := by
  have G_init : FnOk P w K mg base CX0 1 fI fdI N_init (spInit K) := ok_init x.F
  have G_check_length : FnOk P w K mg base (L2.CX P w) 3 f2 d2 P_check_length (spChkL K CB) := ok_chkL (k := 0) D_check_length.F T D_product x RB M_BadLength
  have G_are_coprime : FnOk P w K mg base CX0 1 f3 d3 P_are_coprime spCop := ok_coprime D_are_coprime.F
  have I_ty := x.ty
  have I_b := x.b
  have EK_NotCoprime := R.ek
  have II_NotCoprime := R.ini
  have nd := sc_check_parts.nd
  refine F.okX sc_check_parts (fun vs H Q E h => ?_) (fun cdv A outer s H vs Q E hr h => ?_)
  · obtain ⟨r, xs, a, b, rfl, _⟩ := h
    rfl
  · obtain ⟨r, xs, a, b, rfl, hr', a1, b1, qy, qb, qn⟩ := h
    refine ⟨_, (pss_cons (ps_expr (pe_call G_check_length (hr.mono (by omega)) (by rfl) D_check_length.g D_check_length.F.kp D_check_length.b .nil (passes_call (takes_of rfl rfl rfl rfl) (fun _ _ _ _ h => h)) (pa_cons (pv 0) (pa_cons (pe_tup (pa_cons (pv 1) (pa_cons (pv 2) pa_nil))) pa_nil))))
      (pss_one (ps_if (pt_not (pt_val (pe_call G_are_coprime (hr.mono (by omega)) (by rfl) D_are_coprime.g D_are_coprime.F.kp D_are_coprime.b .nil pass0 (pa_cons (pv 1) (pa_cons (pv 2) pa_nil))))) (pss_one (ps_raise rfl (takes_of rfl rfl rfl rfl) (pmk_oex EK_NotCoprime.oex II_NotCoprime I_ty G_init (hr.mono (by omega)) I_b .nil pass0 (by rfl) M_NotCoprime (pa_cons (pe_int) pa_nil)))) pss_nil))), ?_⟩
    walk_at "ev"
    w_cond _1
    have hr1 := sq_same sm1 hr'
    have hT1 := SqT.of (K := K) hq1
    walk_at "ev"
    refine ⟨fun c => ?_, fun c d H' hw => qb c d H' ⟨sm1.free hw.1, sm1.trans hw.2.1, hw.2.2⟩⟩
    have eg : Int.gcd (a : Int) (b : Int) = Nat.gcd a b := rfl
    walk_at "ev"
    rw [eg]
    by_cases e : Nat.gcd a b = 1
    · refine iteFe (by simp [e]) ?_
      exact qy c e _ sm1
    · refine iteTe (by simp [e]) ?_
      refine ⟨(by show 1 ≤ 1000; decide), mk_what R.ek fun d H' hd sm hq => ?_⟩
      exact qn c e d H' ⟨sm1.free hd, sm1.trans sm, hq⟩
end
def crsN (f s : Nat) (i : Nat) : List Nat := (List.range i).flatMap fun a => (List.range s).map fun b => (s * a + f * b) % (f * s)
def crs (f s : Nat) : List Nat := crsN f s f
theorem crs_len {f s : Nat} : ∀ i : Nat, (crsN f s i).length = i * s
  | 0 => by simp [crsN]
  | i + 1 => by
    have ih := crs_len (f := f) (s := s) i
    unfold crsN at ih ⊢
    rw [List.range_succ, List.flatMap_append, List.length_append, ih]
    simp [Nat.add_mul]
theorem crs_succ {f s i : Nat} : crsN f s (i + 1) = crsN f s i ++ (List.range s).map fun b => (s * i + f * b) % (f * s) := by
  unfold crsN
  rw [List.range_succ, List.flatMap_append]
  simp
theorem rng_succ {α : Type} {g : Nat → α} {j : Nat} : (List.range (j + 1)).map g = (List.range j).map g ++ [g j] := by
  rw [List.range_succ, List.map_append]
  rfl
abbrev s_into_parts : Stmt := top 13
abbrev N_into_parts : List Str := ["row", "first", "second", "at", "beside"]
abbrev P_into_parts : List Str := ["row", "first", "second"]
theorem sc_into_parts : FnScope N_into_parts P_into_parts (defScope s_into_parts) := ⟨rfl, rfl, rfl, by decide +kernel, rfl, by decide +kernel, by decide +kernel⟩
def outN (f s : Nat) : List Nat := (List.range (f * s)).map fun p => p % f * s + p % s
def spParts (K : PySem.W.Frag) (CB CN : Addr) (pl : Nat → Nat → List Nat) : Sp := fun vs H Q E => ∃ (r : Addr) (xs : List V) (a b : Nat), vs = [.ref r, .int a, .int b] ∧ (SqL K H r xs ∨ SqT K H r xs) ∧ 1 ≤ a ∧ a ≤ 60 ∧ 1 ≤ b ∧ b ≤ 60 ∧
  (xs.length = a * b → Nat.gcd a b = 1 → ∀ p H', H p = none → Same H H' → H' p = some (.lst ((pl a b).map fun i => xs.getD i .non)) → Q (.ref p) H') ∧ (xs.length ≠ a * b → ∀ d H', Wh H H' d (.int xs.length) → E (.ref CB) (some d) H') ∧ (xs.length = a * b → Nat.gcd a b ≠ 1 → ∀ d H', Wh H H' d (.int 1) → E (.ref CN) (some d) H')
theorem at_getD {xs : List V} {i : Int} {j : Nat} (h : j < xs.length) (e : i = (j : Int)) : atI xs i = some (xs.getD j .non) := by
  refine at_of (j := j) e ?_
  rw [List.getD_eq_getElem?_getD, List.getElem?_eq_getElem h]
  rfl
section
variable {P : Program} {w : World} {K : PySem.W.Frag} {mg : Str → Option Value} {base : Heap}
theorem ok_into {f f1 f2 f3 f4 fI CB CN CT : Addr} {fd d1 d2 d3 d4 fdI : FuncData} {k : Nat} (F : Fun K "into_parts" "into_parts" s_into_parts f fd) (T : Blt mg) (D_product : Df K mg "product" s_product P_product f1 d1) (D_check_length : Df K mg "check_length" s_check_length P_check_length f2 d2) (D_are_coprime : Df K mg "are_coprime" s_are_coprime P_are_coprime f3 d3) (D_check_parts : Df K mg "check_parts" s_check_parts P_check_parts f4 d4) (x : XI K fI fdI)
    (RB : Ref K CT CB fI) (M_BadLength : mg "BadLength" = some (.ref CB)) (R : Ref K CT CN fI) (M_NotCoprime : mg "NotCoprime" = some (.ref CN)) : FnOk P w K mg base (L2.CX P w) (k + 5) f fd P_into_parts (spParts K CB CN crs) := by
  have G_check_parts : FnOk P w K mg base (L2.CX P w) 4 f4 d4 P_check_parts (spChkP K CB CN) := ok_chkP (k := 0) D_check_parts.F T D_product D_check_length D_are_coprime x RB M_BadLength R M_NotCoprime
  have nd := sc_into_parts.nd
  refine F.okX sc_into_parts (fun vs H Q E h => ?_) (fun cdv A outer s H vs Q E hr h => ?_)
  · obtain ⟨r, xs, a, b, rfl, _⟩ := h
    rfl
  · obtain ⟨r, xs, a, b, rfl, hr', a1, a2, b1, b2, qy, qb, qn⟩ := h
    refine ⟨_, (pss_cons (ps_expr (pe_call G_check_parts (hr.mono (by omega)) (by rfl) D_check_parts.g D_check_parts.F.kp D_check_parts.b .nil (passes_call (takes_of rfl rfl rfl rfl) (fun _ _ _ _ h => h)) (pa_cons (pv 0) (pa_cons (pv 1) (pa_cons (pv 2) pa_nil)))))
      (pss_one (ps_ret (pe_lc2 (own := [("at", 3), ("beside", 4)]) (vs1 := [4]) (g := gName 3) (g1 := gName 4) (by rfl) nd (pi_range1 (by rfl) T.b_range (pa_cons (pv 1) pa_nil)) (blkOk_by (own := [("at", 3), ("beside", 4)]) (N := N_into_parts) (sc := defScope s_into_parts) (by decide +kernel)) (by decide) (fun _ _ _ _ _ => (pg_name (i := 3) nd rfl (Or.inl rfl))) (fun _ _ _ _ _ => pts_nil) (fun _ _ _ _ _ => (pi_range1 (by rfl) T.b_range (pa_cons (pv 2) pa_nil))) (fun _ _ _ _ _ => (pg_name (i := 4) nd rfl (Or.inl rfl))) (fun _ _ _ _ _ => pts_nil) (fun _ _ _ _ _ => (pe_ix (r := rIxQ K) ix_seq (pv 0) (pe_op op_mod (pe_op op_add (pe_op op_mul (pv 2) (pv 3)) (pe_op op_mul (pv 1) (pv 4))) (pe_callB (r := rLenQ K) call_len_seq (by rfl) T.b_len (by decide +kernel) (pa_cons (pv 0) pa_nil))) (fun _ _ => rfl))))))), ?_⟩
    walk_at "ev"
    refine ⟨fun c e H1 sm1 => ?_, qb, qn⟩
    have hr1 := sq_same sm1 hr'
    have a0 : (0 : Int) ≤ (a : Int) := by omega
    have b0 : (0 : Int) ≤ (b : Int) := by omega
    have hab : a * b ≤ 3600 := Nat.le_trans (Nat.mul_le_mul a2 b2) (by decide)
    have hab1 : 1 * 1 ≤ a * b := Nat.mul_le_mul a1 b1
    walk_at "ev"
    intro D hD
    refine lc2_rgO (lo := 0) (n := _) _ (fun i H' => Hold (Same H1 H' ∧ H' D = some (.lst ((crsN a b i).map fun p => xs.getD p .non)))) (.mk ⟨same_new hD, upd_same⟩) ?_ ?_
    · intro i H2 hi hP
      obtain ⟨sm2, hD2⟩ := hP.un
      have hia : i < a := by omega
      have hib : i * b ≤ a * b := Nat.mul_le_mul_right _ (by omega)
      have hcl := crs_len (f := a) (s := b) i
      walk_at "ev"
      refine lc2_rgI (lo := 0) (n := _) (fun j H' => Hold (Same H1 H' ∧ H' D = some (.lst ((crsN a b i ++ (List.range j).map fun y => (b * i + a * y) % (a * b)).map fun p => xs.getD p .non)))) (.mk ⟨sm2, by rw [hD2]; simp⟩) ?_ ?_
      · intro j H3 hj hP3
        obtain ⟨sm3, hD3⟩ := hP3.un
        have hjb : j < b := by omega
        have hr3 := sq_same sm3 hr1
        have cm1 : CMul (b : Int) (0 + (i : Int)) := .inl ⟨by omega, by omega⟩
        have cm2 : CMul (a : Int) (0 + (j : Int)) := .inl ⟨by omega, by omega⟩
        have hx0 : (0 : Int) < (xs.length : Int) := by omega
        have hat : atI xs (((b : Int) * (0 + (i : Int)) + (a : Int) * (0 + (j : Int))) % (xs.length : Int)) = some (xs.getD ((b * i + a * j) % (a * b)) .non) := by
          refine at_getD ?_ ?_
          · rw [c]
            exact Nat.mod_lt _ (by omega)
          · rw [c, Int.zero_add, Int.zero_add]
            simp
        have hsz : ((crsN a b i ++ (List.range j).map fun y => (b * i + a * y) % (a * b)).map fun p => xs.getD p .non).length < sizeLine := by
          rw [List.length_map, List.length_append, List.length_map, List.length_range, hcl]
          exact szm (by omega)
        walk_at "ev"
        refine .mk ⟨same_mut sm3 hD, ?_⟩
        rw [upd_same, rng_succ, ← List.append_assoc]
        simp only [List.map_append]
        rfl
      · intro H3 hP3
        obtain ⟨sm3, hD3⟩ := hP3.un
        refine .mk ⟨sm3, ?_⟩
        rw [hD3, crs_succ]
        rfl
    · intro H2 hP
      obtain ⟨sm2, hD2⟩ := hP.un
      exact qy c e D H2 (sm1.free hD) (sm1.trans sm2) hD2
end
abbrev s_out_of_parts : Stmt := top 14
abbrev N_out_of_parts : List Str := ["row", "first", "second", "place"]
abbrev P_out_of_parts : List Str := ["row", "first", "second"]
theorem sc_out_of_parts : FnScope N_out_of_parts P_out_of_parts (defScope s_out_of_parts) := ⟨rfl, rfl, rfl, by decide +kernel, rfl, by decide +kernel, by decide +kernel⟩
section
variable {P : Program} {w : World} {K : PySem.W.Frag} {mg : Str → Option Value} {base : Heap}
theorem ok_out {f f1 f2 f3 f4 f5 fI CB CN CT : Addr} {fd d1 d2 d3 d4 d5 fdI : FuncData} {k : Nat} (F : Fun K "out_of_parts" "out_of_parts" s_out_of_parts f fd) (T : Blt mg) (D_product : Df K mg "product" s_product P_product f1 d1) (D_check_length : Df K mg "check_length" s_check_length P_check_length f2 d2) (D_are_coprime : Df K mg "are_coprime" s_are_coprime P_are_coprime f3 d3) (D_check_parts : Df K mg "check_parts" s_check_parts P_check_parts f4 d4) (D_place_at : Df K mg "place_at" s_place_at P_place_at f5 d5) (x : XI K fI fdI)
    (RB : Ref K CT CB fI) (M_BadLength : mg "BadLength" = some (.ref CB)) (R : Ref K CT CN fI) (M_NotCoprime : mg "NotCoprime" = some (.ref CN)) : FnOk P w K mg base (L2.CX P w) (k + 5) f fd P_out_of_parts (spParts K CB CN outN) := by
  have G_check_parts : FnOk P w K mg base (L2.CX P w) 4 f4 d4 P_check_parts (spChkP K CB CN) := ok_chkP (k := 0) D_check_parts.F T D_product D_check_length D_are_coprime x RB M_BadLength R M_NotCoprime
  have G_place_at : FnOk P w K mg base CX0 1 f5 d5 P_place_at (spPlace K) := ok_place D_place_at.F T
  have nd := sc_out_of_parts.nd
  refine F.okX sc_out_of_parts (fun vs H Q E h => ?_) (fun cdv A outer s H vs Q E hr h => ?_)
  · obtain ⟨r, xs, a, b, rfl, _⟩ := h
    rfl
  · obtain ⟨r, xs, a, b, rfl, hr', a1, a2, b1, b2, qy, qb, qn⟩ := h
    refine ⟨_, (pss_cons (ps_expr (pe_call G_check_parts (hr.mono (by omega)) (by rfl) D_check_parts.g D_check_parts.F.kp D_check_parts.b .nil (passes_call (takes_of rfl rfl rfl rfl) (fun _ _ _ _ h => h)) (pa_cons (pv 0) (pa_cons (pv 1) (pa_cons (pv 2) pa_nil)))))
      (pss_one (ps_ret (pe_lc (own := [("place", 3)]) (g := gName 3) (by rfl) nd (pi_range1 (by rfl) T.b_range (pa_cons (pe_callB (r := rLenQ K) call_len_seq (by rfl) T.b_len (by decide +kernel) (pa_cons (pv 0) pa_nil)) pa_nil)) (blkOk_by (own := [("place", 3)]) (N := N_out_of_parts) (sc := defScope s_out_of_parts) (by decide +kernel)) (fun _ _ _ _ _ => (pg_name (i := 3) nd rfl (Or.inl rfl))) (fun _ _ _ _ _ => pts_nil) (fun _ _ _ _ _ => (pe_ix (r := rIxQ K) ix_seq (pv 0) (pe_call G_place_at (hr.mono (by omega)) (by rfl) D_place_at.g D_place_at.F.kp D_place_at.b .nil pass0 (pa_cons (pe_tup (pa_cons (pv 1) (pa_cons (pv 2) pa_nil))) (pa_cons (pe_tup (pa_cons (pv 3) (pa_cons (pv 3) pa_nil))) pa_nil))) (fun _ _ => rfl))))))), ?_⟩
    walk_at "ev"
    refine ⟨fun c e H1 sm1 => ?_, qb, qn⟩
    have hr1 := sq_same sm1 hr'
    have hab : a * b ≤ 3600 := Nat.le_trans (Nat.mul_le_mul a2 b2) (by decide)
    walk_at "ev"
    intro D hD
    refine lc_range (lo := 0) (n := _) (fun i H' => Hold (Same H1 H' ∧ H' D = some (.lst (((List.range i).map fun p => p % a * b + p % b).map fun p => xs.getD p .non)))) (.mk ⟨same_new hD, upd_same⟩) ?_ ?_
    · intro i H2 hi hP
      obtain ⟨sm2, hD2⟩ := hP.un
      have hil : i < a * b := by omega
      walk_at "ev"
      w_cond _3
      walk_at "ev"
      w_cond _4
      have hT4 := SqT.of (K := K) (sm4 _ _ hq3)
      have hU4 := SqT.of (K := K) hq4
      have a1' : (1 : Int) ≤ a := by omega
      have b1' : (1 : Int) ≤ b := by omega
      have a2' : (a : Int) ≤ 1000 := by omega
      have b2' : (b : Int) ≤ 1000 := by omega
      walk_at "ev"
      intro H5 sm5
      have sm25 := sm3.trans (sm4.trans sm5)
      have hr5 := sq_same (sm2.trans sm25) hr1
      have hD5 := sm25 _ _ hD2
      have hat : atI xs ((0 + (i : Int)) % (a : Int) * (b : Int) + (0 + (i : Int)) % (b : Int)) = some (xs.getD (i % a * b + i % b) .non) := by
        refine at_getD ?_ ?_
        · rw [c]
          have h1 := Nat.mod_lt i (show a > 0 by omega)
          have h2 := Nat.mod_lt i (show b > 0 by omega)
          have h3 : (i % a + 1) * b ≤ a * b := Nat.mul_le_mul_right _ h1
          rw [Nat.add_mul, Nat.one_mul] at h3
          omega
        · rw [Int.zero_add]
          simp
      have hsz : (((List.range i).map fun p => p % a * b + p % b).map fun p => xs.getD p .non).length < sizeLine := by
        rw [List.length_map, List.length_map, List.length_range]
        exact szm (by omega)
      walk_at "ev"
      refine .mk ⟨same_mut (sm2.trans sm25) hD, ?_⟩
      rw [upd_same, rng_succ, List.map_append]
      rfl
    · intro H2 hP
      obtain ⟨sm2, hD2⟩ := hP.un
      refine qy c e D H2 (sm1.free hD) (sm1.trans sm2) ?_
      rw [hD2, c]
      rfl
end
local macro_rules | `(tactic| walk_at "ev1") => `(tactic| ((first | with_reducible show ClsV _ _ | with_reducible show Paired ClsV _ _); first | exact ClsV.own _ | exact ClsV.ty _ | exact .cons (.own _) (.cons (.own _) .nil) | exact .cons (.own _) (.cons (.own _) (.cons (.own _) .nil))))
abbrev s__law_refused : Stmt := top 21
abbrev N__law_refused : List Str := ["_law_way", "_law_row", "_law_first", "_law_second", "_law_caught", "_law_told", "error", "_law_kinds"]
abbrev P__law_refused : List Str := ["_law_way", "_law_row", "_law_first", "_law_second"]
theorem sc__law_refused : FnScope N__law_refused P__law_refused (defScope s__law_refused) := ⟨rfl, rfl, rfl, by decide +kernel, rfl, by decide +kernel, by decide +kernel⟩
structure Kit68 (K : PySem.W.Frag) (CB CN CR CO : Addr) : Prop where
  bb : PySem.W.kitOne K (.ref CB) (.ref CB) = some true
  bn : PySem.W.kitOne K (.ref CB) (.ref CN) = some false
  br : PySem.W.kitOne K (.ref CB) (.ref CR) = some false
  bo : PySem.W.kitOne K (.ref CB) (.ref CO) = some false
  nb : PySem.W.kitOne K (.ref CN) (.ref CB) = some false
  nn : PySem.W.kitOne K (.ref CN) (.ref CN) = some true
  nr : PySem.W.kitOne K (.ref CN) (.ref CR) = some false
  no : PySem.W.kitOne K (.ref CN) (.ref CO) = some false
def spRef (K : PySem.W.Frag) : Sp := fun vs H Q _ => ∃ (w : Int) (r : Addr) (xs : List V) (a b : Nat), vs = [.int w, .ref r, .int a, .int b] ∧ (SqL K H r xs ∨ SqT K H r xs) ∧ 1 ≤ a ∧ a ≤ 60 ∧ 1 ≤ b ∧ b ≤ 60 ∧
  (xs.length = a * b → Nat.gcd a b = 1 → ∀ H', Same H H' → Q .non H') ∧ (xs.length ≠ a * b → ∀ p H', Same H H' → H' p = some (.tup [.str "BadLength", .int xs.length]) → Q (.ref p) H') ∧ (xs.length = a * b → Nat.gcd a b ≠ 1 → ∀ p H', Same H H' → H' p = some (.tup [.str "NotCoprime", .int 1]) → Q (.ref p) H')
section
variable {P : Program} {w : World} {K : PySem.W.Frag} {mg : Str → Option Value} {base : Heap}
theorem ok_ref {f f1 f2 fI CB CN CT CR CO : Addr} {fd d1 d2 fdI : FuncData} {k : Nat} (F : Fun K "_law_refused" "_law_refused" s__law_refused f fd) (T : Blt mg) (D_into_parts : Df K mg "into_parts" s_into_parts P_into_parts f1 d1) (D_out_of_parts : Df K mg "out_of_parts" s_out_of_parts P_out_of_parts f2 d2)
    (G_into_parts : FnOk P w K mg base (L2.CX P w) 5 f1 d1 P_into_parts (spParts K CB CN crs)) (G_out_of_parts : FnOk P w K mg base (L2.CX P w) 5 f2 d2 P_out_of_parts (spParts K CB CN outN))
    (RB : Ref K CT CB fI) (M_BadLength : mg "BadLength" = some (.ref CB)) (RN : Ref K CT CN fI) (M_NotCoprime : mg "NotCoprime" = some (.ref CN)) (M_NoRoot : mg "NoRoot" = some (.ref CR)) (M_BadOrder : mg "BadOrder" = some (.ref CO)) (M_TurnError : mg "TurnError" = some (.ref CT)) (kt : Kit68 K CB CN CR CO) : FnOk P w K mg base CX0 (k + 6) f fd P__law_refused (spRef K) := by
  have nd := sc__law_refused.nd
  refine F.ok sc__law_refused (fun vs H Q E h => ?_) (fun cdv A outer s H vs Q E hr h => ?_)
  · obtain ⟨w, r, xs, a, b, rfl, _⟩ := h
    rfl
  · obtain ⟨w, r, xs, a, b, rfl, hr', a1, a2, b1, b2, qy, qb, qn⟩ := h
    refine ⟨_, (pss_cons (ps_set (i := 4) nd rfl (Or.inl rfl) (pe_non))
      (pss_cons (ps_try_keep (i := 6) (Wout := fun _ _ _ _ => False) rfl rfl rfl nd rfl rfl ⟨by rfl, by decide, Or.inl M_TurnError⟩ takes0 (fun W pn xe tk _ => (pss_one (ps_set (i := 5) nd rfl (Or.inl rfl) (pe_ifExp (pt_cmpR op_eq (pv 0) (pe_int) (nomark _)) (pe_callS G_into_parts (hr.mono (by omega)) (by rfl) D_into_parts.g D_into_parts.F.kp D_into_parts.b (fun σ => passAt tk σ) (pa_cons (pv 1) (pa_cons (pv 2) (pa_cons (pv 3) pa_nil)))) (pe_callS G_out_of_parts (hr.mono (by omega)) (by rfl) D_out_of_parts.g D_out_of_parts.F.kp D_out_of_parts.b (fun σ => passAt tk σ) (pa_cons (pv 1) (pa_cons (pv 2) (pa_cons (pv 3) pa_nil)))))))) (fun a pn => (pss_one (ps_set (i := 4) nd rfl (Or.inl rfl) (pv 6)))))
      (pss_cons (ps_if (pt_cmpR op_isN (pv 4) (pe_non) (nomark _)) (pss_one (ps_ret (pe_non))) pss_nil)
      (pss_cons (ps_set (i := 7) nd rfl (Or.inl rfl) (pe_lst (pa_cons (pe_callB (r := rIsX K) call_isX (by rfl) T.b_isinstance (by decide +kernel) (pa_cons (pv 4) (pa_cons (pe_glob (v := .ref _) (by rfl) M_BadLength rfl) pa_nil))) (pa_cons (pe_callB (r := rIsX K) call_isX (by rfl) T.b_isinstance (by decide +kernel) (pa_cons (pv 4) (pa_cons (pe_glob (v := .ref _) (by rfl) M_NotCoprime rfl) pa_nil))) (pa_cons (pe_callB (r := rIsX K) call_isX (by rfl) T.b_isinstance (by decide +kernel) (pa_cons (pv 4) (pa_cons (pe_glob (v := .ref _) (by rfl) M_NoRoot rfl) pa_nil))) pa_nil)))))
      (pss_cons (ps_expr (pe_bm PySem.F.plainAttrs_list PySem.F.slot_list_append PySem.F.type_list_append mt_append (pv 7) (pa_cons (pe_callB (r := rIsX K) call_isX (by rfl) T.b_isinstance (by decide +kernel) (pa_cons (pv 4) (pa_cons (pe_glob (v := .ref _) (by rfl) M_BadOrder rfl) pa_nil))) pa_nil)))
      (pss_one (ps_ret (pe_ifExp (pt_val (pe_callB (r := rAny K) (cr_any rfl) (by rfl) T.b_any (by decide +kernel) (pa_cons (pv 7) pa_nil))) (pe_tup (pa_cons (pe_ix (r := rIxL K) ix_list (pe_lst (pa_cons (pe_str) (pa_cons (pe_str) (pa_cons (pe_str) (pa_cons (pe_str) pa_nil))))) (pe_bm PySem.F.plainAttrs_list PySem.F.slot_list_index PySem.F.type_list_index mt_index (pv 7) (pa_cons (pe_bl) pa_nil)) (fun _ _ => rfl)) (pa_cons (pe_xw (pv 4)) pa_nil))) (pe_str))))))))), ?_⟩
    walk_at "ev"
    refine ite2 (fun c => ?_) (fun c => ?_)
    all_goals
      walk_at "ev"
      refine ⟨fun e1 e2 p H1 hp sm1 hq1 => ?_, fun e1 d H1 hw => ?_, fun e1 e2 d H1 hw => ?_⟩
      · walk_at "ev"
        exact qy e1 e2 _ sm1
      · refine ⟨true, RB.em, fun _ => ⟨CB, d, rfl, rfl, fun a ha => ?_⟩, fun z => nomatch z⟩
        have sm3 : Same H1 (upd H1 a (XOb CB d a)) := same_new ha
        have hx3 : XAt (upd H1 a (XOb CB d a)) a CB [(("what" : Str), .int xs.length)] := ⟨d, upd_same, sm3 _ _ hw.2.2⟩
        have ek := RB.ek
        have nw := RB.ek.nw
        obtain ⟨k1, k2, k3, k4, k5, k6, k7, k8⟩ := kt
        walk_at "ev"
        w_cond _4
        have hx4 := hx3.same sm4
        walk_at "ev"
        have hx5 : XAt (upd H4 l4 (HO.lst ([V.bl true, V.bl false, V.bl false] ++ [V.bl false]))) a CB [(("what" : Str), .int xs.length)] := by
          obtain ⟨dd, z1, z2⟩ := hx3
          exact ⟨dd, by rw [upd_ne (ne_of_none z1 hl4)]; exact sm4 _ _ z1, by rw [upd_ne (ne_of_none z2 hl4)]; exact sm4 _ _ z2⟩
        generalize hG : upd H4 l4 _ = H5 at *
        have hq5 := (mutO hG).2
        have sm5 : Same H H5 := by
          rw [← hG]
          exact same_mut (hw.2.1.trans (sm3.trans sm4)) ((hw.2.1.trans sm3).free hl4)
        clear hG
        refine ⟨(SqL.of hq5 : SqL K H5 l4 (([true, false, false, false] : List Bool).map V.bl)), ?_⟩
        walk_at "ev"
        w_cond _6
        have hx6 := hx5.same sm6
        have hL6 : SqL K H6 l4 [.bl true, .bl false, .bl false, .bl false] := SqL.of (sm6 _ _ hq5)
        have ty6 : tyV K "list" (.ref l4) H6 := .inl ⟨rfl, _, hL6⟩
        have hN6 := SqL.of (K := K) hq6
        walk_at "ev"
        refine ⟨(show ([V.bl true, V.bl false, V.bl false, V.bl false] : List V)[0]? = some (V.bl true) from rfl), rfl, (fun m z' hm _ => absurd hm (Nat.not_lt_zero m)), ?_⟩
        have at6 : atI [V.str (Str.ofString "BadLength"), V.str (Str.ofString "NotCoprime"), V.str (Str.ofString "NoRoot"), V.str (Str.ofString "BadOrder")] ((0 : Nat) : Int) = some (.str (Str.ofString "BadLength")) := rfl
        walk_at "ev"
        intro l7 hl7
        generalize hG : upd _ l7 _ = H7
        obtain ⟨sm7, hq7⟩ := newO hG hl7
        exact qb e1 l7 H7 (sm5.trans (sm6.trans sm7)) hq7
      · refine ⟨true, RN.em, fun _ => ⟨CN, d, rfl, rfl, fun a ha => ?_⟩, fun z => nomatch z⟩
        have sm3 : Same H1 (upd H1 a (XOb CN d a)) := same_new ha
        have hx3 : XAt (upd H1 a (XOb CN d a)) a CN [(("what" : Str), .int 1)] := ⟨d, upd_same, sm3 _ _ hw.2.2⟩
        have ek := RN.ek
        have nw := RN.ek.nw
        obtain ⟨k1, k2, k3, k4, k5, k6, k7, k8⟩ := kt
        walk_at "ev"
        w_cond _4
        have hx4 := hx3.same sm4
        walk_at "ev"
        have hx5 : XAt (upd H4 l4 (HO.lst ([V.bl false, V.bl true, V.bl false] ++ [V.bl false]))) a CN [(("what" : Str), .int 1)] := by
          obtain ⟨dd, z1, z2⟩ := hx3
          exact ⟨dd, by rw [upd_ne (ne_of_none z1 hl4)]; exact sm4 _ _ z1, by rw [upd_ne (ne_of_none z2 hl4)]; exact sm4 _ _ z2⟩
        generalize hG : upd H4 l4 _ = H5 at *
        have hq5 := (mutO hG).2
        have sm5 : Same H H5 := by
          rw [← hG]
          exact same_mut (hw.2.1.trans (sm3.trans sm4)) ((hw.2.1.trans sm3).free hl4)
        clear hG
        refine ⟨(SqL.of hq5 : SqL K H5 l4 (([false, true, false, false] : List Bool).map V.bl)), ?_⟩
        walk_at "ev"
        w_cond _6
        have hx6 := hx5.same sm6
        have hL6 : SqL K H6 l4 [.bl false, .bl true, .bl false, .bl false] := SqL.of (sm6 _ _ hq5)
        have ty6 : tyV K "list" (.ref l4) H6 := .inl ⟨rfl, _, hL6⟩
        have hN6 := SqL.of (K := K) hq6
        walk_at "ev"
        refine ⟨(show ([V.bl false, V.bl true, V.bl false, V.bl false] : List V)[1]? = some (V.bl true) from rfl), rfl, (fun m z' hm hz => by
          have e0 : m = 0 := by omega
          subst e0
          cases hz
          rfl), ?_⟩
        have at6 : atI [V.str (Str.ofString "BadLength"), V.str (Str.ofString "NotCoprime"), V.str (Str.ofString "NoRoot"), V.str (Str.ofString "BadOrder")] ((1 : Nat) : Int) = some (.str (Str.ofString "NotCoprime")) := rfl
        walk_at "ev"
        intro l7 hl7
        generalize hG : upd _ l7 _ = H7
        obtain ⟨sm7, hq7⟩ := newO hG hl7
        exact qn e1 e2 l7 H7 (sm5.trans (sm6.trans sm7)) hq7
end
/-! ### where into_parts and out_of_parts take from -/
def pick (ns : List Int) (L : List Nat) : List Int := L.map fun i => ns.getD i 0
theorem pick_v {ns : List Int} {L : List Nat} (h : ∀ i ∈ L, i < ns.length) : L.map (fun i => (ns.map V.int).getD i .non) = (pick ns L).map V.int := by
  unfold pick
  rw [List.map_map]
  refine List.map_congr_left fun i hi => ?_
  have := h i hi
  rw [List.getD_eq_getElem?_getD, List.getElem?_map, List.getElem?_eq_getElem this]
  show V.int _ = V.int (ns.getD i 0)
  rw [List.getD_eq_getElem?_getD, List.getElem?_eq_getElem this]
  rfl
theorem pick_all {ns : List Int} {n : Nat} (h : ns.length = n) : pick ns (List.range n) = ns := by
  unfold pick
  refine List.ext_getElem? fun i => ?_
  rw [List.getElem?_map]
  by_cases c : i < n
  · rw [List.getElem?_range c, List.getElem?_eq_getElem (by omega)]
    show some (ns.getD i 0) = _
    rw [List.getD_eq_getElem?_getD, List.getElem?_eq_getElem (by omega)]
    rfl
  · rw [List.getElem?_eq_none (by rw [List.length_range]; omega), List.getElem?_eq_none (by omega)]
    rfl
theorem pick_len {ns : List Int} {L : List Nat} : (pick ns L).length = L.length := by
  unfold pick
  rw [List.length_map]
theorem crs_lt {f s : Nat} (hf : 1 ≤ f) (hs : 1 ≤ s) : ∀ i ∈ crs f s, i < f * s := by
  intro i hi
  unfold crs crsN at hi
  obtain ⟨a, _, h⟩ := List.mem_flatMap.mp hi
  obtain ⟨b, _, rfl⟩ := List.mem_map.mp h
  exact Nat.mod_lt _ (Nat.mul_pos hf hs)
theorem out_lt {f s : Nat} (hf : 1 ≤ f) (hs : 1 ≤ s) : ∀ i ∈ outN f s, i < f * s := by
  intro i hi
  unfold outN at hi
  obtain ⟨p, _, rfl⟩ := List.mem_map.mp hi
  have h1 := Nat.mod_lt p (show f > 0 by omega)
  have h2 := Nat.mod_lt p (show s > 0 by omega)
  have h3 : (p % f + 1) * s ≤ f * s := Nat.mul_le_mul_right _ h1
  rw [Nat.add_mul, Nat.one_mul] at h3
  omega
theorem crs_one {n : Nat} : crs 1 n = List.range n := by
  unfold crs crsN
  rw [show List.range 1 = [0] from rfl]
  simp only [List.flatMap_cons, List.flatMap_nil, List.append_nil, Nat.mul_zero, Nat.zero_add, Nat.one_mul]
  refine (List.map_congr_left fun b hb => ?_).trans (List.map_id _)
  exact Nat.mod_eq_of_lt (List.mem_range.mp hb)
theorem out_one {n : Nat} : outN 1 n = List.range n := by
  unfold outN
  rw [Nat.one_mul]
  refine (List.map_congr_left fun b hb => ?_).trans (List.map_id _)
  rw [Nat.mod_one, Nat.zero_mul, Nat.zero_add]
  exact Nat.mod_eq_of_lt (List.mem_range.mp hb)
theorem out_end {n : Nat} : outN n 1 = List.range n := by
  unfold outN
  rw [Nat.mul_one]
  refine (List.map_congr_left fun b hb => ?_).trans (List.map_id _)
  rw [Nat.mod_one, Nat.mul_one, Nat.add_zero]
  exact Nat.mod_eq_of_lt (List.mem_range.mp hb)
def chkC (f s : Nat) : Bool := (List.range (f * s)).all fun k => (crs f s).contains k
theorem chk_all : ((List.range 61).all fun f => (List.range (60 / f + 1)).all fun s => (Nat.gcd f s != 1) || (f * s == 0) || chkC f s) = true := by decide +kernel
theorem crs_sur {f s : Nat} (hf : 1 ≤ f) (hs : 1 ≤ s) (h : f * s ≤ 60) (g : Nat.gcd f s = 1) : ∀ k < f * s, k ∈ crs f s := by
  have f60 : f < 61 := by
    have := Nat.mul_le_mul_left f hs
    omega
  have s60 : s < 60 / f + 1 := Nat.lt_succ_of_le ((Nat.le_div_iff_mul_le hf).mpr (by rw [Nat.mul_comm]; exact h))
  have h1 := List.all_eq_true.mp chk_all f (List.mem_range.mpr f60)
  have h2 := List.all_eq_true.mp h1 s (List.mem_range.mpr s60)
  have hp : f * s ≠ 0 := Nat.ne_of_gt (Nat.mul_pos hf hs)
  have h3 : chkC f s = true := by simpa [g, hp, Nat.ne_of_gt hf, Nat.ne_of_gt hs] using h2
  intro k hk
  have h4 := List.all_eq_true.mp h3 k (List.mem_range.mpr hk)
  simpa using h4
abbrev s__law_crossed : Stmt := top 22
abbrev N__law_crossed : List Str := ["_law_first", "_law_second", "_law_found", "_law_a", "_law_b"]
abbrev P__law_crossed : List Str := ["_law_first", "_law_second"]
theorem sc__law_crossed : FnScope N__law_crossed P__law_crossed (defScope s__law_crossed) := ⟨rfl, rfl, rfl, by decide +kernel, rfl, by decide +kernel, by decide +kernel⟩
def spCrs : Sp := fun vs H Q _ => ∃ (a b : Nat), vs = [.int a, .int b] ∧ 1 ≤ a ∧ a ≤ 60 ∧ 1 ≤ b ∧ b ≤ 60 ∧ ∀ p H', H p = none → Same H H' → H' p = some (.lst ((crs a b).map fun i : Nat => V.int i)) → Q (.ref p) H'
section
variable {P : Program} {w : World} {K : PySem.W.Frag} {mg : Str → Option Value} {base : Heap}
theorem ok_crs {f : Addr} {fd : FuncData} {k : Nat} (F : Fun K "_law_crossed" "_law_crossed" s__law_crossed f fd) (T : Blt mg) : FnOk P w K mg base CX0 (k + 1) f fd P__law_crossed spCrs := by
  have nd := sc__law_crossed.nd
  refine F.ok sc__law_crossed (fun vs H Q E h => ?_) (fun cdv A outer s H vs Q E hr h => ?_)
  · obtain ⟨a, b, rfl, _⟩ := h
    rfl
  · obtain ⟨a, b, rfl, a1, a2, b1, b2, q⟩ := h
    refine ⟨_, (pss_cons (ps_set (i := 2) nd rfl (Or.inl rfl) (pe_lst pa_nil))
      (pss_cons (ps_for PassesOwn.never rfl (pi_range1 (by rfl) T.b_range (pa_cons (pv 0) pa_nil)) (pg_name (i := 3) nd rfl (Or.inr rfl))
      (pss_one (ps_set (i := 2) nd rfl (Or.inl rfl) (pe_op op_cat (pv 2) (pe_lc (own := [("_law_b", 4)]) (g := gName 4) (by rfl) nd (pi_range1 (by rfl) T.b_range (pa_cons (pv 1) pa_nil)) (blkOk_by (own := [("_law_b", 4)]) (N := N__law_crossed) (sc := defScope s__law_crossed) (by decide +kernel)) (fun _ _ _ _ _ => (pg_name (i := 4) nd rfl (Or.inl rfl))) (fun _ _ _ _ _ => pts_nil) (fun _ _ _ _ _ => (pe_op op_mod (pe_op op_add (pe_op op_mul (pv 1) (pv 3)) (pe_op op_mul (pv 0) (pv 4))) (pe_op op_mul (pv 0) (pv 1)))))))))
      (pss_one (ps_ret (pv 2))))), ?_⟩
    have a0 : (0 : Int) ≤ (a : Int) := by omega
    have b0 : (0 : Int) ≤ (b : Int) := by omega
    have hab : a * b ≤ 3600 := Nat.le_trans (Nat.mul_le_mul a2 b2) (by decide)
    have hab1 : 1 * 1 ≤ a * b := Nat.mul_le_mul a1 b1
    walk_at "ev"
    w_cond _1
    walk_at "ev"
    refine for_range (lo := 0) (n := _) (fun i σ H' => Hold (∃ (l : Addr) (s3 : Option V), σ = [some (.int a), some (.int b), some (.ref l), s3, none] ∧ Same H H' ∧ H l = none ∧ H' l = some (.lst ((crsN a b i).map fun i : Nat => V.int i)))) (.mk ⟨l1, none, rfl, sm1, hl1, hq1⟩) ?_ ?_
    · intro i σ H2 hi hP
      obtain ⟨l, s3, rfl, sm2, hl, hq2⟩ := hP.un
      have hia : i < a := by omega
      have hib : i * b ≤ a * b := Nat.mul_le_mul_right _ (by omega)
      have hcl := crs_len (f := a) (s := b) i
      walk_at "ev"
      intro D hD
      refine lc_range (lo := 0) (n := _) (fun j H' => Hold (Same H2 H' ∧ H' D = some (.lst (((List.range j).map fun y => (b * i + a * y) % (a * b)).map fun i : Nat => V.int i)))) (.mk ⟨same_new hD, upd_same⟩) ?_ ?_
      · intro j H3 hj hP3
        obtain ⟨sm3, hD3⟩ := hP3.un
        have hjb : j < b := by omega
        have cm1 : CMul (b : Int) (0 + (i : Int)) := .inl ⟨by omega, by omega⟩
        have cm2 : CMul (a : Int) (0 + (j : Int)) := .inl ⟨by omega, by omega⟩
        have cm3 : CMul (a : Int) (b : Int) := .inl ⟨by omega, by omega⟩
        have hx0 : (0 : Int) < (a : Int) * (b : Int) := by
          rw [← Int.natCast_mul]
          omega
        have hsz : (((List.range j).map fun y => (b * i + a * y) % (a * b)).map fun i : Nat => V.int i).length < sizeLine := by
          rw [List.length_map, List.length_map, List.length_range]
          exact szm (by omega)
        walk_at "ev"
        refine .mk ⟨same_mut sm3 hD, ?_⟩
        rw [upd_same, rng_succ]
        simp only [List.map_append, Int.zero_add]
        simp
      · intro H3 hP3
        obtain ⟨sm3, hD3⟩ := hP3.un
        have hq3 := sm3 _ _ hq2
        have z : ((crsN a b i).map fun i : Nat => V.int i).length + (((List.range (((b : Int) - 0).toNat)).map fun y => (b * i + a * y) % (a * b)).map fun i : Nat => V.int i).length ≤ sizeLine := szl (by
          rw [List.length_map, List.length_map, List.length_map, List.length_range, hcl]
          omega)
        walk_at "ev"
        w_cond _4
        refine .mk ⟨l4, _, rfl, sm2.trans (sm3.trans sm4), (sm2.trans sm3).free hl4, ?_⟩
        rw [hq4, crs_succ, List.map_append]
        rfl
    · intro σ H2 hP
      obtain ⟨l, s3, rfl, sm2, hl, hq2⟩ := hP.un
      walk_at "ev"
      exact q l H2 hl sm2 hq2
end
/-! ### a loop over enumerate -/
theorem for_enumL {K : PySem.W.Frag} {a : Addr} {xs : List V} {g : TG} {tb : TS} {D : Ends} {σ : L2.St} {H : Hp} (Pv : Nat → L2.St → Hp → Prop) (h0 : Pv 0 σ H) (hq : ∀ i σ H, Pv i σ H → SqL K H a xs)
    (hs : ∀ (i : Nat) (x : V) (T : Addr) (σ : L2.St) (H : Hp), xs[i]? = some x → Pv i σ H → H T = none → g (.ref T) σ (upd H T (.tup [.int (i : Nat), x])) fun σ2 H2 => tb { D with nx := Pv (i + 1), ct := Pv (i + 1), bk := D.nx } σ2 H2) (hd : ∀ σ H, Pv xs.length σ H → D.nx σ H) :
    ∃ W : Nat → Nat → L2.St → Hp → Prop, (∃ m, W 0 m σ H) ∧ ∀ i m σ H, W i m σ H →
      ((Ite K a).stop i H ∧ D.nx σ H) ∨ ((Ite K a).go i H ∧ ∃ N : L2.St → Hp → Prop, (∀ σ' H', N σ' H' → ∃ m', m' < m ∧ W (i + 1) m' σ' H') ∧ ∀ v H', (Ite K a).yld i H v H' → g v σ H' fun σ2 H2 => tb { D with nx := N, ct := N, bk := D.nx } σ2 H2) := by
  refine ⟨fun i m σ H => m = xs.length - i ∧ i ≤ xs.length ∧ Pv i σ H, ⟨xs.length, rfl, Nat.zero_le _, h0⟩, ?_⟩
  rintro i m σ H ⟨rfl, hi, p⟩
  have q := hq i σ H p
  by_cases hlt : i < xs.length
  · refine .inr ⟨⟨xs, xs[i], q, List.getElem?_eq_getElem hlt⟩, Pv (i + 1), fun σ' H' p' => ⟨xs.length - (i + 1), by omega, rfl, hlt, p'⟩, fun v H' y => ?_⟩
    obtain ⟨T, x', rfl, hT, rfl, f1⟩ := y
    exact hs i x' T σ H (f1 xs q) p hT
  · have e : i = xs.length := by omega
    subst e
    exact .inl ⟨⟨xs, q, Nat.le_refl _⟩, hd σ H p⟩
theorem dpi {K : PySem.W.Frag} {H : Hp} {a : Addr} {ns : List Int} (h : H a = some (.lst (ns.map V.int))) : Dp K H (.ref a) (.list (ns.map PyData.int)) := .lst (SqL.of h) (dp_ints ns)
theorem fiti {ns : List Int} (h : ns.length ≤ 4000) : Fit 1 (.list (ns.map PyData.int)) := by
  refine ⟨by rw [List.length_map]; exact h, fun e he => ?_⟩
  obtain ⟨c, _, rfl⟩ := List.mem_map.mp he
  exact True.intro
theorem fits {ls : List (List Int)} (h : ∀ l ∈ ls, l.length ≤ 4000) (k : ls.length ≤ 4000) : Fit 2 (.list (ls.map fun l => .list (l.map PyData.int))) := by
  refine ⟨by rw [List.length_map]; exact k, fun e he => ?_⟩
  obtain ⟨l, hl, rfl⟩ := List.mem_map.mp he
  exact fiti (h l hl)
theorem rep_flat {n : Nat} {v : V} : (List.replicate n [v]).flatten = List.replicate n v := by
  induction n with
  | zero => rfl
  | succ n ih =>
    rw [List.replicate_succ, List.flatten_cons, ih]
    rfl
theorem ixn_of {n j : Nat} {i : Int} (h : j < n) (e : i = (j : Int)) : ixN n i = some j := by
  subst e
  unfold ixN
  simp [h]
theorem fit_up : ∀ {n : Nat} {d : PyData}, Fit n d → Fit (n + 1) d
  | 0, .list _, h => h.elim
  | 0, .tuple _, h => h.elim
  | n + 1, .list ds, h => ⟨h.1, fun e he => fit_up (h.2 e he)⟩
  | n + 1, .tuple ds, h => ⟨h.1, fun e he => fit_up (h.2 e he)⟩
  | 0, .dict _, h => h.elim
  | _ + 1, .dict _, h => h.elim
  | 0, .none, _ => True.intro
  | _ + 1, .none, _ => True.intro
  | 0, .bool _, _ => True.intro
  | _ + 1, .bool _, _ => True.intro
  | 0, .int _, _ => True.intro
  | _ + 1, .int _, _ => True.intro
  | 0, .str _, _ => True.intro
  | _ + 1, .str _, _ => True.intro
abbrev s__law_right : Stmt := top 23
abbrev N__law_right : List Str := ["_law_box_here", "_law_first", "_law_second", "_law_count", "_law_shift", "_law_row", "_law_stays", "_law_shared", "_law_way", "_law_other", "_law_place", "_law_due", "_law_out", "_law_told", "_law_there", "_law_at", "_law_k"]
abbrev P__law_right : List Str := ["_law_box_here"]
theorem sc__law_right : FnScope N__law_right P__law_right (defScope s__law_right) := ⟨rfl, rfl, rfl, by decide +kernel, rfl, by decide +kernel, by decide +kernel⟩
def spRt : Sp := fun vs H Q _ => ∃ (b : Addr) (n : Int), vs = [.ref b] ∧ BoxAt H b n ∧ n < 900000 ∧ ∀ H', Keep b H H' → BoxAt H' b (n + 12) → Q (.bl true) H'
section
variable {P : Program} {w : World} {K : PySem.W.Frag} {mg : Str → Option Value} {base : Heap}
theorem right_U {f f1 f2 f3 f4 CB CN : Addr} {d1 d2 d3 d4 : FuncData} {A : Around} {outer : List Env} {s : Shared} {H : Hp} {Q : VK} {E : XK} {cdv : Value} (T : Blt mg) (hr : Room 6 (A.deeper (PyProof.Rows.envOfC "_law_right" (defScope s__law_right) s.heap.objs.size f cdv)))
    (D__law_crossed : Df K mg "_law_crossed" s__law_crossed P__law_crossed f1 d1) (D__law_same : Df K mg "_law_same" s__law_same P__law_same f2 d2) (D_into_parts : Df K mg "into_parts" s_into_parts P_into_parts f3 d3) (D_out_of_parts : Df K mg "out_of_parts" s_out_of_parts P_out_of_parts f4 d4)
    (G_into_parts : FnOk P w K mg base (L2.CX P w) 5 f3 d3 P_into_parts (spParts K CB CN crs)) (G_out_of_parts : FnOk P w K mg base (L2.CX P w) 5 f4 d4 P_out_of_parts (spParts K CB CN outN)) :
    ∃ tl, PSs (cxOf CX0 P w K mg base N__law_right "_law_right" (defScope s__law_right) f cdv A outer s H E).nox ((defBody s__law_right).drop 19) tl ∧
      ∀ (N : Nat) (rl : Addr) (ns : List Int) (H3 : Hp) (x0 x1 x2 x4 x6 x7 x8 x9 x10 x11 x12 x13 x14 x15 x16 : Option V), 1 ≤ N → N ≤ 60 → ns.length = N → H3 rl = some (.lst (ns.map V.int)) → (∀ H', Same H3 H' → Q (.bl true) H') →
        tl { nx := fun _ H' => Q .non H', rt := Q } [x0, x1, x2, some (.int N), x4, some (.ref rl), x6, x7, x8, x9, x10, x11, x12, x13, x14, x15, x16] H3 := by
  have G__law_crossed : FnOk P w K mg base CX0 1 f1 d1 P__law_crossed spCrs := ok_crs D__law_crossed.F T
  have G__law_same : FnOk P w K mg base CX0 3 f2 d2 P__law_same (spSame K 2) := ok_same D__law_same T 2
  have nd := sc__law_right.nd
  refine ⟨_, (pss_one (ps_ret (pe_and (pe_call G__law_same (hr.mono (by omega)) (by rfl) D__law_same.g D__law_same.F.kp D__law_same.b .nil pass0 (pa_cons (pe_call G_into_parts (hr.mono (by omega)) (by rfl) D_into_parts.g D_into_parts.F.kp D_into_parts.b .nil passL (pa_cons (pv 5) (pa_cons (pe_int) (pa_cons (pv 3) pa_nil)))) (pa_cons (pv 5) pa_nil))) (pe_one (pe_call G__law_same (hr.mono (by omega)) (by rfl) D__law_same.g D__law_same.F.kp D__law_same.b .nil pass0 (pa_cons (pe_call G_out_of_parts (hr.mono (by omega)) (by rfl) D_out_of_parts.g D_out_of_parts.F.kp D_out_of_parts.b .nil passL (pa_cons (pv 5) (pa_cons (pv 3) (pa_cons (pe_int) pa_nil)))) (pa_cons (pv 5) pa_nil))))))), ?_⟩
  intro N rl ns H3 x0 x1 x2 x4 x6 x7 x8 x9 x10 x11 x12 x13 x14 x15 x16 h1 h60 hns hrl q
  have hL : SqL K H3 rl (ns.map V.int) ∨ SqT K H3 rl (ns.map V.int) := .inl (SqL.of hrl)
  walk_at "ev"
  refine ⟨fun _ _ p H4 hp sm4 hq4 => ?_, fun c => ?_, fun _ c => ?_⟩
  rotate_left
  · exact absurd (by rw [List.length_map, hns]; exact (Nat.one_mul N).symm) c
  · exact absurd (Nat.gcd_one_left N) c
  rw [crs_one, pick_v (by intro i hi; rw [hns]; exact List.mem_range.mp hi), pick_all hns] at hq4
  have hrl4 := sm4 _ _ hrl
  have hdx := dpi (K := K) hq4
  have hdy := dpi (K := K) hrl4
  have hft : Fit 2 (.list (ns.map PyData.int)) := fit_up (fiti (by omega))
  have hL4 : SqL K H4 rl (ns.map V.int) ∨ SqT K H4 rl (ns.map V.int) := .inl (SqL.of hrl4)
  walk_at "ev"
  intro H5 sm5
  have hL5 := sq_same sm5 hL4
  walk_at "ev"
  refine ⟨fun _ _ p2 H6 hp2 sm6 hq6 => ?_, fun c => ?_, fun _ c => ?_⟩
  rotate_left
  · exact absurd (by rw [List.length_map, hns]; exact (Nat.mul_one N).symm) c
  · exact absurd (Nat.gcd_one_right N) c
  rw [out_end, pick_v (by intro i hi; rw [hns]; exact List.mem_range.mp hi), pick_all hns] at hq6
  have hrl6 := (sm5.trans sm6) _ _ hrl4
  have hdx6 := dpi (K := K) hq6
  have hdy6 := dpi (K := K) hrl6
  walk_at "ev"
  intro H7 sm7
  exact q _ (sm4.trans (sm5.trans (sm6.trans sm7)))
theorem right_T {f f1 f2 f3 f4 CB CN : Addr} {d1 d2 d3 d4 : FuncData} {A : Around} {outer : List Env} {s : Shared} {H : Hp} {Q : VK} {E : XK} {cdv : Value} (T : Blt mg) (hr : Room 6 (A.deeper (PyProof.Rows.envOfC "_law_right" (defScope s__law_right) s.heap.objs.size f cdv)))
    (D__law_crossed : Df K mg "_law_crossed" s__law_crossed P__law_crossed f1 d1) (D__law_same : Df K mg "_law_same" s__law_same P__law_same f2 d2) (D_into_parts : Df K mg "into_parts" s_into_parts P_into_parts f3 d3) (D_out_of_parts : Df K mg "out_of_parts" s_out_of_parts P_out_of_parts f4 d4)
    (G_into_parts : FnOk P w K mg base (L2.CX P w) 5 f3 d3 P_into_parts (spParts K CB CN crs)) (G_out_of_parts : FnOk P w K mg base (L2.CX P w) 5 f4 d4 P_out_of_parts (spParts K CB CN outN)) :
    ∃ tl, PSs (cxOf CX0 P w K mg base N__law_right "_law_right" (defScope s__law_right) f cdv A outer s H E).nox ((defBody s__law_right).drop 16) tl ∧
      ∀ (F S : Nat) (rl tt t0 t1 t2 t3 : Addr) (ns : List Int) (H3 : Hp) (x0 x4 x6 x7 x8 x9 x10 x11 x12 : Option V), 1 ≤ F → 1 ≤ S → F * S ≤ 60 → Nat.gcd F S = 1 → ns.length = F * S → H3 rl = some (.lst (ns.map V.int)) → H3 tt = some (.lst [.ref t0, .ref t1, .ref t2, .ref t3]) →
        H3 t1 = some (.lst ((pick ns (crs F S)).map V.int)) → H3 t3 = some (.lst ((pick ns (outN F S)).map V.int)) → (∀ H', Same H3 H' → Q (.bl true) H') →
        tl { nx := fun _ H' => Q .non H', rt := Q } [x0, some (.int F), some (.int S), some (.int (F * S : Nat)), x4, some (.ref rl), x6, x7, x8, x9, x10, x11, x12, some (.ref tt), none, none, none] H3 := by
  have G__law_crossed : FnOk P w K mg base CX0 1 f1 d1 P__law_crossed spCrs := ok_crs D__law_crossed.F T
  have G__law_same : FnOk P w K mg base CX0 3 f2 d2 P__law_same (spSame K 2) := ok_same D__law_same T 2
  obtain ⟨tl, htl, fin⟩ := right_U (P := P) (w := w) (base := base) (outer := outer) (H := H) (Q := Q) (E := E) T hr D__law_crossed D__law_same D_into_parts D_out_of_parts G_into_parts G_out_of_parts
  have nd := sc__law_right.nd
  refine ⟨_, (pss_cons (ps_set (i := 14) nd rfl (Or.inl rfl) (pe_op op_rep (pe_lst (pa_cons (pe_non) pa_nil)) (pv 3)))
      (pss_cons (ps_for PassesOwn.never rfl (pi_enum (by rfl) T.b_enumerate (pa_cons (pe_call G__law_crossed (hr.mono (by omega)) (by rfl) D__law_crossed.g D__law_crossed.F.kp D__law_crossed.b .nil pass0 (pa_cons (pv 1) (pa_cons (pv 2) pa_nil))) pa_nil)) (pg_tup (by rfl) (pgs_cons (pg_name (i := 15) nd rfl (Or.inl rfl)) (pgs_cons (pg_name (i := 10) nd rfl (Or.inl rfl)) pgs_nil)))
      (pss_one (ps_asg (pe_ix (r := rIxL K) ix_list (pe_ix (r := rIxL K) ix_list (pv 13) (pe_int) (fun _ _ => rfl)) (pv 15) (fun _ _ => rfl)) (pg_sub (pv 14) (pv 10) set_list))))
      (pss_cons (ps_if (PW.pt (pw_or (pt_not (pt_val (pe_call G__law_same (hr.mono (by omega)) (by rfl) D__law_same.g D__law_same.F.kp D__law_same.b .nil pass0 (pa_cons (pv 14) (pa_cons (pv 5) pa_nil))))) (pw_or1 (PW.pt (pw_and (pt_cmpR op_eq (pv 1) (pe_int) (nomark _)) (pw_and1 (pt_not (pt_val (pe_call G__law_same (hr.mono (by omega)) (by rfl) D__law_same.g D__law_same.F.kp D__law_same.b .nil pass0 (pa_cons (pe_lst (pa_cons (pe_ix (r := rIxL K) ix_list (pv 13) (pe_int) (fun _ _ => rfl)) (pa_cons (pe_ix (r := rIxL K) ix_list (pv 13) (pe_int) (fun _ _ => rfl)) pa_nil))) (pa_cons (pe_lst (pa_cons (pv 5) (pa_cons (pv 5) pa_nil))) pa_nil))))))))))) (pss_one (ps_ret (pe_bl))) pss_nil)
      htl))), ?_⟩
  intro F S rl tt t0 t1 t2 t3 ns H3 x0 x4 x6 x7 x8 x9 x10 x11 x12 hF hS hFS hg hns hrl htt ht1 ht3 q
  have f60 : F ≤ 60 := Nat.le_trans (Nat.le_mul_of_pos_right F hS) hFS
  have s60 : S ≤ 60 := Nat.le_trans (Nat.le_mul_of_pos_left S hF) hFS
  have z1 : ([V.non] : List V).length * ((F * S : Nat) : Int).toNat ≤ sizeLine := szl (by show 1 * _ ≤ 60000; omega)
  walk_at "ev"
  w_cond _4
  walk_at "ev"
  w_cond _5
  walk_at "ev"
  intro lc H6 hlc sm6 hq6
  have hL6 := SqL.of (K := K) hq6
  walk_at "ev"
  have f5 : H3 l5 = none := sm4.free hl5
  have sm36 := sm4.trans (sm5.trans sm6)
  have hcl : (crs F S).length = F * S := crs_len F
  refine for_enumL (K := K) (a := lc) (xs := (crs F S).map fun i : Nat => V.int i) (fun i σ H' => Hold (∃ (th : List V) (y10 y15 : Option V), σ = [x0, some (.int F), some (.int S), some (.int (F * S : Nat)), x4, some (.ref rl), x6, x7, x8, x9, y10, x11, x12, some (.ref tt), some (.ref l5), y15, none] ∧ Same H3 H' ∧ SqL K H' lc ((crs F S).map fun i : Nat => V.int i) ∧ H' l5 = some (.lst th) ∧ th.length = F * S ∧ ∀ p ∈ (crs F S).take i, th[p]? = some (.int (ns.getD p 0)))) (.mk ⟨List.replicate (F * S) .non, _, _, rfl, sm36, hL6, ?_, by simp, fun p hp => absurd hp (by simp)⟩) ?_ ?_ ?_
  · rw [sm6 _ _ hq5, rep_flat]
    rfl
  · intro i σ H7 hP
    obtain ⟨th, y10, y15, rfl, sm7, hL7, h57, hth, hin⟩ := hP.un
    exact hL7
  · intro i v T' σ H7 hv hP hT
    obtain ⟨th, y10, y15, rfl, sm7, hL7, h57, hth, hin⟩ := hP.un
    rw [List.getElem?_map] at hv
    obtain ⟨p, hx, ev⟩ := Option.map_eq_some_iff.mp hv
    subst ev
    have hil : i < (crs F S).length := (List.getElem?_eq_some_iff.mp hx).1
    have hpl := crs_lt hF hS p (List.mem_of_getElem? hx)
    generalize hG : upd _ T' _ = H8
    obtain ⟨sm8, hq8⟩ := newO hG hT
    clear hG
    have hT8 : SqT K H8 T' [.int (i : Nat), .int (p : Nat)] := SqT.of hq8
    have sm78 := sm7.trans sm8
    have htt8 := SqL.of (K := K) (sm78 _ _ htt)
    have ht18 := SqL.of (K := K) (sm78 _ _ ht1)
    have h58 := sm8 _ _ h57
    have at1 : atI [V.ref t0, V.ref t1, V.ref t2, V.ref t3] 1 = some (.ref t1) := rfl
    have at2 : atI ((pick ns (crs F S)).map V.int) (i : Nat) = some (.int (ns.getD p 0)) := by
      refine at_of (j := i) rfl ?_
      unfold pick
      rw [List.getElem?_map, List.getElem?_map, hx]
      rfl
    have hix : ixN th.length (p : Nat) = some p := ixn_of (by omega) rfl
    walk_at "ev"
    refine .mk ⟨th.set p (.int (ns.getD p 0)), _, _, rfl, same_mut sm78 f5, ?_, upd_same, by rw [List.length_set]; exact hth, fun r hr => ?_⟩
    · exact keep_upd (Keep.refl _ _) |>.seq (ne_of_none hq5 hlc).symm (sm8.seq hL7)
    · rw [List.take_add_one, hx] at hr
      by_cases e : p = r
      · subst e
        rw [List.getElem?_set_self (by omega)]
      · rw [List.getElem?_set_ne e]
        rcases List.mem_append.mp hr with z | z
        · exact hin r z
        · exact absurd (by simpa using z : r = p).symm e
  · intro σ H7 hP
    obtain ⟨th, y10, y15, rfl, sm7, hL7, h57, hth, hin⟩ := hP.un
    rw [List.length_map, List.take_length] at hin
    have eth : th = ns.map V.int := by
      refine List.ext_getElem? fun r => ?_
      by_cases c : r < F * S
      · rw [hin r (crs_sur hF hS hFS hg r c), List.getElem?_map, List.getElem?_eq_getElem (by omega)]
        rw [List.getD_eq_getElem?_getD, List.getElem?_eq_getElem (by omega)]
        rfl
      · rw [List.getElem?_eq_none (by omega), List.getElem?_eq_none (by rw [List.length_map]; omega)]
    subst eth
    have hrl7 := sm7 _ _ hrl
    have hdx := dpi (K := K) h57
    have hdy := dpi (K := K) hrl7
    have hft : Fit 2 (.list (ns.map PyData.int)) := fit_up (fiti (by omega))
    walk_at "ev"
    intro H8 sm8
    have sm38 := sm7.trans sm8
    have done19 : ∀ H9, Same H3 H9 → tl { nx := fun x H' => Q V.non H', rt := Q } [x0, some (.int F), some (.int S), some (.int (F * S : Nat)), x4, some (.ref rl), x6, x7, x8, x9, y10, x11, x12, some (.ref tt), some (.ref l5), y15, none] H9 := fun H9 sm9 =>
      fin (F * S) rl ns H9 _ _ _ _ _ _ _ _ _ _ _ _ _ _ _ (Nat.mul_pos hF hS) hFS hns (sm9 _ _ hrl) fun H' sm' => q _ (sm9.trans sm')
    have htt8 := SqL.of (K := K) (sm38 _ _ htt)
    have at1 : atI [V.ref t0, V.ref t1, V.ref t2, V.ref t3] 1 = some (.ref t1) := rfl
    have at3 : atI [V.ref t0, V.ref t1, V.ref t2, V.ref t3] 3 = some (.ref t3) := rfl
    walk_at "ev"
    refine ite2 (fun c => ?_) (fun c => ?_)
    · have c1 : F = 1 := by
        have := V.int.inj (of_decide_eq_true c)
        omega
      subst c1
      rw [crs_one, pick_all (by omega)] at ht1
      rw [out_one, pick_all (by omega)] at ht3
      walk_at "ev"
      w_cond _9
      walk_at "ev"
      w_cond _10
      have s8 := sm9.trans sm10
      have s3 := sm38.trans s8
      have hd1 : Dp K H10 (.ref l9) (.list (([ns, ns] : List (List Int)).map fun l => .list (l.map PyData.int))) := .lst (SqL.of (sm10 _ _ hq9)) (.cons (dpi (s3 _ _ ht1)) (.cons (dpi (s3 _ _ ht3)) .nil))
      have hd2 : Dp K H10 (.ref l10) (.list (([ns, ns] : List (List Int)).map fun l => .list (l.map PyData.int))) := .lst (SqL.of hq10) (.cons (dpi (s3 _ _ hrl)) (.cons (dpi (s3 _ _ hrl)) .nil))
      have hf2 : Fit 2 (.list (([ns, ns] : List (List Int)).map fun l => .list (l.map PyData.int))) := fits (by intro l hl; simp only [List.mem_cons, List.not_mem_nil, or_false] at hl; rcases hl with z | z <;> rw [z] <;> omega) (by show 2 ≤ 4000; decide)
      walk_at "ev"
      intro H11 sm11
      walk_at "ev"
      exact done19 _ (s3.trans sm11)
    · walk_at "ev"
      exact done19 _ sm38
end
theorem ned_ints {K : PySem.W.Frag} {H : Hp} {a b : Addr} {ns ms : List Int} {Q : VK} (ha : SqL K H a (ns.map V.int)) (hb : SqL K H b (ms.map V.int)) (q : Q (.bl (!decide (ns = ms))) H) : rNeD K (.ref a) (.ref b) H Q := by
  refine ⟨_, _, .lst ha (dp_ints ns), .lst hb (dp_ints ms), PySem.W.ke_shaped_ints ns, PySem.W.ke_shaped_ints ms, ?_⟩
  have e : PyData.eqv (.list (ns.map PyData.int)) (.list (ms.map PyData.int)) = decide (ns = ms) := by
    rw [PyData.eqv]
    exact eqv_ints ns ms
  rw [e]
  exact q
theorem int_getD {ns : List Int} {i : Nat} (h : i < ns.length) : (ns.map V.int)[i]? = some (.int (ns.getD i 0)) := by
  rw [List.getElem?_map, List.getD_eq_getElem?_getD, List.getElem?_eq_getElem h]
  rfl
theorem pick_take {ns : List Int} {L : List Nat} {i p : Nat} (h : L[i]? = some p) : pick ns (L.take (i + 1)) = pick ns (L.take i) ++ [ns.getD p 0] := by
  unfold pick
  rw [List.take_add_one, h, List.map_append]
  rfl
section
variable {P : Program} {w : World} {K : PySem.W.Frag} {mg : Str → Option Value} {base : Heap}
theorem right_S {f f1 f2 f3 f4 CB CN : Addr} {d1 d2 d3 d4 : FuncData} {A : Around} {outer : List Env} {s : Shared} {H : Hp} {Q : VK} {E : XK} {cdv : Value} (T : Blt mg) (hr : Room 6 (A.deeper (PyProof.Rows.envOfC "_law_right" (defScope s__law_right) s.heap.objs.size f cdv)))
    (D__law_crossed : Df K mg "_law_crossed" s__law_crossed P__law_crossed f1 d1) (D__law_same : Df K mg "_law_same" s__law_same P__law_same f2 d2) (D_into_parts : Df K mg "into_parts" s_into_parts P_into_parts f3 d3) (D_out_of_parts : Df K mg "out_of_parts" s_out_of_parts P_out_of_parts f4 d4)
    (G_into_parts : FnOk P w K mg base (L2.CX P w) 5 f3 d3 P_into_parts (spParts K CB CN crs)) (G_out_of_parts : FnOk P w K mg base (L2.CX P w) 5 f4 d4 P_out_of_parts (spParts K CB CN outN)) :
    ∃ tl, PSs (cxOf CX0 P w K mg base N__law_right "_law_right" (defScope s__law_right) f cdv A outer s H E).nox ((defBody s__law_right).drop 8) tl ∧
      ∀ (F S : Nat) (rl sl : Addr) (ns : List Int) (H3 : Hp) (x0 x4 x7 x8 x9 : Option V), 1 ≤ F → 1 ≤ S → F * S ≤ 60 → Nat.gcd F S = 1 → ns.length = F * S → H3 rl = some (.lst (ns.map V.int)) → H3 sl = some (.lst (ns.map V.int)) → (∀ H', Same H3 H' → Q (.bl true) H') →
        tl { nx := fun _ H' => Q .non H', rt := Q } [x0, some (.int F), some (.int S), some (.int (F * S : Nat)), x4, some (.ref rl), some (.ref sl), x7, x8, x9, none, none, none, none, none, none, none] H3 := by
  have G__law_crossed : FnOk P w K mg base CX0 1 f1 d1 P__law_crossed spCrs := ok_crs D__law_crossed.F T
  have G__law_same : FnOk P w K mg base CX0 3 f2 d2 P__law_same (spSame K 2) := ok_same D__law_same T 2
  obtain ⟨tl, htl, fin⟩ := right_T (P := P) (w := w) (base := base) (outer := outer) (H := H) (Q := Q) (E := E) T hr D__law_crossed D__law_same D_into_parts D_out_of_parts G_into_parts G_out_of_parts
  have nd := sc__law_right.nd
  refine ⟨_, (pss_cons (ps_setLc (i := 11) (own := [("_law_place", 10)]) (g := gName 10) (by rfl) nd rfl rfl (sw_true rfl rfl rfl (by decide +kernel)) (pi_list (pe_call G__law_crossed (hr.mono (by omega)) (by rfl) D__law_crossed.g D__law_crossed.F.kp D__law_crossed.b .nil pass0 (pa_cons (pv 1) (pa_cons (pv 2) pa_nil)))) (blkOk_by (own := [("_law_place", 10)]) (N := N__law_right) (sc := defScope s__law_right) (by decide +kernel)) (fun _ _ _ _ _ => (pg_name (i := 10) nd rfl (Or.inl rfl))) (fun _ _ _ _ _ => pts_nil) (fun _ _ _ _ _ => (pe_ix (r := rIxL K) ix_list (pv 5) (pv 10) (fun _ _ => rfl))))
      (pss_cons (ps_setLc (i := 12) (own := [("_law_k", 16)]) (g := gName 16) (by rfl) nd rfl rfl (sw_true rfl rfl rfl (by decide +kernel)) (pi_range1 (by rfl) T.b_range (pa_cons (pv 3) pa_nil)) (blkOk_by (own := [("_law_k", 16)]) (N := N__law_right) (sc := defScope s__law_right) (by decide +kernel)) (fun _ _ _ _ _ => (pg_name (i := 16) nd rfl (Or.inl rfl))) (fun _ _ _ _ _ => pts_nil) (fun _ _ _ _ _ => (pe_ix (r := rIxL K) ix_list (pv 5) (pe_op op_add (pe_op op_mul (pe_op op_mod (pv 16) (pv 1)) (pv 2)) (pe_op op_mod (pv 16) (pv 2))) (fun _ _ => rfl))))
      (pss_cons (ps_set (i := 13) nd rfl (Or.inl rfl) (pe_lst (pa_cons (pe_call G_into_parts (hr.mono (by omega)) (by rfl) D_into_parts.g D_into_parts.F.kp D_into_parts.b .nil passL (pa_cons (pv 5) (pa_cons (pv 1) (pa_cons (pv 2) pa_nil)))) (pa_cons (pe_call G_into_parts (hr.mono (by omega)) (by rfl) D_into_parts.g D_into_parts.F.kp D_into_parts.b .nil passL (pa_cons (pe_callTy call_tuple_of (by rfl) T.b_tuple (by decide +kernel) (pa_cons (pv 5) pa_nil)) (pa_cons (pv 1) (pa_cons (pv 2) pa_nil)))) pa_nil))))
      (pss_cons (ps_set (i := 13) nd rfl (Or.inl rfl) (pe_op op_cat (pv 13) (pe_lst (pa_cons (pe_call G_out_of_parts (hr.mono (by omega)) (by rfl) D_out_of_parts.g D_out_of_parts.F.kp D_out_of_parts.b .nil passL (pa_cons (pv 5) (pa_cons (pv 1) (pa_cons (pv 2) pa_nil)))) (pa_cons (pe_call G_out_of_parts (hr.mono (by omega)) (by rfl) D_out_of_parts.g D_out_of_parts.F.kp D_out_of_parts.b .nil passL (pa_cons (pe_callTy call_tuple_of (by rfl) T.b_tuple (by decide +kernel) (pa_cons (pv 5) pa_nil)) (pa_cons (pv 1) (pa_cons (pv 2) pa_nil)))) pa_nil)))))
      (pss_cons (ps_if (pt_not (pt_val (pe_call G__law_same (hr.mono (by omega)) (by rfl) D__law_same.g D__law_same.F.kp D__law_same.b .nil pass0 (pa_cons (pv 13) (pa_cons (pe_lst (pa_cons (pv 11) (pa_cons (pv 11) (pa_cons (pv 12) (pa_cons (pv 12) pa_nil))))) pa_nil))))) (pss_one (ps_ret (pe_bl))) pss_nil)
      (pss_cons (ps_expr (pe_bm0 PySem.F.plainAttrs_list PySem.F.slot_list_reverse PySem.F.type_list_reverse mt_reverse (pe_ix (r := rIxL K) ix_list (pv 13) (pe_int) (fun _ _ => rfl))))
      (pss_cons (ps_expr (pe_bm0 PySem.F.plainAttrs_list PySem.F.slot_list_clear PySem.F.type_list_clear mt_clear (pe_ix (r := rIxL K) ix_list (pv 13) (pe_int) (fun _ _ => rfl))))
      (pss_cons (ps_if (PW.pt (pw_or (pt_not (pt_val (pe_call G__law_same (hr.mono (by omega)) (by rfl) D__law_same.g D__law_same.F.kp D__law_same.b .nil pass0 (pa_cons (pe_lst (pa_cons (pe_ix (r := rIxL K) ix_list (pv 13) (pe_int) (fun _ _ => rfl)) (pa_cons (pe_ix (r := rIxL K) ix_list (pv 13) (pe_int) (fun _ _ => rfl)) pa_nil))) (pa_cons (pe_lst (pa_cons (pv 11) (pa_cons (pv 12) pa_nil))) pa_nil))))) (pw_or1 (pt_cmpR (r := rNeD K) (op_neD hr.units) (pv 5) (pv 6) (nomark _))))) (pss_one (ps_ret (pe_bl))) pss_nil)
      htl)))))))), ?_⟩
  intro F S rl sl ns H3 x0 x4 x7 x8 x9 hF hS hFS hg hns hrl hsl q
  have f60 : F ≤ 60 := Nat.le_trans (Nat.le_mul_of_pos_right F hS) hFS
  have s60 : S ≤ 60 := Nat.le_trans (Nat.le_mul_of_pos_left S hF) hFS
  have hcl : (crs F S).length = F * S := crs_len F
  have clt := crs_lt hF hS
  have olt := out_lt hF hS
  walk_at "ev"
  intro lc H4 hlc sm4 hq4
  have hL4 := SqL.of (K := K) hq4
  have hrl4 := sm4 _ _ hrl
  walk_at "ev"
  refine ⟨⟨_, hL4⟩, fun D hD => ?_⟩
  refine lc_list (K := K) (a := lc) (xs := (crs F S).map fun i : Nat => V.int i) (fun i H' => Hold (Same H4 H' ∧ H' D = some (.lst ((pick ns ((crs F S).take i)).map V.int)))) (.mk ⟨same_new hD, upd_same⟩) ?_ ?_ ?_
  · intro i H5 hi hP
    obtain ⟨sm5, hD5⟩ := hP.un
    exact sm5.seq hL4
  · intro i v H5 hv hP
    obtain ⟨sm5, hD5⟩ := hP.un
    rw [List.getElem?_map] at hv
    obtain ⟨p, hx, ev⟩ := Option.map_eq_some_iff.mp hv
    subst ev
    have hpl := clt p (List.mem_of_getElem? hx)
    have hil : i < (crs F S).length := (List.getElem?_eq_some_iff.mp hx).1
    have hL5 := SqL.of (K := K) (sm5 _ _ hrl4)
    have hat : atI (ns.map V.int) (p : Nat) = some (.int (ns.getD p 0)) := at_of (j := p) rfl (int_getD (by omega))
    have hsz : ((pick ns ((crs F S).take i)).map V.int).length < sizeLine := szm (by rw [List.length_map, pick_len, List.length_take]; omega)
    walk_at "ev"
    refine .mk ⟨same_mut sm5 hD, ?_⟩
    rw [upd_same, pick_take hx, List.map_append]
    rfl
  intro H5 hP
  obtain ⟨sm5, hD5⟩ := hP.un
  rw [List.length_map, List.take_length] at hD5
  have hrl5 := sm5 _ _ hrl4
  walk_at "ev"
  intro D2 hD2
  refine lc_range (lo := 0) (n := _) (fun i H' => Hold (Same H5 H' ∧ H' D2 = some (.lst ((pick ns ((List.range i).map fun p => p % F * S + p % S)).map V.int)))) (.mk ⟨same_new hD2, upd_same⟩) ?_ ?_
  · intro i H6 hi hP
    obtain ⟨sm6, hD6⟩ := hP.un
    have hil : i < F * S := by omega
    have hL6 := SqL.of (K := K) (sm6 _ _ hrl5)
    have hlt := olt (i % F * S + i % S) (List.mem_map.mpr ⟨i, List.mem_range.mpr hil, rfl⟩)
    have hat : atI (ns.map V.int) ((0 + (i : Int)) % (F : Int) * (S : Int) + (0 + (i : Int)) % (S : Int)) = some (.int (ns.getD (i % F * S + i % S) 0)) := at_of (j := i % F * S + i % S) (by rw [Int.zero_add]; simp) (int_getD (by omega))
    have cm : CMul ((0 + (i : Int)) % (F : Int)) (S : Int) := .inr ⟨by omega, by omega⟩
    have fp : (0 : Int) < (F : Int) := by omega
    have sp : (0 : Int) < (S : Int) := by omega
    have hsz : ((pick ns ((List.range i).map fun p => p % F * S + p % S)).map V.int).length < sizeLine := szm (by rw [List.length_map, pick_len, List.length_map, List.length_range]; omega)
    walk_at "ev"
    refine .mk ⟨same_mut sm6 hD2, ?_⟩
    rw [upd_same, rng_succ]
    unfold pick
    rw [List.map_append, List.map_append]
    rfl
  intro H6 hP
  obtain ⟨sm6, hD6⟩ := hP.un
  have hD6' : H6 D2 = some (.lst ((pick ns (outN F S)).map V.int)) := hD6
  clear hD6
  have hrl6 := sm6 _ _ hrl5
  have hL6 : SqL K H6 rl (ns.map V.int) ∨ SqT K H6 rl (ns.map V.int) := .inl (SqL.of hrl6)
  have hlen : (ns.map V.int).length = F * S := by rw [List.length_map, hns]
  have plt : ∀ i ∈ crs F S, i < ns.length := fun i hi => by rw [hns]; exact clt i hi
  have qlt : ∀ i ∈ outN F S, i < ns.length := fun i hi => by rw [hns]; exact olt i hi
  walk_at "ev"
  refine ⟨fun _ _ t0 H7 ht0 sm7 hq7 => ?_, fun c => absurd hlen c, fun _ c => absurd hg c⟩
  rw [pick_v plt] at hq7
  have hL7 := sq_same sm7 hL6
  walk_at "ev"
  refine .inl ⟨SqL.of (sm7 _ _ hrl6), ?_⟩
  w_cond _8
  have hL8 : SqL K H8 l8 (ns.map V.int) ∨ SqT K H8 l8 (ns.map V.int) := .inr (SqT.of hq8)
  walk_at "ev"
  refine ⟨fun _ _ t1 H9 ht1 sm9 hq9 => ?_, fun c => absurd hlen c, fun _ c => absurd hg c⟩
  rw [pick_v plt] at hq9
  walk_at "ev"
  w_cond _10
  have s710 := sm8.trans (sm9.trans sm10)
  have hL10 := sq_same s710 hL7
  walk_at "ev"
  refine ⟨fun _ _ t2 H11 ht2 sm11 hq11 => ?_, fun c => absurd hlen c, fun _ c => absurd hg c⟩
  rw [pick_v qlt] at hq11
  have hL11 := sq_same sm11 hL10
  walk_at "ev"
  refine .inl ⟨SqL.of ((sm7.trans (s710.trans sm11)) _ _ hrl6), ?_⟩
  w_cond _12
  have hL12 : SqL K H12 l12 (ns.map V.int) ∨ SqT K H12 l12 (ns.map V.int) := .inr (SqT.of hq12)
  walk_at "ev"
  refine ⟨fun _ _ t3 H13 ht3 sm13 hq13 => ?_, fun c => absurd hlen c, fun _ c => absurd hg c⟩
  rw [pick_v qlt] at hq13
  walk_at "ev"
  w_cond _14
  have s1014 := sm11.trans (sm12.trans (sm13.trans sm14))
  have hq10' := s1014 _ _ hq10
  walk_at "ev"
  w_cond _15
  have s1015 := s1014.trans sm15
  walk_at "ev"
  w_cond _16
  have s1016 := s1015.trans sm16
  have hq16' : H16 l16 = some (.lst [.ref D, .ref D, .ref D2, .ref D2]) := hq16
  have g0 := (s710.trans s1016) _ _ hq7
  have g1 := (sm10.trans s1016) _ _ hq9
  have g2 := (sm12.trans (sm13.trans (sm14.trans (sm15.trans sm16)))) _ _ hq11
  have g3 := (sm14.trans (sm15.trans sm16)) _ _ hq13
  have gD := (sm6.trans (sm7.trans (s710.trans s1016))) _ _ hD5
  have gE := (sm7.trans (s710.trans s1016)) _ _ hD6'
  have hq15' : H16 l15 = some (.lst [.ref t0, .ref t1, .ref t2, .ref t3]) := sm16 _ _ hq15
  have hol : (outN F S).length = F * S := by unfold outN; rw [List.length_map, List.length_range]
  have hd1 : Dp K H16 (.ref l15) (.list (([pick ns (crs F S), pick ns (crs F S), pick ns (outN F S), pick ns (outN F S)] : List (List Int)).map fun l => .list (l.map PyData.int))) := .lst (SqL.of hq15') (.cons (dpi g0) (.cons (dpi g1) (.cons (dpi g2) (.cons (dpi g3) .nil))))
  have hd2 : Dp K H16 (.ref l16) (.list (([pick ns (crs F S), pick ns (crs F S), pick ns (outN F S), pick ns (outN F S)] : List (List Int)).map fun l => .list (l.map PyData.int))) := .lst (SqL.of hq16') (.cons (dpi gD) (.cons (dpi gD) (.cons (dpi gE) (.cons (dpi gE) .nil))))
  have hf1 : Fit 2 (.list (([pick ns (crs F S), pick ns (crs F S), pick ns (outN F S), pick ns (outN F S)] : List (List Int)).map fun l => .list (l.map PyData.int))) := fits (by intro l hl; simp only [List.mem_cons, List.not_mem_nil, or_false] at hl; rcases hl with z | z | z | z <;> rw [z, pick_len] <;> omega) (by show 4 ≤ 4000; decide)
  walk_at "ev"
  intro H17 sm17
  have s36 := sm4.trans (sm5.trans sm6)
  have s616 := sm7.trans (s710.trans s1016)
  have s317 := s36.trans (s616.trans sm17)
  have z0 : H3 t0 = none := s36.free ht0
  have z2 : H3 t2 = none := (s36.trans (sm7.trans s710)).free ht2
  have a0 := sm17 _ _ g0
  have a1 := sm17 _ _ g1
  have a2 := sm17 _ _ g2
  have a3 := sm17 _ _ g3
  have aD := sm17 _ _ gD
  have aE := sm17 _ _ gE
  have aT := sm17 _ _ hq15'
  have aR := s317 _ _ hrl
  have aS := s317 _ _ hsl
  have n01 : t1 ≠ t0 := (ne_of_none (sm8 _ _ hq7) ht1).symm
  have n02 : t2 ≠ t0 := (ne_of_none (s710 _ _ hq7) ht2).symm
  have n03 : t3 ≠ t0 := (ne_of_none ((s710.trans (sm11.trans sm12)) _ _ hq7) ht3).symm
  have n0D : D ≠ t0 := ne_of_none (sm6 _ _ hD5) ht0
  have n0E : D2 ≠ t0 := ne_of_none hD6' ht0
  have n0R : rl ≠ t0 := ne_of_none hrl6 ht0
  have n0S : sl ≠ t0 := ne_of_none (s36 _ _ hsl) ht0
  have n0T : l15 ≠ t0 := (ne_of_none ((s710.trans s1014) _ _ hq7) hl15).symm
  have n21 : t1 ≠ t2 := ne_of_none (sm10 _ _ hq9) ht2
  have n23 : t3 ≠ t2 := (ne_of_none (sm12 _ _ hq11) ht3).symm
  have n2D : D ≠ t2 := ne_of_none ((sm6.trans (sm7.trans s710)) _ _ hD5) ht2
  have n2E : D2 ≠ t2 := ne_of_none ((sm7.trans s710) _ _ hD6') ht2
  have n2R : rl ≠ t2 := ne_of_none ((sm7.trans s710) _ _ hrl6) ht2
  have n2S : sl ≠ t2 := ne_of_none ((s36.trans (sm7.trans s710)) _ _ hsl) ht2
  have n2T : l15 ≠ t2 := (ne_of_none ((sm12.trans (sm13.trans sm14)) _ _ hq11) hl15).symm
  have hLT := SqL.of (K := K) aT
  have at0 : atI [V.ref t0, V.ref t1, V.ref t2, V.ref t3] 0 = some (.ref t0) := rfl
  have at1 : atI [V.ref t0, V.ref t1, V.ref t2, V.ref t3] 1 = some (.ref t1) := rfl
  have at2 : atI [V.ref t0, V.ref t1, V.ref t2, V.ref t3] 2 = some (.ref t2) := rfl
  have at3 : atI [V.ref t0, V.ref t1, V.ref t2, V.ref t3] 3 = some (.ref t3) := rfl
  have ty0 : tyV K "list" (.ref t0) H17 := .inl ⟨rfl, _, SqL.of a0⟩
  walk_at "ev"
  generalize hG : upd H17 t0 _ = H18
  have k18 := (mutO hG).1
  have s318 : Same H3 H18 := by rw [← hG]; exact same_mut s317 z0
  clear hG
  have b1 := k18 _ _ n01 a1
  have b2 := k18 _ _ n02 a2
  have b3 := k18 _ _ n03 a3
  have bD := k18 _ _ n0D aD
  have bE := k18 _ _ n0E aE
  have bT := k18 _ _ n0T aT
  have hLT2 := SqL.of (K := K) bT
  have ty2 : tyV K "list" (.ref t2) H18 := .inl ⟨rfl, _, SqL.of b2⟩
  walk_at "ev"
  generalize hG : upd H18 t2 _ = H19
  have k19 := (mutO hG).1
  have s319 : Same H3 H19 := by rw [← hG]; exact same_mut s318 z2
  clear hG
  have c1 := k19 _ _ n21 b1
  have c3 := k19 _ _ n23 b3
  have cD := k19 _ _ n2D bD
  have cE := k19 _ _ n2E bE
  have cT := k19 _ _ n2T bT
  have hLT3 := SqL.of (K := K) cT
  walk_at "ev"
  w_cond _20
  walk_at "ev"
  w_cond _21
  have s1921 := sm20.trans sm21
  have hd3 : Dp K H21 (.ref l20) (.list (([pick ns (crs F S), pick ns (outN F S)] : List (List Int)).map fun l => .list (l.map PyData.int))) := .lst (SqL.of (sm21 _ _ hq20)) (.cons (dpi (s1921 _ _ c1)) (.cons (dpi (s1921 _ _ c3)) .nil))
  have hd4 : Dp K H21 (.ref l21) (.list (([pick ns (crs F S), pick ns (outN F S)] : List (List Int)).map fun l => .list (l.map PyData.int))) := .lst (SqL.of hq21) (.cons (dpi (s1921 _ _ cD)) (.cons (dpi (s1921 _ _ cE)) .nil))
  have hf2 : Fit 2 (.list (([pick ns (crs F S), pick ns (outN F S)] : List (List Int)).map fun l => .list (l.map PyData.int))) := fits (by intro l hl; simp only [List.mem_cons, List.not_mem_nil, or_false] at hl; rcases hl with z | z <;> rw [z, pick_len] <;> omega) (by show 2 ≤ 4000; decide)
  walk_at "ev"
  intro H22 sm22
  have s1922 := s1921.trans sm22
  have s322 := s319.trans s1922
  have hdR := dpi (K := K) (s322 _ _ hrl)
  have hdS := dpi (K := K) (s322 _ _ hsl)
  have hsh := PySem.W.ke_shaped_ints ns
  have heq : (!PyData.eqv (.list (ns.map PyData.int)) (.list (ns.map PyData.int))) = false := by
    rw [PyData.eqv, eqv_ints, decide_eq_true rfl]
    rfl
  walk_at "ev"
  refine iteFe heq ?_
  walk_at "ev"
  exact fin F S rl l15 t0 t1 t2 t3 ns H22 _ _ _ _ _ _ _ _ _ hF hS hFS hg hns (s322 _ _ hrl) (s1922 _ _ cT) (s1922 _ _ c1) (s1922 _ _ c3) fun H' sm' => q _ (s322.trans sm')
end
theorem keep_fresh {b D : Addr} {H H' : Hp} {o : HO} (h : Keep b H H') (n : H D = none) : Keep b H (upd H' D o) := fun a u na e => by
  rw [upd_ne (ne_of_none e n)]
  exact h a u na e
theorem BoxAt.upd {H : Hp} {b D : Addr} {n : Int} {o : HO} (h : BoxAt H b n) (e : D ≠ b) : BoxAt (L2.upd H D o) b n := by
  obtain ⟨x, y, z, a1, a2⟩ := h
  exact ⟨x, y, z, by rw [upd_ne e.symm]; exact a1, a2⟩
theorem dpl {K : PySem.W.Frag} {H : Hp} {a : Addr} (ns : List Int) (h : SqL K H a (ns.map V.int)) : Dp K H (.ref a) (.list (ns.map PyData.int)) := .lst h (dp_ints ns)
theorem fitl (ns : List Int) (h : ns.length ≤ 4000) : Fit 1 (.list (ns.map PyData.int)) := by
  refine ⟨by rw [List.length_map]; exact h, fun e he => ?_⟩
  obtain ⟨c, _, rfl⟩ := List.mem_map.mp he
  exact True.intro
theorem fit_ni {x : Str} {a : Int} : Fit 1 (.tuple [.str x, .int a]) := by
  refine ⟨by simp, fun e he => ?_⟩
  simp only [List.mem_cons, List.not_mem_nil, or_false] at he
  rcases he with h | h <;> rw [h] <;> exact True.intro
theorem shM_end {n : Nat} {a : Int} (ha : 0 ≤ a) : shM (n + 1) a 0 = decide (1 < Int.gcd a 0) := by
  show (if (0 : Int) = 0 then decide (1 < a) else _) = _
  rw [if_pos rfl, Int.gcd_zero_right]
  exact decide_eq_decide.mpr ⟨fun h => by omega, fun h => by omega⟩
theorem shM_gcd : ∀ (n : Nat) {a b : Int}, 0 ≤ b → b ≤ a → a * b < 2 ^ n → shM (n + 1) a b = decide (1 < Int.gcd a b)
  | n, a, b, hb, h, hm => by
    by_cases e : b = 0
    · subst e
      exact shM_end h
    · have b1 : 0 < b := by omega
      cases n with
      | zero =>
        have : 1 * 1 ≤ a * b := Int.mul_le_mul (by omega) (by omega) (by omega) (by omega)
        rw [Int.pow_zero] at hm
        omega
      | succ n =>
        show (if b = 0 then decide (1 < a) else shM (n + 1) b (a % b)) = _
        rw [if_neg e, shM_gcd n (Int.emod_nonneg _ e) (Int.le_of_lt (Int.emod_lt_of_pos _ b1)) ?_, gcd_step (by omega) hb]
        have h1 : b * (2 * (a % b)) ≤ b * a := Int.mul_le_mul_of_nonneg_left (emod_half b1 h) hb
        have h2 : b * (2 * (a % b)) = 2 * (b * (a % b)) := by rw [← Int.mul_assoc, Int.mul_comm b 2, Int.mul_assoc]
        have h3 : b * a = a * b := Int.mul_comm _ _
        rw [Int.pow_succ] at hm
        omega
theorem shM64 {a b : Int} (ha : 0 ≤ a) (hb : 0 ≤ b) (a6 : a ≤ 1000000000) (b6 : b ≤ 1000000000) : shM 64 a b = decide (1 < Int.gcd a b) := by
  by_cases e : b = 0
  · subst e
    exact shM_end ha
  · have b1 : 0 < b := by omega
    show (if b = 0 then decide (1 < a) else shM (62 + 1) b (a % b)) = _
    rw [if_neg e, shM_gcd 62 (Int.emod_nonneg _ e) (Int.le_of_lt (Int.emod_lt_of_pos _ b1)) ?_, gcd_step ha hb]
    have h1 : a % b < b := Int.emod_lt_of_pos _ b1
    have h0 : 0 ≤ a % b := Int.emod_nonneg _ e
    have h2 : b * (a % b) ≤ 1000000000 * 1000000000 := Int.mul_le_mul b6 (by omega) h0 (by omega)
    have h3 : (2 : Int) ^ 62 = 4611686018427387904 := by decide
    omega
theorem gcd_ne {a b : Int} (ha : 1 ≤ a) : (!decide (1 < Int.gcd a b)) = decide (Int.gcd a b = 1) := by
  have h : 0 < Int.gcd a b := Int.gcd_pos_of_ne_zero_left _ (by omega)
  by_cases e : Int.gcd a b = 1
  · rw [decide_eq_true e, decide_eq_false (by omega)]
    rfl
  · rw [decide_eq_false e, decide_eq_true (by omega)]
    rfl
theorem gcd_ne' {a b : Int} (hb : 1 ≤ b) : (!decide (1 < Int.gcd a b)) = decide (Int.gcd a b = 1) := by
  rw [Int.gcd_comm]
  exact gcd_ne hb
section
variable {P : Program} {w : World} {K : PySem.W.Frag} {mg : Str → Option Value} {base : Heap}
theorem ok_rt {f f1 f2 f3 f4 f5 f6 f7 CB CN : Addr} {fd d1 d2 d3 d4 d5 d6 d7 : FuncData} (F : Fun K "_law_right" "_law_right" s__law_right f fd) (T : Blt mg)
    (D__law_crossed : Df K mg "_law_crossed" s__law_crossed P__law_crossed f1 d1) (D__law_same : Df K mg "_law_same" s__law_same P__law_same f2 d2) (D_into_parts : Df K mg "into_parts" s_into_parts P_into_parts f3 d3) (D_out_of_parts : Df K mg "out_of_parts" s_out_of_parts P_out_of_parts f4 d4) (D__law_take : Df K mg "_law_take" s__law_take P__law_take f5 d5) (D__law_shares : Df K mg "_law_shares" s__law_shares P__law_shares f6 d6) (D__law_refused : Df K mg "_law_refused" s__law_refused P__law_refused f7 d7)
    (G_into_parts : FnOk P w K mg base (L2.CX P w) 5 f3 d3 P_into_parts (spParts K CB CN crs)) (G_out_of_parts : FnOk P w K mg base (L2.CX P w) 5 f4 d4 P_out_of_parts (spParts K CB CN outN)) (G__law_refused : FnOk P w K mg base CX0 6 f7 d7 P__law_refused (spRef K)) : FnOk P w K mg base CX0 7 f fd P__law_right spRt := by
  have G__law_take : FnOk P w K mg base CX0 1 f5 d5 P__law_take spTake := ok_take D__law_take.F
  have G__law_shares : FnOk P w K mg base CX0 1 f6 d6 P__law_shares spShM := ok_shm D__law_shares.F T
  have G__law_same : FnOk P w K mg base CX0 3 f2 d2 P__law_same (spSame K 2) := ok_same D__law_same T 2
  have nd := sc__law_right.nd
  refine F.ok sc__law_right (fun vs H Q E h => ?_) (fun cdv A outer s H vs Q E hr h => ?_)
  · obtain ⟨b, n, rfl, _⟩ := h
    rfl
  · obtain ⟨b, n, rfl, hb, hn, q⟩ := h
    obtain ⟨tl, htl, fin⟩ := right_S (P := P) (w := w) (base := base) (outer := outer) (H := H) (Q := Q) (E := E) T hr D__law_crossed D__law_same D_into_parts D_out_of_parts G_into_parts G_out_of_parts
    refine ⟨_, (pss_cons (ps_set (i := 1) nd rfl (Or.inr rfl) (pe_op op_add (pe_int) (pe_call G__law_take (hr.mono (by omega)) (by rfl) D__law_take.g D__law_take.F.kp D__law_take.b .nil pass0 (pa_cons (pv 0) (pa_cons (pe_ix (r := rIxL K) ix_list (pe_lst (pa_cons (pe_int) (pa_cons (pe_int) (pa_cons (pe_int) pa_nil)))) (pe_call G__law_take (hr.mono (by omega)) (by rfl) D__law_take.g D__law_take.F.kp D__law_take.b .nil pass0 (pa_cons (pv 0) (pa_cons (pe_int) pa_nil))) (fun _ _ => rfl)) pa_nil)))))
      (pss_cons (ps_set (i := 2) nd rfl (Or.inr rfl) (pe_op op_add (pe_int) (pe_call G__law_take (hr.mono (by omega)) (by rfl) D__law_take.g D__law_take.F.kp D__law_take.b .nil pass0 (pa_cons (pv 0) (pa_cons (pe_op op_fdiv (pe_int) (pv 1)) pa_nil)))))
      (pss_cons (ps_set (i := 3) nd rfl (Or.inl rfl) (pe_op op_mul (pv 1) (pv 2)))
      (pss_cons (ps_set (i := 4) nd rfl (Or.inr rfl) (pe_call G__law_take (hr.mono (by omega)) (by rfl) D__law_take.g D__law_take.F.kp D__law_take.b .nil pass0 (pa_cons (pv 0) (pa_cons (pe_int) pa_nil))))
      (pss_cons (ps_set (i := 5) nd rfl (Or.inr rfl) (pe_lc (own := [("_law_k", 16)]) (g := gName 16) (by rfl) nd (pi_range1 (by rfl) T.b_range (pa_cons (pv 3) pa_nil)) (blkOk_by (own := [("_law_k", 16)]) (N := N__law_right) (sc := defScope s__law_right) (by decide +kernel)) (fun _ _ _ _ _ => (pg_name (i := 16) nd rfl (Or.inl rfl))) (fun _ _ _ _ _ => pts_nil) (fun _ _ _ _ _ => (pe_op op_mod (pe_op op_add (pe_op op_mul (pe_int) (pv 16)) (pv 4)) (pe_int)))))
      (pss_cons (ps_par (i := 6) (j := 7) (by rfl) nd rfl rfl (by decide) rfl rfl (pa_cons (pe_callTy call_list_of (by rfl) T.b_list (by decide +kernel) (pa_cons (pv 5) pa_nil)) (pa_cons (pe_call G__law_shares (hr.mono (by omega)) (by rfl) D__law_shares.g D__law_shares.F.kp D__law_shares.b .nil pass0 (pa_cons (pv 1) (pa_cons (pv 2) pa_nil))) pa_nil)) (by rfl))
      (pss_cons (ps_for PassesOwn.never rfl (pi_tup (pe_tup (pa_cons (pe_int) (pa_cons (pe_int) pa_nil)))) (pg_name (i := 8) nd rfl (Or.inl rfl))
      (pss_cons (ps_for PassesOwn.never rfl (pi_list (pe_op op_cat (pe_op op_rep (pe_lst (pa_cons (pe_op op_cat (pv 5) (pe_lst (pa_cons (pe_int) pa_nil))) pa_nil)) (pe_callTy call_int1 (by rfl) T.b_int (by decide +kernel) (pa_cons (pe_cmpR op_lt (pv 3) (pe_int) (nomark _)) pa_nil))) (pe_op op_rep (pe_lst (pa_cons (pe_slice (r := rSlL K) sl_list (pv 5) (po_some (pe_int)) po_none) pa_nil)) (pe_callTy call_int1 (by rfl) T.b_int (by decide +kernel) (pa_cons (pe_cmpR op_gt (pv 3) (pe_int) (nomark _)) pa_nil))))) (pg_name (i := 9) nd rfl (Or.inl rfl))
      (pss_one (ps_if (pt_not (pt_val (pe_call G__law_same (hr.mono (by omega)) (by rfl) D__law_same.g D__law_same.F.kp D__law_same.b .nil pass0 (pa_cons (pe_call G__law_refused (hr.mono (by omega)) (by rfl) D__law_refused.g D__law_refused.F.kp D__law_refused.b .nil pass0 (pa_cons (pv 8) (pa_cons (pv 9) (pa_cons (pv 1) (pa_cons (pv 2) pa_nil))))) (pa_cons (pe_tup (pa_cons (pe_str) (pa_cons (pe_callB (r := rLenQ K) call_len_seq (by rfl) T.b_len (by decide +kernel) (pa_cons (pv 9) pa_nil)) pa_nil))) pa_nil))))) (pss_one (ps_ret (pe_bl))) pss_nil)))
      (pss_one (ps_if (pt_not (pt_val (pe_call G__law_same (hr.mono (by omega)) (by rfl) D__law_same.g D__law_same.F.kp D__law_same.b .nil pass0 (pa_cons (pe_call G__law_refused (hr.mono (by omega)) (by rfl) D__law_refused.g D__law_refused.F.kp D__law_refused.b .nil pass0 (pa_cons (pv 8) (pa_cons (pv 5) (pa_cons (pv 1) (pa_cons (pv 2) pa_nil))))) (pa_cons (pe_ifExp (pt_val (pv 7)) (pe_tup (pa_cons (pe_str) (pa_cons (pe_int) pa_nil))) (pe_non)) pa_nil))))) (pss_one (ps_ret (pe_bl))) pss_nil))))
      (pss_cons (ps_if (pt_val (pv 7)) (pss_one (ps_ret (pe_cmpR (r := rEqD K) (op_eqD hr.units) (pv 5) (pv 6) (nomark _)))) pss_nil)
      htl)))))))), ?_⟩
    walk_at "ev"
    w_cond _1
    have hb1 := hb.same sm1
    walk_at "ev"
    intro r H2 r0 r1 k2 hb2
    have nb1 : l1 ≠ b := hb.ne hl1
    have hL2 := SqL.of (K := K) (k2 _ _ nb1 hq1)
    obtain ⟨tp, htp, hat⟩ : ∃ tp : Int, (1 ≤ tp ∧ tp ≤ 60) ∧ atI [V.int 60, V.int 12, V.int 5] r = some (.int tp) := by
      have : r = 0 ∨ r = 1 ∨ r = 2 := by omega
      rcases this with z | z | z <;> subst z
      · exact ⟨60, by decide, rfl⟩
      · exact ⟨12, by decide, rfl⟩
      · exact ⟨5, by decide, rfl⟩
    walk_at "ev"
    intro r3 H3 r30 r31 k3 hb3
    obtain ⟨F0, hF⟩ := Int.eq_ofNat_of_zero_le (show 0 ≤ 1 + r3 by omega)
    refine ⟨_, _, rfl, rfl, ?_⟩
    dsimp only
    rw [hF]
    have hF1 : 1 ≤ F0 := by omega
    have hF6 : F0 ≤ 60 := by omega
    have hd60 : (60 : Int) / (F0 : Int) = ((60 / F0 : Nat) : Int) := rfl
    have hq1' : 1 ≤ 60 / F0 := (Nat.le_div_iff_mul_le hF1).mpr (by omega)
    have hq6 : 60 / F0 ≤ 60 := Nat.div_le_self _ _
    have cd : CDiv 60 (F0 : Int) := ⟨by omega, by omega⟩
    walk_at "ev"
    intro r4 H4 r40 r41 k4 hb4
    rw [hd60] at r41
    obtain ⟨S0, hS⟩ := Int.eq_ofNat_of_zero_le (show 0 ≤ 1 + r4 by omega)
    refine ⟨_, _, rfl, rfl, ?_⟩
    dsimp only
    rw [hS]
    have hS1 : 1 ≤ S0 := by omega
    have hS6 : S0 ≤ 60 := by omega
    have hFS : F0 * S0 ≤ 60 := by
      have : F0 * S0 ≤ F0 * (60 / F0) := Nat.mul_le_mul_left _ (by omega)
      exact Nat.le_trans this (Nat.mul_div_le 60 F0)
    have eFS : (F0 : Int) * (S0 : Int) = ((F0 * S0 : Nat) : Int) := (Int.natCast_mul F0 S0).symm
    have cm : CMul (F0 : Int) (S0 : Int) := .inl ⟨by omega, by omega⟩
    refine ⟨_, rfl, _, rfl, _, _, rfl, rfl, cm, ?_⟩
    dsimp only
    rw [eFS]
    walk_at "ev"
    intro sh H5 sh0 sh1 k5 hb5
    walk_at "ev"
    intro D hD
    have nDb : D ≠ b := hb5.ne hD
    refine lc_range (lo := 0) (n := _) (fun i H' => Hold (∃ ns : List Int, ns.length = i ∧ Same H5 H' ∧ H' D = some (.lst (ns.map V.int)))) (.mk ⟨[], rfl, same_new hD, upd_same⟩) ?_ ?_
    · intro i H6 hi hP
      obtain ⟨ns, hns, sm6, hD6⟩ := hP.un
      have hsz : (ns.map V.int).length < sizeLine := szm (by rw [List.length_map]; omega)
      have cm5 : CMul 5 (0 + (i : Int)) := .inl ⟨by omega, by omega⟩
      walk_at "ev"
      refine .mk ⟨ns ++ [(5 * (0 + (i : Int)) + sh) % 97], by simp [hns], same_mut sm6 hD, ?_⟩
      rw [upd_same, List.map_append]
      rfl
    intro H6 hP
    obtain ⟨ns, hns, sm6, hD6⟩ := hP.un
    have hns' : ns.length = F0 * S0 := by omega
    walk_at "ev"
    refine ⟨.inl (SqL.of hD6), ?_⟩
    w_cond _7
    have hD7 := sm7 _ _ hD6
    have hF0 : (0 : Int) ≤ (F0 : Int) := by omega
    have hS0 : (0 : Int) ≤ (S0 : Int) := by omega
    have esh : shM 64 (F0 : Int) (S0 : Int) = decide (1 < Nat.gcd F0 S0) := shM64 hF0 hS0 (by omega) (by omega)
    have hg1 : 1 ≤ Nat.gcd F0 S0 := Nat.gcd_pos_of_pos_left _ hF1
    walk_at "ev"
    rw [esh]
    walk_at "ev"
    w_cond _8
    have hT8 := SqT.of (K := K) hq8
    refine ⟨l8, rfl, ⟨_, hT8⟩, ?_⟩
    refine for_tup (K := K) (a := l8) (xs := [.int 0, .int 1]) (fun i σ H' => Hold (∃ x8 x9, σ = [some (.ref b), some (.int F0), some (.int S0), some (.int (F0 * S0 : Nat)), some (.int sh), some (.ref D), some (.ref l7), some (.bl (decide (1 < Nat.gcd F0 S0))), x8, x9, none, none, none, none, none, none, none] ∧ Same H8 H')) (.mk ⟨none, none, rfl, Same.refl _⟩) ?_ ?_ ?_
    · intro i σ H9 hi hP
      obtain ⟨x8, x9, rfl, sm9⟩ := hP.un
      exact same_t sm9 hT8
    · intro i v σ H9 hv hP
      obtain ⟨x8, x9, rfl, sm9⟩ := hP.un
      obtain ⟨wy, hwy⟩ : ∃ wy : Int, v = .int wy := by
        match i, hv with
        | 0, hv => exact ⟨0, (Option.some.inj hv).symm⟩
        | 1, hv => exact ⟨1, (Option.some.inj hv).symm⟩
        | i + 2, hv => simp at hv
      subst hwy
      have hD9 := (sm8.trans sm9) _ _ hD7
      walk_at "ev"
      w_cond _10
      have hD10 := sm10 _ _ hD9
      have z1 : (ns.map V.int).length + ([V.int 0] : List V).length ≤ sizeLine := szl (by rw [List.length_map]; show _ + 1 ≤ 60000; omega)
      walk_at "ev"
      w_cond _11
      walk_at "ev"
      w_cond _12
      walk_at "ev"
      w_cond _13
      have hD13 := SqL.of (K := K) ((sm10.trans (sm11.trans (sm12.trans sm13))) _ _ hD9)
      walk_at "ev"
      w_cond _14
      walk_at "ev"
      w_cond _15
      walk_at "ev"
      w_cond _16
      have h136 := (sm14.trans (sm15.trans sm16)) _ _ hq13
      have z2 : (List.replicate (if decide (((F0 * S0 : Nat) : Int) < 60) = true then 1 else 0 : Int).toNat [V.ref l11]).flatten.length + (List.replicate (if decide ((1 : Int) < ((F0 * S0 : Nat) : Int)) = true then 1 else 0 : Int).toNat [V.ref l14]).flatten.length ≤ sizeLine := szl (by
        rw [rep_flat, rep_flat, List.length_replicate, List.length_replicate]
        split <;> split <;> decide)
      walk_at "ev"
      w_cond _17
      have s917 := sm10.trans (sm11.trans (sm12.trans (sm13.trans (sm14.trans (sm15.trans (sm16.trans sm17))))))
      have q11 := (sm12.trans (sm13.trans (sm14.trans (sm15.trans (sm16.trans sm17))))) _ _ hq11
      have q14 := (sm15.trans (sm16.trans sm17)) _ _ hq14
      have ecut : (cutV (ns.map V.int) (some 1) none).length = F0 * S0 - 1 := by
        have e : cutV (ns.map V.int) (some 1) none = ((ns.map V.int).drop (min 1 (ns.map V.int).length)).take ((ns.map V.int).length - min 1 (ns.map V.int).length) := rfl
        rw [e, List.length_take, List.length_drop, List.length_map, hns']
        omega
      have hall : ∀ v ∈ (List.replicate (if decide (((F0 * S0 : Nat) : Int) < 60) = true then 1 else 0 : Int).toNat [V.ref l11]).flatten ++ (List.replicate (if decide ((1 : Int) < ((F0 * S0 : Nat) : Int)) = true then 1 else 0 : Int).toNat [V.ref l14]).flatten, ∃ (o : Addr) (vs : List V), v = .ref o ∧ H17 o = some (.lst vs) ∧ vs.length ≠ F0 * S0 := by
        intro v hv
        rw [rep_flat, rep_flat] at hv
        rcases List.mem_append.mp hv with z | z
        · refine ⟨l11, _, (List.mem_replicate.mp z).2, q11, ?_⟩
          rw [List.length_append, List.length_map, hns']
          show F0 * S0 + 1 ≠ F0 * S0
          omega
        · obtain ⟨z0, z1⟩ := List.mem_replicate.mp z
          refine ⟨l14, _, z1, q14, ?_⟩
          rw [ecut]
          have hp := Nat.mul_pos hF1 hS1
          omega
      generalize (List.replicate (if decide (((F0 * S0 : Nat) : Int) < 60) = true then 1 else 0 : Int).toNat [V.ref l11]).flatten ++ (List.replicate (if decide ((1 : Int) < ((F0 * S0 : Nat) : Int)) = true then 1 else 0 : Int).toNat [V.ref l14]).flatten = XS at *
      have hL17 := SqL.of (K := K) hq17
      refine ⟨l17, rfl, ⟨_, hL17⟩, ?_⟩
      refine for_list (K := K) (a := l17) (xs := XS) (fun i σ H' => Hold (∃ x9, σ = [some (.ref b), some (.int F0), some (.int S0), some (.int (F0 * S0 : Nat)), some (.int sh), some (.ref D), some (.ref l7), some (.bl (decide (1 < Nat.gcd F0 S0))), some (.int wy), x9, none, none, none, none, none, none, none] ∧ Same H17 H')) (.mk ⟨_, rfl, Same.refl _⟩) ?_ ?_ ?_
      · intro i σ H18 hi hP
        obtain ⟨y9, rfl, sm18⟩ := hP.un
        exact sm18.seq hL17
      · intro i v σ H18 hv hP
        obtain ⟨y9, rfl, sm18⟩ := hP.un
        obtain ⟨o, vs, rfl, ho, hvs⟩ := hall v (List.mem_of_getElem? hv)
        have ho18 : SqL K H18 o vs ∨ SqT K H18 o vs := .inl (SqL.of (sm18 _ _ ho))
        walk_at "ev"
        refine ⟨fun _ t H19 sm19 hq19 => ?_, fun c => absurd c hvs⟩
        have ho19 := sq_same sm19 ho18
        walk_at "ev"
        w_cond _20
        have hd1 : Dp K H20 (.ref t) (.tuple [.str "BadLength", .int vs.length]) := .tup (SqT.of (sm20 _ _ hq19)) (.cons (.str _) (.cons (.int _) .nil))
        have hd2 : Dp K H20 (.ref l20) (.tuple [.str "BadLength", .int vs.length]) := .tup (SqT.of hq20) (.cons (.str _) (.cons (.int _) .nil))
        have hft : Fit 2 (.tuple [.str "BadLength", .int vs.length]) := fit_up fit_ni
        walk_at "ev"
        intro H21 sm21
        walk_at "ev"
        exact .mk ⟨_, rfl, sm18.trans (sm19.trans (sm20.trans sm21))⟩
      · intro σ H18 hP
        obtain ⟨y9, rfl, sm18⟩ := hP.un
        have hlen : (ns.map V.int).length = F0 * S0 := by rw [List.length_map, hns']
        have s918 := s917.trans sm18
        have hD18 : SqL K H18 D (ns.map V.int) ∨ SqT K H18 D (ns.map V.int) := .inl (SqL.of (s918 _ _ hD9))
        walk_at "ev"
        refine ⟨fun _ c H19 sm19 => ?_, fun c => absurd hlen c, fun _ c t H19 sm19 hq19 => ?_⟩
        · have e1 : decide (1 < Nat.gcd F0 S0) = false := decide_eq_false (by omega)
          rw [e1]
          have hd1 : Dp K H19 .non .none := .non
          have hft : Fit 2 .none := True.intro
          walk_at "ev"
          intro H20 sm20
          walk_at "ev"
          exact .mk ⟨_, _, rfl, sm9.trans (s918.trans (sm19.trans sm20))⟩
        · have e1 : decide (1 < Nat.gcd F0 S0) = true := decide_eq_true (by omega)
          rw [e1]
          walk_at "ev"
          w_cond _20
          have hd1 : Dp K H20 (.ref t) (.tuple [.str "NotCoprime", .int 1]) := .tup (SqT.of (sm20 _ _ hq19)) (.cons (.str _) (.cons (.int _) .nil))
          have hd2 : Dp K H20 (.ref l20) (.tuple [.str "NotCoprime", .int 1]) := .tup (SqT.of hq20) (.cons (.str _) (.cons (.int _) .nil))
          have hft : Fit 2 (.tuple [.str "NotCoprime", .int 1]) := fit_up fit_ni
          walk_at "ev"
          intro H21 sm21
          walk_at "ev"
          exact .mk ⟨_, _, rfl, sm9.trans (s918.trans (sm19.trans (sm20.trans sm21)))⟩
    · intro σ H9 hP
      obtain ⟨x8, x9, rfl, sm9⟩ := hP.un
      have s79 := sm8.trans sm9
      have hD9 := s79 _ _ hD7
      have h79 := s79 _ _ hq7
      have k59 : Keep b H5 H9 := keepS (sm6.trans (sm7.trans s79))
      have hend : ∀ H', Same H9 H' → Q (.bl true) H' := fun H' sm' => q H' ((keepS sm1).trans (k2.trans (k3.trans (k4.trans (k5.trans (k59.trans (keepS sm'))))))) ((hb5.same (sm6.trans (sm7.trans (s79.trans sm')))).mono (by omega))
      walk_at "ev"
      refine ite2 (fun c => ?_) (fun c => ?_)
      · have hdR := dpi (K := K) hD9
        have hdS := dpi (K := K) h79
        have hsh := PySem.W.ke_shaped_ints ns
        have heq : (PyData.eqv (.list (ns.map PyData.int)) (.list (ns.map PyData.int))) = true := by
          rw [PyData.eqv, eqv_ints, decide_eq_true rfl]
        walk_at "ev"
        rw [heq]
        exact hend _ (Same.refl _)
      · have c1 : Nat.gcd F0 S0 = 1 := by
          have : ¬ 1 < Nat.gcd F0 S0 := fun z => c (decide_eq_true z)
          omega
        exact fin F0 S0 D l7 ns H9 _ _ _ _ _ hF1 hS1 hFS c1 hns' hD9 h79 hend
end
abbrev s__law_folded : Stmt := top 18
abbrev N__law_folded : List Str := ["_law_script", "_law_count", "_law_cells", "_law_k", "_law_cell"]
abbrev P__law_folded : List Str := ["_law_script", "_law_count"]
theorem sc__law_folded : FnScope N__law_folded P__law_folded (defScope s__law_folded) := ⟨rfl, rfl, rfl, by decide +kernel, rfl, by decide +kernel, by decide +kernel⟩
def spFold (K : PySem.W.Frag) : Sp := fun vs H Q _ => ∃ (a : Addr) (ns : List Int), vs = [.ref a, .int 4] ∧ SqL K H a (ns.map V.int) ∧ ns.length ≤ 63 ∧ ∀ p (cs : List Int) H', 1 ≤ cs.length → cs.length ≤ 4 → H p = none → Same H H' → H' p = some (.lst (cs.map V.int)) → Q (.ref p) H'
section
variable {P : Program} {w : World} {K : PySem.W.Frag} {mg : Str → Option Value} {base : Heap}
theorem ok_fold {f : Addr} {fd : FuncData} {k : Nat} (F : Fun K "_law_folded" "_law_folded" s__law_folded f fd) (T : Blt mg) : FnOk P w K mg base CX0 (k + 1) f fd P__law_folded (spFold K) := by
  have nd := sc__law_folded.nd
  refine F.ok sc__law_folded (fun vs H Q E h => ?_) (fun cdv A outer s H vs Q E hr h => ?_)
  · obtain ⟨a, ns, rfl, _⟩ := h
    rfl
  · obtain ⟨a, ns, rfl, hL, hlen, q⟩ := h
    refine ⟨_, (pss_cons (ps_set (i := 2) nd rfl (Or.inl rfl) (pe_callTy call_list_of (by rfl) T.b_list (by decide +kernel) (pa_cons (pe_slice (r := rSlL K) sl_list (pv 0) po_none (po_some (pv 1))) pa_nil)))
      (pss_cons (ps_for PassesOwn.never rfl (pi_enum (by rfl) T.b_enumerate (pa_cons (pe_slice (r := rSlL K) sl_list (pv 0) (po_some (pv 1)) (po_some (pe_int))) pa_nil)) (pg_tup (by rfl) (pgs_cons (pg_name (i := 3) nd rfl (Or.inl rfl)) (pgs_cons (pg_name (i := 4) nd rfl (Or.inl rfl)) pgs_nil)))
      (pss_one (ps_asg (pe_op op_add (pe_ix (r := rIxL K) ix_list (pv 2) (pe_op op_mod (pv 3) (pv 1)) (fun _ _ => rfl)) (pe_op op_mul (pv 4) (pe_op op_add (pv 3) (pe_int)))) (pg_sub (pv 2) (pe_op op_mod (pv 3) (pv 1)) set_list))))
      (pss_one (ps_ret (pe_ifExp (pt_cmpR (r := rNeD K) (op_neD hr.units) (pv 2) (pe_lst pa_nil) (nomark _)) (pv 2) (pe_lst (pa_cons (pe_int) pa_nil))))))), ?_⟩
    have e1 : cutV (ns.map V.int) none (some 4) = (ns.take (min 4 ns.length)).map V.int := by
      rw [List.map_take]
      have : cutV (ns.map V.int) none (some 4) = (ns.map V.int).take (min 4 (ns.map V.int).length) := rfl
      rw [this, List.length_map]
    have e2 : cutV (ns.map V.int) (some 4) (some 63) = ((ns.drop (min 4 ns.length)).take (min 63 ns.length - min 4 ns.length)).map V.int := by
      rw [List.map_take, List.map_drop]
      have : cutV (ns.map V.int) (some 4) (some 63) = ((ns.map V.int).drop (min 4 (ns.map V.int).length)).take (min 63 (ns.map V.int).length - min 4 (ns.map V.int).length) := rfl
      rw [this, List.length_map]
    have hl0 : (ns.take (min 4 ns.length)).length = min 4 ns.length := by rw [List.length_take]; omega
    have hl9 : ((ns.drop (min 4 ns.length)).take (min 63 ns.length - min 4 ns.length)).length = ns.length - min 4 ns.length := by
      rw [List.length_take, List.length_drop]
      omega
    generalize (ns.drop (min 4 ns.length)).take (min 63 ns.length - min 4 ns.length) = ms at *
    generalize ns.take (min 4 ns.length) = c0 at *
    walk_at "ev"
    intro p1 hp1
    generalize hG : upd _ p1 _ = H1
    obtain ⟨sm1, hq1⟩ := newO hG hp1
    clear hG
    rw [e1] at hq1
    have hl1 : SqL K H1 p1 (c0.map V.int) ∨ SqT K H1 p1 (c0.map V.int) := .inl (SqL.of hq1)
    walk_at "ev"
    intro p2 hp2
    generalize hG : upd _ p2 _ = H2
    obtain ⟨sm2, hq2⟩ := newO hG hp2
    clear hG
    have sm02 := sm1.trans sm2
    have hL2 := sm02.seq hL
    have hp20 : H p2 = none := sm1.free hp2
    walk_at "ev"
    intro p3 hp3
    generalize hG : upd _ p3 _ = H3
    obtain ⟨sm3, hq3⟩ := newO hG hp3
    clear hG
    rw [e2] at hq3
    have hL3 : SqL K H3 p3 (ms.map V.int) := SqL.of hq3
    have n32 : p3 ≠ p2 := (ne_of_none hq2 hp3).symm
    refine ⟨p3, _, rfl, hL3, for_enumL (K := K) (a := p3) (xs := ms.map V.int) (fun i σ H' => Hold (∃ (cs : List Int) (s3 s4 : Option V), σ = [some (.ref a), some (.int 4), some (.ref p2), s3, s4] ∧ cs.length = min 4 ns.length ∧ Same H H' ∧ H' p3 = some (.lst (ms.map V.int)) ∧ H' p2 = some (.lst (cs.map V.int)))) (.mk ⟨c0, none, none, rfl, hl0, sm02.trans sm3, hq3, sm3 _ _ hq2⟩) ?_ ?_ ?_⟩
    · intro i σ H4 hP
      obtain ⟨cs, s3, s4, rfl, hcl, sm4, h3, h2⟩ := hP.un
      exact SqL.of h3
    · intro i v T' σ H4 hv hP hT
      obtain ⟨cs, s3, s4, rfl, hcl, sm4, h3, h2⟩ := hP.un
      rw [List.getElem?_map] at hv
      obtain ⟨x, hx, ev⟩ := Option.map_eq_some_iff.mp hv
      subst ev
      have hil : i < ms.length := (List.getElem?_eq_some_iff.mp hx).1
      have hc4 : cs.length = 4 := by omega
      generalize hG : upd _ T' _ = H5
      obtain ⟨sm5, hq5⟩ := newO hG hT
      clear hG
      have hT5 : SqT K H5 T' [.int (i : Nat), .int x] := SqT.of hq5
      have h25 := sm5 _ _ h2
      have hL25 : SqL K H5 p2 (cs.map V.int) := SqL.of h25
      have hi4 : i % 4 < cs.length := by omega
      have hat : atI (cs.map V.int) ((i : Int) % 4) = some (.int cs[i % 4]) := at_of (j := i % 4) (by omega) (by rw [List.getElem?_map, List.getElem?_eq_getElem hi4]; rfl)
      have cm : CMul x ((i : Int) + 2) := .inr ⟨by omega, by omega⟩
      have hix : ixN (cs.map V.int).length ((i : Int) % 4) = some (i % 4) := ixn_of (by rw [List.length_map]; exact hi4) (by omega)
      walk_at "ev"
      refine .mk ⟨cs.set (i % 4) (cs[i % 4] + x * ((i : Int) + 2)), _, _, rfl, by rw [List.length_set]; exact hcl, same_mut (sm4.trans sm5) hp20, ?_, ?_⟩
      · rw [upd_ne n32]
        exact sm5 _ _ h3
      · rw [upd_same, List.map_set]
    · intro σ H4 hP
      obtain ⟨cs, s3, s4, rfl, hcl, sm4, h3, h2⟩ := hP.un
      walk_at "ev"
      intro p5 hp5
      generalize hG : upd _ p5 _ = H5
      obtain ⟨sm5, hq5⟩ := newO hG hp5
      clear hG
      have h25 := sm5 _ _ h2
      refine ned_ints (ns := cs) (ms := []) (SqL.of h25) (SqL.of hq5) ?_
      by_cases c : cs = []
      · rw [decide_eq_true c]
        walk_at "ev"
        intro p6 hp6
        generalize hG : upd _ p6 _ = H6
        obtain ⟨sm6, hq6⟩ := newO hG hp6
        exact q p6 [0] _ (by decide) (by decide) ((sm4.trans sm5).free hp6) (sm4.trans (sm5.trans sm6)) hq6
      · rw [decide_eq_false c]
        have hc1 : 0 < cs.length := List.length_pos_iff.mpr c
        walk_at "ev"
        exact q p2 cs _ (by omega) (by omega) hp20 (sm4.trans sm5) h25
end
abbrev s_law : Stmt := top 24
abbrev N_law : List Str := ["_law_script", "_law_cells", "_law_k", "_law_box_here", "_law_turn"]
abbrev P_law : List Str := ["_law_script"]
theorem sc_law : FnScope N_law P_law (defScope s_law) := ⟨rfl, rfl, rfl, by decide +kernel, rfl, by decide +kernel, by decide +kernel⟩
def spLaw (K : PySem.W.Frag) : Sp := fun vs H Q _ => ∃ (a : Addr) (ns : List Int), vs = [.ref a] ∧ SqL K H a (ns.map V.int) ∧ ns.length ≤ 63 ∧ ∀ H', Q (.bl true) H'
structure Fns (P : Program) (w : World) (K : PySem.W.Frag) (mg : Str → Option Value) (base : Heap) : Prop where
  product : ∃ f fd, Df K mg "product" s_product P_product f fd
  cop : ∃ f fd, Df K mg "are_coprime" s_are_coprime P_are_coprime f fd
  chkl : ∃ f fd, Df K mg "check_length" s_check_length P_check_length f fd
  place : ∃ f fd, Df K mg "place_at" s_place_at P_place_at f fd
  chkp : ∃ f fd, Df K mg "check_parts" s_check_parts P_check_parts f fd
  into : ∃ f fd, Df K mg "into_parts" s_into_parts P_into_parts f fd
  outp : ∃ f fd, Df K mg "out_of_parts" s_out_of_parts P_out_of_parts f fd
  box : ∃ f fd, Df K mg "_law_box" s__law_box P__law_box f fd
  take : ∃ f fd, Df K mg "_law_take" s__law_take P__law_take f fd
  fold : ∃ f fd, Df K mg "_law_folded" s__law_folded P__law_folded f fd
  same : ∃ f fd, Df K mg "_law_same" s__law_same P__law_same f fd
  shares : ∃ f fd, Df K mg "_law_shares" s__law_shares P__law_shares f fd
  refused : ∃ f fd, Df K mg "_law_refused" s__law_refused P__law_refused f fd
  crossed : ∃ f fd, Df K mg "_law_crossed" s__law_crossed P__law_crossed f fd
  right : ∃ f fd, Df K mg "_law_right" s__law_right P__law_right f fd
structure Exs (K : PySem.W.Frag) (mg : Str → Option Value) (fI : Addr) (fdI : FuncData) (CT CB CN CR CO : Addr) : Prop where
  F : Fun K "__init__" "TurnError.__init__" s_init fI fdI
  b : Binds K fdI N_init []
  ty : PySem.W.typeIn K (.ref fI) = some (.type "function")
  rb : Ref K CT CB fI
  rn : Ref K CT CN fI
  mt : mg "TurnError" = some (.ref CT)
  mb : mg "BadLength" = some (.ref CB)
  mn : mg "NotCoprime" = some (.ref CN)
  mr : mg "NoRoot" = some (.ref CR)
  mo : mg "BadOrder" = some (.ref CO)
  bb : PySem.W.kitOne K (.ref CB) (.ref CB) = some true
  bn : PySem.W.kitOne K (.ref CB) (.ref CN) = some false
  br : PySem.W.kitOne K (.ref CB) (.ref CR) = some false
  bo : PySem.W.kitOne K (.ref CB) (.ref CO) = some false
  nb : PySem.W.kitOne K (.ref CN) (.ref CB) = some false
  nn : PySem.W.kitOne K (.ref CN) (.ref CN) = some true
  nr : PySem.W.kitOne K (.ref CN) (.ref CR) = some false
  no : PySem.W.kitOne K (.ref CN) (.ref CO) = some false
section
variable {P : Program} {w : World} {K : PySem.W.Frag} {mg : Str → Option Value} {base : Heap}
theorem ok_law {f fI CT CB CN CR CO : Addr} {fd fdI : FuncData} (F : Fun K "law" "law" s_law f fd) (T : Blt mg) (U : Fns P w K mg base) (e : Exs K mg fI fdI CT CB CN CR CO) : FnOk P w K mg base CX0 8 f fd P_law (spLaw K) := by
  obtain ⟨⟨f1, d1, D_product⟩, ⟨f2, d2, D_are_coprime⟩, ⟨f3, d3, D_check_length⟩, ⟨f4, d4, D_place_at⟩, ⟨f5, d5, D_check_parts⟩, ⟨f6, d6, D_into_parts⟩, ⟨f7, d7, D_out_of_parts⟩, ⟨f8, d8, D__law_box⟩, ⟨f9, d9, D__law_take⟩, ⟨f10, d10, D__law_folded⟩, ⟨f11, d11, D__law_same⟩, ⟨f12, d12, D__law_shares⟩, ⟨f13, d13, D__law_refused⟩, ⟨f14, d14, D__law_crossed⟩, ⟨f15, d15, D__law_right⟩⟩ := U
  have x : XI K fI fdI := ⟨e.F, e.b, e.ty⟩
  have G__law_box : FnOk P w K mg base CX0 1 f8 d8 P__law_box (spBox K) := ok_box D__law_box.F T
  have G__law_folded : FnOk P w K mg base CX0 1 f10 d10 P__law_folded (spFold K) := ok_fold D__law_folded.F T
  have G_into : FnOk P w K mg base (L2.CX P w) 5 f6 d6 P_into_parts (spParts K CB CN crs) := ok_into (k := 0) D_into_parts.F T D_product D_check_length D_are_coprime D_check_parts x e.rb e.mb e.rn e.mn
  have G_out : FnOk P w K mg base (L2.CX P w) 5 f7 d7 P_out_of_parts (spParts K CB CN outN) := ok_out (k := 0) D_out_of_parts.F T D_product D_check_length D_are_coprime D_check_parts D_place_at x e.rb e.mb e.rn e.mn
  have G_ref : FnOk P w K mg base CX0 6 f13 d13 P__law_refused (spRef K) := ok_ref (k := 0) (fdI := fdI) D__law_refused.F T D_into_parts D_out_of_parts G_into G_out e.rb e.mb e.rn e.mn e.mr e.mo e.mt ⟨e.bb, e.bn, e.br, e.bo, e.nb, e.nn, e.nr, e.no⟩
  have G__law_right : FnOk P w K mg base CX0 7 f15 d15 P__law_right spRt := ok_rt D__law_right.F T D__law_crossed D__law_same D_into_parts D_out_of_parts D__law_take D__law_shares D__law_refused G_into G_out G_ref
  have nd := sc_law.nd
  refine F.ok sc_law (fun vs H Q E h => ?_) (fun cdv A outer s H vs Q E hr h => ?_)
  · obtain ⟨a, ns, rfl, _⟩ := h
    rfl
  · obtain ⟨a, ns, rfl, hS, hlen, q⟩ := h
    refine ⟨_, (pss_cons (ps_set (i := 1) nd rfl (Or.inl rfl) (pe_call G__law_folded (hr.mono (by omega)) (by rfl) D__law_folded.g D__law_folded.F.kp D__law_folded.b .nil pass0 (pa_cons (pv 0) (pa_cons (pe_int) pa_nil))))
      (pss_cons (ps_for PassesOwn.never rfl (pi_range1 (by rfl) T.b_range (pa_cons (pe_callB (r := rLenQ K) call_len_seq (by rfl) T.b_len (by decide +kernel) (pa_cons (pv 1) pa_nil)) pa_nil)) (pg_name (i := 2) nd rfl (Or.inl rfl))
      (pss_cons (ps_set (i := 3) nd rfl (Or.inr rfl) (pe_call G__law_box (hr.mono (by omega)) (by rfl) D__law_box.g D__law_box.F.kp D__law_box.b .nil pass0 (pa_cons (pv 1) (pa_cons (pv 2) pa_nil))))
      (pss_one (ps_if (pt_not (pt_val (pe_callB (r := rAll K) (cr_all rfl) (by rfl) T.b_all (by decide +kernel) (pa_cons (pe_lc (own := [("_law_turn", 4)]) (g := gName 4) (by rfl) nd (pi_range1 (by rfl) T.b_range (pa_cons (pe_int) pa_nil)) (blkOk_by (own := [("_law_turn", 4)]) (N := N_law) (sc := defScope s_law) (by decide +kernel)) (fun _ _ _ _ _ => (pg_name (i := 4) nd rfl (Or.inl rfl))) (fun _ _ _ _ _ => pts_nil) (fun _ _ _ _ _ => (pe_call G__law_right (hr.mono (by omega)) (by rfl) D__law_right.g D__law_right.F.kp D__law_right.b .nil pass0 (pa_cons (pv 3) pa_nil)))) pa_nil)))) (pss_one (ps_ret (pe_bl))) pss_nil))))
      (pss_one (ps_ret (pe_bl))))), ?_⟩
    walk_at "ev"
    intro ce cs H1 hc1 hc4 hce0 sm1 hce
    have hLc : SqL K H1 ce (cs.map V.int) := SqL.of hce
    walk_at "ev"
    refine for_range (lo := 0) (n := _) (fun i σ H' => Hold (∃ s2 s3, σ = [some (.ref a), some (.ref ce), s2, s3, none] ∧ Same H1 H')) (.mk ⟨none, none, rfl, Same.refl _⟩) ?_ ?_
    · intro i σ H2 hi hP
      obtain ⟨s2, s3, rfl, sm2⟩ := hP.un
      have hi4 : i < 5 := by
        have : ((cs.map V.int).length : Int).toNat = cs.length := by rw [List.length_map]; rfl
        omega
      have hLc2 := sm2.seq hLc
      walk_at "ev"
      intro b H3 hb0 sm3 hbx
      have hbf : H1 b = none := sm2.free hb0
      walk_at "ev"
      intro D hD
      have nDb := hbx.ne hD
      refine lc_range (lo := 0) (n := _) (fun j H' => Hold (Keep b H3 H' ∧ BoxAt H' b (12 * (j : Int)) ∧ H' D = some (.lst ((List.replicate j true).map V.bl)))) (.mk ⟨keepS (same_new hD), (hbx.upd nDb).mono (by omega), upd_same⟩) ?_ ?_
      · intro j H4 hj hP4
        obtain ⟨k4, b4, hD4⟩ := hP4.un
        have hj5 : j < 100 := by
          have : j < 4 := hj
          omega
        walk_at "ev"
        intro H5 k5 b5
        have hD5 := k5 _ _ nDb hD4
        refine ⟨_, hD5, szm (by rw [List.length_map, List.length_replicate]; omega), .mk ⟨keep_fresh (k4.trans k5) hD, (b5.upd nDb).mono (by omega), ?_⟩⟩
        rw [upd_same, List.replicate_succ', List.map_append]
        rfl
      · intro H4 hP4
        obtain ⟨k4, b4, hD4⟩ := hP4.un
        refine ⟨D, _, rfl, SqL.of hD4, ?_⟩
        rw [all_true]
        walk_at "ev"
        exact .mk ⟨_, _, rfl, keep_same (sm2.trans sm3) hbf k4⟩
    · intro σ H2 hP
      obtain ⟨s2, s3, rfl, sm2⟩ := hP.un
      walk_at "ev"
      exact q _
end
theorem all_mk {l : PySem.W.OpenLaw} {w : World} {K : PySem.W.Frag} {h : Heap} {mg : Str → Option Value} {fa : Addr} (X : K.In h) (G : h.Ns mainGlobals mg) (hfa : mg "law" = some (.ref fa))
    {od0 an0 : Option Addr} {sl0 : Array (Option Value)} {oc0 kV0 dc0 pm0 cd0 ct0 : Value} {f0 : Addr}
    {od1 an1 : Option Addr} {sl1 : Array (Option Value)} {oc1 kV1 dc1 pm1 cd1 ct1 : Value} {f1 : Addr}
    {od2 an2 : Option Addr} {sl2 : Array (Option Value)} {oc2 kV2 dc2 pm2 cd2 ct2 : Value} {f2 : Addr}
    {od3 an3 : Option Addr} {sl3 : Array (Option Value)} {oc3 kV3 dc3 pm3 cd3 ct3 : Value} {f3 : Addr}
    {od4 an4 : Option Addr} {sl4 : Array (Option Value)} {oc4 kV4 dc4 pm4 cd4 ct4 : Value} {f4 : Addr}
    {od5 an5 : Option Addr} {sl5 : Array (Option Value)} {oc5 kV5 dc5 pm5 cd5 ct5 : Value} {f5 : Addr}
    {od6 an6 : Option Addr} {sl6 : Array (Option Value)} {oc6 kV6 dc6 pm6 cd6 ct6 : Value} {f6 : Addr}
    {od7 an7 : Option Addr} {sl7 : Array (Option Value)} {oc7 kV7 dc7 pm7 cd7 ct7 : Value} {f7 : Addr}
    {od8 an8 : Option Addr} {sl8 : Array (Option Value)} {oc8 kV8 dc8 pm8 cd8 ct8 : Value} {f8 : Addr}
    {od9 an9 : Option Addr} {sl9 : Array (Option Value)} {oc9 kV9 dc9 pm9 cd9 ct9 : Value} {f9 : Addr}
    {od10 an10 : Option Addr} {sl10 : Array (Option Value)} {oc10 kV10 dc10 pm10 cd10 ct10 : Value} {f10 : Addr}
    {od11 an11 : Option Addr} {sl11 : Array (Option Value)} {oc11 kV11 dc11 pm11 cd11 ct11 : Value} {f11 : Addr}
    {od12 an12 : Option Addr} {sl12 : Array (Option Value)} {oc12 kV12 dc12 pm12 cd12 ct12 : Value} {f12 : Addr}
    {od13 an13 : Option Addr} {sl13 : Array (Option Value)} {oc13 kV13 dc13 pm13 cd13 ct13 : Value} {f13 : Addr}
    {od14 an14 : Option Addr} {sl14 : Array (Option Value)} {oc14 kV14 dc14 pm14 cd14 ct14 : Value} {f14 : Addr}
    {od15 an15 : Option Addr} {sl15 : Array (Option Value)} {oc15 kV15 dc15 pm15 cd15 ct15 : Value} {f15 : Addr}
    {fI : Addr} {odI anI : Option Addr} {slI : Array (Option Value)} {ocI kVI dcI pmI cdI ctI : Value}
    {C_TurnError : Addr}
    {C_BadLength : Addr}
    {C_NotCoprime : Addr}
    {C_NoRoot : Addr}
    {C_BadOrder : Addr}
    {nm_BadLength q_BadLength : Str} {N_BadLength : Addr} {bs_BadLength : List Value} {sn_BadLength : List Str} {sb_BadLength : List Value} {ab_BadLength : Bool} {co_BadLength : Option Bool} {dd_BadLength : Option Addr} {m0_BadLength m1_BadLength m2_BadLength m3_BadLength m5_BadLength : Option Value}
    {nm_NotCoprime q_NotCoprime : Str} {N_NotCoprime : Addr} {bs_NotCoprime : List Value} {sn_NotCoprime : List Str} {sb_NotCoprime : List Value} {ab_NotCoprime : Bool} {co_NotCoprime : Option Bool} {dd_NotCoprime : Option Addr} {m0_NotCoprime m1_NotCoprime m2_NotCoprime m3_NotCoprime m5_NotCoprime : Option Value}
    (g_TurnError : PySem.W.nsIn K mainGlobals "TurnError" = some (some (.ref C_TurnError)))
    (g_BadLength : PySem.W.nsIn K mainGlobals "BadLength" = some (some (.ref C_BadLength)))
    (g_NotCoprime : PySem.W.nsIn K mainGlobals "NotCoprime" = some (some (.ref C_NotCoprime)))
    (g_NoRoot : PySem.W.nsIn K mainGlobals "NoRoot" = some (some (.ref C_NoRoot)))
    (g_BadOrder : PySem.W.nsIn K mainGlobals "BadOrder" = some (some (.ref C_BadOrder)))
    (on : PySem.W.specialIn K (.builtin "object.__class__") "__get__" = some (some (.builtin "getset_descriptor.__get__")))
    (ot : PySem.W.takesIn K (.builtin "object.__class__") = some true)
    (eT : PySem.W.subIn K (.ref C_TurnError) (.type "BaseException") = some true)
    (hT : PySem.W.hasDictIn K C_TurnError = true)
    (tT : PySem.W.typeIn K (.ref C_TurnError) = some (.type "type"))
    (xL_BadLength : K.lookup C_BadLength = some (excClassObj nm_BadLength q_BadLength C_BadLength N_BadLength bs_BadLength [.ref C_TurnError, .type "ValueError", .type "Exception", .type "BaseException", .type "object"] true sn_BadLength sb_BadLength ab_BadLength co_BadLength dd_BadLength m0_BadLength m1_BadLength m2_BadLength m3_BadLength m5_BadLength "ValueError.__new__"))
    (sa_BadLength : PySem.W.findIn K (.ref C_BadLength) "__setattr__" = some (some (.builtin "object.__setattr__")))
    (ga_BadLength : PySem.W.findIn K (.ref C_BadLength) "__getattribute__" = some (some (.builtin "BaseException.__getattribute__")))
    (gg_BadLength : PySem.W.findIn K (.ref C_BadLength) "__getattr__" = some none)
    (nw_BadLength : PySem.W.findIn K (.ref C_BadLength) "what" = some none)
    (ii_BadLength : PySem.W.findIn K (.ref C_BadLength) "__init__" = some (some (.ref fI)))
    (oc_BadLength : PySem.W.findIn K (.ref C_BadLength) "__class__" = some (some (.builtin "object.__class__")))
    (kC_BadLength : PySem.W.keepIn K (.ref C_BadLength) = true)
    (eC_BadLength : PySem.W.subIn K (.ref C_BadLength) (.type "BaseException") = some true)
    (tC_BadLength : PySem.W.typeIn K (.ref C_BadLength) = some (.type "type"))
    (hC_BadLength : PySem.W.hasDictIn K C_BadLength = true)
    (mo_BadLength : PySem.W.mroIn K C_BadLength (.type "object") = some true)
    (su_BadLength : PySem.W.subIn K (.ref C_BadLength) (.ref C_TurnError) = some true)
    (kv_BadLength : PySem.W.kitOne K (.ref C_BadLength) (.type "ValueError") = some true)
    (kt_BadLength : PySem.W.kitOne K (.ref C_BadLength) (.ref C_TurnError) = some true)
    (xL_NotCoprime : K.lookup C_NotCoprime = some (excClassObj nm_NotCoprime q_NotCoprime C_NotCoprime N_NotCoprime bs_NotCoprime [.ref C_TurnError, .type "ValueError", .type "Exception", .type "BaseException", .type "object"] true sn_NotCoprime sb_NotCoprime ab_NotCoprime co_NotCoprime dd_NotCoprime m0_NotCoprime m1_NotCoprime m2_NotCoprime m3_NotCoprime m5_NotCoprime "ValueError.__new__"))
    (sa_NotCoprime : PySem.W.findIn K (.ref C_NotCoprime) "__setattr__" = some (some (.builtin "object.__setattr__")))
    (ga_NotCoprime : PySem.W.findIn K (.ref C_NotCoprime) "__getattribute__" = some (some (.builtin "BaseException.__getattribute__")))
    (gg_NotCoprime : PySem.W.findIn K (.ref C_NotCoprime) "__getattr__" = some none)
    (nw_NotCoprime : PySem.W.findIn K (.ref C_NotCoprime) "what" = some none)
    (ii_NotCoprime : PySem.W.findIn K (.ref C_NotCoprime) "__init__" = some (some (.ref fI)))
    (oc_NotCoprime : PySem.W.findIn K (.ref C_NotCoprime) "__class__" = some (some (.builtin "object.__class__")))
    (kC_NotCoprime : PySem.W.keepIn K (.ref C_NotCoprime) = true)
    (eC_NotCoprime : PySem.W.subIn K (.ref C_NotCoprime) (.type "BaseException") = some true)
    (tC_NotCoprime : PySem.W.typeIn K (.ref C_NotCoprime) = some (.type "type"))
    (hC_NotCoprime : PySem.W.hasDictIn K C_NotCoprime = true)
    (mo_NotCoprime : PySem.W.mroIn K C_NotCoprime (.type "object") = some true)
    (su_NotCoprime : PySem.W.subIn K (.ref C_NotCoprime) (.ref C_TurnError) = some true)
    (kv_NotCoprime : PySem.W.kitOne K (.ref C_NotCoprime) (.type "ValueError") = some true)
    (kt_NotCoprime : PySem.W.kitOne K (.ref C_NotCoprime) (.ref C_TurnError) = some true)
    (lI : K.lookup fI = some ⟨ocI, odI, .func (PySem.W.fnOf "__init__" "TurnError.__init__" (defArgs s_init) (defBody s_init) (defScope s_init) .none kVI dcI pmI anI cdI ctI), slI⟩)
    (cI : PySem.W.codeIn K cdI "TurnError.__init__" = true)
    (kI : PySem.W.keepIn K (.ref fI) = true)
    (tI : PySem.W.typeIn K (.ref fI) = some (.type "function"))
    (fbb : PySem.W.kitOne K (.ref C_BadLength) (.ref C_BadLength) = some true)
    (fbn : PySem.W.kitOne K (.ref C_BadLength) (.ref C_NotCoprime) = some false)
    (fbr : PySem.W.kitOne K (.ref C_BadLength) (.ref C_NoRoot) = some false)
    (fbo : PySem.W.kitOne K (.ref C_BadLength) (.ref C_BadOrder) = some false)
    (fnb : PySem.W.kitOne K (.ref C_NotCoprime) (.ref C_BadLength) = some false)
    (fnn : PySem.W.kitOne K (.ref C_NotCoprime) (.ref C_NotCoprime) = some true)
    (fnr : PySem.W.kitOne K (.ref C_NotCoprime) (.ref C_NoRoot) = some false)
    (fno : PySem.W.kitOne K (.ref C_NotCoprime) (.ref C_BadOrder) = some false)
    (a0 : PySem.W.nsIn K mainGlobals "product" = some (some (.ref f0))) (l0 : K.lookup f0 = some ⟨oc0, od0, .func (PySem.W.fnOf "product" "product" (defArgs s_product) (defBody s_product) (defScope s_product) .none kV0 dc0 pm0 an0 cd0 ct0), sl0⟩) (c0 : PySem.W.codeIn K cd0 "product" = true) (k0 : PySem.W.keepIn K (.ref f0) = true)
    (a1 : PySem.W.nsIn K mainGlobals "are_coprime" = some (some (.ref f1))) (l1 : K.lookup f1 = some ⟨oc1, od1, .func (PySem.W.fnOf "are_coprime" "are_coprime" (defArgs s_are_coprime) (defBody s_are_coprime) (defScope s_are_coprime) .none kV1 dc1 pm1 an1 cd1 ct1), sl1⟩) (c1 : PySem.W.codeIn K cd1 "are_coprime" = true) (k1 : PySem.W.keepIn K (.ref f1) = true)
    (a2 : PySem.W.nsIn K mainGlobals "check_length" = some (some (.ref f2))) (l2 : K.lookup f2 = some ⟨oc2, od2, .func (PySem.W.fnOf "check_length" "check_length" (defArgs s_check_length) (defBody s_check_length) (defScope s_check_length) .none kV2 dc2 pm2 an2 cd2 ct2), sl2⟩) (c2 : PySem.W.codeIn K cd2 "check_length" = true) (k2 : PySem.W.keepIn K (.ref f2) = true)
    (a3 : PySem.W.nsIn K mainGlobals "place_at" = some (some (.ref f3))) (l3 : K.lookup f3 = some ⟨oc3, od3, .func (PySem.W.fnOf "place_at" "place_at" (defArgs s_place_at) (defBody s_place_at) (defScope s_place_at) .none kV3 dc3 pm3 an3 cd3 ct3), sl3⟩) (c3 : PySem.W.codeIn K cd3 "place_at" = true) (k3 : PySem.W.keepIn K (.ref f3) = true)
    (a4 : PySem.W.nsIn K mainGlobals "check_parts" = some (some (.ref f4))) (l4 : K.lookup f4 = some ⟨oc4, od4, .func (PySem.W.fnOf "check_parts" "check_parts" (defArgs s_check_parts) (defBody s_check_parts) (defScope s_check_parts) .none kV4 dc4 pm4 an4 cd4 ct4), sl4⟩) (c4 : PySem.W.codeIn K cd4 "check_parts" = true) (k4 : PySem.W.keepIn K (.ref f4) = true)
    (a5 : PySem.W.nsIn K mainGlobals "into_parts" = some (some (.ref f5))) (l5 : K.lookup f5 = some ⟨oc5, od5, .func (PySem.W.fnOf "into_parts" "into_parts" (defArgs s_into_parts) (defBody s_into_parts) (defScope s_into_parts) .none kV5 dc5 pm5 an5 cd5 ct5), sl5⟩) (c5 : PySem.W.codeIn K cd5 "into_parts" = true) (k5 : PySem.W.keepIn K (.ref f5) = true)
    (a6 : PySem.W.nsIn K mainGlobals "out_of_parts" = some (some (.ref f6))) (l6 : K.lookup f6 = some ⟨oc6, od6, .func (PySem.W.fnOf "out_of_parts" "out_of_parts" (defArgs s_out_of_parts) (defBody s_out_of_parts) (defScope s_out_of_parts) .none kV6 dc6 pm6 an6 cd6 ct6), sl6⟩) (c6 : PySem.W.codeIn K cd6 "out_of_parts" = true) (k6 : PySem.W.keepIn K (.ref f6) = true)
    (a7 : PySem.W.nsIn K mainGlobals "_law_box" = some (some (.ref f7))) (l7 : K.lookup f7 = some ⟨oc7, od7, .func (PySem.W.fnOf "_law_box" "_law_box" (defArgs s__law_box) (defBody s__law_box) (defScope s__law_box) .none kV7 dc7 pm7 an7 cd7 ct7), sl7⟩) (c7 : PySem.W.codeIn K cd7 "_law_box" = true) (k7 : PySem.W.keepIn K (.ref f7) = true)
    (a8 : PySem.W.nsIn K mainGlobals "_law_take" = some (some (.ref f8))) (l8 : K.lookup f8 = some ⟨oc8, od8, .func (PySem.W.fnOf "_law_take" "_law_take" (defArgs s__law_take) (defBody s__law_take) (defScope s__law_take) .none kV8 dc8 pm8 an8 cd8 ct8), sl8⟩) (c8 : PySem.W.codeIn K cd8 "_law_take" = true) (k8 : PySem.W.keepIn K (.ref f8) = true)
    (a9 : PySem.W.nsIn K mainGlobals "_law_folded" = some (some (.ref f9))) (l9 : K.lookup f9 = some ⟨oc9, od9, .func (PySem.W.fnOf "_law_folded" "_law_folded" (defArgs s__law_folded) (defBody s__law_folded) (defScope s__law_folded) .none kV9 dc9 pm9 an9 cd9 ct9), sl9⟩) (c9 : PySem.W.codeIn K cd9 "_law_folded" = true) (k9 : PySem.W.keepIn K (.ref f9) = true)
    (a10 : PySem.W.nsIn K mainGlobals "_law_same" = some (some (.ref f10))) (l10 : K.lookup f10 = some ⟨oc10, od10, .func (PySem.W.fnOf "_law_same" "_law_same" (defArgs s__law_same) (defBody s__law_same) (defScope s__law_same) .none kV10 dc10 pm10 an10 cd10 ct10), sl10⟩) (c10 : PySem.W.codeIn K cd10 "_law_same" = true) (k10 : PySem.W.keepIn K (.ref f10) = true)
    (a11 : PySem.W.nsIn K mainGlobals "_law_shares" = some (some (.ref f11))) (l11 : K.lookup f11 = some ⟨oc11, od11, .func (PySem.W.fnOf "_law_shares" "_law_shares" (defArgs s__law_shares) (defBody s__law_shares) (defScope s__law_shares) .none kV11 dc11 pm11 an11 cd11 ct11), sl11⟩) (c11 : PySem.W.codeIn K cd11 "_law_shares" = true) (k11 : PySem.W.keepIn K (.ref f11) = true)
    (a12 : PySem.W.nsIn K mainGlobals "_law_refused" = some (some (.ref f12))) (l12 : K.lookup f12 = some ⟨oc12, od12, .func (PySem.W.fnOf "_law_refused" "_law_refused" (defArgs s__law_refused) (defBody s__law_refused) (defScope s__law_refused) .none kV12 dc12 pm12 an12 cd12 ct12), sl12⟩) (c12 : PySem.W.codeIn K cd12 "_law_refused" = true) (k12 : PySem.W.keepIn K (.ref f12) = true)
    (a13 : PySem.W.nsIn K mainGlobals "_law_crossed" = some (some (.ref f13))) (l13 : K.lookup f13 = some ⟨oc13, od13, .func (PySem.W.fnOf "_law_crossed" "_law_crossed" (defArgs s__law_crossed) (defBody s__law_crossed) (defScope s__law_crossed) .none kV13 dc13 pm13 an13 cd13 ct13), sl13⟩) (c13 : PySem.W.codeIn K cd13 "_law_crossed" = true) (k13 : PySem.W.keepIn K (.ref f13) = true)
    (a14 : PySem.W.nsIn K mainGlobals "_law_right" = some (some (.ref f14))) (l14 : K.lookup f14 = some ⟨oc14, od14, .func (PySem.W.fnOf "_law_right" "_law_right" (defArgs s__law_right) (defBody s__law_right) (defScope s__law_right) .none kV14 dc14 pm14 an14 cd14 ct14), sl14⟩) (c14 : PySem.W.codeIn K cd14 "_law_right" = true) (k14 : PySem.W.keepIn K (.ref f14) = true)
    (a15 : PySem.W.nsIn K mainGlobals "law" = some (some (.ref f15))) (l15 : K.lookup f15 = some ⟨oc15, od15, .func (PySem.W.fnOf "law" "law" (defArgs s_law) (defBody s_law) (defScope s_law) .none kV15 dc15 pm15 an15 cd15 ct15), sl15⟩) (c15 : PySem.W.codeIn K cd15 "law" = true) (k15 : PySem.W.keepIn K (.ref f15) = true)
    (z0 : PySem.W.nsIn K mainGlobals "ValueError" = some none) (z1 : PySem.W.nsIn K mainGlobals "abs" = some none) (z2 : PySem.W.nsIn K mainGlobals "all" = some none) (z3 : PySem.W.nsIn K mainGlobals "any" = some none) (z4 : PySem.W.nsIn K mainGlobals "bool" = some none) (z5 : PySem.W.nsIn K mainGlobals "enumerate" = some none) (z6 : PySem.W.nsIn K mainGlobals "int" = some none) (z7 : PySem.W.nsIn K mainGlobals "isinstance" = some none) (z8 : PySem.W.nsIn K mainGlobals "len" = some none) (z9 : PySem.W.nsIn K mainGlobals "list" = some none) (z10 : PySem.W.nsIn K mainGlobals "range" = some none) (z11 : PySem.W.nsIn K mainGlobals "str" = some none) (z12 : PySem.W.nsIn K mainGlobals "tuple" = some none) (z13 : PySem.W.nsIn K mainGlobals "zip" = some none) :
    ∃ fd : FuncData, (∀ (s : Shared) (v : Value), BindsTo s fd ⟨[v], []⟩ [("_law_script", v)]) ∧ ∀ base : Heap, K.In base → base.Ns mainGlobals mg → FnOk l.prog w K mg base CX0 8 fa fd ["_law_script"] (spLaw K) := by
  have e := hfa.symm.trans (PySem.W.mg_of X G a15)
  cases e
  have T : Blt mg := ⟨PySem.W.mg_none_of X G z0, PySem.W.mg_none_of X G z1, PySem.W.mg_none_of X G z2, PySem.W.mg_none_of X G z3, PySem.W.mg_none_of X G z4, PySem.W.mg_none_of X G z5, PySem.W.mg_none_of X G z6, PySem.W.mg_none_of X G z7, PySem.W.mg_none_of X G z8, PySem.W.mg_none_of X G z9, PySem.W.mg_none_of X G z10, PySem.W.mg_none_of X G z11, PySem.W.mg_none_of X G z12, PySem.W.mg_none_of X G z13⟩
  have F0 := fun_mk (st := s_product) l0 c0 k0
  have b0 := F0.binds (ps := P_product) fun _ _ _ _ _ _ us hl => match us, hl with | [_], _ => rfl
  have F1 := fun_mk (st := s_are_coprime) l1 c1 k1
  have b1 := F1.binds (ps := P_are_coprime) fun _ _ _ _ _ _ us hl => match us, hl with | [_, _], _ => rfl
  have F2 := fun_mk (st := s_check_length) l2 c2 k2
  have b2 := F2.binds (ps := P_check_length) fun _ _ _ _ _ _ us hl => match us, hl with | [_, _], _ => rfl
  have F3 := fun_mk (st := s_place_at) l3 c3 k3
  have b3 := F3.binds (ps := P_place_at) fun _ _ _ _ _ _ us hl => match us, hl with | [_, _], _ => rfl
  have F4 := fun_mk (st := s_check_parts) l4 c4 k4
  have b4 := F4.binds (ps := P_check_parts) fun _ _ _ _ _ _ us hl => match us, hl with | [_, _, _], _ => rfl
  have F5 := fun_mk (st := s_into_parts) l5 c5 k5
  have b5 := F5.binds (ps := P_into_parts) fun _ _ _ _ _ _ us hl => match us, hl with | [_, _, _], _ => rfl
  have F6 := fun_mk (st := s_out_of_parts) l6 c6 k6
  have b6 := F6.binds (ps := P_out_of_parts) fun _ _ _ _ _ _ us hl => match us, hl with | [_, _, _], _ => rfl
  have F7 := fun_mk (st := s__law_box) l7 c7 k7
  have b7 := F7.binds (ps := P__law_box) fun _ _ _ _ _ _ us hl => match us, hl with | [_, _], _ => rfl
  have F8 := fun_mk (st := s__law_take) l8 c8 k8
  have b8 := F8.binds (ps := P__law_take) fun _ _ _ _ _ _ us hl => match us, hl with | [_, _], _ => rfl
  have F9 := fun_mk (st := s__law_folded) l9 c9 k9
  have b9 := F9.binds (ps := P__law_folded) fun _ _ _ _ _ _ us hl => match us, hl with | [_, _], _ => rfl
  have F10 := fun_mk (st := s__law_same) l10 c10 k10
  have b10 := F10.binds (ps := P__law_same) fun _ _ _ _ _ _ us hl => match us, hl with | [_, _], _ => rfl
  have F11 := fun_mk (st := s__law_shares) l11 c11 k11
  have b11 := F11.binds (ps := P__law_shares) fun _ _ _ _ _ _ us hl => match us, hl with | [_, _], _ => rfl
  have F12 := fun_mk (st := s__law_refused) l12 c12 k12
  have b12 := F12.binds (ps := P__law_refused) fun _ _ _ _ _ _ us hl => match us, hl with | [_, _, _, _], _ => rfl
  have F13 := fun_mk (st := s__law_crossed) l13 c13 k13
  have b13 := F13.binds (ps := P__law_crossed) fun _ _ _ _ _ _ us hl => match us, hl with | [_, _], _ => rfl
  have F14 := fun_mk (st := s__law_right) l14 c14 k14
  have b14 := F14.binds (ps := P__law_right) fun _ _ _ _ _ _ us hl => match us, hl with | [_], _ => rfl
  have F15 := fun_mk (st := s_law) l15 c15 k15
  have F_I := fun_mk (st := s_init) lI cI kI
  have b_I := F_I.binds (ps := N_init) fun _ _ _ _ _ _ us hl => match us, hl with | [_, _], _ => rfl
  have EK_BadLength : ExK K C_BadLength := ⟨⟨⟨nm_BadLength, q_BadLength, N_BadLength, bs_BadLength, _, sn_BadLength, sb_BadLength, ab_BadLength, co_BadLength, dd_BadLength, m0_BadLength, m1_BadLength, m2_BadLength, m3_BadLength, m5_BadLength, xL_BadLength, rfl⟩, sa_BadLength, eC_BadLength, tC_BadLength, kC_BadLength⟩, ⟨ga_BadLength, gg_BadLength, eC_BadLength, hC_BadLength⟩, ⟨ga_BadLength, gg_BadLength, eC_BadLength, hC_BadLength, oc_BadLength, on, ot, mo_BadLength⟩, nw_BadLength⟩
  have R_BadLength : Ref K C_TurnError C_BadLength fI := ⟨EK_BadLength, ii_BadLength, PySem.W.exm_ref eT hT tT su_BadLength, kv_BadLength, kt_BadLength⟩
  have EK_NotCoprime : ExK K C_NotCoprime := ⟨⟨⟨nm_NotCoprime, q_NotCoprime, N_NotCoprime, bs_NotCoprime, _, sn_NotCoprime, sb_NotCoprime, ab_NotCoprime, co_NotCoprime, dd_NotCoprime, m0_NotCoprime, m1_NotCoprime, m2_NotCoprime, m3_NotCoprime, m5_NotCoprime, xL_NotCoprime, rfl⟩, sa_NotCoprime, eC_NotCoprime, tC_NotCoprime, kC_NotCoprime⟩, ⟨ga_NotCoprime, gg_NotCoprime, eC_NotCoprime, hC_NotCoprime⟩, ⟨ga_NotCoprime, gg_NotCoprime, eC_NotCoprime, hC_NotCoprime, oc_NotCoprime, on, ot, mo_NotCoprime⟩, nw_NotCoprime⟩
  have R_NotCoprime : Ref K C_TurnError C_NotCoprime fI := ⟨EK_NotCoprime, ii_NotCoprime, PySem.W.exm_ref eT hT tT su_NotCoprime, kv_NotCoprime, kt_NotCoprime⟩
  have M_TurnError := PySem.W.mg_of X G g_TurnError
  have M_BadLength := PySem.W.mg_of X G g_BadLength
  have M_NotCoprime := PySem.W.mg_of X G g_NotCoprime
  have M_NoRoot := PySem.W.mg_of X G g_NoRoot
  have M_BadOrder := PySem.W.mg_of X G g_BadOrder
  refine ⟨_, fun s v => .of_eq rfl, fun base _ _ => ok_law (P := l.prog) (w := w) (base := base) F15 T ⟨⟨_, _, F0, b0, PySem.W.mg_of X G a0⟩, ⟨_, _, F1, b1, PySem.W.mg_of X G a1⟩, ⟨_, _, F2, b2, PySem.W.mg_of X G a2⟩, ⟨_, _, F3, b3, PySem.W.mg_of X G a3⟩, ⟨_, _, F4, b4, PySem.W.mg_of X G a4⟩, ⟨_, _, F5, b5, PySem.W.mg_of X G a5⟩, ⟨_, _, F6, b6, PySem.W.mg_of X G a6⟩, ⟨_, _, F7, b7, PySem.W.mg_of X G a7⟩, ⟨_, _, F8, b8, PySem.W.mg_of X G a8⟩, ⟨_, _, F9, b9, PySem.W.mg_of X G a9⟩, ⟨_, _, F10, b10, PySem.W.mg_of X G a10⟩, ⟨_, _, F11, b11, PySem.W.mg_of X G a11⟩, ⟨_, _, F12, b12, PySem.W.mg_of X G a12⟩, ⟨_, _, F13, b13, PySem.W.mg_of X G a13⟩, ⟨_, _, F14, b14, PySem.W.mg_of X G a14⟩⟩ ⟨F_I, b_I, tI, R_BadLength, R_NotCoprime, M_TurnError, M_BadLength, M_NotCoprime, M_NoRoot, M_BadOrder, fbb, fbn, fbr, fbo, fnb, fnn, fnr, fno⟩⟩
end My
open PySem PySem.W PyProof.Rows
set_option maxRecDepth 100000 in
set_option maxHeartbeats 0 in
theorem PySem.Challenge.cw_turnsums_k68_into_parts_and_out_holds : PySem.Challenge.rw_turnsums_k68_into_parts_and_out.Holds := by
  w_on; o_law; k_head; (case hw => w_witness2)
  k_fill
  refine L2.walk_of (l := PySem.Challenge.rw_turnsums_k68_into_parts_and_out) (n := 63) (k := 8) (x := "_law_script") (CX := fun _ => L2.CX0) (sp := fun w => My.spLaw _) rfl (by decide) rfl ⟨rfl, by decide, by decide⟩ (fun w h Y => PySem.W.kIn_of Y) ?F (fun _ _ a ns hl _ hS => ⟨a, ns, rfl, hS, hl, fun _ => rfl⟩) (fun _ _ _ _ _ h => h)
  case F =>
    intro w mg fa h KX G hmg
    refine' My.all_mk KX G hmg ?g_TurnError ?g_BadLength ?g_NotCoprime ?g_NoRoot ?g_BadOrder ?on ?ot ?eT ?hT ?tT ?xL_BadLength ?sa_BadLength ?ga_BadLength ?gg_BadLength ?nw_BadLength ?ii_BadLength ?oc_BadLength ?kC_BadLength ?eC_BadLength ?tC_BadLength ?hC_BadLength ?mo_BadLength ?su_BadLength ?kv_BadLength ?kt_BadLength ?xL_NotCoprime ?sa_NotCoprime ?ga_NotCoprime ?gg_NotCoprime ?nw_NotCoprime ?ii_NotCoprime ?oc_NotCoprime ?kC_NotCoprime ?eC_NotCoprime ?tC_NotCoprime ?hC_NotCoprime ?mo_NotCoprime ?su_NotCoprime ?kv_NotCoprime ?kt_NotCoprime ?lI ?cI ?kI ?tI ?fbb ?fbn ?fbr ?fbo ?fnb ?fnn ?fnr ?fno ?a0 ?l0 ?c0 ?k0 ?a1 ?l1 ?c1 ?k1 ?a2 ?l2 ?c2 ?k2 ?a3 ?l3 ?c3 ?k3 ?a4 ?l4 ?c4 ?k4 ?a5 ?l5 ?c5 ?k5 ?a6 ?l6 ?c6 ?k6 ?a7 ?l7 ?c7 ?k7 ?a8 ?l8 ?c8 ?k8 ?a9 ?l9 ?c9 ?k9 ?a10 ?l10 ?c10 ?k10 ?a11 ?l11 ?c11 ?k11 ?a12 ?l12 ?c12 ?k12 ?a13 ?l13 ?c13 ?k13 ?a14 ?l14 ?c14 ?k14 ?a15 ?l15 ?c15 ?k15 ?z0 ?z1 ?z2 ?z3 ?z4 ?z5 ?z6 ?z7 ?z8 ?z9 ?z10 ?z11 ?z12 ?z13
    (case g_TurnError => first | k_is | rfl)
    (case g_BadLength => first | k_is | rfl)
    (case g_NotCoprime => first | k_is | rfl)
    (case g_NoRoot => first | k_is | rfl)
    (case g_BadOrder => first | k_is | rfl)
    (case on => first | k_is | rfl)
    (case ot => first | k_is | rfl)
    (case eT => first | k_is | rfl)
    (case hT => first | k_is | rfl)
    (case tT => first | k_is | rfl)
    (case xL_BadLength => first | k_is | rfl)
    (case sa_BadLength => first | k_is | rfl)
    (case ga_BadLength => first | k_is | rfl)
    (case gg_BadLength => first | k_is | rfl)
    (case nw_BadLength => first | k_is | rfl)
    (case ii_BadLength => first | k_is | rfl)
    (case oc_BadLength => first | k_is | rfl)
    (case kC_BadLength => first | k_is | rfl)
    (case eC_BadLength => first | k_is | rfl)
    (case tC_BadLength => first | k_is | rfl)
    (case hC_BadLength => first | k_is | rfl)
    (case mo_BadLength => first | k_is | rfl)
    (case su_BadLength => first | k_is | rfl)
    (case kv_BadLength => first | k_is | rfl)
    (case kt_BadLength => first | k_is | rfl)
    (case xL_NotCoprime => first | k_is | rfl)
    (case sa_NotCoprime => first | k_is | rfl)
    (case ga_NotCoprime => first | k_is | rfl)
    (case gg_NotCoprime => first | k_is | rfl)
    (case nw_NotCoprime => first | k_is | rfl)
    (case ii_NotCoprime => first | k_is | rfl)
    (case oc_NotCoprime => first | k_is | rfl)
    (case kC_NotCoprime => first | k_is | rfl)
    (case eC_NotCoprime => first | k_is | rfl)
    (case tC_NotCoprime => first | k_is | rfl)
    (case hC_NotCoprime => first | k_is | rfl)
    (case mo_NotCoprime => first | k_is | rfl)
    (case su_NotCoprime => first | k_is | rfl)
    (case kv_NotCoprime => first | k_is | rfl)
    (case kt_NotCoprime => first | k_is | rfl)
    (case lI => first | k_is | rfl)
    (case cI => first | k_is | rfl)
    (case kI => first | k_is | rfl)
    (case tI => first | k_is | rfl)
    (case fbb => first | k_is | rfl)
    (case fbn => first | k_is | rfl)
    (case fbr => first | k_is | rfl)
    (case fbo => first | k_is | rfl)
    (case fnb => first | k_is | rfl)
    (case fnn => first | k_is | rfl)
    (case fnr => first | k_is | rfl)
    (case fno => first | k_is | rfl)
    (case a0 => k_is)
    (case l0 => k_is)
    (case c0 => k_is)
    (case k0 => k_is)
    (case a1 => k_is)
    (case l1 => k_is)
    (case c1 => k_is)
    (case k1 => k_is)
    (case a2 => k_is)
    (case l2 => k_is)
    (case c2 => k_is)
    (case k2 => k_is)
    (case a3 => k_is)
    (case l3 => k_is)
    (case c3 => k_is)
    (case k3 => k_is)
    (case a4 => k_is)
    (case l4 => k_is)
    (case c4 => k_is)
    (case k4 => k_is)
    (case a5 => k_is)
    (case l5 => k_is)
    (case c5 => k_is)
    (case k5 => k_is)
    (case a6 => k_is)
    (case l6 => k_is)
    (case c6 => k_is)
    (case k6 => k_is)
    (case a7 => k_is)
    (case l7 => k_is)
    (case c7 => k_is)
    (case k7 => k_is)
    (case a8 => k_is)
    (case l8 => k_is)
    (case c8 => k_is)
    (case k8 => k_is)
    (case a9 => k_is)
    (case l9 => k_is)
    (case c9 => k_is)
    (case k9 => k_is)
    (case a10 => k_is)
    (case l10 => k_is)
    (case c10 => k_is)
    (case k10 => k_is)
    (case a11 => k_is)
    (case l11 => k_is)
    (case c11 => k_is)
    (case k11 => k_is)
    (case a12 => k_is)
    (case l12 => k_is)
    (case c12 => k_is)
    (case k12 => k_is)
    (case a13 => k_is)
    (case l13 => k_is)
    (case c13 => k_is)
    (case k13 => k_is)
    (case a14 => k_is)
    (case l14 => k_is)
    (case c14 => k_is)
    (case k14 => k_is)
    (case a15 => k_is)
    (case l15 => k_is)
    (case c15 => k_is)
    (case k15 => k_is)
    (case z0 => k_is)
    (case z1 => k_is)
    (case z2 => k_is)
    (case z3 => k_is)
    (case z4 => k_is)
    (case z5 => k_is)
    (case z6 => k_is)
    (case z7 => k_is)
    (case z8 => k_is)
    (case z9 => k_is)
    (case z10 => k_is)
    (case z11 => k_is)
    (case z12 => k_is)
    (case z13 => k_is)

