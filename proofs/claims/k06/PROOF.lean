import PyProof.Rows.All
import Wide.All
import OpenK.AllK
import Wide.FinOn
import KE.KStateDown
import Lean
import HandS.ForMost
import HandS.Exc
import HandS.WordsExc
import HandS.Defaults
import HandS.Wide
import HandS.Walk
import HandS.MakeKw
import HandS.Style
import HandS.Flow
import HandS.IsInst
import HandS.Strs
import HandS.Zip
import HandS.SortInts
import HandS.Head0
import HandS.Head1
import HandS.Head2
import HandS.HeadEnd
import HandS.HeadHook1
import HandS.HeadHook2
import HandS.SetFor
import PySem.Challenge.RW_lettolls_k06_parts_by_days
set_option Elab.async false
set_option linter.all false
set_option maxRecDepth 100000
set_option maxHeartbeats 4000000
/-! own rules over the layer: calls by a packed promise, constants of the module, a box of three numbers -/
namespace Lt
open PySem PySem.Spec PyProof.Rows L2
/-- a def by its name, packed: it stands, it keeps sp; dvs are the defaults that fill up -/
def Cal (P : Program) (w : World) (K : PySem.W.Frag) (mg : Str → Option Value) (base : Heap) (x : Str) (k : Nat) (ps : List Str) (dvs : List V) (sp : Sp) : Prop :=
  ∃ (f : Addr) (fd : FuncData) (ds : List Value), FnOk P w K mg base CX0 k f fd ps sp ∧ mg x = some (.ref f) ∧
    PySem.W.keepIn K (.ref f) = true ∧ Vals dvs ds ∧ Binds K fd ps ds
/-- the same with keywords -/
def CalK (P : Program) (w : World) (K : PySem.W.Frag) (mg : Str → Option Value) (base : Heap) (x : Str) (k : Nat) (ps : List Str) (n : Nat) (ks : List Str) (gV : List V → List V → List V) (sp : Sp) : Prop :=
  ∃ (f : Addr) (fd : FuncData) (g : List Value → List Value → List Value), FnOk P w K mg base CX0 k f fd ps sp ∧
    mg x = some (.ref f) ∧ PySem.W.keepIn K (.ref f) = true ∧ KBn K fd ps n ks g gV
section
variable {X : Cx} {k n : Nat} {ps ks : List Str} {sp : Sp} {dvs : List V} {x : Str} {p pos : Pos} {e : Expr}
variable {es : List Expr} {kws : List Keyword} {t tk : TA} {gV : List V → List V → List V}
theorem pe_cal (C : Cal X.prog X.w X.K X.mg X.base x k ps dvs sp) (hr : Room k X.A) (hg : Gl X x) (ha : PA X (e :: es) t)
    (hdb : (x == ("__debug__" : Str)) = false := by decide)
    (he : starEach (e :: es) X.env = (false, eval e X.env) :: starEach es X.env := by rfl)
    (hpl : (backTo pos (starEach es X.env)).any (·.1) = false := by rfl) :
    PE X (.Call (.Name x p) (e :: es) [] pos) (tCall sp dvs E0 t) := by
  obtain ⟨f, fd, ds, F, hm, hk, hv, hb⟩ := C
  exact pe_call F hr hg hm hk hb hv pass0 ha hdb he hpl
theorem pe_cal0 (C : Cal X.prog X.w X.K X.mg X.base x k ps dvs sp) (hr : Room k X.A) (hg : Gl X x)
    (hdb : (x == ("__debug__" : Str)) = false := by decide) : PE X (.Call (.Name x p) [] [] pos) (tCall sp dvs E0 tNil) := by
  obtain ⟨f, fd, ds, F, hm, hk, hv, hb⟩ := C
  exact pe_call0 F hr hg hm hk hb hv pass0 hdb
theorem pe_calk (C : CalK X.prog X.w X.K X.mg X.base x k ps n ks gV sp) (hr : Room k X.A) (hg : Gl X x) (ha : PA X (e :: es) t) (hkw : PK X kws tk)
    (hall : (backToKw pos (keywordEach kws X.env)).all (·.1.isSome) = true := by rfl)
    (hks : (backToKw pos (keywordEach kws X.env)).filterMap (·.1) = ks := by rfl)
    (hdb : (x == ("__debug__" : Str)) = false := by decide)
    (he : starEach (e :: es) X.env = (false, eval e X.env) :: starEach es X.env := by rfl)
    (hpl : ((backTo pos (starEach (e :: es) X.env)).any (·.1) || (backToKw pos (keywordEach kws X.env)).any (·.1.isNone)) = false := by rfl) :
    PE X (.Call (.Name x p) (e :: es) kws pos) (tCallN n ks.length sp gV E0 t tk) := by
  obtain ⟨f, fd, g, F, hm, hk, hb⟩ := C
  exact pe_callN F hr hg hm hk hb pass0 ha hkw hall hks hdb he hpl
theorem pe_calk0 (C : CalK X.prog X.w X.K X.mg X.base x k ps 0 ks gV sp) (hr : Room k X.A) (hg : Gl X x) (hkw : PK X kws tk)
    (hall : (backToKw pos (keywordEach kws X.env)).all (·.1.isSome) = true := by rfl)
    (hks : (backToKw pos (keywordEach kws X.env)).filterMap (·.1) = ks := by rfl)
    (hdb : (x == ("__debug__" : Str)) = false := by decide)
    (hpl : ((backTo pos (starEach [] X.env)).any (·.1) || (backToKw pos (keywordEach kws X.env)).any (·.1.isNone)) = false := by rfl) :
    PE X (.Call (.Name x p) [] kws pos) (tCallN 0 ks.length sp gV E0 tNil tk) := by
  obtain ⟨f, fd, g, F, hm, hk, hb⟩ := C
  refine ⟨fun pins s σ H Q I h => wpAny_Call_Name_kw (ld_glob I hg hm ?_ hdb)⟩
  refine PySem.W.callWith_KW0 (h₀ := X.base) I.ok.mod.kin hk hall (thn (hkw.run pos pins s σ H _ I h) fun ws s2 hw => ?_) hpl
  obtain ⟨zs, H2, I2, rz, l1, l2, q2⟩ := hw
  refine ⟨I2.kIn, ?_⟩
  rw [hks]
  exact run_fnN (us := []) (vs := []) F hr hb pass0 I2 .nil rz rfl l2 q2
/-- a constant of the module -/
def Cst (mg : Str → Option Value) (x : Str) (v : V) : Prop := ∃ u, mg x = some u ∧ RelV v u
theorem pe_cst {v : V} (h : Cst X.mg x v) (hg : Gl X x := by rfl) (hd : (x == ("__debug__" : Str)) = false := by decide) : PE X (.Name x pos) (tC v) := by
  obtain ⟨u, hm, r⟩ := h
  exact pe_glob hg hm r hd
end
theorem pe_ty {X : Cx} {x : Str} {pos : Pos} (n : String) (hm : X.mg x = none) (hg : Gl X x := by rfl) (hv : bootBuiltins x = some (.type n) := by decide +kernel)
    (hn : x ≠ "__name__" := by decide) (hd : (x == ("__debug__" : Str)) = false := by decide) : PE X (.Name x pos) (tC (.ty n)) := pe_bltn hg hm hv rfl hn hd
/-! heaps -/
/-- all that was tracked is as it was, but for the object at b -/
def But (b : Addr) (H H' : Hp) : Prop := ∀ a o, H a = some o → a ≠ b → H' a = some o
theorem But.refl (b : Addr) (H : Hp) : But b H H := fun _ _ h _ => h
theorem But.trans {b : Addr} {H H1 H2 : Hp} (p : But b H H1) (q : But b H1 H2) : But b H H2 := fun a o h n => q a o (p a o h n) n
theorem But.of_same {b : Addr} {H H' : Hp} (p : Same H H') : But b H H' := fun a o h _ => p a o h
theorem But.free {b : Addr} {H H' : Hp} (e : But b H H') {l : Addr} (h : H' l = none) (n : l ≠ b) : H l = none := by
  cases q : H l with
  | none => rfl
  | some o =>
    rw [e l o q n] at h
    cases h
theorem But.seq {K : PySem.W.Frag} {b : Addr} {H H' : Hp} {a : Addr} {xs : List V} (e : But b H H') (n : a ≠ b) (h : SqL K H a xs) : SqL K H' a xs :=
  h.imp_left (Or.imp (fun z => e _ _ z n) fun ⟨o, z⟩ => ⟨o, e _ _ z n⟩)
theorem same_new {H : Hp} {p : Addr} {o : HO} (h : H p = none) : Same H (upd H p o) := fun b x e => by
  rw [upd_ne (ne_of_none e h)]
  exact e
theorem but_upd {H : Hp} {b : Addr} {o : HO} : But b H (upd H b o) := fun a x e n => by
  rw [upd_ne n]
  exact e
theorem But.same_on {b : Addr} {H H1 H2 : Hp} (p : But b H H1) (hb : H b = none) : Same H H1 := fun a o h => p a o h (ne_of_none h hb)
/-- the box: what is left of a great number, a number below 2 ^ 62, a count of at most n -/
def Box (H : Hp) (b : Addr) (n : Int) : Prop := ∃ x y z : Int, H b = some (.lst [.int x, .int y, .int z]) ∧ 0 ≤ x ∧ 0 ≤ y ∧ y < 2 ^ 62 ∧ 0 ≤ z ∧ z ≤ n
theorem Box.keep {H H' : Hp} {b c : Addr} {n : Int} (h : Box H b n) (k : But c H H') (e : b ≠ c) : Box H' b n := by
  obtain ⟨x, y, z, h1, h2⟩ := h
  exact ⟨x, y, z, k _ _ h1 e, h2⟩
theorem Box.same {H H' : Hp} {b : Addr} {n : Int} (h : Box H b n) (k : Same H H') : Box H' b n := by
  obtain ⟨x, y, z, h1, h2⟩ := h
  exact ⟨x, y, z, k _ _ h1, h2⟩
theorem Box.le {H : Hp} {b : Addr} {n m : Int} (h : Box H b n) (k : n ≤ m) : Box H b m := by
  obtain ⟨x, y, z, h1, h2, h3, h4, h5, h6⟩ := h
  exact ⟨x, y, z, h1, h2, h3, h4, h5, by omega⟩
theorem Box.ne {H : Hp} {b p : Addr} {n : Int} (h : Box H b n) (k : H p = none) : b ≠ p := by
  obtain ⟨x, y, z, h1, h2⟩ := h
  exact ne_of_none h1 k
/-- take(box, many) -/
def spTake : Sp := fun vs H Q _ => ∃ (b : Addr) (m n : Int), vs = [.ref b, .int m] ∧ 0 < m ∧ m < 1073741824 ∧ Box H b n ∧ n ≤ 1000000000000 ∧
  ∀ (r : Int) (H' : Hp), 0 ≤ r → r < m → But b H H' → Box H' b (n + 1) → Q (.int r) H'
/-- dip(script, k) -/
def spDip (K : PySem.W.Frag) : Sp := fun vs H Q _ => ∃ (a : Addr) (ns : List Int) (k : Int), vs = [.ref a, .int k] ∧ SqL K H a (ns.map V.int) ∧ 0 ≤ k ∧ k ≤ 1000000 ∧
  ∀ (b : Addr) (H' : Hp), H b = none → Same H H' → Box H' b 0 → Q (.ref b) H'
/-- folded(script, size) -/
def spFold (K : PySem.W.Frag) : Sp := fun vs H Q _ => ∃ (a : Addr) (ns : List Int) (k : Int), vs = [.ref a, .int k] ∧ SqL K H a (ns.map V.int) ∧ ns.length ≤ 63 ∧ 0 < k ∧ k ≤ 63 ∧
  ∀ (p : Addr) (ms : List Int) (H' : Hp), H p = none → Same H H' → H' p = some (.lst (ms.map V.int)) → ms.length ≤ 63 → (ms.length : Int) ≤ k → Q (.ref p) H'
theorem sz (n : Nat) (h : n ≤ 1000 := by decide) : n ≤ sizeLine := Nat.le_of_lt (small1000 h)
theorem one01 (b : Bool) : -(2 ^ 64) < (if b then (1 : Int) else 0) ∧ (if b then (1 : Int) else 0) < 2 ^ 64 := by
  cases b <;> exact ⟨by decide, by decide⟩
theorem abs_times (c : Int) (b : Bool) : 0 ≤ (if c < 0 then -c else c) * (if b then (1 : Int) else 0) := by
  have a0 : (0 : Int) ≤ if c < 0 then -c else c := by split <;> omega
  cases b
  · show 0 ≤ (if c < 0 then -c else c) * 0
    rw [Int.mul_zero]
    exact Int.le_refl 0
  · show 0 ≤ (if c < 0 then -c else c) * 1
    rw [Int.mul_one]
    exact a0
theorem atI_pos {α : Type} {xs : List α} {k : Int} (h0 : 0 ≤ k) (h1 : k.toNat < xs.length) : atI xs k = some xs[k.toNat] := by
  have e : k = (k.toNat : Int) := by omega
  have h := atI_nat (xs := xs) (j := k.toNat) (List.getElem?_eq_getElem h1)
  rw [← e] at h
  exact h
theorem atI_int {ns : List Int} {k : Int} (h0 : 0 ≤ k) (h1 : k.toNat < ns.length) : atI (ns.map V.int) k = some (.int ns[k.toNat]) := by
  have h2 : k.toNat < (ns.map V.int).length := by rw [List.length_map]; exact h1
  rw [atI_pos h0 h2, List.getElem_map]
theorem ixN_pos {n : Nat} {k : Int} (h0 : 0 ≤ k) (h1 : k < n) : ixN n k = some k.toNat := by
  unfold ixN
  rw [if_pos h0, if_pos h1]
theorem cut_ints (ns : List Int) (lo hi : Option Int) : ∃ ms : List Int, cutV (ns.map V.int) lo hi = ms.map V.int := by
  unfold cutV
  refine ⟨(ns.drop (HT.sIx (ns.map V.int).length 0 lo)).take (HT.sIx (ns.map V.int).length (ns.map V.int).length hi - HT.sIx (ns.map V.int).length 0 lo), ?_⟩
  rw [List.map_take, List.map_drop]
theorem sIx_some (n d : Nat) (k : Int) (h : 0 ≤ k) : HT.sIx n d (some k) = min k.toNat n := by
  have e : k = (k.toNat : Int) := by omega
  rw [e]
  exact HT.sIx_nat n d k.toNat
theorem cut_len (ns : List Int) (lo hi : Option Int) : (cutV (ns.map V.int) lo hi).length = min (HT.sIx ns.length ns.length hi - HT.sIx ns.length 0 lo) (ns.length - HT.sIx ns.length 0 lo) := by
  unfold cutV
  rw [List.length_take, List.length_drop, List.length_map]
theorem cut_le {ns ms : List Int} {lo hi : Option Int} (e : cutV (ns.map V.int) lo hi = ms.map V.int) : ms.length ≤ ns.length := by
  have h := congrArg List.length e
  rw [cut_len, List.length_map] at h
  omega
theorem cut_head {ns head : List Int} {k : Int} (hk : 0 < k) (e : cutV (ns.map V.int) none (some k) = head.map V.int) : head.length = min k.toNat ns.length := by
  have h := congrArg List.length e
  rw [cut_len, List.length_map, sIx_some _ _ _ (by omega), HT.sIx_none] at h
  omega
theorem cut_rest {ns head rest : List Int} {k : Int} (hk : 0 < k) (hh : head.length = min k.toNat ns.length) (e : cutV (ns.map V.int) (some k) (some 63) = rest.map V.int) : rest ≠ [] → k = (head.length : Int) := by
  intro hn
  have h := congrArg List.length e
  rw [cut_len, List.length_map, sIx_some _ 0 k (by omega), sIx_some _ ns.length 63 (by decide)] at h
  have hp : 0 < rest.length := List.length_pos_iff.mpr hn
  omega
/-! isinstance -/
theorem kit1 {K : PySem.W.Frag} {t a : String} {r : Bool} (h : kitB t a = some r) : PySem.W.kitOne K (.type t) (.type a) = some r := kit_ty h
theorem kit2 {K : PySem.W.Frag} {t a b : String} {r1 r2 : Bool} (h1 : kitB t a = some r1) (h2 : kitB t b = some r2) :
    PySem.W.kitAny K (.type t) [.type a, .type b] = some (r1 || r2) := by
  refine kitAny_cons (kit_ty h1) (fun e => ?_) (fun e => ?_)
  · rw [e]
    refine kitAny_cons (kit_ty h2) (fun e2 => ?_) (fun e2 => ?_)
    · rw [e2]
      exact kitAny_nil
    · rw [e2]
      rfl
  · rw [e]
    rfl
theorem tyL {K : PySem.W.Frag} {H : Hp} {a : Addr} {xs : List V} (h : SqL K H a xs) : TyX K H (.ref a) (.type "list") := by
  rcases h with (h | ⟨o, h⟩) | ⟨o, its, n, e, c, _⟩
  · exact .base (.lst h)
  · exact .base (.frz h)
  · exact .kList e c
theorem tyT {K : PySem.W.Frag} {H : Hp} {a : Addr} {xs : List V} (h : SqT K H a xs) : TyX K H (.ref a) (.type "tuple") := by
  rcases h with (h | ⟨o, h⟩) | ⟨o, its, n, e, c, _⟩
  · exact .base (.tup h)
  · exact .fTuple h
  · exact .kTuple e c
theorem iteDF {c A B : Prop} [Decidable c] (hc : ¬ c) (h : B) : if (decide c) = true then A else B := by
  rw [decide_eq_false hc]
  exact iteF h
theorem iteDT {c A B : Prop} [Decidable c] (hc : c) (h : A) : if (decide c) = true then A else B := by
  rw [decide_eq_true hc]
  exact iteT h
theorem same_tup {K : PySem.W.Frag} {H H' : Hp} {a : Addr} {xs : List V} (e : Same H H') (h : SqT K H a xs) : SqT K H' a xs :=
  h.imp_left (Or.imp (e _ _) fun ⟨o, z⟩ => ⟨o, e _ _ z⟩)
/-- scalars -/
def Sc : V → Prop
  | .non | .bl _ | .int _ | .str _ => True
  | _ => False
/-- the same thing twice, of at most so many layers -/
def Sm (K : PySem.W.Frag) (H : Hp) : Nat → V → V → Prop
  | 0, _, _ => False
  | n + 1, x, y => (x = y ∧ Sc x) ∨ ∃ (a b : Addr) (xs ys : List V), x = .ref a ∧ y = .ref b ∧ xs.length = ys.length ∧ xs.length < sizeLine ∧
      ((SqL K H a xs ∧ SqL K H b ys) ∨ (SqT K H a xs ∧ SqT K H b ys)) ∧ ∀ (i : Nat) (u v : V), xs[i]? = some u → ys[i]? = some v → Sm K H n u v
theorem Sm.same {K : PySem.W.Frag} {H H' : Hp} (e : Same H H') : ∀ {n : Nat} {x y : V}, Sm K H n x y → Sm K H' n x y
  | 0, _, _, h => h.elim
  | n + 1, x, y, h => by
    rcases h with h | ⟨a, b, xs, ys, h1, h2, h3, h4, h5, h6⟩
    · exact .inl h
    · refine .inr ⟨a, b, xs, ys, h1, h2, h3, h4, ?_, fun i u v hu hv => (h6 i u v hu hv).same e⟩
      rcases h5 with ⟨p, q⟩ | ⟨p, q⟩
      · exact .inl ⟨L2.Same.seq e p, L2.Same.seq e q⟩
      · exact .inr ⟨same_tup e p, same_tup e q⟩
/-- same(found, due) of what is the same -/
def spSame (K : PySem.W.Frag) (n : Nat) : Sp := fun vs H Q _ => ∃ x y : V, vs = [x, y] ∧ Sm K H n x y ∧ ∀ H', Same H H' → Q (.bl true) H'
theorem all_true {n : Nat} : ((List.replicate n true).all id) = true := by
  induction n with
  | zero => rfl
  | succ n ih =>
    rw [List.replicate_succ, List.all_cons, ih]
    rfl
theorem walk_zipT {K : PySem.W.Frag} {a b : Addr} {xs ys : List V} {n : Nat} (hn : n = min xs.length ys.length) :
    L2.Walk (RZ.ItzT K a b) n (fun H => SqT K H a xs ∧ SqT K H b ys) (YPair (fun i => xs[i]?) (fun i => ys[i]?)) := by
  subst hn
  have at_ : ∀ {zs : List V} {i : Nat}, i < min xs.length ys.length → (i < zs.length) → zs[i]? = some (zs.getD i .non) := fun {zs i} _ l => by
    rw [List.getD_eq_getElem?_getD, List.getElem?_eq_getElem l]
    rfl
  refine ⟨fun i H hi ⟨p, q⟩ => ⟨xs, ys, _, _, p, q, at_ hi (by omega), at_ hi (by omega)⟩, fun H ⟨p, q⟩ => ⟨xs, ys, p, q, by omega⟩, fun i H v H' _ ⟨p, q⟩ y => ?_⟩
  obtain ⟨U, x, z, h1, h2, h3, hx, hy⟩ := y
  exact ⟨U, x, z, h1, h2, h3, hx xs p, hy ys q⟩
theorem sm_int {K : PySem.W.Frag} {H : Hp} {n : Nat} (i : Int) : Sm K H (n + 1) (.int i) (.int i) := .inl ⟨rfl, trivial⟩
theorem sm_items {K : PySem.W.Frag} {H : Hp} {ns : List Int} (i : Nat) (u v : V) (hu : (ns.map V.int)[i]? = some u) (hv : (ns.map V.int)[i]? = some v) : Sm K H 1 u v := by
  rw [hu] at hv
  cases hv
  rw [List.getElem?_map] at hu
  cases e : ns[i]? with
  | none =>
    rw [e] at hu
    cases hu
  | some k =>
    rw [e] at hu
    cases hu
    exact sm_int k
theorem sm_ints {K : PySem.W.Frag} {H : Hp} {a b : Addr} {ns : List Int} (h1 : SqL K H a (ns.map V.int)) (h2 : SqL K H b (ns.map V.int)) (hl : ns.length ≤ 1000) : Sm K H 2 (.ref a) (.ref b) :=
  .inr ⟨a, b, _, _, rfl, rfl, rfl, by rw [List.length_map]; exact small1000 hl, .inl ⟨h1, h2⟩, sm_items⟩
theorem sm_intsT {K : PySem.W.Frag} {H : Hp} {a b : Addr} {ns : List Int} (h1 : SqT K H a (ns.map V.int)) (h2 : SqT K H b (ns.map V.int)) (hl : ns.length ≤ 1000) : Sm K H 2 (.ref a) (.ref b) :=
  .inr ⟨a, b, _, _, rfl, rfl, rfl, by rw [List.length_map]; exact small1000 hl, .inr ⟨h1, h2⟩, sm_items⟩
/-- a def without defaults, called with keywords -/
theorem kbn_of {K : PySem.W.Frag} {x qual : Str} {params : Arguments} {body : List Stmt} {scope : Scope} {f : Addr} {fd : FuncData} {ps ks : List Str} {n : Nat} {kws : List (Str × V)}
    (F : FunD K x qual params body scope [] kws f fd) (g : List Value → List Value → List Value) (gV : List V → List V → List V)
    (hrel : ∀ {vs : List V} {us : List Value} {zs : List V} {ws : List Value}, Vals vs us → Vals zs ws → Vals (gV vs zs) (g us ws))
    (h : ∀ (kV doc pm : Value) (an : Option Addr) (cdv ct : Value) (us ws : List Value), us.length = n → ws.length = ks.length →
      bindArgs (PySem.W.fnOf x qual params body scope .none kV doc pm an cdv ct) ⟨us, ks.zip ws⟩ = pure (ps.zip (g us ws))) : KBn K fd ps n ks g gV := by
  have ⟨_, _, dV, kV, doc, pm, an, cdv, ct, _, same, _, _, dfl, _⟩ := F.ex
  have none_ : dV = .none := dfl.elim (fun z => z.2) fun z => absurd rfl z.1
  refine ⟨fun _ us ws _ n1 n2 => ?_, hrel⟩
  rw [same, none_]
  exact .of_eq (h kV doc pm an cdv ct us ws n1 n2)
/-- a new object: the heap gets a name -/
@[elab_as_elim] theorem new_at {motive : Hp → Prop} {H : Hp} {p : Addr} {o : HO} (np : H p = none) (k : ∀ H' : Hp, Same H H' → H' p = some o → motive H') : motive (upd H p o) := k _ (same_new np) upd_same
/-- the built-ins are still so -/
structure Bl (mg : Str → Option Value) : Prop where
  b_len : mg "len" = none
  b_abs : mg "abs" = none
  b_int : mg "int" = none
  b_list : mg "list" = none
  b_tuple : mg "tuple" = none
  b_str : mg "str" = none
  b_bool : mg "bool" = none
  b_set : mg "set" = none
  b_range : mg "range" = none
  b_enumerate : mg "enumerate" = none
  b_zip : mg "zip" = none
  b_isinstance : mg "isinstance" = none
  b_all : mg "all" = none
  b_any : mg "any" = none
  b_sum : mg "sum" = none
  b_min : mg "min" = none
  b_max : mg "max" = none
  b_sorted : mg "sorted" = none
abbrev FnP (K : PySem.W.Frag) (x : Str) (st : Stmt) (f : Addr) (fd : FuncData) : Prop := FunD K x x (defArgs st) (defBody st) (defScope st) [] [] f fd
end Lt

set_option Elab.async false
set_option linter.all false
set_option maxRecDepth 100000
set_option maxHeartbeats 4000000
/-! set(xs) of a list, whatever is in it: the new set, filled by the loop -/
namespace Lt
open PySem PySem.Spec PyProof.Rows L2
/-- a set as it is new -/
abbrev freshSet (w : World) : Obj := { cls := .type "set", dict := none, data := .set #[] 0 (.fresh 0 0 (!w.params.followText "set-order")) }
/-- set(x): a new set, then its __init__ with x -/
theorem set_called {P : Program} {w : World} {A : Around} {E : Value → Shared → Prop} {s : Shared} {x : Value} {Q : Value → Shared → Prop}
    (k : codeAny (model P w) A.in1 (.call (.builtin "set.__init__") ⟨[.ref s.heap.objs.size, x], []⟩) (wants (fun r t => r = .none ∧ Q (.ref s.heap.objs.size) t) E) { s with heap := s.heap.push (freshSet w) }) :
    wpAny (model P w) A (call (.type "set") [x]) Q E s := by
  have ⟨notType, canCreate, ⟨_, _, mro⟩, made, _, sub, init⟩ := F.called_set
  have chk := F.typeCall_set_1 x
  have typ : Shared.TypeIs { s with heap := s.heap.push (freshSet w) } (.ref s.heap.objs.size) "set" := ⟨_, Heap.get?_push_size _ rfl, rfl⟩
  have looked := init.lookup
  have bound := init.bind (.ref s.heap.objs.size)
  have front : wpAny (model P w) A.in1 (callAny (.type "set") ⟨[x], []⟩) (fun c t => ∃ d, c = .again d ∧ t = s ∧ d = .builtin "type.__call__" ⟨[.type "set", x], []⟩) E s := wpAny_pure ⟨_, rfl, rfl, rfl⟩
  apply wpAny_call
  apply codeAny_of_tree
  refine wpAny_mono front ?_ fun _ _ z => z
  rintro _ _ ⟨_, rfl, rfl, rfl⟩
  refine ⟨Code.quiet_builtin _ (by decide +kernel), ?_⟩
  apply codeAny_builtin F.entry_type_call
  rw [Around.under_plain (weight_type_call_type "set" [x] []) (by rfl)]
  repeat any_goals first
    | assumption
    | wp_step
  refine codeAny_mono (code_set_led1 x (E := E) (Q₁ := fun v t => v = .ref _ ∧ t = { heap := _, gens := _, drawn := _, toks := _, os := _ }) ⟨rfl, rfl⟩) ?_
  intro r t z
  match r, z with
  | .error _, z => exact z
  | .ok .next, z | .ok .brk, z | .ok .cont, z => exact z.elim
  | .ok (.ret _), ⟨e1, e2⟩ =>
    subst e1 e2
    repeat any_goals first
      | assumption
      | wp_step
    refine codeAny_mono k ?_
    intro r2 t2 z2
    match r2, z2 with
    | .error _, z => exact z
    | .ok .next, z | .ok .brk, z | .ok .cont, z => exact z.elim
    | .ok (.ret _), ⟨e, q⟩ =>
      subst e
      repeat any_goals first
        | assumption
        | wp_step
/-- the loop over a list's iterator: what it does to the set at S, from a new one on -/
def Fills (P : Program) (w : World) (items : Array Value) (S : Addr) (Good : Heap → Prop) : Prop :=
  ∀ (A : Around) (I l : Addr) (St : Nat → Shared → Prop) (s : Shared) (R : Result → Shared → Prop), WalksS P w A.in1 I [I, l] [I] (fun a b => b = a) items.size (fun i v => items[i]? = some v) St →
    S ≠ I → S ≠ l → St 0 s → s.heap.get? S = some (freshSet w) → (∀ s', Moved [S, I] (fun a b => b = a) s s' → Good s'.heap → R (.ok (.ret .none)) s') →
      codeAny (model P w) A (.builtin "set.update.loop" ⟨[.ref S, .ref I], []⟩) R s
theorem set_made {P : Program} {w : World} {A : Around} {E : Value → Shared → Prop} {s : Shared} {l : Addr} {items : Array Value} {Good : Heap → Prop} {Q : Value → Shared → Prop} (hh : A.handled = none) (hl : s.heap.IsList l items)
    (fill : Fills P w items s.heap.objs.size Good)
    (k : ∀ (h2 : Heap) (tk : Nat), Good h2 → (∀ b o, s.heap.get? b = some o → h2.get? b = some o) → Q (.ref s.heap.objs.size) { s with heap := h2, toks := tk }) :
    wpAny (model P w) A (call (.type "set") [.ref l]) Q E s := by
  have new := Heap.get?_push_size s.heap (o := freshSet w) rfl
  apply set_called
  apply codeAny_call_builtin F.called_set.init.plain F.entry_set_init
  refine check_set_init_1 ⟨_, new, rfl⟩ ?_
  have hl1 : (s.heap.push (freshSet w)).IsList l items := hl.push _
  have below : l < s.heap.objs.size := by
    obtain ⟨_, e, _⟩ := hl
    exact Heap.lt_size e
  obtain ⟨⟨cls, dct, dat, slt⟩, at1, c1, n1, d1⟩ := hl1
  dsimp only at c1 d1
  cases c1
  cases d1
  have hl2 : (s.heap.push (freshSet w)).IsList l items := ⟨_, at1, rfl, n1, rfl⟩
  have notSet := F.sub_list_set
  have notFrozen := F.sub_list_frozenset
  have notDict : (Value.type "list" == Value.type "dict") = false := by decide
  rw [Builtin.«set.__init__», noKeywords]
  unfold Builtin.Frozenset.updateFrom
  generalize it : pyIter = f
  wp_walk
  subst it
  apply wpAny_pyIter_list hl2
  apply wpAny_bind
  apply wpAny_runValue
  have far : s.heap.objs.size ≠ (s.heap.push (freshSet w)).objs.size := by rw [Heap.size_push]; exact Nat.ne_of_lt (Nat.lt_succ_self _)
  have far2 : l ≠ (s.heap.push (freshSet w)).objs.size := by rw [Heap.size_push]; exact Nat.ne_of_lt (Nat.lt_succ_of_lt below)
  refine fill _ _ l _ _ _ (Walks.list (by simp [hh]) _ l far2 items).toS far (Nat.ne_of_gt below) ⟨⟨_, Heap.get?_push_size _ rfl, rfl, rfl⟩, hl2.push _⟩ (Heap.get?_push_of_some _ new) ?_
  rintro ⟨h2, g2, d2, t2, o2⟩ ⟨keep, eg, ed, eo, _⟩ good
  dsimp only at eg ed eo
  subst eg ed eo
  have grew : ∀ b o, s.heap.get? b = some o → h2.get? b = some o := fun b o e => by
    have lt := Heap.lt_size e
    refine keep b o ?_ (Heap.get?_push_of_some _ (Heap.get?_push_of_some _ e))
    rw [Heap.size_push, List.mem_cons, List.mem_singleton]
    rintro (z | z)
    · exact Nat.ne_of_lt lt z
    · exact Nat.ne_of_lt (Nat.lt_succ_of_lt lt) z
  have end_ := k h2 t2 good grew
  wp_walk
  exact ⟨rfl, end_⟩
end Lt

set_option Elab.async false
set_option linter.all false
set_option maxRecDepth 100000
set_option maxHeartbeats 4000000
/-! set(xs) of a list of ints, as a set that is tracked -/
namespace Lt
open PySem PySem.Spec PyProof.Rows L2
theorem fills_ints {P : Program} {w : World} {items : Array Value} {S : Addr} {ns : List Int} (hit : IntsAre items.toList ns) (few : ns.length + 1 < scanBound) :
    Fills P w items S fun h => ∃ c, c ≤ ns.length ∧ SetR w h S (fun j => decide (j ∈ ns)) c := by
  have size_ : items.size = ns.length := Array.length_toList (xs := items) ▸ hit.length
  intro A I l St s R W nI nl st new k
  have each : ∀ (i : Nat) (v : Value), items[i]? = some v → ∃ (z : Int) (t : Tok), ns[i]? = some z ∧ v = Value.int z t := by
    intro i v e
    have lt : i < ns.length := size_ ▸ (Array.getElem?_eq_some_iff.mp e).1
    obtain ⟨t, is⟩ := IntsAre.int_at hit i v (Array.getElem?_toList.trans e)
    have at_ := List.getElem?_eq_getElem lt
    exact ⟨ns[i], t, at_, by rw [is, List.getD_eq_getElem?_getD, at_]; rfl⟩
  have out : S ∉ [I, l] := by
    rw [List.mem_cons, List.mem_singleton]
    exact fun z => z.elim nI nl
  exact set_update_ints W S out ns size_ few each _ 0 s rfl (Nat.zero_le _) st ⟨0, Nat.le_refl _, setR_new_at new⟩ fun s' c mv le R' => k s' mv ⟨c, size_ ▸ le, R'⟩
/-- set(xs), ints -/
def rSetI (w : World) (K : PySem.W.Frag) : List V → Hp → VK → Prop := fun xs H Q => ∃ (a : Addr) (ns : List Int), xs = [.ref a] ∧ SqL K H a (ns.map V.int) ∧ ns.length ≤ 1000 ∧
  ∀ (p : Addr) (c : Nat), H p = none → c ≤ ns.length → Q (.ref p) (upd H p (SetO w p (fun j => decide (j ∈ ns)) c))
theorem cr_setI {X : Cx} (hc : X.calm = true) : CallR X (.type "set") (rSetI X.w X.K) := by
  rintro pins s σ H _ us Q I r ⟨a, ns, rfl, hs, hn, q⟩
  have ⟨its, rv, hl, _⟩ := I.list hs
  rw [Vals.ref1 r]
  refine set_made (I.ok.hd hc) hl.isList (fills_ints (ns := ns) (by simpa using rv.ints) (by unfold scanBound; omega)) fun h2 tk good grew => ?_
  obtain ⟨c, le, R⟩ := good
  exact ⟨.ref _, _, I.laid (t' := tk) grew (Nat.le_refl _) (setO_new R), rfl, q _ c (I.hok.fresh (Nat.le_refl _)) le⟩
end Lt

set_option Elab.async false
set_option linter.all false
set_option maxRecDepth 100000
set_option maxHeartbeats 4000000
namespace K06
open PySem PySem.Spec PyProof.Rows L2 Lt
def topS (i : Nat) : Stmt := PySem.Challenge.pw_lettolls_k06_parts_by_days.main.body.getD i (.Pass ⟨0, 0, 0, 0⟩)
section
variable {P : Program} {w : World} {K : PySem.W.Frag} {mg : Str → Option Value} {base : Heap} {f : Addr} {fd : FuncData}
abbrev st__law_dip : Stmt := topS 3
theorem sc__law_dip : FnScope ["_law_script", "_law_k", "_law_cell"] ["_law_script", "_law_k"] (defScope st__law_dip) := ⟨rfl, rfl, rfl, by decide +kernel, rfl, by decide +kernel, by decide +kernel⟩
theorem ok_dip (F : FnP K "_law_dip" st__law_dip f fd) (T : Bl mg) : FnOk P w K mg base CX0 1 f fd ["_law_script", "_law_k"] (spDip K) := by
  refine F.ok sc__law_dip (fun vs H Q E h => ?_) (fun cdv A outer s H vs Q E hr h => ?_)
  · obtain ⟨a, ns, k, rfl, _⟩ := h
    rfl
  · obtain ⟨a, ns, k, rfl, hS, hk0, hk1, q⟩ := h
    refine ⟨_, PSs.nox (pss_cons (ps_set (i := 2) sc__law_dip.nd rfl (.inl rfl) (pe_ifExp (pt_cmpR op_lt (pv 1) (pe_callB call_len_seq (by rfl) T.b_len (by decide +kernel) (pa_cons (pv 0) pa_nil)) (nomark _)) (pe_ix ix_list (pv 0) (pv 1) (fun _ _ => rfl)) pe_int))
      (pss_one (ps_ret (pe_lst (pa_cons (pe_op op_mul (pe_callB call_abs (by rfl) T.b_abs (by decide +kernel) (pa_cons (pv 2) pa_nil)) (pe_callTy call_int1 (by rfl) T.b_int (by decide +kernel) (pa_cons (pe_cmpR op_ge (pe_callB call_abs (by rfl) T.b_abs (by decide +kernel) (pa_cons (pv 2) pa_nil)) (pe_op op_pow pe_int pe_int) (nomark _)) pa_nil))) (pa_cons (pe_op op_add (pe_op op_add (pe_op op_mod (pv 2) pe_int) (pe_op op_mul pe_int (pv 1))) pe_int) (pa_cons pe_int pa_nil))))))), ?_⟩
    have fin : ∀ c : Int, (tRet (tLst (tCons (tOp (rI CMul fun i j => .int (i * j)) (tCB (fun xs H Q => ∃ i, xs = [.int i] ∧ Q (.int (if i < 0 then -i else i)) H) (tCons (tVar 2) tNil)) (tCB (fun xs H Q => (∃ i, xs = [V.int i] ∧ Q (.int i) H) ∨ ∃ k, xs = [.bl k] ∧ Q (.int (if k then 1 else 0)) H) (tCons (tOp (rI0 fun i j => .bl (decide (j ≤ i))) (tCB (fun xs H Q => ∃ i, xs = [.int i] ∧ Q (.int (if i < 0 then -i else i)) H) (tCons (tVar 2) tNil)) (tOp (rI CPow fun i j => .int (i ^ j.toNat)) (tC (.int 10)) (tC (.int 18)))) tNil))) (tCons (tOp (rI0 fun i j => .int (i + j)) (tOp (rI0 fun i j => .int (i + j)) (tOp (rI (fun _ j => 0 < j) fun i j => .int (i % j)) (tVar 2) (tC (.int 2305843009213693951))) (tOp (rI CMul fun i j => .int (i * j)) (tC (.int 39373)) (tVar 1))) (tC (.int 17))) (tCons (tC (.int 0)) tNil))))) { nx := fun _ H' => Q .non H', rt := Q } [some (.ref a), some (.int k), some (.int c)] H := by
      intro c
      refine ⟨.int c, rfl, c, rfl, .int c, rfl, c, rfl, 10, 18, rfl, rfl, ⟨by decide, by decide, by decide⟩, _, _, rfl, rfl, .inr ⟨_, rfl, _, _, rfl, rfl, .inr ?_, ?_⟩⟩
      · exact one01 _
      · refine ⟨.int c, rfl, c, 2305843009213693951, rfl, rfl, (by show (0 : Int) < 2305843009213693951; decide), .int k, rfl, 39373, k, rfl, rfl, .inl ⟨by decide, by decide⟩, _, _, rfl, rfl, _, 17, rfl, rfl, sz 3, fun p hp => ?_⟩
        have m0 : 0 ≤ c % 2305843009213693951 := Int.emod_nonneg _ (by decide)
        have m1 : c % 2305843009213693951 < 2305843009213693951 := Int.emod_lt_of_pos _ (by decide)
        exact q p _ hp (same_new hp) ⟨_, _, _, upd_same, abs_times c _, by omega, by omega, by decide, by decide⟩
    refine ⟨.int k, rfl, .ref a, rfl, a, _, rfl, .inl hS, _, _, rfl, rfl, _, rfl, ite2 (fun e => ?_) (fun e => ?_)⟩
    · have e0 : k < ((ns.map V.int).length : Int) := of_decide_eq_true e
      rw [List.length_map] at e0
      have hi : k.toNat < ns.length := by omega
      exact ⟨.ref a, rfl, .int k, rfl, a, _, k, .int ns[k.toNat], rfl, rfl, hS, atI_int hk0 hi, fin ns[k.toNat]⟩
    · exact fin 0
abbrev st__law_take : Stmt := topS 4
theorem sc__law_take : FnScope ["_law_box", "_law_many", "_law_found", "_law_once", "_law_twice"] ["_law_box", "_law_many"] (defScope st__law_take) := ⟨rfl, rfl, rfl, by decide +kernel, rfl, by decide +kernel, by decide +kernel⟩
theorem ok_take (F : FnP K "_law_take" st__law_take f fd) : FnOk P w K mg base CX0 1 f fd ["_law_box", "_law_many"] spTake := by
  refine F.ok sc__law_take (fun vs H Q E h => ?_) (fun cdv A outer s H vs Q E hr h => ?_)
  · obtain ⟨b, m, n, rfl, _⟩ := h
    rfl
  · obtain ⟨b, m, n, rfl, hm0, hm1, ⟨x, y, z, hb, x0, y0, y1, z0, z1⟩, hn, q⟩ := h
    refine ⟨_, PSs.nox (pss_cons (ps_if (pt_cmpR op_gt (pe_ix ix_list (pv 0) pe_int (fun _ _ => rfl)) pe_int (nomark _))
        (pss_cons (ps_set (i := 2) sc__law_take.nd rfl (.inl rfl) (pe_op op_mod (pe_ix ix_list (pv 0) pe_int (fun _ _ => rfl)) (pv 1)))
        (pss_cons (ps_asg (pe_op op_fdiv (pe_ix ix_list (pv 0) pe_int (fun _ _ => rfl)) (pv 1)) (pg_sub (pv 0) pe_int set_list))
        (pss_one (ps_ret (pv 2)))))
        pss_nil)
      (pss_cons (ps_asg (pe_op op_add (pe_ix ix_list (pv 0) pe_int (fun _ _ => rfl)) pe_int) (pg_sub (pv 0) pe_int set_list))
      (pss_cons (ps_set (i := 3) sc__law_take.nd rfl (.inl rfl) (pe_op op_mod (pe_op op_pow (pe_op op_add (pe_ix ix_list (pv 0) pe_int (fun _ _ => rfl)) (pe_op op_mul pe_int (pe_ix ix_list (pv 0) pe_int (fun _ _ => rfl)))) pe_int) pe_int))
      (pss_cons (ps_set (i := 4) sc__law_take.nd rfl (.inl rfl) (pe_op op_mod (pe_op op_mul (pe_op op_add (pe_op op_add (pv 3) (pe_ix ix_list (pv 0) pe_int (fun _ _ => rfl))) (pe_op op_fdiv (pe_ix ix_list (pv 0) pe_int (fun _ _ => rfl)) pe_int)) (pe_op op_add (pe_op op_add (pe_op op_mod (pv 3) pe_int) pe_int) (pe_ix ix_list (pv 0) pe_int (fun _ _ => rfl)))) pe_int))
      (pss_one (ps_ret (pe_op op_mod (pe_op op_fdiv (pe_op op_mod (pe_op op_add (pe_op op_mul (pv 4) pe_int) (pv 3)) pe_int) pe_int) (pv 1)))))))), ?_⟩
    have hL : SqL K H b [.int x, .int y, .int z] := .inl (.inl hb)
    refine ⟨.ref b, rfl, b, _, 0, .int x, rfl, rfl, hL, rfl, x, 0, rfl, rfl, _, rfl, ite2 (fun e => ?_) (fun e => ?_)⟩
    · refine ⟨.ref b, rfl, b, _, 0, .int x, rfl, rfl, hL, rfl, .int m, rfl, x, m, rfl, rfl, hm0, ?_⟩
      refine ⟨.ref b, rfl, b, _, 0, .int x, rfl, rfl, hL, rfl, .int m, rfl, x, m, rfl, rfl, ⟨hm0, hm1⟩, .ref b, rfl, b, _, 0, 0, rfl, rfl, hb, rfl, ?_⟩
      exact ⟨.int (x % m), rfl, q _ _ (Int.emod_nonneg _ (by omega)) (Int.emod_lt_of_pos _ hm0) but_upd ⟨x / m, y, z, upd_same, Int.ediv_nonneg x0 (by omega), y0, y1, z0, by omega⟩⟩
    · refine ⟨.ref b, rfl, b, _, 2, .int z, rfl, rfl, hL, rfl, z, 1, rfl, rfl, .ref b, rfl, b, _, 2, 2, rfl, rfl, hb, rfl, ?_⟩
      have hL2 : SqL K (upd H b (.lst [.int x, .int y, .int (z + 1)])) b [.int x, .int y, .int (z + 1)] := .inl (.inl upd_same)
      refine ⟨.ref b, rfl, b, _, 1, .int y, rfl, rfl, hL2, rfl, .ref b, rfl, b, _, 2, .int (z + 1), rfl, rfl, hL2, rfl, 39373, z + 1, rfl, rfl, .inl ⟨by decide, by decide⟩, _, _, rfl, rfl, _, 5, rfl, rfl, ⟨by decide, by decide, ?_⟩, _, 2147483647, rfl, rfl, (by show (0 : Int) < 2147483647; decide), ?_⟩
      · omega
      · dsimp only
        generalize (y + 39373 * (z + 1)) ^ (5 : Int).toNat % 2147483647 = once
        refine ⟨.int once, rfl, .ref b, rfl, b, _, 2, .int (z + 1), rfl, rfl, hL2, rfl, once, z + 1, rfl, rfl, .ref b, rfl, b, _, 1, .int y, rfl, rfl, hL2, rfl, y, 1000003, rfl, rfl, ⟨by decide, by decide⟩, _, _, rfl, rfl, .int once, rfl, once, 40009, rfl, rfl, (by show (0 : Int) < 40009; decide), _, 7, rfl, rfl, .ref b, rfl, b, _, 2, .int (z + 1), rfl, rfl, hL2, rfl, _, z + 1, rfl, rfl, _, _, rfl, rfl, .inr ?_, _, 2147483629, rfl, rfl, (by show (0 : Int) < 2147483629; decide), ?_⟩
        · have m0 : 0 ≤ once % 40009 := Int.emod_nonneg _ (by decide)
          have m1 : once % 40009 < 40009 := Int.emod_lt_of_pos _ (by decide)
          exact ⟨by omega, by omega⟩
        · dsimp only
          generalize (once + (z + 1) + y / 1000003) * (once % 40009 + 7 + (z + 1)) % 2147483629 = twice
          refine ⟨.int twice, rfl, twice, 48271, rfl, rfl, .inr ⟨by decide, by decide⟩, .int once, rfl, _, once, rfl, rfl, _, 2147483587, rfl, rfl, (by show (0 : Int) < 2147483587; decide), _, 64, rfl, rfl, ⟨by decide, by decide⟩, .int m, rfl, _, m, rfl, rfl, hm0, ?_⟩
          exact q _ _ (Int.emod_nonneg _ (by omega)) (Int.emod_lt_of_pos _ hm0) but_upd ⟨x, y, z + 1, upd_same, x0, y0, y1, by omega, by omega⟩
abbrev st__law_folded : Stmt := topS 5
theorem sc__law_folded : FnScope ["_law_script", "_law_size", "_law_cells", "_law_k", "_law_cell"] ["_law_script", "_law_size"] (defScope st__law_folded) := ⟨rfl, rfl, rfl, by decide +kernel, rfl, by decide +kernel, by decide +kernel⟩
theorem ok_folded (F : FnP K "_law_folded" st__law_folded f fd) (T : Bl mg) : FnOk P w K mg base CX0 1 f fd ["_law_script", "_law_size"] (spFold K) := by
  refine F.ok sc__law_folded (fun vs H Q E h => ?_) (fun cdv A outer s H vs Q E hr h => ?_)
  · obtain ⟨a, ns, k, rfl, _⟩ := h
    rfl
  · obtain ⟨a, ns, k, rfl, hS, hn, hk0, hk1, q⟩ := h
    refine ⟨_, PSs.nox (pss_cons (ps_set (i := 2) sc__law_folded.nd rfl (.inl rfl) (pe_callTy call_list_of (by rfl) T.b_list (by decide +kernel) (pa_cons (pe_slice sl_list (pv 0) po_none (po_some (pv 1))) pa_nil)))
      (pss_cons (ps_for PassesOwn.never rfl (pi_enum (by rfl) T.b_enumerate (pa_cons (pe_slice sl_list (pv 0) (po_some (pv 1)) (po_some pe_int)) pa_nil)) (pg_tup rfl (pgs_cons (pg_name (i := 3) sc__law_folded.nd rfl (.inl rfl)) (pgs_cons (pg_name (i := 4) sc__law_folded.nd rfl (.inl rfl)) pgs_nil)))
        (pss_one (ps_asg (pe_op op_add (pe_ix ix_list (pv 2) (pe_op op_mod (pv 3) (pv 1)) (fun _ _ => rfl)) (pe_op op_mul (pv 4) (pe_op op_add (pv 3) pe_int))) (pg_sub (pv 2) (pe_op op_mod (pv 3) (pv 1)) set_list))))
      (pss_one (ps_ret (pv 2))))), ?_⟩
    refine ⟨.ref a, rfl, .int k, rfl, k, rfl, a, _, rfl, hS, fun p1 n1 => ?_⟩
    refine ⟨p1, _, rfl, .inl (.inl (.inl upd_same)), fun p n2 => ?_⟩
    have s1 := same_new (o := .lst (cutV (ns.map V.int) none (some k))) n1
    have s2 := s1.trans (same_new (o := .lst (cutV (ns.map V.int) none (some k))) n2)
    refine ⟨.ref a, rfl, .int k, rfl, k, rfl, 63, rfl, a, _, rfl, s2.seq hS, fun p3 n3 => ?_⟩
    have s3 := s2.trans (same_new (o := .lst (cutV (ns.map V.int) (some k) (some 63))) n3)
    have np : H p = none := s1.free n2
    have np3 : p ≠ p3 := fun e => by
      subst e
      rw [upd_same] at n3
      cases n3
    obtain ⟨rest, er⟩ : ∃ rest : List Int, cutV (ns.map V.int) (some k) (some 63) = rest.map V.int := cut_ints _ _ _
    obtain ⟨head, eh⟩ : ∃ head : List Int, cutV (ns.map V.int) none (some k) = head.map V.int := cut_ints _ _ _
    have hl := cut_head (ns := ns) hk0 eh
    have hr1 := cut_le er
    have hr0 := cut_rest (ns := ns) hk0 hl er
    rw [er] at s3 ⊢
    rw [eh] at s3 ⊢
    refine ⟨p3, rest.map V.int, rfl, .inl (.inl upd_same), for_it (walk_enum (K := K) (a := p3) (xs := rest.map V.int)) (fun i σ H' => ∃ (y3 y4 : Option V) (ms : List Int), σ = [some (.ref a), some (.int k), some (.ref p), y3, y4] ∧ ms.length = head.length ∧ H' p = some (.lst (ms.map V.int)) ∧ H' p3 = some (.lst (rest.map V.int)) ∧ Same H H') ?_ ?_ ?_ ?_⟩
    · refine ⟨none, none, head, rfl, rfl, ?_, upd_same, s3⟩
      rw [upd_ne np3, upd_same]
    · rintro i σ H' _ ⟨y3, y4, ms, _, _, _, h3, _⟩
      exact .inl (.inl h3)
    · rintro i x σ H' H'' hi ⟨y3, y4, ms, rfl, em, e1, e3, sm⟩ ⟨U, u, v, rfl, nU, rfl, eu, ev⟩
      cases eu
      rw [List.length_map] at hi
      have gi : (rest.map V.int)[i]? = some (.int rest[i]) := by
        rw [List.getElem?_map, List.getElem?_eq_getElem hi]
        rfl
      cases gi.symm.trans ev
      have sU : Same H' (upd H' U (.tup [.int i, .int rest[i]])) := same_new nU
      refine ⟨U, _, rfl, .inl (.inl upd_same), rfl, _, _, rfl, _, _, rfl, rfl, ?_⟩
      have hkl : k = (head.length : Int) := by
        by_cases h0 : rest = []
        · subst h0
          exact absurd hi (by simp)
        · exact hr0 h0
      have j0 : 0 ≤ (i : Int) % k := Int.emod_nonneg _ (by omega)
      have j1 : (i : Int) % k < k := Int.emod_lt_of_pos _ hk0
      have hj : ((i : Int) % k).toNat < ms.length := by omega
      have ap := atI_int (ns := ms) j0 hj
      have ix : ixN (ms.map V.int).length ((i : Int) % k) = some ((i : Int) % k).toNat := ixN_pos j0 (by rw [List.length_map]; omega)
      refine ⟨.ref p, rfl, .int i, rfl, .int k, rfl, i, k, rfl, rfl, hk0, p, _, _, _, rfl, rfl, .inl (.inl (sU _ _ e1)), ap, .int rest[i], rfl, .int i, rfl, i, 2, rfl, rfl, _, _, rfl, rfl, .inr ⟨by omega, by omega⟩, _, _, rfl, rfl, .ref p, rfl, .int i, rfl, .int k, rfl, i, k, rfl, rfl, hk0, p, _, _, _, rfl, rfl, sU _ _ e1, ix, ?_⟩
      refine ⟨_, _, ms.set ((i : Int) % k).toNat (ms[((i : Int) % k).toNat] + rest[i] * (i + 2)), rfl, by rw [List.length_set]; exact em, ?_, ?_, ?_⟩
      · rw [upd_same, ← List.map_set]
      · rw [upd_ne np3.symm]
        exact sU _ _ e3
      · intro b o hb
        rw [upd_ne (ne_of_none hb np)]
        exact sU _ _ (sm _ _ hb)
    · rintro σ H' ⟨y3, y4, ms, rfl, em, e1, e3, sm⟩
      refine ⟨.ref p, rfl, q p ms H' np sm e1 (by omega) (by omega)⟩
end
end K06

set_option Elab.async false
set_option linter.all false
set_option maxRecDepth 100000
set_option maxHeartbeats 4000000
namespace K06
open PySem PySem.Spec PyProof.Rows L2 Lt
/-! the mathematics -/
/-- what falls on the days from f to e -/
def pt (t m f e : Int) : Int := t * (e + 1) / m - t * f / m
theorem pt_join (t m a b c : Int) : pt t m a b + pt t m (b + 1) c = pt t m a c := by
  unfold pt
  omega
theorem pt_all {t m : Int} (hm : 0 < m) : pt t m 0 (m - 1) = t := by
  unfold pt
  rw [show m - 1 + 1 = m by omega, Int.mul_zero, Int.zero_ediv, Int.mul_ediv_cancel t (by omega)]
  omega
theorem pt_one {t m d : Int} (hm : 0 < m) : t / m ≤ pt t m d d ∧ pt t m d d ≤ t / m + 1 := by
  unfold pt
  have e1 : t * (d + 1) = (t * d % m + t % m) + m * (t * d / m + t / m) := by
    have h1 := Int.emod_add_mul_ediv (t * d) m
    have h2 := Int.emod_add_mul_ediv t m
    rw [Int.mul_add, Int.mul_one, Int.mul_add]
    omega
  rw [e1, Int.add_mul_ediv_left _ _ (by omega)]
  have a0 := Int.emod_nonneg (t * d) (b := m) (by omega)
  have a1 := Int.emod_lt_of_pos (t * d) hm
  have b0 := Int.emod_nonneg t (b := m) (by omega)
  have b1 := Int.emod_lt_of_pos t hm
  have c0 : 0 ≤ (t * d % m + t % m) / m := Int.ediv_nonneg (by omega) (by omega)
  have c1 : (t * d % m + t % m) / m < 2 := Int.ediv_lt_of_lt_mul hm (by omega)
  omega
section
variable {P : Program} {w : World} {K : PySem.W.Frag} {mg : Str → Option Value} {base : Heap} {f : Addr} {fd : FuncData}
abbrev FnD1 (K : PySem.W.Frag) (x : Str) (st : Stmt) (dvs : List V) (f : Addr) (fd : FuncData) : Prop := FunD K x x (defArgs st) (defBody st) (defScope st) dvs [] f fd
def spPart : Sp := fun vs H Q _ => ∃ (t m f e : Int) (l : V), vs = [.int t, .int m, .int f, l] ∧ (l = .int e ∨ (l = .non ∧ e = f)) ∧ 0 ≤ t ∧ t ≤ 1000000000000 ∧ 0 < m ∧ m ≤ 4000 ∧ Q (.int (pt t m f e)) H
abbrev st_part_of : Stmt := topS 1
theorem sc_part_of : FnScope ["total", "many", "first", "last", "end"] ["total", "many", "first", "last"] (defScope st_part_of) := ⟨rfl, rfl, rfl, by decide +kernel, rfl, by decide +kernel, by decide +kernel⟩
theorem ok_part_of (F : FnD1 K "part_of" st_part_of [.non] f fd) : FnOk P w K mg base CX0 1 f fd ["total", "many", "first", "last"] spPart := by
  refine F.ok sc_part_of (fun vs H Q E h => ?_) (fun cdv A outer s H vs Q E hr h => ?_)
  · obtain ⟨t, m, f, e, l, rfl, _⟩ := h
    rfl
  · obtain ⟨t, m, f, e, l, rfl, hl, t0, t1, m0, m1, q⟩ := h
    refine ⟨_, PSs.nox (pss_cons (ps_set (i := 4) sc_part_of.nd rfl (.inl rfl) (pe_ifExp (pt_cmpR op_isN (pv 3) pe_non (nomark _)) (pv 2) (pv 3)))
      (pss_one (ps_ret (pe_op op_sub (pe_op op_fdiv (pe_op op_mul (pv 0) (pe_op op_add (pv 4) pe_int)) (pv 1)) (pe_op op_fdiv (pe_op op_mul (pv 0) (pv 2)) (pv 1)))))), ?_⟩
    rcases hl with rfl | ⟨rfl, rfl⟩
    · refine ⟨.int e, rfl, rfl, _, rfl, iteDF (by intro z; cases z) ⟨.int e, rfl, ?_⟩⟩
      exact ⟨.int t, rfl, .int e, rfl, e, 1, rfl, rfl, t, _, rfl, rfl, .inl ⟨by omega, by omega⟩, .int m, rfl, _, m, rfl, rfl, ⟨m0, by omega⟩, .int t, rfl, .int f, rfl, t, f, rfl, rfl, .inl ⟨by omega, by omega⟩, .int m, rfl, _, m, rfl, rfl, ⟨m0, by omega⟩, _, _, rfl, rfl, q⟩
    · refine ⟨.non, rfl, rfl, _, rfl, iteDT rfl ⟨.int e, rfl, ?_⟩⟩
      exact ⟨.int t, rfl, .int e, rfl, e, 1, rfl, rfl, t, _, rfl, rfl, .inl ⟨by omega, by omega⟩, .int m, rfl, _, m, rfl, rfl, ⟨m0, by omega⟩, .int t, rfl, .int e, rfl, t, e, rfl, rfl, .inl ⟨by omega, by omega⟩, .int m, rfl, _, m, rfl, rfl, ⟨m0, by omega⟩, _, _, rfl, rfl, q⟩
def spDue : Sp := fun vs H Q _ => ∃ (t m f e : Int), vs = [.int t, .int m, .int f, .int e] ∧ 0 ≤ t ∧ t ≤ 1000000000000 ∧ 0 < m ∧ m ≤ 4000 ∧ Q (.int (pt t m f e)) H
abbrev st__law_due : Stmt := topS 8
theorem sc__law_due : FnScope ["_law_total_here", "_law_many", "_law_first", "_law_end"] ["_law_total_here", "_law_many", "_law_first", "_law_end"] (defScope st__law_due) := ⟨rfl, rfl, rfl, by decide +kernel, rfl, by decide +kernel, by decide +kernel⟩
theorem ok_due (F : FnP K "_law_due" st__law_due f fd) : FnOk P w K mg base CX0 1 f fd ["_law_total_here", "_law_many", "_law_first", "_law_end"] spDue := by
  refine F.ok sc__law_due (fun vs H Q E h => ?_) (fun cdv A outer s H vs Q E hr h => ?_)
  · obtain ⟨t, m, f, e, rfl, _⟩ := h
    rfl
  · obtain ⟨t, m, f, e, rfl, t0, t1, m0, m1, q⟩ := h
    refine ⟨_, PSs.nox (pss_one (ps_ret (pe_op op_sub (pe_op op_fdiv (pe_op op_mul (pv 0) (pe_op op_add (pv 3) pe_int)) (pv 1)) (pe_op op_fdiv (pe_op op_mul (pv 0) (pv 2)) (pv 1))))), ?_⟩
    exact ⟨.int t, rfl, .int e, rfl, e, 1, rfl, rfl, t, _, rfl, rfl, .inl ⟨by omega, by omega⟩, .int m, rfl, _, m, rfl, rfl, ⟨m0, by omega⟩, .int t, rfl, .int f, rfl, t, f, rfl, rfl, .inl ⟨by omega, by omega⟩, .int m, rfl, _, m, rfl, rfl, ⟨m0, by omega⟩, _, _, rfl, rfl, q⟩
def spNum : Sp := fun vs H Q _ => ∃ i : Int, vs = [.int i] ∧ Q (.bl true) H
abbrev st__law_is_number : Stmt := topS 7
theorem sc__law_is_number : FnScope ["_law_thing"] ["_law_thing"] (defScope st__law_is_number) := ⟨rfl, rfl, rfl, by decide +kernel, rfl, by decide +kernel, by decide +kernel⟩
theorem ok_is_number (F : FnP K "_law_is_number" st__law_is_number f fd) (T : Bl mg) : FnOk P w K mg base CX0 1 f fd ["_law_thing"] spNum := by
  refine F.ok sc__law_is_number (fun vs H Q E h => ?_) (fun cdv A outer s H vs Q E hr h => ?_)
  · obtain ⟨i, rfl, _⟩ := h
    rfl
  · obtain ⟨i, rfl, q⟩ := h
    refine ⟨_, PSs.nox (pss_one (ps_ret (pe_and (pe_callB call_isi (by rfl) T.b_isinstance (by decide +kernel) (pa_cons (pv 0) (pa_cons (pe_ty "int" T.b_int) pa_nil))) (pe_one (pe_not (pe_callB call_isi (by rfl) T.b_isinstance (by decide +kernel) (pa_cons (pv 0) (pa_cons (pe_ty "bool" T.b_bool) pa_nil)))))))), ?_⟩
    exact ⟨.int i, rfl, _, _, _, _, true, rfl, .ty _, .base (.int i), kit1 (by decide +kernel), true, rfl, iteT ⟨.int i, rfl, _, _, _, _, false, rfl, .ty _, .base (.int i), kit1 (by decide +kernel), false, rfl, q⟩⟩
/-- total(box) -/
def spTotal : Sp := fun vs H Q _ => ∃ (b : Addr) (n : Int), vs = [.ref b] ∧ Box H b n ∧ n ≤ 100000000000 ∧
  ∀ (r : Int) (H' : Hp), 0 ≤ r → r ≤ 1000000000000 → But b H H' → Box H' b (n + 6) → Q (.int r) H'
abbrev st__law_total : Stmt := topS 6
theorem sc__law_total : FnScope ["_law_box", "_law_way", "_law_some"] ["_law_box"] (defScope st__law_total) := ⟨rfl, rfl, rfl, by decide +kernel, rfl, by decide +kernel, by decide +kernel⟩
theorem ok_total (F : FnP K "_law_total" st__law_total f fd) (C__law_take : Cal P w K mg base "_law_take" 1 ["_law_box", "_law_many"] [] spTake) : FnOk P w K mg base CX0 2 f fd ["_law_box"] spTotal := by
  refine F.ok sc__law_total (fun vs H Q E h => ?_) (fun cdv A outer s H vs Q E hr h => ?_)
  · obtain ⟨b, n, rfl, _⟩ := h
    rfl
  · obtain ⟨b, n, rfl, hb, hn, q⟩ := h
    refine ⟨_, PSs.nox (pss_cons (ps_set (i := 1) sc__law_total.nd rfl (.inl rfl) (pe_cal C__law_take (hr.mono (by decide)) rfl (pa_cons (pv 0) (pa_cons pe_int pa_nil))))
      (pss_cons (ps_set (i := 2) sc__law_total.nd rfl (.inl rfl) (pe_lst (pa_cons pe_int (pa_cons pe_int (pa_cons (pe_cal C__law_take (hr.mono (by decide)) rfl (pa_cons (pv 0) (pa_cons pe_int pa_nil))) (pa_cons (pe_cal C__law_take (hr.mono (by decide)) rfl (pa_cons (pv 0) (pa_cons (pe_op op_pow pe_int pe_int) pa_nil))) (pa_cons (pe_op op_sub (pe_op op_pow pe_int pe_int) (pe_cal C__law_take (hr.mono (by decide)) rfl (pa_cons (pv 0) (pa_cons pe_int pa_nil)))) pa_nil)))))))
      (pss_one (ps_ret (pe_ix ix_list (pe_op op_cat (pv 2) (pe_lst (pa_cons (pe_op op_add (pe_op op_mul (pe_cal C__law_take (hr.mono (by decide)) rfl (pa_cons (pv 0) (pa_cons (pe_op op_pow pe_int pe_int) pa_nil))) (pe_op op_pow pe_int pe_int)) (pe_cal C__law_take (hr.mono (by decide)) rfl (pa_cons (pv 0) (pa_cons (pe_op op_pow pe_int pe_int) pa_nil)))) pa_nil))) (pv 1) (fun _ _ => rfl)))))), ?_⟩
    have p6 : (10 : Int) ^ (6 : Int).toNat = 1000000 := by decide
    have p12 : (10 : Int) ^ (12 : Int).toNat = 1000000000000 := by decide
    refine ⟨.ref b, rfl, b, 6, n, rfl, by decide, by decide, hb, by omega, fun r1 H1 a0 a1 k1 hb1 => ?_⟩
    refine ⟨.ref b, rfl, b, 12, n + 1, rfl, by decide, by decide, hb1, by omega, fun r2 H2 b0 b1 k2 hb2 => ?_⟩
    refine ⟨.ref b, rfl, 10, 6, rfl, rfl, ⟨by decide, by decide, by decide⟩, b, _, n + 2, rfl, by decide, by decide, hb2.le (by omega), by omega, fun r3 H3 c0 c1 k3 hb3 => ?_⟩
    refine ⟨10, 12, rfl, rfl, ⟨by decide, by decide, by decide⟩, .ref b, rfl, b, 3, n + 3, rfl, by decide, by decide, hb3.le (by omega), by omega, fun r4 H4 d0 d1 k4 hb4 => ?_⟩
    refine ⟨_, _, rfl, rfl, sz 5, fun p np => ?_⟩
    have s4 := same_new (o := .lst [.int 0, .int 1, .int r2, .int r3, .int (10 ^ (12 : Int).toNat - r4)]) np
    have k5 : But b H (upd H4 p (.lst [.int 0, .int 1, .int r2, .int r3, .int (10 ^ (12 : Int).toNat - r4)])) := (((k1.trans k2).trans k3).trans k4).trans (But.of_same s4)
    have hbp := hb4.ne np
    refine ⟨.ref p, rfl, .ref b, rfl, 10, 6, rfl, rfl, ⟨by decide, by decide, by decide⟩, b, _, n + 4, rfl, by decide, by decide, (hb4.same s4).le (by omega), by omega, fun r5 H5 e0 e1 k6 hb5 => ?_⟩
    refine ⟨10, 6, rfl, rfl, ⟨by decide, by decide, by decide⟩, r5, _, rfl, rfl, .inr ⟨by decide, by decide⟩, .ref b, rfl, 10, 6, rfl, rfl, ⟨by decide, by decide, by decide⟩, b, _, n + 5, rfl, by decide, by decide, hb5.le (by omega), by omega, fun r6 H6 f0 f1 k7 hb6 => ?_⟩
    refine ⟨_, _, rfl, rfl, sz 1, fun p2 np2 => ?_⟩
    have ep : H6 p = some (.lst [.int 0, .int 1, .int r2, .int r3, .int (10 ^ (12 : Int).toNat - r4)]) := k7 _ _ (k6 _ _ upd_same hbp.symm) hbp.symm
    have s7 := same_new (o := .lst [.int (r5 * 10 ^ (6 : Int).toNat + r6)]) np2
    refine ⟨p, p2, _, _, rfl, rfl, s7 _ _ ep, upd_same, sz 6, fun p3 np3 => ?_⟩
    have s8 := same_new (o := .lst [.int 0, .int 1, .int r2, .int r3, .int (10 ^ (12 : Int).toNat - r4), .int (r5 * 10 ^ (6 : Int).toNat + r6)]) np3
    have fin : ∀ v : Int, 0 ≤ v → v ≤ 1000000000000 → Q (.int v) (upd (upd H6 p2 (.lst [.int (r5 * 10 ^ (6 : Int).toNat + r6)])) p3 (.lst [.int 0, .int 1, .int r2, .int r3, .int (10 ^ (12 : Int).toNat - r4), .int (r5 * 10 ^ (6 : Int).toNat + r6)])) := fun v v0 v1 =>
      q v _ v0 v1 ((((k5.trans k6).trans k7).trans (But.of_same s7)).trans (But.of_same s8)) (((hb6.same s7).same s8).le (by omega))
    rw [p6] at c1 e1 f1
    have hw : r1 = 0 ∨ r1 = 1 ∨ r1 = 2 ∨ r1 = 3 ∨ r1 = 4 ∨ r1 = 5 := by omega
    rcases hw with rfl | rfl | rfl | rfl | rfl | rfl
    · exact ⟨_, rfl, p3, _, _, .int 0, rfl, rfl, .inl (.inl upd_same), rfl, fin _ (by decide) (by decide)⟩
    · exact ⟨_, rfl, p3, _, _, .int 1, rfl, rfl, .inl (.inl upd_same), rfl, fin _ (by decide) (by decide)⟩
    · exact ⟨_, rfl, p3, _, _, .int r2, rfl, rfl, .inl (.inl upd_same), rfl, fin _ b0 (by omega)⟩
    · exact ⟨_, rfl, p3, _, _, .int r3, rfl, rfl, .inl (.inl upd_same), rfl, fin _ c0 (by omega)⟩
    · exact ⟨_, rfl, p3, _, _, .int (10 ^ (12 : Int).toNat - r4), rfl, rfl, .inl (.inl upd_same), rfl, fin _ (by rw [p12]; omega) (by rw [p12]; omega)⟩
    · exact ⟨_, rfl, p3, _, _, .int (r5 * 10 ^ (6 : Int).toNat + r6), rfl, rfl, .inl (.inl upd_same), rfl, fin _ (by rw [p6]; omega) (by rw [p6]; omega)⟩
end
end K06

set_option Elab.async false
set_option linter.all false
set_option maxRecDepth 100000
set_option maxHeartbeats 4000000
namespace K06
open PySem PySem.Spec PyProof.Rows L2 Lt
/-! the ends of stretches -/
def prv (ends : List Int) (i : Nat) : Int := ((-1) :: ends).getD i 0
structure Ends (ends : List Int) (m : Int) : Prop where
  lo : ∀ e ∈ ends, 0 ≤ e ∧ e < m
  inc : ends.Pairwise (· < ·)
  top : m - 1 ∈ ends
theorem prv_succ {ends : List Int} {i : Nat} (h : i < ends.length) : prv ends (i + 1) = ends[i] := by
  unfold prv
  rw [List.getD_eq_getElem?_getD, List.getElem?_cons_succ, List.getElem?_eq_getElem h]
  rfl
theorem Ends.last {ends : List Int} {m : Int} (h : Ends ends m) : prv ends ends.length = m - 1 := by
  obtain ⟨i, hi, e⟩ := List.getElem_of_mem h.top
  have e2 := prv_succ (ends := ends) (i := ends.length - 1) (by omega)
  rw [show ends.length - 1 + 1 = ends.length by omega] at e2
  rw [e2]
  by_cases hi2 : i = ends.length - 1
  · subst hi2
    exact e
  · have h1 := List.pairwise_iff_getElem.mp h.inc i (ends.length - 1) hi (by omega) (by omega)
    have h2 := h.lo _ (List.getElem_mem (show ends.length - 1 < ends.length by omega))
    omega
/-- the pairs (from, to) of the stretches, as a list of tuples at p -/
def Cuts (H : Hp) (p : Addr) (ends : List Int) : Prop := ∃ rs : List Addr, H p = some (.lst (rs.map V.ref)) ∧ rs.length = ends.length ∧
  ∀ (i : Nat) (r : Addr), rs[i]? = some r → H r = some (.tup [.int (prv ends i + 1), .int (prv ends (i + 1))])
theorem Cuts.same {H H' : Hp} {p : Addr} {ends : List Int} (h : Cuts H p ends) (e : Same H H') : Cuts H' p ends := by
  obtain ⟨rs, h1, h2, h3⟩ := h
  exact ⟨rs, e _ _ h1, h2, fun i r hr => e _ _ (h3 i r hr)⟩
section
variable {P : Program} {w : World} {K : PySem.W.Frag} {mg : Str → Option Value} {base : Heap} {f : Addr} {fd : FuncData}
/-- cut(box, many) -/
def spCut : Sp := fun vs H Q _ => ∃ (b : Addr) (m n : Int), vs = [.ref b, .int m] ∧ 0 < m ∧ m ≤ 4000 ∧ Box H b n ∧ n ≤ 100000000000 ∧
  ∀ (p : Addr) (ends : List Int) (H' : Hp), But b H H' → Box H' b (n + 9) → p ≠ b → H p = none → ends.length ≤ 20 → Ends ends m → Cuts H' p ends → Q (.ref p) H'
abbrev st__law_cut : Stmt := topS 9
theorem sc__law_cut : FnScope ["_law_box", "_law_many", "_law_ends", "_law_turn", "_law_first", "_law_end"] ["_law_box", "_law_many"] (defScope st__law_cut) := ⟨rfl, rfl, rfl, by decide +kernel, rfl, by decide +kernel, by decide +kernel⟩
theorem ok_cut (F : FnP K "_law_cut" st__law_cut f fd) (T : Bl mg) (C__law_take : Cal P w K mg base "_law_take" 1 ["_law_box", "_law_many"] [] spTake) : FnOk P w K mg base CX0 2 f fd ["_law_box", "_law_many"] spCut := by
  refine F.ok sc__law_cut (fun vs H Q E h => ?_) (fun cdv A outer s H vs Q E hr h => ?_)
  · obtain ⟨b, m, n, rfl, _⟩ := h
    rfl
  · obtain ⟨b, m, n, rfl, m0, m1, hb, hn, q⟩ := h
    refine ⟨_, PSs.nox (pss_cons (ps_set (i := 2) sc__law_cut.nd rfl (.inl rfl) (pe_callB (cr_sortedSet rfl) (by rfl) T.b_sorted (by decide +kernel) (pa_cons (pe_callTy (cr_setI rfl) (by rfl) T.b_set (by decide +kernel) (pa_cons (pe_op op_cat (pe_lc (own := [("_law_turn", 3)]) (g := gName 3) (tt := tYes) rfl sc__law_cut.nd (pi_range1 (by rfl) T.b_range (pa_cons (pe_cal C__law_take (hr.mono (by decide)) rfl (pa_cons (pv 0) (pa_cons pe_int pa_nil))) pa_nil)) (blkOk_by (own := [("_law_turn", 3)]) (N := ["_law_box", "_law_many", "_law_ends", "_law_turn", "_law_first", "_law_end"]) (sc := defScope st__law_cut) (by decide +kernel)) (fun _ _ _ _ _ => (pg_name (i := 3) sc__law_cut.nd rfl (.inl rfl))) (fun _ _ _ _ _ => pts_nil) (fun _ _ _ _ _ => (pe_cal C__law_take (hr.mono (by decide)) rfl (pa_cons (pv 0) (pa_cons (pv 1) pa_nil))))) (pe_lst (pa_cons (pe_op op_sub (pv 1) pe_int) pa_nil))) pa_nil)) pa_nil)))
      (pss_one (ps_ret (pe_lc (own := [("_law_first", 4), ("_law_end", 5)]) (g := gTup K 2 (gCons (gName 4) (gCons (gName 5) gNil))) (tt := tYes) rfl sc__law_cut.nd (RZ.pi_zipA (by rfl) T.b_zip (pa_cons (pe_op op_cat (pe_lst (pa_cons (pe_un un_neg pe_int) pa_nil)) (pv 2)) (pa_cons (pv 2) pa_nil))) (blkOk_by (own := [("_law_first", 4), ("_law_end", 5)]) (N := ["_law_box", "_law_many", "_law_ends", "_law_turn", "_law_first", "_law_end"]) (sc := defScope st__law_cut) (by decide +kernel)) (fun _ _ _ _ _ => (pg_tup rfl (pgs_cons (pg_name (i := 4) sc__law_cut.nd rfl (.inl rfl)) (pgs_cons (pg_name (i := 5) sc__law_cut.nd rfl (.inl rfl)) pgs_nil)))) (fun _ _ _ _ _ => pts_nil) (fun _ _ _ _ _ => (pe_tup (pa_cons (pe_op op_add (pv 4) pe_int) (pa_cons (pv 5) pa_nil)))))))), ?_⟩
    refine ⟨.ref b, rfl, b, 9, n, rfl, by decide, by decide, hb, by omega, fun c H1 c0 c1 k1 hb1 => ⟨c, rfl, by omega, by omega, fun D nD => ?_⟩⟩
    have nbD : b ≠ D := hb1.ne nD
    refine lc_it (walk_range (lo := 0) (n := c.toNat)) (fun i H2 => ∃ ns : List Int, H2 D = some (.lst (ns.map V.int)) ∧ ns.length = i ∧ (∀ e ∈ ns, 0 ≤ e ∧ e < m) ∧ But b H1 H2 ∧ Box H2 b (n + 1 + i)) ?_ (fun _ _ _ _ => True.intro) ?_ ?_
    · exact ⟨[], upd_same, rfl, fun e he => by simp at he, But.of_same (same_new nD), (hb1.same (same_new nD)).le (by omega)⟩
    · rintro i x H0 H2 hi ⟨ns, eD, el, hns, k2, hb2⟩ ⟨rfl, rfl⟩
      have hi2 : (i : Int) < c := by omega
      refine ⟨rfl, ?_⟩
      refine ⟨.ref b, rfl, .int m, rfl, b, m, n + 1 + i, rfl, m0, by omega, hb2, by omega, fun r H3 r0 r1 k3 hb3 => ?_⟩
      have eD3 := k3 _ _ eD nbD.symm
      refine ⟨_, eD3, ?_, ns ++ [r], ?_, ?_, ?_, ?_, ?_⟩
      · rw [List.length_map, el]
        exact small1000 (by omega)
      · rw [upd_same, List.map_append]
        rfl
      · rw [List.length_append, el]
        rfl
      · intro e he
        rcases List.mem_append.mp he with h | h
        · exact hns e h
        · rw [List.mem_singleton.mp h]
          exact ⟨r0, r1⟩
      · intro a o ha na
        rw [upd_ne (ne_of_none ha nD)]
        exact k3 _ _ (k2 _ _ ha na) na
      · obtain ⟨x', y', z', g1, g2⟩ := hb3
        exact Box.le ⟨x', y', z', by rw [upd_ne nbD]; exact g1, g2⟩ (by omega)
    · rintro H2 ⟨ns, eD, el, hns, k2, hb2⟩
      refine ⟨.int m, rfl, m, 1, rfl, rfl, sz 1, fun p2 np2 => new_at np2 fun Ha s2 e2 => ?_⟩
      refine ⟨D, p2, _, _, rfl, rfl, s2 _ _ eD, e2, ?_, fun p3 np3 => new_at np3 fun Hb s3 e3 => ?_⟩
      · rw [List.length_map, el]
        exact sz _ (by show c.toNat + 1 ≤ 1000; omega)
      · have e3' : Hb p3 = some (.lst ((ns ++ [m - 1]).map V.int)) := by
          rw [e3, List.map_append]
          rfl
        refine ⟨p3, ns ++ [m - 1], rfl, .inl (.inl e3'), by rw [List.length_append, el]; show c.toNat + 1 ≤ 1000; omega, fun p4 c4 np4 hc4 => ?_⟩
        have hc5 : c4 ≤ 9 := by
          rw [List.length_append, el] at hc4
          have : c4 ≤ c.toNat + 1 := hc4
          omega
        have s4 := same_new (o := SetO w p4 (fun j => decide (j ∈ ns ++ [m - 1])) c4) np4
        refine ⟨p4, _, c4, rfl, upd_same, by omega, fun ends p5 hinc hmem hlen np5 => new_at np5 fun Hc s5 e5 => ?_⟩
        have sA : Same H2 Hc := ((s2.trans s3).trans s4).trans s5
        have hE : Ends ends m := by
          refine ⟨fun e he => ?_, hinc, ?_⟩
          · have h1 := of_decide_eq_true ((hmem e).mp he)
            rcases List.mem_append.mp h1 with h | h
            · exact hns e h
            · rw [List.mem_singleton.mp h]
              omega
          · exact (hmem _).mpr (decide_eq_true (List.mem_append.mpr (.inr (List.mem_singleton.mpr rfl))))
        refine ⟨1, rfl, sz 1, fun q1 nq1 => new_at nq1 fun Hd s6 e6 => ?_⟩
        refine ⟨.ref p5, rfl, q1, p5, _, _, rfl, rfl, e6, s6 _ _ e5, ?_, fun q2 nq2 => new_at nq2 fun He s7 e7 => ?_⟩
        · rw [List.length_map, hlen]
          exact sz _ (by show 1 + c4 ≤ 1000; omega)
        · have s8 : Same Hc He := s6.trans s7
          have g5 := s8 _ _ e5
          have hz2 : SqL K He q2 (((-1) :: ends).map V.int) := .inl (.inl e7)
          refine ⟨.ref p5, rfl, q2, p5, ((-1) :: ends).map V.int, ends.map V.int, rfl, .inl ⟨hz2, .inl (.inl g5), fun D2 nD2 => ?_⟩⟩
          refine lc_it ((walk_zip (K := K) (a := q2) (b := p5) (xs := ((-1) :: ends).map V.int) (ys := ends.map V.int) (n := ends.length) (by simp)).mono (fun H3 (e : Same He H3) => ⟨L2.Same.seq e hz2, .inl (.inl (e _ _ g5))⟩) (fun i H3 x H4 _ _ y => y))
            (fun i H3 => Same He H3 ∧ ∃ rs : List Addr, H3 D2 = some (.lst (rs.map V.ref)) ∧ rs.length = i ∧ ∀ (j : Nat) (r : Addr), rs[j]? = some r → H3 r = some (.tup [.int (prv ends j + 1), .int (prv ends (j + 1))])) ?_ (fun i H3 _ h => h.1) ?_ ?_
          · exact ⟨same_new nD2, [], upd_same, rfl, fun j r h => by simp at h⟩
          · rintro i x H3 H4 hi ⟨s9, rs, g1, g2, g3⟩ ⟨U, u, v, rfl, nU, rfl, eu, ev⟩
            have eu2 : u = .int (prv ends i) := by
              have h1 : (((-1) :: ends).map V.int)[i]? = some u := eu
              rw [List.getElem?_map] at h1
              unfold prv
              rw [List.getD_eq_getElem?_getD]
              cases h2 : ((-1) :: ends)[i]? with
              | none =>
                rw [h2] at h1
                cases h1
              | some z =>
                rw [h2] at h1
                cases h1
                rfl
            have ev2 : v = .int (prv ends (i + 1)) := by
              have h1 : (ends.map V.int)[i]? = some v := ev
              rw [prv_succ hi]
              rw [List.getElem?_map, List.getElem?_eq_getElem hi] at h1
              cases h1
              rfl
            subst eu2 ev2
            have sU := same_new (o := .tup [.int (prv ends i), .int (prv ends (i + 1))]) nU
            refine ⟨U, _, rfl, .inl (.inl upd_same), rfl, _, _, rfl, _, _, rfl, rfl, rfl, ?_⟩
            refine ⟨_, rfl, _, 1, rfl, rfl, _, rfl, sz 2, fun r nr => ?_⟩
            have sr := same_new (o := .tup [.int (prv ends i + 1), .int (prv ends (i + 1))]) nr
            have gD := sr _ _ (sU _ _ g1)
            have nDr : D2 ≠ r := ne_of_none (sU _ _ g1) nr
            refine ⟨_, gD, ?_, ?_, rs ++ [r], ?_, ?_, ?_⟩
            · rw [List.length_map, g2]
              exact small1000 (by omega)
            · intro a o ha
              rw [upd_ne (ne_of_none ha nD2)]
              exact sr _ _ (sU _ _ (s9 _ _ ha))
            · rw [upd_same, List.map_append]
              rfl
            · rw [List.length_append, g2]
              rfl
            · intro j t hj
              by_cases hji : j < rs.length
              · rw [List.getElem?_append_left hji] at hj
                have h4 := sr _ _ (sU _ _ (g3 j t hj))
                rw [upd_ne (fun z => ?_)]
                · exact h4
                · subst z
                  rw [gD] at h4
                  cases h4
              · rw [List.getElem?_append_right (by omega)] at hj
                have ej : j = i := by
                  have := (List.getElem?_eq_some_iff.mp hj).1
                  simp at this
                  omega
                subst ej
                rw [g2, Nat.sub_self] at hj
                cases hj
                rw [upd_ne nDr.symm, upd_same]
          · rintro H3 ⟨s9, rs, g1, g2, g3⟩
            have sB := (sA.trans s8).trans s9
            have nb2 : H2 D2 = none := (sA.trans s8).free nD2
            have hDb : D2 ≠ b := (hb2.ne nb2).symm
            exact q D2 ends H3 ((k1.trans k2).trans (But.of_same sB)) ((hb2.same sB).le (by omega)) hDb ((k1.trans k2).free nb2 hDb) (by omega) hE ⟨rs, g1, g2, g3⟩
end
end K06

set_option Elab.async false
set_option linter.all false
set_option maxRecDepth 100000
set_option maxHeartbeats 4000000
namespace K06
open PySem PySem.Spec PyProof.Rows L2 Lt
/-! the parts of the days of a stretch -/
def dys (t m v : Int) (n : Nat) : List Int := (List.range n).map fun (j : Nat) => pt t m (v + (j : Int)) (v + (j : Int))
theorem dys_succ (t m v : Int) (n : Nat) : dys t m v (n + 1) = dys t m v n ++ [pt t m (v + (n : Int)) (v + (n : Int))] := by
  unfold dys
  rw [List.range_succ, List.map_append]
  rfl
theorem dys_len (t m v : Int) (n : Nat) : (dys t m v n).length = n := by
  unfold dys
  rw [List.length_map, List.length_range]
theorem pt_nil (t m v : Int) : pt t m v (v - 1) = 0 := by
  unfold pt
  rw [show v - 1 + 1 = v by omega]
  omega
theorem dys_sum (t m v : Int) : ∀ n : Nat, (dys t m v n).sum = pt t m v (v + (n : Int) - 1)
  | 0 => by
    rw [show v + ((0 : Nat) : Int) - 1 = v - 1 by omega, pt_nil]
    rfl
  | n + 1 => by
    rw [dys_succ, List.sum_append, dys_sum t m v n]
    have h := pt_join t m v (v + (n : Int) - 1) (v + (n : Int))
    rw [show v + (n : Int) - 1 + 1 = v + (n : Int) by omega] at h
    rw [show v + ((n + 1 : Nat) : Int) - 1 = v + (n : Int) by omega, ← h]
    simp
theorem dys_mem {t m v : Int} {n : Nat} (hm : 0 < m) {x : Int} (h : x ∈ dys t m v n) : t / m ≤ x ∧ x ≤ t / m + 1 := by
  unfold dys at h
  obtain ⟨j, _, rfl⟩ := List.mem_map.mp h
  exact pt_one hm
theorem getI {ns : List Int} {i : Nat} {x : V} (h : (ns.map V.int)[i]? = some x) : ∃ k, k ∈ ns ∧ x = .int k ∧ ns[i]? = some k := by
  rw [List.getElem?_map] at h
  cases e : ns[i]? with
  | none =>
    rw [e] at h
    cases h
  | some k =>
    rw [e] at h
    cases h
    exact ⟨k, List.mem_of_getElem? e, rfl, rfl⟩
section
variable {P : Program} {w : World} {K : PySem.W.Frag} {mg : Str → Option Value} {base : Heap} {f : Addr} {fd : FuncData}
def spRight : Sp := fun vs H Q _ => ∃ (b : Addr) (t m n : Int), vs = [.ref b, .int t, .int m] ∧ 0 ≤ t ∧ t ≤ 1000000000000 ∧ 0 < m ∧ m ≤ 4000 ∧ Box H b n ∧ n ≤ 10000000000 ∧
  ∀ H', But b H H' → Box H' b (n + 12) → Q (.bl true) H'
abbrev st__law_right : Stmt := topS 10
theorem sc__law_right : FnScope ["_law_box", "_law_total_here", "_law_many", "_law_found", "_law_first", "_law_end", "_law_part", "_law_days", "_law_day"] ["_law_box", "_law_total_here", "_law_many"] (defScope st__law_right) := ⟨rfl, rfl, rfl, by decide +kernel, rfl, by decide +kernel, by decide +kernel⟩
theorem ok_right (F : FnP K "_law_right" st__law_right f fd) (T : Bl mg)
    (C__law_take : Cal P w K mg base "_law_take" 1 ["_law_box", "_law_many"] [] spTake)
    (C__law_cut : Cal P w K mg base "_law_cut" 2 ["_law_box", "_law_many"] [] spCut)
    (C__law_is_number : Cal P w K mg base "_law_is_number" 1 ["_law_thing"] [] spNum)
    (C__law_due : Cal P w K mg base "_law_due" 1 ["_law_total_here", "_law_many", "_law_first", "_law_end"] [] spDue)
    (C_part_of : Cal P w K mg base "part_of" 1 ["total", "many", "first", "last"] [] spPart)
    (C_part_of_d1 : Cal P w K mg base "part_of" 1 ["total", "many", "first", "last"] [.non] spPart)
    (C_part_of_k3 : CalK P w K mg base "part_of" 1 ["total", "many", "first", "last"] 3 ["last"] (fun vs zs => vs ++ zs) spPart) :
    FnOk P w K mg base CX0 3 f fd ["_law_box", "_law_total_here", "_law_many"] spRight := by
  refine F.ok sc__law_right (fun vs H Q E h => ?_) (fun cdv A outer s H vs Q E hr h => ?_)
  · obtain ⟨b, t, m, n, rfl, _⟩ := h
    rfl
  · obtain ⟨b, t, m, n, rfl, t0, t1, m0, m1, hb, hn, q⟩ := h
    refine ⟨_, PSs.nox (pss_cons (ps_set (i := 3) sc__law_right.nd rfl (.inl rfl) (pe_lst pa_nil))
      (pss_cons (ps_for PassesOwn.never rfl (pi_list (pe_cal C__law_cut (hr.mono (by decide)) rfl (pa_cons (pv 0) (pa_cons (pv 2) pa_nil)))) (pg_tup rfl (pgs_cons (pg_name (i := 4) sc__law_right.nd rfl (.inl rfl)) (pgs_cons (pg_name (i := 5) sc__law_right.nd rfl (.inl rfl)) pgs_nil)))
        (pss_cons (ps_set (i := 6) sc__law_right.nd rfl (.inl rfl) (pe_cal C_part_of (hr.mono (by decide)) rfl (pa_cons (pv 1) (pa_cons (pv 2) (pa_cons (pv 4) (pa_cons (pv 5) pa_nil))))))
        (pss_cons (ps_if (PW.pt (pw_or (pt_not (pt_val (pe_cal C__law_is_number (hr.mono (by decide)) rfl (pa_cons (pv 6) pa_nil)))) (pw_or1 (pt_cmpR op_ne (pv 6) (pe_cal C__law_due (hr.mono (by decide)) rfl (pa_cons (pv 1) (pa_cons (pv 2) (pa_cons (pv 4) (pa_cons (pv 5) pa_nil))))) (nomark _)))))
          (pss_one (ps_ret pe_bl))
          pss_nil)
        (pss_cons (ps_if (pt_cmpR op_ne (pe_calk C_part_of_k3 (hr.mono (by decide)) rfl (pa_cons (pv 1) (pa_cons (pv 2) (pa_cons (pv 4) pa_nil))) (pk_cons (pv 5) pk_nil)) (pv 6) (nomark _))
          (pss_one (ps_ret pe_bl))
          pss_nil)
        (pss_one (ps_expr (pe_bm PySem.F.plainAttrs_list PySem.F.slot_list_append PySem.F.type_list_append mt_append (pv 3) (pa_cons (pv 6) pa_nil))))))))
      (pss_cons (ps_if (PW.pt (pw_or (pt_cmpR op_ne (pe_callB (cr_sum rfl) (by rfl) T.b_sum (by decide +kernel) (pa_cons (pv 3) pa_nil)) (pv 1) (nomark _)) (pw_or1 (pt_cmpR op_ne (pe_calk C_part_of_k3 (hr.mono (by decide)) rfl (pa_cons (pv 1) (pa_cons (pv 2) (pa_cons pe_int pa_nil))) (pk_cons (pe_op op_sub (pv 2) pe_int) pk_nil)) (pv 1) (nomark _)))))
        (pss_one (ps_ret pe_bl))
        pss_nil)
      (pss_cons (ps_set (i := 4) sc__law_right.nd rfl (.inl rfl) (pe_ix ix_list (pe_lst (pa_cons pe_int (pa_cons (pe_cal C__law_take (hr.mono (by decide)) rfl (pa_cons (pv 0) (pa_cons (pv 2) pa_nil))) pa_nil))) (pe_cal C__law_take (hr.mono (by decide)) rfl (pa_cons (pv 0) (pa_cons pe_int pa_nil))) (fun _ _ => rfl)))
      (pss_cons (ps_set (i := 5) sc__law_right.nd rfl (.inl rfl) (pe_callB (call_min2 rfl) (by rfl) T.b_min (by decide +kernel) (pa_cons (pe_op op_sub (pv 2) pe_int) (pa_cons (pe_op op_add (pv 4) (pe_cal C__law_take (hr.mono (by decide)) rfl (pa_cons (pv 0) (pa_cons pe_int pa_nil)))) pa_nil))))
      (pss_cons (ps_setLc (i := 7) (own := [("_law_day", 8)]) (g := gName 8) (tt := tYes) rfl sc__law_right.nd rfl rfl (sw_true rfl rfl rfl (by decide +kernel)) (pi_range2 (by rfl) T.b_range (pa_cons (pv 4) (pa_cons (pe_op op_add (pv 5) pe_int) pa_nil))) (blkOk_by (own := [("_law_day", 8)]) (N := ["_law_box", "_law_total_here", "_law_many", "_law_found", "_law_first", "_law_end", "_law_part", "_law_days", "_law_day"]) (sc := defScope st__law_right) (by decide +kernel)) (fun _ _ _ _ _ => (pg_name (i := 8) sc__law_right.nd rfl (.inl rfl))) (fun _ _ _ _ _ => pts_nil) (fun _ _ _ _ _ => (pe_cal C_part_of_d1 (hr.mono (by decide)) rfl (pa_cons (pv 1) (pa_cons (pv 2) (pa_cons (pv 8) pa_nil))))))
      (pss_cons (ps_if (PW.pt (pw_or (pt_cmpR op_ne (pe_callB (cr_sum rfl) (by rfl) T.b_sum (by decide +kernel) (pa_cons (pv 7) pa_nil)) (pe_cal C_part_of (hr.mono (by decide)) rfl (pa_cons (pv 1) (pa_cons (pv 2) (pa_cons (pv 4) (pa_cons (pv 5) pa_nil))))) (nomark _)) (pw_or1 (pt_not (pt_val (pe_callB (cr_all rfl) (by rfl) T.b_all (by decide +kernel) (pa_cons (pe_lc (own := [("_law_part", 6)]) (g := gName 6) (tt := tYes) rfl sc__law_right.nd (pi_list (pv 7)) (blkOk_by (own := [("_law_part", 6)]) (N := ["_law_box", "_law_total_here", "_law_many", "_law_found", "_law_first", "_law_end", "_law_part", "_law_days", "_law_day"]) (sc := defScope st__law_right) (by decide +kernel)) (fun _ _ _ _ _ => (pg_name (i := 6) sc__law_right.nd rfl (.inl rfl))) (fun _ _ _ _ _ => pts_nil) (fun _ _ _ _ _ => (pe_cal C__law_is_number (hr.mono (by decide)) rfl (pa_cons (pv 6) pa_nil)))) pa_nil)))))))
        (pss_one (ps_ret pe_bl))
        pss_nil)
      (pss_cons (ps_if (pt_not (pt_val (pe_callB (cr_all rfl) (by rfl) T.b_all (by decide +kernel) (pa_cons (pe_lc (own := [("_law_part", 6)]) (g := gName 6) (tt := tYes) rfl sc__law_right.nd (pi_list (pv 7)) (blkOk_by (own := [("_law_part", 6)]) (N := ["_law_box", "_law_total_here", "_law_many", "_law_found", "_law_first", "_law_end", "_law_part", "_law_days", "_law_day"]) (sc := defScope st__law_right) (by decide +kernel)) (fun _ _ _ _ _ => (pg_name (i := 6) sc__law_right.nd rfl (.inl rfl))) (fun _ _ _ _ _ => pts_nil) (fun _ _ _ _ _ => (pe_chain op_le op_le (pe_op op_fdiv (pv 1) (pv 2)) (pv 6) (pe_op op_add (pe_op op_fdiv (pv 1) (pv 2)) pe_int)))) pa_nil))))
        (pss_one (ps_ret pe_bl))
        pss_nil)
      (pss_one (ps_ret (pe_chain op_eq op_eq (pe_ix ix_list (pv 7) pe_int (fun _ _ => rfl)) (pe_cal C_part_of (hr.mono (by decide)) rfl (pa_cons (pv 1) (pa_cons (pv 2) (pa_cons (pv 4) (pa_cons (pv 4) pa_nil))))) (pe_cal C_part_of (hr.mono (by decide)) rfl (pa_cons (pv 1) (pa_cons (pv 2) (pa_cons (pv 4) (pa_cons pe_non pa_nil)))))))))))))))), ?_⟩
    refine ⟨Nat.zero_le _, fun pf npf => new_at npf fun Ha sa ea => ?_⟩
    refine ⟨.ref b, rfl, .int m, rfl, b, m, n, rfl, m0, m1, hb.same sa, by omega, fun pc ends H1 k1 hb1 npb npc hlen hE hC => ?_⟩
    obtain ⟨rs, c1, c2, c3⟩ := hC
    have nbf : b ≠ pf := hb.ne npf
    have nfc : pf ≠ pc := ne_of_none ea npc
    have ef1 : H1 pf = some (.lst []) := k1 _ _ ea nbf.symm
    have kH : But b H H1 := (But.of_same sa).trans k1
    refine ⟨pc, rfl, ⟨_, .inl (.inl c1)⟩, for_it ((walk_list (K := K) (a := pc) (xs := rs.map V.ref)).mono (fun H2 (e : But pf H1 H2) => .inl (.inl (e _ _ c1 nfc.symm))) (fun _ _ _ _ _ _ y => y))
      (fun i σ H2 => ∃ (y4 y5 y6 : Option V) (fs : List Int), σ = [some (.ref b), some (.int t), some (.int m), some (.ref pf), y4, y5, y6, none, none] ∧ But pf H1 H2 ∧ H2 pf = some (.lst (fs.map V.int)) ∧ fs.length = i ∧ fs.sum = pt t m 0 (prv ends i)) ?_ (fun i σ H2 _ h => by obtain ⟨_, _, _, _, _, h, _⟩ := h; exact h) ?_ ?_⟩
    · refine ⟨none, none, none, [], rfl, But.refl _ _, ef1, rfl, ?_⟩
      exact (pt_nil t m 0).symm
    · rintro i x σ H0 H2 hi ⟨y4, y5, y6, fs, rfl, k2, ef, el, es⟩ ⟨rfl, ex⟩
      rw [List.length_map, c2] at hi
      rw [List.getElem?_map, List.getElem?_eq_getElem (by omega)] at ex
      cases ex
      have er := k2 _ _ (c3 i _ (List.getElem?_eq_getElem (by omega))) (fun z => by
        have h1 := c3 i _ (List.getElem?_eq_getElem (show i < rs.length by omega))
        rw [z, ef1] at h1
        cases h1)
      refine ⟨_, _, rfl, .inl (.inl er), rfl, _, _, rfl, _, _, rfl, rfl, ?_⟩
      refine ⟨.int t, rfl, .int m, rfl, _, rfl, _, rfl, t, m, prv ends i + 1, prv ends (i + 1), _, rfl, .inl rfl, t0, t1, m0, m1, ?_⟩
      refine ⟨_, rfl, _, rfl, true, rfl, iteF ⟨_, rfl, .int t, rfl, .int m, rfl, _, rfl, _, rfl, t, m, prv ends i + 1, prv ends (i + 1), rfl, t0, t1, m0, m1, rfl, _, rfl, iteNS rfl ?_⟩⟩
      refine ⟨.int t, rfl, .int m, rfl, _, rfl, _, rfl, rfl, rfl, t, m, prv ends i + 1, prv ends (i + 1), _, rfl, .inl rfl, t0, t1, m0, m1, _, rfl, rfl, _, rfl, iteNS rfl ?_⟩
      refine ⟨.ref pf, rfl, .inl ⟨rfl, _, .inl (.inl ef)⟩, _, rfl, pf, _, _, rfl, rfl, ef, ?_, ?_⟩
      · rw [List.length_map, el]
        exact small1000 (by omega)
      · refine ⟨_, _, _, fs ++ [pt t m (prv ends i + 1) (prv ends (i + 1))], rfl, k2.trans but_upd, ?_, ?_, ?_⟩
        · rw [upd_same, List.map_append]
          rfl
        · rw [List.length_append, el]
          rfl
        · rw [List.sum_append, es, ← pt_join t m 0 (prv ends i) (prv ends (i + 1))]
          simp
    · rintro σ H2 ⟨y4, y5, y6, fs, rfl, k2, ef, el, es⟩
      rw [List.length_map, c2, hE.last, pt_all m0] at es
      have hb2 : Box H2 b (n + 9) := hb1.keep k2 nbf
      have kH2 : But b H H2 := fun a o ha na => k2 _ _ (kH _ _ ha na) (ne_of_none ha npf)
      refine ⟨.ref pf, rfl, pf, fs, rfl, .inl (.inl ef), .int t, rfl, rfl, _, rfl, iteNS (by rw [es]) ?_⟩
      refine ⟨.int t, rfl, .int m, rfl, .int m, rfl, m, 1, rfl, rfl, rfl, rfl, t, m, 0, m - 1, _, rfl, .inl rfl, t0, t1, m0, m1, .int t, rfl, rfl, _, rfl, iteNS (by rw [pt_all m0]) ?_⟩
      refine ⟨.ref b, rfl, .int m, rfl, b, m, n + 9, rfl, m0, by omega, hb2, by omega, fun r1 H3 a0 a1 k3 hb3 => ⟨sz 2, fun l nl => new_at nl fun H4 s4 e4 => ?_⟩⟩
      have nbl : b ≠ l := hb3.ne nl
      refine ⟨.ref b, rfl, b, 2, n + 10, rfl, by decide, by decide, (hb3.same s4).le (by omega), by omega, fun r2 H5 b0 b1 k5 hb5 => ?_⟩
      have e5 := k5 _ _ e4 nbl.symm
      obtain ⟨v, hv, v0, v1⟩ : ∃ v : Int, atI [V.int 0, .int r1] r2 = some (.int v) ∧ 0 ≤ v ∧ v < m := by
        have hw : r2 = 0 ∨ r2 = 1 := by omega
        rcases hw with rfl | rfl
        · exact ⟨0, rfl, by omega, by omega⟩
        · exact ⟨r1, rfl, a0, a1⟩
      refine ⟨l, _, r2, .int v, rfl, rfl, .inl (.inl e5), hv, ?_⟩
      refine ⟨.int m, rfl, m, 1, rfl, rfl, .int v, rfl, .ref b, rfl, b, 30, n + 11, rfl, by decide, by decide, hb5.le (by omega), by omega, fun r3 H6 d0 d1 k6 hb6 => ⟨v, r3, rfl, rfl, m - 1, v + r3, rfl, ?_⟩⟩
      have kH6 : But b H H6 := ((((kH2.trans k3).trans (But.of_same s4)).trans k5).trans k6)
      obtain ⟨e, he, ev0, ev1, ev2⟩ : ∃ e : Int, (if v + r3 < m - 1 then v + r3 else m - 1) = e ∧ v ≤ e ∧ e ≤ m - 1 ∧ e ≤ v + 30 := by
        refine ⟨_, rfl, ?_, ?_, ?_⟩ <;> split <;> omega
      rw [he]
      refine ⟨.int v, rfl, .int e, rfl, e, 1, rfl, rfl, v, e + 1, rfl, ⟨by omega, by omega, by omega, by omega⟩, fun D nD => ?_⟩
      obtain ⟨L, hL⟩ : ∃ L : Nat, (e + 1 - v).toNat = L + 1 := ⟨(e - v).toNat, by omega⟩
      rw [hL]
      refine lc_it (walk_range (lo := v) (n := L + 1)) (fun i H7 => Same H6 H7 ∧ H7 D = some (.lst ((dys t m v i).map V.int)) ∧ i ≤ L + 1) ⟨same_new nD, upd_same, by omega⟩ (fun _ _ _ _ => True.intro) ?_ ?_
      · rintro i x H0 H7 hi ⟨s7, e7, _⟩ ⟨rfl, rfl⟩
        refine ⟨rfl, ?_⟩
        refine ⟨.int t, rfl, .int m, rfl, _, rfl, t, m, v + i, v + i, .non, rfl, .inr ⟨rfl, rfl⟩, t0, t1, m0, m1, _, e7, ?_, ?_, ?_, hi⟩
        · rw [List.length_map, dys_len]
          exact small1000 (by omega)
        · intro a o ha
          rw [upd_ne (ne_of_none ha nD)]
          exact s7 _ _ ha
        · rw [upd_same, dys_succ, List.map_append]
          rfl
      · rintro H7 ⟨s7, e7, _⟩
        have hD : SqL K H7 D ((dys t m v (L + 1)).map V.int) := .inl (.inl e7)
        have hs := dys_sum t m v (L + 1)
        rw [show v + ((L + 1 : Nat) : Int) - 1 = e by omega] at hs
        refine ⟨.ref D, rfl, D, dys t m v (L + 1), rfl, hD, .int t, rfl, .int m, rfl, .int v, rfl, .int e, rfl, t, m, v, e, _, rfl, .inl rfl, t0, t1, m0, m1, rfl, _, rfl, iteNS (by rw [hs]) ?_⟩
        refine ⟨.ref D, rfl, D, rfl, ⟨_, hD⟩, fun D2 nD2 => ?_⟩
        refine lc_it ((walk_list (K := K) (a := D) (xs := (dys t m v (L + 1)).map V.int)).mono (fun H8 (e : Same H7 H8) => L2.Same.seq e hD) (fun _ _ _ _ _ _ y => y)) (fun i H8 => Same H7 H8 ∧ H8 D2 = some (.lst ((List.replicate i true).map V.bl)) ∧ i ≤ L + 1) ⟨same_new nD2, upd_same, by omega⟩ (fun _ _ _ h => h.1) ?_ ?_
        · rintro i x H0 H8 hi ⟨s8, e8, _⟩ ⟨rfl, ex⟩
          rw [List.length_map, dys_len] at hi
          obtain ⟨z, _, rfl, _⟩ := getI ex
          refine ⟨rfl, ?_⟩
          refine ⟨_, rfl, z, rfl, _, e8, ?_, ?_, ?_, hi⟩
          · rw [List.length_map, List.length_replicate]
            exact small1000 (by omega)
          · intro a o ha
            rw [upd_ne (ne_of_none ha nD2)]
            exact s8 _ _ ha
          · rw [upd_same, List.replicate_succ', List.map_append]
            rfl
        · rintro H8 ⟨s8, e8, _⟩
          refine ⟨D2, _, rfl, .inl (.inl e8), _, rfl, ?_⟩
          rw [all_true]
          refine iteF ?_
          have hD8 := L2.Same.seq s8 hD
          refine ⟨.ref D, rfl, D, rfl, ⟨_, hD8⟩, fun D3 nD3 => ?_⟩
          refine lc_it ((walk_list (K := K) (a := D) (xs := (dys t m v (L + 1)).map V.int)).mono (fun H9 (e : Same H8 H9) => L2.Same.seq e hD8) (fun _ _ _ _ _ _ y => y)) (fun i H9 => Same H8 H9 ∧ H9 D3 = some (.lst ((List.replicate i true).map V.bl)) ∧ i ≤ L + 1) ⟨same_new nD3, upd_same, by omega⟩ (fun _ _ _ h => h.1) ?_ ?_
          · rintro i x H0 H9 hi ⟨s9, e9, _⟩ ⟨rfl, ex⟩
            rw [List.length_map, dys_len] at hi
            obtain ⟨z, hz, rfl, _⟩ := getI ex
            obtain ⟨z0, z1⟩ := dys_mem m0 hz
            refine ⟨rfl, ?_⟩
            refine ⟨.int t, rfl, .int m, rfl, t, m, rfl, rfl, ⟨m0, by omega⟩, _, rfl, _, z, rfl, rfl, _, rfl, iteDT z0 ⟨.int t, rfl, .int m, rfl, t, m, rfl, rfl, ⟨m0, by omega⟩, _, 1, rfl, rfl, z, _, rfl, rfl, _, e9, ?_, ?_, ?_, hi⟩⟩
            · rw [List.length_map, List.length_replicate]
              exact small1000 (by omega)
            · intro a o ha
              rw [upd_ne (ne_of_none ha nD3)]
              exact s9 _ _ ha
            · rw [upd_same, List.replicate_succ', List.map_append]
              dsimp only
              rw [decide_eq_true z1]
              rfl
          · rintro H9 ⟨s9, e9, _⟩
            refine ⟨D3, _, rfl, .inl (.inl e9), _, rfl, ?_⟩
            rw [all_true]
            refine iteF ?_
            have hD9 := L2.Same.seq s9 hD8
            have h0 : atI ((dys t m v (L + 1)).map V.int) 0 = some (.int (pt t m v v)) := by
              have hl : (0 : Int).toNat < (dys t m v (L + 1)).length := by
                rw [dys_len]
                exact Nat.succ_pos L
              rw [atI_int (Int.le_refl 0) hl]
              unfold dys
              simp
            refine ⟨.ref D, rfl, D, _, 0, _, rfl, rfl, hD9, h0, .int t, rfl, .int m, rfl, .int v, rfl, .int v, rfl, t, m, v, v, _, rfl, .inl rfl, t0, t1, m0, m1, rfl, _, rfl, iteDT rfl ⟨.int t, rfl, .int m, rfl, .int v, rfl, t, m, v, v, .non, rfl, .inr ⟨rfl, rfl⟩, t0, t1, m0, m1, rfl, ?_⟩⟩
            rw [decide_eq_true rfl]
            have sZ := (s7.trans s8).trans s9
            exact q _ (kH6.trans (But.of_same sZ)) ((hb6.same sZ).le (by omega))
end
end K06

set_option Elab.async false
set_option linter.all false
set_option maxRecDepth 100000
set_option maxHeartbeats 4000000
namespace K06
open PySem PySem.Spec PyProof.Rows L2 Lt
section
variable {P : Program} {w : World} {K : PySem.W.Frag} {mg : Str → Option Value} {base : Heap} {f : Addr} {fd : FuncData}
def spLaw (K : PySem.W.Frag) : Sp := fun vs H Q _ => ∃ (a : Addr) (ns : List Int), vs = [.ref a] ∧ SqL K H a (ns.map V.int) ∧ ns.length ≤ 63 ∧ ∀ H', Q (.bl true) H'
abbrev st_law : Stmt := topS 11
theorem sc_law : FnScope ["_law_script", "_law_cells", "_law_k", "_law_box", "_law_turn", "_law_many"] ["_law_script"] (defScope st_law) := ⟨rfl, rfl, rfl, by decide +kernel, rfl, by decide +kernel, by decide +kernel⟩
theorem ok_law (F : FnP K "law" st_law f fd) (T : Bl mg)
    (C__law_folded : Cal P w K mg base "_law_folded" 1 ["_law_script", "_law_size"] [] (spFold K))
    (C__law_dip : Cal P w K mg base "_law_dip" 1 ["_law_script", "_law_k"] [] (spDip K))
    (C__law_take : Cal P w K mg base "_law_take" 1 ["_law_box", "_law_many"] [] spTake)
    (C__law_total : Cal P w K mg base "_law_total" 2 ["_law_box"] [] spTotal)
    (C__law_right : Cal P w K mg base "_law_right" 3 ["_law_box", "_law_total_here", "_law_many"] [] spRight) :
    FnOk P w K mg base CX0 4 f fd ["_law_script"] (spLaw K) := by
  refine F.ok sc_law (fun vs H Q E h => ?_) (fun cdv A outer s H vs Q E hr h => ?_)
  · obtain ⟨a, ns, rfl, _⟩ := h
    rfl
  · obtain ⟨a, ns, rfl, hS, hn, q⟩ := h
    refine ⟨_, PSs.nox (pss_cons (ps_set (i := 1) sc_law.nd rfl (.inl rfl) (pe_cal C__law_folded (hr.mono (by decide)) rfl (pa_cons (pv 0) (pa_cons pe_int pa_nil))))
      (pss_cons (ps_for PassesOwn.never rfl (pi_range1 (by rfl) T.b_range (pa_cons (pe_op op_add pe_int (pe_callB call_len_seq (by rfl) T.b_len (by decide +kernel) (pa_cons (pv 1) pa_nil))) pa_nil)) (pg_name (i := 2) sc_law.nd rfl (.inl rfl))
        (pss_cons (ps_set (i := 3) sc_law.nd rfl (.inl rfl) (pe_cal C__law_dip (hr.mono (by decide)) rfl (pa_cons (pv 1) (pa_cons (pv 2) pa_nil))))
        (pss_one (ps_for PassesOwn.never rfl (pi_range1 (by rfl) T.b_range (pa_cons pe_int pa_nil)) (pg_name (i := 4) sc_law.nd rfl (.inl rfl))
          (pss_cons (ps_set (i := 5) sc_law.nd rfl (.inl rfl) (pe_ix ix_list (pe_lst (pa_cons pe_int (pa_cons pe_int (pa_cons pe_int (pa_cons pe_int (pa_cons (pe_op op_add pe_int (pe_cal C__law_take (hr.mono (by decide)) rfl (pa_cons (pv 3) (pa_cons pe_int pa_nil)))) (pa_cons (pe_op op_add pe_int (pe_cal C__law_take (hr.mono (by decide)) rfl (pa_cons (pv 3) (pa_cons pe_int pa_nil)))) pa_nil))))))) (pe_cal C__law_take (hr.mono (by decide)) rfl (pa_cons (pv 3) (pa_cons pe_int pa_nil))) (fun _ _ => rfl)))
          (pss_one (ps_if (pt_not (pt_val (pe_cal C__law_right (hr.mono (by decide)) rfl (pa_cons (pv 3) (pa_cons (pe_cal C__law_total (hr.mono (by decide)) rfl (pa_cons (pv 3) pa_nil)) (pa_cons (pv 5) pa_nil))))))
            (pss_one (ps_ret pe_bl))
            pss_nil)))))))
      (pss_one (ps_ret pe_bl)))), ?_⟩
    refine ⟨.ref a, rfl, a, ns, 4, rfl, hS, hn, by decide, by decide, fun pc ms H1 npc s1 ec lm lk => ?_⟩
    refine ⟨.ref pc, rfl, pc, _, rfl, .inl (.inl (.inl ec)), 1, _, rfl, rfl, _, rfl, ?_, ?_, for_it walk_range (fun i σ H2 => ∃ (y2 y3 y4 y5 : Option V), σ = [some (.ref a), some (.ref pc), y2, y3, y4, y5] ∧ Same H1 H2) ⟨_, _, _, _, rfl, Same.refl _⟩ (fun _ _ _ _ _ => True.intro) ?_ ?_⟩
    · rw [List.length_map]
      omega
    · rw [List.length_map]
      omega
    · rintro i x σ H0 H2 hi ⟨y2, y3, y4, y5, rfl, s2⟩ ⟨rfl, rfl⟩
      have hi2 : (i : Int) ≤ 63 := by
        rw [List.length_map] at hi
        omega
      refine ⟨.ref pc, rfl, .int (0 + i), rfl, pc, ms, _, rfl, .inl (.inl (s2 _ _ ec)), by omega, by omega, fun b H3 nb s3 hb => ?_⟩
      refine ⟨5, rfl, by decide, by decide, for_it walk_range (fun j σ H4 => ∃ (y4 y5 : Option V), σ = [some (.ref a), some (.ref pc), some (.int (0 + i)), some (.ref b), y4, y5] ∧ But b H3 H4 ∧ Box H4 b (30 * (j : Int))) ⟨_, _, rfl, But.refl _ _, hb.le (by omega)⟩ (fun _ _ _ _ _ => True.intro) ?_ ?_⟩
      · rintro j x σ H0 H4 hj ⟨y4, y5, rfl, k4, hb4⟩ ⟨rfl, rfl⟩
        have hj' : j < 5 := hj
        refine ⟨.ref b, rfl, b, 12, 30 * (j : Int), rfl, by decide, by decide, hb4, by omega, fun r1 H5 a0 a1 k5 hb5 => ⟨1, _, rfl, rfl, ?_⟩⟩
        refine ⟨.ref b, rfl, b, 4000, 30 * (j : Int) + 1, rfl, by decide, by decide, hb5, by omega, fun r2 H6 b0 b1 k6 hb6 => ⟨1, _, rfl, rfl, sz 6, fun l nl => new_at nl fun H7 s7 e7 => ?_⟩⟩
        have nbl : b ≠ l := hb6.ne nl
        refine ⟨.ref b, rfl, b, 6, 30 * (j : Int) + 2, rfl, by decide, by decide, (hb6.same s7).le (by omega), by omega, fun r3 H8 c0 c1 k8 hb8 => ?_⟩
        have e8 := k8 _ _ e7 nbl.symm
        obtain ⟨m, hm, m0, m1⟩ : ∃ m : Int, atI [V.int 1, .int 91, .int 364, .int 4000, .int (1 + r1), .int (1 + r2)] r3 = some (.int m) ∧ 0 < m ∧ m ≤ 4000 := by
          have hw : r3 = 0 ∨ r3 = 1 ∨ r3 = 2 ∨ r3 = 3 ∨ r3 = 4 ∨ r3 = 5 := by omega
          rcases hw with rfl | rfl | rfl | rfl | rfl | rfl
          · exact ⟨1, rfl, by decide, by decide⟩
          · exact ⟨91, rfl, by decide, by decide⟩
          · exact ⟨364, rfl, by decide, by decide⟩
          · exact ⟨4000, rfl, by decide, by decide⟩
          · exact ⟨1 + r1, rfl, by omega, by omega⟩
          · exact ⟨1 + r2, rfl, by omega, by omega⟩
        refine ⟨l, _, r3, .int m, rfl, rfl, .inl (.inl e8), hm, ?_⟩
        refine ⟨.ref b, rfl, .ref b, rfl, b, 30 * (j : Int) + 3, rfl, hb8.le (by omega), by omega, fun t H9 t0 t1 k9 hb9 => ⟨.int m, rfl, b, t, m, 30 * (j : Int) + 9, rfl, t0, t1, m0, m1, hb9.le (by omega), by omega, fun HX kX hbX => ⟨true, rfl, iteF ?_⟩⟩⟩
        exact ⟨_, _, rfl, (((((k4.trans k5).trans k6).trans (But.of_same s7)).trans k8).trans k9).trans kX, hbX.le (by omega)⟩
      · rintro σ H4 ⟨y4, y5, rfl, k4, hb4⟩
        exact ⟨_, _, _, _, rfl, fun c o hc => k4 _ _ (s3 _ _ (s2 _ _ hc)) (ne_of_none hc (s2.free nb))⟩
    · rintro σ H2 ⟨y2, y3, y4, y5, rfl, s2⟩
      exact q _
end
/-! the head: facts by names, the run -/
def d_part_of : He.DefD := ⟨("part_of", none), "part_of", "part_of", defArgs st_part_of, defBody st_part_of, defScope st_part_of, [.non], []⟩
def d__law_dip : He.DefD := ⟨("_law_dip", none), "_law_dip", "_law_dip", defArgs st__law_dip, defBody st__law_dip, defScope st__law_dip, [], []⟩
def d__law_take : He.DefD := ⟨("_law_take", none), "_law_take", "_law_take", defArgs st__law_take, defBody st__law_take, defScope st__law_take, [], []⟩
def d__law_folded : He.DefD := ⟨("_law_folded", none), "_law_folded", "_law_folded", defArgs st__law_folded, defBody st__law_folded, defScope st__law_folded, [], []⟩
def d__law_total : He.DefD := ⟨("_law_total", none), "_law_total", "_law_total", defArgs st__law_total, defBody st__law_total, defScope st__law_total, [], []⟩
def d__law_is_number : He.DefD := ⟨("_law_is_number", none), "_law_is_number", "_law_is_number", defArgs st__law_is_number, defBody st__law_is_number, defScope st__law_is_number, [], []⟩
def d__law_due : He.DefD := ⟨("_law_due", none), "_law_due", "_law_due", defArgs st__law_due, defBody st__law_due, defScope st__law_due, [], []⟩
def d__law_cut : He.DefD := ⟨("_law_cut", none), "_law_cut", "_law_cut", defArgs st__law_cut, defBody st__law_cut, defScope st__law_cut, [], []⟩
def d__law_right : He.DefD := ⟨("_law_right", none), "_law_right", "_law_right", defArgs st__law_right, defBody st__law_right, defScope st__law_right, [], []⟩
def d_law : He.DefD := ⟨("law", none), "law", "law", defArgs st_law, defBody st_law, defScope st_law, [], []⟩
def fn : List He.DefD := [d_part_of, d__law_dip, d__law_take, d__law_folded, d__law_total, d__law_is_number, d__law_due, d__law_cut, d__law_right, d_law]
def fa : List He.Fa := [.glo "part_of", .glo "_law_dip", .glo "_law_take", .glo "_law_folded", .glo "_law_total", .glo "_law_is_number", .glo "_law_due", .glo "_law_cut", .glo "_law_right", .glo "law", .free "len", .free "abs", .free "int", .free "list", .free "tuple", .free "str", .free "bool", .free "set", .free "range", .free "enumerate", .free "zip", .free "isinstance", .free "all", .free "any", .free "sum", .free "min", .free "max", .free "sorted"]
abbrev R : PySem.W.OpenRow := PySem.W.OpenLaw.row PySem.Challenge.rw_lettolls_k06_parts_by_days
abbrev hk : PySem.W.Hook := He.hookD 4 fa fn
def ob (s : PySem.W.SharedT) : He.AlD := He.obsDG 4 fa fn (HandSHeadRun.getT s)
theorem ob_eq (s : PySem.W.SharedT) : ob s = hk.obs s.abs := He.obsDG_eq (HandSHeadRun.getT_eq s)
def loose : List PySem.Str := ["part_of", "_law_dip", "_law_take", "_law_folded", "_law_total", "_law_is_number", "_law_due", "_law_cut", "_law_right"]
theorem run (w : World) : HandSHeadRun.RunEq R (PySem.W.view R.prog [11]) hk ob 800 loose w := by
  intro os
  kernel_rfl
theorem bl_of {K : PySem.W.Frag} {h : Heap} {mg : Str → Option Value} (X : K.In h) (G : h.Ns mainGlobals mg) (c : He.SaysD fa fn K) : Bl mg where
  b_len := He.free_ok X G (c.fact 10 (f := .free "len") rfl)
  b_abs := He.free_ok X G (c.fact 11 (f := .free "abs") rfl)
  b_int := He.free_ok X G (c.fact 12 (f := .free "int") rfl)
  b_list := He.free_ok X G (c.fact 13 (f := .free "list") rfl)
  b_tuple := He.free_ok X G (c.fact 14 (f := .free "tuple") rfl)
  b_str := He.free_ok X G (c.fact 15 (f := .free "str") rfl)
  b_bool := He.free_ok X G (c.fact 16 (f := .free "bool") rfl)
  b_set := He.free_ok X G (c.fact 17 (f := .free "set") rfl)
  b_range := He.free_ok X G (c.fact 18 (f := .free "range") rfl)
  b_enumerate := He.free_ok X G (c.fact 19 (f := .free "enumerate") rfl)
  b_zip := He.free_ok X G (c.fact 20 (f := .free "zip") rfl)
  b_isinstance := He.free_ok X G (c.fact 21 (f := .free "isinstance") rfl)
  b_all := He.free_ok X G (c.fact 22 (f := .free "all") rfl)
  b_any := He.free_ok X G (c.fact 23 (f := .free "any") rfl)
  b_sum := He.free_ok X G (c.fact 24 (f := .free "sum") rfl)
  b_min := He.free_ok X G (c.fact 25 (f := .free "min") rfl)
  b_max := He.free_ok X G (c.fact 26 (f := .free "max") rfl)
  b_sorted := He.free_ok X G (c.fact 27 (f := .free "sorted") rfl)
theorem g_part_of {K : PySem.W.Frag} {h : Heap} {mg : Str → Option Value} (X : K.In h) (G : h.Ns mainGlobals mg) (c : He.SaysD fa fn K) : mg "part_of" = some (.ref (He.fAd K ("part_of", none))) := He.glo_ok X G (c.fact 0 (f := .glo "part_of") rfl)
theorem g__law_dip {K : PySem.W.Frag} {h : Heap} {mg : Str → Option Value} (X : K.In h) (G : h.Ns mainGlobals mg) (c : He.SaysD fa fn K) : mg "_law_dip" = some (.ref (He.fAd K ("_law_dip", none))) := He.glo_ok X G (c.fact 1 (f := .glo "_law_dip") rfl)
theorem g__law_take {K : PySem.W.Frag} {h : Heap} {mg : Str → Option Value} (X : K.In h) (G : h.Ns mainGlobals mg) (c : He.SaysD fa fn K) : mg "_law_take" = some (.ref (He.fAd K ("_law_take", none))) := He.glo_ok X G (c.fact 2 (f := .glo "_law_take") rfl)
theorem g__law_folded {K : PySem.W.Frag} {h : Heap} {mg : Str → Option Value} (X : K.In h) (G : h.Ns mainGlobals mg) (c : He.SaysD fa fn K) : mg "_law_folded" = some (.ref (He.fAd K ("_law_folded", none))) := He.glo_ok X G (c.fact 3 (f := .glo "_law_folded") rfl)
theorem g__law_total {K : PySem.W.Frag} {h : Heap} {mg : Str → Option Value} (X : K.In h) (G : h.Ns mainGlobals mg) (c : He.SaysD fa fn K) : mg "_law_total" = some (.ref (He.fAd K ("_law_total", none))) := He.glo_ok X G (c.fact 4 (f := .glo "_law_total") rfl)
theorem g__law_is_number {K : PySem.W.Frag} {h : Heap} {mg : Str → Option Value} (X : K.In h) (G : h.Ns mainGlobals mg) (c : He.SaysD fa fn K) : mg "_law_is_number" = some (.ref (He.fAd K ("_law_is_number", none))) := He.glo_ok X G (c.fact 5 (f := .glo "_law_is_number") rfl)
theorem g__law_due {K : PySem.W.Frag} {h : Heap} {mg : Str → Option Value} (X : K.In h) (G : h.Ns mainGlobals mg) (c : He.SaysD fa fn K) : mg "_law_due" = some (.ref (He.fAd K ("_law_due", none))) := He.glo_ok X G (c.fact 6 (f := .glo "_law_due") rfl)
theorem g__law_cut {K : PySem.W.Frag} {h : Heap} {mg : Str → Option Value} (X : K.In h) (G : h.Ns mainGlobals mg) (c : He.SaysD fa fn K) : mg "_law_cut" = some (.ref (He.fAd K ("_law_cut", none))) := He.glo_ok X G (c.fact 7 (f := .glo "_law_cut") rfl)
theorem g__law_right {K : PySem.W.Frag} {h : Heap} {mg : Str → Option Value} (X : K.In h) (G : h.Ns mainGlobals mg) (c : He.SaysD fa fn K) : mg "_law_right" = some (.ref (He.fAd K ("_law_right", none))) := He.glo_ok X G (c.fact 8 (f := .glo "_law_right") rfl)
theorem facts {P : Program} {w : World} {K : PySem.W.Frag} {h : Heap} {mg : Str → Option Value} {f : Addr} (X : K.In h) (G : h.Ns mainGlobals mg) (hfa : mg ("law" : Str) = some (.ref f)) (c : He.SaysD fa fn K) :
    ∃ fd : FuncData, (∀ (s : Shared) (v : Value), BindsTo s fd ⟨[v], []⟩ [("_law_script", v)]) ∧ ∀ base : Heap, K.In base → base.Ns mainGlobals mg → FnOk P w K mg base CX0 4 f fd ["_law_script"] (spLaw K) := by
  obtain ⟨fd_part_of, F_part_of⟩ := c.def_ 0 (d := d_part_of) rfl
  obtain ⟨fd__law_dip, F__law_dip⟩ := c.def_ 1 (d := d__law_dip) rfl
  obtain ⟨fd__law_take, F__law_take⟩ := c.def_ 2 (d := d__law_take) rfl
  obtain ⟨fd__law_folded, F__law_folded⟩ := c.def_ 3 (d := d__law_folded) rfl
  obtain ⟨fd__law_total, F__law_total⟩ := c.def_ 4 (d := d__law_total) rfl
  obtain ⟨fd__law_is_number, F__law_is_number⟩ := c.def_ 5 (d := d__law_is_number) rfl
  obtain ⟨fd__law_due, F__law_due⟩ := c.def_ 6 (d := d__law_due) rfl
  obtain ⟨fd__law_cut, F__law_cut⟩ := c.def_ 7 (d := d__law_cut) rfl
  obtain ⟨fd__law_right, F__law_right⟩ := c.def_ 8 (d := d__law_right) rfl
  obtain ⟨fd_law, F_law⟩ := c.def_ 9 (d := d_law) rfl
  have e := hfa.symm.trans (He.glo_ok X G (c.fact 9 (f := .glo "law") rfl))
  cases e
  have T := bl_of X G c
  have b := FunD.bindsA (ps := ["_law_script"]) F_law fun _ _ _ _ _ _ us hl => match us, hl with | [_], _ => rfl
  refine ⟨fd_law, fun s v => b s [v] rfl, fun base _ _ => ?_⟩
  have b__law_dip : Binds K fd__law_dip ["_law_script", "_law_k"] [] := F__law_dip.bindsN fun _ _ _ _ _ _ us hl => match us, hl with | [_, _], _ => rfl
  have b__law_take : Binds K fd__law_take ["_law_box", "_law_many"] [] := F__law_take.bindsN fun _ _ _ _ _ _ us hl => match us, hl with | [_, _], _ => rfl
  have b__law_folded : Binds K fd__law_folded ["_law_script", "_law_size"] [] := F__law_folded.bindsN fun _ _ _ _ _ _ us hl => match us, hl with | [_, _], _ => rfl
  have b__law_total : Binds K fd__law_total ["_law_box"] [] := F__law_total.bindsN fun _ _ _ _ _ _ us hl => match us, hl with | [_], _ => rfl
  have b__law_is_number : Binds K fd__law_is_number ["_law_thing"] [] := F__law_is_number.bindsN fun _ _ _ _ _ _ us hl => match us, hl with | [_], _ => rfl
  have b__law_due : Binds K fd__law_due ["_law_total_here", "_law_many", "_law_first", "_law_end"] [] := F__law_due.bindsN fun _ _ _ _ _ _ us hl => match us, hl with | [_, _, _, _], _ => rfl
  have b__law_cut : Binds K fd__law_cut ["_law_box", "_law_many"] [] := F__law_cut.bindsN fun _ _ _ _ _ _ us hl => match us, hl with | [_, _], _ => rfl
  have b__law_right : Binds K fd__law_right ["_law_box", "_law_total_here", "_law_many"] [] := F__law_right.bindsN fun _ _ _ _ _ _ us hl => match us, hl with | [_, _, _], _ => rfl
  have C1 : ∀ {x : Str} {ps : List Str} {f : Addr} {fd : FuncData} {k : Nat} {sp : Sp}, FnOk P w K mg base CX0 k f fd ps sp → mg x = some (.ref f) → PySem.W.keepIn K (.ref f) = true → Binds K fd ps [] → Cal P w K mg base x k ps [] sp := fun F g kp b => ⟨_, _, [], F, g, kp, .nil, b⟩
  have Ctake := C1 (ok_take (base := base) (P := P) (w := w) F__law_take) (g__law_take X G c) F__law_take.kp b__law_take
  have Fp := ok_part_of (base := base) (mg := mg) (P := P) (w := w) F_part_of
  obtain ⟨ds4, v4, b4⟩ := FunD.binds1 (ps := ["total", "many", "first", "last"]) F_part_of 4 1 (by intro z; cases z) rfl (fun A kV doc pm an cdv ct us its h1 h2 => match us, its, h1, h2 with | [_, _, _, _], [_], _, _ => ⟨_, rfl, rfl⟩)
  obtain ⟨ds3, v3, b3⟩ := FunD.binds1 (ps := ["total", "many", "first", "last"]) F_part_of 3 0 (by intro z; cases z) rfl (fun A kV doc pm an cdv ct us its h1 h2 => match us, its, h1, h2 with | [_, _, _], [_], _, _ => ⟨_, rfl, rfl⟩)
  obtain ⟨its, kb⟩ := F_part_of.kbindsD (ps := ["total", "many", "first", "last"]) 3 ["last"] (fun us _ ws => us ++ ws) (by intro z; cases z) (fun r1 _ r2 => r1.append r2) (fun A kV doc pm an cdv ct us its ws h1 h2 h3 => match us, its, ws, h1, h2, h3 with | [_, _, _], [_], [_], _, _, _ => ⟨_, rfl, rfl⟩)
  exact ok_law F_law T (C1 (ok_folded F__law_folded T) (g__law_folded X G c) F__law_folded.kp b__law_folded) (C1 (ok_dip F__law_dip T) (g__law_dip X G c) F__law_dip.kp b__law_dip) Ctake
    (C1 (ok_total F__law_total Ctake) (g__law_total X G c) F__law_total.kp b__law_total)
    (C1 (ok_right F__law_right T Ctake (C1 (ok_cut F__law_cut T Ctake) (g__law_cut X G c) F__law_cut.kp b__law_cut) (C1 (ok_is_number F__law_is_number T) (g__law_is_number X G c) F__law_is_number.kp b__law_is_number)
      (C1 (ok_due F__law_due) (g__law_due X G c) F__law_due.kp b__law_due) ⟨_, _, ds4, Fp, g_part_of X G c, F_part_of.kp, v4, b4⟩ ⟨_, _, ds3, Fp, g_part_of X G c, F_part_of.kp, v3, b3⟩ ⟨_, _, _, Fp, g_part_of X G c, F_part_of.kp, kb⟩) (g__law_right X G c) F__law_right.kp b__law_right)
end K06
open PySem PySem.W PySem.Calls PyProof.Rows
set_option maxHeartbeats 0 in
theorem PySem.Challenge.cw_lettolls_k06_parts_by_days_holds : PySem.Challenge.rw_lettolls_k06_parts_by_days.Holds := by
  w_on; o_law
  refine HandSHeadRun.head_any (r := OpenLaw.row PySem.Challenge.rw_lettolls_k06_parts_by_days) (q := view (OpenLaw.row PySem.Challenge.rw_lettolls_k06_parts_by_days).prog [11]) (H := K06.hk) (ob := K06.ob) (M := 800) (loose := K06.loose) (d := HandSHeadRun.topDef (OpenLaw.row PySem.Challenge.rw_lettolls_k06_parts_by_days).prog 11) (kwd := []) K06.ob_eq
    (by kernel_rfl) (fun s => by kernel_rfl) K06.run (by kernel_rfl) (by kernel_rfl) (by kernel_rfl) (by rfl) (by first | assumption | decide +kernel) (by decide +kernel) ⟨rfl, rfl, rfl, rfl, rfl, by decide +kernel⟩ ?hw ?hc
  case hw => w_witness2
  case hc =>
    refine L2.walk_ofE (l := PySem.Challenge.rw_lettolls_k06_parts_by_days) (n := 63) (k := 4) (x := "_law_script") (CX := L2.CX0) rfl (by decide) (by kernel_rfl) ⟨rfl, by decide, by decide⟩ ?F (fun _ _ _ _ z => z)
    intro w mg fa h Y G hmg0
    obtain ⟨K, KX, c⟩ := Y
    have hmg : mg ("law" : PySem.Str) = some (.ref fa) := by
      have e : (HandSHeadRun.topDef (OpenLaw.row PySem.Challenge.rw_lettolls_k06_parts_by_days).prog 11).name = ("law" : PySem.Str) := by kernel_rfl
      rw [← e]
      exact hmg0
    obtain ⟨fd, hb, hF⟩ := K06.facts (P := (PySem.Challenge.rw_lettolls_k06_parts_by_days).prog) (w := w) KX G hmg c
    exact ⟨K, fd, K06.spLaw K, KX, hb, fun H a ns hl _ hS => ⟨a, ns, rfl, hS, hl, fun _ => rfl⟩, hF⟩
