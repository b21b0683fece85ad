import PyProof.Rows.All
import Wide.All
import OpenK.AllK
import Wide.FinOn
import KE.KStateDown
import Lean
import HandS.ForMost
import HandS.Exc
import HandS.WordsExc
import HandS.Defaults
import HandS.Wide
import HandS.Walk
import HandS.MakeKw
import HandS.Style
import HandS.Flow
import HandS.IsInst
import HandS.Strs
import HandS.Zip
import HandS.SortInts
import HandS.Head0
import HandS.Head1
import HandS.Head2
import HandS.HeadEnd
import HandS.HeadHook1
import HandS.HeadHook2
import PySem.Challenge.RW_lettolls_k05_years_and_quarters
set_option Elab.async false
set_option linter.all false
set_option maxRecDepth 100000
set_option maxHeartbeats 4000000
/-! own rules over the layer: calls by a packed promise, constants of the module, a box of three numbers -/
namespace Lt
open PySem PySem.Spec PyProof.Rows L2
/-- a def by its name, packed: it stands, it keeps sp; dvs are the defaults that fill up -/
def Cal (P : Program) (w : World) (K : PySem.W.Frag) (mg : Str → Option Value) (base : Heap) (x : Str) (k : Nat) (ps : List Str) (dvs : List V) (sp : Sp) : Prop :=
  ∃ (f : Addr) (fd : FuncData) (ds : List Value), FnOk P w K mg base CX0 k f fd ps sp ∧ mg x = some (.ref f) ∧
    PySem.W.keepIn K (.ref f) = true ∧ Vals dvs ds ∧ Binds K fd ps ds
/-- the same with keywords -/
def CalK (P : Program) (w : World) (K : PySem.W.Frag) (mg : Str → Option Value) (base : Heap) (x : Str) (k : Nat) (ps : List Str) (n : Nat) (ks : List Str) (gV : List V → List V → List V) (sp : Sp) : Prop :=
  ∃ (f : Addr) (fd : FuncData) (g : List Value → List Value → List Value), FnOk P w K mg base CX0 k f fd ps sp ∧
    mg x = some (.ref f) ∧ PySem.W.keepIn K (.ref f) = true ∧ KBn K fd ps n ks g gV
section
variable {X : Cx} {k n : Nat} {ps ks : List Str} {sp : Sp} {dvs : List V} {x : Str} {p pos : Pos} {e : Expr}
variable {es : List Expr} {kws : List Keyword} {t tk : TA} {gV : List V → List V → List V}
theorem pe_cal (C : Cal X.prog X.w X.K X.mg X.base x k ps dvs sp) (hr : Room k X.A) (hg : Gl X x) (ha : PA X (e :: es) t)
    (hdb : (x == ("__debug__" : Str)) = false := by decide)
    (he : starEach (e :: es) X.env = (false, eval e X.env) :: starEach es X.env := by rfl)
    (hpl : (backTo pos (starEach es X.env)).any (·.1) = false := by rfl) :
    PE X (.Call (.Name x p) (e :: es) [] pos) (tCall sp dvs E0 t) := by
  obtain ⟨f, fd, ds, F, hm, hk, hv, hb⟩ := C
  exact pe_call F hr hg hm hk hb hv pass0 ha hdb he hpl
theorem pe_cal0 (C : Cal X.prog X.w X.K X.mg X.base x k ps dvs sp) (hr : Room k X.A) (hg : Gl X x)
    (hdb : (x == ("__debug__" : Str)) = false := by decide) : PE X (.Call (.Name x p) [] [] pos) (tCall sp dvs E0 tNil) := by
  obtain ⟨f, fd, ds, F, hm, hk, hv, hb⟩ := C
  exact pe_call0 F hr hg hm hk hb hv pass0 hdb
theorem pe_calk (C : CalK X.prog X.w X.K X.mg X.base x k ps n ks gV sp) (hr : Room k X.A) (hg : Gl X x) (ha : PA X (e :: es) t) (hkw : PK X kws tk)
    (hall : (backToKw pos (keywordEach kws X.env)).all (·.1.isSome) = true := by rfl)
    (hks : (backToKw pos (keywordEach kws X.env)).filterMap (·.1) = ks := by rfl)
    (hdb : (x == ("__debug__" : Str)) = false := by decide)
    (he : starEach (e :: es) X.env = (false, eval e X.env) :: starEach es X.env := by rfl)
    (hpl : ((backTo pos (starEach (e :: es) X.env)).any (·.1) || (backToKw pos (keywordEach kws X.env)).any (·.1.isNone)) = false := by rfl) :
    PE X (.Call (.Name x p) (e :: es) kws pos) (tCallN n ks.length sp gV E0 t tk) := by
  obtain ⟨f, fd, g, F, hm, hk, hb⟩ := C
  exact pe_callN F hr hg hm hk hb pass0 ha hkw hall hks hdb he hpl
theorem pe_calk0 (C : CalK X.prog X.w X.K X.mg X.base x k ps 0 ks gV sp) (hr : Room k X.A) (hg : Gl X x) (hkw : PK X kws tk)
    (hall : (backToKw pos (keywordEach kws X.env)).all (·.1.isSome) = true := by rfl)
    (hks : (backToKw pos (keywordEach kws X.env)).filterMap (·.1) = ks := by rfl)
    (hdb : (x == ("__debug__" : Str)) = false := by decide)
    (hpl : ((backTo pos (starEach [] X.env)).any (·.1) || (backToKw pos (keywordEach kws X.env)).any (·.1.isNone)) = false := by rfl) :
    PE X (.Call (.Name x p) [] kws pos) (tCallN 0 ks.length sp gV E0 tNil tk) := by
  obtain ⟨f, fd, g, F, hm, hk, hb⟩ := C
  refine ⟨fun pins s σ H Q I h => wpAny_Call_Name_kw (ld_glob I hg hm ?_ hdb)⟩
  refine PySem.W.callWith_KW0 (h₀ := X.base) I.ok.mod.kin hk hall (thn (hkw.run pos pins s σ H _ I h) fun ws s2 hw => ?_) hpl
  obtain ⟨zs, H2, I2, rz, l1, l2, q2⟩ := hw
  refine ⟨I2.kIn, ?_⟩
  rw [hks]
  exact run_fnN (us := []) (vs := []) F hr hb pass0 I2 .nil rz rfl l2 q2
/-- a constant of the module -/
def Cst (mg : Str → Option Value) (x : Str) (v : V) : Prop := ∃ u, mg x = some u ∧ RelV v u
theorem pe_cst {v : V} (h : Cst X.mg x v) (hg : Gl X x := by rfl) (hd : (x == ("__debug__" : Str)) = false := by decide) : PE X (.Name x pos) (tC v) := by
  obtain ⟨u, hm, r⟩ := h
  exact pe_glob hg hm r hd
end
theorem pe_ty {X : Cx} {x : Str} {pos : Pos} (n : String) (hm : X.mg x = none) (hg : Gl X x := by rfl) (hv : bootBuiltins x = some (.type n) := by decide +kernel)
    (hn : x ≠ "__name__" := by decide) (hd : (x == ("__debug__" : Str)) = false := by decide) : PE X (.Name x pos) (tC (.ty n)) := pe_bltn hg hm hv rfl hn hd
/-! heaps -/
/-- all that was tracked is as it was, but for the object at b -/
def But (b : Addr) (H H' : Hp) : Prop := ∀ a o, H a = some o → a ≠ b → H' a = some o
theorem But.refl (b : Addr) (H : Hp) : But b H H := fun _ _ h _ => h
theorem But.trans {b : Addr} {H H1 H2 : Hp} (p : But b H H1) (q : But b H1 H2) : But b H H2 := fun a o h n => q a o (p a o h n) n
theorem But.of_same {b : Addr} {H H' : Hp} (p : Same H H') : But b H H' := fun a o h _ => p a o h
theorem But.free {b : Addr} {H H' : Hp} (e : But b H H') {l : Addr} (h : H' l = none) (n : l ≠ b) : H l = none := by
  cases q : H l with
  | none => rfl
  | some o =>
    rw [e l o q n] at h
    cases h
theorem But.seq {K : PySem.W.Frag} {b : Addr} {H H' : Hp} {a : Addr} {xs : List V} (e : But b H H') (n : a ≠ b) (h : SqL K H a xs) : SqL K H' a xs :=
  h.imp_left (Or.imp (fun z => e _ _ z n) fun ⟨o, z⟩ => ⟨o, e _ _ z n⟩)
theorem same_new {H : Hp} {p : Addr} {o : HO} (h : H p = none) : Same H (upd H p o) := fun b x e => by
  rw [upd_ne (ne_of_none e h)]
  exact e
theorem but_upd {H : Hp} {b : Addr} {o : HO} : But b H (upd H b o) := fun a x e n => by
  rw [upd_ne n]
  exact e
theorem But.same_on {b : Addr} {H H1 H2 : Hp} (p : But b H H1) (hb : H b = none) : Same H H1 := fun a o h => p a o h (ne_of_none h hb)
/-- the box: what is left of a great number, a number below 2 ^ 62, a count of at most n -/
def Box (H : Hp) (b : Addr) (n : Int) : Prop := ∃ x y z : Int, H b = some (.lst [.int x, .int y, .int z]) ∧ 0 ≤ x ∧ 0 ≤ y ∧ y < 2 ^ 62 ∧ 0 ≤ z ∧ z ≤ n
theorem Box.keep {H H' : Hp} {b c : Addr} {n : Int} (h : Box H b n) (k : But c H H') (e : b ≠ c) : Box H' b n := by
  obtain ⟨x, y, z, h1, h2⟩ := h
  exact ⟨x, y, z, k _ _ h1 e, h2⟩
theorem Box.same {H H' : Hp} {b : Addr} {n : Int} (h : Box H b n) (k : Same H H') : Box H' b n := by
  obtain ⟨x, y, z, h1, h2⟩ := h
  exact ⟨x, y, z, k _ _ h1, h2⟩
theorem Box.le {H : Hp} {b : Addr} {n m : Int} (h : Box H b n) (k : n ≤ m) : Box H b m := by
  obtain ⟨x, y, z, h1, h2, h3, h4, h5, h6⟩ := h
  exact ⟨x, y, z, h1, h2, h3, h4, h5, by omega⟩
theorem Box.ne {H : Hp} {b p : Addr} {n : Int} (h : Box H b n) (k : H p = none) : b ≠ p := by
  obtain ⟨x, y, z, h1, h2⟩ := h
  exact ne_of_none h1 k
/-- take(box, many) -/
def spTake : Sp := fun vs H Q _ => ∃ (b : Addr) (m n : Int), vs = [.ref b, .int m] ∧ 0 < m ∧ m < 1073741824 ∧ Box H b n ∧ n ≤ 1000000000000 ∧
  ∀ (r : Int) (H' : Hp), 0 ≤ r → r < m → But b H H' → Box H' b (n + 1) → Q (.int r) H'
/-- dip(script, k) -/
def spDip (K : PySem.W.Frag) : Sp := fun vs H Q _ => ∃ (a : Addr) (ns : List Int) (k : Int), vs = [.ref a, .int k] ∧ SqL K H a (ns.map V.int) ∧ 0 ≤ k ∧ k ≤ 1000000 ∧
  ∀ (b : Addr) (H' : Hp), H b = none → Same H H' → Box H' b 0 → Q (.ref b) H'
/-- folded(script, size) -/
def spFold (K : PySem.W.Frag) : Sp := fun vs H Q _ => ∃ (a : Addr) (ns : List Int) (k : Int), vs = [.ref a, .int k] ∧ SqL K H a (ns.map V.int) ∧ ns.length ≤ 63 ∧ 0 < k ∧ k ≤ 63 ∧
  ∀ (p : Addr) (ms : List Int) (H' : Hp), H p = none → Same H H' → H' p = some (.lst (ms.map V.int)) → ms.length ≤ 63 → (ms.length : Int) ≤ k → Q (.ref p) H'
theorem sz (n : Nat) (h : n ≤ 1000 := by decide) : n ≤ sizeLine := Nat.le_of_lt (small1000 h)
theorem one01 (b : Bool) : -(2 ^ 64) < (if b then (1 : Int) else 0) ∧ (if b then (1 : Int) else 0) < 2 ^ 64 := by
  cases b <;> exact ⟨by decide, by decide⟩
theorem abs_times (c : Int) (b : Bool) : 0 ≤ (if c < 0 then -c else c) * (if b then (1 : Int) else 0) := by
  have a0 : (0 : Int) ≤ if c < 0 then -c else c := by split <;> omega
  cases b
  · show 0 ≤ (if c < 0 then -c else c) * 0
    rw [Int.mul_zero]
    exact Int.le_refl 0
  · show 0 ≤ (if c < 0 then -c else c) * 1
    rw [Int.mul_one]
    exact a0
theorem atI_pos {α : Type} {xs : List α} {k : Int} (h0 : 0 ≤ k) (h1 : k.toNat < xs.length) : atI xs k = some xs[k.toNat] := by
  have e : k = (k.toNat : Int) := by omega
  have h := atI_nat (xs := xs) (j := k.toNat) (List.getElem?_eq_getElem h1)
  rw [← e] at h
  exact h
theorem atI_int {ns : List Int} {k : Int} (h0 : 0 ≤ k) (h1 : k.toNat < ns.length) : atI (ns.map V.int) k = some (.int ns[k.toNat]) := by
  have h2 : k.toNat < (ns.map V.int).length := by rw [List.length_map]; exact h1
  rw [atI_pos h0 h2, List.getElem_map]
theorem ixN_pos {n : Nat} {k : Int} (h0 : 0 ≤ k) (h1 : k < n) : ixN n k = some k.toNat := by
  unfold ixN
  rw [if_pos h0, if_pos h1]
theorem cut_ints (ns : List Int) (lo hi : Option Int) : ∃ ms : List Int, cutV (ns.map V.int) lo hi = ms.map V.int := by
  unfold cutV
  refine ⟨(ns.drop (HT.sIx (ns.map V.int).length 0 lo)).take (HT.sIx (ns.map V.int).length (ns.map V.int).length hi - HT.sIx (ns.map V.int).length 0 lo), ?_⟩
  rw [List.map_take, List.map_drop]
theorem sIx_some (n d : Nat) (k : Int) (h : 0 ≤ k) : HT.sIx n d (some k) = min k.toNat n := by
  have e : k = (k.toNat : Int) := by omega
  rw [e]
  exact HT.sIx_nat n d k.toNat
theorem cut_len (ns : List Int) (lo hi : Option Int) : (cutV (ns.map V.int) lo hi).length = min (HT.sIx ns.length ns.length hi - HT.sIx ns.length 0 lo) (ns.length - HT.sIx ns.length 0 lo) := by
  unfold cutV
  rw [List.length_take, List.length_drop, List.length_map]
theorem cut_le {ns ms : List Int} {lo hi : Option Int} (e : cutV (ns.map V.int) lo hi = ms.map V.int) : ms.length ≤ ns.length := by
  have h := congrArg List.length e
  rw [cut_len, List.length_map] at h
  omega
theorem cut_head {ns head : List Int} {k : Int} (hk : 0 < k) (e : cutV (ns.map V.int) none (some k) = head.map V.int) : head.length = min k.toNat ns.length := by
  have h := congrArg List.length e
  rw [cut_len, List.length_map, sIx_some _ _ _ (by omega), HT.sIx_none] at h
  omega
theorem cut_rest {ns head rest : List Int} {k : Int} (hk : 0 < k) (hh : head.length = min k.toNat ns.length) (e : cutV (ns.map V.int) (some k) (some 63) = rest.map V.int) : rest ≠ [] → k = (head.length : Int) := by
  intro hn
  have h := congrArg List.length e
  rw [cut_len, List.length_map, sIx_some _ 0 k (by omega), sIx_some _ ns.length 63 (by decide)] at h
  have hp : 0 < rest.length := List.length_pos_iff.mpr hn
  omega
/-! isinstance -/
theorem kit1 {K : PySem.W.Frag} {t a : String} {r : Bool} (h : kitB t a = some r) : PySem.W.kitOne K (.type t) (.type a) = some r := kit_ty h
theorem kit2 {K : PySem.W.Frag} {t a b : String} {r1 r2 : Bool} (h1 : kitB t a = some r1) (h2 : kitB t b = some r2) :
    PySem.W.kitAny K (.type t) [.type a, .type b] = some (r1 || r2) := by
  refine kitAny_cons (kit_ty h1) (fun e => ?_) (fun e => ?_)
  · rw [e]
    refine kitAny_cons (kit_ty h2) (fun e2 => ?_) (fun e2 => ?_)
    · rw [e2]
      exact kitAny_nil
    · rw [e2]
      rfl
  · rw [e]
    rfl
theorem tyL {K : PySem.W.Frag} {H : Hp} {a : Addr} {xs : List V} (h : SqL K H a xs) : TyX K H (.ref a) (.type "list") := by
  rcases h with (h | ⟨o, h⟩) | ⟨o, its, n, e, c, _⟩
  · exact .base (.lst h)
  · exact .base (.frz h)
  · exact .kList e c
theorem tyT {K : PySem.W.Frag} {H : Hp} {a : Addr} {xs : List V} (h : SqT K H a xs) : TyX K H (.ref a) (.type "tuple") := by
  rcases h with (h | ⟨o, h⟩) | ⟨o, its, n, e, c, _⟩
  · exact .base (.tup h)
  · exact .fTuple h
  · exact .kTuple e c
theorem iteDF {c A B : Prop} [Decidable c] (hc : ¬ c) (h : B) : if (decide c) = true then A else B := by
  rw [decide_eq_false hc]
  exact iteF h
theorem iteDT {c A B : Prop} [Decidable c] (hc : c) (h : A) : if (decide c) = true then A else B := by
  rw [decide_eq_true hc]
  exact iteT h
theorem same_tup {K : PySem.W.Frag} {H H' : Hp} {a : Addr} {xs : List V} (e : Same H H') (h : SqT K H a xs) : SqT K H' a xs :=
  h.imp_left (Or.imp (e _ _) fun ⟨o, z⟩ => ⟨o, e _ _ z⟩)
/-- scalars -/
def Sc : V → Prop
  | .non | .bl _ | .int _ | .str _ => True
  | _ => False
/-- the same thing twice, of at most so many layers -/
def Sm (K : PySem.W.Frag) (H : Hp) : Nat → V → V → Prop
  | 0, _, _ => False
  | n + 1, x, y => (x = y ∧ Sc x) ∨ ∃ (a b : Addr) (xs ys : List V), x = .ref a ∧ y = .ref b ∧ xs.length = ys.length ∧ xs.length < sizeLine ∧
      ((SqL K H a xs ∧ SqL K H b ys) ∨ (SqT K H a xs ∧ SqT K H b ys)) ∧ ∀ (i : Nat) (u v : V), xs[i]? = some u → ys[i]? = some v → Sm K H n u v
theorem Sm.same {K : PySem.W.Frag} {H H' : Hp} (e : Same H H') : ∀ {n : Nat} {x y : V}, Sm K H n x y → Sm K H' n x y
  | 0, _, _, h => h.elim
  | n + 1, x, y, h => by
    rcases h with h | ⟨a, b, xs, ys, h1, h2, h3, h4, h5, h6⟩
    · exact .inl h
    · refine .inr ⟨a, b, xs, ys, h1, h2, h3, h4, ?_, fun i u v hu hv => (h6 i u v hu hv).same e⟩
      rcases h5 with ⟨p, q⟩ | ⟨p, q⟩
      · exact .inl ⟨L2.Same.seq e p, L2.Same.seq e q⟩
      · exact .inr ⟨same_tup e p, same_tup e q⟩
/-- same(found, due) of what is the same -/
def spSame (K : PySem.W.Frag) (n : Nat) : Sp := fun vs H Q _ => ∃ x y : V, vs = [x, y] ∧ Sm K H n x y ∧ ∀ H', Same H H' → Q (.bl true) H'
theorem all_true {n : Nat} : ((List.replicate n true).all id) = true := by
  induction n with
  | zero => rfl
  | succ n ih =>
    rw [List.replicate_succ, List.all_cons, ih]
    rfl
theorem walk_zipT {K : PySem.W.Frag} {a b : Addr} {xs ys : List V} {n : Nat} (hn : n = min xs.length ys.length) :
    L2.Walk (RZ.ItzT K a b) n (fun H => SqT K H a xs ∧ SqT K H b ys) (YPair (fun i => xs[i]?) (fun i => ys[i]?)) := by
  subst hn
  have at_ : ∀ {zs : List V} {i : Nat}, i < min xs.length ys.length → (i < zs.length) → zs[i]? = some (zs.getD i .non) := fun {zs i} _ l => by
    rw [List.getD_eq_getElem?_getD, List.getElem?_eq_getElem l]
    rfl
  refine ⟨fun i H hi ⟨p, q⟩ => ⟨xs, ys, _, _, p, q, at_ hi (by omega), at_ hi (by omega)⟩, fun H ⟨p, q⟩ => ⟨xs, ys, p, q, by omega⟩, fun i H v H' _ ⟨p, q⟩ y => ?_⟩
  obtain ⟨U, x, z, h1, h2, h3, hx, hy⟩ := y
  exact ⟨U, x, z, h1, h2, h3, hx xs p, hy ys q⟩
theorem sm_int {K : PySem.W.Frag} {H : Hp} {n : Nat} (i : Int) : Sm K H (n + 1) (.int i) (.int i) := .inl ⟨rfl, trivial⟩
theorem sm_items {K : PySem.W.Frag} {H : Hp} {ns : List Int} (i : Nat) (u v : V) (hu : (ns.map V.int)[i]? = some u) (hv : (ns.map V.int)[i]? = some v) : Sm K H 1 u v := by
  rw [hu] at hv
  cases hv
  rw [List.getElem?_map] at hu
  cases e : ns[i]? with
  | none =>
    rw [e] at hu
    cases hu
  | some k =>
    rw [e] at hu
    cases hu
    exact sm_int k
theorem sm_ints {K : PySem.W.Frag} {H : Hp} {a b : Addr} {ns : List Int} (h1 : SqL K H a (ns.map V.int)) (h2 : SqL K H b (ns.map V.int)) (hl : ns.length ≤ 1000) : Sm K H 2 (.ref a) (.ref b) :=
  .inr ⟨a, b, _, _, rfl, rfl, rfl, by rw [List.length_map]; exact small1000 hl, .inl ⟨h1, h2⟩, sm_items⟩
theorem sm_intsT {K : PySem.W.Frag} {H : Hp} {a b : Addr} {ns : List Int} (h1 : SqT K H a (ns.map V.int)) (h2 : SqT K H b (ns.map V.int)) (hl : ns.length ≤ 1000) : Sm K H 2 (.ref a) (.ref b) :=
  .inr ⟨a, b, _, _, rfl, rfl, rfl, by rw [List.length_map]; exact small1000 hl, .inr ⟨h1, h2⟩, sm_items⟩
/-- a def without defaults, called with keywords -/
theorem kbn_of {K : PySem.W.Frag} {x qual : Str} {params : Arguments} {body : List Stmt} {scope : Scope} {f : Addr} {fd : FuncData} {ps ks : List Str} {n : Nat} {kws : List (Str × V)}
    (F : FunD K x qual params body scope [] kws f fd) (g : List Value → List Value → List Value) (gV : List V → List V → List V)
    (hrel : ∀ {vs : List V} {us : List Value} {zs : List V} {ws : List Value}, Vals vs us → Vals zs ws → Vals (gV vs zs) (g us ws))
    (h : ∀ (kV doc pm : Value) (an : Option Addr) (cdv ct : Value) (us ws : List Value), us.length = n → ws.length = ks.length →
      bindArgs (PySem.W.fnOf x qual params body scope .none kV doc pm an cdv ct) ⟨us, ks.zip ws⟩ = pure (ps.zip (g us ws))) : KBn K fd ps n ks g gV := by
  have ⟨_, _, dV, kV, doc, pm, an, cdv, ct, _, same, _, _, dfl, _⟩ := F.ex
  have none_ : dV = .none := dfl.elim (fun z => z.2) fun z => absurd rfl z.1
  refine ⟨fun _ us ws _ n1 n2 => ?_, hrel⟩
  rw [same, none_]
  exact .of_eq (h kV doc pm an cdv ct us ws n1 n2)
/-- a new object: the heap gets a name -/
@[elab_as_elim] theorem new_at {motive : Hp → Prop} {H : Hp} {p : Addr} {o : HO} (np : H p = none) (k : ∀ H' : Hp, Same H H' → H' p = some o → motive H') : motive (upd H p o) := k _ (same_new np) upd_same
/-- the built-ins are still so -/
structure Bl (mg : Str → Option Value) : Prop where
  b_len : mg "len" = none
  b_abs : mg "abs" = none
  b_int : mg "int" = none
  b_list : mg "list" = none
  b_tuple : mg "tuple" = none
  b_str : mg "str" = none
  b_bool : mg "bool" = none
  b_set : mg "set" = none
  b_range : mg "range" = none
  b_enumerate : mg "enumerate" = none
  b_zip : mg "zip" = none
  b_isinstance : mg "isinstance" = none
  b_all : mg "all" = none
  b_any : mg "any" = none
  b_sum : mg "sum" = none
  b_min : mg "min" = none
  b_max : mg "max" = none
  b_sorted : mg "sorted" = none
abbrev FnP (K : PySem.W.Frag) (x : Str) (st : Stmt) (f : Addr) (fd : FuncData) : Prop := FunD K x x (defArgs st) (defBody st) (defScope st) [] [] f fd
end Lt

set_option Elab.async false
set_option linter.all false
set_option maxRecDepth 100000
set_option maxHeartbeats 4000000
namespace K05
open PySem PySem.Spec PyProof.Rows L2 Lt
def topS (i : Nat) : Stmt := PySem.Challenge.pw_lettolls_k05_years_and_quarters.main.body.getD i (.Pass ⟨0, 0, 0, 0⟩)
section
variable {P : Program} {w : World} {K : PySem.W.Frag} {mg : Str → Option Value} {base : Heap} {f : Addr} {fd : FuncData}
abbrev st__law_dip : Stmt := topS 7
theorem sc__law_dip : FnScope ["_law_script", "_law_k", "_law_cell"] ["_law_script", "_law_k"] (defScope st__law_dip) := ⟨rfl, rfl, rfl, by decide +kernel, rfl, by decide +kernel, by decide +kernel⟩
theorem ok_dip (F : FnP K "_law_dip" st__law_dip f fd) (T : Bl mg) : FnOk P w K mg base CX0 1 f fd ["_law_script", "_law_k"] (spDip K) := by
  refine F.ok sc__law_dip (fun vs H Q E h => ?_) (fun cdv A outer s H vs Q E hr h => ?_)
  · obtain ⟨a, ns, k, rfl, _⟩ := h
    rfl
  · obtain ⟨a, ns, k, rfl, hS, hk0, hk1, q⟩ := h
    refine ⟨_, PSs.nox (pss_cons (ps_set (i := 2) sc__law_dip.nd rfl (.inl rfl) (pe_ifExp (pt_cmpR op_lt (pv 1) (pe_callB call_len_seq (by rfl) T.b_len (by decide +kernel) (pa_cons (pv 0) pa_nil)) (nomark _)) (pe_ix ix_list (pv 0) (pv 1) (fun _ _ => rfl)) pe_int))
      (pss_one (ps_ret (pe_lst (pa_cons (pe_op op_mul (pe_callB call_abs (by rfl) T.b_abs (by decide +kernel) (pa_cons (pv 2) pa_nil)) (pe_callTy call_int1 (by rfl) T.b_int (by decide +kernel) (pa_cons (pe_cmpR op_ge (pe_callB call_abs (by rfl) T.b_abs (by decide +kernel) (pa_cons (pv 2) pa_nil)) (pe_op op_pow pe_int pe_int) (nomark _)) pa_nil))) (pa_cons (pe_op op_add (pe_op op_add (pe_op op_mod (pv 2) pe_int) (pe_op op_mul pe_int (pv 1))) pe_int) (pa_cons pe_int pa_nil))))))), ?_⟩
    have fin : ∀ c : Int, (tRet (tLst (tCons (tOp (rI CMul fun i j => .int (i * j)) (tCB (fun xs H Q => ∃ i, xs = [.int i] ∧ Q (.int (if i < 0 then -i else i)) H) (tCons (tVar 2) tNil)) (tCB (fun xs H Q => (∃ i, xs = [V.int i] ∧ Q (.int i) H) ∨ ∃ k, xs = [.bl k] ∧ Q (.int (if k then 1 else 0)) H) (tCons (tOp (rI0 fun i j => .bl (decide (j ≤ i))) (tCB (fun xs H Q => ∃ i, xs = [.int i] ∧ Q (.int (if i < 0 then -i else i)) H) (tCons (tVar 2) tNil)) (tOp (rI CPow fun i j => .int (i ^ j.toNat)) (tC (.int 10)) (tC (.int 18)))) tNil))) (tCons (tOp (rI0 fun i j => .int (i + j)) (tOp (rI0 fun i j => .int (i + j)) (tOp (rI (fun _ j => 0 < j) fun i j => .int (i % j)) (tVar 2) (tC (.int 2305843009213693951))) (tOp (rI CMul fun i j => .int (i * j)) (tC (.int 39373)) (tVar 1))) (tC (.int 17))) (tCons (tC (.int 0)) tNil))))) { nx := fun _ H' => Q .non H', rt := Q } [some (.ref a), some (.int k), some (.int c)] H := by
      intro c
      refine ⟨.int c, rfl, c, rfl, .int c, rfl, c, rfl, 10, 18, rfl, rfl, ⟨by decide, by decide, by decide⟩, _, _, rfl, rfl, .inr ⟨_, rfl, _, _, rfl, rfl, .inr ?_, ?_⟩⟩
      · exact one01 _
      · refine ⟨.int c, rfl, c, 2305843009213693951, rfl, rfl, (by show (0 : Int) < 2305843009213693951; decide), .int k, rfl, 39373, k, rfl, rfl, .inl ⟨by decide, by decide⟩, _, _, rfl, rfl, _, 17, rfl, rfl, sz 3, fun p hp => ?_⟩
        have m0 : 0 ≤ c % 2305843009213693951 := Int.emod_nonneg _ (by decide)
        have m1 : c % 2305843009213693951 < 2305843009213693951 := Int.emod_lt_of_pos _ (by decide)
        exact q p _ hp (same_new hp) ⟨_, _, _, upd_same, abs_times c _, by omega, by omega, by decide, by decide⟩
    refine ⟨.int k, rfl, .ref a, rfl, a, _, rfl, .inl hS, _, _, rfl, rfl, _, rfl, ite2 (fun e => ?_) (fun e => ?_)⟩
    · have e0 : k < ((ns.map V.int).length : Int) := of_decide_eq_true e
      rw [List.length_map] at e0
      have hi : k.toNat < ns.length := by omega
      exact ⟨.ref a, rfl, .int k, rfl, a, _, k, .int ns[k.toNat], rfl, rfl, hS, atI_int hk0 hi, fin ns[k.toNat]⟩
    · exact fin 0
abbrev st__law_take : Stmt := topS 8
theorem sc__law_take : FnScope ["_law_box", "_law_many", "_law_found", "_law_once", "_law_twice"] ["_law_box", "_law_many"] (defScope st__law_take) := ⟨rfl, rfl, rfl, by decide +kernel, rfl, by decide +kernel, by decide +kernel⟩
theorem ok_take (F : FnP K "_law_take" st__law_take f fd) : FnOk P w K mg base CX0 1 f fd ["_law_box", "_law_many"] spTake := by
  refine F.ok sc__law_take (fun vs H Q E h => ?_) (fun cdv A outer s H vs Q E hr h => ?_)
  · obtain ⟨b, m, n, rfl, _⟩ := h
    rfl
  · obtain ⟨b, m, n, rfl, hm0, hm1, ⟨x, y, z, hb, x0, y0, y1, z0, z1⟩, hn, q⟩ := h
    refine ⟨_, PSs.nox (pss_cons (ps_if (pt_cmpR op_gt (pe_ix ix_list (pv 0) pe_int (fun _ _ => rfl)) pe_int (nomark _))
        (pss_cons (ps_set (i := 2) sc__law_take.nd rfl (.inl rfl) (pe_op op_mod (pe_ix ix_list (pv 0) pe_int (fun _ _ => rfl)) (pv 1)))
        (pss_cons (ps_asg (pe_op op_fdiv (pe_ix ix_list (pv 0) pe_int (fun _ _ => rfl)) (pv 1)) (pg_sub (pv 0) pe_int set_list))
        (pss_one (ps_ret (pv 2)))))
        pss_nil)
      (pss_cons (ps_asg (pe_op op_add (pe_ix ix_list (pv 0) pe_int (fun _ _ => rfl)) pe_int) (pg_sub (pv 0) pe_int set_list))
      (pss_cons (ps_set (i := 3) sc__law_take.nd rfl (.inl rfl) (pe_op op_mod (pe_op op_pow (pe_op op_add (pe_ix ix_list (pv 0) pe_int (fun _ _ => rfl)) (pe_op op_mul pe_int (pe_ix ix_list (pv 0) pe_int (fun _ _ => rfl)))) pe_int) pe_int))
      (pss_cons (ps_set (i := 4) sc__law_take.nd rfl (.inl rfl) (pe_op op_mod (pe_op op_mul (pe_op op_add (pe_op op_add (pv 3) (pe_ix ix_list (pv 0) pe_int (fun _ _ => rfl))) (pe_op op_fdiv (pe_ix ix_list (pv 0) pe_int (fun _ _ => rfl)) pe_int)) (pe_op op_add (pe_op op_add (pe_op op_mod (pv 3) pe_int) pe_int) (pe_ix ix_list (pv 0) pe_int (fun _ _ => rfl)))) pe_int))
      (pss_one (ps_ret (pe_op op_mod (pe_op op_fdiv (pe_op op_mod (pe_op op_add (pe_op op_mul (pv 4) pe_int) (pv 3)) pe_int) pe_int) (pv 1)))))))), ?_⟩
    have hL : SqL K H b [.int x, .int y, .int z] := .inl (.inl hb)
    refine ⟨.ref b, rfl, b, _, 0, .int x, rfl, rfl, hL, rfl, x, 0, rfl, rfl, _, rfl, ite2 (fun e => ?_) (fun e => ?_)⟩
    · refine ⟨.ref b, rfl, b, _, 0, .int x, rfl, rfl, hL, rfl, .int m, rfl, x, m, rfl, rfl, hm0, ?_⟩
      refine ⟨.ref b, rfl, b, _, 0, .int x, rfl, rfl, hL, rfl, .int m, rfl, x, m, rfl, rfl, ⟨hm0, hm1⟩, .ref b, rfl, b, _, 0, 0, rfl, rfl, hb, rfl, ?_⟩
      exact ⟨.int (x % m), rfl, q _ _ (Int.emod_nonneg _ (by omega)) (Int.emod_lt_of_pos _ hm0) but_upd ⟨x / m, y, z, upd_same, Int.ediv_nonneg x0 (by omega), y0, y1, z0, by omega⟩⟩
    · refine ⟨.ref b, rfl, b, _, 2, .int z, rfl, rfl, hL, rfl, z, 1, rfl, rfl, .ref b, rfl, b, _, 2, 2, rfl, rfl, hb, rfl, ?_⟩
      have hL2 : SqL K (upd H b (.lst [.int x, .int y, .int (z + 1)])) b [.int x, .int y, .int (z + 1)] := .inl (.inl upd_same)
      refine ⟨.ref b, rfl, b, _, 1, .int y, rfl, rfl, hL2, rfl, .ref b, rfl, b, _, 2, .int (z + 1), rfl, rfl, hL2, rfl, 39373, z + 1, rfl, rfl, .inl ⟨by decide, by decide⟩, _, _, rfl, rfl, _, 5, rfl, rfl, ⟨by decide, by decide, ?_⟩, _, 2147483647, rfl, rfl, (by show (0 : Int) < 2147483647; decide), ?_⟩
      · omega
      · dsimp only
        generalize (y + 39373 * (z + 1)) ^ (5 : Int).toNat % 2147483647 = once
        refine ⟨.int once, rfl, .ref b, rfl, b, _, 2, .int (z + 1), rfl, rfl, hL2, rfl, once, z + 1, rfl, rfl, .ref b, rfl, b, _, 1, .int y, rfl, rfl, hL2, rfl, y, 1000003, rfl, rfl, ⟨by decide, by decide⟩, _, _, rfl, rfl, .int once, rfl, once, 40009, rfl, rfl, (by show (0 : Int) < 40009; decide), _, 7, rfl, rfl, .ref b, rfl, b, _, 2, .int (z + 1), rfl, rfl, hL2, rfl, _, z + 1, rfl, rfl, _, _, rfl, rfl, .inr ?_, _, 2147483629, rfl, rfl, (by show (0 : Int) < 2147483629; decide), ?_⟩
        · have m0 : 0 ≤ once % 40009 := Int.emod_nonneg _ (by decide)
          have m1 : once % 40009 < 40009 := Int.emod_lt_of_pos _ (by decide)
          exact ⟨by omega, by omega⟩
        · dsimp only
          generalize (once + (z + 1) + y / 1000003) * (once % 40009 + 7 + (z + 1)) % 2147483629 = twice
          refine ⟨.int twice, rfl, twice, 48271, rfl, rfl, .inr ⟨by decide, by decide⟩, .int once, rfl, _, once, rfl, rfl, _, 2147483587, rfl, rfl, (by show (0 : Int) < 2147483587; decide), _, 64, rfl, rfl, ⟨by decide, by decide⟩, .int m, rfl, _, m, rfl, rfl, hm0, ?_⟩
          exact q _ _ (Int.emod_nonneg _ (by omega)) (Int.emod_lt_of_pos _ hm0) but_upd ⟨x, y, z + 1, upd_same, x0, y0, y1, by omega, by omega⟩
abbrev st__law_folded : Stmt := topS 9
theorem sc__law_folded : FnScope ["_law_script", "_law_size", "_law_cells", "_law_k", "_law_cell"] ["_law_script", "_law_size"] (defScope st__law_folded) := ⟨rfl, rfl, rfl, by decide +kernel, rfl, by decide +kernel, by decide +kernel⟩
theorem ok_folded (F : FnP K "_law_folded" st__law_folded f fd) (T : Bl mg) : FnOk P w K mg base CX0 1 f fd ["_law_script", "_law_size"] (spFold K) := by
  refine F.ok sc__law_folded (fun vs H Q E h => ?_) (fun cdv A outer s H vs Q E hr h => ?_)
  · obtain ⟨a, ns, k, rfl, _⟩ := h
    rfl
  · obtain ⟨a, ns, k, rfl, hS, hn, hk0, hk1, q⟩ := h
    refine ⟨_, PSs.nox (pss_cons (ps_set (i := 2) sc__law_folded.nd rfl (.inl rfl) (pe_callTy call_list_of (by rfl) T.b_list (by decide +kernel) (pa_cons (pe_slice sl_list (pv 0) po_none (po_some (pv 1))) pa_nil)))
      (pss_cons (ps_for PassesOwn.never rfl (pi_enum (by rfl) T.b_enumerate (pa_cons (pe_slice sl_list (pv 0) (po_some (pv 1)) (po_some pe_int)) pa_nil)) (pg_tup rfl (pgs_cons (pg_name (i := 3) sc__law_folded.nd rfl (.inl rfl)) (pgs_cons (pg_name (i := 4) sc__law_folded.nd rfl (.inl rfl)) pgs_nil)))
        (pss_one (ps_asg (pe_op op_add (pe_ix ix_list (pv 2) (pe_op op_mod (pv 3) (pv 1)) (fun _ _ => rfl)) (pe_op op_mul (pv 4) (pe_op op_add (pv 3) pe_int))) (pg_sub (pv 2) (pe_op op_mod (pv 3) (pv 1)) set_list))))
      (pss_one (ps_ret (pv 2))))), ?_⟩
    refine ⟨.ref a, rfl, .int k, rfl, k, rfl, a, _, rfl, hS, fun p1 n1 => ?_⟩
    refine ⟨p1, _, rfl, .inl (.inl (.inl upd_same)), fun p n2 => ?_⟩
    have s1 := same_new (o := .lst (cutV (ns.map V.int) none (some k))) n1
    have s2 := s1.trans (same_new (o := .lst (cutV (ns.map V.int) none (some k))) n2)
    refine ⟨.ref a, rfl, .int k, rfl, k, rfl, 63, rfl, a, _, rfl, s2.seq hS, fun p3 n3 => ?_⟩
    have s3 := s2.trans (same_new (o := .lst (cutV (ns.map V.int) (some k) (some 63))) n3)
    have np : H p = none := s1.free n2
    have np3 : p ≠ p3 := fun e => by
      subst e
      rw [upd_same] at n3
      cases n3
    obtain ⟨rest, er⟩ : ∃ rest : List Int, cutV (ns.map V.int) (some k) (some 63) = rest.map V.int := cut_ints _ _ _
    obtain ⟨head, eh⟩ : ∃ head : List Int, cutV (ns.map V.int) none (some k) = head.map V.int := cut_ints _ _ _
    have hl := cut_head (ns := ns) hk0 eh
    have hr1 := cut_le er
    have hr0 := cut_rest (ns := ns) hk0 hl er
    rw [er] at s3 ⊢
    rw [eh] at s3 ⊢
    refine ⟨p3, rest.map V.int, rfl, .inl (.inl upd_same), for_it (walk_enum (K := K) (a := p3) (xs := rest.map V.int)) (fun i σ H' => ∃ (y3 y4 : Option V) (ms : List Int), σ = [some (.ref a), some (.int k), some (.ref p), y3, y4] ∧ ms.length = head.length ∧ H' p = some (.lst (ms.map V.int)) ∧ H' p3 = some (.lst (rest.map V.int)) ∧ Same H H') ?_ ?_ ?_ ?_⟩
    · refine ⟨none, none, head, rfl, rfl, ?_, upd_same, s3⟩
      rw [upd_ne np3, upd_same]
    · rintro i σ H' _ ⟨y3, y4, ms, _, _, _, h3, _⟩
      exact .inl (.inl h3)
    · rintro i x σ H' H'' hi ⟨y3, y4, ms, rfl, em, e1, e3, sm⟩ ⟨U, u, v, rfl, nU, rfl, eu, ev⟩
      cases eu
      rw [List.length_map] at hi
      have gi : (rest.map V.int)[i]? = some (.int rest[i]) := by
        rw [List.getElem?_map, List.getElem?_eq_getElem hi]
        rfl
      cases gi.symm.trans ev
      have sU : Same H' (upd H' U (.tup [.int i, .int rest[i]])) := same_new nU
      refine ⟨U, _, rfl, .inl (.inl upd_same), rfl, _, _, rfl, _, _, rfl, rfl, ?_⟩
      have hkl : k = (head.length : Int) := by
        by_cases h0 : rest = []
        · subst h0
          exact absurd hi (by simp)
        · exact hr0 h0
      have j0 : 0 ≤ (i : Int) % k := Int.emod_nonneg _ (by omega)
      have j1 : (i : Int) % k < k := Int.emod_lt_of_pos _ hk0
      have hj : ((i : Int) % k).toNat < ms.length := by omega
      have ap := atI_int (ns := ms) j0 hj
      have ix : ixN (ms.map V.int).length ((i : Int) % k) = some ((i : Int) % k).toNat := ixN_pos j0 (by rw [List.length_map]; omega)
      refine ⟨.ref p, rfl, .int i, rfl, .int k, rfl, i, k, rfl, rfl, hk0, p, _, _, _, rfl, rfl, .inl (.inl (sU _ _ e1)), ap, .int rest[i], rfl, .int i, rfl, i, 2, rfl, rfl, _, _, rfl, rfl, .inr ⟨by omega, by omega⟩, _, _, rfl, rfl, .ref p, rfl, .int i, rfl, .int k, rfl, i, k, rfl, rfl, hk0, p, _, _, _, rfl, rfl, sU _ _ e1, ix, ?_⟩
      refine ⟨_, _, ms.set ((i : Int) % k).toNat (ms[((i : Int) % k).toNat] + rest[i] * (i + 2)), rfl, by rw [List.length_set]; exact em, ?_, ?_, ?_⟩
      · rw [upd_same, ← List.map_set]
      · rw [upd_ne np3.symm]
        exact sU _ _ e3
      · intro b o hb
        rw [upd_ne (ne_of_none hb np)]
        exact sU _ _ (sm _ _ hb)
    · rintro σ H' ⟨y3, y4, ms, rfl, em, e1, e3, sm⟩
      refine ⟨.ref p, rfl, q p ms H' np sm e1 (by omega) (by omega)⟩
end
end K05

set_option Elab.async false
set_option linter.all false
set_option maxRecDepth 100000
set_option maxHeartbeats 4000000
namespace K05
open PySem PySem.Spec PyProof.Rows L2 Lt
section
variable {P : Program} {w : World} {K : PySem.W.Frag} {mg : Str → Option Value} {base : Heap} {f : Addr} {fd : FuncData}
abbrev st__law_same : Stmt := topS 10
theorem sc__law_same : FnScope ["_law_found", "_law_due", "_law_one", "_law_other"] ["_law_found", "_law_due"] (defScope st__law_same) := ⟨rfl, rfl, rfl, by decide +kernel, rfl, by decide +kernel, by decide +kernel⟩
theorem ok_same (F : FnP K "_law_same" st__law_same f fd) (T : Bl mg) (g : mg "_law_same" = some (.ref f)) (b : Binds K fd ["_law_found", "_law_due"] []) : ∀ n, FnOk P w K mg base CX0 (n + 1) f fd ["_law_found", "_law_due"] (spSame K n) := by
  intro n
  induction n with
  | zero => exact ⟨fun vs H Q E h => by obtain ⟨x, y, _, h, _⟩ := h; exact h.elim, fun A outer s H args us vs Q E _ _ _ _ h => by obtain ⟨x, y, _, h, _⟩ := h; exact h.elim⟩
  | succ n ih =>
    have C__law_same : Cal P w K mg base "_law_same" (n + 1) ["_law_found", "_law_due"] [] (spSame K n) := ⟨f, fd, [], ih, g, F.kp, .nil, b⟩
    refine F.ok sc__law_same (fun vs H Q E h => ?_) (fun cdv A outer s H vs Q E hr h => ?_)
    · obtain ⟨x, y, rfl, _⟩ := h
      rfl
    · obtain ⟨x, y, rfl, hs, q⟩ := h
      refine ⟨_, PSs.nox (pss_cons (ps_if (pt_val (pe_callB call_isiT (by rfl) T.b_isinstance (by decide +kernel) (pa_cons (pv 1) (pa_cons (pe_tup (pa_cons (pe_ty "list" T.b_list) (pa_cons (pe_ty "tuple" T.b_tuple) pa_nil))) pa_nil))))
        (pss_cons (ps_if (PW.pt (pw_or (pt_cmpR op_ne (pe_callB call_isi (by rfl) T.b_isinstance (by decide +kernel) (pa_cons (pv 0) (pa_cons (pe_ty "list" T.b_list) pa_nil))) (pe_callB call_isi (by rfl) T.b_isinstance (by decide +kernel) (pa_cons (pv 1) (pa_cons (pe_ty "list" T.b_list) pa_nil))) (nomark _)) (pw_or1 (pt_cmpR op_ne (pe_callB call_isi (by rfl) T.b_isinstance (by decide +kernel) (pa_cons (pv 0) (pa_cons (pe_ty "tuple" T.b_tuple) pa_nil))) (pe_callB call_isi (by rfl) T.b_isinstance (by decide +kernel) (pa_cons (pv 1) (pa_cons (pe_ty "tuple" T.b_tuple) pa_nil))) (nomark _)))))
          (pss_one (ps_ret pe_bl))
          pss_nil)
        (pss_one (ps_ret (pe_and (pe_cmpR op_eq (pe_callB call_len_seq (by rfl) T.b_len (by decide +kernel) (pa_cons (pv 0) pa_nil)) (pe_callB call_len_seq (by rfl) T.b_len (by decide +kernel) (pa_cons (pv 1) pa_nil)) (nomark _)) (pe_one (pe_callB (cr_all rfl) (by rfl) T.b_all (by decide +kernel) (pa_cons (pe_lc (own := [("_law_one", 2), ("_law_other", 3)]) (g := gTup K 2 (gCons (gName 2) (gCons (gName 3) gNil))) (tt := tYes) rfl sc__law_same.nd (RZ.pi_zipA (by rfl) T.b_zip (pa_cons (pv 0) (pa_cons (pv 1) pa_nil))) (blkOk_by (own := [("_law_one", 2), ("_law_other", 3)]) (N := ["_law_found", "_law_due", "_law_one", "_law_other"]) (sc := defScope st__law_same) (by decide +kernel)) (fun _ _ _ _ _ => (pg_tup rfl (pgs_cons (pg_name (i := 2) sc__law_same.nd rfl (.inl rfl)) (pgs_cons (pg_name (i := 3) sc__law_same.nd rfl (.inl rfl)) pgs_nil)))) (fun _ _ _ _ _ => pts_nil) (fun _ _ _ _ _ => (pe_cal C__law_same hr rfl (pa_cons (pv 2) (pa_cons (pv 3) pa_nil))))) pa_nil)))))))
        pss_nil)
      (pss_cons (ps_if (PW.pt (pw_or (pt_cmpR op_isN (pv 1) pe_non (nomark _)) (pw_or1 (pt_cmpR op_isN (pv 0) pe_non (nomark _)))))
        (pss_one (ps_ret (pe_and (pe_cmpR op_isN (pv 1) pe_non (nomark _)) (pe_one (pe_cmpR op_isN (pv 0) pe_non (nomark _))))))
        pss_nil)
      (pss_cons (ps_if (PW.pt (pw_or (pt_val (pe_callB call_isi (by rfl) T.b_isinstance (by decide +kernel) (pa_cons (pv 1) (pa_cons (pe_ty "bool" T.b_bool) pa_nil)))) (pw_or1 (pt_val (pe_callB call_isi (by rfl) T.b_isinstance (by decide +kernel) (pa_cons (pv 1) (pa_cons (pe_ty "str" T.b_str) pa_nil)))))))
        (pss_one (ps_ret (pe_and (pe_cmpR op_eq (pe_callB call_isi (by rfl) T.b_isinstance (by decide +kernel) (pa_cons (pv 0) (pa_cons (pe_ty "bool" T.b_bool) pa_nil))) (pe_callB call_isi (by rfl) T.b_isinstance (by decide +kernel) (pa_cons (pv 1) (pa_cons (pe_ty "bool" T.b_bool) pa_nil))) (nomark _)) (pe_one (pe_cmpR op_eq (pv 0) (pv 1) (nomark _))))))
        pss_nil)
      (pss_one (ps_ret (pe_and (pe_callB call_isi (by rfl) T.b_isinstance (by decide +kernel) (pa_cons (pv 0) (pa_cons (pe_ty "int" T.b_int) pa_nil))) (pe_and (pe_not (pe_callB call_isi (by rfl) T.b_isinstance (by decide +kernel) (pa_cons (pv 0) (pa_cons (pe_ty "bool" T.b_bool) pa_nil)))) (pe_one (pe_cmpR op_eq (pv 0) (pv 1) (nomark _)))))))))), ?_⟩
      rcases hs with ⟨rfl, hsc⟩ | ⟨a, c, xs, ys, rfl, rfl, hl, hz, hq, hi⟩
      · cases x with
        | int i =>
          refine ⟨.int i, rfl, sz 2, fun p hp => ⟨.int i, p, _, _, _, false, rfl, upd_same, .cons (.ty _) (.cons (.ty _) .nil), .base (.int i), kit2 (t := "int") (a := "list") (b := "tuple") (r1 := false) (r2 := false) (by decide +kernel) (by decide +kernel), false, rfl, iteF ?_⟩⟩
          refine ⟨.int i, rfl, rfl, _, rfl, iteDF (by intro z; cases z) ⟨.int i, rfl, rfl, _, rfl, iteDF (by intro z; cases z) ?_⟩⟩
          refine ⟨.int i, rfl, _, _, _, _, false, rfl, .ty _, .base (.int i), kit1 (by decide +kernel), false, rfl, iteF ⟨.int i, rfl, _, _, _, _, false, rfl, .ty _, .base (.int i), kit1 (by decide +kernel), false, rfl, iteF ?_⟩⟩
          refine ⟨.int i, rfl, _, _, _, _, true, rfl, .ty _, .base (.int i), kit1 (by decide +kernel), true, rfl, iteT ⟨.int i, rfl, _, _, _, _, false, rfl, .ty _, .base (.int i), kit1 (by decide +kernel), false, rfl, true, rfl, iteT ⟨.int i, rfl, .int i, rfl, rfl, ?_⟩⟩⟩
          rw [decide_eq_true rfl]
          exact q _ (same_new hp)
        | bl i =>
          refine ⟨.bl i, rfl, sz 2, fun p hp => ⟨.bl i, p, _, _, _, false, rfl, upd_same, .cons (.ty _) (.cons (.ty _) .nil), .base (.bl i), kit2 (t := "bool") (a := "list") (b := "tuple") (r1 := false) (r2 := false) (by decide +kernel) (by decide +kernel), false, rfl, iteF ?_⟩⟩
          refine ⟨.bl i, rfl, rfl, _, rfl, iteDF (by intro z; cases z) ⟨.bl i, rfl, rfl, _, rfl, iteDF (by intro z; cases z) ?_⟩⟩
          refine ⟨.bl i, rfl, _, _, _, _, true, rfl, .ty _, .base (.bl i), kit1 (by decide +kernel), true, rfl, iteT ?_⟩
          refine ⟨.bl i, rfl, _, _, _, _, true, rfl, .ty _, .base (.bl i), kit1 (by decide +kernel), .bl i, rfl, _, _, _, _, true, rfl, .ty _, .base (.bl i), kit1 (by decide +kernel), rfl, _, rfl, iteDT rfl ⟨.bl i, rfl, .bl i, rfl, rfl, ?_⟩⟩
          rw [decide_eq_true rfl]
          exact q _ (same_new hp)
        | str i =>
          refine ⟨.str i, rfl, sz 2, fun p hp => ⟨.str i, p, _, _, _, false, rfl, upd_same, .cons (.ty _) (.cons (.ty _) .nil), .base (.str i), kit2 (t := "str") (a := "list") (b := "tuple") (r1 := false) (r2 := false) (by decide +kernel) (by decide +kernel), false, rfl, iteF ?_⟩⟩
          refine ⟨.str i, rfl, rfl, _, rfl, iteDF (by intro z; cases z) ⟨.str i, rfl, rfl, _, rfl, iteDF (by intro z; cases z) ?_⟩⟩
          refine ⟨.str i, rfl, _, _, _, _, false, rfl, .ty _, .base (.str i), kit1 (by decide +kernel), false, rfl, iteF ⟨.str i, rfl, _, _, _, _, true, rfl, .ty _, .base (.str i), kit1 (by decide +kernel), true, rfl, iteT ?_⟩⟩
          refine ⟨.str i, rfl, _, _, _, _, false, rfl, .ty _, .base (.str i), kit1 (by decide +kernel), .str i, rfl, _, _, _, _, false, rfl, .ty _, .base (.str i), kit1 (by decide +kernel), rfl, _, rfl, iteDT rfl ⟨.str i, rfl, .str i, rfl, rfl, ?_⟩⟩
          rw [decide_eq_true rfl]
          exact q _ (same_new hp)
        | non =>
          refine ⟨.non, rfl, sz 2, fun p hp => ⟨.non, p, _, _, _, false, rfl, upd_same, .cons (.ty _) (.cons (.ty _) .nil), .base .non, kit2 (t := "NoneType") (a := "list") (b := "tuple") (r1 := false) (r2 := false) (by decide +kernel) (by decide +kernel), false, rfl, iteF ?_⟩⟩
          refine ⟨.non, rfl, rfl, _, rfl, iteDT rfl ?_⟩
          refine ⟨.non, rfl, rfl, _, rfl, iteDT rfl ⟨.non, rfl, rfl, ?_⟩⟩
          rw [decide_eq_true rfl]
          exact q _ (same_new hp)
        | _ => exact hsc.elim
      · have hfin : ∀ (H1 : Hp) (J : It), Same H H1 → L2.Walk J xs.length (fun H2 => Same H1 H2) (YPair (fun i => xs[i]?) (fun i => ys[i]?)) → ∀ (D : Addr), H1 D = none →
            ∃ W : Nat → Nat → Hp → Prop, (∃ m, W 0 m (upd H1 D (.lst []))) ∧ ∀ i m H2, W i m H2 →
              (J.stop i H2 ∧ ∃ (l : Addr) (bs : List Bool), [V.ref D] = [V.ref l] ∧ SqL K H2 l (bs.map V.bl) ∧ Q (.bl (bs.all id)) H2) ∨ (J.go i H2 ∧ ∃ Nx : Hp → Prop, (∀ H', Nx H' → ∃ m', m' < m ∧ W (i + 1) m' H') ∧ ∀ x H', J.yld i H2 x H' →
                gTup K 2 (gCons (gName 2) (gCons (gName 3) gNil)) x (wipe [some (.ref a), some (.ref c), none, none] [2, 3]) H' fun σ2 H3 => wipe σ2 [2, 3] = wipe [some (.ref a), some (.ref c), none, none] [2, 3] ∧ tYes σ2 H3 fun b H4 =>
                  if b = true then tCall (spSame K n) [] E0 (tCons (tVar 2) (tCons (tVar 3) tNil)) σ2 H4 fun y H5 => ∃ acc, H5 D = some (.lst acc) ∧ acc.length < sizeLine ∧ Nx (upd H5 D (.lst (acc ++ [y]))) else Nx H4) := by
          intro H1 J s1 wk D nD
          refine lc_it wk (Qd := fun H2 => ∃ (l : Addr) (bs : List Bool), [V.ref D] = [V.ref l] ∧ SqL K H2 l (bs.map V.bl) ∧ Q (.bl (bs.all id)) H2) (fun i H2 => Same H1 H2 ∧ H2 D = some (.lst ((List.replicate i true).map V.bl)) ∧ i ≤ xs.length) ⟨same_new nD, upd_same, Nat.zero_le _⟩ (fun i H2 _ h => h.1) ?_ ?_
          · rintro i v H2 H3 hi' ⟨s2, e2, _⟩ ⟨U, u1, u2, rfl, nU, rfl, g1, g2⟩
            have s3 : Same H1 (upd H2 U (.tup [u1, u2])) := s2.trans (same_new nU)
            refine ⟨U, _, rfl, .inl (.inl upd_same), rfl, u1, _, rfl, u2, _, rfl, rfl, rfl, ?_⟩
            refine ⟨u1, rfl, u2, rfl, u1, u2, rfl, (hi i u1 u2 g1 g2).same (s1.trans s3), fun H4 s4 => ?_⟩
            have eD : H4 D = some (.lst ((List.replicate i true).map V.bl)) := s4 _ _ (same_new nU _ _ e2)
            refine ⟨_, eD, ?_, ?_, ?_, hi'⟩
            · rw [List.length_map, List.length_replicate]
              omega
            · intro b o hb
              rw [upd_ne (ne_of_none hb nD)]
              exact s4 _ _ (s3 _ _ hb)
            · rw [upd_same, List.replicate_succ', List.map_append]
              rfl
          · rintro H2 ⟨s2, e2, _⟩
            refine ⟨D, _, rfl, .inl (.inl e2), ?_⟩
            rw [all_true]
            exact q _ (s1.trans s2)
        rcases hq with ⟨hp, hc⟩ | ⟨hp, hc⟩
        · refine ⟨.ref c, rfl, sz 2, fun p np => ?_⟩
          have s1 : Same H (upd H p (.tup [.ty "list", .ty "tuple"])) := same_new np
          have hp1 := L2.Same.seq s1 hp
          have hc1 := L2.Same.seq s1 hc
          refine ⟨.ref c, p, _, _, _, true, rfl, upd_same, .cons (.ty _) (.cons (.ty _) .nil), tyL hc1, kit2 (t := "list") (a := "list") (b := "tuple") (r1 := true) (r2 := false) (by decide +kernel) (by decide +kernel), true, rfl, iteT ?_⟩
          refine ⟨.ref a, rfl, _, _, _, _, true, rfl, .ty _, tyL hp1, kit1 (by decide +kernel), .ref c, rfl, _, _, _, _, true, rfl, .ty _, tyL hc1, kit1 (by decide +kernel), rfl, _, rfl, iteNS rfl ?_⟩
          refine ⟨.ref a, rfl, _, _, _, _, false, rfl, .ty _, tyL hp1, kit1 (by decide +kernel), .ref c, rfl, _, _, _, _, false, rfl, .ty _, tyL hc1, kit1 (by decide +kernel), rfl, _, rfl, iteNS rfl ?_⟩
          refine ⟨.ref a, rfl, a, _, rfl, .inl hp1, .ref c, rfl, c, _, rfl, .inl hc1, rfl, _, rfl, iteDT (by rw [hl]) ?_⟩
          refine ⟨.ref a, rfl, .ref c, rfl, a, c, _, _, rfl, .inl ⟨hp1, hc1, fun D nD => ?_⟩⟩
          exact hfin _ _ s1 ((walk_zip (n := xs.length) (by omega)).mono (fun H2 e => ⟨L2.Same.seq e hp1, L2.Same.seq e hc1⟩) (fun i H2 x H3 _ _ y => y)) D nD
        · refine ⟨.ref c, rfl, sz 2, fun p np => ?_⟩
          have s1 : Same H (upd H p (.tup [.ty "list", .ty "tuple"])) := same_new np
          have hp1 := same_tup s1 hp
          have hc1 := same_tup s1 hc
          refine ⟨.ref c, p, _, _, _, true, rfl, upd_same, .cons (.ty _) (.cons (.ty _) .nil), tyT hc1, kit2 (t := "tuple") (a := "list") (b := "tuple") (r1 := false) (r2 := true) (by decide +kernel) (by decide +kernel), true, rfl, iteT ?_⟩
          refine ⟨.ref a, rfl, _, _, _, _, false, rfl, .ty _, tyT hp1, kit1 (by decide +kernel), .ref c, rfl, _, _, _, _, false, rfl, .ty _, tyT hc1, kit1 (by decide +kernel), rfl, _, rfl, iteNS rfl ?_⟩
          refine ⟨.ref a, rfl, _, _, _, _, true, rfl, .ty _, tyT hp1, kit1 (by decide +kernel), .ref c, rfl, _, _, _, _, true, rfl, .ty _, tyT hc1, kit1 (by decide +kernel), rfl, _, rfl, iteNS rfl ?_⟩
          refine ⟨.ref a, rfl, a, _, rfl, .inr hp1, .ref c, rfl, c, _, rfl, .inr hc1, rfl, _, rfl, iteDT (by rw [hl]) ?_⟩
          refine ⟨.ref a, rfl, .ref c, rfl, a, c, _, _, rfl, .inr ⟨hp1, hc1, fun D nD => ?_⟩⟩
          exact hfin _ _ s1 ((walk_zipT (n := xs.length) (by omega)).mono (fun H2 e => ⟨same_tup e hp1, same_tup e hc1⟩) (fun i H2 x H3 _ _ y => y)) D nD
end
end K05

set_option Elab.async false
set_option linter.all false
set_option maxRecDepth 100000
set_option maxHeartbeats 4000000
namespace K05
open PySem PySem.Spec PyProof.Rows L2 Lt
section
variable {P : Program} {w : World} {K : PySem.W.Frag} {mg : Str → Option Value} {base : Heap} {f : Addr} {fd : FuncData}
def spDiv (d : Int) : Sp := fun vs H Q _ => ∃ n : Int, vs = [.int n] ∧ Q (.int (n / d)) H
def spSpan : Sp := fun vs H Q _ => ∃ n : Int, vs = [.int n] ∧ ∀ p H', Same H H' → H p = none → H' p = some (.tup [.int (n * 91), .int (n * 91 + 91 - 1)]) → Q (.ref p) H'
abbrev st_year_of : Stmt := topS 3
theorem sc_year_of : FnScope ["day"] ["day"] (defScope st_year_of) := ⟨rfl, rfl, rfl, by decide +kernel, rfl, by decide +kernel, by decide +kernel⟩
theorem ok_year_of (F : FnP K "year_of" st_year_of f fd) (c : Cst mg "YEAR_DAYS" (.int 364)) : FnOk P w K mg base CX0 1 f fd ["day"] (spDiv 364) := by
  refine F.ok sc_year_of (fun vs H Q E h => ?_) (fun cdv A outer s H vs Q E hr h => ?_)
  · obtain ⟨n, rfl, _⟩ := h
    rfl
  · obtain ⟨n, rfl, q⟩ := h
    refine ⟨_, PSs.nox (pss_one (ps_ret (pe_op op_fdiv (pv 0) (pe_cst c)))), ?_⟩
    exact ⟨.int n, rfl, n, 364, rfl, rfl, ⟨by decide, by decide⟩, q⟩
abbrev st_quarter_of : Stmt := topS 4
theorem sc_quarter_of : FnScope ["day"] ["day"] (defScope st_quarter_of) := ⟨rfl, rfl, rfl, by decide +kernel, rfl, by decide +kernel, by decide +kernel⟩
theorem ok_quarter_of (F : FnP K "quarter_of" st_quarter_of f fd) (c : Cst mg "QUARTER_DAYS" (.int 91)) : FnOk P w K mg base CX0 1 f fd ["day"] (spDiv 91) := by
  refine F.ok sc_quarter_of (fun vs H Q E h => ?_) (fun cdv A outer s H vs Q E hr h => ?_)
  · obtain ⟨n, rfl, _⟩ := h
    rfl
  · obtain ⟨n, rfl, q⟩ := h
    refine ⟨_, PSs.nox (pss_one (ps_ret (pe_op op_fdiv (pv 0) (pe_cst c)))), ?_⟩
    exact ⟨.int n, rfl, n, 91, rfl, rfl, ⟨by decide, by decide⟩, q⟩
abbrev st_quarter_span : Stmt := topS 5
theorem sc_quarter_span : FnScope ["quarter", "first"] ["quarter"] (defScope st_quarter_span) := ⟨rfl, rfl, rfl, by decide +kernel, rfl, by decide +kernel, by decide +kernel⟩
theorem ok_quarter_span (F : FnP K "quarter_span" st_quarter_span f fd) (c : Cst mg "QUARTER_DAYS" (.int 91)) : FnOk P w K mg base CX0 1 f fd ["quarter"] spSpan := by
  refine F.ok sc_quarter_span (fun vs H Q E h => ?_) (fun cdv A outer s H vs Q E hr h => ?_)
  · obtain ⟨n, rfl, _⟩ := h
    rfl
  · obtain ⟨n, rfl, q⟩ := h
    refine ⟨_, PSs.nox (pss_cons (ps_set (i := 1) sc_quarter_span.nd rfl (.inl rfl) (pe_op op_mul (pv 0) (pe_cst c)))
      (pss_one (ps_ret (pe_tup (pa_cons (pv 1) (pa_cons (pe_op op_sub (pe_op op_add (pv 1) (pe_cst c)) pe_int) pa_nil)))))), ?_⟩
    refine ⟨.int n, rfl, n, 91, rfl, rfl, .inr ⟨by decide, by decide⟩, ?_⟩
    refine ⟨.int (n * 91), rfl, .int (n * 91), rfl, n * 91, 91, rfl, rfl, _, 1, rfl, rfl, sz 2, fun p hp => ?_⟩
    exact q p _ (same_new hp) hp upd_same
/-! the days counted -/
def Cnt (H : Hp) (p : Addr) (n : Nat) : Prop := ∃ rs : List Addr, H p = some (.lst (rs.map V.ref)) ∧ rs.length = n ∧
  ∀ (i : Nat) (r : Addr), rs[i]? = some r → H r = some (.tup [.int ((i : Int) / 91), .int ((i : Int) / 364)])
theorem Cnt.same {H H' : Hp} {p : Addr} {n : Nat} (h : Cnt H p n) (e : Same H H') : Cnt H' p n := by
  obtain ⟨rs, h1, h2, h3⟩ := h
  exact ⟨rs, e _ _ h1, h2, fun i r hr => e _ _ (h3 i r hr)⟩
def spCounted : Sp := fun vs H Q _ => vs = [] ∧ ∀ p H', Same H H' → H p = none → Cnt H' p 3640 → Q (.ref p) H'
abbrev st__law_counted : Stmt := topS 11
theorem sc__law_counted : FnScope ["_law_found", "_law_which", "_law_year", "_law_left", "_law_quarters", "_law_one_day"] [] (defScope st__law_counted) := ⟨rfl, rfl, rfl, by decide +kernel, rfl, by decide +kernel, by decide +kernel⟩
theorem ok_counted (F : FnP K "_law_counted" st__law_counted f fd) (T : Bl mg) : FnOk P w K mg base CX0 1 f fd [] spCounted := by
  refine F.ok sc__law_counted (fun vs H Q E h => ?_) (fun cdv A outer s H vs Q E hr h => ?_)
  · obtain ⟨rfl, _⟩ := h
    rfl
  · obtain ⟨rfl, q⟩ := h
    refine ⟨_, PSs.nox (pss_cons (ps_asg (pe_tup (pa_cons (pe_lst pa_nil) (pa_cons pe_int (pa_cons pe_int (pa_cons pe_int (pa_cons pe_int pa_nil)))))) (pg_tup rfl (pgs_cons (pg_name (i := 0) sc__law_counted.nd rfl (.inl rfl)) (pgs_cons (pg_name (i := 1) sc__law_counted.nd rfl (.inl rfl)) (pgs_cons (pg_name (i := 2) sc__law_counted.nd rfl (.inl rfl)) (pgs_cons (pg_name (i := 3) sc__law_counted.nd rfl (.inl rfl)) (pgs_cons (pg_name (i := 4) sc__law_counted.nd rfl (.inl rfl)) pgs_nil)))))))
      (pss_cons (ps_for PassesOwn.never rfl (pi_range1 (by rfl) T.b_range (pa_cons pe_int pa_nil)) (pg_name (i := 5) sc__law_counted.nd rfl (.inl rfl))
        (pss_cons (ps_if (pt_cmpR op_eq (pv 3) pe_int (nomark _))
          (pss_one (ps_par3 (i := 1) (j := 3) (l := 4) (by rfl) sc__law_counted.nd rfl rfl rfl (by decide) (by decide) (by decide) rfl rfl rfl (pa_cons (pe_op op_add (pv 1) pe_int) (pa_cons pe_int (pa_cons (pe_op op_sub (pv 4) pe_int) pa_nil))) (by rfl)))
          pss_nil)
        (pss_cons (ps_if (pt_cmpR op_eq (pv 4) pe_int (nomark _))
          (pss_one (ps_par (i := 2) (j := 4) (by rfl) sc__law_counted.nd rfl rfl (by decide) rfl rfl (pa_cons (pe_op op_add (pv 2) pe_int) (pa_cons pe_int pa_nil)) (by rfl)))
          pss_nil)
        (pss_cons (ps_expr (pe_bm PySem.F.plainAttrs_list PySem.F.slot_list_append PySem.F.type_list_append mt_append (pv 0) (pa_cons (pe_tup (pa_cons (pv 1) (pa_cons (pv 2) pa_nil))) pa_nil)))
        (pss_one (ps_set (i := 3) sc__law_counted.nd rfl (.inl rfl) (pe_op op_sub (pv 3) pe_int)))))))
      (pss_one (ps_ret (pv 0))))), ?_⟩
    refine ⟨Nat.zero_le _, fun p np => ⟨sz 5, fun p2 n2 => ?_⟩⟩
    refine ⟨p2, _, rfl, .inl (.inl upd_same), rfl, _, _, rfl, _, _, rfl, _, _, rfl, _, _, rfl, _, _, rfl, rfl, ?_⟩
    have s0 : Same H (upd (upd H p (.lst [])) p2 (.tup [.ref p, .int 0, .int 0, .int 91, .int 4])) := (same_new np).trans (same_new n2)
    have npp : p ≠ p2 := fun e => by
      subst e
      rw [upd_same] at n2
      cases n2
    refine ⟨3640, rfl, by decide, by decide, for_it walk_range (fun i σ H1 => ∃ (wh ye le qu : Int) (y5 : Option V), σ = [some (.ref p), some (.int wh), some (.int ye), some (.int le), some (.int qu), y5] ∧
      Same H H1 ∧ Cnt H1 p i ∧ (i : Int) = 91 * wh + 91 - le ∧ 0 ≤ le ∧ le ≤ 91 ∧ wh = 4 * ye + 4 - qu ∧ 1 ≤ qu ∧ qu ≤ 4) ?_ (fun _ _ _ _ _ => True.intro) ?_ ?_⟩
    · refine ⟨0, 0, 91, 4, none, rfl, s0, ⟨[], ?_, rfl, fun i r hr => by simp at hr⟩, by decide, by decide, by decide, by decide, by decide, by decide⟩
      rw [upd_ne npp, upd_same]
      rfl
    · rintro i x σ H0 H1 hi ⟨wh, ye, le, qu, y5, rfl, sm, hc, e1, e2, e3, e4, e5, e6⟩ ⟨rfl, rfl⟩
      have hi' : i < 3640 := hi
      have fin2 : ∀ (wh ye le qu : Int) (H2 : Hp), Same H1 H2 → (i : Int) = 91 * wh + 91 - le → 1 ≤ le → le ≤ 91 → wh = 4 * ye + 4 - qu → 1 ≤ qu → qu ≤ 4 →
          tSeq (tDrop (tBM K "list" rAppend (tVar 0) (tCons (tTup (tCons (tVar 1) (tCons (tVar 2) tNil))) tNil))) (tAsg (tOp (rI0 fun i j => .int (i - j)) (tVar 3) (tC (.int 1))) (gName 3))
            { nx := fun σ H1 => ∃ (wh ye le qu : Int) (y5 : Option V), σ = [some (.ref p), some (.int wh), some (.int ye), some (.int le), some (.int qu), y5] ∧ Same H H1 ∧ Cnt H1 p (i + 1) ∧ ((i + 1 : Nat) : Int) = 91 * wh + 91 - le ∧ 0 ≤ le ∧ le ≤ 91 ∧ wh = 4 * ye + 4 - qu ∧ 1 ≤ qu ∧ qu ≤ 4, rt := Q,
              ct := fun σ H1 => ∃ (wh ye le qu : Int) (y5 : Option V), σ = [some (.ref p), some (.int wh), some (.int ye), some (.int le), some (.int qu), y5] ∧ Same H H1 ∧ Cnt H1 p (i + 1) ∧ ((i + 1 : Nat) : Int) = 91 * wh + 91 - le ∧ 0 ≤ le ∧ le ≤ 91 ∧ wh = 4 * ye + 4 - qu ∧ 1 ≤ qu ∧ qu ≤ 4,
              bk := fun σ H' => tRet (tVar 0) { nx := fun _ H' => Q .non H', rt := Q } σ H' }
            [some (.ref p), some (.int wh), some (.int ye), some (.int le), some (.int qu), some (.int (0 + i))] H2 := by
        intro wh ye le qu H2 sm2 e1 e2 e3 e4 e5 e6
        obtain ⟨rs, h1, h2, h3⟩ := hc.same sm2
        refine ⟨.ref p, rfl, .inl ⟨rfl, _, .inl (.inl h1)⟩, .int wh, rfl, .int ye, rfl, sz 2, fun r nr => ?_⟩
        have s3 : Same H2 (upd H2 r (.tup [.int wh, .int ye])) := same_new nr
        have npr : p ≠ r := ne_of_none h1 nr
        refine ⟨p, _, .ref r, rfl, rfl, s3 _ _ h1, ?_, ?_⟩
        · rw [List.length_map, h2]
          exact Nat.lt_of_lt_of_le hi' (by decide)
        · refine ⟨.int le, rfl, le, 1, rfl, rfl, wh, ye, le - 1, qu, _, rfl, ?_, ⟨rs ++ [r], ?_, ?_, ?_⟩, by omega, by omega, by omega, e4, e5, e6⟩
          · intro b o hb
            rw [upd_ne (ne_of_none hb np)]
            exact s3 _ _ (sm2 _ _ (sm _ _ hb))
          · rw [upd_same, List.map_append]
            rfl
          · rw [List.length_append, h2]
            rfl
          · intro j t hj
            by_cases hji : j < rs.length
            · rw [List.getElem?_append_left hji] at hj
              have h4 := s3 _ _ (h3 j t hj)
              rw [upd_ne (fun z => ?_)]
              · exact h4
              · subst z
                rw [upd_ne npr, h1] at h4
                cases h4
            · rw [List.getElem?_append_right (by omega)] at hj
              have ej : j = i := by
                have := (List.getElem?_eq_some_iff.mp hj).1
                simp at this
                omega
              subst ej
              rw [h2, Nat.sub_self] at hj
              cases hj
              rw [upd_ne npr.symm, upd_same]
              have a1 : wh = (j : Int) / 91 := by omega
              have a2 : ye = (j : Int) / 364 := by omega
              rw [← a1, ← a2]
      have fin1 : ∀ (wh ye le qu : Int) (H2 : Hp), Same H1 H2 → (i : Int) = 91 * wh + 91 - le → 1 ≤ le → le ≤ 91 → wh = 4 * ye + 4 - qu → 0 ≤ qu → qu ≤ 4 →
          tSeq (tIfS (tTest (tOp rEq (tVar 4) (tC (.int 0)))) (tPar 2 4 (tCons (tOp (rI0 fun i j => .int (i + j)) (tVar 2) (tC (.int 1))) (tCons (tC (.int 4)) tNil))) tNext)
            (tSeq (tDrop (tBM K "list" rAppend (tVar 0) (tCons (tTup (tCons (tVar 1) (tCons (tVar 2) tNil))) tNil))) (tAsg (tOp (rI0 fun i j => .int (i - j)) (tVar 3) (tC (.int 1))) (gName 3)))
            { nx := fun σ H1 => ∃ (wh ye le qu : Int) (y5 : Option V), σ = [some (.ref p), some (.int wh), some (.int ye), some (.int le), some (.int qu), y5] ∧ Same H H1 ∧ Cnt H1 p (i + 1) ∧ ((i + 1 : Nat) : Int) = 91 * wh + 91 - le ∧ 0 ≤ le ∧ le ≤ 91 ∧ wh = 4 * ye + 4 - qu ∧ 1 ≤ qu ∧ qu ≤ 4, rt := Q,
              ct := fun σ H1 => ∃ (wh ye le qu : Int) (y5 : Option V), σ = [some (.ref p), some (.int wh), some (.int ye), some (.int le), some (.int qu), y5] ∧ Same H H1 ∧ Cnt H1 p (i + 1) ∧ ((i + 1 : Nat) : Int) = 91 * wh + 91 - le ∧ 0 ≤ le ∧ le ≤ 91 ∧ wh = 4 * ye + 4 - qu ∧ 1 ≤ qu ∧ qu ≤ 4,
              bk := fun σ H' => tRet (tVar 0) { nx := fun _ H' => Q .non H', rt := Q } σ H' }
            [some (.ref p), some (.int wh), some (.int ye), some (.int le), some (.int qu), some (.int (0 + i))] H2 := by
        intro wh ye le qu H2 sm2 e1 e2 e3 e4 e5 e6
        refine ⟨.int qu, rfl, rfl, _, rfl, ite2 (fun e => ?_) (fun e => ?_)⟩
        · have e0 : qu = 0 := V.int.inj (of_decide_eq_true e)
          refine ⟨.int ye, rfl, ye, 1, rfl, rfl, _, _, rfl, fin2 wh (ye + 1) le 4 H2 sm2 e1 e2 e3 (by omega) (by decide) (by decide)⟩
        · have e0 : qu ≠ 0 := fun z => e (decide_eq_true (by rw [z]))
          exact fin2 wh ye le qu H2 sm2 e1 e2 e3 e4 (by omega) e6
      refine ⟨.int le, rfl, rfl, _, rfl, ite2 (fun e => ?_) (fun e => ?_)⟩
      · have e0 : le = 0 := V.int.inj (of_decide_eq_true e)
        refine ⟨.int wh, rfl, wh, 1, rfl, rfl, .int qu, rfl, qu, 1, rfl, rfl, _, _, _, rfl, ?_⟩
        exact fin1 (wh + 1) ye 91 (qu - 1) _ (Same.refl _) (by omega) (by decide) (by decide) (by omega) (by omega) (by omega)
      · have e0 : le ≠ 0 := fun z => e (decide_eq_true (by rw [z]))
        exact fin1 wh ye le qu _ (Same.refl _) e1 (by omega) e3 e4 (by omega) e6
    · rintro σ H1 ⟨wh, ye, le, qu, y5, rfl, sm, hc, _⟩
      exact ⟨.ref p, rfl, q p H1 sm np hc⟩
end
end K05

set_option Elab.async false
set_option linter.all false
set_option maxRecDepth 100000
set_option maxHeartbeats 4000000
namespace K05
open PySem PySem.Spec PyProof.Rows L2 Lt
section
variable {P : Program} {w : World} {K : PySem.W.Frag} {mg : Str → Option Value} {base : Heap} {f : Addr} {fd : FuncData}
def spLaw (K : PySem.W.Frag) : Sp := fun vs H Q _ => ∃ (a : Addr) (ns : List Int), vs = [.ref a] ∧ SqL K H a (ns.map V.int) ∧ ns.length ≤ 63 ∧ ∀ H', Q (.bl true) H'
theorem Cnt.at {H : Hp} {p : Addr} {d : Int} (h : Cnt H p 3640) (h0 : 0 ≤ d) (h1 : d < 3640) : ∃ (xs : List V) (r : Addr), H p = some (.lst xs) ∧ atI xs d = some (.ref r) ∧ H r = some (.tup [.int (d / 91), .int (d / 364)]) := by
  obtain ⟨rs, h2, h3, h4⟩ := h
  have hd : d.toNat < (rs.map V.ref).length := by
    rw [List.length_map, h3]
    omega
  have hd2 : d.toNat < rs.length := by omega
  refine ⟨_, rs[d.toNat], h2, ?_, ?_⟩
  · rw [atI_pos h0 hd, List.getElem_map]
  · have h5 := h4 d.toNat _ (List.getElem?_eq_getElem hd2)
    have e : ((d.toNat : Nat) : Int) = d := by omega
    rw [e] at h5
    exact h5
abbrev st_law : Stmt := topS 12
theorem sc_law : FnScope ["_law_script", "_law_due", "_law_cells", "_law_behind", "_law_which", "_law_first", "_law_last", "_law_one_day", "_law_k", "_law_box"] ["_law_script"] (defScope st_law) := ⟨rfl, rfl, rfl, by decide +kernel, rfl, by decide +kernel, by decide +kernel⟩
theorem ok_law (F : FnP K "law" st_law f fd) (T : Bl mg)
    (C__law_counted : Cal P w K mg base "_law_counted" 1 [] [] spCounted)
    (C__law_folded : Cal P w K mg base "_law_folded" 1 ["_law_script", "_law_size"] [] (spFold K))
    (C__law_dip : Cal P w K mg base "_law_dip" 1 ["_law_script", "_law_k"] [] (spDip K))
    (C__law_take : Cal P w K mg base "_law_take" 1 ["_law_box", "_law_many"] [] spTake)
    (C__law_same : Cal P w K mg base "_law_same" 3 ["_law_found", "_law_due"] [] (spSame K 2))
    (C_quarter_span : Cal P w K mg base "quarter_span" 1 ["quarter"] [] spSpan)
    (C_quarter_span_k0 : CalK P w K mg base "quarter_span" 1 ["quarter"] 0 ["quarter"] (fun vs zs => vs ++ zs) spSpan)
    (C_quarter_of : Cal P w K mg base "quarter_of" 1 ["day"] [] (spDiv 91))
    (C_quarter_of_k0 : CalK P w K mg base "quarter_of" 1 ["day"] 0 ["day"] (fun vs zs => vs ++ zs) (spDiv 91))
    (C_year_of : Cal P w K mg base "year_of" 1 ["day"] [] (spDiv 364))
    (C_year_of_k0 : CalK P w K mg base "year_of" 1 ["day"] 0 ["day"] (fun vs zs => vs ++ zs) (spDiv 364)) :
    FnOk P w K mg base CX0 4 f fd ["_law_script"] (spLaw K) := by
  refine F.ok sc_law (fun vs H Q E h => ?_) (fun cdv A outer s H vs Q E hr h => ?_)
  · obtain ⟨a, ns, rfl, _⟩ := h
    rfl
  · obtain ⟨a, ns, rfl, hS, hn, q⟩ := h
    refine ⟨_, PSs.nox (pss_cons (ps_par (i := 1) (j := 2) (by rfl) sc_law.nd rfl rfl (by decide) rfl rfl (pa_cons (pe_cal0 C__law_counted (hr.mono (by decide)) rfl) (pa_cons (pe_cal C__law_folded (hr.mono (by decide)) rfl (pa_cons (pv 0) (pa_cons pe_int pa_nil))) pa_nil)) (by rfl))
      (pss_cons (ps_set (i := 3) sc_law.nd rfl (.inl rfl) (pe_un un_neg pe_int))
      (pss_cons (ps_for PassesOwn.never rfl (pi_range1 (by rfl) T.b_range (pa_cons pe_int pa_nil)) (pg_name (i := 4) sc_law.nd rfl (.inl rfl))
        (pss_cons (ps_asg (pe_cal C_quarter_span (hr.mono (by decide)) rfl (pa_cons (pv 4) pa_nil)) (pg_tup rfl (pgs_cons (pg_name (i := 5) sc_law.nd rfl (.inl rfl)) (pgs_cons (pg_name (i := 6) sc_law.nd rfl (.inl rfl)) pgs_nil))))
        (pss_cons (ps_if (PW.pt (pw_or (pt_not (pt_val (pe_cal C__law_same (hr.mono (by decide)) rfl (pa_cons (pe_calk0 C_quarter_span_k0 (hr.mono (by decide)) rfl (pk_cons (pv 4) pk_nil)) (pa_cons (pe_tup (pa_cons (pe_op op_add (pv 3) pe_int) (pa_cons (pe_op op_add (pv 3) pe_int) pa_nil))) pa_nil))))) (pw_or1 (pt_cmpR op_ne (pv 5) (pe_op op_add (pv 3) pe_int) (nomark _)))))
          (pss_one (ps_ret pe_bl))
          pss_nil)
        (pss_cons (ps_set (i := 3) sc_law.nd rfl (.inl rfl) (pv 6))
        (pss_one (ps_for PassesOwn.never rfl (pi_tup (pe_tup (pa_cons (pv 5) (pa_cons (pe_op op_add (pv 5) pe_int) (pa_cons (pe_op op_sub (pv 6) pe_int) (pa_cons (pv 6) pa_nil)))))) (pg_name (i := 7) sc_law.nd rfl (.inl rfl))
          (pss_one (ps_if (PW.pt (pw_or (pt_not (pt_val (pe_cal C__law_same (hr.mono (by decide)) rfl (pa_cons (pe_lst (pa_cons (pe_cal C_quarter_of (hr.mono (by decide)) rfl (pa_cons (pv 7) pa_nil)) (pa_cons (pe_cal C_year_of (hr.mono (by decide)) rfl (pa_cons (pv 7) pa_nil)) pa_nil))) (pa_cons (pe_callTy call_list_of (by rfl) T.b_list (by decide +kernel) (pa_cons (pe_ix ix_list (pv 1) (pv 7) (fun _ _ => rfl)) pa_nil)) pa_nil))))) (pw_or1 (pt_cmpR op_ne (pe_ix ix_tup (pe_ix ix_list (pv 1) (pv 7) (fun _ _ => rfl)) pe_int (fun _ _ => rfl)) (pv 4) (nomark _)))))
            (pss_one (ps_ret pe_bl))
            pss_nil))))))))
      (pss_cons (ps_if (pt_cmpR op_ne (pv 3) pe_int (nomark _))
        (pss_one (ps_ret pe_bl))
        pss_nil)
      (pss_cons (ps_for PassesOwn.never rfl (pi_range1 (by rfl) T.b_range (pa_cons (pe_op op_add pe_int (pe_callB call_len_seq (by rfl) T.b_len (by decide +kernel) (pa_cons (pv 2) pa_nil))) pa_nil)) (pg_name (i := 8) sc_law.nd rfl (.inl rfl))
        (pss_cons (ps_set (i := 9) sc_law.nd rfl (.inl rfl) (pe_cal C__law_dip (hr.mono (by decide)) rfl (pa_cons (pv 2) (pa_cons (pv 8) pa_nil))))
        (pss_cons (ps_set (i := 7) sc_law.nd rfl (.inl rfl) (pe_cal C__law_take (hr.mono (by decide)) rfl (pa_cons (pv 9) (pa_cons pe_int pa_nil))))
        (pss_one (ps_while PassesOwn.never (pt_cmpR op_lt (pv 7) pe_int (nomark _))
          (pss_cons (ps_if (pt_not (pt_val (pe_cal C__law_same (hr.mono (by decide)) rfl (pa_cons (pe_lst (pa_cons (pe_calk0 C_quarter_of_k0 (hr.mono (by decide)) rfl (pk_cons (pv 7) pk_nil)) (pa_cons (pe_calk0 C_year_of_k0 (hr.mono (by decide)) rfl (pk_cons (pv 7) pk_nil)) pa_nil))) (pa_cons (pe_callTy call_list_of (by rfl) T.b_list (by decide +kernel) (pa_cons (pe_ix ix_list (pv 1) (pv 7) (fun _ _ => rfl)) pa_nil)) pa_nil)))))
            (pss_one (ps_ret pe_bl))
            pss_nil)
          (pss_one (ps_set (i := 7) sc_law.nd rfl (.inl rfl) (pe_op op_add (pe_op op_add (pv 7) pe_int) (pe_cal C__law_take (hr.mono (by decide)) rfl (pa_cons (pv 9) (pa_cons pe_int pa_nil))))))))))))
      (pss_one (ps_ret pe_bl))))))), ?_⟩
    refine ⟨rfl, fun p H1 s1 np hc1 => ?_⟩
    refine ⟨.ref a, rfl, a, ns, 4, rfl, L2.Same.seq s1 hS, hn, by decide, by decide, fun pc ms H2 npc s2 ec lm lk => ⟨_, _, rfl, ?_⟩⟩
    have hc2 := hc1.same s2
    refine ⟨1, rfl, ?_⟩
    refine ⟨40, rfl, by decide, by decide, for_it walk_range (fun i σ H3 => ∃ (y4 y5 y6 y7 : Option V), σ = [some (.ref a), some (.ref p), some (.ref pc), some (.int (91 * (i : Int) - 1)), y4, y5, y6, y7, none, none] ∧ Same H2 H3) ⟨none, none, none, none, rfl, Same.refl _⟩ (fun _ _ _ _ _ => True.intro) ?_ ?_⟩
    · rintro i x σ H0 H3 hi ⟨y4, y5, y6, y7, rfl, s3⟩ ⟨rfl, rfl⟩
      have hi' : i < 40 := hi
      refine ⟨.int (0 + i), rfl, _, rfl, fun t H4 s4 nt et => ⟨t, _, rfl, .inl (.inl et), rfl, _, _, rfl, _, _, rfl, rfl, ?_⟩⟩
      have s34 := s3.trans s4
      refine ⟨.int (0 + i), rfl, rfl, rfl, _, rfl, fun t2 H5 s5 nt2 et2 => ⟨.int (91 * (i : Int) - 1), rfl, _, 1, rfl, rfl, .int (91 * (i : Int) - 1), rfl, _, 91, rfl, rfl, sz 2, fun t3 nt3 => ?_⟩⟩
      have s6 := same_new (o := .tup [.int (91 * (i : Int) - 1 + 1), .int (91 * (i : Int) - 1 + 91)]) nt3
      refine ⟨_, _, rfl, ?_, fun H6 s7 => ⟨true, rfl, iteF ?_⟩⟩
      · have e1 : (0 + (i : Int)) * 91 = 91 * (i : Int) - 1 + 1 := by omega
        have e2 : (0 + (i : Int)) * 91 + 91 - 1 = 91 * (i : Int) - 1 + 91 := by omega
        have h1 := s6 _ _ et2
        rw [e2, e1] at h1
        exact sm_intsT (ns := [91 * (i : Int) - 1 + 1, 91 * (i : Int) - 1 + 91]) (.inl (.inl h1)) (.inl (.inl upd_same)) (by show 2 ≤ 1000; decide)
      · have s36 : Same H2 H6 := ((s34.trans s5).trans s6).trans s7
        refine ⟨_, rfl, .int (91 * (i : Int) - 1), rfl, _, 1, rfl, rfl, rfl, _, rfl, iteNS ?_ ?_⟩
        · congr 1
          omega
        · refine ⟨_, rfl, ?_⟩
          refine ⟨_, rfl, _, rfl, _, 1, rfl, rfl, _, rfl, _, 1, rfl, rfl, _, rfl, sz 4, fun t4 nt4 => ⟨t4, rfl, ⟨_, .inl (.inl upd_same)⟩, ?_⟩⟩
          refine for_it (walk_tup (K := K) (a := t4) (xs := [.int ((0 + (i : Int)) * 91), .int ((0 + (i : Int)) * 91 + 1), .int ((0 + (i : Int)) * 91 + 91 - 1 - 1), .int ((0 + (i : Int)) * 91 + 91 - 1)])) (fun j σ H7 => ∃ y7 : Option V, σ = [some (.ref a), some (.ref p), some (.ref pc), some (.int ((0 + (i : Int)) * 91 + 91 - 1)), some (.int (0 + i)), some (.int ((0 + (i : Int)) * 91)), some (.int ((0 + (i : Int)) * 91 + 91 - 1)), y7, none, none] ∧
            Same H2 H7 ∧ H7 t4 = some (.tup [.int ((0 + (i : Int)) * 91), .int ((0 + (i : Int)) * 91 + 1), .int ((0 + (i : Int)) * 91 + 91 - 1 - 1), .int ((0 + (i : Int)) * 91 + 91 - 1)])) ⟨y7, rfl, s36.trans (same_new nt4), upd_same⟩ (fun j σ H7 _ h => by obtain ⟨_, _, _, h⟩ := h; exact .inl (.inl h)) ?_ ?_
          · rintro j x σ H0 H7 hj ⟨y7, rfl, s8, e4⟩ ⟨rfl, ex⟩
            obtain ⟨d, rfl, d0, d1, d2⟩ : ∃ d : Int, x = .int d ∧ 0 ≤ d ∧ d < 3640 ∧ d / 91 = i := by
              have hj4 : j < 4 := hj
              rcases j with _ | _ | _ | _ | j
              · cases ex
                exact ⟨_, rfl, by omega, by omega, by omega⟩
              · cases ex
                exact ⟨_, rfl, by omega, by omega, by omega⟩
              · cases ex
                exact ⟨_, rfl, by omega, by omega, by omega⟩
              · cases ex
                exact ⟨_, rfl, by omega, by omega, by omega⟩
              · omega
            have hc7 := hc2.same s8
            refine ⟨.int d, rfl, d, rfl, .int d, rfl, d, rfl, sz 2, fun l1 nl1 => ?_⟩
            have s9 := same_new (o := .lst [.int (d / 91), .int (d / 364)]) nl1
            obtain ⟨zs, r, g1, g2, g3⟩ := (hc7.same s9).at d0 d1
            refine ⟨.ref p, rfl, .int d, rfl, p, zs, d, .ref r, rfl, rfl, .inl (.inl g1), g2, r, _, rfl, .inr (.inl (.inl g3)), fun l2 nl2 => ?_⟩
            have s10 := same_new (o := .lst [.int (d / 91), .int (d / 364)]) nl2
            refine ⟨_, _, rfl, sm_ints (ns := [d / 91, d / 364]) (.inl (.inl (s10 _ _ upd_same))) (.inl (.inl upd_same)) (by show 2 ≤ 1000; decide), fun H8 s11 => ⟨true, rfl, iteF ?_⟩⟩
            have sA := (s9.trans s10).trans s11
            obtain ⟨zs2, r2, g4, g5, g6⟩ := (hc7.same sA).at d0 d1
            refine ⟨.ref p, rfl, .int d, rfl, p, zs2, d, .ref r2, rfl, rfl, .inl (.inl g4), g5, r2, _, 0, _, rfl, rfl, .inl (.inl g6), rfl, .int (0 + i), rfl, rfl, _, rfl, iteNS ?_ ?_⟩
            · congr 1
              omega
            · exact ⟨_, rfl, s8.trans sA, sA _ _ e4⟩
          · rintro σ H7 ⟨y7, rfl, s8, e4⟩
            have e1 : 91 * ((i + 1 : Nat) : Int) - 1 = (0 + (i : Int)) * 91 + 91 - 1 := by omega
            show ∃ (y4 y5 y6 y7 : Option V), _ = [some (V.ref a), some (.ref p), some (.ref pc), some (.int (91 * ((i + 1 : Nat) : Int) - 1)), y4, y5, y6, y7, none, none] ∧ Same H2 H7
            rw [e1]
            exact ⟨_, _, _, _, rfl, s8⟩
    · rintro σ H3 ⟨y4, y5, y6, y7, rfl, s3⟩
      refine ⟨_, rfl, rfl, _, rfl, iteNS (by decide) ?_⟩
      have hc3 := hc2.same s3
      have ec3 := s3 _ _ ec
      refine ⟨.ref pc, rfl, pc, _, rfl, .inl (.inl (.inl ec3)), 1, _, rfl, rfl, _, rfl, ?_, ?_, for_it walk_range (fun i σ H4 => ∃ (y3 y7 y8 y9 : Option V), σ = [some (.ref a), some (.ref p), some (.ref pc), y3, y4, y5, y6, y7, y8, y9] ∧ Same H3 H4) ⟨_, _, _, _, rfl, Same.refl _⟩ (fun _ _ _ _ _ => True.intro) ?_ ?_⟩
      · rw [List.length_map]
        omega
      · rw [List.length_map]
        omega
      · rintro i x σ H0 H4 hi ⟨y3, y7, y8, y9, rfl, s4⟩ ⟨rfl, rfl⟩
        have hi2 : (i : Int) ≤ 63 := by
          rw [List.length_map] at hi
          omega
        refine ⟨.ref pc, rfl, .int (0 + i), rfl, pc, ms, _, rfl, .inl (.inl (s4 _ _ ec3)), by omega, by omega, fun b H5 nb s5 hb => ?_⟩
        refine ⟨.ref b, rfl, b, 3640, 0, rfl, by decide, by decide, hb, by decide, fun d H6 d0 d1 k6 hb6 => ?_⟩
        have s6 : Same H4 H6 := fun c o hc => k6 _ _ (s5 _ _ hc) (ne_of_none hc nb)
        refine ⟨fun m σ H7 => ∃ d : Int, σ = [some (.ref a), some (.ref p), some (.ref pc), y3, y4, y5, y6, some (.int d), some (.int (0 + i)), some (.ref b)] ∧ 0 ≤ d ∧ m = (4000 - d).toNat ∧ d < 3700 ∧ Same H3 H7 ∧ Box H7 b (d + 1), ⟨_, d, rfl, d0, rfl, by omega, s4.trans s6, hb6.le (by omega)⟩, ?_⟩
        rintro m σ H7 ⟨d, rfl, d0, rfl, d1, s7, hb7⟩
        refine ⟨.int d, rfl, d, 3640, rfl, rfl, _, rfl, ite2 (fun e => ?_) (fun e => ?_)⟩
        · have e0 : d < 3640 := of_decide_eq_true e
          refine ⟨fun σ' H' => ∃ d' : Int, σ' = [some (.ref a), some (.ref p), some (.ref pc), y3, y4, y5, y6, some (.int d'), some (.int (0 + i)), some (.ref b)] ∧ d < d' ∧ d' < 3700 ∧ Same H3 H' ∧ Box H' b (d' + 1), ?_, ?_⟩
          · rintro σ' H' ⟨d', rfl, h1, h2, h3, h4⟩
            exact ⟨(4000 - d').toNat, by omega, d', rfl, by omega, rfl, h2, h3, h4⟩
          · refine ⟨.int d, rfl, rfl, rfl, d, rfl, .int d, rfl, rfl, rfl, d, rfl, sz 2, fun l1 nl1 => ?_⟩
            have hc7 := hc3.same s7
            have s9 := same_new (o := .lst [.int (d / 91), .int (d / 364)]) nl1
            obtain ⟨zs, r, g1, g2, g3⟩ := (hc7.same s9).at d0 e0
            refine ⟨.ref p, rfl, .int d, rfl, p, zs, d, .ref r, rfl, rfl, .inl (.inl g1), g2, r, _, rfl, .inr (.inl (.inl g3)), fun l2 nl2 => ?_⟩
            have s10 := same_new (o := .lst [.int (d / 91), .int (d / 364)]) nl2
            refine ⟨_, _, rfl, sm_ints (ns := [d / 91, d / 364]) (.inl (.inl (s10 _ _ upd_same))) (.inl (.inl upd_same)) (by show 2 ≤ 1000; decide), fun H8 s11 => ⟨true, rfl, iteF ?_⟩⟩
            have sA := (s9.trans s10).trans s11
            have nb3 : H3 b = none := s4.free nb
            refine ⟨.int d, rfl, d, 1, rfl, rfl, .ref b, rfl, b, 60, d + 1, rfl, by decide, by decide, hb7.same sA, by omega, fun r2 H9 r0 r1 k9 hb9 => ⟨_, _, rfl, rfl, d + 1 + r2, rfl, by omega, by omega, ?_, hb9.le (by omega)⟩⟩
            exact fun c o hc => k9 _ _ (sA _ _ (s7 _ _ hc)) (ne_of_none hc nb3)
        · exact ⟨_, _, _, _, rfl, s7⟩
      · rintro σ H4 ⟨y3, y7, y8, y9, rfl, s4⟩
        exact q _
end
end K05

set_option Elab.async false
set_option linter.all false
set_option maxRecDepth 100000
set_option maxHeartbeats 0
namespace K05
open PySem PySem.Spec PyProof.Rows L2 Lt
/-! the head: facts by names, the run -/
def d_year_of : He.DefD := ⟨("year_of", none), "year_of", "year_of", defArgs st_year_of, defBody st_year_of, defScope st_year_of, [], []⟩
def d_quarter_of : He.DefD := ⟨("quarter_of", none), "quarter_of", "quarter_of", defArgs st_quarter_of, defBody st_quarter_of, defScope st_quarter_of, [], []⟩
def d_quarter_span : He.DefD := ⟨("quarter_span", none), "quarter_span", "quarter_span", defArgs st_quarter_span, defBody st_quarter_span, defScope st_quarter_span, [], []⟩
def d__law_dip : He.DefD := ⟨("_law_dip", none), "_law_dip", "_law_dip", defArgs st__law_dip, defBody st__law_dip, defScope st__law_dip, [], []⟩
def d__law_take : He.DefD := ⟨("_law_take", none), "_law_take", "_law_take", defArgs st__law_take, defBody st__law_take, defScope st__law_take, [], []⟩
def d__law_folded : He.DefD := ⟨("_law_folded", none), "_law_folded", "_law_folded", defArgs st__law_folded, defBody st__law_folded, defScope st__law_folded, [], []⟩
def d__law_same : He.DefD := ⟨("_law_same", none), "_law_same", "_law_same", defArgs st__law_same, defBody st__law_same, defScope st__law_same, [], []⟩
def d__law_counted : He.DefD := ⟨("_law_counted", none), "_law_counted", "_law_counted", defArgs st__law_counted, defBody st__law_counted, defScope st__law_counted, [], []⟩
def d_law : He.DefD := ⟨("law", none), "law", "law", defArgs st_law, defBody st_law, defScope st_law, [], []⟩
def fn : List He.DefD := [d_year_of, d_quarter_of, d_quarter_span, d__law_dip, d__law_take, d__law_folded, d__law_same, d__law_counted, d_law]
def fa : List He.Fa := [.glo "year_of", .glo "quarter_of", .glo "quarter_span", .glo "_law_dip", .glo "_law_take", .glo "_law_folded", .glo "_law_same", .glo "_law_counted", .glo "law", .free "len", .free "abs", .free "int", .free "list", .free "tuple", .free "str", .free "bool", .free "set", .free "range", .free "enumerate", .free "zip", .free "isinstance", .free "all", .free "any", .free "sum", .free "min", .free "max", .free "sorted", .int "QUARTER_DAYS" 91, .int "YEAR_DAYS" 364]
abbrev R : PySem.W.OpenRow := PySem.W.OpenLaw.row PySem.Challenge.rw_lettolls_k05_years_and_quarters
abbrev hk : PySem.W.Hook := He.hookD 4 fa fn
def ob (s : PySem.W.SharedT) : He.AlD := He.obsDG 4 fa fn (HandSHeadRun.getT s)
theorem ob_eq (s : PySem.W.SharedT) : ob s = hk.obs s.abs := He.obsDG_eq (HandSHeadRun.getT_eq s)
def loose : List PySem.Str := ["QUARTER_DAYS", "YEAR_DAYS", "year_of", "quarter_of", "quarter_span", "_law_dip", "_law_take", "_law_folded", "_law_same", "_law_counted"]
theorem run (w : World) : HandSHeadRun.RunEq R (PySem.W.view R.prog [12]) hk ob 800 loose w := by
  intro os
  kernel_rfl
theorem bl_of {K : PySem.W.Frag} {h : Heap} {mg : Str → Option Value} (X : K.In h) (G : h.Ns mainGlobals mg) (c : He.SaysD fa fn K) : Bl mg where
  b_len := He.free_ok X G (c.fact 9 (f := .free "len") rfl)
  b_abs := He.free_ok X G (c.fact 10 (f := .free "abs") rfl)
  b_int := He.free_ok X G (c.fact 11 (f := .free "int") rfl)
  b_list := He.free_ok X G (c.fact 12 (f := .free "list") rfl)
  b_tuple := He.free_ok X G (c.fact 13 (f := .free "tuple") rfl)
  b_str := He.free_ok X G (c.fact 14 (f := .free "str") rfl)
  b_bool := He.free_ok X G (c.fact 15 (f := .free "bool") rfl)
  b_set := He.free_ok X G (c.fact 16 (f := .free "set") rfl)
  b_range := He.free_ok X G (c.fact 17 (f := .free "range") rfl)
  b_enumerate := He.free_ok X G (c.fact 18 (f := .free "enumerate") rfl)
  b_zip := He.free_ok X G (c.fact 19 (f := .free "zip") rfl)
  b_isinstance := He.free_ok X G (c.fact 20 (f := .free "isinstance") rfl)
  b_all := He.free_ok X G (c.fact 21 (f := .free "all") rfl)
  b_any := He.free_ok X G (c.fact 22 (f := .free "any") rfl)
  b_sum := He.free_ok X G (c.fact 23 (f := .free "sum") rfl)
  b_min := He.free_ok X G (c.fact 24 (f := .free "min") rfl)
  b_max := He.free_ok X G (c.fact 25 (f := .free "max") rfl)
  b_sorted := He.free_ok X G (c.fact 26 (f := .free "sorted") rfl)
theorem c_QUARTER_DAYS {K : PySem.W.Frag} {h : Heap} {mg : Str → Option Value} (X : K.In h) (G : h.Ns mainGlobals mg) (c : He.SaysD fa fn K) : Cst mg "QUARTER_DAYS" (.int 91) := by
  obtain ⟨t, e⟩ := He.int_ok X G (c.fact 27 (f := .int "QUARTER_DAYS" 91) rfl)
  exact ⟨_, e, ⟨t, rfl⟩⟩
theorem c_YEAR_DAYS {K : PySem.W.Frag} {h : Heap} {mg : Str → Option Value} (X : K.In h) (G : h.Ns mainGlobals mg) (c : He.SaysD fa fn K) : Cst mg "YEAR_DAYS" (.int 364) := by
  obtain ⟨t, e⟩ := He.int_ok X G (c.fact 28 (f := .int "YEAR_DAYS" 364) rfl)
  exact ⟨_, e, ⟨t, rfl⟩⟩
theorem g_year_of {K : PySem.W.Frag} {h : Heap} {mg : Str → Option Value} (X : K.In h) (G : h.Ns mainGlobals mg) (c : He.SaysD fa fn K) : mg "year_of" = some (.ref (He.fAd K ("year_of", none))) := He.glo_ok X G (c.fact 0 (f := .glo "year_of") rfl)
theorem g_quarter_of {K : PySem.W.Frag} {h : Heap} {mg : Str → Option Value} (X : K.In h) (G : h.Ns mainGlobals mg) (c : He.SaysD fa fn K) : mg "quarter_of" = some (.ref (He.fAd K ("quarter_of", none))) := He.glo_ok X G (c.fact 1 (f := .glo "quarter_of") rfl)
theorem g_quarter_span {K : PySem.W.Frag} {h : Heap} {mg : Str → Option Value} (X : K.In h) (G : h.Ns mainGlobals mg) (c : He.SaysD fa fn K) : mg "quarter_span" = some (.ref (He.fAd K ("quarter_span", none))) := He.glo_ok X G (c.fact 2 (f := .glo "quarter_span") rfl)
theorem g__law_dip {K : PySem.W.Frag} {h : Heap} {mg : Str → Option Value} (X : K.In h) (G : h.Ns mainGlobals mg) (c : He.SaysD fa fn K) : mg "_law_dip" = some (.ref (He.fAd K ("_law_dip", none))) := He.glo_ok X G (c.fact 3 (f := .glo "_law_dip") rfl)
theorem g__law_take {K : PySem.W.Frag} {h : Heap} {mg : Str → Option Value} (X : K.In h) (G : h.Ns mainGlobals mg) (c : He.SaysD fa fn K) : mg "_law_take" = some (.ref (He.fAd K ("_law_take", none))) := He.glo_ok X G (c.fact 4 (f := .glo "_law_take") rfl)
theorem g__law_folded {K : PySem.W.Frag} {h : Heap} {mg : Str → Option Value} (X : K.In h) (G : h.Ns mainGlobals mg) (c : He.SaysD fa fn K) : mg "_law_folded" = some (.ref (He.fAd K ("_law_folded", none))) := He.glo_ok X G (c.fact 5 (f := .glo "_law_folded") rfl)
theorem g__law_same {K : PySem.W.Frag} {h : Heap} {mg : Str → Option Value} (X : K.In h) (G : h.Ns mainGlobals mg) (c : He.SaysD fa fn K) : mg "_law_same" = some (.ref (He.fAd K ("_law_same", none))) := He.glo_ok X G (c.fact 6 (f := .glo "_law_same") rfl)
theorem g__law_counted {K : PySem.W.Frag} {h : Heap} {mg : Str → Option Value} (X : K.In h) (G : h.Ns mainGlobals mg) (c : He.SaysD fa fn K) : mg "_law_counted" = some (.ref (He.fAd K ("_law_counted", none))) := He.glo_ok X G (c.fact 7 (f := .glo "_law_counted") rfl)
theorem facts {P : Program} {w : World} {K : PySem.W.Frag} {h : Heap} {mg : Str → Option Value} {f : Addr} (X : K.In h) (G : h.Ns mainGlobals mg) (hfa : mg ("law" : Str) = some (.ref f)) (c : He.SaysD fa fn K) :
    ∃ fd : FuncData, (∀ (s : Shared) (v : Value), BindsTo s fd ⟨[v], []⟩ [("_law_script", v)]) ∧ ∀ base : Heap, K.In base → base.Ns mainGlobals mg → FnOk P w K mg base CX0 4 f fd ["_law_script"] (spLaw K) := by
  obtain ⟨fd_year_of, F_year_of⟩ := c.def_ 0 (d := d_year_of) rfl
  obtain ⟨fd_quarter_of, F_quarter_of⟩ := c.def_ 1 (d := d_quarter_of) rfl
  obtain ⟨fd_quarter_span, F_quarter_span⟩ := c.def_ 2 (d := d_quarter_span) rfl
  obtain ⟨fd__law_dip, F__law_dip⟩ := c.def_ 3 (d := d__law_dip) rfl
  obtain ⟨fd__law_take, F__law_take⟩ := c.def_ 4 (d := d__law_take) rfl
  obtain ⟨fd__law_folded, F__law_folded⟩ := c.def_ 5 (d := d__law_folded) rfl
  obtain ⟨fd__law_same, F__law_same⟩ := c.def_ 6 (d := d__law_same) rfl
  obtain ⟨fd__law_counted, F__law_counted⟩ := c.def_ 7 (d := d__law_counted) rfl
  obtain ⟨fd_law, F_law⟩ := c.def_ 8 (d := d_law) rfl
  have e := hfa.symm.trans (He.glo_ok X G (c.fact 8 (f := .glo "law") rfl))
  cases e
  have T := bl_of X G c
  have b := FunD.bindsA (ps := ["_law_script"]) F_law fun _ _ _ _ _ _ us hl => match us, hl with | [_], _ => rfl
  refine ⟨fd_law, fun s v => b s [v] rfl, fun base _ _ => ?_⟩
  have b_year_of : Binds K fd_year_of ["day"] [] := F_year_of.bindsN fun _ _ _ _ _ _ us hl => match us, hl with | [_], _ => rfl
  have b_quarter_of : Binds K fd_quarter_of ["day"] [] := F_quarter_of.bindsN fun _ _ _ _ _ _ us hl => match us, hl with | [_], _ => rfl
  have b_quarter_span : Binds K fd_quarter_span ["quarter"] [] := F_quarter_span.bindsN fun _ _ _ _ _ _ us hl => match us, hl with | [_], _ => rfl
  have b__law_dip : Binds K fd__law_dip ["_law_script", "_law_k"] [] := F__law_dip.bindsN fun _ _ _ _ _ _ us hl => match us, hl with | [_, _], _ => rfl
  have b__law_take : Binds K fd__law_take ["_law_box", "_law_many"] [] := F__law_take.bindsN fun _ _ _ _ _ _ us hl => match us, hl with | [_, _], _ => rfl
  have b__law_folded : Binds K fd__law_folded ["_law_script", "_law_size"] [] := F__law_folded.bindsN fun _ _ _ _ _ _ us hl => match us, hl with | [_, _], _ => rfl
  have b__law_same : Binds K fd__law_same ["_law_found", "_law_due"] [] := F__law_same.bindsN fun _ _ _ _ _ _ us hl => match us, hl with | [_, _], _ => rfl
  have b__law_counted : Binds K fd__law_counted [] [] := F__law_counted.bindsN fun _ _ _ _ _ _ us hl => match us, hl with | [], _ => rfl
  have C1 : ∀ {x : Str} {ps : List Str} {f : Addr} {fd : FuncData} {k : Nat} {sp : Sp}, FnOk P w K mg base CX0 k f fd ps sp → mg x = some (.ref f) → PySem.W.keepIn K (.ref f) = true → Binds K fd ps [] → Cal P w K mg base x k ps [] sp := fun F g kp b => ⟨_, _, [], F, g, kp, .nil, b⟩
  refine ok_law F_law T (C1 (ok_counted F__law_counted T) (g__law_counted X G c) F__law_counted.kp b__law_counted) (C1 (ok_folded F__law_folded T) (g__law_folded X G c) F__law_folded.kp b__law_folded)
    (C1 (ok_dip F__law_dip T) (g__law_dip X G c) F__law_dip.kp b__law_dip) (C1 (ok_take F__law_take) (g__law_take X G c) F__law_take.kp b__law_take)
    (C1 (ok_same F__law_same T (g__law_same X G c) b__law_same 2) (g__law_same X G c) F__law_same.kp b__law_same)
    (C1 (ok_quarter_span F_quarter_span (c_QUARTER_DAYS X G c)) (g_quarter_span X G c) F_quarter_span.kp b_quarter_span)
    ⟨_, _, _, ok_quarter_span F_quarter_span (c_QUARTER_DAYS X G c), g_quarter_span X G c, F_quarter_span.kp, kbn_of F_quarter_span (fun us ws => us ++ ws) _ (fun r1 r2 => r1.append r2) fun _ _ _ _ _ _ us ws h1 h2 => match us, ws, h1, h2 with | [], [_], _, _ => rfl⟩
    (C1 (ok_quarter_of F_quarter_of (c_QUARTER_DAYS X G c)) (g_quarter_of X G c) F_quarter_of.kp b_quarter_of)
    ⟨_, _, _, ok_quarter_of F_quarter_of (c_QUARTER_DAYS X G c), g_quarter_of X G c, F_quarter_of.kp, kbn_of F_quarter_of (fun us ws => us ++ ws) _ (fun r1 r2 => r1.append r2) fun _ _ _ _ _ _ us ws h1 h2 => match us, ws, h1, h2 with | [], [_], _, _ => rfl⟩
    (C1 (ok_year_of F_year_of (c_YEAR_DAYS X G c)) (g_year_of X G c) F_year_of.kp b_year_of)
    ⟨_, _, _, ok_year_of F_year_of (c_YEAR_DAYS X G c), g_year_of X G c, F_year_of.kp, kbn_of F_year_of (fun us ws => us ++ ws) _ (fun r1 r2 => r1.append r2) fun _ _ _ _ _ _ us ws h1 h2 => match us, ws, h1, h2 with | [], [_], _, _ => rfl⟩
end K05
open PySem PySem.W PySem.Calls PyProof.Rows
set_option maxHeartbeats 0 in
theorem PySem.Challenge.cw_lettolls_k05_years_and_quarters_holds : PySem.Challenge.rw_lettolls_k05_years_and_quarters.Holds := by
  w_on; o_law
  refine HandSHeadRun.head_any (r := OpenLaw.row PySem.Challenge.rw_lettolls_k05_years_and_quarters) (q := view (OpenLaw.row PySem.Challenge.rw_lettolls_k05_years_and_quarters).prog [12]) (H := K05.hk) (ob := K05.ob) (M := 800) (loose := K05.loose) (d := HandSHeadRun.topDef (OpenLaw.row PySem.Challenge.rw_lettolls_k05_years_and_quarters).prog 12) (kwd := []) K05.ob_eq
    (by kernel_rfl) (fun s => by kernel_rfl) K05.run (by kernel_rfl) (by kernel_rfl) (by kernel_rfl) (by rfl) (by first | assumption | decide +kernel) (by decide +kernel) ⟨rfl, rfl, rfl, rfl, rfl, by decide +kernel⟩ ?hw ?hc
  case hw => w_witness2
  case hc =>
    refine L2.walk_ofE (l := PySem.Challenge.rw_lettolls_k05_years_and_quarters) (n := 63) (k := 4) (x := "_law_script") (CX := L2.CX0) rfl (by decide) (by kernel_rfl) ⟨rfl, by decide, by decide⟩ ?F (fun _ _ _ _ z => z)
    intro w mg fa h Y G hmg0
    obtain ⟨K, KX, c⟩ := Y
    have hmg : mg ("law" : PySem.Str) = some (.ref fa) := by
      have e : (HandSHeadRun.topDef (OpenLaw.row PySem.Challenge.rw_lettolls_k05_years_and_quarters).prog 12).name = ("law" : PySem.Str) := by kernel_rfl
      rw [← e]
      exact hmg0
    obtain ⟨fd, hb, hF⟩ := K05.facts (P := (PySem.Challenge.rw_lettolls_k05_years_and_quarters).prog) (w := w) KX G hmg c
    exact ⟨K, fd, K05.spLaw K, KX, hb, fun H a ns hl _ hS => ⟨a, ns, rfl, hS, hl, fun _ => rfl⟩, hF⟩
