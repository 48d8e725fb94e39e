import PyProof.Rows.All
import Wide.All
import OpenK.AllK
import Wide.FinOn
import HandS.ForMost
import HandS.Evl
import HandS.Wide
import HandS.WideBits
import HandS.SortInts
import HandS.IsInst
import HandS.TupLe
import HandS.Conv
import HandS.EndBits
import HandS.Hot
import HandS.HotCalls
import HandS.SetFor
import HandS.Strs
import HandS.TupSets
import HandS.ExcCtx
import HandS.ExcIs
import HandS.Rev
import HandS.Star
import HandS.CallLocal
import PySem.Challenge.RW_everysum_k05_refused
set_option Elab.async false
set_option linter.all false
set_option maxRecDepth 100000
set_option maxHeartbeats 2000000
namespace Es
open PySem PySem.Spec PyProof.Rows L2 Evl
/-! ### a class without __init__ is called -/
structure Mk0 (K : PySem.W.Frag) (C : Addr) : Prop where
  makes : PySem.W.makesIn K C = true
  init : PySem.W.findIn K (.ref C) "__init__" = some (some (.builtin "object.__init__"))
  kp : PySem.W.keepIn K (.ref C) = true
def tMk0 (C : Addr) : TE := fun _ H Q => ∀ x dx, H x = none → H dx = none → dx ≠ x → Q (.ref x) (upd (upd H dx (.own x)) x (.ins C dx []))
section
variable {X : Cx} {C : Addr} {x : Str} {p pos : Pos}
theorem run_mk0 {pins : List (Addr × Obj)} {σ : L2.St} {H : Hp} {s : Shared} {Q : VK} (M : Mk0 X.K C) (I : Inv X pins σ H s)
    (h : ∀ x dx, H x = none → H dx = none → dx ≠ x → Q (.ref x) (upd (upd H dx (.own x)) x (.ins C dx []))) :
    wpAny (model X.prog X.w) X.A (call (.ref C) []) (EP X pins σ Q) X.xe s := by
  have hq := h (s.heap.objs.size + 1) s.heap.objs.size (I.hok.fresh (Nat.le_succ _)) (I.hok.fresh (Nat.le_refl _)) (Nat.ne_of_lt (Nat.lt_succ_self _))
  have I2 := Inv.made (C := C) I
  have Y := PySem.W.makes_of (M := model X.prog X.w) I.kIn M.makes
  refine wpAny_call (make_map0 I.kIn M.makes M.init (fun self => PySem.W.Looks.of_pure (PySem.W.oi_bind self)) ?_)
  have e2 : ((s.heap.push PySem.W.emptyDict).push (PySem.W.instObj C s.heap.objs.size)).get? (s.heap.objs.size + 1) = some (PySem.W.instObj C s.heap.objs.size) := by
    have := Heap.get?_push_size (s.heap.push PySem.W.emptyDict) (o := PySem.W.instObj C s.heap.objs.size) rfl
    rwa [Heap.size_push] at this
  have t1 : PySem.W.Looks (model X.prog X.w) ((s.heap.push PySem.W.emptyDict).push (PySem.W.instObj C s.heap.objs.size)) (typeOf (.ref (s.heap.objs.size + 1))) (.ref C) := (PySem.W.Looks.ld e2).andThen .now
  have t2 : PySem.W.Looks (model X.prog X.w) ((s.heap.push PySem.W.emptyDict).push (PySem.W.instObj C s.heap.objs.size)) (isInstance (.ref (s.heap.objs.size + 1)) (.type "object")) true := t1.andThen (Y.top.keeps fun b o e => Heap.get?_push_of_some _ (Heap.get?_push_of_some _ e))
  refine codeAny_call_builtin PySem.W.oi_plain PySem.W.entry_oi (@PySem.W.check_slot (model X.prog X.w) _ _ _ "object.__init__" "object" "__init__" (.ref (s.heap.objs.size + 1)) [] [] _ PySem.W.oi_kind PySem.W.oi_split t2 (PySem.W.oi_args (.ref (s.heap.objs.size + 1))) ?_)
  rw [PySem.W.oi_run]
  exact wpAny_pure (And.intro rfl ⟨V.ref (s.heap.objs.size + 1), _, I2, rfl, hq⟩)
theorem pe_mk0 (M : Mk0 X.K C) (hg : Gl X x) (hm : X.mg x = some (.ref C)) (hdb : (x == ("__debug__" : Str)) = false := by decide) : PE X (.Call (.Name x p) [] [] pos) (tMk0 C) := by
  refine ⟨fun pins s σ H Q I h => ?_⟩
  refine wpAny_Call_Name_kw (ld_glob I hg hm ?_ hdb)
  exact PySem.W.callWith_K0 I.kIn M.kp (run_mk0 M I h)
end
end Es
set_option maxHeartbeats 2000000
namespace Es
open PySem PySem.Spec PyProof.Rows L2 Evl
/-! ### numbers: a list of pairs -/
def PrAt (K : PySem.W.Frag) (H : Hp) (v : V) (p : Int × Int) : Prop := ∃ t, v = .ref t ∧ SqT K H t [.int p.1, .int p.2]
abbrev PrsAt (K : PySem.W.Frag) (H : Hp) : List V → List (Int × Int) → Prop := Paired (PrAt K H)
def NumAt (K : PySem.W.Frag) (H : Hp) (a : Addr) (L : List (Int × Int)) : Prop := ∃ xs, SqL K H a xs ∧ PrsAt K H xs L
def NewN (K : PySem.W.Frag) (L : List (Int × Int)) (p : Addr) (H : Hp) : Prop := ∃ xs, H p = some (.lst xs) ∧ PrsAt K H xs L
section
variable {K : PySem.W.Frag} {σ : L2.St} {H H' : Hp} {ta tb tc te tx : TE} {t u : TT} {x y z v w : V} {r r' : R2} {a p : Addr} {L M : List (Int × Int)}
theorem PrAt.ex {q : Int × Int} (e : Ex H H') (h : PrAt K H v q) : PrAt K H' v q := by
  obtain ⟨t, e1, h1⟩ := h
  exact ⟨t, e1, ex_t e h1⟩
theorem prs_ex {xs : List V} (e : Ex H H') (h : PrsAt K H xs L) : PrsAt K H' xs L := Paired.mapP h fun _ _ q => q.ex e
theorem NumAt.ex (e : Ex H H') (h : NumAt K H a L) : NumAt K H' a L := by
  obtain ⟨xs, h1, h2⟩ := h
  exact ⟨xs, ex_l e h1, prs_ex e h2⟩
theorem NewN.num (h : NewN K L p H) : NumAt K H p L := by
  obtain ⟨xs, h1, h2⟩ := h
  exact ⟨xs, sq_of h1, h2⟩
theorem prs_len {xs : List V} (h : PrsAt K H xs L) : xs.length = L.length := Paired.length h
theorem prs_get {xs : List V} {i : Nat} {v : V} (h : PrsAt K H xs L) (e : xs[i]? = some v) : ∃ q, L[i]? = some q ∧ PrAt K H v q := by
  induction h generalizing i with
  | nil => simp at e
  | cons h1 _ ih =>
    cases i with
    | zero =>
      have e' := Option.some.inj e
      subst e'
      exact ⟨_, rfl, h1⟩
    | succ i => exact ih e
theorem prs_snoc {xs : List V} {q : Int × Int} (h : PrsAt K H xs L) (h1 : PrAt K H v q) : PrsAt K H (xs ++ [v]) (L ++ [q]) := Paired.snoc h h1
theorem prs_take {xs : List V} (n : Nat) (h : PrsAt K H xs L) : PrsAt K H (xs.take n) (L.take n) := by
  induction h generalizing n with
  | nil => simp; exact .nil
  | cons h1 _ ih =>
    cases n with
    | zero => exact .nil
    | succ n => exact .cons h1 (ih n)
theorem prs_drop {xs : List V} (n : Nat) (h : PrsAt K H xs L) : PrsAt K H (xs.drop n) (L.drop n) := by
  induction h generalizing n with
  | nil => simp; exact .nil
  | cons h1 ht ih =>
    cases n with
    | zero => exact .cons h1 ht
    | succ n => exact ih n
theorem prs_app {xs ys : List V} (h : PrsAt K H xs L) (h1 : PrsAt K H ys M) : PrsAt K H (xs ++ ys) (L ++ M) := by
  induction h with
  | nil => exact h1
  | cons q _ ih => exact .cons q ih
/-! ### new things -/
def EvF (te : TE) (σ : L2.St) (H : Hp) (P : Addr → Hp → Prop) : Prop := ∀ H1, Ex H H1 → ∀ Q : VK, (∀ p H2, H1 p = none → Ex H1 H2 → P p H2 → Q (.ref p) H2) → te σ H1 Q
abbrev Mono (P : Addr → Hp → Prop) : Prop := ∀ p H H', Ex H H' → P p H → P p H'
abbrev MonoL (P : List V → Hp → Prop) : Prop := ∀ vs H H', Ex H H' → P vs H → P vs H'
theorem mono_newN : Mono (NewN K L) := fun p H H' e h => by
  obtain ⟨xs, h1, h2⟩ := h
  exact ⟨xs, e _ _ h1, prs_ex e h2⟩
theorem mono_obj {o : HO} : Mono (fun p H => H p = some o) := fun _ _ _ e h => e _ _ h
theorem EvF.mono {P : Addr → Hp → Prop} (e : Ex H H') (h : EvF te σ H P) : EvF te σ H' P := fun H1 a Q q => h H1 (e.trans a) Q q
theorem EvF.imp {P P' : Addr → Hp → Prop} (h : EvF te σ H P) (f : ∀ p H2, Ex H H2 → P p H2 → P' p H2) : EvF te σ H P' := fun H1 a Q q => h H1 a Q fun p H2 n e k => q p H2 n e (f p H2 (a.trans e) k)
theorem ef_l {xs : List V} (h : EvL te σ H xs) : EvF te σ H (fun p H2 => H2 p = some (.lst xs)) := h
theorem ef_u {xs : List V} (h : EvU te σ H xs) : EvF te σ H (fun p H2 => H2 p = some (.tup xs)) := h
theorem el_f {xs : List V} (h : EvF te σ H (fun p H2 => H2 p = some (.lst xs))) : EvL te σ H xs := h
/-- argument lists -/
def EvAP (ta : TA) (σ : L2.St) (H : Hp) (P : List V → Hp → Prop) : Prop := ∀ H1, Ex H H1 → ∀ Q : List V → Hp → Prop, (∀ vs H2, Ex H1 H2 → P vs H2 → Q vs H2) → ta σ H1 Q
theorem eap_nil : EvAP tNil σ H (fun vs _ => vs = []) := fun H1 _ _ q => q [] H1 (Ex.refl H1) rfl
theorem eap_v {tr : TA} {P : List V → Hp → Prop} (h : Ev te σ H x) (hr : EvAP tr σ H P) : EvAP (tCons te tr) σ H (fun vs H2 => ∃ r, vs = x :: r ∧ P r H2) := fun H1 e _ q =>
  h H1 e _ fun H2 e2 => hr H2 (e.trans e2) _ fun vs H3 e3 hp => q _ H3 (e2.trans e3) ⟨vs, rfl, hp⟩
theorem eap_f {tr : TA} {P : List V → Hp → Prop} {PF : Addr → Hp → Prop} (h : EvF te σ H PF) (hm : Mono PF) (hr : EvAP tr σ H P) : EvAP (tCons te tr) σ H (fun vs H2 => ∃ p r, vs = .ref p :: r ∧ PF p H2 ∧ P r H2) := fun H1 e _ q =>
  h H1 e _ fun p H2 _ e2 hp => hr H2 (e.trans e2) _ fun vs H3 e3 hq => q _ H3 (e2.trans e3) ⟨p, vs, rfl, hm p _ _ e3 hp, hq⟩
theorem eap_a {ta : TA} {vs : List V} (h : EvA ta σ H vs) : EvAP ta σ H (fun xs _ => xs = vs) := fun H1 e _ q => h H1 e _ fun H2 e2 => q vs H2 e2 rfl
theorem EvAP.mono {ta : TA} {P : List V → Hp → Prop} (e : Ex H H') (h : EvAP ta σ H P) : EvAP ta σ H' P := fun H1 a Q q => h H1 (e.trans a) Q q
theorem EvAP.imp {ta : TA} {P P' : List V → Hp → Prop} (h : EvAP ta σ H P) (f : ∀ vs H2, Ex H H2 → P vs H2 → P' vs H2) : EvAP ta σ H P' := fun H1 a Q q => h H1 a Q fun p H2 e k => q p H2 e (f p H2 (a.trans e) k)
theorem ef_lstP {ta : TA} {P : List V → Hp → Prop} (h : EvAP ta σ H P) (hm : MonoL P) (hl : ∀ vs H1, P vs H1 → vs.length ≤ 100000) : EvF (tLst ta) σ H (fun p H2 => ∃ vs, H2 p = some (.lst vs) ∧ P vs H2) := fun H1 e _ q =>
  h H1 e _ fun vs H2 e2 hp => ⟨sz_of (hl _ _ hp), fun p np => q p _ (fresh_back e2 np) (e2.trans (Ex.new np)) ⟨vs, upd_same, hm _ _ _ (Ex.new np) hp⟩⟩
/-- operators with a new thing -/
theorem ev_opF {P : Addr → Hp → Prop} (ha : Ev ta σ H x) (hb : EvF tb σ H P) (hr : ∀ p H1, P p H1 → Ex H H1 → RV r x (.ref p) H1 z) : Ev (tOp r ta tb) σ H z := fun H1 e Q q =>
  ha H1 e _ fun H2 e2 => hb H2 (e.trans e2) _ fun p H3 _ e3 hp => hr p H3 hp ((e.trans e2).trans e3) H3 (Ex.refl H3) Q fun H4 e4 => q H4 ((e2.trans e3).trans e4)
theorem ev_opF1 {P : Addr → Hp → Prop} (ha : EvF ta σ H P) (hm : Mono P) (hb : Ev tb σ H y) (hr : ∀ p H1, P p H1 → Ex H H1 → RV r (.ref p) y H1 z) : Ev (tOp r ta tb) σ H z := fun H1 e Q q =>
  ha H1 e _ fun p H2 _ e2 hp => hb H2 (e.trans e2) _ fun H3 e3 => hr p H3 (hm p _ _ e3 hp) ((e.trans e2).trans e3) H3 (Ex.refl H3) Q fun H4 e4 => q H4 ((e2.trans e3).trans e4)
theorem ev_opFF {P P' : Addr → Hp → Prop} (ha : EvF ta σ H P) (hm : Mono P) (hb : EvF tb σ H P') (hr : ∀ p q H1, P p H1 → P' q H1 → Ex H H1 → RV r (.ref p) (.ref q) H1 z) : Ev (tOp r ta tb) σ H z := fun H1 e Q k =>
  ha H1 e _ fun p H2 _ e2 hp => hb H2 (e.trans e2) _ fun q H3 _ e3 hq => hr p q H3 (hm p _ _ e3 hp) hq ((e.trans e2).trans e3) H3 (Ex.refl H3) Q fun H4 e4 => k H4 ((e2.trans e3).trans e4)
/-- built-ins called with new things -/
theorem ev_cbP {rc : List V → Hp → VK → Prop} {ta : TA} {P : List V → Hp → Prop} (h : EvAP ta σ H P) (hr : ∀ vs H1, P vs H1 → Ex H H1 → RC rc vs H1 z) : Ev (tCB rc ta) σ H z := fun H1 e Q q =>
  h H1 e _ fun vs H2 e2 hp => hr vs H2 hp (e.trans e2) H2 (Ex.refl H2) Q fun H3 e3 => q H3 (e2.trans e3)
def RCF (rc : List V → Hp → VK → Prop) (vs : List V) (H : Hp) (P : Addr → Hp → Prop) : Prop := ∀ H1, Ex H H1 → ∀ Q : VK, (∀ p H2, H1 p = none → Ex H1 H2 → P p H2 → Q (.ref p) H2) → rc vs H1 Q
theorem ef_cbP {rc : List V → Hp → VK → Prop} {ta : TA} {P : List V → Hp → Prop} {PF : Addr → Hp → Prop} (h : EvAP ta σ H P) (hr : ∀ vs H1, P vs H1 → Ex H H1 → RCF rc vs H1 PF) : EvF (tCB rc ta) σ H PF := fun H1 e Q q =>
  h H1 e _ fun vs H2 e2 hp => hr vs H2 hp (e.trans e2) H2 (Ex.refl H2) Q fun p H3 np e3 hq => q p H3 (fresh_back e2 np) (e2.trans e3) hq
/-- one new argument -/
theorem ev_cbF {rc : List V → Hp → VK → Prop} {PF : Addr → Hp → Prop} (h : EvF te σ H PF) (hr : ∀ p H1, PF p H1 → Ex H H1 → RC rc [.ref p] H1 z) : Ev (tCB rc (tCons te tNil)) σ H z := fun H1 e Q q =>
  h H1 e _ fun p H2 _ e2 hp => hr p H2 hp (e.trans e2) H2 (Ex.refl H2) Q fun H3 e3 => q H3 (e2.trans e3)
theorem ef_cbF {rc : List V → Hp → VK → Prop} {PF PG : Addr → Hp → Prop} (h : EvF te σ H PF) (hr : ∀ p H1, PF p H1 → Ex H H1 → RCF rc [.ref p] H1 PG) : EvF (tCB rc (tCons te tNil)) σ H PG := fun H1 e Q q =>
  h H1 e _ fun p H2 _ e2 hp => hr p H2 hp (e.trans e2) H2 (Ex.refl H2) Q fun p' H3 np e3 hq => q p' H3 (fresh_back e2 np) (e2.trans e3) hq
/-- defs called -/
def SpF (sp : Sp) (vs : List V) (H : Hp) (P : Addr → Hp → Prop) : Prop := ∀ H1, Ex H H1 → ∀ Q : VK, (∀ p H2, H1 p = none → Ex H1 H2 → P p H2 → Q (.ref p) H2) → ∀ E : XK, sp vs H1 Q E
theorem ef_call {sp : Sp} {dvs vs : List V} {E : XK} {ta : TA} {P : Addr → Hp → Prop} (h : EvA ta σ H vs) (hs : SpF sp (vs ++ dvs) H P) : EvF (tCall sp dvs E ta) σ H P := fun H1 e Q q =>
  h H1 e _ fun H2 e2 => hs H2 (e.trans e2) Q (fun p H3 np e3 hq => q p H3 (fresh_back e2 np) (e2.trans e3) hq) E
theorem ev_callP {sp : Sp} {dvs : List V} {E : XK} {ta : TA} {P : List V → Hp → Prop} (h : EvAP ta σ H P) (hs : ∀ vs H1, P vs H1 → Ex H H1 → SpV sp (vs ++ dvs) H1 z) : Ev (tCall sp dvs E ta) σ H z := fun H1 e Q q =>
  h H1 e _ fun vs H2 e2 hp => hs vs H2 hp (e.trans e2) H2 (Ex.refl H2) Q (fun H3 e3 => q H3 (e2.trans e3)) E
theorem ef_callP {sp : Sp} {dvs : List V} {E : XK} {ta : TA} {P : List V → Hp → Prop} {PF : Addr → Hp → Prop} (h : EvAP ta σ H P) (hs : ∀ vs H1, P vs H1 → Ex H H1 → SpF sp (vs ++ dvs) H1 PF) : EvF (tCall sp dvs E ta) σ H PF := fun H1 e Q q =>
  h H1 e _ fun vs H2 e2 hp => hs vs H2 hp (e.trans e2) H2 (Ex.refl H2) Q (fun p H3 np e3 hq => q p H3 (fresh_back e2 np) (e2.trans e3) hq) E
/-- methods and fields -/
theorem ev_fld {C dx : Addr} {fs : List (Str × V)} {f : Str} (h : Ev te σ H (.ref a)) (ho : H a = some (.ins C dx fs)) (c : Cls K C) (n : NoAttr K C f) (l : fs.lookup f = some v) : Ev (tFld K te f) σ H v := fun H1 e Q q =>
  h H1 e _ fun H2 e2 => ⟨a, C, dx, fs, v, rfl, (e.trans e2) _ _ ho, c, n, l, q H2 e2⟩
theorem ev_meth {C dx : Addr} {fs : List (Str × V)} {m : Str} {sp : Sp} {dvs : List V} {E : XK} {ta : TA} {P : List V → Hp → Prop} (h : Ev te σ H (.ref a)) (ho : H a = some (.ins C dx fs)) (l : fs.lookup m = none) (hv : EvAP ta σ H P)
    (hs : ∀ vs H1, P vs H1 → Ex H H1 → SpV sp (.ref a :: (vs ++ dvs)) H1 z) : Ev (tMeth C m sp dvs E te ta) σ H z := fun H1 e Q q =>
  h H1 e _ fun H2 e2 => ⟨a, dx, fs, rfl, (e.trans e2) _ _ ho, l, hv H2 (e.trans e2) _ fun vs H3 e3 hp => hs vs H3 hp ((e.trans e2).trans e3) H3 (Ex.refl H3) Q (fun H4 e4 => q H4 ((e2.trans e3).trans e4)) E⟩
theorem ev_methF {C : Addr} {fs : List (Str × V)} {m : Str} {sp : Sp} {dvs : List V} {E : XK} {ta : TA} {P : List V → Hp → Prop} (h : EvF te σ H (fun p H2 => ∃ dx, H2 p = some (.ins C dx fs))) (l : fs.lookup m = none) (hv : EvAP ta σ H P)
    (hs : ∀ p dx vs H1, H1 p = some (.ins C dx fs) → P vs H1 → Ex H H1 → SpV sp (.ref p :: (vs ++ dvs)) H1 z) : Ev (tMeth C m sp dvs E te ta) σ H z := fun H1 e Q q =>
  h H1 e _ fun p H2 _ e2 ⟨dx, ho⟩ => ⟨p, dx, fs, rfl, ho, l, hv H2 (e.trans e2) _ fun vs H3 e3 hp => hs p dx vs H3 (e3 _ _ ho) hp ((e.trans e2).trans e3) H3 (Ex.refl H3) Q (fun H4 e4 => q H4 ((e2.trans e3).trans e4)) E⟩
theorem ev_fldF {C : Addr} {fs : List (Str × V)} {f : Str} (h : EvF te σ H (fun p H2 => ∃ dx, H2 p = some (.ins C dx fs))) (c : Cls K C) (n : NoAttr K C f) (l : fs.lookup f = some v) : Ev (tFld K te f) σ H v := fun H1 e Q q =>
  h H1 e _ fun p H2 _ e2 ⟨dx, ho⟩ => ⟨p, C, dx, fs, v, rfl, ho, c, n, l, q H2 e2⟩
theorem ef_mk0 {C : Addr} : EvF (tMk0 C) σ H (fun p H2 => ∃ dx, H2 p = some (.ins C dx [])) := fun H1 _ _ q => fun x dx hx hd ne =>
  q x _ hx ((Ex.new hd).trans (Ex.new (by rw [upd_ne ne.symm]; exact hx))) ⟨dx, upd_same⟩
/-- chains -/
theorem ev_chain {k b : Bool} (ha : Ev ta σ H x) (hb : Ev tb σ H y) (hr : RV r x y H (.bl k)) (hc : k = true → Ev tc σ H w) (hr' : k = true → RV r' y w H (.bl b)) : Ev (tChain r r' ta tb tc) σ H (.bl (k && b)) := fun H1 e Q q =>
  ha H1 e _ fun H2 e2 => hb H2 (e.trans e2) _ fun H3 e3 => hr H3 ((e.trans e2).trans e3) _ fun H4 e4 => ⟨k, rfl, by
    have ee : Ex H H4 := ((e.trans e2).trans e3).trans e4
    have e1 : Ex H1 H4 := (e2.trans e3).trans e4
    cases k with
    | true =>
      show tc σ H4 fun w' H5 => r' y w' H5 Q
      exact hc rfl H4 ee _ fun H5 e5 => hr' rfl H5 (ee.trans e5) Q fun H6 e6 => q H6 (e1.trans (e5.trans e6))
    | false =>
      show Q (.bl false) H4
      exact q H4 e1⟩
theorem et_val {b : Bool} (h : Ev te σ H (.bl b)) : EvT (tB te) σ H b := et_B h
/-- truth of a value by isinstance -/
theorem rc_isi {c : V} {t uc : Value} {b : Bool} (k : ClsV c uc) (ty : ∀ H1, Ex H H1 → TyX K H1 x t) (e : PySem.W.kitOne K t uc = some b) : RC (rIsi K) [x, c] H (.bl b) := fun H1 e1 Q q =>
  ⟨x, c, t, uc, b, rfl, k, ty H1 e1, e, q H1 (Ex.refl H1)⟩
theorem ty_int {i : Int} : TyX K H (.int i) (.type "int") := .base (.int i)
theorem ty_bl {b : Bool} : TyX K H (.bl b) (.type "bool") := .base (.bl b)
theorem ty_lst {xs : List V} (h : SqL K H a xs) : TyX K H (.ref a) (.type "list") := by
  rcases h with (h | ⟨o, h⟩) | ⟨o, its, n, hk, hc, _⟩
  · exact .base (.lst h)
  · exact .base (.frz h)
  · exact .kList hk hc
theorem ty_tup {xs : List V} (h : SqT K H a xs) : TyX K H (.ref a) (.type "tuple") := by
  rcases h with (h | ⟨o, h⟩) | ⟨o, its, n, hk, hc, _⟩
  · exact .base (.tup h)
  · exact .fTuple h
  · exact .kTuple hk hc
theorem isi_int {i : Int} : RC (rIsi K) [.int i, .ty "int"] H (.bl true) := rc_isi (.ty _) (fun _ _ => ty_int) (kit_ty (by decide +kernel))
theorem isi_int_bool {i : Int} : RC (rIsi K) [.int i, .ty "bool"] H (.bl false) := rc_isi (.ty _) (fun _ _ => ty_int) (kit_ty (by decide +kernel))
theorem isi_bl {b : Bool} : RC (rIsi K) [.bl b, .ty "bool"] H (.bl true) := rc_isi (.ty _) (fun _ _ => ty_bl) (kit_ty (by decide +kernel))
theorem isi_lst {xs : List V} (h : SqL K H a xs) : RC (rIsi K) [.ref a, .ty "list"] H (.bl true) := rc_isi (.ty _) (fun _ e => ty_lst (ex_l e h)) (kit_ty (by decide +kernel))
theorem isi_tup {xs : List V} (h : SqT K H a xs) : RC (rIsi K) [.ref a, .ty "tuple"] H (.bl true) := rc_isi (.ty _) (fun _ e => ty_tup (ex_t e h)) (kit_ty (by decide +kernel))
/-- sums, sorts, any, all -/
theorem rc_sum {ns : List Int} (h : SqL K H a (ns.map V.int)) : RC (rSum K) [.ref a] H (.int ns.sum) := fun H1 e Q q => ⟨a, ns, rfl, ex_l e h, q H1 (Ex.refl H1)⟩
theorem rc_any {bs : List Bool} (h : SqL K H a (bs.map V.bl)) : RC (rAny K) [.ref a] H (.bl (bs.any id)) := fun H1 e Q q => ⟨a, bs, rfl, ex_l e h, q H1 (Ex.refl H1)⟩
theorem rc_all {bs : List Bool} (h : SqL K H a (bs.map V.bl)) : RC (rAll K) [.ref a] H (.bl (bs.all id)) := fun H1 e Q q => ⟨a, bs, rfl, ex_l e h, q H1 (Ex.refl H1)⟩
theorem rcl_sorted {ns ms : List Int} (h : SqL K H a (ns.map V.int)) (hu : ∀ ns' : List Int, ns'.Perm ns → ns'.Pairwise (· ≤ ·) → ns' = ms) : RCL (rSortedI K) [.ref a] H (ms.map V.int) := fun H1 e Q q =>
  ⟨a, ns, rfl, ex_l e h, fun ns' p hp hs np => by rw [hu ns' hp hs]; exact q p _ np (Ex.new np) upd_same⟩
theorem rc_len {xs : List V} (h : SqL K H a xs) : RC (fun vs H Q => ∃ p ys, vs = [.ref p] ∧ (SqL K H p ys ∨ SqT K H p ys) ∧ Q (.int ys.length) H) [.ref a] H (.int (xs.length : Int)) := fun H1 e Q q => ⟨a, xs, rfl, .inl (ex_l e h), q H1 (Ex.refl H1)⟩
/-- comprehensions over a list of things -/
theorem given_map {α : Type} (f : α → Bool) (v : α → V) (d : α) (as : List α) : given as.length (fun i => f (as.getD i d)) (fun i => v (as.getD i d)) = (as.filter f).map v := by
  have key : ∀ n, n ≤ as.length → given n (fun i => f (as.getD i d)) (fun i => v (as.getD i d)) = ((as.take n).filter f).map v := by
    intro n
    induction n with
    | zero => intro _; rfl
    | succ n ih =>
      intro hn
      have hlt : n < as.length := hn
      have e1 : as.take (n + 1) = as.take n ++ [as[n]] := by rw [List.take_add_one, List.getElem?_eq_getElem hlt]; rfl
      have e2 : as.getD n d = as[n] := by rw [List.getD_eq_getElem?_getD, List.getElem?_eq_getElem hlt]; rfl
      rw [e1, List.filter_append, List.map_append, ← ih (Nat.le_of_lt hlt)]
      cases hf : f (as.getD n d) with
      | true =>
        rw [given_yes (f := fun i => f (as.getD i d)) hf, e2]
        rw [e2] at hf
        simp [hf]
      | false =>
        rw [given_no (f := fun i => f (as.getD i d)) hf]
        rw [e2] at hf
        simp [hf]
  have := key as.length (Nat.le_refl _)
  rw [List.take_length] at this
  exact this
theorem el_lcM {α : Type} {tl : TE} {j : Nat} {vs : List Nat} (as : List α) (g : α → V) (f : α → Bool) (v : α → V) (h : Ev tl σ H (.ref a)) (hx : SqL K H a (as.map g)) (hz : as.length ≤ 40000)
    (hw : ∀ x, wipe ((wipe σ vs).set j (some x)) vs = wipe σ vs)
    (ht : ∀ (b : α) H1, Ex H H1 → b ∈ as → EvT t ((wipe σ vs).set j (some (g b))) H1 (f b)) (he : ∀ (b : α) H1, Ex H H1 → b ∈ as → f b = true → Ev te ((wipe σ vs).set j (some (g b))) H1 (v b)) :
    EvL (tLc (iList K tl) (gName j) t te vs) σ H ((as.filter f).map v) := by
  cases as with
  | nil => exact el_lcL (fun _ => false) (fun _ => .non) h hx (by simp) hw (fun i x H1 _ hi => by simp at hi) (fun i x H1 _ hi => by simp at hi)
  | cons d r =>
    have at_ : ∀ (i : Nat) (x : V), ((d :: r).map g)[i]? = some x → (d :: r).getD i d ∈ (d :: r) ∧ x = g ((d :: r).getD i d) := fun i x hi => by
      rw [List.getElem?_map] at hi
      obtain ⟨b, hb, e⟩ := Option.map_eq_some_iff.mp hi
      have e2 : (d :: r).getD i d = b := by rw [List.getD_eq_getElem?_getD, hb]; rfl
      rw [e2]
      exact ⟨List.mem_of_getElem? hb, e.symm⟩
    have q := el_lcL (K := K) (tl := tl) (j := j) (vs := vs) (σ := σ) (H := H) (t := t) (te := te) (xs := (d :: r).map g) (a := a) (fun i => f ((d :: r).getD i d)) (fun i => v ((d :: r).getD i d)) h hx (by rw [List.length_map]; exact hz) hw
      (fun i x H1 e hi => by obtain ⟨m, rfl⟩ := at_ i x hi; exact ht _ H1 e m) (fun i x H1 e hi hf => by obtain ⟨m, rfl⟩ := at_ i x hi; exact he _ H1 e m hf)
    rw [List.length_map, given_map f v d (d :: r)] at q
    exact q
/-- over a range from lo -/
theorem el_lcR2 {ta : TA} {j : Nat} {vs : List Nat} {lo hi : Int} (f : Nat → Bool) (v : Nat → V) (h : EvA ta σ H [.int lo, .int hi]) (hn : -40000 ≤ lo ∧ lo ≤ 40000 ∧ -40000 ≤ hi ∧ hi ≤ 9000) (hw : ∀ x, wipe ((wipe σ vs).set j (some x)) vs = wipe σ vs)
    (ht : ∀ (i : Nat) H1, Ex H H1 → i < (hi - lo).toNat → EvT t ((wipe σ vs).set j (some (.int (lo + (i : Int))))) H1 (f i)) (he : ∀ (i : Nat) H1, Ex H H1 → i < (hi - lo).toNat → f i = true → Ev te ((wipe σ vs).set j (some (.int (lo + (i : Int))))) H1 (v i)) :
    EvL (tLc (iRng2 ta) (gName j) t te vs) σ H (given (hi - lo).toNat f v) := fun H0 e Q q => h H0 e _ fun H1 e1 => ⟨lo, hi, rfl, ⟨by omega, by omega, by omega, by omega⟩, fun Dl hD =>
  lc_range (lo := lo) (n := (hi - lo).toNat) (Cw H1 f v Dl) ⟨hD, Ex.new hD, upd_same⟩ (fun i H' hi' p => ⟨hw _, cw_turn p (by omega) (ht i H1 (e.trans e1) hi') (fun hf => he i H1 (e.trans e1) hi' hf)⟩)
    (fun H' p => q Dl H' (fresh_back e1 p.1) (e1.trans p.2.1) p.2.2)⟩
/-! ### statements -/
variable {D : Ends} {tu tw tz : TS} {g : TG}
theorem q_asgF {i : Nat} {P : Addr → Hp → Prop} (h : EvF te σ H P) (k : ∀ p H1, H p = none → Ex H H1 → P p H1 → tz D (σ.set i (some (.ref p))) H1) : tSeq (tAsg te (gName i)) tz D σ H := h H (Ex.refl H) _ fun p H1 np e hp => k p H1 np e hp
theorem s_asgF {i : Nat} {P : Addr → Hp → Prop} (h : EvF te σ H P) (k : ∀ p H1, H p = none → Ex H H1 → P p H1 → D.nx (σ.set i (some (.ref p))) H1) : tAsg te (gName i) D σ H := h H (Ex.refl H) _ fun p H1 np e hp => k p H1 np e hp
theorem s_retF {P : Addr → Hp → Prop} (h : EvF te σ H P) (k : ∀ p H1, H p = none → Ex H H1 → P p H1 → D.rt (.ref p) H1) : tRet te D σ H := h H (Ex.refl H) _ fun p H1 np e hp => k p H1 np e hp
/-- a promise that hands back a new thing -/
def RetF (P : Addr → Hp → Prop) (H : Hp) (Q : VK) : Prop := ∀ p H2, H p = none → Ex H H2 → P p H2 → Q (.ref p) H2
theorem RetF.go {P : Addr → Hp → Prop} {Q : VK} (k : RetF P H Q) (e : Ex H H') {p : Addr} {H2 : Hp} (hp : H' p = none) (e2 : Ex H' H2) (h : P p H2) : Q (.ref p) H2 := k p H2 (fresh_back e hp) (e.trans e2) h
/-- an if whose answer is known -/
theorem q_no {b : Bool} (h : EvT t σ H b) (hb : b = false) (k : ∀ H1, Ex H H1 → tw { D with nx := tz D } σ H1) : tSeq (tIfS t tu tw) tz D σ H := q_if h (fun e => by rw [hb] at e; cases e) fun _ => k
theorem q_skip {b : Bool} (h : EvT t σ H b) (hb : b = false) (k : ∀ H1, Ex H H1 → tz D σ H1) : tSeq (tIfS t tu tNext) tz D σ H := q_if h (fun e => by rw [hb] at e; cases e) fun _ => k
theorem s_skip {b : Bool} (h : EvT t σ H b) (hb : b = false) (k : ∀ H1, Ex H H1 → D.nx σ H1) : tIfS t tu tNext D σ H := s_if h (fun e => by rw [hb] at e; cases e) fun _ => k
theorem q_yes {b : Bool} (h : EvT t σ H b) (hb : b = true) (k : ∀ H1, Ex H H1 → tu { D with nx := tz D } σ H1) : tSeq (tIfS t tu tw) tz D σ H := q_if h (fun _ => k) (fun e => by rw [hb] at e; cases e)
end
/-! ### data compared -/
section
variable {K : PySem.W.Frag} {H : Hp} {a b : Addr} {L M : List (Int × Int)}
def dI (ns : List Int) : PyData := .list (ns.map PyData.int)
def dP (p : Int × Int) : PyData := .tuple [.int p.1, .int p.2]
def dN (L : List (Int × Int)) : PyData := .list (L.map dP)
theorem dpa_ints : ∀ ns : List Int, DpAll K H (ns.map V.int) (ns.map PyData.int)
  | [] => .nil
  | n :: r => .cons (.int n) (dpa_ints r)
theorem dp_ints {ns : List Int} (h : SqL K H a (ns.map V.int)) : Dp K H (.ref a) (dI ns) := .lst h (dpa_ints ns)
theorem dpa_prs {xs : List V} (h : PrsAt K H xs L) : DpAll K H xs (L.map dP) := by
  induction h with
  | nil => exact .nil
  | cons h1 _ ih =>
    obtain ⟨t, rfl, ht⟩ := h1
    exact .cons (.tup ht (.cons (.int _) (.cons (.int _) .nil))) ih
theorem dp_num (h : NumAt K H a L) : Dp K H (.ref a) (dN L) := by
  obtain ⟨xs, h1, h2⟩ := h
  exact .lst h1 (dpa_prs h2)
theorem lay_ints : ∀ ns : List Int, PyData.canLayAll0 (ns.map PyData.int) = true ∧ PyData.depthAll (ns.map PyData.int) = 0
  | [] => ⟨rfl, rfl⟩
  | n :: r => by
    obtain ⟨h1, h2⟩ := lay_ints r
    refine ⟨?_, ?_⟩
    · show (PyData.canLay0 (.int n) && PyData.canLayAll0 (r.map PyData.int)) = true
      rw [h1]
      rfl
    · show max (PyData.depth (.int n)) (PyData.depthAll (r.map PyData.int)) = 0
      rw [h2]
      rfl
theorem shaped_ints (ns : List Int) : SeqAt.shaped (dI ns) = true := by
  obtain ⟨h1, h2⟩ := lay_ints ns
  show (PyData.canLayAll0 (ns.map PyData.int) && decide (PyData.depthAll (ns.map PyData.int) + 1 ≤ 64)) = true
  rw [h1, h2]
  rfl
theorem lay_prs : ∀ L : List (Int × Int), PyData.canLayAll0 (L.map dP) = true ∧ PyData.depthAll (L.map dP) ≤ 1
  | [] => ⟨rfl, by decide⟩
  | p :: r => by
    obtain ⟨h1, h2⟩ := lay_prs r
    refine ⟨?_, ?_⟩
    · show (PyData.canLay0 (dP p) && PyData.canLayAll0 (r.map dP)) = true
      rw [h1]
      rfl
    · show max (PyData.depth (dP p)) (PyData.depthAll (r.map dP)) ≤ 1
      have : PyData.depth (dP p) = 1 := rfl
      omega
theorem shaped_num (L : List (Int × Int)) : SeqAt.shaped (dN L) = true := by
  obtain ⟨h1, h2⟩ := lay_prs L
  show (PyData.canLayAll0 (L.map dP) && decide (PyData.depthAll (L.map dP) + 1 ≤ 64)) = true
  rw [h1]
  exact decide_eq_true (by omega)
theorem eqvAll_ints : ∀ ns ms : List Int, PyData.eqvAll (ns.map PyData.int) (ms.map PyData.int) = decide (ns = ms)
  | [], [] => rfl
  | [], _ :: _ => rfl
  | _ :: _, [] => rfl
  | n :: r, m :: q => by
    show (PyData.eqv (.int n) (.int m) && PyData.eqvAll (r.map PyData.int) (q.map PyData.int)) = _
    rw [eqvAll_ints r q]
    show ((n == m) && decide (r = q)) = _
    rw [Bool.eq_iff_iff]
    simp
theorem eqv_ints (ns ms : List Int) : PyData.eqv (dI ns) (dI ms) = decide (ns = ms) := eqvAll_ints ns ms
theorem eqv_pr (p q : Int × Int) : PyData.eqv (dP p) (dP q) = decide (p = q) := by
  show ((p.1 == q.1) && ((p.2 == q.2) && true)) = _
  rw [Bool.eq_iff_iff]
  obtain ⟨a, b⟩ := p
  obtain ⟨c, d⟩ := q
  simp
theorem eqvAll_prs : ∀ L M : List (Int × Int), PyData.eqvAll (L.map dP) (M.map dP) = decide (L = M)
  | [], [] => rfl
  | [], _ :: _ => rfl
  | _ :: _, [] => rfl
  | p :: r, q :: s => by
    show (PyData.eqv (dP p) (dP q) && PyData.eqvAll (r.map dP) (s.map dP)) = _
    rw [eqv_pr, eqvAll_prs r s, Bool.eq_iff_iff]
    simp
theorem eqv_num (L M : List (Int × Int)) : PyData.eqv (dN L) (dN M) = decide (L = M) := eqvAll_prs L M
theorem rv_neI {ns ms : List Int} (h : SqL K H a (ns.map V.int)) (h' : SqL K H b (ms.map V.int)) : RV (rNeD K) (.ref a) (.ref b) H (.bl (!decide (ns = ms))) := fun H1 e Q q =>
  ⟨_, _, dp_ints (ex_l e h), dp_ints (ex_l e h'), shaped_ints _, shaped_ints _, by rw [eqv_ints]; exact q H1 (Ex.refl H1)⟩
theorem rv_eqI {ns ms : List Int} (h : SqL K H a (ns.map V.int)) (h' : SqL K H b (ms.map V.int)) : RV (rEqD K) (.ref a) (.ref b) H (.bl (decide (ns = ms))) := fun H1 e Q q =>
  ⟨_, _, dp_ints (ex_l e h), dp_ints (ex_l e h'), shaped_ints _, shaped_ints _, by rw [eqv_ints]; exact q H1 (Ex.refl H1)⟩
theorem rv_neN (h : NumAt K H a L) (h' : NumAt K H b M) : RV (rNeD K) (.ref a) (.ref b) H (.bl (!decide (L = M))) := fun H1 e Q q =>
  ⟨_, _, dp_num (h.ex e), dp_num (h'.ex e), shaped_num _, shaped_num _, by rw [eqv_num]; exact q H1 (Ex.refl H1)⟩
theorem rv_eqN (h : NumAt K H a L) (h' : NumAt K H b M) : RV (rEqD K) (.ref a) (.ref b) H (.bl (decide (L = M))) := fun H1 e Q q =>
  ⟨_, _, dp_num (h.ex e), dp_num (h'.ex e), shaped_num _, shaped_num _, by rw [eqv_num]; exact q H1 (Ex.refl H1)⟩
theorem rv_isnot {c d : Bool} : RV (fun x y H Q => ∃ a b, x = .bl a ∧ y = .bl b ∧ Q (.bl (!decide (a = b))) H) (.bl c) (.bl d) H (.bl (!decide (c = d))) := fun H1 _ Q q => ⟨c, d, rfl, rfl, q H1 (Ex.refl H1)⟩
end
end Es
namespace Es
/-! ### sorting -/
def insI (x : Int) : List Int → List Int
  | [] => [x]
  | y :: r => if x ≤ y then x :: y :: r else y :: insI x r
def isort : List Int → List Int
  | [] => []
  | x :: r => insI x (isort r)
theorem insI_perm (x : Int) : ∀ l : List Int, (insI x l).Perm (x :: l)
  | [] => List.Perm.refl _
  | y :: r => by
    unfold insI
    by_cases h : x ≤ y
    · rw [if_pos h]
    · rw [if_neg h]
      exact ((insI_perm x r).cons y).trans (List.Perm.swap x y r)
theorem isort_perm : ∀ l : List Int, (isort l).Perm l
  | [] => List.Perm.refl _
  | x :: r => (insI_perm x (isort r)).trans ((isort_perm r).cons x)
theorem insI_sorted (x : Int) : ∀ l : List Int, l.Pairwise (· ≤ ·) → (insI x l).Pairwise (· ≤ ·)
  | [], _ => List.pairwise_singleton _ _
  | y :: r, h => by
    obtain ⟨h1, h2⟩ := List.pairwise_cons.mp h
    unfold insI
    by_cases hx : x ≤ y
    · rw [if_pos hx]
      refine List.pairwise_cons.mpr ⟨fun z hz => ?_, h⟩
      rcases List.mem_cons.mp hz with rfl | hz
      · exact hx
      · exact Int.le_trans hx (h1 z hz)
    · rw [if_neg hx]
      refine List.pairwise_cons.mpr ⟨fun z hz => ?_, insI_sorted x r h2⟩
      rcases List.mem_cons.mp ((insI_perm x r).mem_iff.mp hz) with rfl | hz
      · omega
      · exact h1 z hz
theorem isort_sorted : ∀ l : List Int, (isort l).Pairwise (· ≤ ·)
  | [] => List.Pairwise.nil
  | x :: r => insI_sorted x _ (isort_sorted r)
theorem sorted_same : ∀ {a b : List Int}, a.Perm b → a.Pairwise (· ≤ ·) → b.Pairwise (· ≤ ·) → a = b
  | [], b, h, _, _ => by
    have e := h.length_eq
    cases b with
    | nil => rfl
    | cons y s => simp at e
  | x :: r, [], h, _, _ => by
    have e := h.length_eq
    simp at e
  | x :: r, y :: s, h, ha, hb => by
    obtain ⟨a1, a2⟩ := List.pairwise_cons.mp ha
    obtain ⟨b1, b2⟩ := List.pairwise_cons.mp hb
    have hxy : x = y := by
      have m1 : x ∈ y :: s := h.mem_iff.mp List.mem_cons_self
      have m2 : y ∈ x :: r := h.mem_iff.mpr List.mem_cons_self
      rcases List.mem_cons.mp m1 with e | m1
      · exact e
      · rcases List.mem_cons.mp m2 with e | m2
        · exact e.symm
        · have := a1 y m2
          have := b1 x m1
          omega
    subst hxy
    rw [sorted_same ((List.perm_cons x).mp h) a2 b2]
theorem isort_same {ns ms : List Int} (h : ms.Perm ns) (hs : ms.Pairwise (· ≤ ·)) : ms = isort ns := sorted_same (h.trans (isort_perm ns).symm) hs (isort_sorted ns)
theorem isort_of_sorted {ns : List Int} (hs : ns.Pairwise (· ≤ ·)) : isort ns = ns := (isort_same (List.Perm.refl ns) hs).symm
theorem isort_mem {ns : List Int} {x : Int} : x ∈ isort ns ↔ x ∈ ns := (isort_perm ns).mem_iff
theorem isort_len (ns : List Int) : (isort ns).length = ns.length := (isort_perm ns).length_eq
theorem perm_sum {a b : List Int} (h : a.Perm b) : a.sum = b.sum := by
  induction h with
  | nil => rfl
  | cons x _ ih => rw [List.sum_cons, List.sum_cons, ih]
  | swap x y l => simp only [List.sum_cons]; omega
  | trans _ _ h1 h2 => exact h1.trans h2
theorem isort_sum (ns : List Int) : (isort ns).sum = ns.sum := perm_sum (isort_perm ns)
theorem sum_nonneg : ∀ {l : List Int}, (∀ d ∈ l, 0 < d) → 0 ≤ l.sum
  | [], _ => Int.le_refl _
  | x :: r, h => by
    have h1 := h x List.mem_cons_self
    have h2 := sum_nonneg (l := r) fun d hd => h d (List.mem_cons_of_mem _ hd)
    rw [List.sum_cons]
    omega
/-! ### divisors -/
def widen (f : List Int) (p : Int) (k : Nat) : List Int := (List.range k).flatMap fun j => f.map fun d => d * p ^ j
theorem widen_succ (f : List Int) (p : Int) (k : Nat) : widen f p (k + 1) = widen f p k ++ f.map fun d => d * p ^ k := by
  unfold widen
  rw [List.range_succ, List.flatMap_append]
  simp
theorem widen_len (f : List Int) (p : Int) (k : Nat) : (widen f p k).length = k * f.length := by
  induction k with
  | zero => simp [widen]
  | succ k ih => rw [widen_succ, List.length_append, ih, List.length_map, Nat.succ_mul]
theorem mem_widen {f : List Int} {p x : Int} {k : Nat} : x ∈ widen f p k ↔ ∃ j d, j < k ∧ d ∈ f ∧ x = d * p ^ j := by
  unfold widen
  rw [List.mem_flatMap]
  constructor
  · rintro ⟨j, hj, hx⟩
    obtain ⟨d, hd, e⟩ := List.mem_map.mp hx
    exact ⟨j, d, List.mem_range.mp hj, hd, e.symm⟩
  · rintro ⟨j, d, hj, hd, e⟩
    exact ⟨j, List.mem_range.mpr hj, List.mem_map.mpr ⟨d, hd, e.symm⟩⟩
def uds (L : List (Int × Int)) : List Int := L.foldl (fun f q => widen f q.1 (q.2.toNat + 1)) [1]
def ds (L : List (Int × Int)) : List Int := isort (uds L)
def tot (L : List (Int × Int)) : Int := (ds L).sum
theorem uds_snoc (L : List (Int × Int)) (q : Int × Int) : uds (L ++ [q]) = widen (uds L) q.1 (q.2.toNat + 1) := by
  unfold uds
  rw [List.foldl_append]
  rfl
theorem take_snoc {α : Type} {L : List α} {i : Nat} {q : α} (h : L[i]? = some q) : L.take (i + 1) = L.take i ++ [q] := by
  rw [List.take_add_one, h]
  rfl
/-! ### numbers -/
def primeB (w : Int) : Bool := decide (2 ≤ w) && decide (w ≤ 997) && (List.range 30).all fun i => !(decide (((i : Int) + 2) * ((i : Int) + 2) ≤ w) && decide (w % ((i : Int) + 2) = 0))
def riseB (last : Int) : List (Int × Int) → Bool
  | [] => true
  | q :: r => primeB q.1 && decide (1 ≤ q.2) && decide (last < q.1) && riseB q.1 r
def many (L : List (Int × Int)) : Int := L.foldl (fun m q => m * (q.2 + 1)) 1
structure Good (L : List (Int × Int)) : Prop where
  rise : riseB 0 L = true
  few : many L ≤ 500
theorem many_snoc (L : List (Int × Int)) (q : Int × Int) : many (L ++ [q]) = many L * (q.2 + 1) := by
  unfold many
  rw [List.foldl_append]
  rfl
theorem prime_lo {w : Int} (h : primeB w = true) : 2 ≤ w := by
  unfold primeB at h
  simp only [Bool.and_eq_true, decide_eq_true_eq] at h
  exact h.1.1
theorem prime_hi {w : Int} (h : primeB w = true) : w ≤ 997 := by
  unfold primeB at h
  simp only [Bool.and_eq_true, decide_eq_true_eq] at h
  exact h.1.2
theorem rise_cons {l : Int} {q : Int × Int} {r : List (Int × Int)} (h : riseB l (q :: r) = true) : primeB q.1 = true ∧ 1 ≤ q.2 ∧ l < q.1 ∧ riseB q.1 r = true := by
  unfold riseB at h
  simp only [Bool.and_eq_true, decide_eq_true_eq] at h
  exact ⟨h.1.1.1, h.1.1.2, h.1.2, h.2⟩
theorem rise_mk {l : Int} {q : Int × Int} {r : List (Int × Int)} (h1 : primeB q.1 = true) (h2 : 1 ≤ q.2) (h3 : l < q.1) (h4 : riseB q.1 r = true) : riseB l (q :: r) = true := by
  unfold riseB
  simp only [Bool.and_eq_true, decide_eq_true_eq]
  exact ⟨⟨⟨h1, h2⟩, h3⟩, h4⟩
theorem rise_mem : ∀ {L : List (Int × Int)} {l : Int} {q : Int × Int}, riseB l L = true → q ∈ L → primeB q.1 = true ∧ 1 ≤ q.2 ∧ l < q.1
  | q0 :: r, l, q, h, m => by
    obtain ⟨h1, h2, h3, h4⟩ := rise_cons h
    rcases List.mem_cons.mp m with rfl | m
    · exact ⟨h1, h2, h3⟩
    · obtain ⟨k1, k2, k3⟩ := rise_mem h4 m
      exact ⟨k1, k2, by omega⟩
theorem rise_take : ∀ {L : List (Int × Int)} {l : Int} (n : Nat), riseB l L = true → riseB l (L.take n) = true
  | [], _, n, h => by simpa using h
  | q :: r, l, 0, h => rfl
  | q :: r, l, n + 1, h => by
    obtain ⟨h1, h2, h3, h4⟩ := rise_cons h
    exact rise_mk h1 h2 h3 (rise_take n h4)
theorem rise_snoc : ∀ {L : List (Int × Int)} {l : Int} {q : Int × Int}, riseB l L = true → primeB q.1 = true → 1 ≤ q.2 → l < q.1 → (∀ z ∈ L, z.1 < q.1) → riseB l (L ++ [q]) = true
  | [], l, q, _, h1, h2, h3, _ => rise_mk h1 h2 h3 rfl
  | z :: r, l, q, h, h1, h2, h3, hz => by
    obtain ⟨k1, k2, k3, k4⟩ := rise_cons h
    exact rise_mk k1 k2 k3 (rise_snoc k4 h1 h2 (hz z List.mem_cons_self) fun y hy => hz y (List.mem_cons_of_mem _ hy))
theorem many_foldl : ∀ (L : List (Int × Int)) (m : Int), (∀ q ∈ L, 1 ≤ q.2) → 1 ≤ m → m ≤ L.foldl (fun m q => m * (q.2 + 1)) m
  | [], m, _, _ => Int.le_refl _
  | q :: r, m, h, hm => by
    have hq := h q List.mem_cons_self
    have h1 : m * 1 ≤ m * (q.2 + 1) := Int.mul_le_mul_of_nonneg_left (by omega) (by omega)
    rw [Int.mul_one] at h1
    have := many_foldl r (m * (q.2 + 1)) (fun z hz => h z (List.mem_cons_of_mem _ hz)) (by omega)
    show m ≤ r.foldl _ (m * (q.2 + 1))
    omega
theorem many_app (L M : List (Int × Int)) (h : ∀ q ∈ L ++ M, 1 ≤ q.2) : 1 ≤ many L ∧ many L ≤ many (L ++ M) := by
  have h1 : 1 ≤ many L := many_foldl L 1 (fun q hq => h q (List.mem_append_left _ hq)) (by decide)
  refine ⟨h1, ?_⟩
  show many L ≤ (L ++ M).foldl _ 1
  rw [List.foldl_append]
  exact many_foldl M (many L) (fun q hq => h q (List.mem_append_right _ hq)) h1
theorem Good.take {L : List (Int × Int)} (g : Good L) (n : Nat) : Good (L.take n) := by
  refine ⟨rise_take n g.rise, ?_⟩
  have h := many_app (L.take n) (L.drop n) (fun q hq => (rise_mem g.rise (by rw [List.take_append_drop] at hq; exact hq)).2.1)
  rw [List.take_append_drop] at h
  have := g.few
  omega
theorem Good.one {L : List (Int × Int)} (g : Good L) : 1 ≤ many L := (many_app L [] (fun q hq => (rise_mem g.rise (by simpa using hq)).2.1)).1
theorem good_nil : Good [] := ⟨rfl, by decide⟩
def expsum (L : List (Int × Int)) : Nat := (L.map fun q => q.2.toNat).sum
theorem expsum_many_aux : ∀ (L : List (Int × Int)) (m : Int) (s : Nat), (∀ q ∈ L, 1 ≤ q.2) → (s : Int) + 1 ≤ m → ((s + expsum L : Nat) : Int) + 1 ≤ L.foldl (fun m q => m * (q.2 + 1)) m
  | [], m, s, _, hm => by simpa [expsum] using hm
  | q :: r, m, s, h, hm => by
    have hq := h q List.mem_cons_self
    have e : expsum (q :: r) = q.2.toNat + expsum r := by simp [expsum]
    have h1 : (((s + q.2.toNat : Nat)) : Int) + 1 ≤ m * (q.2 + 1) := by
      have h2 : ((s : Int) + 1) * (q.2 + 1) ≤ m * (q.2 + 1) := Int.mul_le_mul_of_nonneg_right hm (by omega)
      have h3 : ((s : Int) + 1) * (q.2 + 1) = (s : Int) * q.2 + s + q.2 + 1 := by
        rw [Int.add_mul, Int.mul_add, Int.one_mul, Int.mul_one]
        omega
      have h4 : 0 ≤ (s : Int) * q.2 := Int.mul_nonneg (by omega) (by omega)
      omega
    have := expsum_many_aux r (m * (q.2 + 1)) (s + q.2.toNat) (fun z hz => h z (List.mem_cons_of_mem _ hz)) h1
    show _ ≤ r.foldl _ (m * (q.2 + 1))
    rw [e]
    rw [Nat.add_assoc] at this
    exact this
theorem Good.exps {L : List (Int × Int)} (g : Good L) : expsum L ≤ 499 := by
  have h := expsum_many_aux L 1 0 (fun q hq => (rise_mem g.rise hq).2.1) (by decide)
  have h2 : L.foldl (fun m q => m * (q.2 + 1)) 1 ≤ 500 := g.few
  omega
theorem mem_exps {L : List (Int × Int)} {q : Int × Int} (h : q ∈ L) : q.2.toNat ≤ expsum L := by
  induction L with
  | nil => cases h
  | cons z r ih =>
    have e : expsum (z :: r) = z.2.toNat + expsum r := by simp [expsum]
    rcases List.mem_cons.mp h with rfl | h
    · omega
    · have := ih h
      omega
theorem Good.exp_le {L : List (Int × Int)} (g : Good L) {q : Int × Int} (h : q ∈ L) : q.2 ≤ 499 := by
  have h1 := mem_exps h
  have h2 := g.exps
  have h3 := (rise_mem g.rise h).2.1
  omega
theorem pow_pos_i {p : Int} (h : 0 < p) (k : Nat) : 0 < p ^ k := Int.pow_pos h
theorem pow_mono {a b : Nat} (h : a ≤ b) : (1024 : Int) ^ a ≤ 1024 ^ b := by
  obtain ⟨c, rfl⟩ := Nat.le.dest h
  rw [Int.pow_add]
  have h6 : (1 : Int) ≤ 1024 ^ c := pow_pos_i (by decide) _
  have h7 := pow_pos_i (show (0 : Int) < 1024 by decide) a
  calc (1024 : Int) ^ a = 1024 ^ a * 1 := (Int.mul_one _).symm
    _ ≤ 1024 ^ a * 1024 ^ c := Int.mul_le_mul_of_nonneg_left h6 (by omega)
theorem pow_le_1024 {p : Int} (h0 : 0 < p) (h : p ≤ 1024) : ∀ k : Nat, p ^ k ≤ 1024 ^ k
  | 0 => by rw [Int.pow_zero, Int.pow_zero]; decide
  | k + 1 => by
    rw [Int.pow_succ, Int.pow_succ]
    have ih := pow_le_1024 h0 h k
    have hp := pow_pos_i h0 k
    calc p ^ k * p ≤ p ^ k * 1024 := Int.mul_le_mul_of_nonneg_left h (by omega)
      _ ≤ 1024 ^ k * 1024 := Int.mul_le_mul_of_nonneg_right ih (by decide)
theorem widen_bound {f : List Int} {p : Int} {k : Nat} {B : Nat} (hp : 0 < p) (hp2 : p ≤ 1024) (hf : ∀ d ∈ f, 0 < d ∧ d ≤ 1024 ^ B) : ∀ x ∈ widen f p (k + 1), 0 < x ∧ x ≤ 1024 ^ (B + k) := by
  intro x hx
  obtain ⟨j, d, hj, hd, rfl⟩ := mem_widen.mp hx
  obtain ⟨h1, h2⟩ := hf d hd
  have h3 := pow_pos_i hp j
  have h4 := pow_le_1024 hp hp2 j
  refine ⟨Int.mul_pos h1 h3, ?_⟩
  have h5 : (1024 : Int) ^ j ≤ 1024 ^ k := pow_mono (by omega)
  rw [Int.pow_add]
  have h8 := pow_pos_i (show (0 : Int) < 1024 by decide) B
  calc d * p ^ j ≤ 1024 ^ B * p ^ j := Int.mul_le_mul_of_nonneg_right h2 (by omega)
    _ ≤ 1024 ^ B * 1024 ^ k := Int.mul_le_mul_of_nonneg_left (Int.le_trans h4 h5) (by omega)
theorem uds_bound_aux : ∀ (L : List (Int × Int)) (f : List Int) (B : Nat) (l : Int), riseB l L = true → (∀ d ∈ f, 0 < d ∧ d ≤ 1024 ^ B) →
    ∀ x ∈ L.foldl (fun f q => widen f q.1 (q.2.toNat + 1)) f, 0 < x ∧ x ≤ 1024 ^ (B + expsum L)
  | [], f, B, _, _, hf, x, hx => by simpa [expsum] using hf x hx
  | q :: r, f, B, l, h, hf, x, hx => by
    obtain ⟨h1, h2, h3, h4⟩ := rise_cons h
    have p1 := prime_lo h1
    have p2 := prime_hi h1
    have e : expsum (q :: r) = q.2.toNat + expsum r := by simp [expsum]
    have := uds_bound_aux r (widen f q.1 (q.2.toNat + 1)) (B + q.2.toNat) q.1 h4 (widen_bound (by omega) (by omega) hf) x hx
    rw [e, ← Nat.add_assoc]
    exact this
theorem uds_bound {L : List (Int × Int)} (g : Good L) : ∀ x ∈ uds L, 0 < x ∧ x ≤ 1024 ^ 499 := by
  intro x hx
  obtain ⟨h1, h2⟩ := uds_bound_aux L [1] 0 0 g.rise (fun d hd => by rw [List.mem_singleton.mp hd]; decide) x hx
  refine ⟨h1, Int.le_trans h2 ?_⟩
  have hk := g.exps
  exact pow_mono (by omega)
theorem bits_1024 {x : Int} (k : Nat) (h0 : 0 < x) (h : x ≤ 1024 ^ k) : x.natAbs < 2 ^ (10 * k + 1) := by
  have e : (1024 : Int) ^ k = ((2 ^ (10 * k) : Nat) : Int) := by
    rw [Int.natCast_pow, Int.pow_mul]
    rfl
  have h2 : 2 ^ (10 * k) < 2 ^ (10 * k + 1) := Nat.pow_lt_pow_right (by decide) (Nat.lt_succ_self _)
  rw [e] at h
  omega
theorem uds_bits {L : List (Int × Int)} (g : Good L) : ∀ x ∈ uds L, 0 < x ∧ x.natAbs < 2 ^ 5000 := fun x hx => by
  obtain ⟨h1, h2⟩ := uds_bound g x hx
  have := bits_1024 499 h1 h2
  exact ⟨h1, Nat.lt_of_lt_of_le this (Nat.pow_le_pow_right (by decide) (by decide))⟩
theorem uds_len_aux : ∀ (L : List (Int × Int)) (f : List Int) (m : Int), (∀ q ∈ L, 1 ≤ q.2) → (f.length : Int) = m → ((L.foldl (fun f q => widen f q.1 (q.2.toNat + 1)) f).length : Int) = L.foldl (fun m q => m * (q.2 + 1)) m
  | [], f, m, _, h => h
  | q :: r, f, m, hq, h => by
    refine uds_len_aux r (widen f q.1 (q.2.toNat + 1)) (m * (q.2 + 1)) (fun z hz => hq z (List.mem_cons_of_mem _ hz)) ?_
    have := hq q List.mem_cons_self
    rw [widen_len, Int.natCast_mul, h, Int.mul_comm]
    congr 1
    omega
theorem uds_len {L : List (Int × Int)} (g : Good L) : ((uds L).length : Int) = many L := uds_len_aux L [1] 1 (fun q hq => (rise_mem g.rise hq).2.1) rfl
theorem uds_len_le {L : List (Int × Int)} (g : Good L) : (uds L).length ≤ 500 := by
  have h1 := uds_len g
  have h2 := g.few
  omega
theorem ds_len_le {L : List (Int × Int)} (g : Good L) : (ds L).length ≤ 500 := by
  unfold ds
  rw [isort_len]
  exact uds_len_le g
theorem ds_pos {L : List (Int × Int)} (g : Good L) : ∀ d ∈ ds L, 0 < d := fun d hd => (uds_bits g d (isort_mem.mp hd)).1
theorem tot_nonneg {L : List (Int × Int)} (g : Good L) : 0 ≤ tot L := sum_nonneg (ds_pos g)
/-! ### all sums, or a bar -/
def lu : Int → List Int → Int
  | reach, [] => reach + 1
  | reach, d :: r => if reach + 1 < d then reach + 1 else lu (reach + d) r
def allI : Int → List Int → Bool
  | _, [] => true
  | reach, d :: r => if reach + 1 < d then false else allI (reach + d) r
theorem lu_all : ∀ (l : List Int) (reach : Int), (∀ d ∈ l, 0 < d) → 0 ≤ reach → (allI reach l = true → lu reach l = reach + l.sum + 1) ∧ (allI reach l = false → lu reach l ≤ reach + l.sum ∧ reach + 1 ≤ lu reach l)
  | [], reach, _, _ => ⟨fun _ => by simp [lu], fun h => by simp [allI] at h⟩
  | d :: r, reach, h, hr => by
    have hd := h d List.mem_cons_self
    have hs := sum_nonneg (l := r) fun z hz => h z (List.mem_cons_of_mem _ hz)
    rw [List.sum_cons]
    unfold lu allI
    by_cases c : reach + 1 < d
    · rw [if_pos c, if_pos c]
      exact ⟨fun z => (by cases z), fun _ => ⟨by omega, by omega⟩⟩
    · rw [if_neg c, if_neg c]
      obtain ⟨h1, h2⟩ := lu_all r (reach + d) (fun z hz => h z (List.mem_cons_of_mem _ hz)) (by omega)
      exact ⟨fun z => (by rw [h1 z]; omega), fun z => (by have := h2 z; omega)⟩
def isAll (L : List (Int × Int)) : Bool := allI 0 (ds L)
theorem lu_tot {L : List (Int × Int)} (g : Good L) : decide (tot L < lu 0 (ds L)) = isAll L := by
  obtain ⟨h1, h2⟩ := lu_all (ds L) 0 (ds_pos g) (Int.le_refl _)
  unfold isAll
  cases e : allI 0 (ds L) with
  | true => exact decide_eq_true (by have := h1 e; unfold tot; omega)
  | false => exact decide_eq_false (by have := (h2 e).1; unfold tot; omega)
def together (l : List Int) (a : Int) : Int := (l.filter fun d => decide (d ≤ a)).sum
theorem together_nonneg {l : List Int} (h : ∀ d ∈ l, 0 < d) (a : Int) : 0 ≤ together l a := sum_nonneg fun d hd => h d (List.mem_filter.mp hd).1
def bars (l : List Int) (a : Int) : Bool := decide (together l a < a) && decide (a ≤ l.sum)
theorem bars_law {l : List Int} (h : ∀ d ∈ l, 0 < d) (a : Int) : ((decide (0 ≤ a) && decide (a ≤ l.sum)) && decide (together l a < a)) = bars l a := by
  have h0 := together_nonneg h a
  unfold bars
  rw [Bool.eq_iff_iff]
  simp only [Bool.and_eq_true, decide_eq_true_eq]
  omega
end Es
namespace Es
theorem prime_out {x : Int} (h : (decide (x < 2) || decide (997 < x)) = true) : primeB x = false := by
  rw [Bool.or_eq_true, decide_eq_true_eq, decide_eq_true_eq] at h
  cases e : primeB x with
  | false => rfl
  | true =>
    have := prime_lo e
    have := prime_hi e
    omega
theorem prime_in {x : Int} (h : (decide (x < 2) || decide (997 < x)) = false) : 2 ≤ x ∧ x ≤ 997 := by
  rw [Bool.or_eq_false_iff, decide_eq_false_iff_not, decide_eq_false_iff_not] at h
  omega
theorem prime_step {x : Int} {i : Nat} (h : x ≤ 997) (hle : ((i : Int) + 2) * ((i : Int) + 2) ≤ x) : i < 30 := by
  refine Nat.lt_of_not_le fun z => ?_
  have h1 : (32 : Int) ≤ (i : Int) + 2 := by omega
  have h2 : (32 : Int) * 32 ≤ ((i : Int) + 2) * ((i : Int) + 2) := Int.mul_le_mul h1 h1 (by decide) (by omega)
  omega
theorem prime_not {x : Int} {i : Nat} (hi : i < 30) (hle : ((i : Int) + 2) * ((i : Int) + 2) ≤ x) (hz : x % ((i : Int) + 2) = 0) : primeB x = false := by
  cases e : primeB x with
  | false => rfl
  | true =>
    unfold primeB at e
    simp only [Bool.and_eq_true, List.all_eq_true, List.mem_range] at e
    have := e.2 i hi
    rw [decide_eq_true hle, decide_eq_true hz] at this
    cases this
theorem prime_yes {x : Int} {i : Nat} (h1 : 2 ≤ x) (h2 : x ≤ 997) (hle : ¬ ((i : Int) + 2) * ((i : Int) + 2) ≤ x) (hj : ∀ j : Nat, j < i → ¬ (((j : Int) + 2) * ((j : Int) + 2) ≤ x ∧ x % ((j : Int) + 2) = 0)) : primeB x = true := by
  unfold primeB
  simp only [Bool.and_eq_true, List.all_eq_true, List.mem_range, decide_eq_true_eq]
  refine ⟨⟨h1, h2⟩, fun j hj30 => ?_⟩
  have key : ¬ (((j : Int) + 2) * ((j : Int) + 2) ≤ x ∧ x % ((j : Int) + 2) = 0) := by
    by_cases c : j < i
    · exact hj j c
    · intro z
      have h3 : (i : Int) + 2 ≤ (j : Int) + 2 := by omega
      have h4 : ((i : Int) + 2) * ((i : Int) + 2) ≤ ((j : Int) + 2) * ((j : Int) + 2) := Int.mul_le_mul h3 h3 (by omega) (by omega)
      omega
  by_cases a : ((j : Int) + 2) * ((j : Int) + 2) ≤ x
  · by_cases b : x % ((j : Int) + 2) = 0
    · exact absurd ⟨a, b⟩ key
    · rw [decide_eq_false b, Bool.and_false]
      rfl
  · rw [decide_eq_false a, Bool.false_and]
    rfl
end Es
namespace Es
theorem rise_no {l : Int} {q : Int × Int} {r : List (Int × Int)} (h : (!(primeB q.1 && decide (1 ≤ q.2)) || decide (q.1 ≤ l)) = true) : riseB l (q :: r) = false := by
  cases e : riseB l (q :: r) with
  | false => rfl
  | true =>
    obtain ⟨h1, h2, h3, _⟩ := rise_cons e
    rw [h1, decide_eq_true h2, decide_eq_false (show ¬ q.1 ≤ l by omega)] at h
    cases h
theorem rise_go {l : Int} {q : Int × Int} {r : List (Int × Int)} (h : (!(primeB q.1 && decide (1 ≤ q.2)) || decide (q.1 ≤ l)) = false) : riseB l (q :: r) = riseB q.1 r := by
  rw [Bool.or_eq_false_iff, Bool.not_eq_false', Bool.and_eq_true, decide_eq_true_eq, decide_eq_false_iff_not] at h
  obtain ⟨⟨h1, h2⟩, h3⟩ := h
  conv => lhs; unfold riseB
  rw [h1, decide_eq_true h2, decide_eq_true (show l < q.1 by omega)]
  rfl
theorem good_small {L : List (Int × Int)} (g : Good L) : ∀ q ∈ L, 1 ≤ q.2 ∧ q.2.natAbs < 2 ^ 200 := fun q hq => by
  have h1 := (rise_mem g.rise hq).2.1
  have h2 := g.exp_le hq
  have h3 : (500 : Nat) < 2 ^ 200 := by decide
  exact ⟨h1, by omega⟩
end Es
set_option maxHeartbeats 2000000
namespace Es
open PySem PySem.Spec PyProof.Rows L2 Evl
/-! ### defs of the text by name -/
def DefAt (K : PySem.W.Frag) (mg : Str → Option Value) (x : Str) (st : Stmt) (ps : List Str) : Prop := ∃ (f : Addr) (fd : FuncData), Fun K x x st f fd ∧ mg x = some (.ref f) ∧ Binds K fd ps []
def Df (P : Program) (w : World) (K : PySem.W.Frag) (mg : Str → Option Value) (base : Heap) (CX : CXT) (k : Nat) (x : Str) (ps : List Str) (sp : Sp) : Prop :=
  ∃ (f : Addr) (fd : FuncData), FnOk P w K mg base CX k f fd ps sp ∧ mg x = some (.ref f) ∧ PySem.W.keepIn K (.ref f) = true ∧ Binds K fd ps []
def MethAt (K : PySem.W.Frag) (C : Addr) (m qual : Str) (st : Stmt) (ps : List Str) : Prop := ∃ (f : Addr) (fd : FuncData), Fun K m qual st f fd ∧ Meth K C m f ∧ Binds K fd ps []
def Dm (P : Program) (w : World) (K : PySem.W.Frag) (mg : Str → Option Value) (base : Heap) (CX : CXT) (k : Nat) (C : Addr) (m : Str) (ps : List Str) (sp : Sp) : Prop :=
  ∃ (f : Addr) (fd : FuncData), FnOk P w K mg base CX k f fd ps sp ∧ Cls K C ∧ Meth K C m f ∧ Binds K fd ps []
def MakeAt (K : PySem.W.Frag) (mg : Str → Option Value) (C : Addr) (x qual : Str) (st : Stmt) (ps : List Str) : Prop := ∃ (f : Addr) (fd : FuncData), Fun K "__init__" qual st f fd ∧ Mk K C f ∧ mg x = some (.ref C) ∧ Binds K fd ps []
def Dk (P : Program) (w : World) (K : PySem.W.Frag) (mg : Str → Option Value) (base : Heap) (CX : CXT) (k : Nat) (C : Addr) (x : Str) (ps : List Str) (sp : Sp) : Prop :=
  ∃ (f : Addr) (fd : FuncData), FnOk P w K mg base CX k f fd ps sp ∧ Mk K C f ∧ mg x = some (.ref C) ∧ Binds K fd ps []
section
variable {P : Program} {w : World} {K : PySem.W.Frag} {mg : Str → Option Value} {base : Heap} {k : Nat} {x m qual : Str} {st : Stmt} {N ps : List Str} {sp : Sp} {C : Addr}
theorem DefAt.ok (A : DefAt K mg x st ps) (S : FnScope N ps (defScope st)) (len : ∀ vs H Q E, sp vs H Q E → vs.length = ps.length)
    (hbody : ∀ (f : Addr) (cdv : Value) (A : Around) (outer : List Env) (s : Shared) (H : Hp) (vs : List V) (Q : VK) (E : XK), Room k (A.deeper (envOfC x (defScope st) s.heap.objs.size f cdv)) → sp vs H Q E →
      ∃ t, PSs (cxOf CX0 P w K mg base N x (defScope st) f cdv A outer s H E).nox (defBody st) t ∧ t { nx := fun _ H' => Q .non H', rt := Q } (start N vs) H) : Df P w K mg base CX0 (k + 1) x ps sp := by
  obtain ⟨f, fd, F, g, b⟩ := A
  exact ⟨f, fd, F.ok S len (hbody f), g, F.kp, b⟩
theorem MethAt.ok (A : MethAt K C m qual st ps) (c : Cls K C) (S : FnScope N ps (defScope st)) (len : ∀ vs H Q E, sp vs H Q E → vs.length = ps.length)
    (hbody : ∀ (f : Addr) (cdv : Value) (A : Around) (outer : List Env) (s : Shared) (H : Hp) (vs : List V) (Q : VK) (E : XK), Room k (A.deeper (envOfC qual (defScope st) s.heap.objs.size f cdv)) → sp vs H Q E →
      ∃ t, PSs (cxOf CX0 P w K mg base N qual (defScope st) f cdv A outer s H E).nox (defBody st) t ∧ t { nx := fun _ H' => Q .non H', rt := Q } (start N vs) H) : Dm P w K mg base CX0 (k + 1) C m ps sp := by
  obtain ⟨f, fd, F, g, b⟩ := A
  exact ⟨f, fd, F.ok S len (hbody f), c, g, b⟩
theorem MakeAt.ok (A : MakeAt K mg C x qual st ps) (S : FnScope N ps (defScope st)) (len : ∀ vs H Q E, sp vs H Q E → vs.length = ps.length)
    (hbody : ∀ (f : Addr) (cdv : Value) (A : Around) (outer : List Env) (s : Shared) (H : Hp) (vs : List V) (Q : VK) (E : XK), Room k (A.deeper (envOfC qual (defScope st) s.heap.objs.size f cdv)) → sp vs H Q E →
      ∃ t, PSs (cxOf CX0 P w K mg base N qual (defScope st) f cdv A outer s H E).nox (defBody st) t ∧ t { nx := fun _ H' => Q .non H', rt := Q } (start N vs) H) : Dk P w K mg base CX0 (k + 1) C x ps sp := by
  obtain ⟨f, fd, F, M, g, b⟩ := A
  exact ⟨f, fd, F.ok S len (hbody f), M, g, b⟩
end
section
variable {X : Cx} {CX : CXT} {k : Nat} {C : Addr} {ps : List Str} {sp : Sp} {E : XK} {x m : Str} {p pos apos : Pos} {e o : Expr} {es : List Expr} {ta : TE} {t : TA}
theorem pe_callD (D : Df X.prog X.w X.K X.mg X.base CX k x ps sp) (hr : Room k X.A) (hg : Gl X x) (hx : Passes CX X E) (ha : PA X (e :: es) t)
    (hdb : (x == ("__debug__" : Str)) = false := by decide) (he : starEach (e :: es) X.env = (false, eval e X.env) :: starEach es X.env := by rfl) (hpl : (backTo pos (starEach es X.env)).any (·.1) = false := by rfl) :
    PE X (.Call (.Name x p) (e :: es) [] pos) (tCall sp [] E t) := by
  obtain ⟨f, fd, F, g, kp, b⟩ := D
  exact pe_call F hr hg g kp b .nil hx ha hdb he hpl
theorem pe_callD0 (D : Df X.prog X.w X.K X.mg X.base CX k x ps sp) (hr : Room k X.A) (hg : Gl X x) (hx : Passes CX X E) (hdb : (x == ("__debug__" : Str)) = false := by decide) :
    PE X (.Call (.Name x p) [] [] pos) (tCall sp [] E tNil) := by
  obtain ⟨f, fd, F, g, kp, b⟩ := D
  exact pe_call0 F hr hg g kp b .nil hx hdb
theorem pe_methD {pl : Sem Bool} (D : Dm X.prog X.w X.K X.mg X.base CX k C m ps sp) (he : PE X o ta) (hr : Room k X.A) (hx : Passes CX X E) (ha : PA X (e :: es) t)
    (hst : starEach (e :: es) X.env = (false, eval e X.env) :: starEach es X.env := by rfl) (hpl : (backTo pos (starEach es X.env)).any (·.1) = false := by rfl)
    (ht : eval (.Call (.Attribute o m apos) (e :: es) [] pos) X.env = (do
      let ov ← eval o X.env
      standAt apos.atName
      let (f, first) ← holding [ov] (getMethod ov m pl)
      callWith pos f first (backTo pos (starEach (e :: es) X.env)) (backToKw pos (keywordEach [] X.env))) := by rfl) :
    PE X (.Call (.Attribute o m apos) (e :: es) [] pos) (tMeth C m sp [] E ta t) := by
  obtain ⟨f, fd, F, c, M, b⟩ := D
  exact pe_meth he c M F hr b .nil hx ha hst hpl ht
theorem pe_makeD (D : Dk X.prog X.w X.K X.mg X.base CX k C x ps sp) (hr : Room (k + 1) X.A) (hg : Gl X x) (hx : Passes CX X E) (ha : PA X (e :: es) t)
    (hdb : (x == ("__debug__" : Str)) = false := by decide) (he : starEach (e :: es) X.env = (false, eval e X.env) :: starEach es X.env := by rfl) (hpl : (backTo pos (starEach es X.env)).any (·.1) = false := by rfl) :
    PE X (.Call (.Name x p) (e :: es) [] pos) (tMake C sp [] E t) := by
  obtain ⟨f, fd, F, M, g, b⟩ := D
  exact pe_make M F hr hg g b .nil hx ha hdb he hpl
end
section
variable {X : Cx} {K : PySem.W.Frag} {e : Expr} {f : Str} {pos : Pos} {ta : TE}
/-- the rules that read the written part, for a comprehension's block: K by name -/
theorem pe_fldK (he : PE X e ta) (hb : attributeBase e f X.env (eval e X.env) = eval e X.env) (h : X.K = K) : PE X (.Attribute e f pos) (tFld K ta f) := h ▸ pe_fld he hb
theorem ix_listK (h : X.K = K) : IxR X (rIxL K) := h ▸ ix_list
theorem ix_tupK (h : X.K = K) : IxR X (rIxT K) := h ▸ ix_tup
theorem sl_listK (h : X.K = K) : SlR X (rSlL K) := h ▸ sl_list
theorem cr_sumK (h : X.K = K) (hc : X.calm = true) : CallR X (.builtin "sum") (rSum K) := h ▸ cr_sum hc
theorem cr_anyK (h : X.K = K) (hc : X.calm = true) : CallR X (.builtin "any") (rAny K) := h ▸ cr_any hc
theorem cr_allK (h : X.K = K) (hc : X.calm = true) : CallR X (.builtin "all") (rAll K) := h ▸ cr_all hc
theorem call_isiK2 (h : X.K = K) : CallR X (.builtin "isinstance") (rIsi K) := h ▸ call_isi
theorem call_lenK (h : X.K = K) : CallR X (.builtin "len") (fun xs H Q => ∃ p ys, xs = [.ref p] ∧ (SqL K H p ys ∨ SqT K H p ys) ∧ Q (.int ys.length) H) := h ▸ call_len_seq
theorem op_inK (h : X.K = K) : OpR X (compareOp .In) (rIn K false) := h ▸ op_in_seq
end
/-! ### the shared promises -/
section
variable (K : PySem.W.Frag)
def spIsWhole : Sp := fun vs H Q _ => ∃ i : Int, vs = [.int i] ∧ RetV (.bl true) H Q
def spIsPrime : Sp := fun vs H Q _ => ∃ w : Int, vs = [.int w] ∧ RetV (.bl (primeB w)) H Q
def spIsPair : Sp := fun vs H Q _ => ∃ v q, vs = [v] ∧ PrAt K H v q ∧ RetV (.bl (primeB q.1 && decide (1 ≤ q.2))) H Q
def spRising : Sp := fun vs H Q _ => ∃ a L, vs = [.ref a] ∧ NumAt K H a L ∧ RetV (.bl (riseB 0 L)) H Q
def spTooMany : Sp := fun vs H Q _ => ∃ a L, vs = [.ref a] ∧ NumAt K H a L ∧ (∀ q ∈ L, 1 ≤ q.2 ∧ q.2.natAbs < 2 ^ 200) ∧ RetV (.bl (decide (500 < many L))) H Q
def spCheck : Sp := fun vs H Q _ => ∃ a L, vs = [.ref a] ∧ NumAt K H a L ∧ Good L ∧ RetV .non H Q
def spWith : Sp := fun vs H Q _ => ∃ a fs p k, vs = [.ref a, .int p, .int k] ∧ SqL K H a (fs.map V.int) ∧ (0 < p ∧ p ≤ 1024) ∧ (0 ≤ k ∧ k ≤ 1000) ∧ fs.length * (k.toNat + 1) ≤ 1000 ∧ (∀ d ∈ fs, d.natAbs < 2 ^ 5000) ∧
  RetF (fun p' H2 => H2 p' = some (.lst ((widen fs p (k.toNat + 1)).map V.int))) H Q
def spDivisors : Sp := fun vs H Q _ => ∃ a L, vs = [.ref a] ∧ NumAt K H a L ∧ Good L ∧ RetF (fun p H2 => H2 p = some (.lst ((ds L).map V.int))) H Q
def spTotal : Sp := fun vs H Q _ => ∃ a L, vs = [.ref a] ∧ NumAt K H a L ∧ Good L ∧ RetV (.int (tot L)) H Q
def spLeast : Sp := fun vs H Q _ => ∃ a L, vs = [.ref a] ∧ NumAt K H a L ∧ Good L ∧ RetV (.int (lu 0 (ds L))) H Q
end
section
variable {K : PySem.W.Frag} {H : Hp} {a : Addr} {L : List (Int × Int)}
theorem sv_isWhole {i : Int} : SpV spIsWhole [.int i] H (.bl true) := fun H1 _ Q q _ => ⟨i, rfl, q⟩
theorem sv_isPrime {i : Int} : SpV spIsPrime [.int i] H (.bl (primeB i)) := fun H1 _ Q q _ => ⟨i, rfl, q⟩
theorem sv_isPair {v : V} {q : Int × Int} (h : PrAt K H v q) : SpV (spIsPair K) [v] H (.bl (primeB q.1 && decide (1 ≤ q.2))) := fun H1 e Q k _ => ⟨v, q, rfl, h.ex e, k⟩
theorem sv_rising (h : NumAt K H a L) : SpV (spRising K) [.ref a] H (.bl (riseB 0 L)) := fun H1 e Q k _ => ⟨a, L, rfl, h.ex e, k⟩
theorem sv_tooMany (h : NumAt K H a L) (hq : ∀ q ∈ L, 1 ≤ q.2 ∧ q.2.natAbs < 2 ^ 200) : SpV (spTooMany K) [.ref a] H (.bl (decide (500 < many L))) := fun H1 e Q k _ => ⟨a, L, rfl, h.ex e, hq, k⟩
theorem sv_check (h : NumAt K H a L) (g : Good L) : SpV (spCheck K) [.ref a] H .non := fun H1 e Q k _ => ⟨a, L, rfl, h.ex e, g, k⟩
theorem sf_with {fs : List Int} {p k : Int} (h : SqL K H a (fs.map V.int)) (hp : 0 < p ∧ p ≤ 1024) (hk : 0 ≤ k ∧ k ≤ 1000) (hl : fs.length * (k.toNat + 1) ≤ 1000) (hb : ∀ d ∈ fs, d.natAbs < 2 ^ 5000) :
    SpF (spWith K) [.ref a, .int p, .int k] H (fun p' H2 => H2 p' = some (.lst ((widen fs p (k.toNat + 1)).map V.int))) := fun H1 e Q q _ => ⟨a, fs, p, k, rfl, ex_l e h, hp, hk, hl, hb, q⟩
theorem sf_divisors (h : NumAt K H a L) (g : Good L) : SpF (spDivisors K) [.ref a] H (fun p H2 => H2 p = some (.lst ((ds L).map V.int))) := fun H1 e Q k _ => ⟨a, L, rfl, h.ex e, g, k⟩
theorem sv_total (h : NumAt K H a L) (g : Good L) : SpV (spTotal K) [.ref a] H (.int (tot L)) := fun H1 e Q k _ => ⟨a, L, rfl, h.ex e, g, k⟩
theorem sv_least (h : NumAt K H a L) (g : Good L) : SpV (spLeast K) [.ref a] H (.int (lu 0 (ds L))) := fun H1 e Q k _ => ⟨a, L, rfl, h.ex e, g, k⟩
end
section
variable {K : PySem.W.Frag} {σ : L2.St} {H H' : Hp} {te : TE} {x y : V} {a t : Addr} {D : Ends} {tz : TS}
/-- a, b = a pair -/
theorem q_unpack2 {i j : Nat} (h : Ev te σ H (.ref t)) (ht : SqT K H t [x, y]) (k : ∀ H1, Ex H H1 → tz D ((σ.set i (some x)).set j (some y)) H1) : tSeq (tAsg te (gTup K 2 (gCons (gName i) (gCons (gName j) gNil)))) tz D σ H :=
  h H (Ex.refl H) _ fun H1 e => ⟨t, _, rfl, ex_t e ht, rfl, x, _, rfl, y, [], rfl, rfl, k H1 e⟩
theorem g_pair {i j : Nat} {v : V} {Q : L2.St → Hp → Prop} (e : v = .ref t) (ht : SqT K H t [x, y]) (k : Q ((σ.set i (some x)).set j (some y)) H) : gTup K 2 (gCons (gName i) (gCons (gName j) gNil)) v σ H Q :=
  ⟨t, _, e, ht, rfl, x, _, rfl, y, [], rfl, rfl, k⟩
theorem map_get {ns : List Int} {i : Nat} {v : V} (h : (ns.map V.int)[i]? = some v) : ∃ d, ns[i]? = some d ∧ v = .int d := by
  rw [List.getElem?_map] at h
  obtain ⟨d, hd, e⟩ := Option.map_eq_some_iff.mp h
  exact ⟨d, hd, e.symm⟩
theorem rc_lenT {xs : List V} (h : SqT K H a xs) : RC (fun vs H Q => ∃ p ys, vs = [.ref p] ∧ (SqL K H p ys ∨ SqT K H p ys) ∧ Q (.int ys.length) H) [.ref a] H (.int (xs.length : Int)) := fun H1 e Q q => ⟨a, xs, rfl, .inr (ex_t e h), q H1 (Ex.refl H1)⟩
theorem drop_at {α : Type} {L : List α} {i : Nat} {q : α} (h : L[i]? = some q) : L.drop i = q :: L.drop (i + 1) := by
  obtain ⟨hi, e⟩ := List.getElem?_eq_some_iff.mp h
  rw [← e]
  exact List.drop_eq_getElem_cons hi
theorem at0 {α : Type} {x y : α} : atI [x, y] 0 = some x := atI_nat (j := 0) rfl
theorem at1 {α : Type} {x y : α} : atI [x, y] 1 = some y := atI_nat (j := 1) rfl
theorem toV {v v' : V} {Q : VK} (k : RetV v H Q) (e : Ex H H') (h : v' = v) : Q v' H' := h ▸ k H' e
end
end Es
set_option maxHeartbeats 2000000
namespace Es
open PySem PySem.Spec PyProof.Rows L2 Evl
def Small (B : Nat) (c : Int) : Prop := c.natAbs < 2 ^ B
theorem Small.mono {B B' : Nat} {c : Int} (h : Small B c) (hb : B ≤ B') : Small B' c := Nat.lt_of_lt_of_le h (Nat.pow_le_pow_right (by decide) hb)
theorem Small.add {B : Nat} {c d : Int} (h : Small B c) (h' : Small B d) : Small (B + 1) (c + d) := by
  have h1 : c.natAbs < 2 ^ B := h
  have h2 : d.natAbs < 2 ^ B := h'
  show (c + d).natAbs < 2 ^ (B + 1)
  rw [Nat.pow_succ]
  omega
theorem Small.mul {B B' : Nat} {c d : Int} (h : Small B c) (h' : Small B' d) : Small (B + B') (c * d) := wide_lt h h'
theorem small_le {c : Int} {B : Nat} (n : Nat) (h : c.natAbs ≤ n) (hn : n < 2 ^ 140) (hB : 140 ≤ B) : Small B c := (show Small 140 c from Nat.lt_of_le_of_lt h hn).mono hB
theorem rv_eqi {i j : Int} {H : Hp} : RV rEq (.int i) (.int j) H (.bl (decide (i = j))) := fun H1 _ Q q => ⟨rfl, by rw [dec_int, Bool.beq_eq_decide_eq]; exact q H1 (Ex.refl H1)⟩
theorem rv_nei {i j : Int} {H : Hp} : RV rNe (.int i) (.int j) H (.bl (!decide (i = j))) := fun H1 _ Q q => ⟨rfl, by rw [dec_int, Bool.beq_eq_decide_eq]; exact q H1 (Ex.refl H1)⟩
theorem rv_eqb {i j : Bool} {H : Hp} : RV rEq (.bl i) (.bl j) H (.bl (decide (i = j))) := fun H1 _ Q q => ⟨rfl, by rw [dec_bl, Bool.beq_eq_decide_eq]; exact q H1 (Ex.refl H1)⟩
theorem rv_neb {i j : Bool} {H : Hp} : RV rNe (.bl i) (.bl j) H (.bl (!decide (i = j))) := fun H1 _ Q q => ⟨rfl, by rw [dec_bl, Bool.beq_eq_decide_eq]; exact q H1 (Ex.refl H1)⟩
/-! ### ints drawn: told by what holds of them -/
def EvE (te : TE) (σ : L2.St) (H : Hp) (P : Int → Prop) : Prop := ∀ H1, Ex H H1 → ∀ Q : VK, (∀ i H2, P i → Ex H1 H2 → Q (.int i) H2) → te σ H1 Q
def RetI (P : Int → Prop) (H : Hp) (Q : VK) : Prop := ∀ i H2, P i → Ex H H2 → Q (.int i) H2
def SpI (sp : Sp) (vs : List V) (H : Hp) (P : Int → Prop) : Prop := ∀ H1, Ex H H1 → ∀ Q : VK, (∀ i H2, P i → Ex H1 H2 → Q (.int i) H2) → ∀ E : XK, sp vs H1 Q E
section
variable {K : PySem.W.Frag} {σ : L2.St} {H H' : Hp} {ta tb te : TE} {t u : TT} {x y z v w : V} {a b l p : Addr} {L M : List (Int × Int)} {D : Ends} {tu tw tz : TS}
theorem eve_call {sp : Sp} {dvs vs : List V} {E : XK} {ta : TA} {P : Int → Prop} (h : EvA ta σ H vs) (hs : SpI sp (vs ++ dvs) H P) : EvE (tCall sp dvs E ta) σ H P := fun H1 e Q q =>
  h H1 e _ fun H2 e2 => hs H2 (e.trans e2) Q (fun i H3 hi e3 => q i H3 hi (e2.trans e3)) E
theorem q_asgE {i : Nat} {P : Int → Prop} (h : EvE te σ H P) (k : ∀ n H1, P n → Ex H H1 → tz D (σ.set i (some (.int n))) H1) : tSeq (tAsg te (gName i)) tz D σ H := h H (Ex.refl H) _ fun n H1 hp e => k n H1 hp e
theorem s_asgE {i : Nat} {P : Int → Prop} (h : EvE te σ H P) (k : ∀ n H1, P n → Ex H H1 → D.nx (σ.set i (some (.int n))) H1) : tAsg te (gName i) D σ H := h H (Ex.refl H) _ fun n H1 hp e => k n H1 hp e
/-! ### two names at once -/
theorem q_par {i j : Nat} {ta : TA} (h : EvA ta σ H [v, w]) (k : ∀ H1, Ex H H1 → tz D ((σ.set i (some v)).set j (some w)) H1) : tSeq (tPar i j ta) tz D σ H := h H (Ex.refl H) _ fun H1 e => ⟨v, w, rfl, k H1 e⟩
theorem q_parFF {i j : Nat} {P P' : Addr → Hp → Prop} (ha : EvF ta σ H P) (hm : Mono P) (hb : EvF tb σ H P') (k : ∀ p q H1, H p = none → H q = none → p ≠ q → P p H1 → P' q H1 → Ex H H1 → tz D ((σ.set i (some (.ref p))).set j (some (.ref q))) H1) (hs : ∀ p H1, P p H1 → H1 p ≠ none) :
    tSeq (tPar i j (tCons ta (tCons tb tNil))) tz D σ H := ha H (Ex.refl H) _ fun p H1 np e1 hp => hb H1 e1 _ fun q H2 nq e2 hq =>
  ⟨_, _, rfl, k p q H2 np (fresh_back e1 nq) (fun z => hs p H1 hp (z ▸ nq)) (hm p _ _ e2 hp) hq (e1.trans e2)⟩
theorem q_parFV {i j : Nat} {P : Addr → Hp → Prop} (ha : EvF ta σ H P) (hm : Mono P) (hb : Ev tb σ H w) (k : ∀ p H1, H p = none → P p H1 → Ex H H1 → tz D ((σ.set i (some (.ref p))).set j (some w)) H1) :
    tSeq (tPar i j (tCons ta (tCons tb tNil))) tz D σ H := ha H (Ex.refl H) _ fun p H1 np e1 hp => hb H1 e1 _ fun H2 e2 => ⟨_, _, rfl, k p H2 np (hm p _ _ e2 hp) (e1.trans e2)⟩
/-- a value assigned, told by what holds of it -/
theorem q_asgP {i : Nat} {P : Int → Prop} {n : Int} (h : Ev te σ H (.int n)) (hp : P n) (k : ∀ n H1, P n → Ex H H1 → tz D (σ.set i (some (.int n))) H1) : tSeq (tAsg te (gName i)) tz D σ H := h H (Ex.refl H) _ fun H1 e => k n H1 hp e
theorem q_new4 {i1 i2 i3 i4 : Nat} {n2 n3 n4 : V} (k : ∀ l H1, H l = none → Ex H H1 → H1 l = some (.lst []) → tz D ((((σ.set i1 (some (.ref l))).set i2 (some n2)).set i3 (some n3)).set i4 (some n4)) H1) :
    tSeq (tAsg (tTup (tCons (tLst tNil) (tCons (tC n2) (tCons (tC n3) (tCons (tC n4) tNil))))) (gTup K 4 (gCons (gName i1) (gCons (gName i2) (gCons (gName i3) (gCons (gName i4) gNil)))))) tz D σ H :=
  ⟨Nat.zero_le _, fun l nl => ⟨by show 4 ≤ sizeLine; decide, fun p np => ⟨p, _, rfl, .inl (.inl upd_same), rfl, _, _, rfl, _, _, rfl, _, _, rfl, _, [], rfl, rfl, k l _ nl ((Ex.new nl).trans (Ex.new np)) (Ex.new np _ _ upd_same)⟩⟩⟩
def twenty (b : Bool) : Int := if b then 20 else 0
theorem ev_twenty {b : Bool} (h : EvT t σ H b) : Ev (tIf t (tC (.int 20)) (tC (.int 0))) σ H (.int (twenty b)) := ev_if h (fun e => by subst e; exact ev_c) (fun e => by subst e; exact ev_c)
/-! ### methods of lists that change them -/
theorem s_extL {xs ys : List V} (hl : H l = some (.lst xs)) (ha : Ev ta σ H (.ref l)) (h : EvL te σ H ys) (hz : xs.length + ys.length ≤ 100000) (k : ∀ H1, Ex H H1 → D.nx σ (upd H1 l (.lst (xs ++ ys)))) :
    tDrop (tBM K "list" rExtend ta (tCons te tNil)) D σ H := ha H (Ex.refl H) _ fun H1 e1 =>
  ⟨Or.inl ⟨rfl, xs, sq_of (e1 l _ hl)⟩, h H1 e1 _ fun p H2 np e2 h2 => ⟨l, p, xs, ys, rfl, rfl, e2 l _ (e1 l _ hl), h2, sz_of hz, k H2 (e1.trans e2)⟩⟩
theorem s_pop {xs : List V} (hl : H l = some (.lst xs)) (ha : Ev ta σ H (.ref l)) (hy : xs[xs.length - 1]? = some y) (k : ∀ H1, Ex H H1 → D.nx σ (upd H1 l (.lst xs.dropLast))) :
    tDrop (tBM0 K "list" rPop ta) D σ H := ha H (Ex.refl H) _ fun H1 e1 => ⟨Or.inl ⟨rfl, xs, sq_of (e1 l _ hl)⟩, l, xs, y, rfl, rfl, e1 l _ hl, hy, k H1 e1⟩
theorem sqt_upd {o : HO} {xs ys : List V} (h : SqT K H a xs) (hl : H l = some (.lst ys)) : SqT K (upd H l o) a xs := by
  rcases h with (h | ⟨ob, h⟩) | h
  · exact .inl (.inl (by rw [upd_ne (ne_of h hl (by intro z; cases z))]; exact h))
  · by_cases e : a = l
    · subst e
      rw [h] at hl
      cases hl
    · exact .inl (.inr ⟨ob, by rw [upd_ne e]; exact h⟩)
  · exact .inr h
theorem prs_upd {o : HO} {xs ys : List V} (h : PrsAt K H xs L) (hl : H l = some (.lst ys)) : PrsAt K (upd H l o) xs L := Paired.mapP h fun _ _ ⟨t, e, ht⟩ => ⟨t, e, sqt_upd ht hl⟩
/-! ### comprehensions over a new list -/
theorem el_lcNM {α : Type} {tl : TE} {j : Nat} {vs : List Nat} (as : List α) (g : α → V) (f : α → Bool) (v : α → V) (h : EvL tl σ H (as.map g)) (hz : as.length ≤ 40000)
    (hw : ∀ x, wipe ((wipe σ vs).set j (some x)) vs = wipe σ vs)
    (ht : ∀ (b : α) H1, Ex H H1 → b ∈ as → EvT t ((wipe σ vs).set j (some (g b))) H1 (f b)) (he : ∀ (b : α) H1, Ex H H1 → b ∈ as → f b = true → Ev te ((wipe σ vs).set j (some (g b))) H1 (v b)) :
    EvL (tLc (iList K tl) (gName j) t te vs) σ H ((as.filter f).map v) := by
  cases as with
  | nil => exact el_lcNL (fun _ => false) (fun _ => .non) h (by simp) hw (fun i x H1 _ hi => by simp at hi) (fun i x H1 _ hi => by simp at hi)
  | cons d r =>
    have at_ : ∀ (i : Nat) (x : V), ((d :: r).map g)[i]? = some x → (d :: r).getD i d ∈ (d :: r) ∧ x = g ((d :: r).getD i d) := fun i x hi => by
      rw [List.getElem?_map] at hi
      obtain ⟨b, hb, e⟩ := Option.map_eq_some_iff.mp hi
      have e2 : (d :: r).getD i d = b := by rw [List.getD_eq_getElem?_getD, hb]; rfl
      rw [e2]
      exact ⟨List.mem_of_getElem? hb, e.symm⟩
    have q := el_lcNL (K := K) (tl := tl) (j := j) (vs := vs) (σ := σ) (H := H) (t := t) (te := te) (xs := (d :: r).map g) (fun i => f ((d :: r).getD i d)) (fun i => v ((d :: r).getD i d)) h (by rw [List.length_map]; exact hz) hw
      (fun i x H1 e hi => by obtain ⟨m, rfl⟩ := at_ i x hi; exact ht _ H1 e m) (fun i x H1 e hi hf => by obtain ⟨m, rfl⟩ := at_ i x hi; exact he _ H1 e m hf)
    rw [List.length_map, given_map f v d (d :: r)] at q
    exact q
theorem given_bl (n : Nat) (f : Nat → Bool) (b : Nat → Bool) : given n f (fun i => V.bl (b i)) = (((List.range n).filter f).map b).map V.bl := by
  unfold given
  rw [List.map_map]
  rfl
theorem map_bl {α : Type} (as : List α) (b : α → Bool) : as.map (fun i => V.bl (b i)) = (as.map b).map V.bl := by
  rw [List.map_map]
  rfl
theorem map_int {α : Type} (as : List α) (b : α → Int) : as.map (fun i => V.int (b i)) = (as.map b).map V.int := by
  rw [List.map_map]
  rfl
theorem et_yes : EvT tYes σ H true := fun H1 _ Q q => q H1 (Ex.refl H1)
theorem filter_yes {α : Type} (as : List α) : as.filter (fun _ => true) = as := by simp
theorem el_lcR2b {ta : TA} {j : Nat} {vs : List Nat} {lo hi : Int} (f : Nat → Bool) (b : Nat → Bool) (h : EvA ta σ H [.int lo, .int hi]) (hn : -40000 ≤ lo ∧ lo ≤ 40000 ∧ -40000 ≤ hi ∧ hi ≤ 9000) (hw : ∀ x, wipe ((wipe σ vs).set j (some x)) vs = wipe σ vs)
    (ht : ∀ (i : Nat) H1, Ex H H1 → i < (hi - lo).toNat → EvT t ((wipe σ vs).set j (some (.int (lo + (i : Int))))) H1 (f i)) (he : ∀ (i : Nat) H1, Ex H H1 → i < (hi - lo).toNat → f i = true → Ev te ((wipe σ vs).set j (some (.int (lo + (i : Int))))) H1 (.bl (b i))) :
    EvL (tLc (iRng2 ta) (gName j) t te vs) σ H ((((List.range (hi - lo).toNat).filter f).map b).map V.bl) := by
  rw [← given_bl]
  exact el_lcR2 f (fun i => .bl (b i)) h hn hw ht he
/-- a comprehension without a test -/
theorem el_lcA {α : Type} {tl : TE} {j : Nat} {vs : List Nat} (as : List α) (g : α → V) (v : α → V) (h : Ev tl σ H (.ref a)) (hx : SqL K H a (as.map g)) (hz : as.length ≤ 40000)
    (hw : ∀ x, wipe ((wipe σ vs).set j (some x)) vs = wipe σ vs) (he : ∀ (b : α) H1, Ex H H1 → b ∈ as → Ev te ((wipe σ vs).set j (some (g b))) H1 (v b)) :
    EvL (tLc (iList K tl) (gName j) tYes te vs) σ H (as.map v) := by
  have q := el_lcM (K := K) as g (fun _ => true) v h hx hz hw (fun b H1 _ _ => et_yes) (fun b H1 e m _ => he b H1 e m)
  rw [filter_yes] at q
  exact q
theorem el_lcNA {α : Type} {tl : TE} {j : Nat} {vs : List Nat} (as : List α) (g : α → V) (v : α → V) (h : EvL tl σ H (as.map g)) (hz : as.length ≤ 40000)
    (hw : ∀ x, wipe ((wipe σ vs).set j (some x)) vs = wipe σ vs) (he : ∀ (b : α) H1, Ex H H1 → b ∈ as → Ev te ((wipe σ vs).set j (some (g b))) H1 (v b)) :
    EvL (tLc (iList K tl) (gName j) tYes te vs) σ H (as.map v) := by
  have q := el_lcNM (K := K) as g (fun _ => true) v h hz hw (fun b H1 _ _ => et_yes) (fun b H1 e m _ => he b H1 e m)
  rw [filter_yes] at q
  exact q
theorem atI_int {ns : List Int} {j : Int} (h0 : 0 ≤ j) (h1 : j < ns.length) : atI (ns.map V.int) j = some (.int (ns.getD j.toNat 0)) := by
  obtain ⟨n, rfl⟩ := Int.eq_ofNat_of_zero_le h0
  refine atI_nat ?_
  have hn : n < ns.length := by omega
  rw [List.getElem?_map, List.getElem?_eq_getElem hn, Int.toNat_natCast, List.getD_eq_getElem?_getD, List.getElem?_eq_getElem hn]
  rfl
theorem rc_max2 {i j : Int} : RC (fun xs H Q => ∃ i j, xs = [.int i, .int j] ∧ Q (.int (if j > i then j else i)) H) [.int i, .int j] H (.int (if j > i then j else i)) := fun H1 _ Q q => ⟨i, j, rfl, q H1 (Ex.refl H1)⟩
theorem rc_min2 {i j : Int} : RC (fun xs H Q => ∃ i j, xs = [.int i, .int j] ∧ Q (.int (if j < i then j else i)) H) [.int i, .int j] H (.int (if j < i then j else i)) := fun H1 _ Q q => ⟨i, j, rfl, q H1 (Ex.refl H1)⟩
/-- make by an own __init__ -/
theorem ef_make {C : Addr} {sp : Sp} {E : XK} {ta : TA} {vs : List V} {P : Addr → Hp → Prop} (h : EvA ta σ H vs)
    (hs : ∀ x dx H1, H1 x = none → H1 dx = none → dx ≠ x → Ex H H1 → ∀ Q : VK, (∀ H2, Ex H1 H2 → P x H2 → Q (.ref x) H2) → sp (.ref x :: (vs ++ [])) (upd (upd H1 dx (.own x)) x (.ins C dx [])) (fun v H2 => v = .non ∧ Q (.ref x) H2) E) :
    EvF (tMake C sp [] E ta) σ H P := fun H1 e Q q => h H1 e _ fun H2 e2 x dx hx hd ne => hs x dx H2 hx hd ne (e.trans e2) Q fun H3 e3 hp => q x H3 (fresh_back e2 hx) (e2.trans e3) hp
end
/-! ### the answers -/
def fA : Option Int → List (Str × V)
  | none => []
  | some a => [("amount", .int a)]
def cA (cAll cBar : Addr) : Option Int → Addr
  | none => cAll
  | some _ => cBar
def IsAns (cAll cBar : Addr) (ans : Option Int) (p : Addr) (H : Hp) : Prop := ∃ dx, H p = some (.ins (cA cAll cBar ans) dx (fA ans))
def showsB (ans : Option Int) (L : List (Int × Int)) : Bool := match ans with
  | none => isAll L
  | some a => bars (ds L) a
theorem mono_ans {cAll cBar : Addr} {ans : Option Int} : Mono (IsAns cAll cBar ans) := fun _ _ _ e ⟨dx, h⟩ => ⟨dx, e _ _ h⟩
section
variable (K : PySem.W.Frag)
def spShowsAll : Sp := fun vs H Q _ => ∃ x a L, vs = [.ref x, .ref a] ∧ NumAt K H a L ∧ Good L ∧ RetV (.bl (isAll L)) H Q
def spShowsBar (cBar : Addr) : Sp := fun vs H Q _ => ∃ x dx m a L, vs = [.ref x, .ref a] ∧ H x = some (.ins cBar dx (fA (some m))) ∧ NumAt K H a L ∧ Good L ∧ RetV (.bl (bars (ds L) m)) H Q
def spInitBar (cBar : Addr) : Sp := fun vs H Q _ => ∃ x dx m, vs = [.ref x, .int m] ∧ H x = some (.ins cBar dx []) ∧ ∀ H1, Ex (upd H x (.ins cBar dx (fA (some m)))) H1 → Q .non H1
def cellV (ns : List Int) (k : Int) : Int := ns.getD k.toNat 0
def spCellAt : Sp := fun vs H Q _ => ∃ a ns k, vs = [.ref a, .int k] ∧ SqL K H a (ns.map V.int) ∧ 0 ≤ k ∧ RetV (.int (cellV ns k)) H Q
def drawPs : List Int := [1000003, 1000033, 1000037, 1000039, 1000081, 1000099, 1000117, 1000121, 1000133, 1000151, 1000159, 1000171, 1000183, 1000187, 1000193, 1000199]
def drawV (c k m : Int) : Int := (c * 48271 + k * 69621) % (drawPs.getD (k % 16).toNat 0) % m
def spDraw : Sp := fun vs H Q _ => ∃ c k m : Int, vs = [.int c, .int k, .int m] ∧ Small 3000000 c ∧ (0 ≤ k ∧ k ≤ 1000) ∧ 0 < m ∧ RetV (.int (drawV c k m)) H Q
def valDs : List Int := [1, 7, 49, 343]
def valueV (c k lim : Int) : Int := if 10 ^ 18 ≤ c then (c - 10 ^ 18) / (valDs.getD (k % 4).toNat 0) % 10 ^ 40 else drawV ((c + 977 * k) * (c + 31 * k + 5)) (k % 9 + 1) lim
def spValue : Sp := fun vs H Q _ => ∃ c k lim : Int, vs = [.int c, .int k, .int lim] ∧ Small 1048577 c ∧ (0 ≤ k ∧ k ≤ 1000) ∧ 0 < lim ∧ RetV (.int (valueV c k lim)) H Q
def partedB (n : Int) : Bool := (((List.range 30).filter fun (i : Nat) => decide ((2 : Int) + (i : Int) < n)).map fun (i : Nat) => decide (n % ((2 : Int) + (i : Int)) = 0)).any id
def badB (n : Int) : Bool := decide (n < 2) || partedB n
def spPrime : Sp := fun vs H Q _ => ∃ n : Int, vs = [.int n] ∧ n ≤ 1301 ∧ RetI (fun r => n ≤ r ∧ r ≤ 1301 ∧ badB r = false) H Q
structure GoodM (most : Int) (L : List (Int × Int)) : Prop where
  good : Good L
  most : many L ≤ most
def NewG (most : Int) (p : Addr) (H : Hp) : Prop := ∃ L, GoodM most L ∧ NewN K L p H
def spNumber : Sp := fun vs H Q _ => ∃ (a : Addr) (ns : List Int) (k most : Int), vs = [.ref a, .int k, .int most] ∧ SqL K H a (ns.map V.int) ∧ (∀ z ∈ ns, Small 1048577 z) ∧ (0 ≤ k ∧ k ≤ 200) ∧ (1 ≤ most ∧ most ≤ 500) ∧ RetF (NewG K most) H Q
def powsV (p : Int) (k : Nat) : List Int := (List.range k).map fun j => p ^ j
def spPowers : Sp := fun vs H Q _ => ∃ p k : Int, vs = [.int p, .int k] ∧ (0 < p ∧ p ≤ 1024) ∧ (0 ≤ k ∧ k ≤ 1000) ∧ RetF (fun q H2 => H2 q = some (.lst ((powsV p (k.toNat + 1)).map V.int))) H Q
def spIsAll : Sp := fun vs H Q _ => ∃ a l, vs = [.ref a] ∧ SqL K H a (l.map V.int) ∧ RetV (.bl (allI 0 l)) H Q
def spBars : Sp := fun vs H Q _ => ∃ a l m, vs = [.ref a, .int m] ∧ SqL K H a (l.map V.int) ∧ (∀ d ∈ l, 0 < d) ∧ l.length ≤ 1000 ∧ RetV (.bl (bars l m)) H Q
def spSays : Sp := fun vs H Q _ => ∃ b c : Bool, vs = [.bl b, .bl c] ∧ RetV (.bl (decide (b = c))) H Q
end
section
variable {K : PySem.W.Frag} {H : Hp} {a x : Addr} {L : List (Int × Int)} {cAll cBar : Addr}
theorem sv_shows {sp : Sp} {ans : Option Int} {dx : Addr} (hsp : sp = (match ans with | none => spShowsAll K | some _ => spShowsBar K cBar)) (ho : H x = some (.ins (cA cAll cBar ans) dx (fA ans))) (h : NumAt K H a L) (g : Good L) : SpV sp [.ref x, .ref a] H (.bl (showsB ans L)) := by
  subst hsp
  intro H1 e Q q E
  cases ans with
  | none => exact ⟨x, a, L, rfl, h.ex e, g, q⟩
  | some m => exact ⟨x, dx, m, a, L, rfl, e _ _ ho, h.ex e, g, q⟩
theorem sv_showsAll (h : NumAt K H a L) (g : Good L) : SpV (spShowsAll K) [.ref x, .ref a] H (.bl (isAll L)) := fun H1 e Q q E => ⟨x, a, L, rfl, h.ex e, g, q⟩
theorem sv_showsBar {dx : Addr} {m : Int} (ho : H x = some (.ins cBar dx (fA (some m)))) (h : NumAt K H a L) (g : Good L) : SpV (spShowsBar K cBar) [.ref x, .ref a] H (.bl (bars (ds L) m)) := fun H1 e Q q E => ⟨x, dx, m, a, L, rfl, e _ _ ho, h.ex e, g, q⟩
theorem ef_bar {σ : L2.St} {ta : TA} {E : XK} {m : Int} (h : EvA ta σ H [.int m]) : EvF (tMake cBar (spInitBar cBar) [] E ta) σ H (fun p H2 => ∃ dx, H2 p = some (.ins cBar dx (fA (some m)))) :=
  ef_make h fun x dx H1 hx hd ne e Q q => ⟨x, dx, m, rfl, upd_same, fun H3 e3 => by
    rw [upd_upd] at e3
    exact ⟨rfl, q H3 ((Ex.new hd).trans ((Ex.new (by rw [upd_ne ne.symm]; exact hx)).trans e3)) ⟨dx, e3 _ _ upd_same⟩⟩⟩
theorem sv_cell {ns : List Int} {k : Int} (h : SqL K H a (ns.map V.int)) (hk : 0 ≤ k) : SpV (spCellAt K) [.ref a, .int k] H (.int (cellV ns k)) := fun H1 e Q q _ => ⟨a, ns, k, rfl, ex_l e h, hk, q⟩
theorem sv_draw {c k m : Int} (hc : Small 3000000 c) (hk : 0 ≤ k ∧ k ≤ 1000) (hm : 0 < m) : SpV spDraw [.int c, .int k, .int m] H (.int (drawV c k m)) := fun H1 e Q q _ => ⟨c, k, m, rfl, hc, hk, hm, q⟩
theorem sv_value {c k m : Int} (hc : Small 1048577 c) (hk : 0 ≤ k ∧ k ≤ 1000) (hm : 0 < m) : SpV spValue [.int c, .int k, .int m] H (.int (valueV c k m)) := fun H1 e Q q _ => ⟨c, k, m, rfl, hc, hk, hm, q⟩
theorem si_prime {n : Int} (hn : n ≤ 1301) : SpI spPrime [.int n] H (fun r => n ≤ r ∧ r ≤ 1301 ∧ badB r = false) := fun H1 e Q q _ => ⟨n, rfl, hn, q⟩
theorem sf_number {ns : List Int} {k most : Int} (h : SqL K H a (ns.map V.int)) (hb : ∀ z ∈ ns, Small 1048577 z) (hk : 0 ≤ k ∧ k ≤ 200) (hm : 1 ≤ most ∧ most ≤ 500) : SpF (spNumber K) [.ref a, .int k, .int most] H (NewG K most) := fun H1 e Q q _ => ⟨a, ns, k, most, rfl, ex_l e h, hb, hk, hm, q⟩
theorem sf_powers {p k : Int} (hp : 0 < p ∧ p ≤ 1024) (hk : 0 ≤ k ∧ k ≤ 1000) : SpF spPowers [.int p, .int k] H (fun q H2 => H2 q = some (.lst ((powsV p (k.toNat + 1)).map V.int))) := fun H1 e Q q _ => ⟨p, k, rfl, hp, hk, q⟩
theorem sv_isAll {l : List Int} (h : SqL K H a (l.map V.int)) : SpV (spIsAll K) [.ref a] H (.bl (allI 0 l)) := fun H1 e Q q _ => ⟨a, l, rfl, ex_l e h, q⟩
theorem sv_bars {l : List Int} {m : Int} (h : SqL K H a (l.map V.int)) (hp : ∀ d ∈ l, 0 < d) (hl : l.length ≤ 1000) : SpV (spBars K) [.ref a, .int m] H (.bl (bars l m)) := fun H1 e Q q _ => ⟨a, l, m, rfl, ex_l e h, hp, hl, q⟩
theorem sv_says {b c : Bool} : SpV spSays [.bl b, .bl c] H (.bl (decide (b = c))) := fun H1 e Q q _ => ⟨b, c, rfl, q⟩
theorem mono_newG {most : Int} : Mono (NewG K most) := fun p H H' e ⟨L, g, h⟩ => ⟨L, g, mono_newN p H H' e h⟩
end
theorem cellV_out {ns : List Int} {k : Int} (hk : 0 ≤ k) (h : ¬ k < ns.length) : cellV ns k = 0 := by
  unfold cellV
  rw [List.getD_eq_getElem?_getD, List.getElem?_eq_none (by omega)]
  rfl
theorem cellV_small {ns : List Int} {B : Nat} (k : Int) (h : ∀ z ∈ ns, Small B z) : Small B (cellV ns k) := by
  unfold cellV
  rw [List.getD_eq_getElem?_getD]
  cases e : ns[k.toNat]? with
  | none => exact Nat.two_pow_pos B
  | some z => exact h z (List.mem_of_getElem? e)
theorem drawPs_at {k : Int} : 0 ≤ k % 16 ∧ k % 16 < (drawPs.length : Int) ∧ 0 < drawPs.getD (k % 16).toNat 0 := by
  have h0 := Int.emod_nonneg k (show (16 : Int) ≠ 0 by decide)
  have h1 := Int.emod_lt_of_pos k (show (0 : Int) < 16 by decide)
  refine ⟨h0, h1, ?_⟩
  have key : ∀ j : Nat, j < 16 → 0 < drawPs.getD j 0 := by decide
  exact key _ (by omega)
theorem valDs_at {k : Int} : 0 ≤ k % 4 ∧ k % 4 < (valDs.length : Int) ∧ 0 < valDs.getD (k % 4).toNat 0 ∧ valDs.getD (k % 4).toNat 0 ≤ 343 := by
  have h0 := Int.emod_nonneg k (show (4 : Int) ≠ 0 by decide)
  have h1 := Int.emod_lt_of_pos k (show (0 : Int) < 4 by decide)
  have key : ∀ j : Nat, j < 4 → 0 < valDs.getD j 0 ∧ valDs.getD j 0 ≤ 343 := by decide
  have := key (k % 4).toNat (by omega)
  exact ⟨h0, h1, this.1, this.2⟩
theorem drawV_in {c k m : Int} (hm : 0 < m) : 0 ≤ drawV c k m ∧ drawV c k m < m := ⟨Int.emod_nonneg _ (by omega), Int.emod_lt_of_pos _ hm⟩
theorem valueV_in {c k m : Int} (hm : 0 < m) (hm2 : m ≤ 10 ^ 40) : 0 ≤ valueV c k m ∧ valueV c k m < 10 ^ 40 := by
  unfold valueV
  by_cases h : 10 ^ 18 ≤ c
  · rw [if_pos h]
    exact ⟨Int.emod_nonneg _ (by decide), Int.emod_lt_of_pos _ (by decide)⟩
  · rw [if_neg h]
    have := drawV_in (c := (c + 977 * k) * (c + 31 * k + 5)) (k := k % 9 + 1) hm
    omega
theorem bad_end : badB 1301 = false := by decide +kernel
theorem bad_prime {n : Int} (h : badB n = false) (h2 : n < 998) : primeB n = true := by
  unfold badB at h
  rw [Bool.or_eq_false_iff, decide_eq_false_iff_not] at h
  obtain ⟨h1, h3⟩ := h
  unfold primeB
  simp only [Bool.and_eq_true, List.all_eq_true, List.mem_range, decide_eq_true_eq]
  refine ⟨⟨by omega, by omega⟩, fun j hj => ?_⟩
  cases a : decide (((j : Int) + 2) * ((j : Int) + 2) ≤ n) with
  | false => rfl
  | true =>
    cases b : decide (n % ((j : Int) + 2) = 0) with
    | false => rfl
    | true =>
      exfalso
      have a' := of_decide_eq_true a
      have b' := of_decide_eq_true b
      have h5 : (2 : Int) * ((j : Int) + 2) ≤ ((j : Int) + 2) * ((j : Int) + 2) := Int.mul_le_mul_of_nonneg_right (by omega) (by omega)
      unfold partedB at h3
      have h4 := List.any_eq_false.mp h3 true (List.mem_map.mpr ⟨j, List.mem_filter.mpr ⟨List.mem_range.mpr hj, decide_eq_true (by omega)⟩, decide_eq_true (by rw [Int.add_comm]; exact b')⟩)
      exact h4 rfl
theorem powsV_succ (p : Int) (k : Nat) : powsV p (k + 1) = powsV p k ++ [p ^ k] := by
  unfold powsV
  rw [List.range_succ, List.map_append]
  rfl
theorem powsV_len (p : Int) (k : Nat) : (powsV p k).length = k := by
  unfold powsV
  rw [List.length_map, List.length_range]
theorem powsV_get {p d : Int} {k i : Nat} (h : (powsV p k)[i]? = some d) : d = p ^ i ∧ i < k := by
  unfold powsV at h
  rw [List.getElem?_map] at h
  obtain ⟨b, hb, e⟩ := Option.map_eq_some_iff.mp h
  obtain ⟨hi, e2⟩ := List.getElem?_eq_some_iff.mp hb
  rw [List.length_range] at hi
  rw [List.getElem_range] at e2
  subst e2
  exact ⟨e.symm, hi⟩
theorem pows_sum_small {p : Int} (hp : 0 < p) (hp2 : p ≤ 1024) : ∀ k : Nat, 0 ≤ (powsV p k).sum ∧ (powsV p k).sum ≤ 1024 ^ (k + 1)
  | 0 => ⟨by show (0 : Int) ≤ 0; decide, by show (0 : Int) ≤ 1024 ^ (0 + 1); decide⟩
  | k + 1 => by
    have ih := pows_sum_small hp hp2 k
    have h1 := pow_pos_i hp k
    have h2 := pow_le_1024 hp hp2 k
    have h3 : (1024 : Int) ^ (k + 1 + 1) = 1024 ^ (k + 1) * 1024 := Int.pow_succ ..
    have h4 : (1024 : Int) ^ k ≤ 1024 ^ (k + 1) := pow_mono (by omega)
    have h5 := pow_pos_i (show (0 : Int) < 1024 by decide) (k + 1)
    rw [powsV_succ, List.sum_append, List.sum_singleton]
    omega
/-- the step ranges of the laws -/
theorem step_ok (c n : Nat) (hc : c = 3 ∨ c = 5) (hn : n ≤ 63) : ∃ m : Nat, RgC 0 (n : Int) (1 + (n : Int) / (c : Int)) m ∧ ∀ i : Nat, i < m → 0 ≤ 0 + (i : Int) * (1 + (n : Int) / (c : Int)) ∧ 0 + (i : Int) * (1 + (n : Int) / (c : Int)) ≤ 63 := by
  have key : ∀ c : Nat, (c = 3 ∨ c = 5) → ∀ n : Nat, n < 64 → ((1 + (n : Int) / (c : Int)) ≠ 0 ∧ (1 + (n : Int) / (c : Int)).natAbs < 1073741824 ∧ Builtin.Range.small 0 (n : Int) (1 + (n : Int) / (c : Int)) = true ∧ Builtin.Range.rangeSize 0 (n : Int) (1 + (n : Int) / (c : Int)) = ((Builtin.Range.rangeSize 0 (n : Int) (1 + (n : Int) / (c : Int))).toNat : Int)) ∧
      ∀ i : Nat, i < (Builtin.Range.rangeSize 0 (n : Int) (1 + (n : Int) / (c : Int))).toNat → (0 + (i : Int) * (1 + (n : Int) / (c : Int))) ≤ 63 := by
    intro c hc
    rcases hc with rfl | rfl <;> decide +kernel
  obtain ⟨⟨h1, h2, h3, h4⟩, h5⟩ := key c hc n (by omega)
  refine ⟨_, ⟨h1, h2, h3, h4⟩, fun i hi => ⟨?_, h5 i hi⟩⟩
  have : 0 ≤ (i : Int) * (1 + (n : Int) / (c : Int)) := Int.mul_nonneg (by omega) (by have := Int.ediv_nonneg (show (0 : Int) ≤ n by omega) (show (0 : Int) ≤ c by omega); omega)
  omega
def tabA : List Int := [1, 2, 4, 40, 300, 3]
def tabB : List Int := [6, 3, 2, 2, 1, 2]
theorem tabs_at {k : Int} (h : 0 ≤ k ∧ k < 6) : (0 < tabA.getD k.toNat 0 ∧ tabA.getD k.toNat 0 ≤ 300) ∧ (0 < tabB.getD k.toNat 0 ∧ tabB.getD k.toNat 0 ≤ 6) := by
  have key : ∀ j : Nat, j < 6 → (0 < tabA.getD j 0 ∧ tabA.getD j 0 ≤ 300) ∧ (0 < tabB.getD j 0 ∧ tabB.getD j 0 ≤ 6) := by decide
  exact key _ (by omega)
theorem emod_in {x m B : Int} (h : 0 < m) (hB : m ≤ B) : 0 ≤ x % m ∧ x % m < B := ⟨Int.emod_nonneg _ (by omega), by have := Int.emod_lt_of_pos x h; omega⟩
theorem twenty_in (b : Bool) : 0 ≤ twenty b ∧ twenty b ≤ 20 := by cases b <;> decide
/-- what stands between the turns of the law's number -/
def NumInv (K : PySem.W.Frag) (H : Hp) (a : Addr) (k most kd : Int) (l : Addr) (i : Nat) (σ' : L2.St) (H' : Hp) : Prop := ∃ (L : List (Int × Int)) (xs : List V) (wh le : Int) (y8 y9 y10 y11 : Option V),
  σ' = [some (.ref a), some (.int k), some (.int most), some (.int kd), some (.ref l), some (.int (many L)), some (.int wh), some (.int le), y8, y9, y10, y11] ∧ Ex H H' ∧ H' l = some (.lst xs) ∧ PrsAt K H' xs L ∧ riseB 0 L = true ∧ (∀ z ∈ L, z.1 < le) ∧
  (2 ≤ le ∧ le ≤ 998) ∧ many L ≤ most ∧ L.length ≤ i ∧ Small (300 * (i + 1)) wh
theorem pows_small {p k : Int} (hp : 0 < p) (hp2 : p ≤ 1024) (hk : 0 ≤ k ∧ k ≤ 26) : Small 290 (powsV p (k.toNat + 1)).sum := by
  obtain ⟨h1, h2⟩ := pows_sum_small hp hp2 (k.toNat + 1)
  have h3 : (1024 : Int) ^ (k.toNat + 1 + 1) ≤ 1024 ^ 28 := pow_mono (by omega)
  show (powsV p (k.toNat + 1)).sum.natAbs < 2 ^ 290
  have e : (1024 : Int) ^ 28 = ((2 ^ 280 : Nat) : Int) := by decide +kernel
  have h4 : (2 : Nat) ^ 280 < 2 ^ 290 := by decide +kernel
  rw [e] at h3
  omega
end Es
set_option maxHeartbeats 2000000
namespace Es
open PySem PySem.Spec PyProof.Rows L2 Evl
section
variable {K : PySem.W.Frag} {σ : L2.St} {H H' : Hp} {ta tb tc td te : TE} {t u : TT} {x y z v w : V} {a b l p : Addr} {L M : List (Int × Int)} {D : Ends} {tu tw tz : TS}
theorem q_tupFV {i j : Nat} {P : Addr → Hp → Prop} (ha : EvF ta σ H P) (hm : Mono P) (hb : Ev tb σ H w) (k : ∀ p H1, H p = none → P p H1 → Ex H H1 → tz D ((σ.set i (some (.ref p))).set j (some w)) H1) :
    tSeq (tAsg (tTup (tCons ta (tCons tb tNil))) (gTup K 2 (gCons (gName i) (gCons (gName j) gNil)))) tz D σ H :=
  ha H (Ex.refl H) _ fun p H1 np e1 hp => hb H1 e1 _ fun H2 e2 => ⟨by show 2 ≤ sizeLine; decide, fun q nq => ⟨q, _, rfl, .inl (.inl upd_same), rfl, _, _, rfl, _, [], rfl, rfl, k p _ np (hm p _ _ (e2.trans (Ex.new nq)) hp) ((e1.trans e2).trans (Ex.new nq))⟩⟩
theorem el_cat {xs ys : List V} (ha : EvL ta σ H xs) (hb : EvL tb σ H ys) (hl : xs.length + ys.length ≤ 100000) : EvL (tOp rCat ta tb) σ H (xs ++ ys) := fun H1 e Q q =>
  ha H1 e _ fun p H2 np e2 hp => hb H2 (e.trans e2) _ fun r H3 nr e3 hr => ⟨p, r, xs, ys, rfl, rfl, e3 _ _ hp, hr, sz_of hl, fun s ns => q s _ (fresh_back (e2.trans e3) ns) ((e2.trans e3).trans (Ex.new ns)) upd_same⟩
theorem el_catV {xs ys : List V} (ha : Ev ta σ H (.ref a)) (h : H a = some (.lst xs)) (hb : EvL tb σ H ys) (hl : xs.length + ys.length ≤ 100000) : EvL (tOp rCat ta tb) σ H (xs ++ ys) := fun H1 e Q q =>
  ha H1 e _ fun H2 e2 => hb H2 (e.trans e2) _ fun r H3 nr e3 hr => ⟨a, r, xs, ys, rfl, rfl, ((e.trans e2).trans e3) _ _ h, hr, sz_of hl, fun s ns => q s _ (fresh_back (e2.trans e3) ns) ((e2.trans e3).trans (Ex.new ns)) upd_same⟩
theorem el_rg2 {i j : Int} (ha : Ev ta σ H (.int i)) (hb : Ev tb σ H (.int j)) (hij : RgOk i j) : EvL (tLstRg (tRg2 ta tb)) σ H (rgV i j) := fun H1 e Q q =>
  ha H1 e _ fun H2 e2 => hb H2 (e.trans e2) _ fun H3 e3 => ⟨i, j, rfl, rfl, hij, fun s ns => q s _ (fresh_back (e2.trans e3) ns) ((e2.trans e3).trans (Ex.new ns)) upd_same⟩
/-- lists that hold ints -/
def IntsL (n : Nat) (xs : List V) : Prop := ∃ am : List Int, xs = am.map V.int ∧ am.length ≤ n
theorem IntsL.app {n m : Nat} {xs ys : List V} (h : IntsL n xs) (h' : IntsL m ys) : IntsL (n + m) (xs ++ ys) := by
  obtain ⟨a, rfl, ha⟩ := h
  obtain ⟨b, rfl, hb⟩ := h'
  exact ⟨a ++ b, (List.map_append).symm, by rw [List.length_append]; omega⟩
theorem IntsL.len {n : Nat} {xs : List V} (h : IntsL n xs) : xs.length ≤ n := by
  obtain ⟨a, rfl, ha⟩ := h
  rw [List.length_map]
  exact ha
theorem intsL_map {α : Type} {n : Nat} (as : List α) (f : α → Int) (h : as.length ≤ n) : IntsL n (as.map fun b => V.int (f b)) := ⟨as.map f, map_int as f, by rw [List.length_map]; exact h⟩
def cutI (ns : List Int) (lo hi : Option Int) : List Int := (ns.drop (HT.sIx ns.length 0 lo)).take (HT.sIx ns.length ns.length hi - HT.sIx ns.length 0 lo)
theorem cutV_map (ns : List Int) (lo hi : Option Int) : cutV (ns.map V.int) lo hi = (cutI ns lo hi).map V.int := by
  unfold cutV cutI
  rw [List.length_map, ← List.map_drop, ← List.map_take]
theorem cutI_len (ns : List Int) (lo hi : Option Int) : (cutI ns lo hi).length ≤ ns.length := by
  unfold cutI
  rw [List.length_take, List.length_drop]
  omega
theorem cutI_mem {ns : List Int} {lo hi : Option Int} {z : Int} (h : z ∈ cutI ns lo hi) : z ∈ ns := List.mem_of_mem_drop (List.mem_of_mem_take h)
theorem el_slI {tl th : TO} {ns : List Int} {lo hi : Option Int} (h : Ev te σ H (.ref a)) (h1 : EvO tl σ H lo) (h2 : EvO th σ H hi) (hs : SqL K H a (ns.map V.int)) : EvL (tSl (rSlL K) te tl th) σ H ((cutI ns lo hi).map V.int) := by
  rw [← cutV_map]
  exact el_sl h h1 h2 hs
theorem intsL_given {n : Nat} (f : Nat → Bool) (v : Nat → Int) : IntsL n (given n f fun i => V.int (v i)) := by
  unfold given
  exact intsL_map _ v (by have := List.length_filter_le f (List.range n); rw [List.length_range] at this; exact this)
/-- written numbers -/
theorem ef_num0 : EvF (tLst tNil) σ H (NewN K []) := (ef_l (el_lst ea_nil (by decide))).imp fun p H2 _ h => ⟨[], h, .nil⟩
theorem ef_num1 {p e : Int} : EvF (tLst (tCons (tTup (tCons (tC (.int p)) (tCons (tC (.int e)) tNil))) tNil)) σ H (NewN K [(p, e)]) :=
  (ef_lstP (eap_f (ef_u (eu_tup (ea_cons ev_c (ea_cons ev_c ea_nil)) (show 2 ≤ 100000 by decide))) mono_obj eap_nil) (fun vs H1 H2 e ⟨p, r, h1, h2, h3⟩ => ⟨p, r, h1, e _ _ h2, h3⟩) (fun vs H1 ⟨p, r, h1, h2, h3⟩ => by rw [h1, h3]; show 1 ≤ 100000; decide)).imp fun q H2 _ ⟨vs, h, p, r, h1, h2, h3⟩ => by
    subst h3
    exact ⟨vs, h, by rw [h1]; exact .cons ⟨p, rfl, st_of h2⟩ .nil⟩
theorem ef_num2 {p e p' e' : Int} : EvF (tLst (tCons (tTup (tCons (tC (.int p)) (tCons (tC (.int e)) tNil))) (tCons (tTup (tCons (tC (.int p')) (tCons (tC (.int e')) tNil))) tNil))) σ H (NewN K [(p, e), (p', e')]) :=
  (ef_lstP (eap_f (ef_u (eu_tup (ea_cons ev_c (ea_cons ev_c ea_nil)) (show 2 ≤ 100000 by decide))) mono_obj (eap_f (ef_u (eu_tup (ea_cons ev_c (ea_cons ev_c ea_nil)) (show 2 ≤ 100000 by decide))) mono_obj eap_nil))
    (fun vs H1 H2 e ⟨p, r, h1, h2, q, s, h3, h4, h5⟩ => ⟨p, r, h1, e _ _ h2, q, s, h3, e _ _ h4, h5⟩) (fun vs H1 ⟨p, r, h1, h2, q, s, h3, h4, h5⟩ => by rw [h1, h3, h5]; show 2 ≤ 100000; decide)).imp fun q H2 _ ⟨vs, h, p, r, h1, h2, q', s, h3, h4, h5⟩ => by
    subst h5
    exact ⟨vs, h, by rw [h1, h3]; exact .cons ⟨p, rfl, st_of h2⟩ (.cons ⟨q', rfl, st_of h4⟩ .nil)⟩
/-- for over a range with a step -/
theorem q_forC {ta : TA} {j : Nat} {lo hi c : Int} {n : Nat} (h : EvA ta σ H [.int lo, .int hi, .int c]) (hn : RgC lo hi c n) (Pv : Nat → L2.St → Hp → Prop) (h0 : ∀ H1, Ex H H1 → Pv 0 σ H1)
    (hs : ∀ (i : Nat) σ' H', i < n → Pv i σ' H' → tu { D with nx := Pv (i + 1), ct := Pv (i + 1), bk := tz D } (σ'.set j (some (.int (lo + (i : Int) * c)))) H') (hd : ∀ σ' H', Pv n σ' H' → tz D σ' H') : tSeq (tFor (iRng3 ta) (gName j) tu) tz D σ H :=
  h H (Ex.refl H) _ fun H1 e => ⟨lo, hi, c, n, rfl, hn, for_rangeC (D := { D with nx := tz D }) Pv (h0 H1 e) (fun i σ' H' hi p => hs i σ' H' hi p) hd⟩
/-- shows of an answer just made -/
theorem ev_showsBar {cBar : Addr} {m : Int} {E E' : XK} {ta tb : TA} {P : List V → Hp → Prop} (h : EvA ta σ H [.int m]) (hv : EvAP tb σ H P) (hs : ∀ vs H1, P vs H1 → Ex H H1 → ∃ a, vs = [.ref a] ∧ NumAt K H1 a L) (g : Good L) :
    Ev (tMeth cBar "shows" (spShowsBar K cBar) [] E (tMake cBar (spInitBar cBar) [] E' ta) tb) σ H (.bl (bars (ds L) m)) :=
  ev_methF (ef_bar h) rfl hv fun p dx vs H1 ho hp e => by
    obtain ⟨a, rfl, hN⟩ := hs vs H1 hp e
    exact sv_showsBar ho hN g
theorem ev_showsAll {cAll : Addr} {E : XK} {tb : TA} {P : List V → Hp → Prop} (hv : EvAP tb σ H P) (hs : ∀ vs H1, P vs H1 → Ex H H1 → ∃ a, vs = [.ref a] ∧ NumAt K H1 a L) (g : Good L) :
    Ev (tMeth cAll "shows" (spShowsAll K) [] E (tMk0 cAll) tb) σ H (.bl (isAll L)) :=
  ev_methF ef_mk0 rfl hv fun p dx vs H1 ho hp e => by
    obtain ⟨a, rfl, hN⟩ := hs vs H1 hp e
    exact sv_showsAll hN g
/-- the one argument a number -/
theorem arg_v (h : NumAt K H a L) : ∀ vs H1, vs = [V.ref a] → Ex H H1 → ∃ b, vs = [.ref b] ∧ NumAt K H1 b L := fun vs H1 e1 e2 => ⟨a, e1, h.ex e2⟩
theorem arg_f : ∀ vs H1, (∃ p r, vs = V.ref p :: r ∧ NewN K L p H1 ∧ r = []) → Ex H H1 → ∃ b, vs = [.ref b] ∧ NumAt K H1 b L := fun vs H1 ⟨p, r, e1, h, e2⟩ _ => ⟨p, by rw [e1, e2], h.num⟩
end
theorem step3 {n : Nat} (hn : n ≤ 63) : ∃ m : Nat, RgC 0 (n : Int) (1 + (n : Int) / 3) m ∧ ∀ i : Nat, i < m → 0 ≤ 0 + (i : Int) * (1 + (n : Int) / 3) ∧ 0 + (i : Int) * (1 + (n : Int) / 3) ≤ 63 := step_ok 3 n (Or.inl rfl) hn
theorem step5 {n : Nat} (hn : n ≤ 63) : ∃ m : Nat, RgC 0 (n : Int) (1 + (n : Int) / 5) m ∧ ∀ i : Nat, i < m → 0 ≤ 0 + (i : Int) * (1 + (n : Int) / 5) ∧ 0 + (i : Int) * (1 + (n : Int) / 5) ≤ 63 := step_ok 5 n (Or.inr rfl) hn
def spLaw (K : PySem.W.Frag) : Sp := fun vs H Q _ => ∃ (a : Addr) (ns : List Int), vs = [.ref a] ∧ SqL K H a (ns.map V.int) ∧ ns.length ≤ 63 ∧ (∀ z ∈ ns, Small 1048577 z) ∧ ∀ H', Q (.bl true) H'
theorem small_bits {z : Int} (h : Builtin.Int.intBits z ≤ 1048576) : Small 1048577 z := by
  have h1 : z.natAbs < 2 ^ (z.natAbs.log2 + 1) := Nat.lt_log2_self
  have h2 : z.natAbs.log2 + 1 ≤ 1048577 := by
    unfold Builtin.Int.intBits at h
    split at h
    · rename_i e
      have e' : z = 0 := by simpa using e
      subst e'
      decide
    · omega
  exact Nat.lt_of_lt_of_le h1 (Nat.pow_le_pow_right (by decide) h2)
theorem goodOf {L : List (Int × Int)} (h1 : riseB 0 L = true) (h2 : many L ≤ 500) : Good L := ⟨h1, h2⟩
theorem g_ten : Good [(2, 1), (5, 1)] := ⟨by decide +kernel, by decide⟩
theorem g_28 : Good [(2, 2), (7, 1)] := ⟨by decide +kernel, by decide⟩
theorem g_3 : Good [(3, 1)] := ⟨by decide +kernel, by decide⟩
/-- the isinstance of own classes -/
structure InsOk (K : PySem.W.Frag) (C : Addr) : Prop where
  ha : PySem.W.findIn K (.ref C) "__class__" = some (some (.builtin "object.__class__"))
  hn : PySem.W.specialIn K (.builtin "object.__class__") "__get__" = some (some (.builtin "getset_descriptor.__get__"))
  htk : PySem.W.takesIn K (.builtin "object.__class__") = some true
  hm : PySem.W.mroIn K C (.type "object") = some true
end Es
set_option maxHeartbeats 2000000
namespace Es
open PySem PySem.Spec PyProof.Rows L2 Evl
/-! ### a number's worth: its greatest divisor -/
def worthI (L : List (Int × Int)) : Int := L.foldl (fun w q => w * q.1 ^ q.2.toNat) 1
theorem worth_snoc (L : List (Int × Int)) (q : Int × Int) : worthI (L ++ [q]) = worthI L * q.1 ^ q.2.toNat := by
  unfold worthI
  rw [List.foldl_append]
  rfl
theorem pow_mono_i {p : Int} (hp : 1 ≤ p) {a b : Nat} (h : a ≤ b) : p ^ a ≤ p ^ b := by
  obtain ⟨c, rfl⟩ := Nat.le.dest h
  rw [Int.pow_add]
  have h6 : (1 : Int) ≤ p ^ c := pow_pos_i (by omega) _
  have h7 := pow_pos_i (show (0 : Int) < p by omega) a
  calc p ^ a = p ^ a * 1 := (Int.mul_one _).symm
    _ ≤ p ^ a * p ^ c := Int.mul_le_mul_of_nonneg_left h6 (by omega)
theorem worth_uds_take {L : List (Int × Int)} (g : Good L) : ∀ i : Nat, i ≤ L.length → worthI (L.take i) ∈ uds (L.take i) ∧ ∀ d ∈ uds (L.take i), d ≤ worthI (L.take i)
  | 0, _ => ⟨by rw [List.take_zero]; exact List.mem_singleton.mpr rfl, fun d hd => by
    rw [List.take_zero] at hd ⊢
    have e : d = 1 := List.mem_singleton.mp hd
    rw [e]
    exact Int.le_refl _⟩
  | i + 1, hi => by
    have hq : L[i]? = some L[i] := List.getElem?_eq_getElem hi
    obtain ⟨h1, h2⟩ := worth_uds_take g i (by omega)
    obtain ⟨r1, r2, r3⟩ := rise_mem g.rise (List.mem_of_getElem? hq)
    have r4 := prime_lo r1
    rw [take_snoc hq, uds_snoc, worth_snoc]
    refine ⟨mem_widen.mpr ⟨L[i].2.toNat, _, Nat.lt_succ_self _, h1, rfl⟩, fun d hd => ?_⟩
    obtain ⟨j, e, hj, he, rfl⟩ := mem_widen.mp hd
    have h3 := h2 e he
    have h4 := (uds_bits (g.take i) e he).1
    have h5 : L[i].1 ^ j ≤ L[i].1 ^ L[i].2.toNat := pow_mono_i (by omega) (by omega)
    have h6 := pow_pos_i (show 0 < L[i].1 by omega) j
    calc e * L[i].1 ^ j ≤ worthI (L.take i) * L[i].1 ^ j := Int.mul_le_mul_of_nonneg_right h3 (by omega)
      _ ≤ worthI (L.take i) * L[i].1 ^ L[i].2.toNat := Int.mul_le_mul_of_nonneg_left h5 (by omega)
theorem worth_uds {L : List (Int × Int)} (g : Good L) : worthI L ∈ uds L ∧ ∀ d ∈ uds L, d ≤ worthI L := by
  have h := worth_uds_take g L.length (Nat.le_refl _)
  rw [List.take_length] at h
  exact h
theorem ds_last {L : List (Int × Int)} (g : Good L) : ∃ init, ds L = init ++ [worthI L] := by
  obtain ⟨h1, h2⟩ := worth_uds g
  have hne : ds L ≠ [] := fun z => by
    have m : worthI L ∈ ds L := isort_mem.mpr h1
    rw [z] at m
    cases m
  have e := (List.dropLast_concat_getLast hne).symm
  refine ⟨(ds L).dropLast, ?_⟩
  have hl : (ds L).getLast hne ∈ ds L := List.getLast_mem hne
  have h3 := h2 _ (isort_mem.mp hl)
  have h4 : worthI L ≤ (ds L).getLast hne := by
    have m : worthI L ∈ ds L := isort_mem.mpr h1
    have s : (ds L).Pairwise (· ≤ ·) := isort_sorted _
    rw [e] at m s
    rcases List.mem_append.mp m with m | m
    · exact (List.pairwise_append.mp s).2.2 _ m _ (List.mem_singleton.mpr rfl)
    · rw [List.mem_singleton.mp m]
      exact Int.le_refl _
  have h5 : (ds L).getLast hne = worthI L := Int.le_antisymm h3 h4
  rw [← h5]
  exact e
/-- on the way to the worth -/
theorem worth_way {L : List (Int × Int)} (g : Good L) {i j : Nat} {q : Int × Int} (hq : L[i]? = some q) (hj : j ≤ q.2.toNat) : (worthI (L.take i) * q.1 ^ j).natAbs < 2 ^ 5000 := by
  obtain ⟨h1, h2⟩ := worth_uds_take g i (Nat.le_of_lt (List.getElem?_eq_some_iff.mp hq).1)
  have h3 := uds_bits (g.take (i + 1)) (worthI (L.take i) * q.1 ^ j) (by rw [take_snoc hq, uds_snoc]; exact mem_widen.mpr ⟨j, _, by omega, h1, rfl⟩)
  exact h3.2
/-! ### the answer that is due -/
def ansV (L : List (Int × Int)) : Option Int := if isAll L then none else some (lu 0 (ds L))
theorem bar_aux : ∀ (l : List Int) (reach : Int), (∀ d ∈ l, 0 < d) → l.Pairwise (· ≤ ·) → 0 ≤ reach → allI reach l = false → reach + together l (lu reach l) < lu reach l ∧ reach + 1 ≤ lu reach l
  | [], reach, _, _, _, h => by simp [allI] at h
  | d :: r, reach, hp, hs, hr, h => by
    obtain ⟨s1, s2⟩ := List.pairwise_cons.mp hs
    have hd := hp d List.mem_cons_self
    unfold allI at h
    unfold lu
    by_cases c : reach + 1 < d
    · rw [if_pos c]
      have e : together (d :: r) (reach + 1) = 0 := by
        unfold together
        rw [List.filter_eq_nil_iff.mpr]
        · rfl
        · intro z hz
          rcases List.mem_cons.mp hz with rfl | hz
          · exact fun k => absurd (of_decide_eq_true k) (by omega)
          · have := s1 z hz
            exact fun k => absurd (of_decide_eq_true k) (by omega)
      rw [e]
      omega
    · rw [if_neg c] at h ⊢
      obtain ⟨h1, h2⟩ := bar_aux r (reach + d) (fun z hz => hp z (List.mem_cons_of_mem _ hz)) s2 (by omega) h
      have e : together (d :: r) (lu (reach + d) r) = d + together r (lu (reach + d) r) := by
        unfold together
        rw [List.filter_cons, if_pos (decide_eq_true (by omega)), List.sum_cons]
      rw [e]
      omega
theorem own_shows {L : List (Int × Int)} (g : Good L) : showsB (ansV L) L = true := by
  unfold ansV
  cases e : isAll L with
  | true => exact e
  | false =>
    show bars (ds L) (lu 0 (ds L)) = true
    have h1 := bar_aux (ds L) 0 (ds_pos g) (isort_sorted _) (Int.le_refl _) e
    have h2 := (lu_all (ds L) 0 (ds_pos g) (Int.le_refl _)).2 e
    unfold bars
    rw [decide_eq_true (show together (ds L) (lu 0 (ds L)) < lu 0 (ds L) by omega), decide_eq_true (show lu 0 (ds L) ≤ (ds L).sum by omega)]
    rfl
theorem ans_none (L : List (Int × Int)) : (ansV L).isNone = isAll L := by
  unfold ansV
  cases isAll L <;> rfl
/-! ### cuts of numbers -/
def cutP (L : List (Int × Int)) (lo hi : Option Int) : List (Int × Int) := (L.drop (HT.sIx L.length 0 lo)).take (HT.sIx L.length L.length hi - HT.sIx L.length 0 lo)
theorem cutP_take (L : List (Int × Int)) (hi : Option Int) : cutP L none hi = L.take (HT.sIx L.length L.length hi) := rfl
theorem cutP_good {L : List (Int × Int)} (g : Good L) (hi : Option Int) : Good (cutP L none hi) := g.take _
theorem sIx_m1 (n : Nat) : HT.sIx n n (some (-1)) = n - 1 := by
  unfold HT.sIx
  simp only []
  first
    | omega
    | (split <;> omega)
    | simp
theorem cutP_last (L : List (Int × Int)) : cutP L none (some (-1)) = L.dropLast := by
  rw [cutP_take, sIx_m1, List.dropLast_eq_take]
section
variable {K : PySem.W.Frag} {σ : L2.St} {H H' : Hp} {te : TE} {x y : V} {a p : Addr} {L : List (Int × Int)}
theorem ef_slN {tl th : TO} {lo hi : Option Int} (h : Ev te σ H (.ref a)) (h1 : EvO tl σ H lo) (h2 : EvO th σ H hi) (hs : NumAt K H a L) : EvF (tSl (rSlL K) te tl th) σ H (NewN K (cutP L lo hi)) := by
  obtain ⟨xs, hx, hp⟩ := hs
  refine (ef_l (el_sl h h1 h2 hx)).imp fun q H2 e hq => ⟨_, hq, ?_⟩
  have el := prs_len hp
  unfold cutV cutP
  rw [el]
  exact prs_ex e (prs_take _ (prs_drop _ hp))
theorem ef_slLast {tl th : TO} (h : Ev te σ H (.ref a)) (h1 : EvO tl σ H none) (h2 : EvO th σ H (some (-1))) (hs : NumAt K H a L) : EvF (tSl (rSlL K) te tl th) σ H (NewN K L.dropLast) := by
  have q := ef_slN h h1 h2 hs
  rw [cutP_last] at q
  exact q
theorem ef_listN {r : List V → Hp → VK → Prop} (hr : r = rListS K) (h : Ev te σ H (.ref a)) (hs : NumAt K H a L) : EvF (tCB r (tCons te tNil)) σ H (NewN K L) := by
  subst hr
  obtain ⟨xs, hx, hp⟩ := hs
  exact (ef_l (el_list h hx)).imp fun q H2 e hq => ⟨xs, hq, prs_ex e hp⟩
/-! ### isinstance of the answers -/
theorem kit_self (t : Value) : PySem.W.kitOne K t t = some true := if_pos (beq_self_eq_true _)
theorem kit_sub {t : Value} {C : Addr} {b : Bool} (h1 : PySem.W.isClsIn K C = true) (h2 : PySem.W.typeIn K (.ref C) = some (.type "type")) (h3 : PySem.W.subIn K t (.ref C) = some b) (hn : t = .ref C → b = true) : PySem.W.kitOne K t (.ref C) = some b := by
  unfold PySem.W.kitOne
  split
  · rename_i e
    rw [hn (eq_of_beq e)]
  · show (if ((PySem.W.clsIn K C).isSome && PySem.W.typeIn K (.ref C) == some (.type "type")) = true then PySem.W.subIn K t (.ref C) else none) = some b
    have h1' : (PySem.W.clsIn K C).isSome = true := h1
    rw [if_pos (by rw [h1', h2]; decide)]
    exact h3
theorem cls_ne {a b f : Addr} {x : Str} {v : Value} (ha : PySem.W.findIn K (.ref a) x = some (some v)) (hb : PySem.W.findIn K (.ref b) x = some (some (.ref f))) (hv : (v == Value.ref f) = false) : ¬ (Value.ref a = Value.ref b) := by
  intro e
  rw [e, hb] at ha
  cases ha
  rw [beq_self_eq_true] at hv
  cases hv
structure AnsC (K : PySem.W.Frag) (cAns cAll cBar : Addr) : Prop where
  clA : Cls K cAll
  clB : Cls K cBar
  inA : InsOk K cAll
  inB : InsOk K cBar
  aa : PySem.W.kitOne K (.ref cAll) (.ref cAll) = some true
  ab : PySem.W.kitOne K (.ref cAll) (.ref cBar) = some false
  an : PySem.W.kitOne K (.ref cAll) (.ref cAns) = some true
  ba : PySem.W.kitOne K (.ref cBar) (.ref cAll) = some false
  bb : PySem.W.kitOne K (.ref cBar) (.ref cBar) = some true
  bn : PySem.W.kitOne K (.ref cBar) (.ref cAns) = some true
variable {cAns cAll cBar : Addr} {ans : Option Int}
theorem ty_ans (C : AnsC K cAns cAll cBar) (h : IsAns cAll cBar ans p H) : TyX K H (.ref p) (.ref (cA cAll cBar ans)) := by
  obtain ⟨dx, ho⟩ := h
  cases ans with
  | none => exact .base (.ins ho C.clA C.inA.ha C.inA.hn C.inA.htk C.inA.hm)
  | some m => exact .base (.ins ho C.clB C.inB.ha C.inB.hn C.inB.htk C.inB.hm)
theorem isi_ansA (C : AnsC K cAns cAll cBar) (h : IsAns cAll cBar ans p H) : RC (rIsi K) [.ref p, .ref cAll] H (.bl ans.isNone) := by
  refine rc_isi (.own _) (fun H1 e => ty_ans C (mono_ans p H H1 e h)) ?_
  cases ans with
  | none => exact C.aa
  | some m => exact C.ba
theorem isi_ansB (C : AnsC K cAns cAll cBar) (h : IsAns cAll cBar ans p H) : RC (rIsi K) [.ref p, .ref cBar] H (.bl ans.isSome) := by
  refine rc_isi (.own _) (fun H1 e => ty_ans C (mono_ans p H H1 e h)) ?_
  cases ans with
  | none => exact C.ab
  | some m => exact C.bb
theorem isi_ansN (C : AnsC K cAns cAll cBar) (h : IsAns cAll cBar ans p H) : RC (rIsi K) [.ref p, .ref cAns] H (.bl true) := by
  refine rc_isi (.own _) (fun H1 e => ty_ans C (mono_ans p H H1 e h)) ?_
  cases ans with
  | none => exact C.an
  | some m => exact C.bn
end
/-! ### promises -/
section
variable (K : PySem.W.Frag)
def spWorth : Sp := fun vs H Q _ => ∃ a L, vs = [.ref a] ∧ NumAt K H a L ∧ Good L ∧ RetV (.int (worthI L)) H Q
def spTold (cAll cBar : Addr) : Sp := fun vs H Q _ => ∃ a L, vs = [.ref a] ∧ NumAt K H a L ∧ Good L ∧ RetF (IsAns cAll cBar (ansV L)) H Q
def spShows (cBar : Addr) (ans : Option Int) : Sp := match ans with
  | none => spShowsAll K
  | some _ => spShowsBar K cBar
def spDue (cAll cBar : Addr) : Sp := fun vs H Q _ => ∃ a L x ans, vs = [.ref a, .ref x] ∧ NumAt K H a L ∧ Good L ∧ IsAns cAll cBar ans x H ∧ RetV (.bl (showsB ans L)) H Q
def NumsAt (H : Hp) (b : Addr) (os : List (Addr × List (Int × Int))) : Prop := SqL K H b (os.map fun o => V.ref o.1) ∧ ∀ o ∈ os, NumAt K H o.1 o.2 ∧ Good o.2
def sp1Right : Sp := fun vs H Q _ => ∃ a L b os, vs = [.ref a, .ref b] ∧ NumAt K H a L ∧ Good L ∧ NumsAt K H b os ∧ os.length ≤ 100 ∧ RetV (.bl true) H Q
def NewG0 (p : Addr) (H : Hp) : Prop := ∃ L, Good L ∧ NewN K L p H
end
section
variable {K : PySem.W.Frag} {H H' : Hp} {a b x : Addr} {L : List (Int × Int)} {cAll cBar : Addr} {ans : Option Int}
theorem sv_worth (h : NumAt K H a L) (g : Good L) : SpV (spWorth K) [.ref a] H (.int (worthI L)) := fun H1 e Q q _ => ⟨a, L, rfl, h.ex e, g, q⟩
theorem sf_told (h : NumAt K H a L) (g : Good L) : SpF (spTold K cAll cBar) [.ref a] H (IsAns cAll cBar (ansV L)) := fun H1 e Q q _ => ⟨a, L, rfl, h.ex e, g, q⟩
theorem sv_due (h : NumAt K H a L) (g : Good L) (hx : IsAns cAll cBar ans x H) : SpV (spDue K cAll cBar) [.ref a, .ref x] H (.bl (showsB ans L)) := fun H1 e Q q _ => ⟨a, L, x, ans, rfl, h.ex e, g, mono_ans x H H1 e hx, q⟩
theorem NumsAt.ex {os : List (Addr × List (Int × Int))} (e : Ex H H') (h : NumsAt K H b os) : NumsAt K H' b os := ⟨ex_l e h.1, fun o ho => ⟨(h.2 o ho).1.ex e, (h.2 o ho).2⟩⟩
theorem sv_1Right {os : List (Addr × List (Int × Int))} (h : NumAt K H a L) (g : Good L) (ho : NumsAt K H b os) (hl : os.length ≤ 100) : SpV (sp1Right K) [.ref a, .ref b] H (.bl true) := fun H1 e Q q _ => ⟨a, L, b, os, rfl, h.ex e, g, ho.ex e, hl, q⟩
theorem mono_g0 : Mono (NewG0 K) := fun p H H' e ⟨L, g, h⟩ => ⟨L, g, mono_newN p H H' e h⟩
end
/-! ### by primes -/
def divOut : Nat → Int → Int → Int → Int × Int
  | 0, n, _, o => (n, o)
  | f + 1, n, p, o => if n % p = 0 then divOut f (n / p) p (o + 1) else (n, o)
def bpStep (st : Int × List (Int × Int)) (p : Int) : Int × List (Int × Int) :=
  if 1 < st.1 then ((divOut 12 st.1 p 0).1, if 0 < (divOut 12 st.1 p 0).2 then st.2 ++ [(p, (divOut 12 st.1 p 0).2)] else st.2) else st
def bp (n : Int) : Nat → Int × List (Int × Int)
  | 0 => (n, [])
  | i + 1 => bpStep (bp n i) (2 + (i : Int))
theorem bp_stop {n : Int} {i : Nat} (h : (bp n i).1 ≤ 1) : ∀ j : Nat, i ≤ j → bp n j = bp n i
  | 0, hj => by
    have e : i = 0 := by omega
    rw [e]
  | j + 1, hj => by
    by_cases e : i = j + 1
    · rw [e]
    · have ih := bp_stop h j (by omega)
      show bpStep (bp n j) _ = _
      rw [ih]
      unfold bpStep
      rw [if_neg (by omega)]
theorem bp_go {n : Int} {i : Nat} (h : 1 < (bp n i).1) : bp n (i + 1) = ((divOut 12 (bp n i).1 (2 + (i : Int)) 0).1, if 0 < (divOut 12 (bp n i).1 (2 + (i : Int)) 0).2 then (bp n i).2 ++ [(2 + (i : Int), (divOut 12 (bp n i).1 (2 + (i : Int)) 0).2)] else (bp n i).2) := by
  show bpStep (bp n i) _ = _
  unfold bpStep
  rw [if_pos h]
theorem bp_len (n : Int) : ∀ i : Nat, (bp n i).2.length ≤ i
  | 0 => Nat.le_refl _
  | i + 1 => by
    have ih := bp_len n i
    show (bpStep (bp n i) _).2.length ≤ _
    unfold bpStep
    split
    · show (if _ then _ else _ : List (Int × Int)).length ≤ _
      split
      · rw [List.length_append]
        exact Nat.succ_le_succ ih
      · omega
    · omega
theorem div_room {n m p : Int} {j : Nat} (hp : 2 ≤ p) (hn : n ≤ 2000) (hm : 1 ≤ m) (he : m * p ^ j = n) (hz : m % p = 0) : j + 1 ≤ 10 ∧ 1 ≤ m / p ∧ m / p * p ^ (j + 1) = n ∧ m / p ≤ m := by
  have e : m / p * p = m := by
    have := Int.ediv_mul_add_emod m p
    omega
  have h1 : 1 ≤ m / p := by
    refine Int.not_lt.mp fun z => ?_
    have : m / p * p ≤ 0 * p := Int.mul_le_mul_of_nonneg_right (by omega) (by omega)
    omega
  have h2 : m / p * p ^ (j + 1) = n := by rw [Int.pow_succ, ← Int.mul_assoc, Int.mul_right_comm, e, he]
  refine ⟨?_, h1, h2, ?_⟩
  · refine Nat.le_of_not_lt fun z => ?_
    have h3 : (2 : Int) ^ 11 ≤ 2 ^ (j + 1) := pow_mono_i (by decide) (by omega)
    have h4 : (2 : Int) ^ (j + 1) ≤ p ^ (j + 1) := by
      have key : ∀ k : Nat, (2 : Int) ^ k ≤ p ^ k := fun k => by
        induction k with
        | zero => rw [Int.pow_zero, Int.pow_zero]; decide
        | succ k ih =>
          rw [Int.pow_succ, Int.pow_succ]
          have hk := pow_pos_i (show (0 : Int) < 2 by decide) k
          have hk2 := pow_pos_i (show 0 < p by omega) k
          calc (2 : Int) ^ k * 2 ≤ p ^ k * 2 := Int.mul_le_mul_of_nonneg_right ih (by decide)
            _ ≤ p ^ k * p := Int.mul_le_mul_of_nonneg_left hp (by omega)
      exact key _
    have h5 : 1 * p ^ (j + 1) ≤ m / p * p ^ (j + 1) := Int.mul_le_mul_of_nonneg_right h1 (by have := pow_pos_i (show 0 < p by omega) (j + 1); omega)
    have h6 : (2 : Int) ^ 11 = 2048 := by decide
    omega
  · have h7 : m / p * 1 ≤ m / p * p := Int.mul_le_mul_of_nonneg_left (by omega) (by omega)
    omega
theorem div_le {n m p : Int} {j : Nat} (hp : 2 ≤ p) (hm : 1 ≤ m) (he : m * p ^ j = n) : m ≤ n := by
  have h1 := pow_pos_i (show 0 < p by omega) j
  have h2 : m * 1 ≤ m * p ^ j := Int.mul_le_mul_of_nonneg_left (by omega) (by omega)
  omega
theorem divOut_go {f : Nat} {n p o : Int} (h : n % p = 0) : divOut (f + 1) n p o = divOut f (n / p) p (o + 1) := if_pos h
theorem divOut_end {f : Nat} {n p o : Int} (h : ¬ n % p = 0) : divOut (f + 1) n p o = (n, o) := if_neg h
/-- the small numbers -/
theorem bp_small (n : Int) (h1 : 1 ≤ n) (h2 : n ≤ 79) : (bp n 80).1 ≤ 1 ∧ Good (bp n 80).2 := by
  have key : ∀ k : Nat, k < 79 → (bp ((k : Int) + 1) 80).1 ≤ 1 ∧ riseB 0 (bp ((k : Int) + 1) 80).2 = true ∧ many (bp ((k : Int) + 1) 80).2 ≤ 500 := by decide +kernel
  have := key (n - 1).toNat (by omega)
  rw [show (((n - 1).toNat : Nat) : Int) + 1 = n by omega] at this
  exact ⟨this.1, this.2.1, this.2.2⟩
def spPrimes (K : PySem.W.Frag) (ok : Int → Prop) : Sp := fun vs H Q _ => ∃ n : Int, vs = [.int n] ∧ ok n ∧ RetF (NewG0 K) H Q
theorem sf_primes {K : PySem.W.Frag} {H : Hp} {ok : Int → Prop} {n : Int} (h : ok n) : SpF (spPrimes K ok) [.int n] H (NewG0 K) := fun H1 e Q q _ => ⟨n, rfl, h, q⟩
theorem g_499 : Good [(2, 499)] := ⟨by decide +kernel, by decide +kernel⟩
theorem all_499 : isAll [(2, 499)] = true := by decide +kernel
theorem worth_499 : worthI [(2, 499)] = 1 * 2 ^ (499 : Int).toNat := by decide +kernel
theorem ans_ten : ansV [(2, 1), (5, 1)] = some 4 := by decide +kernel
theorem all_28 : isAll [(2, 2), (7, 1)] = true := by decide +kernel
theorem all_0 : isAll [] = true := by decide +kernel
def PrimInv (K : PySem.W.Frag) (H : Hp) (l : Addr) (n : Int) (i : Nat) (σ' : L2.St) (H' : Hp) : Prop := ∃ (xs : List V) (y3 : Option V), σ' = [some (.int (bp n i).1), some (.ref l), some (.int (2 + (i : Int))), y3] ∧ Ex H H' ∧ H' l = some (.lst xs) ∧ PrsAt K H' xs (bp n i).2 ∧
  1 ≤ (bp n i).1 ∧ (bp n i).1 ≤ 2000
def PL (K : PySem.W.Frag) (p : Addr) (H : Hp) : Prop := ∃ os, NumsAt K H p os ∧ os.length ≤ 100
section
variable {K : PySem.W.Frag} {σ : L2.St} {H H' : Hp} {ta te : TE} {x y v w : V} {a p : Addr} {L : List (Int × Int)} {D : Ends} {tz : TS}
theorem s_par {i j : Nat} {ta : TA} (h : EvA ta σ H [v, w]) (k : ∀ H1, Ex H H1 → D.nx ((σ.set i (some v)).set j (some w)) H1) : tPar i j ta D σ H := h H (Ex.refl H) _ fun H1 e => ⟨v, w, rfl, k H1 e⟩
theorem mono_pl : Mono (PL K) := fun p H H' e ⟨os, h, hl⟩ => ⟨os, h.ex e, hl⟩
theorem pl_nil : EvF (tLst tNil) σ H (PL K) := (ef_l (el_lst ea_nil (by decide))).imp fun p H2 _ h => ⟨[], ⟨sq_of h, fun o ho => by cases ho⟩, Nat.zero_le _⟩
theorem pl_one (h : Ev te σ H (.ref a)) (hN : NumAt K H a L) (g : Good L) : EvF (tLst (tCons te tNil)) σ H (PL K) := (ef_l (el_lst (ea_cons h ea_nil) (show 1 ≤ 100000 by decide))).imp fun p H2 e hp => ⟨[(a, L)], ⟨sq_of hp, fun o ho => by
  rw [List.mem_singleton.mp ho]
  exact ⟨hN.ex e, g⟩⟩, by show 1 ≤ 100; decide⟩
theorem pl_four {tb tc td : TE} {M2 M3 M4 : List (Int × Int)} (h : Ev te σ H (.ref a)) (hN : NumAt K H a L) (g : Good L) (h2 : EvF tb σ H (NewN K M2)) (h3 : EvF tc σ H (NewN K M3)) (h4 : EvF td σ H (NewN K M4)) (g2 : Good M2) (g3 : Good M3) (g4 : Good M4) :
    EvF (tLst (tCons te (tCons tb (tCons tc (tCons td tNil))))) σ H (PL K) :=
  (ef_lstP (eap_v h (eap_f h2 mono_newN (eap_f h3 mono_newN (eap_f h4 mono_newN eap_nil))))
    (fun vs H1 H2 e ⟨r, e1, p2, r2, e2, k2, p3, r3, e3, k3, p4, r4, e4, k4, e5⟩ => ⟨r, e1, p2, r2, e2, mono_newN _ _ _ e k2, p3, r3, e3, mono_newN _ _ _ e k3, p4, r4, e4, mono_newN _ _ _ e k4, e5⟩)
    (fun vs H1 ⟨r, e1, p2, r2, e2, k2, p3, r3, e3, k3, p4, r4, e4, k4, e5⟩ => by subst e5 e4 e3 e2 e1; show 4 ≤ 100000; decide)).imp
    fun p H2 e ⟨vs, hp, r, e1, p2, r2, e2, k2, p3, r3, e3, k3, p4, r4, e4, k4, e5⟩ => by
      subst e5 e4 e3 e2 e1
      refine ⟨[(a, L), (p2, M2), (p3, M3), (p4, M4)], ⟨sq_of hp, fun o ho => ?_⟩, by show 4 ≤ 100; decide⟩
      rcases List.mem_cons.mp ho with rfl | ho
      · exact ⟨hN.ex e, g⟩
      rcases List.mem_cons.mp ho with rfl | ho
      · exact ⟨k2.num, g2⟩
      rcases List.mem_cons.mp ho with rfl | ho
      · exact ⟨k3.num, g3⟩
      rw [List.mem_singleton.mp ho]
      exact ⟨k4.num, g4⟩
theorem ans_some {cAll cBar : Addr} {ans : Option Int} : ∀ p H, IsAns cAll cBar ans p H → H p ≠ none := fun p H ⟨dx, h⟩ z => by rw [h] at z; cases z
theorem newG_some {most : Int} : ∀ p H, NewG K most p H → H p ≠ none := fun p H ⟨L, g, xs, h, _⟩ z => by rw [h] at z; cases z
end
theorem ans_499 : ansV [(2, 499)] = none := by
  unfold ansV
  rw [all_499]
  rfl
theorem ans_28 : ansV [(2, 2), (7, 1)] = none := by
  unfold ansV
  rw [all_28]
  rfl
theorem ans_0 : ansV [] = none := by
  unfold ansV
  rw [all_0]
  rfl
theorem small_mod18 {x : Int} : Small 3000000 (x % 10 ^ (18 : Int).toNat) := by
  have h : 0 ≤ x % 10 ^ (18 : Int).toNat ∧ x % 10 ^ (18 : Int).toNat < 10 ^ 18 := emod_in (by decide) (by decide)
  exact small_le (10 ^ 18) (by omega) (by decide) (by decide)
end Es
namespace Es
open PySem PyProof.Rows L2
theorem next_list_end_hot {prog : Program} {w : World} {A : Around} {E : Value → Shared → Prop} {s : Shared} {it l x1 : Addr} {i : Nat} {items : Array Value} {Q : Option Value → Shared → Prop}
    (hot : HotX.HotAt A x1 s.heap) (hne : x1 ≠ it) (hit : s.heap.IsListIter it l i) (hl : s.heap.IsList l items) (hx : items[i]? = none)
    (hQ : ∀ h' : Heap, (∀ b o, b ≠ it → s.heap.get? b = some o → h'.get? b = some o) → Q none { heap := h', gens := s.gens, drawn := s.drawn, toks := s.toks, os := s.os }) :
    wpAny (model prog w) A (pyNext (.ref it)) Q E s := by
  obtain ⟨o, ho, hc, hd⟩ := id hit
  obtain ⟨ol, hol, _, nl, hdl⟩ := hl
  obtain ⟨hh, o1, vs1, h1, d1, c1⟩ := hot
  refine wpAny_bind (wpAny_attempt (wpAny_callSpecial?_slot hit.typeIs slot_listiter_next (wpAny_call_entry slot_listiter_next hit.typeIs entry_listiter_next ?_)))
  refine wpAny_bind (wpAny_pure ?_)
  refine wpAny_bind (wpAny_field ho hd rfl ?_)
  refine wpAny_ite_false rfl ?_
  refine wpAny_bind (wpAny_field ho hd rfl ?_)
  refine wpAny_bind (wpAny_seqItems hol hdl ?_)
  simp only [Int.toNat_natCast, hx]
  refine wpAny_bind (wpAny_rule ?_)
  refine wpAny_bind (wpAny_setField (i := 0) ho hd (show 0 < 2 by decide) ?_)
  refine wpAny_bind (wpAny_bind (wpAny_newObj_type (wpAny_bind (wpAny_of_eq rfl (wpAny_newObj_type ?_)))))
  refine HotX.raiseNew_hot (x1 := x1) ⟨hh, o1, vs1, Heap.get?_push_of_some _ (Heap.get?_push_of_some _ ((Heap.get?_update_ne _ _ _ _ hne).trans h1)), d1, c1⟩ ?_ (Heap.get?_push_size _ rfl) rfl (by show 2 < (_ ++ _ : Array Value).size; rw [Array.size_append]; exact Nat.lt_of_lt_of_le (show 2 < 6 by decide) (Nat.le_add_right _ _)) ?_
  · exact Nat.ne_of_lt (Heap.lt_size (Heap.get?_push_of_some _ ((Heap.get?_update_ne _ _ _ _ hne).trans h1)))
  · refine wpAny_bind (wpAny_isInstance (T := "StopIteration") (b := true) ⟨_, Heap.get?_update_self _ (Heap.get?_push_size _ rfl) rfl, rfl⟩ rfl (wpAny_pure (hQ _ fun b o hb he => ?_)))
    have q := Heap.get?_push_of_some { cls := .type "tuple", data := .seq #[] } ((Heap.get?_update_ne s.heap b it (Obj.mapFields fun x => x.setIfInBounds 0 .none) hb).trans he)
    exact (Heap.get?_update_ne _ b _ _ (Nat.ne_of_lt (Heap.lt_size q))).trans (Heap.get?_push_of_some _ q)
/-- what an except suite holds -/
def HotIn (x1 : Addr) (h : Heap) : Prop := ∃ o vs, h.get? x1 = some o ∧ o.data = .fields vs ∧ vs[2]? = some .none
theorem hotIn_mono {x1 : Addr} {h h' : Heap} (q : HotIn x1 h) (k : ∀ o, h.get? x1 = some o → h'.get? x1 = some o) : HotIn x1 h' := by
  obtain ⟨o, vs, e, r⟩ := q
  exact ⟨o, vs, k o e, r⟩
theorem walks_hot {prog : Program} {w : World} {A : Around} {x1 : Addr} (hh : A.handled = some (.ref x1)) {I ax : Addr} (ha : ax ≠ I) (hx : x1 ≠ I) (items : Array Value) :
    Walks prog w A I [I, ax, x1] [I] items.size (fun i v => items[i]? = some v) (fun i h => h.IsListIter I ax i ∧ h.IsList ax items ∧ HotIn x1 h) := by
  have off : ∀ {b : Addr}, ¬ b ∈ [I] → b ≠ I := fun h e => h (by rw [e]; exact List.mem_cons_self)
  refine ⟨fun b hb => by rw [List.mem_singleton.mp hb]; exact List.mem_cons_self, fun i h h' st k => ?_, fun i s Q E hi st hQ => ?_, fun s Q E st hQ => ?_, fun i s Q E st hQ => wpAny_pyIter_listiter st.1 hQ⟩
  · exact ⟨st.1.at fun o e => k _ List.mem_cons_self o e, st.2.1.at fun o e => k _ (List.mem_cons_of_mem _ List.mem_cons_self) o e, hotIn_mono st.2.2 fun o e => k _ (List.mem_cons_of_mem _ (List.mem_cons_of_mem _ List.mem_cons_self)) o e⟩
  · have hv : items[i]? = some items[i] := Array.getElem?_eq_getElem hi
    exact wpAny_pyNext_list_item st.1 st.2.1 hv fun h' hit hs => hQ _ h' s.toks hv ⟨hit, st.2.1.extBut hs.extBut ha, hotIn_mono st.2.2 fun o e => hs.extBut _ o hx e⟩ fun b o hb e => hs.extBut b o (off hb) e
  · obtain ⟨o, vs, e1, e2, e3⟩ := st.2.2
    exact next_list_end_hot ⟨hh, o, vs, e1, e2, e3⟩ hx st.1 st.2.1 (Array.getElem?_eq_none (Nat.le_refl _)) fun h' k => hQ h' s.toks fun b o hb e => k b o (off hb) e
theorem cr_anyH {X : Cx} (c : L2H.HotC X) : CallR X (.builtin "any") (rAny X.K) := by
  intro pins s σ H vs us Q I r h
  obtain ⟨a, bs, rfl, hs, q⟩ := h
  obtain ⟨its, rv, hl, _⟩ := I.list hs
  obtain ⟨x1, hh, o1, v1, e1, e2, e3⟩ := c.at I
  have hb := rv.bls
  have hx : x1 ≠ s.heap.objs.size := Nat.ne_of_lt (Heap.lt_size e1)
  rw [Vals.ref1 r]
  refine call_any_walk (iter_any hl.isList fun s2 es st hne => ?_)
  subst es
  refine ⟨_, _, _, _, _, _, _, rfl, walks_hot (A := X.A.in1) hh hne hx its.toArray, ⟨st.1, st.2, o1, v1, Heap.get?_push_of_some _ e1, e2, e3⟩, truth_bools hb, fun h' tk hk => ⟨.bl (bs.any id), H, I.kept fun b o eo => hk b o (fun hm => ?_) (Heap.get?_push_of_some _ eo), ?_, q⟩⟩
  · exact Nat.lt_irrefl s.heap.objs.size (by have := Heap.lt_size eo; rw [List.mem_singleton.mp hm] at this; exact this)
  · show Value.bool ((List.range its.toArray.size).any fun i => bs.getD i false) = Value.bool (bs.any id)
    have el : its.toArray.size = bs.length := by rw [hb]; simp
    rw [el, L2.any_range]
end Es
set_option maxHeartbeats 3200000
namespace Es
open PySem PySem.Spec PyProof.Rows L2 Evl
/-- a set just made -/
abbrev none_in (w : World) : Obj := { cls := .type "set", dict := none, data := .set #[] 0 (.fresh 0 0 (!w.params.followText "set-order")) }
section
variable {P : Program} {w : World} {A : Around} {E : Value → Shared → Prop} {s : Shared}
/-- what set(ints) leaves -/
def Gathers (w : World) (s : Shared) (ns : List Int) (t : Shared) : Prop := ∃ h' tk c, t = { s with heap := h', toks := tk } ∧ SetR w h' s.heap.objs.size (fun j => decide (j ∈ ns)) c ∧ c ≤ ns.length ∧ ∀ b o, s.heap.get? b = some o → h'.get? b = some o
theorem call_set_ints {l : Addr} {items : Array Value} (ns : List Int) {Q : Value → Shared → Prop} (hh : A.handled = none) (hl : s.heap.IsList l items) (hi : IntsAre items.toList ns) (hb : ns.length + 1 < scanBound)
    (h : ∀ t, Gathers w s ns t → Q (.ref s.heap.objs.size) t) : wpAny (model P w) A (call (.type "set") [.ref l]) Q E s := by
  have hsz : items.size = ns.length := (Array.length_toList (xs := items)).symm.trans hi.length
  obtain ⟨c0, tl0, hmro⟩ := F.called_set.mro
  have m1 := F.called_set.made
  have m2 := F.called_set.sub
  have m3 := F.called_set.notType
  have m4 := F.called_set.canCreate
  have m5 := F.typeCall_set_1 (.ref l)
  refine wpAny_call (codeAny_of_tree ?_)
  show wpAny _ _ (callAny (.type "set") _) _ _ _
  refine wpAny_pure ⟨Code.quiet_builtin _ (by decide +kernel), codeAny_builtin F.entry_type_call ?_⟩
  rw [Around.under_plain (weight_type_call_type "set" [.ref l] []) rfl]
  repeat (any_goals (first | assumption | wp_step))
  refine codeAny_mono (code_set_led1 (.ref l) (E := E) (Q₁ := fun v t => v = .ref s.heap.objs.size ∧ t = { s with heap := s.heap.push (none_in w) }) ⟨rfl, rfl⟩) fun r t hr => ?_
  match r, hr with
  | .error e, hr => exact hr
  | .ok .next, hr => exact hr.elim
  | .ok .brk, hr => exact hr.elim
  | .ok .cont, hr => exact hr.elim
  | .ok (.ret v), hr =>
    obtain ⟨rfl, rfl⟩ := hr
    have hS : (s.heap.push (none_in w)).get? s.heap.objs.size = some (none_in w) := Heap.get?_push_size _ rfl
    have hT : Shared.TypeIs { s with heap := s.heap.push (none_in w) } (.ref s.heap.objs.size) "set" := ⟨_, hS, rfl⟩
    have n1 := F.called_set.init.lookup
    have n2 := F.called_set.init.bind (.ref s.heap.objs.size)
    repeat (any_goals (first | assumption | wp_step))
    refine codeAny_mono (codeAny_call_builtin (R := wants (fun r t => r = .none ∧ Gathers w s ns t) E) F.called_set.init.plain F.entry_set_init (check_set_init_1 hT ?_)) fun r t hr => ?_
    · obtain ⟨⟨oc, od, oda, osl⟩, hol, hcl, nl, hdl⟩ := hl
      simp only at hcl hdl
      subst hcl hdl
      have hol2 : (s.heap.push (none_in w)).get? l = some { cls := .type "list", dict := od, data := .seq items nl, slots := osl } := Heap.get?_push_of_some _ hol
      have u1 := F.sub_list_set
      have u2 := F.sub_list_frozenset
      have u3 : (Value.type "list" == Value.type "dict") = false := by decide
      have hl2 : (s.heap.push (none_in w)).IsList l items := ⟨_, hol2, rfl, nl, rfl⟩
      have zS : (s.heap.push (none_in w)).objs.size = s.heap.objs.size + 1 := Heap.size_push ..
      unfold Builtin.«set.__init__» noKeywords Builtin.Frozenset.updateFrom
      generalize hPI : pyIter = PI
      wp_walk
      subst hPI
      have lt0 : l < s.heap.objs.size := Heap.lt_size hol
      refine wpAny_pyIter_list hl2 (wpAny_bind (wpAny_runValue ?_))
      have neI : l ≠ (s.heap.push (none_in w)).objs.size := by rw [zS]; exact Nat.ne_of_lt (Nat.lt_succ_of_lt lt0)
      have h3 : A.in1.in1.in1.handled = none := by simp [hh]
      refine set_update_ints ((Walks.list h3 _ l neI items).toS) s.heap.objs.size (by
        rw [zS]
        intro z
        rcases List.mem_cons.mp z with z | z
        · exact Nat.ne_of_lt (Nat.lt_succ_self _) z
        · exact Nat.ne_of_gt lt0 (List.mem_singleton.mp z)) ns hsz hb (fun i v hv => ?_)
        (items.size - 0) 0 _ (by omega) (Nat.zero_le _) ⟨⟨_, Heap.get?_push_size _ rfl, rfl, rfl⟩, hl2.push _⟩ ⟨0, Nat.le_refl 0, setR_new_at (Heap.get?_push_of_some _ hS)⟩ fun t c hm hc hR => ?_
      · have hi2 : i < ns.length := by rw [← hsz]; exact (Array.getElem?_eq_some_iff.mp hv).1
        obtain ⟨tk, e⟩ := hi.get i _ (List.getElem?_eq_getElem hi2)
        rw [Array.getElem?_toList, hv] at e
        exact ⟨_, tk, List.getElem?_eq_getElem hi2, Option.some.inj e⟩
      · obtain ⟨h', g2, d', tk', os'⟩ := t
        have eg : g2 = s.gens := hm.gens
        have ed : d' = s.drawn := hm.drawn
        have eo : os' = s.os := hm.os
        subst eg ed eo
        refine wpAny_pure ?_
        show wpAny _ _ (ret Value.none) _ _ _
        refine wpAny_pure ⟨rfl, h', tk', c, rfl, hR, by omega, fun b o e => ?_⟩
        have lb : b < s.heap.objs.size := Heap.lt_size e
        refine hm.heap b o (fun z => ?_) (Heap.get?_push_of_some _ (Heap.get?_push_of_some _ e))
        rcases List.mem_cons.mp z with z | z
        · exact Nat.ne_of_lt lb z
        · rw [zS] at z
          exact Nat.ne_of_lt (Nat.lt_succ_of_lt lb) (List.mem_singleton.mp z)
    · match r, hr with
      | .error e, hr => exact hr
      | .ok .next, hr => exact hr.elim
      | .ok .brk, hr => exact hr.elim
      | .ok .cont, hr => exact hr.elim
      | .ok (.ret v), hr =>
        obtain ⟨rfl, g⟩ := hr
        repeat (any_goals (first | assumption | wp_step))
        exact h _ g
end
end Es
set_option maxHeartbeats 3200000
namespace Es
open PySem PySem.Spec PyProof.Rows L2 Evl
section
variable {P : Program} {w : World} {A : Around} {E : Value → Shared → Prop} {s : Shared}
theorem sorted_setL {a : Addr} {S : Int → Bool} {n : Nat} {Q : Value → Shared → Prop} (R : SetR w s.heap a S n) (hh : A.handled = none) (hn : n ≤ 1000)
    (hQ : ∀ s' p (out : List Value) (c : Nat) (ns : List Int), (∀ b o, s.heap.get? b = some o → s'.heap.get? b = some o) → s'.gens = s.gens → s'.os = s.os → s.heap.objs.size ≤ p →
      s'.heap.get? p = some (seqObj "list" out.toArray c) → IntsAre out ns → ns.Nodup → ns.Pairwise (· ≤ ·) → (∀ k, k ∈ ns ↔ S k = true) → ns.length = n → Q (.ref p) s') :
    wpAny (model P w) A (call (.builtin "sorted") [.ref a]) Q E s := by
  obtain ⟨o, es, ep, t, ho, hex, hd, good, nd, hm, hb, hf, hsz, ris, led⟩ := R
  refine Calls.call_function_entry kind_sorted plain_sorted entry_sorted (args_sorted1 _) ?_
  unfold Builtin.«sorted»
  refine wpAny_bind (m := checkCount "sorted" 1 1 _) (wpAny_pure ?_)
  refine wpAny_bind (collect_set (A := A.in1) hh ⟨o, ho, hex.1, hd⟩ hf hb ris led fun s1 vs keep hz hg hos pm => ?_)
  have hl : vs.length = n := by
    rw [pm.length_eq, List.length_map]
    exact hsz
  have hlz : vs.length ≤ sizeLine := by
    rw [hl, sizeLine_eq]
    omega
  have hI : IntsAre vs (vs.map SrtO.iv) := SrtO.ints_iv fun v hv => by
    obtain ⟨e, he, rfl⟩ := List.mem_map.mp (pm.mem_iff.mp hv)
    obtain ⟨k, tk, h1, _⟩ := good e he
    exact ⟨k, tk, h1⟩
  have pk : (vs.map SrtO.iv).Perm (es.toList.map keyOf) := by
    have q := pm.map SrtO.iv
    rw [List.map_map] at q
    refine q.trans (List.Perm.of_eq (List.map_congr_left fun e he => ?_))
    obtain ⟨k, tk, h1, _⟩ := good e he
    show SrtO.iv e.2 = keyOf e
    unfold keyOf
    rw [h1]
    rfl
  refine wpAny_bind (wpAny_newList ?_ hlz)
  have hL : (s1.heap.push (seqObj "list" vs.toArray 0)).get? s1.heap.objs.size = some (seqObj "list" vs.toArray 0) := Heap.get?_push_size _ rfl
  refine wpAny_bind (wpAny_holding (wpAny_call_entry slot_list_sort ⟨_, hL, rfl⟩ entry_list_sort (SrtO.list_sort_ord SrtO.swo_int hL hlz (SrtO.ints_sortable hI) fun out hs hstb => ⟨_, rfl, ?_⟩) (args_list_sort _)))
  obtain ⟨k1, k2, k3⟩ := SrtO.ints_out hI hs hstb
  obtain ⟨c, hc⟩ := sortedHeap_at (vs := vs) (out := out.toArray) hL
  have pn := k2.trans pk
  refine wpAny_pure ⟨_, rfl, hQ _ s1.heap.objs.size out c _ (fun b u e => ?_) hg hos hz hc k1 (pn.nodup_iff.mpr nd) k3 (fun k => by rw [pn.mem_iff, ← hm k]) ?_⟩
  · have e1 := keep b u e
    have lt := Heap.lt_size e1
    show (sortedHeap (s1.heap.push (seqObj "list" vs.toArray 0)) s1.heap.objs.size vs out.toArray).get? b = some u
    rw [sortedHeap_old (Nat.ne_of_lt lt) (by rw [size_push']; exact Nat.lt_succ_of_lt lt)]
    exact Heap.get?_push_of_some _ e1
  · rw [pn.length_eq, List.length_map]
    exact hsz
end
/-! ### as rules -/
section
variable {X : Cx}
def rSetL (K : PySem.W.Frag) (w : World) : List V → Hp → VK → Prop := fun xs H Q => ∃ (l : Addr) (ns : List Int), xs = [.ref l] ∧ SqL K H l (ns.map V.int) ∧ ns.length ≤ 1000 ∧ ∀ p c, H p = none → c ≤ ns.length → Q (.ref p) (upd H p (SetO w p (fun j => decide (j ∈ ns)) c))
def rSortSetL (w : World) : List V → Hp → VK → Prop := fun xs H Q => ∃ (a : Addr) (S : Int → Bool) (n : Nat), xs = [.ref a] ∧ H a = some (SetO w a S n) ∧ n ≤ 1000 ∧ ∀ (ns : List Int) (p : Addr), ns.Nodup → ns.Pairwise (· ≤ ·) → (∀ k, k ∈ ns ↔ S k = true) → H p = none → Q (.ref p) (upd H p (.lst (ns.map V.int)))
theorem cr_setL (hc : X.calm = true) : CallR X (.type "set") (rSetL X.K X.w) := by
  intro pins s σ H xs us Q I r h
  obtain ⟨l, ns, rfl, hs, hlen, q⟩ := h
  obtain ⟨its, rv, hl, _⟩ := I.list hs
  rw [Vals.ref1 r]
  refine call_set_ints ns (I.ok.hd hc) hl.isList (by simpa using rv.ints) (by unfold scanBound; omega) fun t g => ?_
  obtain ⟨h', tk, c, rfl, hR, hcl, keep⟩ := g
  have np : H s.heap.objs.size = none := I.hok.fresh (Nat.le_refl _)
  exact ⟨.ref s.heap.objs.size, _, I.call (ch := []) (Un.laid keep (Nat.le_refl _) np) (I.hok.laid keep (Nat.le_refl _) (setO_new hR)) I.bare (fun _ z => nomatch z), rfl, q _ c np hcl⟩
theorem cr_sortedSetL (hc : X.calm = true) : CallR X (.builtin "sorted") (rSortSetL X.w) := by
  intro pins s σ H xs us Q I r h
  obtain ⟨a, S, n, rfl, ha, hn, q⟩ := h
  rw [Vals.ref1 r]
  refine sorted_setL (setO_get I ha) (I.ok.hd hc) hn fun t p out c ns keep hg hos hp hget hi nd hle hm hl => ?_
  obtain ⟨h1, g1, d1, t1, os1⟩ := t
  have e1 : g1 = s.gens := hg
  have e2 : os1 = s.os := hos
  subst e1 e2
  have np : H p = none := I.hok.fresh hp
  have hz : (ns.map V.int).length ≤ sizeLine := by
    rw [List.length_map, hl, sizeLine_eq]
    omega
  exact ⟨.ref p, _, I.call (ch := []) (Un.laid keep hp np) (I.hok.laid keep hp (show ObjOk X.prog X.w (upd H p (.lst (ns.map V.int))) h1 p (.lst (ns.map V.int)) from ⟨hz, out, c, vals_of_ints hi, hget⟩)) I.bare (fun _ z => nomatch z), rfl, q ns p nd hle hm np⟩
end
section
variable {K : PySem.W.Frag} {w : World} {σ : L2.St} {H : Hp} {te : TE} {a : Addr} {ns : List Int}
/-- sorted(set(a list of ints)) -/
theorem el_sortSet {ms : List Int} (h : Ev te σ H (.ref a)) (hs : SqL K H a (ns.map V.int)) (hl : ns.length ≤ 1000) (hu : ∀ ms' : List Int, ms'.Nodup → ms'.Pairwise (· ≤ ·) → (∀ k, k ∈ ms' ↔ k ∈ ns) → ms' = ms) :
    EvL (tCB (rSortSetL w) (tCons (tCB (rSetL K w) (tCons te tNil)) tNil)) σ H (ms.map V.int) := fun H1 e Q q =>
  h H1 e _ fun H2 e2 => ⟨a, ns, rfl, ex_l (e.trans e2) hs, hl, fun p c np hc => ⟨p, _, c, rfl, upd_same, by omega, fun ms' r nd hle hm nr => by
    rw [hu ms' nd hle fun k => (hm k).trans decide_eq_true_iff]
    exact q r _ (fresh_back (e2.trans (Ex.new np)) nr) ((e2.trans (Ex.new np)).trans (Ex.new nr)) upd_same⟩⟩
end
end Es
set_option maxHeartbeats 2000000
namespace Es
open PySem PySem.Spec PyProof.Rows L2 Evl
/-! ### defs that raise own errors -/
section
variable {P : Program} {w : World} {K : PySem.W.Frag} {mg : Str → Option Value} {base : Heap} {k : Nat} {x : Str} {st : Stmt} {N ps : List Str} {sp : Sp}
theorem DefAt.okX (A : DefAt K mg x st ps) (S : FnScope N ps (defScope st)) (len : ∀ vs H Q E, sp vs H Q E → vs.length = ps.length)
    (hbody : ∀ (f : Addr) (cdv : Value) (A : Around) (outer : List Env) (s : Shared) (H : Hp) (vs : List V) (Q : VK) (E : XK), Room k (A.deeper (envOfC x (defScope st) s.heap.objs.size f cdv)) → sp vs H Q E →
      ∃ t, PSs (cxOf (L2N.CX P w) P w K mg base N x (defScope st) f cdv A outer s H E) (defBody st) t ∧ t { nx := fun _ H' => Q .non H', rt := Q } (start N vs) H) : Df P w K mg base (L2N.CX P w) (k + 1) x ps sp := by
  obtain ⟨f, fd, F, g, b⟩ := A
  refine ⟨f, fd, ?_, g, F.kp, b⟩
  obtain ⟨oc, od, kV, doc, pm, an, cdv, ct, osl, rfl, lk, hcd⟩ := F.ex
  exact fn_of lk hcd S len fun A outer s H vs Q E hr h => hbody f cdv A outer s H vs Q E hr h
end
/-- an own error that is raised with a text -/
structure ErrC (K : PySem.W.Frag) (mg : Str → Option Value) (x : Str) (C : Addr) : Prop where
  ex : PySem.W.excIn K C [.type "ValueError", .type "Exception", .type "BaseException", .type "object"] "ValueError.__new__" = true
  gl : mg x = some (.ref C)
  kp : PySem.W.keepIn K (.ref C) = true
  sb : PySem.W.subIn K (.ref C) (.type "BaseException") = some true
  ty : PySem.W.typeIn K (.ref C) = some (.type "type")
section
variable {X : Cx} {C : Addr} {x n : Str} {p np pos pos' : Pos}
theorem passN : Passes (L2N.CX X.prog X.w) X E0 := fun _ _ _ _ _ _ _ h => by
  obtain ⟨_, _, _, _, _, _, _, _, _, _, _, _, z⟩ := h
  exact z.elim
theorem takesN : L2N.Takes X (fun _ _ _ _ => False) := fun _ _ h => by
  obtain ⟨_, _, _, _, _, _, _, _, _, _, _, _, _, _, _, _, z⟩ := h
  exact z.elim
theorem ps_err {W : WX} {m : Str} {j : Nat} {p2 : Pos} (T : ErrC X.K X.mg x C) (hc : X.calm = true) (tk : L2N.Takes X W) (hg : Gl X x) (hdb : (x == ("__debug__" : Str)) = false := by decide) :
    PS X (.Raise (some (.Call (.Name x p) [.Constant (.str m) j p2] [] pos)) none pos') (fun _ σ H => W (.ref C) none σ H) := L2N.ps_raise hc tk (L2N.pmk_own PySem.F.excBase_ValueError T.ex T.gl T.kp (raises_own T.sb T.ty) hg hdb)
theorem hot_of {a : Addr} {oe : Obj} {cls : Value} {d : Option Addr} {pn : List (Addr × Obj)} (hz : L2N.Zn cls d oe) (hf : ∃ vs, oe.data = .fields vs) : L2H.HotC (X.suite a ((a, oe) :: pn)) := by
  obtain ⟨vs, hv⟩ := hf
  exact ⟨(a, oe), ⟨rfl, vs, hv, hz.2.2 vs hv⟩, List.mem_cons_self⟩
theorem cr_anyHK {K : PySem.W.Frag} (h : X.K = K) (c : L2H.HotC X) : CallR X (.builtin "any") (rAny K) := h ▸ cr_anyH c
theorem pss_ex {α : Type} {ss : List Stmt} {ok : α → Prop} {t : α → TS} (h : ∀ c, ok c → PSs X ss (t c)) : PSs X ss (fun D σ H => ∃ c, ok c ∧ t c D σ H) := ⟨fun pins s σ H D I ⟨c, hc, q⟩ => (h c hc).run pins s σ H D I q⟩
def tsD (ok : Addr → Prop) (ts : Addr → Addr → TS) : Addr → Value → Option Addr → TS := fun a cls d D σ H => ∃ C, (cls = .ref C ∧ d = none ∧ ok C) ∧ ts a C D σ H
/-- try: body / except X as n: suite, errors of own classes -/
theorem ps_tryD {c : Value} {i : Nat} {body suite : List Stmt} {b0 : Stmt} {tb : WX → TS} (ok : Addr → Prop) {ts : Addr → Addr → TS} (hs : X.stack = X.env :: X.outer) (hf : X.env.frame = some X.env.locals) (hN : X.N.Nodup) (hi : X.N[i]? = some n) (hl : X.env.kindOf n = some .local) (hc : Names X x c)
    (hb : ∀ (W : WX) (pn : List (Addr × Obj)) (xe : Value → Shared → Prop), L2N.Takes (X.tr pn xe) W → PassesOwn (model X.prog X.w) X.A X.env xe → PSs (X.tr pn xe) body (tb W))
    (hsu : ∀ (a : Addr) (oe : Obj) (C : Addr) (pn : List (Addr × Obj)), ok C → L2N.Zn (.ref C) none oe → (∃ vs, oe.data = .fields vs) → PSs (X.suite a ((a, oe) :: pn)) (b0 :: suite) (ts a C)) :
    PS X (.Try body [.ExceptHandler (some (.Name x np)) (some n) (b0 :: suite) pos'] [] [] pos) (fun D σ H => tb (wAs X.K c i (tsD ok ts) (fun _ _ _ _ => False) D) D σ H) :=
  L2N.ps_try_as hs hf hN hi hl hc takesN hb fun a oe cls d pn hz hf => pss_ex (ok := fun C => cls = .ref C ∧ d = none ∧ ok C) (t := ts a) fun C h => hsu a oe C pn h.2.2 (by rw [← h.1, ← h.2.1]; exact hz) hf
/-- a call that may raise, in a try -/
theorem pe_callSD {CX : CXT} {k : Nat} {ps : List Str} {sp : Sp} {E : L2.St → XK} {e : Expr} {es : List Expr} {t : TA} (D : Df X.prog X.w X.K X.mg X.base CX k x ps sp) (hr : Room k X.A) (hg : Gl X x) (hx : ∀ σ, PassesAt CX X σ (E σ)) (ha : PA X (e :: es) t)
    (hdb : (x == ("__debug__" : Str)) = false := by decide) (he : starEach (e :: es) X.env = (false, eval e X.env) :: starEach es X.env := by rfl) (hpl : (backTo pos (starEach es X.env)).any (·.1) = false := by rfl) :
    PE X (.Call (.Name x p) (e :: es) [] pos) (tCallS sp E t) := by
  obtain ⟨f, fd, F, g, kp, b⟩ := D
  exact pe_callS F hr hg g kp b hx ha hdb he hpl
end
section
variable {K : PySem.W.Frag} {σ : L2.St} {H H' : Hp} {ta te : TE} {x y z v w : V} {a b l p : Addr} {D : Ends} {tu tz : TS}
/-- the try statement read -/
theorem q_try {sp : Sp} {t : TA} {vs : List V} {c : Value} {i : Nat} {ts : Addr → Value → Option Addr → TS} (h : EvA t σ H vs)
    (hs : ∀ H1, Ex H H1 → sp vs H1 (fun _ H2 => tz D σ H2) (fun cls d H2 => wAs K c i ts (fun _ _ _ _ => False) { D with nx := tz D } cls d σ H2)) :
    tSeq (fun D σ H => tDrop (tCallS sp (WE (wAs K c i ts (fun _ _ _ _ => False) D)) t) D σ H) tz D σ H := h H (Ex.refl H) _ fun H1 e => hs H1 e
theorem w_as {c : Value} {i : Nat} {ok : Addr → Prop} {ts : Addr → Addr → TS} {W : WX} {C : Addr} (he : PySem.W.exmOne K (.ref C) c = some true) (ho : ok C)
    (k : ∀ a, H a = none → ts a C { nx := fun σ' H' => D.nx (σ'.set i none) H', rt := D.rt, bk := fun σ' H' => D.bk (σ'.set i none) H', ct := fun σ' H' => D.ct (σ'.set i none) H' } (σ.set i (some (.ref a))) H) : wAs K c i (tsD ok ts) W D (.ref C) none σ H :=
  ⟨true, he, fun _ a ha => ⟨C, ⟨rfl, rfl, ho⟩, k a ha⟩, fun z => nomatch z⟩
theorem rc_isE {B C : Addr} {r : Bool} (e : PySem.W.kitOne K (.ref B) (.ref C) = some r) : RC (rIsE K B a) [.ref a, .ref C] H (.bl r) := fun H1 _ Q q => ⟨.ref C, .ref C, r, rfl, fun u h => (ClsV.own C).eq h, e, q H1 (Ex.refl H1)⟩
theorem sub_ne {A C : Addr} (h : PySem.W.subIn K (.ref A) (.ref C) = some false) (hs : PySem.W.subIn K (.ref A) (.ref A) = some true) : (Value.ref A = Value.ref C) → false = true := fun e => by
  rw [← e, hs] at h
  cases h
/-- for over reversed(a list) -/
theorem q_forRev {xs : List V} {tl : TE} {j : Nat} (h : Ev tl σ H (.ref a)) (hx : SqL K H a xs) (Pv : Nat → L2.St → Hp → Prop) (h0 : ∀ H1, Ex H H1 → Pv 0 σ H1) (hl : ∀ i σ' H', Pv i σ' H' → SqL K H' a xs)
    (hs : ∀ i x σ' H', xs.reverse[i]? = some x → Pv i σ' H' → tu { D with nx := Pv (i + 1), ct := Pv (i + 1), bk := tz D } (σ'.set j (some x)) H') (hd : ∀ σ' H', Pv xs.length σ' H' → tz D σ' H') : tSeq (tFor (iRev K (tCons tl tNil)) (gName j) tu) tz D σ H :=
  h H (Ex.refl H) _ fun H1 e => ⟨a, xs, rfl, ex_l e hx, RT.for_Itv (D := { D with nx := tz D }) Pv (h0 H1 e) hl (fun i x σ' H' hi hv p => hs i x σ' H' (by rw [List.getElem?_reverse hi]; exact hv) p) hd⟩
theorem s_seq1 {t : TS} (h : t D σ H) : t D σ H := h
end
end Es
set_option maxHeartbeats 2000000
namespace Es
open PySem PySem.Spec PyProof.Rows L2 Evl
/-! ### the greatest first -/
def pick : List Int → Int → List Int
  | [], _ => []
  | d :: r, m => if d ≤ m then d :: pick r (m - d) else pick r m
theorem pick_sub : ∀ (l : List Int) (m : Int), (pick l m).Sublist l
  | [], _ => List.Sublist.slnil
  | d :: r, m => by
    unfold pick
    split
    · exact (pick_sub r (m - d)).cons_cons d
    · exact (pick_sub r m).cons d
theorem sum_snoc (l : List Int) (d : Int) : (l ++ [d]).sum = l.sum + d := by rw [List.sum_append, List.sum_singleton]
theorem allI_app : ∀ (l : List Int) (t d : Int), allI t (l ++ [d]) = (allI t l && decide (¬ t + l.sum + 1 < d))
  | [], t, d => by
    show allI t [d] = (true && _)
    unfold allI allI
    rw [List.sum_nil, Int.add_zero, Bool.true_and]
    split <;> simp_all
  | a :: l, t, d => by
    show allI t (a :: (l ++ [d])) = (allI t (a :: l) && _)
    unfold allI
    split
    · rfl
    · rw [allI_app l (t + a) d, List.sum_cons, Int.add_assoc t a]
theorem pick_sum {l : List Int} (h : allI 0 l = true) (hp : ∀ d ∈ l, 0 < d) (m : Int) (h0 : 0 ≤ m) (hm : m ≤ l.sum) : (pick l.reverse m).sum = m := by
  have key : ∀ (n : Nat) (l : List Int), l.length = n → allI 0 l = true → (∀ d ∈ l, 0 < d) → ∀ m, 0 ≤ m → m ≤ l.sum → (pick l.reverse m).sum = m := by
    intro n
    induction n with
    | zero =>
      intro l hl _ _ m h0 hm
      rw [List.length_eq_zero_iff.mp hl] at hm ⊢
      rw [List.sum_nil] at hm
      show (0 : Int) = m
      omega
    | succ n ih =>
      intro l hl h hp m h0 hm
      have hne : l ≠ [] := fun z => by rw [z] at hl; cases hl
      obtain ⟨i, d, rfl⟩ : ∃ i d, l = i ++ [d] := ⟨l.dropLast, l.getLast hne, (List.dropLast_concat_getLast hne).symm⟩
      rw [List.length_append, List.length_singleton] at hl
      rw [allI_app, Bool.and_eq_true, decide_eq_true_eq] at h
      rw [sum_snoc] at hm
      have hp' : ∀ z ∈ i, 0 < z := fun z hz => hp z (List.mem_append_left _ hz)
      have hd : 0 < d := hp d (List.mem_append_right _ List.mem_cons_self)
      rw [List.reverse_append]
      show (pick (d :: i.reverse) m).sum = m
      unfold pick
      split
      · rw [List.sum_cons, ih i (by omega) h.1 hp' (m - d) (by omega) (by omega)]
        omega
      · exact ih i (by omega) h.1 hp' m h0 (by omega)
  exact key l.length l rfl h hp m h0 hm
/-! ### unlike divisors -/
theorem prime_co {p q : Int} (hp : primeB p = true) (hq : primeB q = true) (h : p < q) : Nat.Coprime p.toNat q.toNat := by
  have p2 := prime_lo hp
  have q3 := prime_hi hq
  unfold primeB at hq
  simp only [Bool.and_eq_true, decide_eq_true_eq] at hq
  obtain ⟨_, hall⟩ := hq
  refine Decidable.byContradiction fun hc => ?_
  have hg1 : Nat.gcd p.toNat q.toNat ∣ p.toNat := Nat.gcd_dvd_left _ _
  have hg2 : Nat.gcd p.toNat q.toNat ∣ q.toNat := Nat.gcd_dvd_right _ _
  have hg0 : 0 < Nat.gcd p.toNat q.toNat := Nat.gcd_pos_of_pos_left _ (by omega)
  have hgn : Nat.gcd p.toNat q.toNat ≠ 1 := hc
  have hle := Nat.le_of_dvd (by omega) hg1
  obtain ⟨c, hcq⟩ := hg2
  generalize Nat.gcd p.toNat q.toNat = g at *
  have hc1 : c ≠ 0 := fun z => by rw [z, Nat.mul_zero] at hcq; omega
  have hc2 : c ≠ 1 := fun z => by rw [z, Nat.mul_one] at hcq; omega
  have small : ∀ a b : Nat, 2 ≤ a → a ≤ b → q.toNat = a * b → False := by
    intro a b ha hab e
    have h1 : a * a ≤ a * b := Nat.mul_le_mul_left a hab
    have ha31 : a < 32 := Nat.lt_of_not_le fun z => by
      have : 32 * 32 ≤ a * a := Nat.mul_le_mul z z
      omega
    have hj := List.all_eq_true.mp hall (a - 2) (List.mem_range.mpr (by omega))
    have e1 : (((a - 2 : Nat) : Int) + 2) = (a : Int) := by omega
    rw [e1] at hj
    have e2 : (a : Int) * (a : Int) ≤ q := by
      have : ((a * a : Nat) : Int) ≤ ((q.toNat : Nat) : Int) := by omega
      rw [Int.natCast_mul] at this
      omega
    have e3 : q % (a : Int) = 0 := by
      have : q = (a : Int) * (b : Int) := by
        have z : ((q.toNat : Nat) : Int) = ((a * b : Nat) : Int) := by rw [e]
        rw [Int.natCast_mul] at z
        omega
      rw [this]
      exact Int.mul_emod_right _ _
    rw [decide_eq_true e2, decide_eq_true e3] at hj
    cases hj
  by_cases hgc : g ≤ c
  · exact small g c (by omega) hgc hcq
  · exact small c g (by omega) (by omega) (by rw [Nat.mul_comm]; exact hcq)
/-- nothing in f shares anything with the primes from l on -/
def CoL (l : Int) (f : List Int) : Prop := ∀ d ∈ f, 0 < d ∧ ∀ q : Int, primeB q = true → l < q → Nat.Coprime d.toNat q.toNat
theorem toNat_pow {p : Int} (hp : 0 ≤ p) (j : Nat) : (p ^ j).toNat = p.toNat ^ j := by
  have e : p ^ j = ((p.toNat ^ j : Nat) : Int) := by
    rw [Int.natCast_pow, Int.toNat_of_nonneg hp]
  rw [e]
  rfl
theorem toNat_mul_pow {d p : Int} (hd : 0 ≤ d) (hp : 0 ≤ p) (j : Nat) : (d * p ^ j).toNat = d.toNat * p.toNat ^ j := by
  have h1 : 0 ≤ p ^ j := Int.pow_nonneg hp
  rw [Int.toNat_mul hd h1, toNat_pow hp]
theorem co_widen {l : Int} {f : List Int} {p : Int} {k : Nat} (h : CoL l f) (hp : primeB p = true) (hl : l < p) : CoL p (widen f p k) := by
  intro x hx
  obtain ⟨j, d, hj, hd, rfl⟩ := mem_widen.mp hx
  have p2 := prime_lo hp
  obtain ⟨h1, h2⟩ := h d hd
  refine ⟨Int.mul_pos h1 (pow_pos_i (by omega) j), fun q hq hpq => ?_⟩
  rw [toNat_mul_pow (by omega) (by omega)]
  exact Nat.Coprime.mul_left (h2 q hq (by omega)) (Nat.Coprime.pow_left j (prime_co hp hq hpq))
theorem exp_same {d e p : Nat} (hp : 2 ≤ p) (hd : Nat.Coprime d p) (he : Nat.Coprime e p) {i j : Nat} (h : d * p ^ i = e * p ^ j) : i = j := by
  have no : ∀ {d e : Nat}, Nat.Coprime d p → ∀ {i j : Nat}, i < j → d * p ^ i = e * p ^ j → False := by
    intro d e hd i j hij h
    obtain ⟨c, rfl⟩ := Nat.le.dest (Nat.succ_le_of_lt hij)
    have hpi : 0 < p ^ i := Nat.pow_pos (by omega)
    have h1 : p ^ (i + 1 + c) = p ^ i * (p * p ^ c) := by
      rw [Nat.pow_add, Nat.pow_succ, Nat.mul_assoc]
    have h2 : d = e * (p * p ^ c) := by
      rw [h1, ← Nat.mul_assoc, Nat.mul_comm e (p ^ i), Nat.mul_assoc, Nat.mul_comm d] at h
      exact Nat.eq_of_mul_eq_mul_left hpi h
    have h3 : p ∣ d := ⟨e * p ^ c, by rw [h2, ← Nat.mul_assoc, Nat.mul_comm e p, Nat.mul_assoc]⟩
    have h4 : p ∣ Nat.gcd d p := Nat.dvd_gcd h3 (Nat.dvd_refl p)
    rw [show Nat.gcd d p = 1 from hd] at h4
    have := Nat.le_of_dvd (by decide) h4
    omega
  rcases Nat.lt_trichotomy i j with hlt | he' | hgt
  · exact (no hd hlt h).elim
  · exact he'
  · exact (no he hgt h.symm).elim
theorem nodup_map {α β : Type} {f : α → β} : ∀ {l : List α}, l.Nodup → (∀ a ∈ l, ∀ b ∈ l, f a = f b → a = b) → (l.map f).Nodup
  | [], _, _ => List.nodup_nil
  | x :: r, h, hi => by
    obtain ⟨h1, h2⟩ := List.nodup_cons.mp h
    refine List.nodup_cons.mpr ⟨fun hm => ?_, nodup_map h2 fun a ha b hb => hi a (List.mem_cons_of_mem _ ha) b (List.mem_cons_of_mem _ hb)⟩
    obtain ⟨y, hy, e⟩ := List.mem_map.mp hm
    exact h1 (by rw [← hi y (List.mem_cons_of_mem _ hy) x List.mem_cons_self e]; exact hy)
theorem widen_nodup {f : List Int} {p l : Int} (hf : f.Nodup) (h : CoL l f) (hp : primeB p = true) (hl : l < p) : ∀ k : Nat, (widen f p k).Nodup
  | 0 => List.nodup_nil
  | k + 1 => by
    have p2 := prime_lo hp
    have hpk := pow_pos_i (show 0 < p by omega) k
    rw [widen_succ]
    refine List.nodup_append.mpr ⟨widen_nodup hf h hp hl k, nodup_map hf fun a _ b _ e => Int.eq_of_mul_eq_mul_right (by omega) e, fun a ha b hb e => ?_⟩
    obtain ⟨j, d, hj, hd, rfl⟩ := mem_widen.mp ha
    obtain ⟨d', hd', rfl⟩ := List.mem_map.mp hb
    obtain ⟨c1, c2⟩ := h d hd
    obtain ⟨c3, c4⟩ := h d' hd'
    have e2 : (d * p ^ j).toNat = (d' * p ^ k).toNat := by rw [e]
    rw [toNat_mul_pow (by omega) (by omega), toNat_mul_pow (by omega) (by omega)] at e2
    have := exp_same (p := p.toNat) (by omega) (c2 p hp hl) (c4 p hp hl) e2
    omega
theorem uds_nodup_aux : ∀ (L : List (Int × Int)) (f : List Int) (l : Int), riseB l L = true → f.Nodup → CoL l f → (L.foldl (fun f q => widen f q.1 (q.2.toNat + 1)) f).Nodup
  | [], f, _, _, hf, _ => hf
  | q :: r, f, l, h, hf, hc => by
    obtain ⟨h1, h2, h3, h4⟩ := rise_cons h
    exact uds_nodup_aux r _ q.1 h4 (widen_nodup hf hc h1 h3 _) (co_widen hc h1 h3)
theorem uds_nodup {L : List (Int × Int)} (g : Good L) : (uds L).Nodup := uds_nodup_aux L [1] 0 g.rise (by decide) fun d hd => by
  rw [List.mem_singleton.mp hd]
  exact ⟨by decide, fun q _ _ => Nat.coprime_one_left _⟩
theorem ds_nodup {L : List (Int × Int)} (g : Good L) : (ds L).Nodup := (isort_perm (uds L)).nodup_iff.mpr (uds_nodup g)
/-! ### what is made -/
def madeV (L : List (Int × Int)) (m : Int) : List Int := isort (pick (ds L).reverse m)
theorem pick_mem {L : List (Int × Int)} {m d : Int} (h : d ∈ pick (ds L).reverse m) : d ∈ ds L := List.mem_reverse.mp ((pick_sub _ m).subset h)
theorem pick_nodup {L : List (Int × Int)} (g : Good L) (m : Int) : (pick (ds L).reverse m).Nodup := (pick_sub _ m).nodup ((List.reverse_perm _).nodup_iff.mpr (ds_nodup g))
theorem made_nodup {L : List (Int × Int)} (g : Good L) (m : Int) : (madeV L m).Nodup := (isort_perm _).nodup_iff.mpr (pick_nodup g m)
theorem made_mem {L : List (Int × Int)} {m d : Int} (h : d ∈ madeV L m) : d ∈ ds L := pick_mem (isort_mem.mp h)
theorem made_sum {L : List (Int × Int)} (g : Good L) (h : isAll L = true) {m : Int} (h0 : 0 ≤ m) (hm : m ≤ tot L) : (madeV L m).sum = m := by
  unfold madeV
  rw [isort_sum]
  exact pick_sum h (ds_pos g) m h0 hm
theorem made_len {L : List (Int × Int)} (g : Good L) (m : Int) : (madeV L m).length ≤ 500 := by
  unfold madeV
  rw [isort_len]
  have h1 := (pick_sub (ds L).reverse m).length_le
  rw [List.length_reverse] at h1
  have := ds_len_le g
  omega
theorem set_same {a b : List Int} (ha : a.Nodup) (hb : b.Nodup) (sa : a.Pairwise (· ≤ ·)) (sb : b.Pairwise (· ≤ ·)) (h : ∀ k, k ∈ a ↔ k ∈ b) : a = b := by
  refine sorted_same (List.perm_iff_count.mpr fun k => ?_) sa sb
  rw [List.Nodup.count ha, List.Nodup.count hb]
  simp only [h k]
/-! ### promises -/
section
variable (K : PySem.W.Frag)
def spPicked : Sp := fun vs H Q _ => ∃ (a : Addr) (l : List Int) (m : Int), vs = [.ref a, .int m] ∧ SqL K H a (l.map V.int) ∧ l.length ≤ 1000 ∧ RetF (fun p H2 => H2 p = some (.lst ((pick l.reverse m).map V.int))) H Q
def spMade (cN : Addr) : Sp := fun vs H Q E => ∃ (a : Addr) (L : List (Int × Int)) (m : Int), vs = [.ref a, .int m] ∧ NumAt K H a L ∧ Good L ∧ (0 ≤ m ∧ m ≤ tot L) ∧ (isAll L = true → RetF (fun p H2 => H2 p = some (.lst ((madeV L m).map V.int))) H Q) ∧ (isAll L = false → ∀ H1, Ex H H1 → E (.ref cN) none H1)
def spNone2 : Sp := fun vs H Q _ => ∃ (a : Addr) (L : List (Int × Int)) (m : Int), vs = [.ref a, .int m] ∧ NumAt K H a L ∧ Good L ∧ (0 ≤ m ∧ m ≤ tot L) ∧ isAll L = false ∧ RetV (.bl true) H Q
def sp2Right : Sp := fun vs H Q _ => ∃ (a b : Addr) (L : List (Int × Int)) (m : Int), vs = [.ref a, .ref b, .int m] ∧ NumAt K H a L ∧ Good L ∧ SqL K H b ((ds L).map V.int) ∧ (0 ≤ m ∧ m ≤ tot L) ∧ isAll L = true ∧ RetV (.bl true) H Q
end
section
variable {K : PySem.W.Frag} {H : Hp} {a b cN : Addr} {L : List (Int × Int)} {m : Int}
theorem sf_picked {l : List Int} (h : SqL K H a (l.map V.int)) (hl : l.length ≤ 1000) : SpF (spPicked K) [.ref a, .int m] H (fun p H2 => H2 p = some (.lst ((pick l.reverse m).map V.int))) := fun H1 e Q q _ => ⟨a, l, m, rfl, ex_l e h, hl, q⟩
theorem sf_made (h : NumAt K H a L) (g : Good L) (hm : 0 ≤ m ∧ m ≤ tot L) (ha : isAll L = true) : SpF (spMade K cN) [.ref a, .int m] H (fun p H2 => H2 p = some (.lst ((madeV L m).map V.int))) := fun H1 e Q q _ => ⟨a, L, m, rfl, h.ex e, g, hm, fun _ => q, fun z => by rw [ha] at z; cases z⟩
theorem sv_none2 (h : NumAt K H a L) (g : Good L) (hm : 0 ≤ m ∧ m ≤ tot L) (ha : isAll L = false) : SpV (spNone2 K) [.ref a, .int m] H (.bl true) := fun H1 e Q q _ => ⟨a, L, m, rfl, h.ex e, g, hm, ha, q⟩
theorem sv_2Right (h : NumAt K H a L) (g : Good L) (hb : SqL K H b ((ds L).map V.int)) (hm : 0 ≤ m ∧ m ≤ tot L) (ha : isAll L = true) : SpV (sp2Right K) [.ref a, .ref b, .int m] H (.bl true) := fun H1 e Q q _ => ⟨a, b, L, m, rfl, h.ex e, g, ex_l e hb, hm, ha, q⟩
end
section
variable {K : PySem.W.Frag} {σ : L2.St} {H : Hp} {te : TE} {a : Addr} {l : List Int}
theorem el_cbF {rc : List V → Hp → VK → Prop} {PF : Addr → Hp → Prop} {xs : List V} (h : EvF te σ H PF) (hr : ∀ p H1, PF p H1 → Ex H H1 → RCL rc [.ref p] H1 xs) : EvL (tCB rc (tCons te tNil)) σ H xs := el_f (ef_cbF (PG := fun p H2 => H2 p = some (.lst xs)) h hr)
theorem inV_ints {d : Int} : ∀ {l : List Int}, d ∈ l → inV (.int d) (l.map V.int) = true := fun {l} h => by
  unfold inV
  exact List.any_eq_true.mpr ⟨.int d, List.mem_map.mpr ⟨d, h, rfl⟩, by unfold eqV; simp⟩
theorem flat_ints : ∀ l : List Int, (l.map V.int).all flatV = true
  | [] => rfl
  | _ :: r => flat_ints r
theorem rv_inI {d : Int} (h : SqL K H a (l.map V.int)) (hd : d ∈ l) : RV (rIn K false) (.int d) (.ref a) H (.bl true) := by
  have q := rv_isL (x := .int d) h rfl (flat_ints l)
  rw [inV_ints hd] at q
  exact q
end
theorem at_mod {l : List Int} (hl : 0 < l.length) (x : Int) : ∃ d, d ∈ l ∧ atI (l.map V.int) (x % ((l.map V.int).length : Int)) = some (.int d) := by
  rw [List.length_map]
  have h0 := Int.emod_nonneg x (show (l.length : Int) ≠ 0 by omega)
  have h1 := Int.emod_lt_of_pos x (show (0 : Int) < l.length by omega)
  refine ⟨_, ?_, atI_int h0 h1⟩
  rw [List.getD_eq_getElem?_getD, List.getElem?_eq_getElem (show (x % (l.length : Int)).toNat < l.length by omega)]
  exact List.getElem_mem _
theorem mem_le_sum {l : List Int} (hp : ∀ d ∈ l, 0 < d) {d : Int} (h : d ∈ l) : d ≤ l.sum := by
  induction l with
  | nil => cases h
  | cons a r ih =>
    have ha := hp a List.mem_cons_self
    have hr := sum_nonneg (l := r) fun z hz => hp z (List.mem_cons_of_mem _ hz)
    rw [List.sum_cons]
    rcases List.mem_cons.mp h with rfl | h
    · omega
    · have := ih (fun z hz => hp z (List.mem_cons_of_mem _ hz)) h
      omega
theorem ds_ne {L : List (Int × Int)} (g : Good L) : 0 < (ds L).length := by
  obtain ⟨i, e⟩ := ds_last g
  rw [e, List.length_append]
  exact Nat.succ_pos _
theorem tot_one {L : List (Int × Int)} (g : Good L) : 1 ≤ tot L := by
  have h := List.getElem_mem (ds_ne g)
  have h1 := ds_pos g _ h
  have h2 := mem_le_sum (ds_pos g) h
  show 1 ≤ (ds L).sum
  omega
/-- a tuple of numbers all sums of which are made -/
def NumsT (K : PySem.W.Frag) (p : Addr) (H : Hp) : Prop := ∃ os : List (Addr × List (Int × Int)), SqT K H p (os.map fun o => V.ref o.1) ∧ ∀ o ∈ os, NumAt K H o.1 o.2 ∧ Good o.2 ∧ isAll o.2 = true ∧ tot o.2 ≤ 1000
section
variable {K : PySem.W.Frag} {σ : L2.St} {H H' : Hp} {ta tb tc td te : TE} {a p : Addr} {D : Ends} {tu tz : TS} {g : TG}
theorem ef_tupP {ta : TA} {P : List V → Hp → Prop} (h : EvAP ta σ H P) (hm : MonoL P) (hl : ∀ vs H1, P vs H1 → vs.length ≤ 100000) : EvF (tTup ta) σ H (fun p H2 => ∃ vs, H2 p = some (.tup vs) ∧ P vs H2) := fun H1 e _ q =>
  h H1 e _ fun vs H2 e2 hp => ⟨sz_of (hl _ _ hp), fun p np => q p _ (fresh_back e2 np) (e2.trans (Ex.new np)) ⟨vs, upd_same, hm _ _ _ (Ex.new np) hp⟩⟩
theorem ef_three {M2 M3 M4 : List (Int × Int)} (h2 : EvF tb σ H (NewN K M2)) (h3 : EvF tc σ H (NewN K M3)) (h4 : EvF td σ H (NewN K M4)) (g2 : Good M2 ∧ isAll M2 = true ∧ tot M2 ≤ 1000) (g3 : Good M3 ∧ isAll M3 = true ∧ tot M3 ≤ 1000) (g4 : Good M4 ∧ isAll M4 = true ∧ tot M4 ≤ 1000) :
    EvF (tTup (tCons tb (tCons tc (tCons td tNil)))) σ H (NumsT K) :=
  (ef_tupP (eap_f h2 mono_newN (eap_f h3 mono_newN (eap_f h4 mono_newN eap_nil)))
    (fun vs H1 H2 e ⟨p2, r2, e2, k2, p3, r3, e3, k3, p4, r4, e4, k4, e5⟩ => ⟨p2, r2, e2, mono_newN _ _ _ e k2, p3, r3, e3, mono_newN _ _ _ e k3, p4, r4, e4, mono_newN _ _ _ e k4, e5⟩)
    (fun vs H1 ⟨p2, r2, e2, k2, p3, r3, e3, k3, p4, r4, e4, k4, e5⟩ => by subst e5 e4 e3 e2; show 3 ≤ 100000; decide)).imp
    fun p H2 e ⟨vs, hp, p2, r2, e2, k2, p3, r3, e3, k3, p4, r4, e4, k4, e5⟩ => by
      subst e5 e4 e3 e2
      refine ⟨[(p2, M2), (p3, M3), (p4, M4)], st_of hp, fun o ho => ?_⟩
      rcases List.mem_cons.mp ho with rfl | ho
      · exact ⟨k2.num, g2⟩
      rcases List.mem_cons.mp ho with rfl | ho
      · exact ⟨k3.num, g3⟩
      rw [List.mem_singleton.mp ho]
      exact ⟨k4.num, g4⟩
theorem q_forTF {P : Addr → Hp → Prop} (h : EvF te σ H P) (k : ∀ p H1, H p = none → Ex H H1 → P p H1 → tSeq (tFor (iTup K (tC (.ref p))) g tu) tz D σ H1) : tSeq (tFor (iTup K te) g tu) tz D σ H := h H (Ex.refl H) _ fun p H1 np e hp => k p H1 np e hp
end
theorem three_a : Good [(2, 2), (3, 1)] ∧ isAll [(2, 2), (3, 1)] = true ∧ tot [(2, 2), (3, 1)] ≤ 1000 := ⟨⟨by decide +kernel, by decide⟩, by decide +kernel, by decide +kernel⟩
theorem three_b : Good [(2, 1), (3, 2)] ∧ isAll [(2, 1), (3, 2)] = true ∧ tot [(2, 1), (3, 2)] ≤ 1000 := ⟨⟨by decide +kernel, by decide⟩, by decide +kernel, by decide +kernel⟩
theorem three_c : Good [(2, 3), (3, 1)] ∧ isAll [(2, 3), (3, 1)] = true ∧ tot [(2, 3), (3, 1)] ≤ 1000 := ⟨⟨by decide +kernel, by decide⟩, by decide +kernel, by decide +kernel⟩
theorem made_0 : madeV [] 1 = [1] := by decide +kernel
theorem made_499 : madeV [(2, 499)] 5 = [1, 4] := by decide +kernel
theorem tot_0 : (0 : Int) ≤ 1 ∧ 1 ≤ tot [] := by decide +kernel
theorem tot_499 : (0 : Int) ≤ 5 ∧ 5 ≤ tot [(2, 499)] := by decide +kernel
theorem g_14 : Good [(2, 1), (7, 1)] := ⟨by decide +kernel, by decide⟩
theorem all_3 : isAll [(3, 1)] = false := by decide +kernel
theorem all_14 : isAll [(2, 1), (7, 1)] = false := by decide +kernel
theorem tot_3 : (0 : Int) ≤ 2 ∧ 2 ≤ tot [(3, 1)] := by decide +kernel
theorem tot_14 : (0 : Int) ≤ 3 ∧ 3 ≤ tot [(2, 1), (7, 1)] := by decide +kernel
/-- the own errors that a caught one is asked for -/
structure CatC (K : PySem.W.Frag) (mg : Str → Option Value) (cS cN cX cY cZ : Addr) : Prop where
  exc : ExcC K cN
  exm : PySem.W.exmOne K (.ref cN) (.ref cS) = some true
  nn : PySem.W.kitOne K (.ref cN) (.ref cN) = some true
  nx : PySem.W.kitOne K (.ref cN) (.ref cX) = some false
  ny : PySem.W.kitOne K (.ref cN) (.ref cY) = some false
  nz : PySem.W.kitOne K (.ref cN) (.ref cZ) = some false
end Es
set_option maxHeartbeats 2000000
namespace Es
open PySem PySem.Spec PyProof.Rows L2 Evl
/-! ### divisors, whatever the order of the primes -/
def isDiv : List (Int × Int) → Int → Prop
  | [], x => x = 1
  | q :: r, x => ∃ j d, j ≤ q.2.toNat ∧ isDiv r d ∧ x = q.1 ^ j * d
theorem isDiv_app : ∀ {L M : List (Int × Int)} {x : Int}, isDiv (L ++ M) x ↔ ∃ a b, isDiv L a ∧ isDiv M b ∧ x = a * b
  | [], M, x => ⟨fun h => ⟨1, x, rfl, h, (Int.one_mul x).symm⟩, fun ⟨a, b, ha, hb, e⟩ => by
    have ha' : a = 1 := ha
    rw [e, ha', Int.one_mul]
    exact hb⟩
  | q :: r, M, x => by
    constructor
    · rintro ⟨j, d, hj, hd, e⟩
      obtain ⟨a, b, ha, hb, e2⟩ := isDiv_app.mp hd
      exact ⟨q.1 ^ j * a, b, ⟨j, a, hj, ha, rfl⟩, hb, by rw [e, e2, Int.mul_assoc]⟩
    · rintro ⟨a, b, ⟨j, d, hj, hd, e⟩, hb, e2⟩
      exact ⟨j, d * b, hj, isDiv_app.mpr ⟨d, b, hd, hb, rfl⟩, by rw [e2, e, Int.mul_assoc]⟩
theorem isDiv_perm {L M : List (Int × Int)} (h : L.Perm M) : ∀ x, isDiv L x ↔ isDiv M x := by
  induction h with
  | nil => exact fun _ => Iff.rfl
  | cons q _ ih => exact fun x => ⟨fun ⟨j, d, hj, hd, e⟩ => ⟨j, d, hj, (ih d).mp hd, e⟩, fun ⟨j, d, hj, hd, e⟩ => ⟨j, d, hj, (ih d).mpr hd, e⟩⟩
  | swap p q l => exact fun x => ⟨fun ⟨j, _, hj, ⟨i, d, hi, hd, e⟩, e2⟩ => ⟨i, _, hi, ⟨j, d, hj, hd, rfl⟩, by rw [e2, e, Int.mul_left_comm]⟩, fun ⟨j, _, hj, ⟨i, d, hi, hd, e⟩, e2⟩ => ⟨i, _, hi, ⟨j, d, hj, hd, rfl⟩, by rw [e2, e, Int.mul_left_comm]⟩⟩
  | trans _ _ h1 h2 => exact fun x => (h1 x).trans (h2 x)
theorem mem_fold : ∀ (L : List (Int × Int)) (f : List Int) (x : Int), x ∈ L.foldl (fun f q => widen f q.1 (q.2.toNat + 1)) f ↔ ∃ c d, c ∈ f ∧ isDiv L d ∧ x = c * d
  | [], f, x => ⟨fun h => ⟨x, 1, h, rfl, (Int.mul_one x).symm⟩, fun ⟨c, d, hc, hd, e⟩ => by
    have hd' : d = 1 := hd
    rw [e, hd', Int.mul_one]
    exact hc⟩
  | q :: r, f, x => by
    refine (mem_fold r _ x).trans ⟨?_, ?_⟩
    · rintro ⟨c, d, hc, hd, e⟩
      obtain ⟨j, c', hj, hc', e2⟩ := mem_widen.mp hc
      exact ⟨c', q.1 ^ j * d, hc', ⟨j, d, by omega, hd, rfl⟩, by rw [e, e2, Int.mul_assoc]⟩
    · rintro ⟨c, _, hc, ⟨j, d, hj, hd, rfl⟩, e⟩
      exact ⟨c * q.1 ^ j, d, mem_widen.mpr ⟨j, c, by omega, hc, rfl⟩, hd, by rw [e, Int.mul_assoc]⟩
theorem mem_ds {L : List (Int × Int)} {x : Int} : x ∈ ds L ↔ isDiv L x := isort_mem.trans ((mem_fold L [1] x).trans ⟨fun ⟨c, d, hc, hd, e⟩ => by
  rw [List.mem_singleton] at hc
  rw [e, hc, Int.one_mul]
  exact hd, fun h => ⟨1, x, List.mem_singleton.mpr rfl, h, (Int.one_mul x).symm⟩⟩)
/-! ### sums of lesser divisors -/
def below (l : List Int) (x : Int) : Int := (l.filter fun d => decide (d < x)).sum
theorem filter_pos {l : List Int} {p : Int → Bool} (h : ∀ d ∈ l, 0 < d) : ∀ d ∈ l.filter p, 0 < d := fun d hd => h d (List.mem_filter.mp hd).1
/-- all sums made: what is no greater than all and one is no greater than the lesser ones and one -/
theorem all_below : ∀ {r : List Int} {t : Int} (x : Int), allI t r = true → (∀ d ∈ r, 0 < d) → x ≤ t + r.sum + 1 → x ≤ t + below r x + 1
  | [], t, x, _, _, h => h
  | d :: r, t, x, ha, hp, h => by
    unfold allI at ha
    have hr := sum_nonneg (filter_pos (p := fun d => decide (d < x)) hp)
    split at ha
    · cases ha
    · by_cases hd : d < x
      · have ih := all_below x ha (fun z hz => hp z (List.mem_cons_of_mem _ hz)) (by rw [List.sum_cons] at h; omega)
        have e : below (d :: r) x = d + below r x := by
          unfold below
          rw [List.filter_cons, if_pos (decide_eq_true hd), List.sum_cons]
        omega
      · have : 0 ≤ below (d :: r) x := hr
        omega
theorem all_of : ∀ {r : List Int} {t : Int}, r.Pairwise (· < ·) → (∀ d ∈ r, d ≤ t + below r d + 1) → allI t r = true
  | [], _, _, _ => rfl
  | d :: r, t, hs, h => by
    obtain ⟨h1, h2⟩ := List.pairwise_cons.mp hs
    have e0 : below (d :: r) d = 0 := by
      have : (d :: r).filter (fun z => decide (z < d)) = [] := List.filter_eq_nil_iff.mpr fun z hz => by
        rcases List.mem_cons.mp hz with rfl | hz
        · simp
        · have := h1 z hz
          simp
          omega
      unfold below
      rw [this]
      rfl
    have hd := h d List.mem_cons_self
    rw [e0] at hd
    unfold allI
    rw [if_neg (by omega)]
    refine all_of h2 fun z hz => ?_
    have hz2 := h z (List.mem_cons_of_mem _ hz)
    have e : below (d :: r) z = d + below r z := by
      unfold below
      rw [List.filter_cons, if_pos (decide_eq_true (h1 z hz)), List.sum_cons]
    omega
theorem sum_sub : ∀ {t l : List Int}, t.Nodup → (∀ x ∈ t, x ∈ l) → (∀ x ∈ l, 0 < x) → t.sum ≤ l.sum
  | [], l, _, _, hp => sum_nonneg hp
  | x :: r, l, hn, hs, hp => by
    obtain ⟨h1, h2⟩ := List.nodup_cons.mp hn
    have hx := hs x List.mem_cons_self
    have pe := List.perm_cons_erase hx
    have ih := sum_sub (t := r) (l := l.erase x) h2 (fun y hy => (List.mem_erase_of_ne (fun z => h1 (by rw [← z]; exact hy))).mpr (hs y (List.mem_cons_of_mem _ hy))) fun y hy => hp y (List.mem_of_mem_erase hy)
    rw [perm_sum pe, List.sum_cons, List.sum_cons]
    omega
theorem sum_map_mul (m : Int) : ∀ l : List Int, (l.map fun c => m * c).sum = m * l.sum
  | [] => by simp
  | a :: r => by rw [List.map_cons, List.sum_cons, List.sum_cons, sum_map_mul m r, Int.mul_add]
theorem ds_strict {L : List (Int × Int)} (h : riseB 0 L = true) (hn : (uds L).Nodup) : (ds L).Pairwise (· < ·) := by
  have h1 := isort_sorted (uds L)
  have h2 : (isort (uds L)).Nodup := (isort_perm (uds L)).nodup_iff.mpr hn
  exact h1.imp₂ (fun a b (h : a ≤ b) (h' : a ≠ b) => by omega) h2
/-- point 6 -/
theorem all_joined {L M J : List (Int × Int)} (gL : Good L) (gM : Good M) (gJ : Good J) (hJ : ∀ x, isDiv J x ↔ isDiv (L ++ M) x) (ha : isAll L = true) (hm : ∀ b ∈ ds M, b ≤ tot L + 1) : isAll J = true := by
  refine all_of (ds_strict gJ.rise (uds_nodup gJ)) fun x hx => ?_
  obtain ⟨c, b, hc, hb, e⟩ := isDiv_app.mp ((hJ x).mp (mem_ds.mp hx))
  have hc' := mem_ds.mpr hc
  have hb' := mem_ds.mpr hb
  have c0 := ds_pos gL c hc'
  have b0 := ds_pos gM b hb'
  have hB : b ≤ 0 + below (ds L) b + 1 := all_below b ha (ds_pos gL) (by rw [Int.zero_add]; exact hm b hb')
  have hC : c ≤ 0 + below (ds L) c + 1 := all_below c ha (ds_pos gL) (by have := mem_le_sum (ds_pos gL) hc'; omega)
  have one : isDiv M 1 := by
    have h := ds_ne gM
    clear hJ hx hb hb' hm
    induction M with
    | nil => rfl
    | cons q r ih => exact ⟨0, 1, Nat.zero_le _, by
        clear ih h gM
        induction r with
        | nil => rfl
        | cons q r ih => exact ⟨0, 1, Nat.zero_le _, ih, by simp⟩, by simp⟩
  have hsub := sum_sub (t := ((ds L).filter fun d => decide (d < c)).map (fun d => b * d) ++ (ds L).filter fun d => decide (d < b)) (l := (ds J).filter fun d => decide (d < x)) ?_ ?_ (filter_pos (ds_pos gJ))
  · rw [List.sum_append, sum_map_mul] at hsub
    have h1 : b * (c - 1) ≤ b * below (ds L) c := Int.mul_le_mul_of_nonneg_left (by omega) (by omega)
    have h2 : b * (c - 1) = b * c - b := by rw [Int.mul_sub, Int.mul_one]
    have h3 : x = b * c := by rw [e, Int.mul_comm]
    unfold below at h1 hB
    show x ≤ 0 + below (ds J) x + 1
    unfold below
    omega
  · refine List.nodup_append.mpr ⟨nodup_map ((ds_nodup gL).filter _) fun a _ a' _ h => Int.eq_of_mul_eq_mul_left (by omega) h, (ds_nodup gL).filter _, fun a ha a' ha' h => ?_⟩
    obtain ⟨d, hd, rfl⟩ := List.mem_map.mp ha
    have d0 := ds_pos gL d (List.mem_filter.mp hd).1
    have h2 := of_decide_eq_true (List.mem_filter.mp ha').2
    have h3 : b * 1 ≤ b * d := Int.mul_le_mul_of_nonneg_left (by omega) (by omega)
    omega
  · intro y hy
    rcases List.mem_append.mp hy with hy | hy
    · obtain ⟨d, hd, rfl⟩ := List.mem_map.mp hy
      obtain ⟨hd1, hd2⟩ := List.mem_filter.mp hd
      have hd2 := of_decide_eq_true hd2
      refine List.mem_filter.mpr ⟨mem_ds.mpr ((hJ _).mpr (isDiv_app.mpr ⟨d, b, mem_ds.mp hd1, hb, Int.mul_comm b d⟩)), decide_eq_true ?_⟩
      rw [e, Int.mul_comm c b]
      exact Int.mul_lt_mul_of_pos_left hd2 b0
    · obtain ⟨hd1, hd2⟩ := List.mem_filter.mp hy
      have hd2 := of_decide_eq_true hd2
      refine List.mem_filter.mpr ⟨mem_ds.mpr ((hJ _).mpr (isDiv_app.mpr ⟨y, 1, mem_ds.mp hd1, one, (Int.mul_one y).symm⟩)), decide_eq_true ?_⟩
      have h3 : 1 * b ≤ c * b := Int.mul_le_mul_of_nonneg_right (by omega) (by omega)
      omega
end Es
set_option maxHeartbeats 2000000
namespace Es
open PySem PySem.Spec PyProof.Rows L2 Evl
/-! ### two numbers put together, prime by prime -/
def addI : List (Int × Int) → Int × Int → List (Int × Int)
  | [], q => [q]
  | d :: r, q => if d.1 = q.1 then (d.1, d.2 + q.2) :: r else d :: addI r q
def ksI (D : List (Int × Int)) : List Int := D.map (·.1)
def getI : List (Int × Int) → Int → Int
  | [], _ => 0
  | d :: r, p => if d.1 = p then d.2 else getI r p
def sumI (N : List (Int × Int)) : List (Int × Int) := N.foldl addI []
def joinV (L M : List (Int × Int)) : List (Int × Int) := (isort (ksI (sumI (L ++ M)))).map fun p => (p, getI (sumI (L ++ M)) p)
theorem sumI_snoc (N : List (Int × Int)) (q : Int × Int) : sumI (N ++ [q]) = addI (sumI N) q := by
  unfold sumI
  rw [List.foldl_append]
  rfl
theorem ks_add : ∀ (D : List (Int × Int)) (q : Int × Int) (p : Int), p ∈ ksI (addI D q) ↔ p ∈ ksI D ∨ p = q.1
  | [], q, p => by simp [addI, ksI]
  | d :: r, q, p => by
    unfold addI
    split
    · rename_i e
      show p ∈ d.1 :: ksI r ↔ p ∈ d.1 :: ksI r ∨ p = q.1
      constructor
      · exact Or.inl
      · rintro (h | h)
        · exact h
        · rw [h, ← e]
          exact List.mem_cons_self
    · show p ∈ d.1 :: ksI (addI r q) ↔ p ∈ d.1 :: ksI r ∨ p = q.1
      rw [List.mem_cons, List.mem_cons, ks_add r q p, or_assoc]
theorem ks_nodup : ∀ {D : List (Int × Int)} (q : Int × Int), (ksI D).Nodup → (ksI (addI D q)).Nodup
  | [], q, _ => List.nodup_cons.mpr ⟨fun h => (by cases h), List.nodup_nil⟩
  | d :: r, q, h => by
    obtain ⟨h1, h2⟩ := List.nodup_cons.mp h
    unfold addI
    split
    · exact List.nodup_cons.mpr ⟨h1, h2⟩
    · rename_i e
      refine List.nodup_cons.mpr ⟨fun hm => ?_, ks_nodup q h2⟩
      rcases (ks_add r q d.1).mp hm with z | z
      · exact h1 z
      · exact e z
theorem sum_nodup (N : List (Int × Int)) : (ksI (sumI N)).Nodup := by
  have key : ∀ (N D : List (Int × Int)), (ksI D).Nodup → (ksI (N.foldl addI D)).Nodup := fun N => by
    induction N with
    | nil => exact fun D h => h
    | cons q r ih => exact fun D h => ih _ (ks_nodup q h)
  exact key N [] List.nodup_nil
theorem get_mem : ∀ {D : List (Int × Int)}, (ksI D).Nodup → ∀ q ∈ D, getI D q.1 = q.2
  | d :: r, h, q, hq => by
    obtain ⟨h1, h2⟩ := List.nodup_cons.mp h
    unfold getI
    rcases List.mem_cons.mp hq with rfl | hq
    · exact if_pos rfl
    · rw [if_neg fun e => h1 (show d.1 ∈ r.map (·.1) from by rw [e]; exact List.mem_map.mpr ⟨q, hq, rfl⟩)]
      exact get_mem h2 q hq
theorem join_perm (L M : List (Int × Int)) : (joinV L M).Perm (sumI (L ++ M)) := by
  have hn := sum_nodup (L ++ M)
  unfold joinV
  refine ((isort_perm _).map _).trans (List.Perm.of_eq ?_)
  unfold ksI
  rw [List.map_map]
  refine (List.map_congr_left fun q hq => ?_).trans (List.map_id _)
  show (q.1, getI (sumI (L ++ M)) q.1) = q
  rw [get_mem hn q hq]
/-! what is kept -/
def wR : List (Int × Int) → Int
  | [] => 1
  | q :: r => q.1 ^ q.2.toNat * wR r
def mR : List (Int × Int) → Int
  | [] => 1
  | q :: r => (q.2 + 1) * mR r
theorem worth_wR (L : List (Int × Int)) : worthI L = wR L := by
  have key : ∀ (L : List (Int × Int)) (w : Int), L.foldl (fun w q => w * q.1 ^ q.2.toNat) w = w * wR L := fun L => by
    induction L with
    | nil => exact fun w => (Int.mul_one w).symm
    | cons q r ih => exact fun w => (ih _).trans (Int.mul_assoc ..)
  exact (key L 1).trans (Int.one_mul _)
theorem many_mR (L : List (Int × Int)) : many L = mR L := by
  have key : ∀ (L : List (Int × Int)) (w : Int), L.foldl (fun m q => m * (q.2 + 1)) w = w * mR L := fun L => by
    induction L with
    | nil => exact fun w => (Int.mul_one w).symm
    | cons q r ih => exact fun w => (ih _).trans (Int.mul_assoc ..)
  exact (key L 1).trans (Int.one_mul _)
theorem wR_perm {L M : List (Int × Int)} (h : L.Perm M) : wR L = wR M := by
  induction h with
  | nil => rfl
  | cons q _ ih => show _ * _ = _ * _; rw [ih]
  | swap p q l => exact Int.mul_left_comm ..
  | trans _ _ h1 h2 => exact h1.trans h2
theorem mR_perm {L M : List (Int × Int)} (h : L.Perm M) : mR L = mR M := by
  induction h with
  | nil => rfl
  | cons q _ ih => show _ * _ = _ * _; rw [ih]
  | swap p q l => exact Int.mul_left_comm ..
  | trans _ _ h1 h2 => exact h1.trans h2
theorem wR_app : ∀ L M : List (Int × Int), wR (L ++ M) = wR L * wR M
  | [], M => (Int.one_mul _).symm
  | q :: r, M => by
    show _ * wR (r ++ M) = _ * wR r * wR M
    rw [wR_app r M, Int.mul_assoc]
theorem mR_app : ∀ L M : List (Int × Int), mR (L ++ M) = mR L * mR M
  | [], M => (Int.one_mul _).symm
  | q :: r, M => by
    show _ * mR (r ++ M) = _ * mR r * mR M
    rw [mR_app r M, Int.mul_assoc]
def Exps (D : List (Int × Int)) : Prop := ∀ q ∈ D, 1 ≤ q.2
theorem exps_add {D : List (Int × Int)} {q : Int × Int} (h : Exps D) (hq : 1 ≤ q.2) : Exps (addI D q) := by
  induction D with
  | nil => exact fun z hz => by rw [List.mem_singleton.mp hz]; exact hq
  | cons d r ih =>
    have hd := h d List.mem_cons_self
    have hr : Exps r := fun z hz => h z (List.mem_cons_of_mem _ hz)
    unfold addI
    split
    · intro z hz
      rcases List.mem_cons.mp hz with rfl | hz
      · show 1 ≤ d.2 + q.2
        omega
      · exact hr z hz
    · intro z hz
      rcases List.mem_cons.mp hz with rfl | hz
      · exact hd
      · exact ih hr z hz
theorem mR_pos : ∀ {D : List (Int × Int)}, Exps D → 1 ≤ mR D
  | [], _ => Int.le_refl _
  | q :: r, h => by
    have h1 := h q List.mem_cons_self
    have h2 := mR_pos (D := r) fun z hz => h z (List.mem_cons_of_mem _ hz)
    show 1 ≤ (q.2 + 1) * mR r
    have : 2 * 1 ≤ (q.2 + 1) * mR r := Int.mul_le_mul (by omega) h2 (by omega) (by omega)
    omega
theorem wR_add : ∀ {D : List (Int × Int)} {q : Int × Int}, Exps D → 1 ≤ q.2 → wR (addI D q) = q.1 ^ q.2.toNat * wR D
  | [], q, _, _ => rfl
  | d :: r, q, h, hq => by
    have hd := h d List.mem_cons_self
    have hr : Exps r := fun z hz => h z (List.mem_cons_of_mem _ hz)
    unfold addI
    split
    · rename_i e
      show d.1 ^ (d.2 + q.2).toNat * wR r = q.1 ^ q.2.toNat * (d.1 ^ d.2.toNat * wR r)
      rw [← e, show (d.2 + q.2).toNat = q.2.toNat + d.2.toNat by omega, Int.pow_add, Int.mul_assoc]
    · show d.1 ^ d.2.toNat * wR (addI r q) = q.1 ^ q.2.toNat * (d.1 ^ d.2.toNat * wR r)
      rw [wR_add hr hq, Int.mul_left_comm]
theorem mR_add : ∀ {D : List (Int × Int)} {q : Int × Int}, Exps D → 1 ≤ q.2 → mR (addI D q) ≤ (q.2 + 1) * mR D
  | [], q, _, _ => Int.le_refl _
  | d :: r, q, h, hq => by
    have hd := h d List.mem_cons_self
    have hr : Exps r := fun z hz => h z (List.mem_cons_of_mem _ hz)
    have hm := mR_pos hr
    unfold addI
    split
    · show (d.2 + q.2 + 1) * mR r ≤ (q.2 + 1) * ((d.2 + 1) * mR r)
      rw [← Int.mul_assoc]
      refine Int.mul_le_mul_of_nonneg_right ?_ (by omega)
      have : 0 ≤ q.2 * d.2 := Int.mul_nonneg (by omega) (by omega)
      rw [Int.add_mul, Int.mul_add, Int.mul_one, Int.one_mul]
      omega
    · show (d.2 + 1) * mR (addI r q) ≤ (q.2 + 1) * ((d.2 + 1) * mR r)
      rw [Int.mul_left_comm]
      exact Int.mul_le_mul_of_nonneg_left (mR_add hr hq) (by omega)
theorem div_add : ∀ {D : List (Int × Int)} {q : Int × Int}, Exps D → 1 ≤ q.2 → ∀ x, isDiv (addI D q) x ↔ isDiv (q :: D) x
  | [], q, _, _, x => Iff.rfl
  | d :: r, q, h, hq, x => by
    have hd := h d List.mem_cons_self
    have hr : Exps r := fun z hz => h z (List.mem_cons_of_mem _ hz)
    unfold addI
    split
    · rename_i e
      constructor
      · rintro ⟨j, y, hj, hy, hx⟩
        have hj' : j ≤ (d.2 + q.2).toNat := hj
        refine ⟨min j q.2.toNat, d.1 ^ (j - min j q.2.toNat) * y, Nat.min_le_right _ _, ⟨j - min j q.2.toNat, y, by omega, hy, rfl⟩, ?_⟩
        rw [hx, ← Int.mul_assoc, ← e, ← Int.pow_add]
        show d.1 ^ j * y = _
        rw [show min j q.2.toNat + (j - min j q.2.toNat) = j by omega]
      · rintro ⟨i, _, hi, ⟨j, y, hj, hy, rfl⟩, hx⟩
        refine ⟨i + j, y, by show i + j ≤ (d.2 + q.2).toNat; omega, hy, ?_⟩
        show x = d.1 ^ (i + j) * y
        rw [hx, ← Int.mul_assoc, ← e, ← Int.pow_add]
    · refine Iff.trans ⟨fun ⟨j, y, hj, hy, hx⟩ => ⟨j, y, hj, (div_add hr hq y).mp hy, hx⟩, fun ⟨j, y, hj, hy, hx⟩ => ⟨j, y, hj, (div_add hr hq y).mpr hy, hx⟩⟩ (isDiv_perm (List.Perm.swap q d r) x)
structure SumI (N D : List (Int × Int)) : Prop where
  exps : Exps D
  worth : wR D = wR N
  many : mR D ≤ mR N
  div : ∀ x, isDiv D x ↔ isDiv N x
  keys : ∀ p ∈ ksI D, p ∈ ksI N
  len : D.length ≤ N.length
theorem len_add : ∀ (D : List (Int × Int)) (q : Int × Int), (addI D q).length ≤ D.length + 1
  | [], _ => Nat.le_refl _
  | d :: r, q => by
    unfold addI
    split
    · exact Nat.le_succ _
    · exact Nat.succ_le_succ (len_add r q)
theorem sum_is : ∀ {N : List (Int × Int)}, Exps N → SumI N (sumI N) := fun {N} h => by
  have key : ∀ n (N : List (Int × Int)), N.length = n → Exps N → SumI N (sumI N) := by
    intro n
    induction n with
    | zero =>
      intro N hl h
      rw [List.length_eq_zero_iff.mp hl]
      exact ⟨fun q hq => (by cases hq), rfl, Int.le_refl _, fun _ => Iff.rfl, fun p hp => hp, Nat.le_refl _⟩
    | succ n ih =>
      intro N hl h
      have hne : N ≠ [] := fun z => by rw [z] at hl; cases hl
      obtain ⟨i, q, rfl⟩ : ∃ i q, N = i ++ [q] := ⟨N.dropLast, N.getLast hne, (List.dropLast_concat_getLast hne).symm⟩
      rw [List.length_append, List.length_singleton] at hl
      have hi : Exps i := fun z hz => h z (List.mem_append_left _ hz)
      have hq : 1 ≤ q.2 := h q (List.mem_append_right _ List.mem_cons_self)
      have s := ih i (by omega) hi
      have hp : (q :: i).Perm (i ++ [q]) := (List.perm_append_singleton q i).symm
      rw [sumI_snoc]
      refine ⟨exps_add s.exps hq, ?_, ?_, fun x => ?_, fun p hp' => ?_, ?_⟩
      · rw [wR_add s.exps hq, s.worth, ← wR_perm hp]
        rfl
      · rw [← mR_perm hp]
        exact Int.le_trans (mR_add s.exps hq) (Int.mul_le_mul_of_nonneg_left s.many (by omega))
      · rw [div_add s.exps hq x, ← isDiv_perm hp x]
        exact ⟨fun ⟨j, y, hj, hy, hx⟩ => ⟨j, y, hj, (s.div y).mp hy, hx⟩, fun ⟨j, y, hj, hy, hx⟩ => ⟨j, y, hj, (s.div y).mpr hy, hx⟩⟩
      · unfold ksI
        rw [List.map_append]
        rcases (ks_add _ _ _).mp hp' with z | z
        · exact List.mem_append_left _ (s.keys p z)
        · exact List.mem_append_right _ (by rw [z]; exact List.mem_cons_self)
      · rw [List.length_append, List.length_singleton]
        exact Nat.le_trans (len_add _ _) (Nat.succ_le_succ s.len)
  exact key _ N rfl h
theorem good_exps {L : List (Int × Int)} (g : Good L) : Exps L := fun q hq => (rise_mem g.rise hq).2.1
theorem exps_app {L M : List (Int × Int)} (h : Exps L) (h' : Exps M) : Exps (L ++ M) := fun q hq => (List.mem_append.mp hq).elim (h q) (h' q)
theorem rise_of : ∀ {N : List (Int × Int)} {l : Int}, (ksI N).Pairwise (· < ·) → (∀ q ∈ N, primeB q.1 = true ∧ 1 ≤ q.2 ∧ l < q.1) → riseB l N = true
  | [], _, _, _ => rfl
  | q :: r, l, hs, h => by
    obtain ⟨h1, h2⟩ := List.pairwise_cons.mp hs
    obtain ⟨a, b, c⟩ := h q List.mem_cons_self
    exact rise_mk a b c (rise_of h2 fun z hz => ⟨(h z (List.mem_cons_of_mem _ hz)).1, (h z (List.mem_cons_of_mem _ hz)).2.1, h1 z.1 (List.mem_map.mpr ⟨z, hz, rfl⟩)⟩)
theorem join_keys (L M : List (Int × Int)) : ksI (joinV L M) = isort (ksI (sumI (L ++ M))) := by
  show ((isort _).map _).map _ = _
  rw [List.map_map]
  exact List.map_id _
theorem join_rise {L M : List (Int × Int)} (gL : Good L) (gM : Good M) : riseB 0 (joinV L M) = true := by
  have s := sum_is (exps_app (good_exps gL) (good_exps gM))
  refine rise_of ?_ fun q hq => ?_
  · rw [join_keys]
    exact (isort_sorted _).imp₂ (fun a b (h : a ≤ b) (h' : a ≠ b) => by omega) ((isort_perm _).nodup_iff.mpr (sum_nodup (L ++ M)))
  · have hq2 := (join_perm L M).mem_iff.mp hq
    have hk := s.keys q.1 (List.mem_map.mpr ⟨q, hq2, rfl⟩)
    obtain ⟨z, hz, e⟩ := List.mem_map.mp hk
    have hp : primeB q.1 = true := by
      rw [← e]
      rcases List.mem_append.mp hz with hz | hz
      · exact (rise_mem gL.rise hz).1
      · exact (rise_mem gM.rise hz).1
    exact ⟨hp, s.exps q hq2, by have := prime_lo hp; omega⟩
theorem join_many {L M : List (Int × Int)} (gL : Good L) (gM : Good M) : many (joinV L M) ≤ 250000 := by
  have s := sum_is (exps_app (good_exps gL) (good_exps gM))
  have h1 := gL.few
  have h2 := gM.few
  have h3 := mR_pos (good_exps gL)
  have h4 := mR_pos (good_exps gM)
  rw [many_mR] at h1 h2 ⊢
  rw [mR_perm (join_perm L M)]
  refine Int.le_trans s.many ?_
  rw [mR_app]
  exact Int.mul_le_mul h1 h2 (by omega) (by decide)
theorem join_worth {L M : List (Int × Int)} (gL : Good L) (gM : Good M) : worthI (joinV L M) = worthI L * worthI M := by
  have s := sum_is (exps_app (good_exps gL) (good_exps gM))
  rw [worth_wR, worth_wR, worth_wR, wR_perm (join_perm L M), s.worth, wR_app]
theorem join_div {L M : List (Int × Int)} (gL : Good L) (gM : Good M) (x : Int) : isDiv (joinV L M) x ↔ isDiv (L ++ M) x := by
  have s := sum_is (exps_app (good_exps gL) (good_exps gM))
  exact (isDiv_perm (join_perm L M) x).trans (s.div x)
theorem len_mR : ∀ {D : List (Int × Int)}, Exps D → (D.length : Int) + 1 ≤ mR D ∧ (2 : Int) ^ D.length ≤ mR D
  | [], _ => ⟨Int.le_refl _, Int.le_refl _⟩
  | q :: r, h => by
    have h1 := h q List.mem_cons_self
    obtain ⟨h2, h3⟩ := len_mR (D := r) fun z hz => h z (List.mem_cons_of_mem _ hz)
    have h4 : 2 * mR r ≤ (q.2 + 1) * mR r := Int.mul_le_mul_of_nonneg_right (by omega) (by omega)
    refine ⟨?_, ?_⟩
    · rw [List.length_cons]
      show _ ≤ (q.2 + 1) * mR r
      omega
    · rw [List.length_cons, Int.pow_succ]
      show _ ≤ (q.2 + 1) * mR r
      omega
theorem good_len {L : List (Int × Int)} (g : Good L) : L.length ≤ 8 := by
  have h := (len_mR (good_exps g)).2
  have h2 := g.few
  rw [many_mR] at h2
  refine Nat.le_of_not_lt fun z => ?_
  have h3 : (2 : Int) ^ 9 ≤ 2 ^ L.length := pow_mono_i (by decide) z
  have h4 : (2 : Int) ^ 9 = 512 := by decide
  omega
theorem join_len {L M : List (Int × Int)} (gL : Good L) (gM : Good M) : (sumI (L ++ M)).length ≤ 16 ∧ (joinV L M).length ≤ 16 := by
  have s := (sum_is (exps_app (good_exps gL) (good_exps gM))).len
  have h1 := good_len gL
  have h2 := good_len gM
  rw [List.length_append] at s
  refine ⟨by omega, ?_⟩
  rw [(join_perm L M).length_eq]
  omega
theorem join_exps {L M : List (Int × Int)} (gL : Good L) (gM : Good M) : ∀ q ∈ joinV L M, 1 ≤ q.2 ∧ q.2.natAbs < 2 ^ 200 := fun q hq => by
  have h1 := (rise_mem (join_rise gL gM) hq).2.1
  refine ⟨h1, ?_⟩
  have h2 := mem_exps hq
  have h3 := expsum_many_aux (joinV L M) 1 0 (fun z hz => (rise_mem (join_rise gL gM) hz).2.1) (by decide)
  have h4 : (joinV L M).foldl (fun m q => m * (q.2 + 1)) 1 ≤ 250000 := join_many gL gM
  have h5 : (250000 : Nat) < 2 ^ 200 := by decide
  omega
/-- point 6, by the worths -/
theorem all_join {L M : List (Int × Int)} (gL : Good L) (gM : Good M) (gJ : many (joinV L M) ≤ 500) (ha : isAll L = true) (hm : worthI M ≤ tot L + 1) : isAll (joinV L M) = true :=
  all_joined gL gM ⟨join_rise gL gM, gJ⟩ (join_div gL gM) ha fun b hb => by
    have h := (worth_uds_take gM M.length (Nat.le_refl _)).2
    rw [List.take_length] at h
    have := h b (isort_mem.mp hb)
    omega
end Es
set_option maxHeartbeats 2000000
namespace Es
open PySem PySem.Spec PyProof.Rows L2 Evl
/-! ### the dict of the primes -/
def kvI (D : List (Int × Int)) : List (Key × V) := D.map fun q => (Sum.inl q.1, V.int q.2)
theorem val_get : ∀ (D : List (Int × Int)) (p : Int), (valV (kvI D) (Sum.inl p)).getD (V.int 0) = .int (getI D p)
  | [], p => rfl
  | d :: r, p => by
    unfold getI
    by_cases e : d.1 = p
    · rw [if_pos e]
      show (valV ((Sum.inl d.1, V.int d.2) :: kvI r) (Sum.inl p)).getD _ = _
      rw [valV_pos (by rw [e])]
      rfl
    · rw [if_neg e]
      show (valV ((Sum.inl d.1, V.int d.2) :: kvI r) (Sum.inl p)).getD _ = _
      rw [valV_neg fun z => e (Sum.inl.inj z)]
      exact val_get r p
theorem val_at : ∀ {D : List (Int × Int)} {p : Int}, p ∈ ksI D → valV (kvI D) (Sum.inl p) = some (.int (getI D p))
  | d :: r, p, h => by
    unfold getI
    by_cases e : d.1 = p
    · rw [if_pos e]
      exact valV_pos (p := ((Sum.inl d.1 : Key), V.int d.2)) (by show Sum.inl d.1 = _; rw [e])
    · rw [if_neg e]
      refine (valV_neg (p := ((Sum.inl d.1 : Key), V.int d.2)) fun z => e (Sum.inl.inj z)).trans (val_at ?_)
      rcases List.mem_cons.mp h with z | z
      · exact absurd z.symm e
      · exact z
theorem any_key (D : List (Int × Int)) (p : Int) : ((kvI D).any fun kv => decide (kv.1 = Sum.inl p)) = decide (p ∈ ksI D) := by
  rw [Bool.eq_iff_iff, List.any_eq_true, decide_eq_true_eq]
  constructor
  · rintro ⟨kv, hk, e⟩
    obtain ⟨q, hq, rfl⟩ := List.mem_map.mp hk
    exact List.mem_map.mpr ⟨q, hq, Sum.inl.inj (of_decide_eq_true e)⟩
  · intro h
    obtain ⟨q, hq, rfl⟩ := List.mem_map.mp h
    exact ⟨_, List.mem_map.mpr ⟨q, hq, rfl⟩, decide_eq_true rfl⟩
theorem add_new : ∀ {D : List (Int × Int)} {q : Int × Int}, q.1 ∉ ksI D → addI D q = D ++ [q] ∧ getI D q.1 = 0
  | [], q, _ => ⟨rfl, rfl⟩
  | d :: r, q, h => by
    have hd : ¬ d.1 = q.1 := fun e => h (show q.1 ∈ d.1 :: ksI r by rw [e]; exact List.mem_cons_self)
    obtain ⟨h1, h2⟩ := add_new (D := r) (q := q) fun z => h (List.mem_cons_of_mem _ z)
    unfold addI getI
    rw [if_neg hd, if_neg hd, h1]
    exact ⟨rfl, h2⟩
theorem map_far {D : List (Int × Int)} {p : Int} {v : V} (h : p ∉ ksI D) : (kvI D).map (fun kv => if kv.1 = Sum.inl p then (kv.1, v) else kv) = kvI D := by
  refine (List.map_congr_left fun kv hk => ?_).trans (List.map_id _)
  obtain ⟨q, hq, rfl⟩ := List.mem_map.mp hk
  exact if_neg fun z => h (List.mem_map.mpr ⟨q, hq, Sum.inl.inj z⟩)
theorem map_near : ∀ {D : List (Int × Int)} {q : Int × Int}, (ksI D).Nodup → q.1 ∈ ksI D → (kvI D).map (fun kv => if kv.1 = Sum.inl q.1 then (kv.1, V.int (getI D q.1 + q.2)) else kv) = kvI (addI D q)
  | d :: r, q, hn, h => by
    obtain ⟨h1, h2⟩ := List.nodup_cons.mp hn
    have h1' : d.1 ∉ ksI r := h1
    unfold addI getI
    by_cases e : d.1 = q.1
    · rw [if_pos e, if_pos e]
      show (if (Sum.inl d.1 : Key) = Sum.inl q.1 then _ else _) :: (kvI r).map _ = (Sum.inl d.1, V.int (d.2 + q.2)) :: kvI r
      rw [if_pos (by rw [e]), map_far (by rw [← e]; exact h1')]
    · rw [if_neg e, if_neg e]
      show (if (Sum.inl d.1 : Key) = Sum.inl q.1 then _ else _) :: (kvI r).map _ = (Sum.inl d.1, V.int d.2) :: kvI (addI r q)
      rw [if_neg fun z => e (Sum.inl.inj z), map_near h2 ((List.mem_cons.mp h).resolve_left fun z => e z.symm)]
theorem put_add {D : List (Int × Int)} {q : Int × Int} (hn : (ksI D).Nodup) : putK (kvI D) (Sum.inl q.1) (.int (getI D q.1 + q.2)) = kvI (addI D q) := by
  unfold putK
  rw [any_key]
  by_cases h : q.1 ∈ ksI D
  · rw [if_pos (decide_eq_true h)]
    exact map_near hn h
  · rw [if_neg (by rw [decide_eq_false h]; exact Bool.false_ne_true)]
    obtain ⟨h1, h2⟩ := add_new h
    rw [h1, h2, Int.zero_add]
    unfold kvI
    rw [List.map_append]
    rfl
theorem room_u1 {k : Nat} {A : Around} (r : Room k A) : A.units + 1 < cLine := by have := r.un; omega
theorem ps_nox {X : Cx} {st : Stmt} {t : TS} (h : PS X.nox st t) : PS X st t := ⟨fun pins s σ H D I q => by
  refine wpAny_mono (h.run pins s σ H D (I.wish _) q) (fun f s1 hq => ?_) (fun _ _ z => z.elim)
  exact hq.unwish⟩
section
variable {K : PySem.W.Frag} {σ : L2.St} {H H' : Hp} {ta tb td te ty tx : TE} {x y v z : V} {a b p : Addr} {D : Ends} {tu tz : TS} {L M : List (Int × Int)}
theorem ev_dget2 {kvs : List (Key × V)} {k : Key} (hd : H a = some (.dK kvs)) (h1 : Ev td σ H (.ref a)) (h2 : Ev ty σ H (kV k)) (h3 : Ev tx σ H z) : Ev (tDGet2 td ty tx) σ H ((valV kvs k).getD z) := fun H1 e Q q =>
  h1 H1 e _ fun H2 e2 => ⟨a, rfl, .inl ⟨kvs, .inl ((e.trans e2) _ _ hd)⟩, h2 H2 (e.trans e2) _ fun H3 e3 => h3 H3 ((e.trans e2).trans e3) _ fun H4 e4 => ⟨_, DGet.k ((((e.trans e2).trans e3).trans e4) _ _ hd), q H4 ((e2.trans e3).trans e4)⟩⟩
theorem ev_dget {kvs : List (Key × V)} {k : Key} (hd : H a = some (.dK kvs)) (h1 : Ev td σ H (.ref a)) (h2 : Ev ty σ H (kV k)) (hv : valV kvs k = some v) : Ev (tDGet td ty) σ H v := fun H1 e Q q =>
  h1 H1 e _ fun H2 e2 => h2 H2 (e.trans e2) _ fun H3 e3 => ⟨a, v, rfl, hv ▸ DGet.k (((e.trans e2).trans e3) _ _ hd), q H3 (e2.trans e3)⟩
theorem s_dput {kvs : List (Key × V)} {k : Key} (hd : H a = some (.dK kvs)) (hl : kvs.length < 100000) (h1 : Ev td σ H (.ref a)) (h2 : Ev ty σ H (kV k)) (h3 : Ev te σ H v) (q : ∀ H1, Ex H H1 → D.nx σ (upd H1 a (.dK (putK kvs k v)))) : sDPut td ty te D σ H :=
  h3 H (Ex.refl H) _ fun H1 e1 => h1 H1 e1 _ fun H2 e2 => h2 H2 (e1.trans e2) _ fun H3 e3 => ⟨a, _, rfl, DPut.k (((e1.trans e2).trans e3) _ _ hd) (Nat.lt_of_lt_of_le hl (by rw [sizeLine_eq]; decide)), q H3 ((e1.trans e2).trans e3)⟩
theorem ef_dnew : EvF tDNewK σ H (fun p H2 => H2 p = some (.dK [])) := fun H1 e Q q => fun p np => q p _ np (Ex.new np) upd_same
theorem el_star2 {xs ys : List V} (h1 : Ev ta σ H (.ref a)) (hx : SqL K H a xs) (h2 : Ev tb σ H (.ref b)) (hy : SqL K H b ys) (hl : xs.length + ys.length ≤ 100000) : EvL (tLst (StX.tStar K ta (StX.tStar K tb tNil))) σ H (xs ++ ys) := fun H1 e Q q =>
  h1 H1 e _ fun H2 e2 => ⟨a, xs, rfl, .inr (ex_l (e.trans e2) hx), h2 H2 (e.trans e2) _ fun H3 e3 => ⟨b, ys, rfl, .inr (ex_l ((e.trans e2).trans e3) hy), by
    show (xs ++ (ys ++ [])).length ≤ sizeLine ∧ _
    rw [List.append_nil]
    exact ⟨sz_of (by rw [List.length_append]; exact hl), fun p np => q p _ (fresh_back (e2.trans e3) np) ((e2.trans e3).trans (Ex.new np)) upd_same⟩⟩⟩
theorem el_catVV {xs ys : List V} (h1 : Ev ta σ H (.ref a)) (hx : H a = some (.lst xs)) (h2 : Ev tb σ H (.ref b)) (hy : H b = some (.lst ys)) (hl : xs.length + ys.length ≤ 100000) : EvL (tOp rCat ta tb) σ H (xs ++ ys) := fun H1 e Q q =>
  h1 H1 e _ fun H2 e2 => h2 H2 (e.trans e2) _ fun H3 e3 => ⟨a, b, xs, ys, rfl, rfl, ((e.trans e2).trans e3) _ _ hx, ((e.trans e2).trans e3) _ _ hy, sz_of hl, fun s ns => q s _ (fresh_back (e2.trans e3) ns) ((e2.trans e3).trans (Ex.new ns)) upd_same⟩
/-- sorted(a dict of ints) -/
def rSortD : List V → Hp → VK → Prop := fun xs H Q => ∃ (a : Addr) (kvs : List (Key × V)) (ks : List Int), xs = [.ref a] ∧ Rd H a (.dK kvs) ∧ kvs.map (·.1) = ks.map Sum.inl ∧ ks.length < 64 ∧
    ∀ (ys : List Int) (p : Addr), ys.Perm ks → ys.Pairwise (· ≤ ·) → H p = none → Q (.ref p) (upd H p (.lst (ys.map V.int)))
theorem cr_sortD {X : Cx} (hc : X.calm = true) : CallR X (.builtin "sorted") rSortD := call_sortedDI hc
theorem el_sortD {Dm : List (Int × Int)} (h : Ev te σ H (.ref a)) (hd : H a = some (.dK (kvI Dm))) (hl : Dm.length < 64) : EvL (tCB rSortD (tCons te tNil)) σ H ((isort (ksI Dm)).map V.int) := fun H1 e Q q =>
  h H1 e _ fun H2 e2 => ⟨a, kvI Dm, ksI Dm, rfl, .inl ((e.trans e2) _ _ hd), by unfold kvI ksI; rw [List.map_map, List.map_map]; rfl, by unfold ksI; rw [List.length_map]; exact hl, fun ys p hp hs np => by
    rw [isort_same hp hs]
    exact q p _ (fresh_back e2 np) (e2.trans (Ex.new np)) upd_same⟩
/-- a list of pairs, one for each -/
theorem ef_lcPr {tl : TE} {j : Nat} {vs : List Nat} (as : List Int) (g : Int → Int × Int) (h : EvL tl σ H (as.map V.int)) (hz : as.length ≤ 40000) (hw : ∀ x, wipe ((wipe σ vs).set j (some x)) vs = wipe σ vs)
    (he : ∀ (b : Int) H1, Ex H H1 → b ∈ as → EvF te ((wipe σ vs).set j (some (.int b))) H1 (fun p H2 => H2 p = some (.tup [.int (g b).1, .int (g b).2]))) : EvF (tLc (iList K tl) (gName j) tYes te vs) σ H (NewN K (as.map g)) := fun H0 e Q q =>
  h H0 e _ fun p H1 np e1 hp => ⟨p, rfl, ⟨_, sq_of hp⟩, fun Dl hD =>
    lc_list (xs := as.map V.int) (fun i H' => H1 Dl = none ∧ Ex H1 H' ∧ ∃ xs, H' Dl = some (.lst xs) ∧ PrsAt K H' xs ((as.take i).map g)) ⟨hD, Ex.new hD, [], upd_same, .nil⟩
      (fun i H' _ hP => sq_of (hP.2.1 _ _ hp)) (fun i x H' hx hP => by
        obtain ⟨h1, h2, xs, h3, h4⟩ := hP
        obtain ⟨b, hb, rfl⟩ := map_get hx
        refine ⟨hw _, ?_⟩
        refine et_yes H' (Ex.refl H') _ fun H3 e3 => (if_pos rfl).mpr ?_
        refine he b H3 (((e.trans e1).trans h2).trans e3) (List.mem_of_getElem? hb) H3 (Ex.refl H3) _ fun t H4 nt e4 ht => ⟨xs, (e3.trans e4) _ _ h3, ?_, h1, Ex.mut ((h2.trans e3).trans e4) h1, xs ++ [.ref t], upd_same, ?_⟩
        · have hl := prs_len h4
          rw [List.length_map, List.length_take] at hl
          rw [sizeLine_eq]
          omega
        · rw [take_snoc hb, List.map_append]
          exact prs_upd (prs_snoc (prs_ex (e3.trans e4) h4) ⟨t, rfl, st_of ht⟩) ((e3.trans e4) _ _ h3))
      (fun H' hP => by
        obtain ⟨h1, h2, xs, h3, h4⟩ := hP
        rw [List.length_map, List.take_length] at h4
        exact q Dl H' (fresh_back e1 h1) (e1.trans h2) ⟨xs, h3, h4⟩)⟩
end
theorem prs_updD {K : PySem.W.Frag} {H : Hp} {d : Addr} {o : HO} {kvs : List (Key × V)} {xs : List V} {L : List (Int × Int)} (h : PrsAt K H xs L) (hd : H d = some (.dK kvs)) : PrsAt K (upd H d o) xs L := Paired.mapP h fun _ _ ⟨t, e, ht⟩ => ⟨t, e, by
  rcases ht with (h | ⟨ob, h⟩) | h
  · exact .inl (.inl ((upd_ne (ne_of h hd (by intro z; cases z))).trans h))
  · by_cases q : t = d
    · subst q
      rw [h] at hd
      cases hd
    · exact .inl (.inr ⟨ob, (upd_ne q).trans h⟩)
  · exact .inr h⟩
theorem worth_bits {L : List (Int × Int)} (g : Good L) {i : Nat} (hi : i ≤ L.length) : (worthI (L.take i)).natAbs < 2 ^ 5000 := (uds_bits (g.take i) _ (worth_uds_take g i hi).1).2
/-! ### promises -/
section
variable (K : PySem.W.Frag)
def spJoined (cT : Addr) : Sp := fun vs H Q E => ∃ (a b : Addr) (L M : List (Int × Int)), vs = [.ref a, .ref b] ∧ NumAt K H a L ∧ NumAt K H b M ∧ Good L ∧ Good M ∧ (many (joinV L M) ≤ 500 → RetF (NewN K (joinV L M)) H Q) ∧ (¬ many (joinV L M) ≤ 500 → ∀ H1, Ex H H1 → E (.ref cT) none H1)
def spLJoined : Sp := fun vs H Q _ => ∃ (a b : Addr) (L M : List (Int × Int)), vs = [.ref a, .ref b] ∧ NewN K L a H ∧ NewN K M b H ∧ Good L ∧ Good M ∧ RetF (NewN K (joinV L M)) H Q
def spTooM : Sp := fun vs H Q _ => ∃ (a b : Addr) (L M : List (Int × Int)), vs = [.ref a, .ref b] ∧ NumAt K H a L ∧ NumAt K H b M ∧ Good L ∧ Good M ∧ ¬ many (joinV L M) ≤ 500 ∧ RetV (.bl true) H Q
def spMany : Sp := fun vs H Q _ => ∃ (a : Addr) (L : List (Int × Int)), vs = [.ref a] ∧ NumAt K H a L ∧ Exps L ∧ many L ≤ 250000 ∧ RetV (.int (many L)) H Q
def sp3Right : Sp := fun vs H Q _ => ∃ (a b : Addr) (L M : List (Int × Int)), vs = [.ref a, .ref b] ∧ NewN K L a H ∧ NewN K M b H ∧ Good L ∧ Good M ∧ RetV (.bl true) H Q
end
section
variable {K : PySem.W.Frag} {H : Hp} {a b cT : Addr} {L M : List (Int × Int)}
theorem sf_joined (h : NumAt K H a L) (h' : NumAt K H b M) (g : Good L) (g' : Good M) (hm : many (joinV L M) ≤ 500) : SpF (spJoined K cT) [.ref a, .ref b] H (NewN K (joinV L M)) := fun H1 e Q q _ => ⟨a, b, L, M, rfl, h.ex e, h'.ex e, g, g', fun _ => q, fun z => absurd hm z⟩
theorem sf_ljoined (h : NewN K L a H) (h' : NewN K M b H) (g : Good L) (g' : Good M) : SpF (spLJoined K) [.ref a, .ref b] H (NewN K (joinV L M)) := fun H1 e Q q _ => ⟨a, b, L, M, rfl, mono_newN _ _ _ e h, mono_newN _ _ _ e h', g, g', q⟩
theorem sv_tooM (h : NumAt K H a L) (h' : NumAt K H b M) (g : Good L) (g' : Good M) (hm : ¬ many (joinV L M) ≤ 500) : SpV (spTooM K) [.ref a, .ref b] H (.bl true) := fun H1 e Q q _ => ⟨a, b, L, M, rfl, h.ex e, h'.ex e, g, g', hm, q⟩
theorem sv_many (h : NumAt K H a L) (g : Exps L) (hm : many L ≤ 250000) : SpV (spMany K) [.ref a] H (.int (many L)) := fun H1 e Q q _ => ⟨a, L, rfl, h.ex e, g, hm, q⟩
theorem sv_3Right (h : NewN K L a H) (h' : NewN K M b H) (g : Good L) (g' : Good M) : SpV (sp3Right K) [.ref a, .ref b] H (.bl true) := fun H1 e Q q _ => ⟨a, b, L, M, rfl, mono_newN _ _ _ e h, mono_newN _ _ _ e h', g, g', q⟩
end
/-! ### lists of numbers compared; numbers in tuples -/
section
variable {K : PySem.W.Frag} {σ : L2.St} {H H' : Hp} {ta tb tp te : TE} {x y : V} {a b p a1 b1 : Addr} {D : Ends} {tu tz : TS} {g : TG} {L M : List (Int × Int)}
theorem lay_num (L : List (Int × Int)) : PyData.canLay0 (dN L) = true ∧ PyData.depth (dN L) ≤ 2 := by
  obtain ⟨h1, h2⟩ := lay_prs L
  refine ⟨h1, ?_⟩
  show PyData.depthAll (L.map dP) + 1 ≤ 2
  omega
theorem shaped_two (L M : List (Int × Int)) : SeqAt.shaped (.list [dN L, dN M]) = true := by
  obtain ⟨h1, h2⟩ := lay_num L
  obtain ⟨h3, h4⟩ := lay_num M
  show ((PyData.canLay0 (dN L) && (PyData.canLay0 (dN M) && true)) && decide (max (PyData.depth (dN L)) (max (PyData.depth (dN M)) 0) + 1 ≤ 64)) = true
  rw [h1, h3]
  exact decide_eq_true (by omega)
theorem eqv_two (L M : List (Int × Int)) : PyData.eqv (.list [dN L, dN M]) (.list [dN L, dN M]) = true := by
  show (PyData.eqv (dN L) (dN L) && (PyData.eqv (dN M) (dN M) && true)) = true
  rw [eqv_num, eqv_num, decide_eq_true rfl, decide_eq_true rfl]
  rfl
theorem dp_two (h : SqL K H p [.ref a, .ref b]) (ha : NumAt K H a L) (hb : NumAt K H b M) : Dp K H (.ref p) (.list [dN L, dN M]) := .lst h (.cons (dp_num ha) (.cons (dp_num hb) .nil))
theorem rv_neTwo {q : Addr} (h : SqL K H p [.ref a, .ref b]) (ha : NumAt K H a L) (hb : NumAt K H b M) (h' : SqL K H q [.ref a1, .ref b1]) (ha' : NumAt K H a1 L) (hb' : NumAt K H b1 M) : RV (rNeD K) (.ref p) (.ref q) H (.bl false) := fun H1 e Q k =>
  ⟨_, _, dp_two (ex_l e h) (ha.ex e) (hb.ex e), dp_two (ex_l e h') (ha'.ex e) (hb'.ex e), shaped_two _ _, shaped_two _ _, by rw [eqv_two]; exact k H1 (Ex.refl H1)⟩
theorem ef_num1E {p e : Int} (h1 : Ev tp σ H (.int p)) (h2 : Ev te σ H (.int e)) : EvF (tLst (tCons (tTup (tCons tp (tCons te tNil))) tNil)) σ H (NewN K [(p, e)]) :=
  (ef_lstP (eap_f (ef_u (eu_tup (ea_cons h1 (ea_cons h2 ea_nil)) (show 2 ≤ 100000 by decide))) mono_obj eap_nil) (fun vs H1 H2 e ⟨p, r, h1, h2, h3⟩ => ⟨p, r, h1, e _ _ h2, h3⟩) (fun vs H1 ⟨p, r, h1, h2, h3⟩ => by rw [h1, h3]; show 1 ≤ 100000; decide)).imp fun q H2 _ ⟨vs, h, p, r, h1, h2, h3⟩ => by
    subst h3
    exact ⟨vs, h, by rw [h1]; exact .cons ⟨p, rfl, st_of h2⟩ .nil⟩
def NumT5 (K : PySem.W.Frag) (p : Addr) (H : Hp) : Prop := ∃ os : List (Addr × List (Int × Int)), SqT K H p (os.map fun o => V.ref o.1) ∧ ∀ o ∈ os, NewN K o.2 o.1 H ∧ Good o.2
theorem ef_five {tc td te : TE} (h1 : Ev ta σ H (.ref a)) (hN : NewN K L a H) (g : Good L) (h2 : EvF tb σ H (NewG0 K)) (h3 : EvF tc σ H (NewG0 K)) (h4 : EvF td σ H (NewG0 K)) (h5 : Ev te σ H (.ref b)) (hM : NewN K M b H) (g' : Good M) :
    EvF (tTup (tCons ta (tCons tb (tCons tc (tCons td (tCons te tNil)))))) σ H (NumT5 K) :=
  (ef_tupP (eap_v h1 (eap_f h2 mono_g0 (eap_f h3 mono_g0 (eap_f h4 mono_g0 (eap_v h5 eap_nil)))))
    (fun vs H1 H2 e ⟨r1, z1, p2, r2, z2, k2, p3, r3, z3, k3, p4, r4, z4, k4, r5, z5, z6⟩ => ⟨r1, z1, p2, r2, z2, mono_g0 _ _ _ e k2, p3, r3, z3, mono_g0 _ _ _ e k3, p4, r4, z4, mono_g0 _ _ _ e k4, r5, z5, z6⟩)
    (fun vs H1 ⟨r1, z1, p2, r2, z2, k2, p3, r3, z3, k3, p4, r4, z4, k4, r5, z5, z6⟩ => by subst z6 z5 z4 z3 z2 z1; show 5 ≤ 100000; decide)).imp
    fun p H2 e ⟨vs, hp, r1, z1, p2, r2, z2, ⟨L2, g2, k2⟩, p3, r3, z3, ⟨L3, g3, k3⟩, p4, r4, z4, ⟨L4, g4, k4⟩, r5, z5, z6⟩ => by
      subst z6 z5 z4 z3 z2 z1
      refine ⟨[(a, L), (p2, L2), (p3, L3), (p4, L4), (b, M)], st_of hp, fun o ho => ?_⟩
      rcases List.mem_cons.mp ho with rfl | ho
      · exact ⟨mono_newN _ _ _ e hN, g⟩
      rcases List.mem_cons.mp ho with rfl | ho
      · exact ⟨k2, g2⟩
      rcases List.mem_cons.mp ho with rfl | ho
      · exact ⟨k3, g3⟩
      rcases List.mem_cons.mp ho with rfl | ho
      · exact ⟨k4, g4⟩
      rw [List.mem_singleton.mp ho]
      exact ⟨mono_newN _ _ _ e hM, g'⟩
theorem s_forTF {P : Addr → Hp → Prop} (h : EvF te σ H P) (k : ∀ p H1, H p = none → Ex H H1 → P p H1 → tFor (iTup K (tC (.ref p))) g tu D σ H1) : tFor (iTup K te) g tu D σ H := h H (Ex.refl H) _ fun p H1 np e hp => k p H1 np e hp
end
def okP (n : Int) : Prop := (1 ≤ n ∧ n ≤ 2000) ∧ Good (bp n 996).2
theorem two_e (e : Int) (h1 : 1 ≤ e) (h2 : e ≤ 9) : Good [(2, e)] ∧ okP (tot [(2, e)] + 1) ∧ okP (tot [(2, e)]) ∧ okP (tot [(2, e)] - 1) := by
  have key : ∀ k : Nat, k < 9 → (riseB 0 [(2, (k : Int) + 1)] = true ∧ many [(2, (k : Int) + 1)] ≤ 500) ∧ ∀ d : Nat, d < 3 → (1 ≤ tot [(2, (k : Int) + 1)] + (d : Int) - 1 ∧ tot [(2, (k : Int) + 1)] + (d : Int) - 1 ≤ 2000) ∧ riseB 0 (bp (tot [(2, (k : Int) + 1)] + (d : Int) - 1) 996).2 = true ∧ many (bp (tot [(2, (k : Int) + 1)] + (d : Int) - 1) 996).2 ≤ 500 := by decide +kernel
  obtain ⟨q1, q2⟩ := key (e - 1).toNat (by omega)
  rw [show (((e - 1).toNat : Nat) : Int) + 1 = e by omega] at q1 q2
  have at_ : ∀ d : Nat, d < 3 → okP (tot [(2, e)] + (d : Int) - 1) := fun d hd => ⟨(q2 d hd).1, (q2 d hd).2.1, (q2 d hd).2.2⟩
  refine ⟨⟨q1.1, q1.2⟩, ?_, ?_, ?_⟩
  · have := at_ 2 (by decide)
    rw [show tot [(2, e)] + ((2 : Nat) : Int) - 1 = tot [(2, e)] + 1 by omega] at this
    exact this
  · have := at_ 1 (by decide)
    rw [show tot [(2, e)] + ((1 : Nat) : Int) - 1 = tot [(2, e)] by omega] at this
    exact this
  · have := at_ 0 (by decide)
    rw [show tot [(2, e)] + ((0 : Nat) : Int) - 1 = tot [(2, e)] - 1 by omega] at this
    exact this
theorem g_166 : Good [(2, 166)] := ⟨by decide +kernel, by decide⟩
theorem g_32 : Good [(3, 2)] := ⟨by decide +kernel, by decide⟩
theorem g_99 : Good [(2, 99)] := ⟨by decide +kernel, by decide⟩
theorem g_34 : Good [(3, 4)] := ⟨by decide +kernel, by decide⟩
theorem g_51 : Good [(5, 1)] := ⟨by decide +kernel, by decide⟩
theorem g_252 : Good [(2, 1), (5, 2)] := ⟨by decide +kernel, by decide⟩
theorem j_166 : ¬ many (joinV [(2, 166)] [(3, 2)]) ≤ 500 := by decide +kernel
theorem j_99 : joinV [(2, 99)] [(3, 4)] = [(2, 99), (3, 4)] ∧ many (joinV [(2, 99)] [(3, 4)]) ≤ 500 := by decide +kernel
theorem j_0 : joinV [] [] = [] ∧ many (joinV [] []) ≤ 500 := by decide +kernel
theorem j_51 : joinV [(5, 1)] [(2, 1), (5, 2)] = [(2, 1), (5, 3)] ∧ many (joinV [(5, 1)] [(2, 1), (5, 2)]) ≤ 500 := by decide +kernel
end Es
set_option maxHeartbeats 2000000
namespace Es
open PySem PySem.Spec PyProof.Rows L2 Evl
/-! ### a def that is called while an error is handled and is handed that error -/
abbrev SpP := Addr × Obj → Sp
structure FnP (P : Program) (w : World) (K : PySem.W.Frag) (mg : Str → Option Value) (base : Heap) (CX : CXT) (k : Nat) (f : Addr) (fd : FuncData) (ps : List Str) (sp : SpP) : Prop where
  len : ∀ p vs H Q E, sp p vs H Q E → vs.length = ps.length
  go : ∀ p : Addr × Obj, ∀ (A : Around) (st : List Env) (s : Shared) (H : Hp) (args : Args) (us : List Value) (vs : List V) (Q : VK) (E : XK),
    L2H.RoomH k A → L2H.Hot1 A p → L2H.PinOk st H s p → Env0 P w K mg base A st s H → BindsTo s fd args (ps.zip us) → Vals vs us → sp p vs H Q E → codeAny (model P w) A (.call (.ref f) args) (CR CX st P w H s Q E) s
section
variable {CX : CXT} {P : Program} {w : World} {K : PySem.W.Frag} {mg : Str → Option Value} {base : Heap} {k : Nat} {f : Addr} {fd : FuncData} {x qual : Str} {st : Stmt} {N ps : List Str} {sp : SpP}
theorem fun_P (F : Fun K x qual st f fd) (S : FnScope N ps (defScope st)) (len : ∀ p vs H Q E, sp p vs H Q E → vs.length = ps.length)
    (hbody : ∀ (p : Addr × Obj) (cdv : Value) (A : Around) (fr : List Env) (s : Shared) (H : Hp) (vs : List V) (Q : VK) (E : XK), L2H.Hot1 A p → L2H.RoomH k (A.deeper (envOfC qual (defScope st) s.heap.objs.size f cdv)) → sp p vs H Q E →
      ∃ t, PSs (L2H.cxH CX P w K mg base N qual (defScope st) f cdv A fr s H E p) (defBody st) t ∧ t { nx := fun _ H' => Q .non H', rt := Q } (start N vs) H) : FnP P w K mg base CX (k + 1) f fd ps sp := by
  obtain ⟨oc, od, kV, doc, pm, an, cdv, ct, osl, rfl, lk, hcd⟩ := F.ex
  refine ⟨len, fun p A fr s H args us vs Q E room hot pin env bind vals want => ?_⟩
  have grow := fun b o e => (env.bs b o e).1
  have inK := env.mod.kin.keeps grow
  have free := env.mod.nolimit.keeps grow
  have kinds : ∀ y ∈ ps.zip us, (defScope st).names.lookup y.1 = some .local ∨ ((defScope st).names.lookup y.1 = some .cell ∧ ((cellsFrom (s.heap.objs.size + 1) (defScope st).names []).lookup y.1).isSome = true) := by
    rintro ⟨n, v⟩ hy
    exact (S.par n (List.of_mem_zip hy).1).imp id fun q => ⟨q, PySem.W.cellsFrom_some _ _ _ (.inl q)⟩
  refine codeAny_call_function room.depth (inK _ _ lk) rfl S.co S.gen rfl (PySem.W.codeRec_of inK hcd) (bind _ _ _ _ (wpAny_newFunctionEnv_cells S.kind kinds fun env1 he s1 laid => ?_))
  subst he
  refine ⟨free.keeps laid.toInCall.keep, codeAny_func ?_⟩
  obtain ⟨t, ht, hq⟩ := hbody p cdv A fr s H vs Q E hot (room.deeper _) want
  have J := L2H.inv_startH (CX := CX) (E := E) S pin env (len _ _ _ _ _ want) vals laid
  refine wpAny_mono (ht.run [] s1 (start N vs) H _ J hq) (fun fl s2 hs => ?_) fun _ _ z => z
  match fl, hs with
  | .ret u, ⟨v, σ2, H2, J2, rv, q2⟩ => exact ⟨v, H2, J2.os, J2.bare, J2.base, J2.hok, rv, q2⟩
  | .next, ⟨σ2, H2, J2, q2⟩ => exact ⟨V.non, H2, J2.os, J2.bare, J2.base, J2.hok, rfl, q2⟩
  | .brk, ⟨_, _, _, q2⟩ => exact q2.elim
  | .cont, ⟨_, _, _, q2⟩ => exact q2.elim
end
section
variable {X : Cx} {CX : CXT} {k : Nat} {f : Addr} {fd : FuncData} {ps : List Str} {sp : SpP} {x : Str} {p pos : Pos} {e : Expr} {es : List Expr} {t : TA} {h0 : Addr × Obj}
/-- called in a suite: nothing leaves it -/
theorem pe_callP {sp1 : Sp} (imp : ∀ vs H Q, sp1 vs H Q E0 → sp h0 vs H Q E0) (F : FnP X.prog X.w X.K X.mg X.base CX0 k f fd ps sp) (room : L2H.RoomH k X.A) (hot : L2H.Hot1 X.A h0) (hp : h0 ∈ X.pn) (hg : Gl X x) (hm : X.mg x = some (.ref f)) (hk : PySem.W.keepIn X.K (.ref f) = true) (hb : Binds X.K fd ps [])
    (ha : PA X (e :: es) t) (hdb : (x == ("__debug__" : Str)) = false := by decide) (he : starEach (e :: es) X.env = (false, eval e X.env) :: starEach es X.env := by rfl) (hpl : (backTo pos (starEach es X.env)).any (·.1) = false := by rfl) :
    PE X (.Call (.Name x p) (e :: es) [] pos) (tCall sp1 [] E0 t) := by
  refine ⟨fun pins s σ H Q I want => wpAny_Call_Name_kw (ld_glob I hg hm (PySem.W.callWith_K (h₀ := X.base) I.ok.mod.kin hk (thn (ha.run pos pins s σ H _ I want) fun us s1 ⟨vs, H1, J, r, q⟩ => ⟨J.kIn, ?_⟩) he hpl) hdb)⟩
  have q' : sp h0 vs H1 Q E0 := by
    have z : sp1 (vs ++ []) H1 Q E0 := q
    rw [List.append_nil] at z
    exact imp _ _ _ z
  have el : us.length = ps.length := r.length.symm.trans (F.len _ _ _ _ _ q')
  have b := hb s1 us J.kIn (by rw [List.append_nil]; exact el)
  rw [List.append_nil] at b
  have pn := J.pin h0 (List.mem_append_left _ hp)
  refine wpAny_call (codeAny_mono (F.go h0 X.A X.stack s1 H1 ⟨us, []⟩ us vs Q E0 room hot ⟨pn.1, pn.2.1, fun z => ?_, pn.2.2.2.2⟩ J.env0 b r q') fun res s2 out => ?_)
  · rcases List.mem_cons.mp (J.stkSub h0.1 z) with z | z
    · exact pn.2.2.1 z
    · exact pn.2.2.2.1 z
  · match res, out with
    | .ok (.ret u), out => exact J.after out
    | .ok .next, out => exact out.elim
    | .ok .brk, out => exact out.elim
    | .ok .cont, out => exact out.elim
    | .error er, out => exact out.elim
/-- isinstance of the error that is handled, in such a def too -/
theorem call_isP {K : PySem.W.Frag} {D : Addr} (hK : X.K = K) (C : ExcC K D) (hz : Zc (.ref D) none h0.2) (hf : ∃ vs, h0.2.data = .fields vs) (hp : h0 ∈ X.pn) : CallR X (.builtin "isinstance") (rIsE K D h0.1) := by
  subst hK
  intro pins s σ H xs us Q I r want
  obtain ⟨c, cv, b, rfl, hcv, ek, q⟩ := want
  match us, r with
  | [u1, u2], .cons r1 (.cons r2 .nil) =>
    have z1 : u1 = .ref h0.1 := r1
    have z2 := hcv _ r2
    subst z1 z2
    have at_ := (I.pin h0 (List.mem_append_left _ hp)).1
    obtain ⟨vs, hv⟩ := hf
    obtain ⟨a, oc, od, oda, osl⟩ := h0
    obtain ⟨hc, hd⟩ := hz
    dsimp only at hc hd hv at_
    subst hc hd hv
    exact PySem.W.kia_one (PySem.W.handS_kitx_exc C.hg C.hk C.hs C.hd C.ha C.hn C.ht C.hm) I.kIn ⟨at_, rfl, rfl, trivial⟩ ek (fun z => nomatch z) fun tk => ⟨.bl b, H, I.kept (t' := tk) fun _ _ z => z, rfl, q⟩
end
end Es
set_option maxHeartbeats 2000000
namespace Es
open PySem PySem.Spec PyProof.Rows L2 Evl
/-! ### a def that a local name holds, called in a try -/
def HeldX (P : Program) (w : World) (K : PySem.W.Frag) (mg : Str → Option Value) (base : Heap) (k : Nat) (f : Addr) (sp : Sp) : Prop := ∃ (fd : FuncData) (ps : List Str), FnOk P w K mg base (L2N.CX P w) k f fd ps sp ∧ PySem.W.keepIn K (.ref f) = true ∧ Binds K fd ps []
def tCallAX (i : Nat) (S : Addr → Sp → Prop) (E : L2.St → XK) (t : TA) : TE := fun σ H Q => ∃ f sp, σ[i]? = some (some (.ref f)) ∧ S f sp ∧ t σ H fun vs H1 => sp vs H1 Q (E σ)
theorem pe_callAX {X : Cx} {k i : Nat} {S : Addr → Sp → Prop} {E : L2.St → XK} {x : Str} {p pos : Pos} {e : Expr} {es : List Expr} {t : TA} (A : ∀ f sp, S f sp → HeldX X.prog X.w X.K X.mg X.base k f sp) (hr : Room k X.A) (hN : X.N[i]? = some x) (hv : Vis X.env.scope x) (hx : ∀ σ, PassesAt (L2N.CX X.prog X.w) X σ (E σ)) (ha : PA X (e :: es) t)
    (hdb : (x == ("__debug__" : Str)) = false := by decide) (hcd : (x == ("__classdict__" : Str)) = false := by decide) (he : starEach (e :: es) X.env = (false, eval e X.env) :: starEach es X.env := by rfl) (hpl : (backTo pos (starEach es X.env)).any (·.1) = false := by rfl) :
    PE X (.Call (.Name x p) (e :: es) [] pos) (tCallAX i S E t) := by
  refine ⟨fun pins s σ H Q I ⟨f, sp, hs, hS, ht⟩ => ?_⟩
  obtain ⟨fd, ps, F, hk, hb⟩ := A f sp hS
  refine wpAny_Call_Name_kw (thn ((pe_var (pos := p) hN hv hdb hcd).run pins s σ H (fun v H1 => v = .ref f ∧ H1 = H) I ⟨.ref f, hs, rfl, rfl⟩) fun u s1 ⟨v, H1, J, rv, hv1, hH⟩ => ?_)
  subst hv1 hH
  have hu : u = .ref f := rv
  subst hu
  exact PySem.W.callWith_K (h₀ := X.base) J.ok.mod.kin hk (thn (ha.run pos pins s1 σ _ _ J ht) fun us s2 ⟨vs, H2, J2, r, q⟩ => ⟨J2.kIn, run_fnS F hr hb (hx σ) J2 r q⟩) he hpl
/-! ### what may be handed in -/
def tyNs : List String := ["NoneType", "bool", "int", "str", "list", "tuple", "dict"]
/-- a value of a known type -/
def VTy (K : PySem.W.Frag) (H : Hp) (v : V) (n : String) : Prop := n ∈ tyNs ∧ ∀ H1, Ex H H1 → TyX K H1 v (.type n)
/-- an int, or something else -/
inductive At (K : PySem.W.Frag) (H : Hp) : V → Option Int → Prop where
  | int (i : Int) : At K H (.int i) (some i)
  | oth {v : V} {n : String} (h : VTy K H v n) (hn : n ≠ "int") : At K H v none
def pairO : Option Int → Option Int → Option (Int × Int)
  | some p, some k => if primeB p && decide (1 ≤ k) then some (p, k) else none
  | _, _ => none
/-- an item, and the pair that it is, if it is one -/
inductive Item (K : PySem.W.Frag) (H : Hp) : V → Option (Int × Int) → Prop where
  | not {v : V} {n : String} (h : VTy K H v n) (hn : n ≠ "tuple") : Item K H v none
  | len {t : Addr} {xs : List V} (h : SqT K H t xs) (hl : xs.length ≠ 2) : Item K H (.ref t) none
  | two {t : Addr} {x y : V} {o u : Option Int} (h : SqT K H t [x, y]) (hx : At K H x o) (hy : At K H y u) : Item K H (.ref t) (pairO o u)
abbrev Items (K : PySem.W.Frag) (H : Hp) : List V → List (Option (Int × Int)) → Prop := Paired (Item K H)
def riseO (last : Int) : List (Option (Int × Int)) → Bool
  | [] => true
  | none :: _ => false
  | some q :: r => if q.1 ≤ last then false else riseO q.1 r
/-- what is no number -/
inductive Bad (K : PySem.W.Frag) (H : Hp) : V → Prop where
  | not {v : V} {n : String} (h : VTy K H v n) (hn : n ≠ "list") : Bad K H v
  | rise {a : Addr} {xs : List V} {rs : List (Option (Int × Int))} (h : SqL K H a xs) (hi : Items K H xs rs) (hr : riseO 0 rs = false) : Bad K H (.ref a)
  | many {a : Addr} {xs : List V} {L : List (Int × Int)} (h : SqL K H a xs) (hp : PrsAt K H xs L) (hr : riseB 0 L = true) (hm : 500 < many L) (hb : ∀ q ∈ L, q.2.natAbs < 2 ^ 200) : Bad K H (.ref a)
section
variable {K : PySem.W.Frag} {H H' : Hp} {v : V} {n : String} {o : Option Int} {r : Option (Int × Int)} {a t : Addr} {L : List (Int × Int)}
theorem VTy.ex (e : Ex H H') (h : VTy K H v n) : VTy K H' v n := ⟨h.1, fun H1 e1 => h.2 H1 (e.trans e1)⟩
theorem At.ex (e : Ex H H') (h : At K H v o) : At K H' v o := by
  cases h with
  | int i => exact .int i
  | oth h hn => exact .oth (h.ex e) hn
theorem Item.ex (e : Ex H H') (h : Item K H v r) : Item K H' v r := by
  cases h with
  | not h hn => exact .not (h.ex e) hn
  | len h hl => exact .len (ex_t e h) hl
  | two h hx hy => exact .two (ex_t e h) (hx.ex e) (hy.ex e)
theorem items_ex {xs : List V} {rs : List (Option (Int × Int))} (e : Ex H H') (h : Items K H xs rs) : Items K H' xs rs := Paired.mapP h fun _ _ q => q.ex e
theorem Bad.ex (e : Ex H H') (h : Bad K H v) : Bad K H' v := by
  cases h with
  | not h hn => exact .not (h.ex e) hn
  | rise h hi hr => exact .rise (ex_l e h) (items_ex e hi) hr
  | many h hp hr hm hb => exact .many (ex_l e h) (prs_ex e hp) hr hm hb
theorem vt_non : VTy K H .non "NoneType" := ⟨by decide, fun _ _ => .base .non⟩
theorem vt_bl {b : Bool} : VTy K H (.bl b) "bool" := ⟨by decide, fun _ _ => .base (.bl b)⟩
theorem vt_int {i : Int} : VTy K H (.int i) "int" := ⟨by decide, fun _ _ => .base (.int i)⟩
theorem vt_str {x : Str} : VTy K H (.str x) "str" := ⟨by decide, fun _ _ => .base (.str x)⟩
theorem vt_lst {xs : List V} (h : SqL K H a xs) : VTy K H (.ref a) "list" := ⟨by decide, fun _ e => ty_lst (ex_l e h)⟩
theorem vt_tup {xs : List V} (h : SqT K H a xs) : VTy K H (.ref a) "tuple" := ⟨by decide, fun _ e => ty_tup (ex_t e h)⟩
theorem vt_dct {kvs : List (Key × V)} (h : H a = some (.dK kvs)) : VTy K H (.ref a) "dict" := ⟨by decide, fun _ e => .base (.dK (e _ _ h))⟩
theorem at_ty (h : At K H v o) : ∃ n, VTy K H v n ∧ o.isSome = decide (n = "int") := by
  cases h with
  | int i => exact ⟨_, vt_int, rfl⟩
  | oth h hn => exact ⟨_, h, (decide_eq_false hn).symm⟩
/-- isinstance of them -/
theorem isi_int5 (h : VTy K H v n) : RC (rIsi K) [v, .ty "int"] H (.bl (decide (n = "int") || decide (n = "bool"))) := rc_isi (.ty _) h.2 (by
  have hm := h.1
  simp only [tyNs, List.mem_cons, List.not_mem_nil, or_false] at hm
  rcases hm with rfl | rfl | rfl | rfl | rfl | rfl | rfl <;> exact kit_ty (by decide +kernel))
theorem isi_bool5 (h : VTy K H v n) : RC (rIsi K) [v, .ty "bool"] H (.bl (decide (n = "bool"))) := rc_isi (.ty _) h.2 (by
  have hm := h.1
  simp only [tyNs, List.mem_cons, List.not_mem_nil, or_false] at hm
  rcases hm with rfl | rfl | rfl | rfl | rfl | rfl | rfl <;> exact kit_ty (by decide +kernel))
theorem isi_list5 (h : VTy K H v n) : RC (rIsi K) [v, .ty "list"] H (.bl (decide (n = "list"))) := rc_isi (.ty _) h.2 (by
  have hm := h.1
  simp only [tyNs, List.mem_cons, List.not_mem_nil, or_false] at hm
  rcases hm with rfl | rfl | rfl | rfl | rfl | rfl | rfl <;> exact kit_ty (by decide +kernel))
theorem isi_tup5 (h : VTy K H v n) : RC (rIsi K) [v, .ty "tuple"] H (.bl (decide (n = "tuple"))) := rc_isi (.ty _) h.2 (by
  have hm := h.1
  simp only [tyNs, List.mem_cons, List.not_mem_nil, or_false] at hm
  rcases hm with rfl | rfl | rfl | rfl | rfl | rfl | rfl <;> exact kit_ty (by decide +kernel))
end
/-! ### promises of defs that may refuse -/
section
variable (K : PySem.W.Frag) (cB : Addr)
def spWhole5 : Sp := fun vs H Q _ => ∃ v o, vs = [v] ∧ At K H v o ∧ RetV (.bl o.isSome) H Q
def spPair5 : Sp := fun vs H Q _ => ∃ v r, vs = [v] ∧ Item K H v r ∧ RetV (.bl r.isSome) H Q
def spRise5 : Sp := fun vs H Q _ => ∃ a xs rs, vs = [.ref a] ∧ SqL K H a xs ∧ Items K H xs rs ∧ RetV (.bl (riseO 0 rs)) H Q
def orBad (sp : Sp) : Sp := fun vs H Q E => sp vs H Q E ∨ ∃ v, vs = [v] ∧ Bad K H v ∧ ∀ H1, Ex H H1 → E (.ref cB) none H1
def spJoined5 (cT : Addr) : Sp := fun vs H Q E => spJoined K cT vs H Q E ∨ ∃ v w, vs = [v, w] ∧ (Bad K H v ∨ ∃ a L, v = .ref a ∧ NumAt K H a L ∧ Good L ∧ Bad K H w) ∧ ∀ H1, Ex H H1 → E (.ref cB) none H1
def spMade5 (cN cS : Addr) : Sp := fun vs H Q E => spMade K cN vs H Q E ∨ (∃ v w, vs = [v, w] ∧ Bad K H v ∧ ∀ H1, Ex H H1 → E (.ref cB) none H1) ∨
  ∃ (a : Addr) (L : List (Int × Int)) (w : V) (o : Option Int), vs = [.ref a, w] ∧ NumAt K H a L ∧ Good L ∧ At K H w o ∧ (∀ i, o = some i → i < 0 ∨ tot L < i) ∧ ∀ H1, Ex H H1 → E (.ref cS) none H1
end
section
variable {K : PySem.W.Frag} {H H' : Hp} {v w : V} {o : Option Int} {r : Option (Int × Int)} {a b cB cT cN cS : Addr} {L M : List (Int × Int)} {sp : Sp} {vs : List V} {m : Int}
theorem sv_whole5 (h : At K H v o) : SpV (spWhole5 K) [v] H (.bl o.isSome) := fun H1 e Q q _ => ⟨v, o, rfl, h.ex e, q⟩
theorem sv_pair5 (h : Item K H v r) : SpV (spPair5 K) [v] H (.bl r.isSome) := fun H1 e Q q _ => ⟨v, r, rfl, h.ex e, q⟩
theorem sv_rise5 {xs : List V} {rs : List (Option (Int × Int))} (h : SqL K H a xs) (hi : Items K H xs rs) : SpV (spRise5 K) [.ref a] H (.bl (riseO 0 rs)) := fun H1 e Q q _ => ⟨a, xs, rs, rfl, ex_l e h, items_ex e hi, q⟩
theorem sv_or (h : SpV sp vs H v) : SpV (orBad K cB sp) vs H v := fun H1 e Q q E => .inl (h H1 e Q q E)
theorem sf_or {P : Addr → Hp → Prop} (h : SpF sp vs H P) : SpF (orBad K cB sp) vs H P := fun H1 e Q q E => .inl (h H1 e Q q E)
theorem sf_joined5 (h : NumAt K H a L) (h' : NumAt K H b M) (g : Good L) (g' : Good M) (hm : many (joinV L M) ≤ 500) : SpF (spJoined5 K cB cT) [.ref a, .ref b] H (NewN K (joinV L M)) := fun H1 e Q q E => .inl (sf_joined h h' g g' hm H1 e Q q E)
theorem sf_made5 (h : NumAt K H a L) (g : Good L) (hm : 0 ≤ m ∧ m ≤ tot L) (ha : isAll L = true) : SpF (spMade5 K cB cN cS) [.ref a, .int m] H (fun p H2 => H2 p = some (.lst ((madeV L m).map V.int))) := fun H1 e Q q E => .inl (sf_made h g hm ha H1 e Q q E)
/-- a pair is what is_pair says -/
theorem item_pr {q : Int × Int} (h : Item K H v (some q)) : PrAt K H v q ∧ primeB q.1 = true ∧ 1 ≤ q.2 := by
  generalize hr : some q = r at h
  cases h with
  | not h hn => cases hr
  | len h hl => cases hr
  | two h hx hy =>
    cases hx with
    | oth _ _ => cases hr
    | int p =>
      cases hy with
      | oth _ _ => cases hr
      | int k =>
        have hr2 : some q = if (primeB p && decide (1 ≤ k)) = true then some (p, k) else none := hr
        by_cases hb : (primeB p && decide (1 ≤ k)) = true
        · rw [if_pos hb] at hr2
          rw [Bool.and_eq_true, decide_eq_true_eq] at hb
          have hq := Option.some.inj hr2
          subst hq
          exact ⟨⟨_, rfl, h⟩, hb.1, hb.2⟩
        · rw [if_neg hb] at hr2
          cases hr2
theorem pr_item {q : Int × Int} (h : PrAt K H v q) : Item K H v (pairO (some q.1) (some q.2)) := by
  obtain ⟨t, rfl, ht⟩ := h
  exact .two ht (.int _) (.int _)
theorem prs_items {xs : List V} (h : PrsAt K H xs L) : Items K H xs (L.map fun q => pairO (some q.1) (some q.2)) := by
  induction h with
  | nil => exact .nil
  | cons h1 _ ih => exact .cons (pr_item h1) ih
theorem rise_prs : ∀ (L : List (Int × Int)) (l : Int), riseO l (L.map fun q => pairO (some q.1) (some q.2)) = riseB l L
  | [], l => rfl
  | q :: r, l => by
    have ih := rise_prs r q.1
    show riseO l ((if (primeB q.1 && decide (1 ≤ q.2)) = true then some (q.1, q.2) else none) :: r.map fun q => pairO (some q.1) (some q.2)) = _
    unfold riseB
    cases hb : primeB q.1 && decide (1 ≤ q.2) with
    | false => rfl
    | true =>
      rw [if_pos rfl]
      show (if q.1 ≤ l then false else riseO q.1 (r.map fun q => pairO (some q.1) (some q.2))) = _
      rw [ih]
      by_cases hl : q.1 ≤ l
      · rw [if_pos hl, decide_eq_false (by omega)]
        rfl
      · rw [if_neg hl, decide_eq_true (by omega)]
        rfl
end
/-! ### values told by what holds of them; calls that raise -/
section
variable {K : PySem.W.Frag} {σ : L2.St} {H H' : Hp} {ta tb te : TE} {t : TT} {v : V} {D : Ends} {tu tw tz : TS}
def EvR (te : TE) (σ : L2.St) (H : Hp) : Prop := ∀ H1, Ex H H1 → ∀ Q : VK, te σ H1 Q
theorem er_call {sp : Sp} {E : L2.St → XK} {tx : TA} {vs : List V} (h : EvA tx σ H vs) (hs : ∀ H1, Ex H H1 → ∀ Q : VK, sp vs H1 Q (E σ)) : EvR (tCallS sp E tx) σ H := fun H1 e Q => h H1 e _ fun H2 e2 => hs H2 (e.trans e2) Q
theorem er_callP {sp : Sp} {E : L2.St → XK} {tx : TA} {P : List V → Hp → Prop} (h : EvAP tx σ H P) (hs : ∀ vs H1, P vs H1 → Ex H H1 → ∀ Q : VK, sp vs H1 Q (E σ)) : EvR (tCallS sp E tx) σ H := fun H1 e Q => h H1 e _ fun vs H2 e2 hp => hs vs H2 hp (e.trans e2) Q
theorem er_cb {rc : List V → Hp → VK → Prop} (h : EvR te σ H) : EvR (tCB rc (tCons te tNil)) σ H := fun H1 e Q => h H1 e _
theorem s_retR (h : EvR te σ H) : tRet te D σ H := h H (Ex.refl H) _
theorem q_dropR (h : EvR te σ H) : tSeq (tDrop te) tz D σ H := h H (Ex.refl H) _
/-- a call that may raise, not raising -/
theorem evs_call {sp : Sp} {E : L2.St → XK} {tx : TA} {vs : List V} (h : EvA tx σ H vs) (hs : SpV sp vs H v) : Ev (tCallS sp E tx) σ H v := fun H1 e Q q => h H1 e _ fun H2 e2 => hs H2 (e.trans e2) Q (fun H3 e3 => q H3 (e2.trans e3)) (E σ)
theorem efs_call {sp : Sp} {E : L2.St → XK} {tx : TA} {vs : List V} {P : Addr → Hp → Prop} (h : EvA tx σ H vs) (hs : SpF sp vs H P) : EvF (tCallS sp E tx) σ H P := fun H1 e Q q => h H1 e _ fun H2 e2 => hs H2 (e.trans e2) Q (fun p H3 np e3 hp => q p H3 (fresh_back e2 np) (e2.trans e3) hp) (E σ)
end
section
variable {K : PySem.W.Frag} {σ : L2.St} {H : Hp} {t : TT} {D : Ends} {tu tw tz : TS}
theorem s_yes {b : Bool} (h : EvT t σ H b) (hb : b = true) (k : ∀ H1, Ex H H1 → tu D σ H1) : tIfS t tu tw D σ H := s_if h (fun _ => k) (fun e => by rw [hb] at e; cases e)
theorem items_get {xs : List V} {rs : List (Option (Int × Int))} {i : Nat} {v : V} (h : Items K H xs rs) (e : xs[i]? = some v) : ∃ r, rs[i]? = some r ∧ Item K H v r := by
  induction h generalizing i with
  | nil => simp at e
  | cons h1 _ ih =>
    cases i with
    | zero =>
      have e2 := Option.some.inj e
      subst e2
      exact ⟨_, rfl, h1⟩
    | succ i => exact ih e
def lastB : Option Int → Bool
  | some k => decide (1 ≤ k)
  | none => false
theorem pair_some (o u : Option Int) : (pairO o u).isSome = (o.isSome && ((match o with | some p => primeB p | none => false) && (u.isSome && lastB u))) := by
  cases o with
  | none => rfl
  | some p =>
    cases u with
    | none =>
      show false = (true && (primeB p && false))
      cases primeB p <;> rfl
    | some k =>
      show (if (primeB p && decide (1 ≤ k)) = true then some (p, k) else none : Option (Int × Int)).isSome = (true && (primeB p && (true && decide (1 ≤ k))))
      cases primeB p <;> cases decide (1 ≤ k) <;> rfl
end
section
variable {K : PySem.W.Frag} {σ : L2.St} {H : Hp} {te : TE} {v : V} {n : String} {u : TT}
theorem et_notTup (h : Ev te σ H v) (hT : VTy K H v n) (hn : n ≠ "tuple") : EvT (tNot (tB (tCB (rIsi K) (tCons te (tCons (tC (.ty "tuple")) tNil))))) σ H true := by
  have q := et_not (et_val (ev_cb (ea_cons h (ea_cons (ev_c (v := .ty "tuple")) ea_nil)) (isi_tup5 hT)))
  rw [decide_eq_false hn] at q
  exact q
theorem et_notList (h : Ev te σ H v) (hT : VTy K H v n) (hn : n ≠ "list") : EvT (tNot (tB (tCB (rIsi K) (tCons te (tCons (tC (.ty "list")) tNil))))) σ H true := by
  have q := et_not (et_val (ev_cb (ea_cons h (ea_cons (ev_c (v := .ty "list")) ea_nil)) (isi_list5 hT)))
  rw [decide_eq_false hn] at q
  exact q
end
end Es
set_option maxHeartbeats 2000000
namespace Es
open PySem PySem.Spec PyProof.Rows L2 Evl
/-! ### the kinds of an error -/
abbrev B4 := Bool × Bool × Bool × Bool
structure ErrK (K : PySem.W.Frag) (cS cX cY cZ cW C : Addr) (b : B4) : Prop where
  exc : ExcC K C
  exm : PySem.W.exmOne K (.ref C) (.ref cS) = some true
  k0 : PySem.W.kitOne K (.ref C) (.ref cX) = some b.1
  k1 : PySem.W.kitOne K (.ref C) (.ref cY) = some b.2.1
  k2 : PySem.W.kitOne K (.ref C) (.ref cZ) = some b.2.2.1
  k3 : PySem.W.kitOne K (.ref C) (.ref cW) = some b.2.2.2
  kv : PySem.W.kitOne K (.ref C) (.type "ValueError") = some true
theorem kit_val {K : PySem.W.Frag} {C : Addr} (h : PySem.W.subIn K (.ref C) (.type "ValueError") = some true) : PySem.W.kitOne K (.ref C) (.type "ValueError") = some true := by
  unfold PySem.W.kitOne
  rw [if_neg (by intro z; exact nomatch (eq_of_beq z))]
  show (if PySem.W.kitMeta "ValueError" = true then PySem.W.subIn K (.ref C) (.type "ValueError") else none) = some true
  rw [if_pos (by decide +kernel)]
  exact h
def kindB (b : B4) : List Bool := [b.1, b.2.1, b.2.2.1, b.2.2.2, true]
def kindV (b : B4) : List V := (kindB b).map V.bl
def NewK (b : B4) (q : Addr) (H : Hp) : Prop := H q = some (.lst (kindV b))
theorem mono_k {b : B4} : Mono (NewK b) := mono_obj
section
variable (K : PySem.W.Frag) (mg : Str → Option Value) (cS cX cY cZ cW : Addr)
def spKinds : SpP := fun p vs H Q _ => ∃ (C : Addr) (b : B4), vs = [.ref p.1] ∧ Zc (.ref C) none p.2 ∧ (∃ vs, p.2.data = .fields vs) ∧ ErrK K cS cX cY cZ cW C b ∧ RetF (NewK b) H Q
def spK1 (a C : Addr) : Sp := fun vs H Q _ => ∃ b : B4, vs = [.ref a] ∧ ErrK K cS cX cY cZ cW C b ∧ RetF (NewK b) H Q
def spWN : Sp := fun vs H _ E => ∃ (d : Int) (v : V), vs = [.int d, v] ∧ Bad K H v ∧ ∀ H1, Ex H H1 → E (.ref cX) none H1
def spWA : Sp := fun vs H _ E => ∃ (a : Addr) (L : List (Int × Int)) (w : V), vs = [.ref a, w] ∧ NumAt K H a L ∧ Good L ∧
  ((∃ o : Option Int, At K H w o ∧ (∀ i, o = some i → i < 0 ∨ tot L < i) ∧ ∀ H1, Ex H H1 → E (.ref cY) none H1) ∨ ∃ i : Int, w = .int i ∧ (0 ≤ i ∧ i ≤ tot L) ∧ isAll L = false ∧ ∀ H1, Ex H H1 → E (.ref cZ) none H1)
def ST (f : Addr) (sp : Sp) : Prop := (mg "_law_with_number" = some (.ref f) ∧ sp = spWN K cX) ∨ (mg "_law_with_amount" = some (.ref f) ∧ sp = spWA K cY cZ) ∨ (mg "joined" = some (.ref f) ∧ sp = spJoined5 K cX cW)
def spT5 : Sp := fun vs H Q _ => ∃ (f : Addr) (x y : V) (sp : Sp) (C : Addr) (b : B4), vs = [.ref f, x, y] ∧ ST K mg cX cY cZ cW f sp ∧ ErrK K cS cX cY cZ cW C b ∧
  (∀ H1, Ex H H1 → ∀ (Q' : VK) (E' : XK), (∀ H2, Ex H1 H2 → E' (.ref C) none H2) → sp [x, y] H1 Q' E') ∧ RetF (NewK b) H Q
end
def DfP (P : Program) (w : World) (K : PySem.W.Frag) (mg : Str → Option Value) (base : Heap) (k : Nat) (x : Str) (ps : List Str) (sp : SpP) : Prop :=
  ∃ (f : Addr) (fd : FuncData), FnP P w K mg base CX0 k f fd ps sp ∧ mg x = some (.ref f) ∧ PySem.W.keepIn K (.ref f) = true ∧ Binds K fd ps []
section
variable {X : Cx} {k : Nat} {ps : List Str} {sp : SpP} {x : Str} {p pos : Pos} {e : Expr} {es : List Expr} {t : TA} {a : Addr} {oe : Obj} {cls : Value} {d : Option Addr} {pn : List (Addr × Obj)}
theorem pe_callPD {sp1 : Sp} (D : DfP X.prog X.w X.K X.mg X.base k x ps sp) (room : Room k X.A) (hz : L2N.Zn cls d oe) (hf : ∃ vs, oe.data = .fields vs) (hg : Gl (X.suite a ((a, oe) :: pn)) x) (imp : ∀ vs H Q, sp1 vs H Q E0 → sp (a, oe) vs H Q E0)
    (ha : PA (X.suite a ((a, oe) :: pn)) (e :: es) t) (hdb : (x == ("__debug__" : Str)) = false := by decide) (he : starEach (e :: es) X.env = (false, eval e X.env) :: starEach es X.env := by rfl) (hpl : (backTo pos (starEach es X.env)).any (·.1) = false := by rfl) :
    PE (X.suite a ((a, oe) :: pn)) (.Call (.Name x p) (e :: es) [] pos) (tCall sp1 [] E0 t) := by
  obtain ⟨f, fd, F, g, kp, b⟩ := D
  obtain ⟨vs, hv⟩ := hf
  exact pe_callP (X := X.suite a ((a, oe) :: pn)) (h0 := (a, oe)) (pos := pos) (p := p) imp F ⟨room.dp, room.un⟩ ⟨rfl, vs, hv, hz.2.2 vs hv⟩ List.mem_cons_self hg g kp b ha hdb he hpl
end
section
variable {K : PySem.W.Frag} {σ : L2.St} {H H' : Hp} {ta tb te : TE} {t : TT} {v : V} {D : Ends} {tu tw tz : TS}
theorem er_if {b : Bool} (h : EvT t σ H b) (h1 : b = true → EvR ta σ H) (h2 : b = false → EvR tb σ H) : EvR (tIf t ta tb) σ H := fun H1 e Q => h H1 e _ fun H2 e2 => by
  cases b with
  | true => exact h1 rfl H2 (e.trans e2) Q
  | false => exact h2 rfl H2 (e.trans e2) Q
theorem rc_isV {a B : Addr} {n : String} {r : Bool} (e : PySem.W.kitOne K (.ref B) (.type n) = some r) : RC (rIsE K B a) [.ref a, .ty n] H (.bl r) := fun H1 _ Q q => ⟨.ty n, .type n, r, rfl, fun u h => (ClsV.ty n).eq h, e, q H1 (Ex.refl H1)⟩
/-! ### values told by a word -/
def EvW (te : TE) (σ : L2.St) (H : Hp) (P : V → Hp → Prop) : Prop := ∀ H1, Ex H H1 → ∀ Q : VK, (∀ v H2, Ex H1 H2 → P v H2 → Q v H2) → te σ H1 Q
abbrev MonoW (P : V → Hp → Prop) : Prop := ∀ v H H', Ex H H' → P v H → P v H'
theorem ew_v {P : V → Hp → Prop} (h : Ev te σ H v) (hp : ∀ H1, Ex H H1 → P v H1) : EvW te σ H P := fun H1 e Q q => h H1 e _ fun H2 e2 => q v H2 e2 (hp H2 (e.trans e2))
theorem ew_f {P : V → Hp → Prop} {PF : Addr → Hp → Prop} (h : EvF te σ H PF) (hp : ∀ p H1, Ex H H1 → PF p H1 → P (.ref p) H1) : EvW te σ H P := fun H1 e Q q => h H1 e _ fun p H2 np e2 hq => q _ H2 e2 (hp p H2 (e.trans e2) hq)
/-- all arguments so -/
def EvWs (ta : TA) (σ : L2.St) (H : Hp) (n : Nat) (P : V → Hp → Prop) : Prop := ∀ H1, Ex H H1 → ∀ Q : List V → Hp → Prop, (∀ vs H2, Ex H1 H2 → vs.length = n → (∀ v ∈ vs, P v H2) → Q vs H2) → ta σ H1 Q
theorem ews_nil {P : V → Hp → Prop} : EvWs tNil σ H 0 P := fun H1 _ _ q => q [] H1 (Ex.refl H1) rfl fun v hv => nomatch hv
theorem ews_cons {P : V → Hp → Prop} {tr : TA} {n : Nat} (hm : MonoW P) (h : EvW te σ H P) (hr : EvWs tr σ H n P) : EvWs (tCons te tr) σ H (n + 1) P := fun H1 e _ q =>
  h H1 e _ fun v H2 e2 hv => hr H2 (e.trans e2) _ fun vs H3 e3 hl hvs => q _ H3 (e2.trans e3) (congrArg (· + 1) hl) fun w hw => by
    rcases List.mem_cons.mp hw with rfl | hw
    · exact hm _ _ _ e3 hv
    · exact hvs w hw
/-- a new list of such things -/
def LstW (P : V → Hp → Prop) (p : Addr) (H : Hp) : Prop := ∃ xs : List V, H p = some (.lst xs) ∧ xs.length ≤ 1000 ∧ ∀ v ∈ xs, P v H
theorem mono_lw {P : V → Hp → Prop} (hm : MonoW P) : Mono (LstW P) := fun p H H' e ⟨xs, h1, h2, h3⟩ => ⟨xs, e _ _ h1, h2, fun v hv => hm _ _ _ e (h3 v hv)⟩
theorem ef_lstW {P : V → Hp → Prop} {tr : TA} {n : Nat} (hm : MonoW P) (h : EvWs tr σ H n P) (hn : n ≤ 1000) : EvF (tLst tr) σ H (LstW P) := fun H1 e Q q => h H1 e _ fun vs H2 e2 hl hp =>
  ⟨sz_of (by omega), fun p np => q p _ (fresh_back e2 np) (e2.trans (Ex.new np)) ⟨vs, upd_same, by omega, fun v hv => hm _ _ _ (Ex.new np) (hp v hv)⟩⟩
theorem mono_bad : MonoW (fun v H => Bad K H v) := fun _ _ _ e h => h.ex e
theorem mono_item {r : Option (Int × Int)} : MonoW (fun v H => Item K H v r) := fun _ _ _ e h => h.ex e
end
/-! ### the list of what is no number -/
/-- the heap without what stands at l -/
def er (l : Addr) (H : Hp) : Hp := fun b => if b = l then none else H b
section
variable {K : PySem.W.Frag} {σ : L2.St} {H H' Hb : Hp} {ta tb tc td te tx : TE} {v : V} {a p l : Addr} {o : HO} {L : List (Int × Int)} {D : Ends} {tz : TS} {r : Option (Int × Int)}
theorem er_at : er l H l = none := if_pos rfl
theorem er_ne (h : a ≠ l) : er l H a = H a := if_neg h
theorem er_ex : Ex (er l H) H := fun b o h => by
  by_cases e : b = l
  · rw [e, er_at] at h
    cases h
  · rw [er_ne e] at h
    exact h
theorem ex_er (e : Ex Hb H) (n : Hb l = none) : Ex Hb (er l H) := fun b o h => by
  have hb : b ≠ l := fun z => by rw [z, n] at h; cases h
  rw [er_ne hb]
  exact e b o h
theorem er_mono (e : Ex H H') : Ex (er l H) (er l H') := fun b o h => by
  by_cases z : b = l
  · rw [z, er_at] at h
    cases h
  · rw [er_ne z] at h ⊢
    exact e b o h
/-- a list that grows, of things that stand without it -/
def LstC (K : PySem.W.Frag) (n : Nat) (P : V → Hp → Prop) (p : Addr) (H : Hp) : Prop := ∃ xs, H p = some (.lst xs) ∧ xs.length ≤ n ∧ ∀ v ∈ xs, P v (er p H)
theorem ew_fn {P : V → Hp → Prop} {PF : Addr → Hp → Prop} (h : EvF te σ H PF) (hp : ∀ p H1, H p = none → Ex H H1 → PF p H1 → P (.ref p) H1) : EvW te σ H P := fun H1 e Q q => h H1 e _ fun p H2 np e2 hq => q _ H2 e2 (hp p H2 (fresh_back e np) (e.trans e2) hq)
theorem ef_lstC {P : V → Hp → Prop} {tr : TA} {n : Nat} (hm : MonoW P) (h : EvWs tr σ H n P) (hn : n ≤ 1000) : EvF (tLst tr) σ H (LstC K n P) := fun H1 e Q q => h H1 e _ fun vs H2 e2 hl hp =>
  ⟨sz_of (by omega), fun p np => q p _ (fresh_back e2 np) (e2.trans (Ex.new np)) ⟨vs, upd_same, by omega, fun v hv => hm _ _ _ (ex_er (Ex.new np) np) (hp v hv)⟩⟩
theorem ef_catC {P : V → Hp → Prop} {n m : Nat} (hm : MonoW P) (h1 : Ev ta σ H (.ref a)) (ha : LstC K n P a H) (h2 : EvF tb σ H (LstC K m P)) (hn : n + m ≤ 1000) : EvF (tOp rCat ta tb) σ H (LstC K (n + m) P) := fun H1 e Q q =>
  h1 H1 e _ fun H2 e2 => h2 H2 (e.trans e2) _ fun b H3 nb e3 ⟨ys, hb, hl, hy⟩ => by
    obtain ⟨xs, hx, hxl, hxs⟩ := ha
    have e03 := (e.trans e2).trans e3
    refine ⟨a, b, xs, ys, rfl, rfl, e03 _ _ hx, hb, sz_of (by omega), fun p np => q p _ (fresh_back (e2.trans e3) np) ((e2.trans e3).trans (Ex.new np)) ⟨_, upd_same, by rw [List.length_append]; omega, fun v hv => ?_⟩⟩
    have k := ex_er (l := p) (Ex.new (o := .lst (xs ++ ys)) np) np
    rcases List.mem_append.mp hv with hv | hv
    · exact hm _ _ _ (er_ex.trans (e03.trans k)) (hxs v hv)
    · exact hm _ _ _ (er_ex.trans k) (hy v hv)
/-- an append to it -/
theorem lstC_app {P : V → Hp → Prop} {n : Nat} (hm : MonoW P) (ha : LstC K n P l H) (e : Ex H H') (hv : P v (er l H')) : ∃ xs, H' l = some (.lst xs) ∧ xs.length ≤ n ∧ LstC K (n + 1) P l (upd H' l (.lst (xs ++ [v]))) := by
  obtain ⟨xs, hx, hxl, hxs⟩ := ha
  refine ⟨xs, e _ _ hx, hxl, _, upd_same, by rw [List.length_append, List.length_singleton]; omega, fun w hw => ?_⟩
  have k : Ex (er l H') (er l (upd H' l (.lst (xs ++ [v])))) := fun b o h => by
    have hb : b ≠ l := fun z => by rw [z, er_at] at h; cases h
    rw [er_ne hb] at h ⊢
    rw [upd_ne hb]
    exact h
  rcases List.mem_append.mp hw with hw | hw
  · exact hm _ _ _ ((er_mono e).trans k) (hxs w hw)
  · rw [List.mem_singleton.mp hw]
    exact hm _ _ _ k hv
theorem items_of : ∀ {xs : List V}, (∀ v ∈ xs, ∃ r, Item K H v r) → ∃ rs, Items K H xs rs
  | [], _ => ⟨[], .nil⟩
  | x :: xs, h => by
    obtain ⟨r, hr⟩ := h x List.mem_cons_self
    obtain ⟨rs, hrs⟩ := items_of fun v hv => h v (List.mem_cons_of_mem _ hv)
    exact ⟨r :: rs, .cons hr hrs⟩
theorem items_app {xs ys : List V} {rs qs : List (Option (Int × Int))} (h : Items K H xs rs) (h1 : Items K H ys qs) : Items K H (xs ++ ys) (rs ++ qs) := by
  induction h with
  | nil => exact h1
  | cons q _ ih => exact .cons q ih
theorem rise_none : ∀ (rs qs : List (Option (Int × Int))) (l : Int), riseO l (rs ++ none :: qs) = false
  | [], _, _ => rfl
  | none :: _, _, _ => rfl
  | some q :: r, qs, l => by
    show (if q.1 ≤ l then false else riseO q.1 (r ++ none :: qs)) = false
    rw [rise_none r qs q.1]
    exact ite_self _
theorem bad_rise (h : NumAt K H a L) (hr : riseB 0 L = false) : Bad K H (.ref a) := by
  obtain ⟨xs, hx, hp⟩ := h
  exact .rise hx (prs_items hp) (by rw [rise_prs]; exact hr)
theorem bad_many (h : NumAt K H a L) (hr : riseB 0 L = true) (hm : 500 < many L) (hb : ∀ q ∈ L, q.2.natAbs < 2 ^ 200) : Bad K H (.ref a) := by
  obtain ⟨xs, hx, hp⟩ := h
  exact .many hx hp hr hm hb
/-- written things -/
theorem bw_c {n : String} (h : ∀ H1, VTy K H1 v n) (hn : n ≠ "list") : EvW (tC v) σ H (fun v H => Bad K H v) := ew_v ev_c fun H1 _ => .not (h H1) hn
theorem bw_dct : EvW tDNewK σ H (fun v H => Bad K H v) := ew_f ef_dnew fun p H1 _ h => .not (vt_dct h) (by decide)
theorem bw_tup {tr : TA} {P : List V → Hp → Prop} (h : EvAP tr σ H P) (hm : MonoL P) (hl : ∀ vs H1, P vs H1 → vs.length ≤ 100000) : EvW (tTup tr) σ H (fun v H => Bad K H v) := ew_f (ef_tupP h hm hl) fun p H1 _ ⟨vs, h, _⟩ => .not (vt_tup (st_of h)) (by decide)
theorem bw_num (h : EvF te σ H (NewN K L)) (hr : riseB 0 L = false) : EvW te σ H (fun v H => Bad K H v) := ew_f h fun p H1 _ hN => bad_rise hN.num hr
theorem bw_many (h : EvF te σ H (NewN K L)) (hr : riseB 0 L = true) (hm : 500 < many L) (hb : ∀ q ∈ L, q.2.natAbs < 2 ^ 200) : EvW te σ H (fun v H => Bad K H v) := ew_f h fun p H1 _ hN => bad_many hN.num hr hm hb
/-- a list of one item that is no pair -/
theorem bw_one (h : EvW te σ H (fun v H => Item K H v none)) : EvW (tLst (tCons te tNil)) σ H (fun v H => Bad K H v) := fun H1 e Q q => h H1 e _ fun v H2 e2 hv =>
  ⟨sz_of (show 1 ≤ 100000 by decide), fun p np => q _ _ (e2.trans (Ex.new np)) (.rise (sq_of upd_same) (.cons (hv.ex (Ex.new np)) .nil) rfl)⟩
theorem iw_c {n : String} (h : ∀ H1, VTy K H1 v n) (hn : n ≠ "tuple") : EvW (tC v) σ H (fun v H => Item K H v none) := ew_v ev_c fun H1 _ => .not (h H1) hn
theorem iw_len {tr : TA} {xs : List V} (h : EvA tr σ H xs) (hz : xs.length ≤ 100000) (hl : xs.length ≠ 2) : EvW (tTup tr) σ H (fun v H => Item K H v none) := ew_f (ef_u (eu_tup h hz)) fun p H1 _ hp => .len (st_of hp) hl
theorem iw_lst {tr : TA} {xs : List V} (h : EvA tr σ H xs) (hz : xs.length ≤ 100000) : EvW (tLst tr) σ H (fun v H => Item K H v none) := ew_f (ef_l (el_lst h hz)) fun p H1 _ hp => .not (vt_lst (sq_of hp)) (by decide)
theorem iw_two {x y : V} {o u : Option Int} (h1 : Ev ta σ H x) (h2 : Ev tb σ H y) (hx : ∀ H1, At K H1 x o) (hy : ∀ H1, At K H1 y u) (hr : pairO o u = none) : EvW (tTup (tCons ta (tCons tb tNil))) σ H (fun v H => Item K H v none) := ew_f (ef_u (eu_tup (ea_cons h1 (ea_cons h2 ea_nil)) (show 2 ≤ 100000 by decide))) fun p H1 _ hp => hr ▸ Item.two (st_of hp) (hx H1) (hy H1)
/-- the same beside a list that grows -/
theorem mono_itemE : MonoW (fun v H => Item K (er l H) v none) := fun _ _ _ e h => h.ex (er_mono e)
theorem jw_c {n : String} (h : ∀ H1, VTy K H1 v n) (hn : n ≠ "tuple") : EvW (tC v) σ H (fun v H => Item K (er l H) v none) := ew_v ev_c fun H1 _ => .not (h _) hn
theorem jw_lst {tr : TA} {xs : List V} (h : EvA tr σ H xs) (hz : xs.length ≤ 100000) (hl : H l = some o) : EvW (tLst tr) σ H (fun v H => Item K (er l H) v none) := ew_fn (ef_l (el_lst h hz)) fun p H1 np e hp => .not (vt_lst (sq_of ((er_ne (fun z => by rw [z, hl] at np; cases np)).trans hp))) (by decide)
theorem jw_two {x y : V} {q u : Option Int} (h1 : Ev ta σ H x) (h2 : Ev tb σ H y) (hx : ∀ H1, At K H1 x q) (hy : ∀ H1, At K H1 y u) (hr : pairO q u = none) (hl : H l = some o) : EvW (tTup (tCons ta (tCons tb tNil))) σ H (fun v H => Item K (er l H) v none) :=
  ew_fn (ef_u (eu_tup (ea_cons h1 (ea_cons h2 ea_nil)) (show 2 ≤ 100000 by decide))) fun p H1 np e hp => hr ▸ Item.two (st_of ((er_ne (fun z => by rw [z, hl] at np; cases np)).trans hp)) (hx _) (hy _)
theorem ef_tupW {P : V → Hp → Prop} {tr : TA} {n : Nat} (hm : MonoW P) (h : EvWs tr σ H n P) (hn : n ≤ 1000) : EvF (tTup tr) σ H (fun p H2 => ∃ xs, H2 p = some (.tup xs) ∧ xs.length = n ∧ ∀ v ∈ xs, P v H2) := fun H1 e Q q => h H1 e _ fun vs H2 e2 hl hp =>
  ⟨sz_of (by omega), fun p np => q p _ (fresh_back e2 np) (e2.trans (Ex.new np)) ⟨vs, upd_same, hl, fun v hv => hm _ _ _ (Ex.new np) (hp v hv)⟩⟩
end
theorem at_bl {K : PySem.W.Frag} {b : Bool} (H : Hp) : At K H (.bl b) none := .oth vt_bl (by decide)
theorem at_str {K : PySem.W.Frag} {x : Str} (H : Hp) : At K H (.str x) none := .oth vt_str (by decide)
theorem at_non {K : PySem.W.Frag} (H : Hp) : At K H .non none := .oth vt_non (by decide)
theorem pair_far {p k : Int} (h : 997 < p) : pairO (some p) (some k) = none := by
  have hp : primeB p = false := by
    unfold primeB
    rw [decide_eq_false (show ¬ p ≤ 997 by omega), Bool.and_false]
    rfl
  show (if (primeB p && decide (1 ≤ k)) = true then some (p, k) else none) = none
  rw [hp]
  rfl
theorem rise_low {p k : Int} (h : k < 1) : riseB 0 [(p, k)] = false := by
  unfold riseB
  rw [decide_eq_false (show ¬ 1 ≤ k by omega), Bool.and_false]
  rfl
theorem cut_mem {xs : List V} {lo hi : Option Int} {v : V} (h : v ∈ cutV xs lo hi) : v ∈ xs := List.mem_of_mem_drop (List.mem_of_mem_take h)
theorem cut_le (xs : List V) (lo hi : Option Int) : (cutV xs lo hi).length ≤ xs.length := by
  unfold cutV
  rw [List.length_take, List.length_drop]
  omega
def spBadN (K : PySem.W.Frag) : Sp := fun vs H Q _ => ∃ (a : Addr) (L : List (Int × Int)) (far : Int), vs = [.ref a, .int far] ∧ NumAt K H a L ∧ Good L ∧ (0 ≤ far ∧ far < 10 ^ 40) ∧ RetF (LstW (fun v H => Bad K H v)) H Q
theorem sf_badN {K : PySem.W.Frag} {H : Hp} {a : Addr} {L : List (Int × Int)} {far : Int} (h : NumAt K H a L) (g : Good L) (hf : 0 ≤ far ∧ far < 10 ^ 40) : SpF (spBadN K) [.ref a, .int far] H (LstW (fun v H => Bad K H v)) := fun H1 e Q q _ => ⟨a, L, far, rfl, h.ex e, g, hf, q⟩
theorem er_upd {H : Hp} {l : Addr} {o : HO} : Ex (er l H) (er l (upd H l o)) := fun b u h => by
  have hb : b ≠ l := fun z => by rw [z, er_at] at h; cases h
  rw [er_ne hb] at h ⊢
  rw [upd_ne hb]
  exact h
theorem rise_500 {far : Int} (h : 0 ≤ far ∧ far < 10 ^ 40) : riseB 0 [(2, 500 + far)] = true := rise_mk (show primeB 2 = true by decide +kernel) (show 1 ≤ 500 + far by omega) (show (0 : Int) < 2 by decide) rfl
theorem many_500 {far : Int} (h : 0 ≤ far ∧ far < 10 ^ 40) : 500 < many [(2, 500 + far)] := by
  show 500 < 1 * (500 + far + 1)
  omega
theorem bits_500 {far : Int} (h : 0 ≤ far ∧ far < 10 ^ 40) : ∀ q ∈ [((2 : Int), 500 + far)], q.2.natAbs < 2 ^ 200 := fun q hq => by
  rw [List.mem_singleton.mp hq]
  show (500 + far).natAbs < 2 ^ 200
  have h2 : (10 : Nat) ^ 40 + 500 < 2 ^ 200 := by decide
  omega
theorem q_forTn {K : PySem.W.Frag} {σ : L2.St} {H : Hp} {D : Ends} {tu tz : TS} {j : Nat} {a : Addr} {xs : List V} {tl : TE} (h : Ev tl σ H (.ref a)) (hx : SqT K H a xs) (Pv : Nat → L2.St → Hp → Prop) (h0 : ∀ H1, Ex H H1 → Pv 0 σ H1) (hl : ∀ i σ' H', i ≤ xs.length → Pv i σ' H' → SqT K H' a xs)
    (hs : ∀ i x σ' H', xs[i]? = some x → Pv i σ' H' → tu { D with nx := Pv (i + 1), ct := Pv (i + 1), bk := tz D } (σ'.set j (some x)) H') (hd : ∀ σ' H', Pv xs.length σ' H' → tz D σ' H') : tSeq (tFor (iTup K tl) (gName j) tu) tz D σ H := q_forT h hx Pv h0 hl hs hd
/-! ### the law's own body -/
theorem op_eqDK {X : Cx} {K : PySem.W.Frag} (h : X.K = K) (hu : X.A.units + 64 < cLine) : OpR X (compareOp .Eq) (rEqD K) := h ▸ op_eqD hu
section
variable {K : PySem.W.Frag} {σ : L2.St} {H H' : Hp} {ta tb te : TE} {v w x y : V} {a p q d : Addr} {D : Ends} {tz : TS} {b : B4}
def dB (bs : List Bool) : PyData := .list (bs.map PyData.bool)
theorem dp_b {bs : List Bool} (h : SqL K H a (bs.map V.bl)) : Dp K H (.ref a) (dB bs) := .lst h (by
  induction bs with
  | nil => exact .nil
  | cons c r ih => exact .cons (.bl c) (by
      clear ih h
      induction r with
      | nil => exact .nil
      | cons c r ih => exact .cons (.bl c) ih))
theorem shaped_k (b : B4) : SeqAt.shaped (dB (kindB b)) = true := by
  obtain ⟨b0, b1, b2, b3⟩ := b
  cases b0 <;> cases b1 <;> cases b2 <;> cases b3 <;> rfl
theorem eqv_k (b : B4) : PyData.eqv (dB (kindB b)) (dB (kindB b)) = true := by
  obtain ⟨b0, b1, b2, b3⟩ := b
  cases b0 <;> cases b1 <;> cases b2 <;> cases b3 <;> rfl
theorem rv_eqK (h : NewK b a H) (h' : NewK b p H) : RV (rEqD K) (.ref a) (.ref p) H (.bl true) := fun H1 e Q k =>
  ⟨_, _, dp_b (sq_of (e _ _ h)), dp_b (sq_of (e _ _ h')), shaped_k _, shaped_k _, by rw [eqv_k]; exact k H1 (Ex.refl H1)⟩
theorem rv_neK (h : NewK b a H) (h' : NewK b p H) : RV (rNeD K) (.ref a) (.ref p) H (.bl false) := fun H1 e Q k =>
  ⟨_, _, dp_b (sq_of (e _ _ h)), dp_b (sq_of (e _ _ h')), shaped_k _, shaped_k _, by rw [eqv_k]; exact k H1 (Ex.refl H1)⟩
def bkI (i : Nat) : B4 := (decide ((i : Int) = 0), decide ((i : Int) = 1), decide ((i : Int) = 2), decide ((i : Int) = 3))
/-- the four answers that are due -/
def DueI (i : Nat) (d : Addr) (H : Hp) : Prop := ∃ rs : List Addr, rs.length = i ∧ H d = some (.lst (rs.map V.ref)) ∧ ∀ j r, rs[j]? = some r → r ≠ d ∧ NewK (bkI j) r H
theorem due_ex {i : Nat} (e : Ex H H') (h : DueI i d H) : DueI i d H' := by
  obtain ⟨rs, h1, h2, h3⟩ := h
  exact ⟨rs, h1, e _ _ h2, fun j r hr => ⟨(h3 j r hr).1, e _ _ (h3 j r hr).2⟩⟩
theorem due_app {i : Nat} (h : DueI i d H) (hp : p ≠ d) (hk : NewK (bkI i) p H) : ∃ xs, H d = some (.lst xs) ∧ xs.length = i ∧ DueI (i + 1) d (upd H d (.lst (xs ++ [.ref p]))) := by
  obtain ⟨rs, h1, h2, h3⟩ := h
  refine ⟨_, h2, by rw [List.length_map]; exact h1, rs ++ [p], by rw [List.length_append, h1]; rfl, by rw [upd_same, List.map_append]; rfl, fun j r hr => ?_⟩
  by_cases hj : j < rs.length
  · rw [List.getElem?_append_left hj] at hr
    obtain ⟨z1, z2⟩ := h3 j r hr
    exact ⟨z1, (upd_ne z1).trans z2⟩
  · rw [List.getElem?_append_right (by omega)] at hr
    have e0 : j - rs.length = 0 := by
      refine Nat.eq_zero_of_not_pos fun z => ?_
      rw [List.getElem?_eq_none (by simp; omega)] at hr
      cases hr
    rw [e0] at hr
    cases hr
    have : j = i := by omega
    rw [this]
    exact ⟨hp, (upd_ne hp).trans hk⟩
theorem due_at {j : Nat} (h : DueI 4 d H) (hj : j < 4) : ∃ xs r, SqL K H d xs ∧ atI xs (j : Int) = some (.ref r) ∧ NewK (bkI j) r H := by
  obtain ⟨rs, h1, h2, h3⟩ := h
  have e := List.getElem?_eq_getElem (show j < rs.length by omega)
  exact ⟨_, rs[j], sq_of h2, atI_nat (by rw [List.getElem?_map, e]; rfl), (h3 j _ e).2⟩
theorem q_parVF {i j : Nat} {P : Addr → Hp → Prop} (ha : Ev ta σ H w) (hb : EvF tb σ H P) (k : ∀ p H1, H p = none → P p H1 → Ex H H1 → tz D ((σ.set i (some w)).set j (some (.ref p))) H1) : tSeq (tPar i j (tCons ta (tCons tb tNil))) tz D σ H :=
  ha H (Ex.refl H) _ fun H1 e1 => hb H1 e1 _ fun p H2 np e2 hp => ⟨w, .ref p, rfl, k p H2 (fresh_back e1 np) hp (e1.trans e2)⟩
end
theorem q_tupVF {K : PySem.W.Frag} {σ : L2.St} {H : Hp} {ta tb : TE} {w : V} {D : Ends} {tz : TS} {i j : Nat} {P : Addr → Hp → Prop} (ha : Ev ta σ H w) (hb : EvF tb σ H P) (hm : Mono P) (k : ∀ p H1, H p = none → P p H1 → Ex H H1 → tz D ((σ.set i (some w)).set j (some (.ref p))) H1) :
    tSeq (tAsg (tTup (tCons ta (tCons tb tNil))) (gTup K 2 (gCons (gName i) (gCons (gName j) gNil)))) tz D σ H :=
  ha H (Ex.refl H) _ fun H1 e1 => hb H1 e1 _ fun p H2 np e2 hp => ⟨by show 2 ≤ sizeLine; decide, fun q nq => ⟨q, _, rfl, .inl (.inl upd_same), rfl, _, _, rfl, _, [], rfl, rfl, k p _ (fresh_back e1 np) (hm p _ _ (Ex.new nq) hp) ((e1.trans e2).trans (Ex.new nq))⟩⟩
theorem parted_prime (n : Int) (h : 2 ≤ n) (h2 : n < 998) : partedB n = !primeB n := by
  have key : ∀ k : Nat, k < 996 → partedB ((k : Int) + 2) = !primeB ((k : Int) + 2) := by decide +kernel
  have := key (n - 2).toNat (by omega)
  rw [show (((n - 2).toNat : Nat) : Int) + 2 = n by omega] at this
  exact this
theorem one_good {n : Int} (h : primeB n = true) : Good [(n, 1)] := ⟨rise_mk h (show (1 : Int) ≤ 1 by decide) (show (0 : Int) < n by have := prime_lo h; omega) rfl, by show (1 : Int) * (1 + 1) ≤ 500; decide⟩
theorem one_bad {n : Int} (h : primeB n = false) : riseB 0 [(n, 1)] = false := by
  unfold riseB
  rw [h]
  rfl
theorem one_worth (n : Int) : worthI [(n, 1)] = n := by
  show 1 * n ^ 1 = n
  rw [Int.one_mul, Int.pow_succ, Int.pow_zero, Int.one_mul]
/-- what is no sum -/
def AmB (K : PySem.W.Frag) (t : Int) (v : V) (H : Hp) : Prop := ∃ o, At K H v o ∧ ∀ i, o = some i → i < 0 ∨ t < i
theorem mono_am {K : PySem.W.Frag} {t : Int} : MonoW (AmB K t) := fun _ _ _ e ⟨o, h, k⟩ => ⟨o, h.ex e, k⟩
section
variable {K : PySem.W.Frag} {σ : L2.St} {H : Hp} {te : TE} {v : V} {t : Int} {n : String}
theorem aw_c (h : ∀ H1, VTy K H1 v n) (hn : n ≠ "int") : EvW (tC v) σ H (AmB K t) := ew_v ev_c fun H1 _ => ⟨none, .oth (h H1) hn, fun i z => nomatch z⟩
theorem aw_i {i : Int} (h : Ev te σ H (.int i)) (hi : i < 0 ∨ t < i) : EvW te σ H (AmB K t) := ew_v h fun H1 _ => ⟨some i, .int i, fun j z => by cases z; exact hi⟩
theorem aw_l {tr : TA} {xs : List V} (h : EvA tr σ H xs) (hz : xs.length ≤ 100000) : EvW (tLst tr) σ H (AmB K t) := ew_f (ef_l (el_lst h hz)) fun p H1 _ hp => ⟨none, .oth (vt_lst (sq_of hp)) (by decide), fun i z => nomatch z⟩
theorem aw_t {tr : TA} {xs : List V} (h : EvA tr σ H xs) (hz : xs.length ≤ 100000) : EvW (tTup tr) σ H (AmB K t) := ew_f (ef_u (eu_tup h hz)) fun p H1 _ hp => ⟨none, .oth (vt_tup (st_of hp)) (by decide), fun i z => nomatch z⟩
theorem aw_d : EvW tDNewK σ H (AmB K t) := ew_f ef_dnew fun p H1 _ hp => ⟨none, .oth (vt_dct hp) (by decide), fun i z => nomatch z⟩
theorem sf_told5 {mg : Str → Option Value} {cS cX cY cZ cW f C : Addr} {x y : V} {sp : Sp} {b : B4} (hS : ST K mg cX cY cZ cW f sp) (hk : ErrK K cS cX cY cZ cW C b) (hc : ∀ H1, Ex H H1 → ∀ (Q' : VK) (E' : XK), (∀ H2, Ex H1 H2 → E' (.ref C) none H2) → sp [x, y] H1 Q' E') :
    SpF (spT5 K mg cS cX cY cZ cW) [.ref f, x, y] H (NewK b) := fun H1 e Q q _ => ⟨f, x, y, sp, C, b, rfl, hS, hk, fun H2 e2 => hc H2 (e.trans e2), q⟩
end
theorem j_249 : ¬ many (joinV [(2, 249)] [(3, 2)]) ≤ 500 := by decide +kernel
theorem g_249 : Good [(2, 249)] := ⟨by decide +kernel, by decide⟩
theorem g_997 : Good [(997, 1)] := ⟨by decide +kernel, by decide⟩
theorem tot_997 : tot [(997, 1)] = 998 := by decide +kernel
theorem len_499 : (((ds [(2, 499)]).map V.int).length : Int) = 500 := by decide +kernel
theorem tot_30 : (0 : Int) ≤ 0 ∧ 0 ≤ tot [(3, 1)] := by decide +kernel
end Es
set_option maxHeartbeats 4000000
namespace EsLaw
open PySem PySem.Spec PyProof.Rows L2 Evl Es
def topS (i : Nat) : Stmt := PySem.Challenge.pw_everysum_k05_refused.main.body.getD i (.Pass ⟨0, 0, 0, 0⟩)
structure Top (K : PySem.W.Frag) (mg : Str → Option Value) (cSum cBadN cBadS cNot cToo cAns cAll cBar : Addr) (tG tM : Tok) : Prop where
  d_is_whole : DefAt K mg "is_whole" (topS 10) ["value"]
  d_is_prime : DefAt K mg "is_prime" (topS 11) ["whole"]
  d_is_pair : DefAt K mg "is_pair" (topS 12) ["item"]
  d_are_rising_pairs : DefAt K mg "are_rising_pairs" (topS 13) ["items"]
  d_has_too_many : DefAt K mg "has_too_many" (topS 14) ["pairs"]
  d_check_number : DefAt K mg "check_number" (topS 15) ["value"]
  d_worth : DefAt K mg "worth" (topS 16) ["number"]
  d_with_prime : DefAt K mg "with_prime" (topS 17) ["found", "prime", "times"]
  d_divisors : DefAt K mg "divisors" (topS 18) ["number"]
  d_total : DefAt K mg "total" (topS 19) ["number"]
  d_joined : DefAt K mg "joined" (topS 20) ["one", "other"]
  d_least_unmade : DefAt K mg "least_unmade" (topS 22) ["number"]
  d_told : DefAt K mg "told" (topS 28) ["number"]
  d_made : DefAt K mg "made" (topS 29) ["number", "amount"]
  d_picked : DefAt K mg "picked" (topS 30) ["rising", "amount"]
  d_law_cell_at : DefAt K mg "_law_cell_at" (topS 32) ["_law_script", "_law_k"]
  d_law_draw : DefAt K mg "_law_draw" (topS 33) ["_law_cell", "_law_k", "_law_many"]
  d_law_value : DefAt K mg "_law_value" (topS 34) ["_law_cell", "_law_k", "_law_limit"]
  d_law_prime : DefAt K mg "_law_prime" (topS 35) ["_law_number_here"]
  d_law_number : DefAt K mg "_law_number" (topS 36) ["_law_script", "_law_k", "_law_most"]
  d_law_powers : DefAt K mg "_law_powers" (topS 37) ["_law_prime_here", "_law_often"]
  d_law_kinds : DefAt K mg "_law_kinds" (topS 38) ["_law_error"]
  d_law_with_number : DefAt K mg "_law_with_number" (topS 39) ["_law_door", "_law_number_here"]
  d_law_with_amount : DefAt K mg "_law_with_amount" (topS 40) ["_law_number_here", "_law_amount"]
  d_law_told : DefAt K mg "_law_told" (topS 41) ["_law_ask", "_law_one", "_law_other"]
  d_law_bad_numbers : DefAt K mg "_law_bad_numbers" (topS 42) ["_law_number_here", "_law_far"]
  d_law : DefAt K mg "law" (topS 43) ["_law_script"]
  z_range : mg "range" = none
  z_len : mg "len" = none
  z_isinstance : mg "isinstance" = none
  z_sum : mg "sum" = none
  z_any : mg "any" = none
  z_all : mg "all" = none
  z_sorted : mg "sorted" = none
  z_min : mg "min" = none
  z_max : mg "max" = none
  z_list : mg "list" = none
  z_tuple : mg "tuple" = none
  z_int : mg "int" = none
  z_bool : mg "bool" = none
  z_reversed : mg "reversed" = none
  z_ValueError : mg "ValueError" = none
  g_GREATEST_PRIME : mg "GREATEST_PRIME" = some (.int 997 tG)
  g_MOST_DIVISORS : mg "MOST_DIVISORS" = some (.int 500 tM)
  g_SumError : mg "SumError" = some (.ref cSum)
  g_BadNumber : mg "BadNumber" = some (.ref cBadN)
  g_BadSum : mg "BadSum" = some (.ref cBadS)
  g_NotAll : mg "NotAll" = some (.ref cNot)
  g_TooMany : mg "TooMany" = some (.ref cToo)
  g_Answer : mg "Answer" = some (.ref cAns)
  g_All : mg "All" = some (.ref cAll)
  g_Barred : mg "Barred" = some (.ref cBar)
  m_All_shows : MethAt K cAll "shows" "All.shows" (inClass (topS 25) 0) ["self", "number"]
  k_Barred : MakeAt K mg cBar "Barred" "Barred.__init__" (inClass (topS 26) 0) ["self", "amount"]
  m_Barred_shows : MethAt K cBar "shows" "Barred.shows" (inClass (topS 26) 1) ["self", "number"]
  clsAll : Cls K cAll
  clsBar : Cls K cBar
  mk_All : Mk0 K cAll
  n_amount : NoAttr K cBar "amount"
  ansC : AnsC K cAns cAll cBar
  e_BadNumber : ErrC K mg "BadNumber" cBadN
  e_BadSum : ErrC K mg "BadSum" cBadS
  e_NotAll : ErrC K mg "NotAll" cNot
  e_TooMany : ErrC K mg "TooMany" cToo
  q_BadNumber : ErrK K cSum cBadN cBadS cNot cToo cBadN (true, false, false, false)
  q_BadSum : ErrK K cSum cBadN cBadS cNot cToo cBadS (false, true, false, false)
  q_NotAll : ErrK K cSum cBadN cBadS cNot cToo cNot (false, false, true, false)
  q_TooMany : ErrK K cSum cBadN cBadS cNot cToo cToo (false, false, false, true)
abbrev s_is_whole : Stmt := topS 10
abbrev s_is_whole_N : List Str := ["value"]
theorem sc_is_whole : FnScope s_is_whole_N ["value"] (defScope s_is_whole) := ⟨rfl, rfl, rfl, by decide +kernel, rfl, by decide +kernel, by decide +kernel⟩
abbrev s_is_prime : Stmt := topS 11
abbrev s_is_prime_N : List Str := ["whole", "step"]
theorem sc_is_prime : FnScope s_is_prime_N ["whole"] (defScope s_is_prime) := ⟨rfl, rfl, rfl, by decide +kernel, rfl, by decide +kernel, by decide +kernel⟩
abbrev s_is_pair : Stmt := topS 12
abbrev s_is_pair_N : List Str := ["item", "prime", "times"]
theorem sc_is_pair : FnScope s_is_pair_N ["item"] (defScope s_is_pair) := ⟨rfl, rfl, rfl, by decide +kernel, rfl, by decide +kernel, by decide +kernel⟩
abbrev s_are_rising_pairs : Stmt := topS 13
abbrev s_are_rising_pairs_N : List Str := ["items", "last", "item"]
theorem sc_are_rising_pairs : FnScope s_are_rising_pairs_N ["items"] (defScope s_are_rising_pairs) := ⟨rfl, rfl, rfl, by decide +kernel, rfl, by decide +kernel, by decide +kernel⟩
abbrev s_has_too_many : Stmt := topS 14
abbrev s_has_too_many_N : List Str := ["pairs", "many", "_", "times"]
theorem sc_has_too_many : FnScope s_has_too_many_N ["pairs"] (defScope s_has_too_many) := ⟨rfl, rfl, rfl, by decide +kernel, rfl, by decide +kernel, by decide +kernel⟩
abbrev s_check_number : Stmt := topS 15
abbrev s_check_number_N : List Str := ["value"]
theorem sc_check_number : FnScope s_check_number_N ["value"] (defScope s_check_number) := ⟨rfl, rfl, rfl, by decide +kernel, rfl, by decide +kernel, by decide +kernel⟩
abbrev s_worth : Stmt := topS 16
abbrev s_worth_N : List Str := ["number", "whole", "prime", "times", "_"]
theorem sc_worth : FnScope s_worth_N ["number"] (defScope s_worth) := ⟨rfl, rfl, rfl, by decide +kernel, rfl, by decide +kernel, by decide +kernel⟩
abbrev s_with_prime : Stmt := topS 17
abbrev s_with_prime_N : List Str := ["found", "prime", "times", "wider", "power", "_", "divisor"]
theorem sc_with_prime : FnScope s_with_prime_N ["found", "prime", "times"] (defScope s_with_prime) := ⟨rfl, rfl, rfl, by decide +kernel, rfl, by decide +kernel, by decide +kernel⟩
abbrev s_divisors : Stmt := topS 18
abbrev s_divisors_N : List Str := ["number", "found", "prime", "times"]
theorem sc_divisors : FnScope s_divisors_N ["number"] (defScope s_divisors) := ⟨rfl, rfl, rfl, by decide +kernel, rfl, by decide +kernel, by decide +kernel⟩
abbrev s_total : Stmt := topS 19
abbrev s_total_N : List Str := ["number"]
theorem sc_total : FnScope s_total_N ["number"] (defScope s_total) := ⟨rfl, rfl, rfl, by decide +kernel, rfl, by decide +kernel, by decide +kernel⟩
abbrev s_joined : Stmt := topS 20
abbrev s_joined_N : List Str := ["one", "other", "counts", "prime", "times", "pairs"]
theorem sc_joined : FnScope s_joined_N ["one", "other"] (defScope s_joined) := ⟨rfl, rfl, rfl, by decide +kernel, rfl, by decide +kernel, by decide +kernel⟩
abbrev s_least_unmade : Stmt := topS 22
abbrev s_least_unmade_N : List Str := ["number", "reach", "divisor"]
theorem sc_least_unmade : FnScope s_least_unmade_N ["number"] (defScope s_least_unmade) := ⟨rfl, rfl, rfl, by decide +kernel, rfl, by decide +kernel, by decide +kernel⟩
abbrev s_Barred___init__ : Stmt := inClass (topS 26) 0
abbrev s_Barred___init___N : List Str := ["self", "amount"]
theorem sc_Barred___init__ : FnScope s_Barred___init___N ["self", "amount"] (defScope s_Barred___init__) := ⟨rfl, rfl, rfl, by decide +kernel, rfl, by decide +kernel, by decide +kernel⟩
abbrev s_told : Stmt := topS 28
abbrev s_told_N : List Str := ["number", "amount"]
theorem sc_told : FnScope s_told_N ["number"] (defScope s_told) := ⟨rfl, rfl, rfl, by decide +kernel, rfl, by decide +kernel, by decide +kernel⟩
abbrev s_picked : Stmt := topS 30
abbrev s_picked_N : List Str := ["rising", "amount", "taken", "rest", "divisor"]
theorem sc_picked : FnScope s_picked_N ["rising", "amount"] (defScope s_picked) := ⟨rfl, rfl, rfl, by decide +kernel, rfl, by decide +kernel, by decide +kernel⟩
abbrev s_made : Stmt := topS 29
abbrev s_made_N : List Str := ["number", "amount"]
theorem sc_made : FnScope s_made_N ["number", "amount"] (defScope s_made) := ⟨rfl, rfl, rfl, by decide +kernel, rfl, by decide +kernel, by decide +kernel⟩
abbrev s_law_cell_at : Stmt := topS 32
abbrev s_law_cell_at_N : List Str := ["_law_script", "_law_k"]
theorem sc_law_cell_at : FnScope s_law_cell_at_N ["_law_script", "_law_k"] (defScope s_law_cell_at) := ⟨rfl, rfl, rfl, by decide +kernel, rfl, by decide +kernel, by decide +kernel⟩
abbrev s_law_draw : Stmt := topS 33
abbrev s_law_draw_N : List Str := ["_law_cell", "_law_k", "_law_many", "_law_primes"]
theorem sc_law_draw : FnScope s_law_draw_N ["_law_cell", "_law_k", "_law_many"] (defScope s_law_draw) := ⟨rfl, rfl, rfl, by decide +kernel, rfl, by decide +kernel, by decide +kernel⟩
abbrev s_law_value : Stmt := topS 34
abbrev s_law_value_N : List Str := ["_law_cell", "_law_k", "_law_limit"]
theorem sc_law_value : FnScope s_law_value_N ["_law_cell", "_law_k", "_law_limit"] (defScope s_law_value) := ⟨rfl, rfl, rfl, by decide +kernel, rfl, by decide +kernel, by decide +kernel⟩
abbrev s_law_prime : Stmt := topS 35
abbrev s_law_prime_N : List Str := ["_law_number_here", "_law_part"]
theorem sc_law_prime : FnScope s_law_prime_N ["_law_number_here"] (defScope s_law_prime) := ⟨rfl, rfl, rfl, by decide +kernel, rfl, by decide +kernel, by decide +kernel⟩
abbrev s_law_powers : Stmt := topS 37
abbrev s_law_powers_N : List Str := ["_law_prime_here", "_law_often", "_law_found", "_law_turn"]
theorem sc_law_powers : FnScope s_law_powers_N ["_law_prime_here", "_law_often"] (defScope s_law_powers) := ⟨rfl, rfl, rfl, by decide +kernel, rfl, by decide +kernel, by decide +kernel⟩
abbrev s_law_number : Stmt := topS 36
abbrev s_law_number_N : List Str := ["_law_script", "_law_k", "_law_most", "_law_kind", "_law_found", "_law_much", "_law_whole", "_law_least", "_law_turn", "_law_drawn", "_law_prime_here", "_law_often"]
theorem sc_law_number : FnScope s_law_number_N ["_law_script", "_law_k", "_law_most"] (defScope s_law_number) := ⟨rfl, rfl, rfl, by decide +kernel, rfl, by decide +kernel, by decide +kernel⟩
abbrev s_law_kinds : Stmt := topS 38
abbrev s_law_kinds_N : List Str := ["_law_error", "_law_found"]
theorem sc_law_kinds : FnScope s_law_kinds_N ["_law_error"] (defScope s_law_kinds) := ⟨rfl, rfl, rfl, by decide +kernel, rfl, by decide +kernel, by decide +kernel⟩
abbrev s_law_with_number : Stmt := topS 39
abbrev s_law_with_number_N : List Str := ["_law_door", "_law_number_here"]
theorem sc_law_with_number : FnScope s_law_with_number_N ["_law_door", "_law_number_here"] (defScope s_law_with_number) := ⟨rfl, rfl, rfl, by decide +kernel, rfl, by decide +kernel, by decide +kernel⟩
abbrev s_law_with_amount : Stmt := topS 40
abbrev s_law_with_amount_N : List Str := ["_law_number_here", "_law_amount"]
theorem sc_law_with_amount : FnScope s_law_with_amount_N ["_law_number_here", "_law_amount"] (defScope s_law_with_amount) := ⟨rfl, rfl, rfl, by decide +kernel, rfl, by decide +kernel, by decide +kernel⟩
abbrev s_law_told : Stmt := topS 41
abbrev s_law_told_N : List Str := ["_law_ask", "_law_one", "_law_other", "_law_error"]
theorem sc_law_told : FnScope s_law_told_N ["_law_ask", "_law_one", "_law_other"] (defScope s_law_told) := ⟨rfl, rfl, rfl, by decide +kernel, rfl, by decide +kernel, by decide +kernel⟩
abbrev s_law_bad_numbers : Stmt := topS 42
abbrev s_law_bad_numbers_N : List Str := ["_law_number_here", "_law_far", "_law_bad", "_law_at", "_law_pair"]
theorem sc_law_bad_numbers : FnScope s_law_bad_numbers_N ["_law_number_here", "_law_far"] (defScope s_law_bad_numbers) := ⟨rfl, rfl, rfl, by decide +kernel, rfl, by decide +kernel, by decide +kernel⟩
abbrev s_law : Stmt := topS 43
abbrev s_law_N : List Str := ["_law_script", "_law_far", "_law_due", "_law_k", "_law_number_here", "_law_kept", "_law_bad", "_law_door", "_law_one", "_law_parted", "_law_whole", "_law_amounts", "_law_part", "_law_thing"]
theorem sc_law : FnScope s_law_N ["_law_script"] (defScope s_law) := ⟨rfl, rfl, rfl, by decide +kernel, rfl, by decide +kernel, by decide +kernel⟩
section
variable {P : Program} {w : World} {K : PySem.W.Frag} {mg : Str → Option Value} {base : Heap} {cSum cBadN cBadS cNot cToo cAns cAll cBar : Addr} {tG tM : Tok} (U : Top K mg cSum cBadN cBadS cNot cToo cAns cAll cBar tG tM)
include U

theorem D_is_whole : Df P w K mg base CX0 1 "is_whole" ["value"] (spWhole5 K) := by
  refine U.d_is_whole.ok sc_is_whole (fun vs H Q E h => ?_) (fun f cdv A outer s H vs Q E hr h => ?_)
  · obtain ⟨v, o, rfl, _⟩ := h
    rfl
  · obtain ⟨v, o, rfl, hA, k⟩ := h
    refine ⟨_, (pss_one (ps_ret (pe_and (pe_callB call_isi (by rfl) U.z_isinstance (by decide +kernel) (pa_cons (pv 0) (pa_cons (pe_bltn (v := .ty "int") (by rfl) U.z_int (by decide +kernel) rfl) pa_nil))) (pe_one (pe_not (pe_callB call_isi (by rfl) U.z_isinstance (by decide +kernel) (pa_cons (pv 0) (pa_cons (pe_bltn (v := .ty "bool") (by rfl) U.z_bool (by decide +kernel) rfl) pa_nil)))))))), ?_⟩
    obtain ⟨n, hT, ho⟩ := at_ty hA
    refine s_ret (ev_andV (ev_cb (ea_cons (ev_var rfl) (ea_cons ev_c ea_nil)) (isi_int5 hT)) fun _ => ev_notV (ev_cb (ea_cons (ev_var rfl) (ea_cons ev_c ea_nil)) (isi_bool5 hT))) fun H1 e1 => toV k e1 ?_
    rw [ho]
    by_cases h1 : n = "int"
    · subst h1
      rfl
    · rw [decide_eq_false h1]
      cases decide (n = "bool") <;> rfl


theorem D_is_prime : Df P w K mg base CX0 1 "is_prime" ["whole"] spIsPrime := by
  refine U.d_is_prime.ok sc_is_prime (fun vs H Q E h => ?_) (fun f cdv A outer s H vs Q E hr h => ?_)
  · obtain ⟨i, rfl, _⟩ := h
    rfl
  · obtain ⟨x, rfl, k⟩ := h
    refine ⟨_, (pss_cons (ps_if (PW.pt (pw_or (pt_cmpR op_lt (pv 0) pe_int (nomark _)) (pw_or1 (pt_cmpR op_gt (pv 0) (pe_glob (v := .int 997) (by rfl) U.g_GREATEST_PRIME ⟨_, rfl⟩) (nomark _)))))
      (pss_one (ps_ret pe_bl))
      pss_nil)
    (pss_cons (ps_set (i := 1) sc_is_prime.nd rfl (Or.inl rfl) pe_int)
    (pss_cons (ps_while PassesOwn.never (pt_cmpR op_le (pe_op op_mulX (pv 1) (pv 1)) (pv 0) (nomark _))
      (pss_cons (ps_if (pt_cmpR op_eq (pe_op op_mod (pv 0) (pv 1)) pe_int (nomark _))
      (pss_one (ps_ret pe_bl))
      pss_nil)
    (pss_one (ps_aug (i := 1) sc_is_prime.nd rfl (Or.inl rfl) pe_int ip_add))))
    (pss_one (ps_ret pe_bl))))), ?_⟩
    refine q_when (et_or (et_test (ev_op (ev_var rfl) ev_c rv_I0)) fun _ => et_test (ev_op (ev_var rfl) ev_c rv_I0)) (fun hb H1 e1 => ?_) (fun hb H1 e1 => ?_)
    · have hx : primeB x = false := prime_out hb
      exact s_ret ev_c fun H2 e2 => hx ▸ k H2 (e1.trans e2)
    · obtain ⟨h1, h2⟩ := prime_in hb
      refine q_asg ev_c fun H2 e2 => ?_
      refine q_while (fun m σ' H' => ∃ i : Nat, m + i = 40 ∧ i ≤ 31 ∧ σ' = [some (.int x), some (.int ((i : Int) + 2))] ∧ Ex H H' ∧ ∀ j : Nat, j < i → ¬ (((j : Int) + 2) * ((j : Int) + 2) ≤ x ∧ x % ((j : Int) + 2) = 0)) 40 ⟨0, rfl, by decide, rfl, e1.trans e2, fun j hj => by omega⟩ (fun m σ' H' hW => ?_)
      obtain ⟨i, hm, hi, rfl, e3, hj⟩ := hW
      refine ⟨_, et_test (ev_op (ev_op (ev_var rfl) (ev_var rfl) (rv_I (mulx_ok (a := 10) (b := 10) (by omega) (by omega) (by decide)))) (ev_var rfl) rv_I0), fun hb H4 e4 => ?_, fun hb H4 e4 => ?_⟩
      · have hle : ((i : Int) + 2) * ((i : Int) + 2) ≤ x := of_decide_eq_true hb
        have hi2 : i < 30 := prime_step h2 hle
        refine ⟨fun σ2 H2 => σ2 = [some (.int x), some (.int (((i + 1 : Nat) : Int) + 2))] ∧ Ex H H2 ∧ ¬ x % ((i : Int) + 2) = 0, fun σ2 H2 hN => ?_, ?_⟩
        · obtain ⟨rfl, e5, hn⟩ := hN
          refine ⟨39 - i, by omega, i + 1, by omega, by omega, rfl, e5, fun j hj' => ?_⟩
          by_cases hji : j = i
          · subst hji
            exact fun z => hn z.2
          · exact hj j (by omega)
        · refine q_when (et_test (ev_op (ev_op (ev_var rfl) (ev_var rfl) (rv_I (show (0 : Int) < (i : Int) + 2 by omega))) ev_c (rv_eq rfl))) (fun hc H5 e5 => ?_) (fun hc H5 e5 => ?_)
          · have hz : x % ((i : Int) + 2) = 0 := V.int.inj (of_decide_eq_true hc)
            have hx : primeB x = false := prime_not hi2 hle hz
            exact s_ret ev_c fun H6 e6 => hx ▸ k H6 (((e3.trans e4).trans e5).trans e6)
          · have hz : ¬ x % ((i : Int) + 2) = 0 := fun z => of_decide_eq_false hc (congrArg V.int z)
            refine s_aug rfl ev_c fun H6 e6 => ⟨?_, ((e3.trans e4).trans e5).trans e6, hz⟩
            show [some (V.int x), some (V.int ((i : Int) + 2 + 1))] = _
            rw [show (i : Int) + 2 + 1 = ((i + 1 : Nat) : Int) + 2 by omega]
      · have hle : ¬ ((i : Int) + 2) * ((i : Int) + 2) ≤ x := of_decide_eq_false hb
        have hx : primeB x = true := prime_yes h1 h2 hle hj
        exact s_ret ev_c fun H5 e5 => hx ▸ k H5 ((e3.trans e4).trans e5)


theorem D_is_pair : Df P w K mg base CX0 2 "is_pair" ["item"] (spPair5 K) := by
  refine U.d_is_pair.ok sc_is_pair (fun vs H Q E h => ?_) (fun f cdv A outer s H vs Q E hr h => ?_)
  · obtain ⟨v, r, rfl, _⟩ := h
    rfl
  · obtain ⟨v, r, rfl, hI, k⟩ := h
    refine ⟨_, (pss_cons (ps_if (PW.pt (pw_or (pt_not (pt_val (pe_callB call_isi (by rfl) U.z_isinstance (by decide +kernel) (pa_cons (pv 0) (pa_cons (pe_bltn (v := .ty "tuple") (by rfl) U.z_tuple (by decide +kernel) rfl) pa_nil))))) (pw_or1 (pt_cmpR op_ne (pe_callB call_len_seq (by rfl) U.z_len (by decide +kernel) (pa_cons (pv 0) pa_nil)) pe_int (nomark _)))))
      (pss_one (ps_ret pe_bl))
      pss_nil)
    (pss_cons (ps_asg (pv 0) (pg_tup (by rfl) (pgs_cons (pg_name (i := 1) sc_is_pair.nd rfl (Or.inl rfl)) (pgs_cons (pg_name (i := 2) sc_is_pair.nd rfl (Or.inl rfl)) pgs_nil))))
    (pss_one (ps_ret (pe_and (pe_callD (D_is_whole U) (hr.mono (by decide)) (by rfl) pass0 (pa_cons (pv 1) pa_nil)) (pe_and (pe_callD (D_is_prime U) (hr.mono (by decide)) (by rfl) pass0 (pa_cons (pv 1) pa_nil)) (pe_and (pe_callD (D_is_whole U) (hr.mono (by decide)) (by rfl) pass0 (pa_cons (pv 2) pa_nil)) (pe_one (pe_cmpR op_ge (pv 2) pe_int (nomark _)))))))))), ?_⟩
    cases hI with
    | not hT hn =>
      refine q_when (b := true) (et_or (a := true) (b := true) (et_notTup (ev_var rfl) hT hn) fun z => by cases z) (fun _ H1 e1 => ?_) (fun z => by cases z)
      exact s_ret ev_c fun H2 e2 => k H2 (e1.trans e2)
    | len ht hl =>
      refine q_when (et_or (et_not (et_val (ev_cb (ea_cons (ev_var rfl) (ea_cons ev_c ea_nil)) (isi_tup ht)))) fun _ => et_test (ev_op (ev_cb (ea_cons (ev_var rfl) ea_nil) (rc_lenT ht)) ev_c rv_nei)) (fun _ H1 e1 => ?_) (fun z => ?_)
      · exact s_ret ev_c fun H2 e2 => k H2 (e1.trans e2)
      · rw [decide_eq_false (by omega)] at z
        cases z
    | two ht hx hy =>
      refine q_skip (et_or (et_not (et_val (ev_cb (ea_cons (ev_var rfl) (ea_cons ev_c ea_nil)) (isi_tup ht)))) fun _ => et_test (ev_op (ev_cb (ea_cons (ev_var rfl) ea_nil) (rc_lenT ht)) ev_c (rv_ne rfl))) rfl fun H1 e1 => ?_
      refine q_unpack2 (ev_var rfl) (ex_t e1 ht) fun H2 e2 => ?_
      have hx2 := hx.ex (e1.trans e2)
      have hy2 := hy.ex (e1.trans e2)
      cases hx2 with
      | oth h1 h2 => exact s_ret (ev_andV (a := false) (b := false) (ev_call (ea_cons (ev_var rfl) ea_nil) (sv_whole5 (.oth h1 h2))) fun z => by cases z) fun H3 e3 => k H3 ((e1.trans e2).trans e3)
      | int p =>
        rename_i u
        have ps := pair_some (some p) u
        rw [ps] at k
        refine s_ret (ev_andV (ev_call (ea_cons (ev_var rfl) ea_nil) (sv_whole5 (.int p))) fun _ => ev_andV (ev_call (ea_cons (ev_var rfl) ea_nil) sv_isPrime) fun _ => ev_andV (b := lastB u) (ev_call (ea_cons (ev_var rfl) ea_nil) (sv_whole5 hy2)) fun hz => ?_) fun H3 e3 => k H3 ((e1.trans e2).trans e3)
        cases hy2 with
        | oth _ _ => cases hz
        | int k => exact ev_op (ev_var rfl) ev_c rv_I0


theorem D_are_rising_pairs : Df P w K mg base CX0 3 "are_rising_pairs" ["items"] (spRise5 K) := by
  refine U.d_are_rising_pairs.ok sc_are_rising_pairs (fun vs H Q E h => ?_) (fun f cdv A outer s H vs Q E hr h => ?_)
  · obtain ⟨a, xs, rs, rfl, _⟩ := h
    rfl
  · obtain ⟨a, xs, rs, rfl, hx, hp, k⟩ := h
    refine ⟨_, (pss_cons (ps_set (i := 1) sc_are_rising_pairs.nd rfl (Or.inl rfl) pe_int)
    (pss_cons (ps_for PassesOwn.never rfl (pi_list (pv 0)) (pg_name (i := 2) sc_are_rising_pairs.nd rfl (Or.inl rfl))
      (pss_cons (ps_if (PW.pt (pw_or (pt_not (pt_val (pe_callD (D_is_pair U) (hr.mono (by decide)) (by rfl) pass0 (pa_cons (pv 2) pa_nil)))) (pw_or1 (pt_cmpR op_le (pe_ix ix_tup (pv 2) pe_int (fun _ _ => rfl)) (pv 1) (nomark _)))))
      (pss_one (ps_ret pe_bl))
      pss_nil)
    (pss_one (ps_set (i := 1) sc_are_rising_pairs.nd rfl (Or.inl rfl) (pe_ix ix_tup (pv 2) pe_int (fun _ _ => rfl))))))
    (pss_one (ps_ret pe_bl)))), ?_⟩
    refine q_asg ev_c fun H1 e1 => ?_
    refine q_forLn (ev_var rfl) (ex_l e1 hx) (fun i σ' H' => ∃ (last : Int) (y : Option V), σ' = [some (.ref a), some (.int last), y] ∧ Ex H H' ∧ riseO 0 rs = riseO last (rs.drop i)) (fun H2 e2 => ⟨0, none, rfl, e1.trans e2, rfl⟩) (fun i σ' H' _ hW => ?_) (fun i x σ' H' hi hW => ?_) (fun σ' H' hW => ?_)
    · obtain ⟨_, _, _, e2, _⟩ := hW
      exact ex_l e2 hx
    · obtain ⟨last, y, rfl, e2, hr2⟩ := hW
      obtain ⟨r, hq, hv⟩ := items_get hp hi
      have hv2 := hv.ex e2
      rw [drop_at hq] at hr2
      cases r with
      | none =>
        refine q_when (b := true) (et_or (a := true) (b := true) (et_not (et_val (ev_call (ea_cons (ev_var rfl) ea_nil) (sv_pair5 hv2)))) fun z => by cases z) (fun _ H3 e3 => ?_) (fun z => by cases z)
        exact s_ret ev_c fun H4 e4 => toV k ((e2.trans e3).trans e4) (by rw [hr2]; rfl)
      | some q =>
        obtain ⟨⟨t, rfl, ht⟩, _⟩ := item_pr hv2
        have hr3 : riseO 0 rs = if q.1 ≤ last then false else riseO q.1 (rs.drop (i + 1)) := hr2
        refine q_if (et_or (et_not (et_val (ev_call (ea_cons (ev_var rfl) ea_nil) (sv_pair5 hv2)))) fun _ => et_test (ev_op (ev_op (ev_var rfl) ev_c (rv_ixT ht at0)) (ev_var rfl) rv_I0)) (fun hb H3 e3 => ?_) (fun hb H3 e3 => ?_)
        · have hb' : q.1 ≤ last := by
            rw [Bool.or_eq_true] at hb
            rcases hb with z | z
            · cases z
            · exact of_decide_eq_true z
          rw [if_pos hb'] at hr3
          exact s_ret ev_c fun H4 e4 => toV k ((e2.trans e3).trans e4) (by rw [hr3])
        · have hb' : ¬ q.1 ≤ last := by
            rw [Bool.or_eq_false_iff] at hb
            exact of_decide_eq_false hb.2
          rw [if_neg hb'] at hr3
          exact s_asg (ev_op (ev_var rfl) ev_c (rv_ixT (ex_t e3 ht) at0)) fun H4 e4 => ⟨q.1, _, rfl, (e2.trans e3).trans e4, hr3⟩
    · obtain ⟨last, y, rfl, e2, hr2⟩ := hW
      rw [show xs.length = rs.length from Paired.length hp, List.drop_length] at hr2
      exact s_ret ev_c fun H4 e4 => toV k (e2.trans e4) (by rw [hr2]; rfl)


theorem D_has_too_many : Df P w K mg base CX0 1 "has_too_many" ["pairs"] (spTooMany K) := by
  refine U.d_has_too_many.ok sc_has_too_many (fun vs H Q E h => ?_) (fun f cdv A outer s H vs Q E hr h => ?_)
  · obtain ⟨a, L, rfl, _⟩ := h
    rfl
  · obtain ⟨a, L, rfl, ⟨xs, hx, hp⟩, hq1, k⟩ := h
    refine ⟨_, (pss_cons (ps_set (i := 1) sc_has_too_many.nd rfl (Or.inl rfl) pe_int)
    (pss_cons (ps_for PassesOwn.never rfl (pi_list (pv 0)) (pg_tup (by rfl) (pgs_cons (pg_name (i := 2) sc_has_too_many.nd rfl (Or.inl rfl)) (pgs_cons (pg_name (i := 3) sc_has_too_many.nd rfl (Or.inl rfl)) pgs_nil)))
      (pss_cons (ps_set (i := 1) sc_has_too_many.nd rfl (Or.inl rfl) (pe_op op_mulX (pv 1) (pe_op op_add (pv 3) pe_int)))
    (pss_one (ps_if (pt_cmpR op_gt (pv 1) (pe_glob (v := .int 500) (by rfl) U.g_MOST_DIVISORS ⟨_, rfl⟩) (nomark _))
      (pss_one (ps_ret pe_bl))
      pss_nil))))
    (pss_one (ps_ret pe_bl)))), ?_⟩
    refine q_asg ev_c fun H1 e1 => ?_
    refine q_forL (ev_var rfl) (ex_l e1 hx) (fun i σ' H' => ∃ (y2 y3 : Option V), σ' = [some (.ref a), some (.int (many (L.take i))), y2, y3] ∧ Ex H H' ∧ many (L.take i) ≤ 500) (fun H2 e2 => ⟨none, none, rfl, e1.trans e2, by show (1 : Int) ≤ 500; decide⟩) (fun i σ' H' _ hW => ?_) (fun i x σ' H' hi hW => ?_) (fun σ' H' hW => ?_)
    · obtain ⟨_, _, _, e2, _⟩ := hW
      exact ex_l e2 hx
    · obtain ⟨y2, y3, rfl, e2, hm⟩ := hW
      obtain ⟨q, hq, t, rfl, ht⟩ := prs_get hp hi
      have hqm := hq1 q (List.mem_of_getElem? hq)
      have hge : ∀ z ∈ L.take i ++ L.drop i, 1 ≤ z.2 := fun z hz => (hq1 z (by rw [List.take_append_drop] at hz; exact hz)).1
      have h1 := (many_app (L.take i) (L.drop i) hge).1
      have em : many (L.take (i + 1)) = many (L.take i) * (q.2 + 1) := by rw [take_snoc hq, many_snoc]
      refine g_pair rfl (ex_t e2 ht) ?_
      refine q_asg (ev_op (ev_var rfl) (ev_op (ev_var rfl) ev_c rv_I0) (rv_I (mulx_ok (a := 10) (b := 201) (by omega) (by omega) (by decide)))) fun H3 e3 => ?_
      refine s_when (et_test (ev_op (ev_var rfl) ev_c rv_I0)) (fun hb H4 e4 => ?_) (fun hb H4 e4 => ?_)
      · have hb' : 500 < many (L.take i) * (q.2 + 1) := of_decide_eq_true hb
        have h2 := many_app (L.take (i + 1)) (L.drop (i + 1)) (fun z hz => (hq1 z (by rw [List.take_append_drop] at hz; exact hz)).1)
        rw [List.take_append_drop] at h2
        have hd : decide (500 < many L) = true := decide_eq_true (by omega)
        exact s_ret ev_c fun H5 e5 => hd ▸ k H5 (((e2.trans e3).trans e4).trans e5)
      · have hb' : ¬ 500 < many (L.take i) * (q.2 + 1) := of_decide_eq_false hb
        refine ⟨some (.int q.1), some (.int q.2), ?_, (e2.trans e3).trans e4, by omega⟩
        rw [em]
        rfl
    · obtain ⟨y2, y3, rfl, e2, hm⟩ := hW
      rw [prs_len hp, List.take_length] at hm
      have hd : decide (500 < many L) = false := decide_eq_false (by omega)
      exact s_ret ev_c fun H5 e5 => hd ▸ k H5 (e2.trans e5)


theorem D_check_number : Df P w K mg base (L2N.CX P w) 4 "check_number" ["value"] (orBad K cBadN (spCheck K)) := by
  refine U.d_check_number.okX sc_check_number (fun vs H Q E h => ?_) (fun f cdv A outer s H vs Q E hr h => ?_)
  · rcases h with ⟨a, L, rfl, _⟩ | ⟨v, rfl, _⟩ <;> rfl
  · refine ⟨_, (pss_one (ps_if (PW.pt (pw_or (pt_not (pt_val (pe_callB call_isi (by rfl) U.z_isinstance (by decide +kernel) (pa_cons (pv 0) (pa_cons (pe_bltn (v := .ty "list") (by rfl) U.z_list (by decide +kernel) rfl) pa_nil))))) (pw_or (pt_not (pt_val (pe_callD (D_are_rising_pairs U) (hr.mono (by decide)) (by rfl) pass0 (pa_cons (pv 0) pa_nil)))) (pw_or1 (pt_val (pe_callD (D_has_too_many U) (hr.mono (by decide)) (by rfl) pass0 (pa_cons (pv 0) pa_nil)))))))
      (pss_one (ps_err U.e_BadNumber rfl (L2N.takes_of rfl rfl rfl rfl) (by rfl)))
      pss_nil)), ?_⟩
    rcases h with ⟨a, L, rfl, hN, g, k⟩ | ⟨v, rfl, hbad, kE⟩
    · obtain ⟨xs, hx, hp⟩ := id hN
      refine s_skip (et_or (et_not (et_val (ev_cb (ea_cons (ev_var rfl) (ea_cons ev_c ea_nil)) (isi_lst hx)))) fun _ => et_or (et_not (et_val (ev_call (ea_cons (ev_var rfl) ea_nil) (sv_rise5 hx (prs_items hp))))) fun _ => et_val (ev_call (ea_cons (ev_var rfl) ea_nil) (sv_tooMany hN (good_small g)))) ?_ k
      rw [rise_prs, g.rise, decide_eq_false (show ¬ 500 < many L by have := g.few; omega)]
      rfl
    · cases hbad with
      | not hT hn => exact s_yes (et_or (a := true) (b := true) (et_notList (ev_var rfl) hT hn) fun z => by cases z) rfl fun H1 e1 => kE H1 e1
      | rise hx hi hr0 => exact s_yes (et_or (et_not (et_val (ev_cb (ea_cons (ev_var rfl) (ea_cons ev_c ea_nil)) (isi_lst hx)))) fun _ => et_or (a := !riseO 0 _) (b := true) (et_not (et_val (ev_call (ea_cons (ev_var rfl) ea_nil) (sv_rise5 hx hi)))) fun z => by rw [hr0] at z; cases z) (by rw [hr0]; rfl) fun H1 e1 => kE H1 e1
      | many hx hp hr0 hm hb => exact s_yes (et_or (et_not (et_val (ev_cb (ea_cons (ev_var rfl) (ea_cons ev_c ea_nil)) (isi_lst hx)))) fun _ => et_or (et_not (et_val (ev_call (ea_cons (ev_var rfl) ea_nil) (sv_rise5 hx (prs_items hp))))) fun _ => et_val (ev_call (ea_cons (ev_var rfl) ea_nil) (sv_tooMany ⟨_, hx, hp⟩ fun q hq => ⟨(rise_mem hr0 hq).2.1, hb q hq⟩))) (by rw [rise_prs, hr0, decide_eq_true hm]; rfl) fun H1 e1 => kE H1 e1


theorem D_worth : Df P w K mg base (L2N.CX P w) 5 "worth" ["number"] (orBad K cBadN (spWorth K)) := by
  refine U.d_worth.okX sc_worth (fun vs H Q E h => ?_) (fun f cdv A outer s H vs Q E hr h => ?_)
  · rcases h with ⟨a, L, rfl, _⟩ | ⟨v, rfl, _⟩ <;> rfl
  · refine ⟨_, (pss_cons (ps_expr (pe_callSD (D_check_number U) (hr.mono (by decide)) (by rfl) (fun σ => L2N.passAt (L2N.takes_of rfl rfl rfl rfl) σ) (pa_cons (pv 0) pa_nil)))
    (pss_cons (ps_set (i := 1) sc_worth.nd rfl (Or.inl rfl) pe_int)
    (pss_cons (ps_nox (ps_for PassesOwn.never rfl (pi_list (pv 0)) (pg_tup (by rfl) (pgs_cons (pg_name (i := 2) sc_worth.nd rfl (Or.inl rfl)) (pgs_cons (pg_name (i := 3) sc_worth.nd rfl (Or.inl rfl)) pgs_nil)))
      (pss_one (ps_nox (ps_for PassesOwn.never rfl (pi_range1 (by rfl) U.z_range (pa_cons (pv 3) pa_nil)) (pg_name (i := 4) sc_worth.nd rfl (Or.inl rfl))
      (pss_one (ps_set (i := 1) sc_worth.nd rfl (Or.inl rfl) (pe_op op_mulX (pv 1) (pv 2)))))))))
    (pss_one (ps_ret (pv 1)))))), ?_⟩
    rcases h with ⟨a, L, rfl, hN, g, k⟩ | ⟨v, rfl, hbad, kE⟩
    rotate_left
    · exact q_dropR (er_call (ea_cons (ev_var rfl) ea_nil) fun H1 e1 Q => .inr ⟨_, rfl, hbad.ex e1, fun H2 e2 => kE H2 (e1.trans e2)⟩)
    obtain ⟨xs, hx, hp⟩ := id hN
    refine q_drop (evs_call (ea_cons (ev_var rfl) ea_nil) (sv_or (sv_check hN g))) fun H1 e1 => ?_
    refine q_asg ev_c fun H2 e2 => ?_
    refine q_forL (ev_var rfl) (ex_l (e1.trans e2) hx) (fun i σ' H' => ∃ (y2 y3 y4 : Option V), σ' = [some (.ref a), some (.int (worthI (L.take i))), y2, y3, y4] ∧ Ex H H')
      (fun H3 e3 => ⟨none, none, none, rfl, (e1.trans e2).trans e3⟩) (fun i σ' H' _ hW => ?_) (fun i x σ' H' hi hW => ?_) (fun σ' H' hW => ?_)
    · obtain ⟨_, _, _, _, e3⟩ := hW
      exact ex_l e3 hx
    · obtain ⟨y2, y3, y4, rfl, e3⟩ := hW
      obtain ⟨q, hq, t, rfl, ht⟩ := prs_get hp hi
      obtain ⟨r1, r2, r3⟩ := rise_mem g.rise (List.mem_of_getElem? hq)
      have b1 := prime_lo r1
      have b2 := prime_hi r1
      have b3 := g.exp_le (List.mem_of_getElem? hq)
      refine g_pair rfl (ex_t e3 ht) ?_
      refine s_forR1 (ea_cons (ev_var rfl) ea_nil) (by omega) (fun j σ2 H2 => ∃ y4 : Option V, σ2 = [some (.ref a), some (.int (worthI (L.take i) * q.1 ^ j)), some (.int q.1), some (.int q.2), y4] ∧ Ex H H2)
        (fun H4 e4 => ⟨y4, by rw [Int.pow_zero, Int.mul_one]; rfl, e3.trans e4⟩) (fun j σ2 H2 hj hW2 => ?_) (fun σ2 H2 hW2 => ?_)
      · obtain ⟨y4, rfl, e4⟩ := hW2
        refine s_asg (ev_op (ev_var rfl) (ev_var rfl) (rv_I (mulx_ok (b := 10) (worth_way g hq (by omega)) (by omega) (by decide)))) fun H5 e5 => ⟨some (.int (j : Int)), ?_, e4.trans e5⟩
        rw [Int.pow_succ, ← Int.mul_assoc]
        rfl
      · obtain ⟨y4, rfl, e4⟩ := hW2
        refine ⟨some (.int q.1), some (.int q.2), y4, ?_, e4⟩
        rw [take_snoc hq, worth_snoc]
    · obtain ⟨y2, y3, y4, rfl, e3⟩ := hW
      rw [prs_len hp, List.take_length]
      exact s_ret (ev_var rfl) fun H4 e4 => k H4 (e3.trans e4)


theorem D_with_prime : Df P w K mg base CX0 1 "with_prime" ["found", "prime", "times"] (spWith K) := by
  refine U.d_with_prime.ok sc_with_prime (fun vs H Q E h => ?_) (fun f cdv A outer s H vs Q E hr h => ?_)
  · obtain ⟨a, fs, p, k, rfl, _⟩ := h
    rfl
  · obtain ⟨a, fs, p, k, rfl, hf, ⟨hp0, hp1⟩, ⟨hk0, hk1⟩, hlen, hb, q⟩ := h
    refine ⟨_, (pss_cons (ps_set (i := 3) sc_with_prime.nd rfl (Or.inl rfl) (pe_lst pa_nil))
    (pss_cons (ps_set (i := 4) sc_with_prime.nd rfl (Or.inl rfl) pe_int)
    (pss_cons (ps_for PassesOwn.never rfl (pi_range1 (by rfl) U.z_range (pa_cons (pe_op op_add (pv 2) pe_int) pa_nil)) (pg_name (i := 5) sc_with_prime.nd rfl (Or.inl rfl))
      (pss_cons (ps_for PassesOwn.never rfl (pi_list (pv 0)) (pg_name (i := 6) sc_with_prime.nd rfl (Or.inl rfl))
      (pss_one (ps_expr (pe_bm PySem.F.plainAttrs_list PySem.F.slot_list_append PySem.F.type_list_append mt_append (pv 3) (pa_cons (pe_op op_mulX (pv 6) (pv 4)) pa_nil)))))
    (pss_one (ps_set (i := 4) sc_with_prime.nd rfl (Or.inl rfl) (pe_op op_mulX (pv 4) (pv 1))))))
    (pss_one (ps_ret (pv 3)))))), ?_⟩
    refine q_asgL (el_lst ea_nil (by decide)) fun l H1 nl e1 h1 => ?_
    refine q_asg ev_c fun H2 e2 => ?_
    refine q_forR1 (ea_cons (ev_op (ev_var rfl) ev_c rv_I0) ea_nil) (by omega) (fun i σ' H' => ∃ (y5 y6 : Option V), σ' = [some (.ref a), some (.int p), some (.int k), some (.ref l), some (.int (p ^ i)), y5, y6] ∧ Ex H H' ∧ H' l = some (.lst ((widen fs p i).map V.int)))
      (fun H3 e3 => ⟨none, none, by rw [Int.pow_zero]; rfl, (e1.trans e2).trans e3, (e2.trans e3) _ _ h1⟩) (fun i σ' H' hi hW => ?_) (fun σ' H' hW => ?_)
    · obtain ⟨y5, y6, rfl, e3, h3⟩ := hW
      have hi1 : i ≤ 1000 := by omega
      have hwl : (widen fs p i).length + fs.length ≤ 1000 := by
        rw [widen_len]
        have : (i + 1) * fs.length ≤ (k.toNat + 1) * fs.length := Nat.mul_le_mul_right _ (by omega)
        rw [Nat.mul_comm fs.length] at hlen
        rw [Nat.add_mul] at this
        omega
      have hpi := bits_1024 i (pow_pos_i hp0 i) (pow_le_1024 hp0 hp1 i)
      refine q_forLn (ev_var rfl) (ex_l e3 hf) (fun j σ2 H2 => ∃ (y : Option V), σ2 = [some (.ref a), some (.int p), some (.int k), some (.ref l), some (.int (p ^ i)), some (.int (i : Int)), y] ∧ Ex H H2 ∧ H2 l = some (.lst ((widen fs p i ++ (fs.take j).map fun d => d * p ^ i).map V.int)))
        (fun H4 e4 => ⟨y6, rfl, e3.trans e4, by rw [List.take_zero, List.map_nil, List.append_nil]; exact e4 _ _ h3⟩) (fun j σ2 H2 _ hW2 => ?_) (fun j x σ2 H2 hj hW2 => ?_) (fun σ2 H2 hW2 => ?_)
      · obtain ⟨_, _, e4, _⟩ := hW2
        exact ex_l e4 hf
      · obtain ⟨y, rfl, e4, h4⟩ := hW2
        obtain ⟨d, hd, rfl⟩ := map_get hj
        have hdb := hb d (List.mem_of_getElem? hd)
        have hj2 : j < fs.length := (List.getElem?_eq_some_iff.mp hd).1
        refine s_app h4 (ev_var rfl) (ev_op (ev_var rfl) (ev_var rfl) (rv_I (mulx_ok hdb hpi (by omega)))) ?_ fun H5 e5 => ⟨_, rfl, Ex.mut (e4.trans e5) nl, ?_⟩
        · rw [List.length_map, List.length_append, List.length_map, List.length_take]
          omega
        · rw [upd_same, take_snoc hd]
          simp only [List.map_append, List.append_assoc, List.map_cons, List.map_nil]
      · obtain ⟨y, rfl, e4, h4⟩ := hW2
        rw [List.length_map, List.take_length, ← widen_succ] at h4
        refine s_asg (ev_op (ev_var rfl) (ev_var rfl) (rv_I (mulx_ok hpi (b := 11) (by omega) (by omega)))) fun H5 e5 => ⟨some (.int (i : Int)), y, ?_, e4.trans e5, e5 _ _ h4⟩
        rw [Int.pow_succ]
        rfl
    · obtain ⟨y5, y6, rfl, e3, h3⟩ := hW
      rw [show (k + 1).toNat = k.toNat + 1 by omega] at h3
      exact s_ret (ev_var rfl) fun H4 e4 => q l H4 nl (e3.trans e4) (e4 _ _ h3)


theorem D_divisors : Df P w K mg base (L2N.CX P w) 5 "divisors" ["number"] (orBad K cBadN (spDivisors K)) := by
  refine U.d_divisors.okX sc_divisors (fun vs H Q E h => ?_) (fun f cdv A outer s H vs Q E hr h => ?_)
  · rcases h with ⟨a, L, rfl, _⟩ | ⟨v, rfl, _⟩ <;> rfl
  · refine ⟨_, (pss_cons (ps_expr (pe_callSD (D_check_number U) (hr.mono (by decide)) (by rfl) (fun σ => L2N.passAt (L2N.takes_of rfl rfl rfl rfl) σ) (pa_cons (pv 0) pa_nil)))
    (pss_cons (ps_set (i := 1) sc_divisors.nd rfl (Or.inl rfl) (pe_lst (pa_cons pe_int pa_nil)))
    (pss_cons (ps_nox (ps_for PassesOwn.never rfl (pi_list (pv 0)) (pg_tup (by rfl) (pgs_cons (pg_name (i := 2) sc_divisors.nd rfl (Or.inl rfl)) (pgs_cons (pg_name (i := 3) sc_divisors.nd rfl (Or.inl rfl)) pgs_nil)))
      (pss_one (ps_set (i := 1) sc_divisors.nd rfl (Or.inl rfl) (pe_callD (D_with_prime U) (hr.mono (by decide)) (by rfl) pass0 (pa_cons (pv 1) (pa_cons (pv 2) (pa_cons (pv 3) pa_nil))))))))
    (pss_one (ps_ret (pe_callB cr_sortedI (by rfl) U.z_sorted (by decide +kernel) (pa_cons (pv 1) pa_nil))))))), ?_⟩
    rcases h with ⟨a, L, rfl, hN, g, k⟩ | ⟨v, rfl, hbad, kE⟩
    rotate_left
    · exact q_dropR (er_call (ea_cons (ev_var rfl) ea_nil) fun H1 e1 Q => .inr ⟨_, rfl, hbad.ex e1, fun H2 e2 => kE H2 (e1.trans e2)⟩)
    obtain ⟨xs, hx, hp⟩ := id hN
    refine q_drop (evs_call (ea_cons (ev_var rfl) ea_nil) (sv_or (sv_check hN g))) fun H1 e1 => ?_
    refine q_asgL (el_lst (ea_cons ev_c ea_nil) (by decide)) fun l H2 nl e2 h2 => ?_
    refine q_forL (ev_var rfl) (ex_l (e1.trans e2) hx) (fun i σ' H' => ∃ (l : Addr) (y2 y3 : Option V), σ' = [some (.ref a), some (.ref l), y2, y3] ∧ Ex H H' ∧ SqL K H' l ((uds (L.take i)).map V.int))
      (fun H3 e3 => ⟨l, none, none, rfl, (e1.trans e2).trans e3, sq_of (e3 _ _ h2)⟩) (fun i σ' H' _ hW => ?_) (fun i x σ' H' hi hW => ?_) (fun σ' H' hW => ?_)
    · obtain ⟨_, _, _, _, e2, _⟩ := hW
      exact ex_l e2 hx
    · obtain ⟨l, y2, y3, rfl, e3, h3⟩ := hW
      obtain ⟨q, hq, t, rfl, ht⟩ := prs_get hp hi
      obtain ⟨r1, r2, r3⟩ := rise_mem g.rise (List.mem_of_getElem? hq)
      have b1 := prime_lo r1
      have b2 := prime_hi r1
      have b3 := g.exp_le (List.mem_of_getElem? hq)
      have hlen : (uds (L.take i)).length * (q.2.toNat + 1) ≤ 1000 := by
        have h5 := uds_len_le (g.take (i + 1))
        rw [take_snoc hq, uds_snoc, widen_len, Nat.mul_comm] at h5
        omega
      refine g_pair rfl (ex_t e3 ht) ?_
      refine s_asgL (el_f (ef_call (ea_cons (ev_var rfl) (ea_cons (ev_var rfl) (ea_cons (ev_var rfl) ea_nil))) (sf_with h3 (by omega) (by omega) hlen fun d hd => (uds_bits (g.take i) d hd).2))) fun l2 H4 nl2 e4 h4 => ⟨l2, _, _, rfl, e3.trans e4, ?_⟩
      rw [take_snoc hq, uds_snoc]
      exact sq_of h4
    · obtain ⟨l, y2, y3, rfl, e3, h3⟩ := hW
      rw [prs_len hp, List.take_length] at h3
      exact s_retL (el_cb (ea_cons (ev_var rfl) ea_nil) (rcl_sorted h3 fun ns' hp hs => isort_same hp hs)) fun p H4 np e4 h4 => k p H4 (fresh_back e3 np) (e3.trans e4) h4


theorem D_total : Df P w K mg base (L2N.CX P w) 6 "total" ["number"] (orBad K cBadN (spTotal K)) := by
  refine U.d_total.okX sc_total (fun vs H Q E h => ?_) (fun f cdv A outer s H vs Q E hr h => ?_)
  · rcases h with ⟨a, L, rfl, _⟩ | ⟨v, rfl, _⟩ <;> rfl
  · refine ⟨_, (pss_one (ps_ret (pe_callB (cr_sum rfl) (by rfl) U.z_sum (by decide +kernel) (pa_cons (pe_callSD (D_divisors U) (hr.mono (by decide)) (by rfl) (fun σ => L2N.passAt (L2N.takes_of rfl rfl rfl rfl) σ) (pa_cons (pv 0) pa_nil)) pa_nil)))), ?_⟩
    rcases h with ⟨a, L, rfl, hN, g, k⟩ | ⟨v, rfl, hbad, kE⟩
    rotate_left
    · exact s_retR (er_cb (er_call (ea_cons (ev_var rfl) ea_nil) fun H1 e1 Q => .inr ⟨_, rfl, hbad.ex e1, fun H2 e2 => kE H2 (e1.trans e2)⟩))
    exact s_ret (ev_cbF (efs_call (ea_cons (ev_var rfl) ea_nil) (sf_or (sf_divisors hN g))) fun p H1 hp e => rc_sum (sq_of hp)) k


theorem D_joined : Df P w K mg base (L2N.CX P w) 5 "joined" ["one", "other"] (spJoined5 K cBadN cToo) := by
  refine U.d_joined.okX sc_joined (fun vs H Q E h => ?_) (fun f cdv A outer s H vs Q E hr h => ?_)
  · rcases h with ⟨a, b, L, M, rfl, _⟩ | ⟨v, w, rfl, _⟩ <;> rfl
  · refine ⟨_, (pss_cons (ps_expr (pe_callSD (D_check_number U) (hr.mono (by decide)) (by rfl) (fun σ => L2N.passAt (L2N.takes_of rfl rfl rfl rfl) σ) (pa_cons (pv 0) pa_nil)))
    (pss_cons (ps_expr (pe_callSD (D_check_number U) (hr.mono (by decide)) (by rfl) (fun σ => L2N.passAt (L2N.takes_of rfl rfl rfl rfl) σ) (pa_cons (pv 1) pa_nil)))
    (pss_cons (ps_set (i := 2) sc_joined.nd rfl (Or.inr rfl) pe_dnewK)
    (pss_cons (ps_nox (ps_for PassesOwn.never rfl (pi_list (pe_lst (StX.pa_star (pv 0) (StX.pa_star (pv 1) pa_nil)))) (pg_tup (by rfl) (pgs_cons (pg_name (i := 3) sc_joined.nd rfl (Or.inl rfl)) (pgs_cons (pg_name (i := 4) sc_joined.nd rfl (Or.inl rfl)) pgs_nil)))
      (pss_one (ps_dput (room_u1 hr) (pv 2) (pv 3) (pe_op op_add (pe_dget2 (room_u1 hr) (pv 2) (pv 3) pe_int ⟨by rfl, by rfl, by rfl, by rfl⟩) (pv 4)) (by rfl)))))
    (pss_cons (ps_setLc (i := 5) (own := [("prime", 3)]) (g := (gName 3)) (tt := tYes) (by rfl) sc_joined.nd rfl rfl (sw_true rfl rfl rfl (by decide +kernel)) (pi_list (pe_callB (cr_sortD rfl) (by rfl) U.z_sorted (by decide +kernel) (pa_cons (pv 2) pa_nil))) (blkOk_by (N := s_joined_N) (sc := defScope s_joined) (by decide +kernel)) (fun _ _ _ _ _ => pg_name (i := 3) sc_joined.nd rfl (Or.inl rfl)) (fun _ _ _ _ _ => pts_nil) (fun _ _ _ _ _ => (pe_tup (pa_cons (pv 3) (pa_cons (pe_dget (room_u1 hr) (pv 2) (pv 3) (fun _ _ => rfl)) pa_nil)))))
    (pss_cons (ps_if (pt_val (pe_callD (D_has_too_many U) (hr.mono (by decide)) (by rfl) pass0 (pa_cons (pv 5) pa_nil)))
      (pss_one (ps_err U.e_TooMany rfl (L2N.takes_of rfl rfl rfl rfl) (by rfl)))
      pss_nil)
    (pss_one (ps_ret (pv 5))))))))), ?_⟩
    rcases h with ⟨a, b, L, M, rfl, hN, hM, g, g', k, kE⟩ | ⟨v, w, rfl, hbad, kE⟩
    rotate_left
    · rcases hbad with hbad | ⟨a, L, rfl, hN, g, hbad⟩
      · exact q_dropR (er_call (ea_cons (ev_var rfl) ea_nil) fun H1 e1 Q => .inr ⟨_, rfl, hbad.ex e1, fun H2 e2 => kE H2 (e1.trans e2)⟩)
      · exact q_drop (evs_call (ea_cons (ev_var rfl) ea_nil) (sv_or (sv_check hN g))) fun H1 e1 => q_dropR (er_call (ea_cons (ev_var rfl) ea_nil) fun H2 e2 Q => .inr ⟨_, rfl, hbad.ex (e1.trans e2), fun H3 e3 => kE H3 ((e1.trans e2).trans e3)⟩)
    have hjl := join_len g g'
    obtain ⟨xs, hx, hp⟩ := id hN
    obtain ⟨ys, hy, hq⟩ := id hM
    have hgl := good_len g
    have hgl' := good_len g'
    have hxl := prs_len hp
    have hyl := prs_len hq
    refine q_drop (evs_call (ea_cons (ev_var rfl) ea_nil) (sv_or (sv_check hN g))) fun H1 e1 => ?_
    refine q_drop (evs_call (ea_cons (ev_var rfl) ea_nil) (sv_or (sv_check (hM.ex e1) g'))) fun H2 e2 => ?_
    have e12 := e1.trans e2
    refine q_asgF ef_dnew fun d H3 nd e3 hd => ?_
    have e13 := e12.trans e3
    have hP0 : PrsAt K H3 (xs ++ ys) (L ++ M) := prs_app (prs_ex e13 hp) (prs_ex e13 hq)
    refine q_forNL (el_star2 (ev_var rfl) (ex_l e13 hx) (ev_var rfl) (ex_l e13 hy) (by omega)) (fun p0 i σ' H' => ∃ (y3 y4 y5 : Option V), σ' = [some (.ref a), some (.ref b), some (.ref d), y3, y4, y5] ∧ Ex H2 H' ∧ H' d = some (.dK (kvI (sumI ((L ++ M).take i)))) ∧ H' p0 = some (.lst (xs ++ ys)) ∧ PrsAt K H' (xs ++ ys) (L ++ M))
      (fun p0 H4 np0 e4 h4 => ⟨none, none, none, rfl, e3.trans e4, e4 _ _ hd, h4, prs_ex e4 hP0⟩) (fun p0 i σ' H' _ hW => ?_) (fun p0 i x σ' H' hi hW => ?_) (fun p0 σ' H' hW => ?_)
    · obtain ⟨_, _, _, _, _, _, h5, _⟩ := hW
      exact sq_of h5
    · obtain ⟨y3, y4, y5, rfl, e4, h4, h5, h6⟩ := hW
      obtain ⟨q, hq, t, rfl, ht⟩ := prs_get h6 hi
      refine g_pair rfl ht ?_
      have hsl : (kvI (sumI ((L ++ M).take i))).length < 100000 := by
        have hs := (sum_is (N := (L ++ M).take i) fun z hz => exps_app (good_exps g) (good_exps g') z (List.mem_of_mem_take hz)).len
        rw [List.length_take, List.length_append] at hs
        unfold kvI
        rw [List.length_map]
        omega
      have hv := ev_dget2 (td := tVar 2) (ty := tVar 3) (tx := tC (.int 0)) (k := Sum.inl q.1) (z := V.int 0) (σ := [some (.ref a), some (.ref b), some (.ref d), some (.int q.1), some (.int q.2), y5]) h4 (ev_var rfl) (ev_var rfl) ev_c
      rw [val_get] at hv
      refine s_dput h4 hsl (ev_var rfl) (k := Sum.inl q.1) (ev_var rfl) (ev_op hv (ev_var rfl) rv_I0) fun H5 e5 => ⟨_, _, _, rfl, Ex.mut (e4.trans e5) nd, ?_, ?_, prs_updD (prs_ex e5 h6) (e5 _ _ h4)⟩
      · rw [upd_same, put_add (sum_nodup _), take_snoc hq, sumI_snoc]
      · rw [upd_ne (ne_of (e5 _ _ h5) (e5 _ _ h4) (by intro z; cases z))]
        exact e5 _ _ h5
    · obtain ⟨y3, y4, y5, rfl, e4, h4, h5, h6⟩ := hW
      rw [show (xs ++ ys).length = (L ++ M).length from prs_len h6, List.take_length] at h4
      refine (show tSeq (tAsg _ (gName 5)) _ _ _ _ from q_asgF (ef_lcPr (K := K) (isort (ksI (sumI (L ++ M)))) (fun p => (p, getI (sumI (L ++ M)) p)) (el_sortD (ev_var rfl) h4 (by omega)) (by rw [isort_len]; unfold ksI; rw [List.length_map]; omega) (fun _ => rfl) fun p H5 e5 hm => ef_u (eu_tup (ea_cons (ev_var rfl) (ea_cons (ev_dget (k := Sum.inl p) (e5 _ _ h4) (ev_var rfl) (ev_var rfl) (val_at (isort_mem.mp hm))) ea_nil)) (show 2 ≤ 100000 by decide))) fun pr H5 npr e5 hpr => ?_)
      have hJ : NewN K (joinV L M) pr H5 := hpr
      have e15 := (e12.trans e4).trans e5
      refine q_if (et_val (ev_call (ea_cons (ev_var rfl) ea_nil) (sv_tooMany hJ.num (join_exps g g')))) (fun hb H6 e6 => ?_) (fun hb H6 e6 => ?_)
      · exact kE (by have := of_decide_eq_true hb; omega) H6 (e15.trans e6)
      · exact s_ret (ev_var rfl) fun H7 e7 => k (by have := of_decide_eq_false hb; omega) pr H7 (fresh_back (e12.trans e4) npr) ((e15.trans e6).trans e7) (mono_newN _ _ _ (e6.trans e7) hJ)


theorem D_least_unmade : Df P w K mg base CX0 6 "least_unmade" ["number"] (spLeast K) := by
  refine U.d_least_unmade.ok sc_least_unmade (fun vs H Q E h => ?_) (fun f cdv A outer s H vs Q E hr h => ?_)
  · obtain ⟨a, L, rfl, _⟩ := h
    rfl
  · obtain ⟨a, L, rfl, hN, g, k⟩ := h
    refine ⟨_, (pss_cons (ps_set (i := 1) sc_least_unmade.nd rfl (Or.inl rfl) pe_int)
    (pss_cons (ps_for PassesOwn.never rfl (pi_list (pe_callD (D_divisors U) (hr.mono (by decide)) (by rfl) passN (pa_cons (pv 0) pa_nil))) (pg_name (i := 2) sc_least_unmade.nd rfl (Or.inl rfl))
      (pss_cons (ps_if (pt_cmpR op_gt (pv 2) (pe_op op_add (pv 1) pe_int) (nomark _))
      (pss_one (ps_ret (pe_op op_add (pv 1) pe_int)))
      pss_nil)
    (pss_one (ps_set (i := 1) sc_least_unmade.nd rfl (Or.inl rfl) (pe_op op_add (pv 1) (pv 2))))))
    (pss_one (ps_ret (pe_op op_add (pv 1) pe_int))))), ?_⟩
    refine q_asg ev_c fun H1 e1 => ?_
    refine q_forNLn (el_f (ef_call (ea_cons (ev_var rfl) ea_nil) (sf_or (cB := cBadN) (sf_divisors (hN.ex e1) g)))) (fun p i σ' H' => ∃ (reach : Int) (y : Option V), σ' = [some (.ref a), some (.int reach), y] ∧ Ex H H' ∧ H' p = some (.lst ((ds L).map V.int)) ∧ lu 0 (ds L) = lu reach ((ds L).drop i))
      (fun p H2 np e2 h2 => ⟨0, none, rfl, e1.trans e2, h2, rfl⟩) (fun p i σ' H' _ hW => ?_) (fun p i x σ' H' hi hW => ?_) (fun p σ' H' hW => ?_)
    · obtain ⟨_, _, _, _, h, _⟩ := hW
      exact sq_of h
    · obtain ⟨reach, y, rfl, e2, h2, hl⟩ := hW
      obtain ⟨d, hd, rfl⟩ := map_get hi
      rw [drop_at hd] at hl
      refine q_when (et_test (ev_op (ev_var rfl) (ev_op (ev_var rfl) ev_c rv_I0) rv_I0)) (fun hb H3 e3 => ?_) (fun hb H3 e3 => ?_)
      · have hb' : reach + 1 < d := of_decide_eq_true hb
        conv at hl => rhs; unfold lu
        rw [if_pos hb'] at hl
        exact s_ret (ev_op (ev_var rfl) ev_c rv_I0) fun H4 e4 => toV k ((e2.trans e3).trans e4) (by rw [hl])
      · have hb' : ¬ reach + 1 < d := of_decide_eq_false hb
        conv at hl => rhs; unfold lu
        rw [if_neg hb'] at hl
        exact s_asg (ev_op (ev_var rfl) (ev_var rfl) rv_I0) fun H4 e4 => ⟨_, _, rfl, (e2.trans e3).trans e4, (e3.trans e4) _ _ h2, hl⟩
    · obtain ⟨reach, y, rfl, e2, h2, hl⟩ := hW
      rw [List.length_map, List.drop_length] at hl
      exact s_ret (ev_op (ev_var rfl) ev_c rv_I0) fun H4 e4 => toV k (e2.trans e4) (by rw [hl]; rfl)


theorem D_Barred : Dk P w K mg base CX0 1 cBar "Barred" ["self", "amount"] (spInitBar cBar) := by
  refine U.k_Barred.ok sc_Barred___init__ (fun vs H Q E h => ?_) (fun f cdv A outer s H vs Q E hr h => ?_)
  · obtain ⟨x, dx, m, rfl, _⟩ := h
    rfl
  · obtain ⟨x, dx, m, rfl, ho, k⟩ := h
    refine ⟨_, (pss_one (ps_fld (pv 0) (pv 1) (by rfl))), ?_⟩
    exact ⟨_, rfl, _, rfl, x, cBar, dx, [], rfl, ho, U.clsBar, U.n_amount, by decide, k _ (Ex.refl _)⟩


theorem D_told : Df P w K mg base (L2N.CX P w) 7 "told" ["number"] (orBad K cBadN (spTold K cAll cBar)) := by
  refine U.d_told.okX sc_told (fun vs H Q E h => ?_) (fun f cdv A outer s H vs Q E hr h => ?_)
  · rcases h with ⟨a, L, rfl, _⟩ | ⟨v, rfl, _⟩ <;> rfl
  · refine ⟨_, (pss_cons (ps_expr (pe_callSD (D_check_number U) (hr.mono (by decide)) (by rfl) (fun σ => L2N.passAt (L2N.takes_of rfl rfl rfl rfl) σ) (pa_cons (pv 0) pa_nil)))
    (pss_cons (ps_set (i := 1) sc_told.nd rfl (Or.inl rfl) (pe_callD (D_least_unmade U) (hr.mono (by decide)) (by rfl) pass0 (pa_cons (pv 0) pa_nil)))
    (pss_cons (ps_if (pt_cmpR op_gt (pv 1) (pe_callD (D_total U) (hr.mono (by decide)) (by rfl) passN (pa_cons (pv 0) pa_nil)) (nomark _))
      (pss_one (ps_ret (pe_mk0 U.mk_All (by rfl) U.g_All)))
      pss_nil)
    (pss_one (ps_ret (pe_makeD (D_Barred U) (hr.mono (by decide)) (by rfl) pass0 (pa_cons (pv 1) pa_nil))))))), ?_⟩
    rcases h with ⟨a, L, rfl, hN, g, k⟩ | ⟨v, rfl, hbad, kE⟩
    rotate_left
    · exact q_dropR (er_call (ea_cons (ev_var rfl) ea_nil) fun H1 e1 Q => .inr ⟨_, rfl, hbad.ex e1, fun H2 e2 => kE H2 (e1.trans e2)⟩)
    refine q_drop (evs_call (ea_cons (ev_var rfl) ea_nil) (sv_or (sv_check hN g))) fun H1 e1 => ?_
    refine q_asg (ev_call (ea_cons (ev_var rfl) ea_nil) (sv_least (hN.ex e1) g)) fun H2 e2 => ?_
    refine q_when (et_test (ev_op (ev_var rfl) (ev_call (ea_cons (ev_var rfl) ea_nil) (sv_or (cB := cBadN) (sv_total (hN.ex (e1.trans e2)) g))) rv_I0)) (fun hb H3 e3 => ?_) (fun hb H3 e3 => ?_)
    · have ha : ansV L = none := by
        unfold ansV
        rw [← lu_tot g, hb]
        rfl
      rw [ha] at k
      exact s_retF ef_mk0 fun p H4 np e4 h4 => k p H4 (fresh_back ((e1.trans e2).trans e3) np) (((e1.trans e2).trans e3).trans e4) h4
    · have ha : ansV L = some (lu 0 (ds L)) := by
        unfold ansV
        rw [← lu_tot g, hb]
        rfl
      rw [ha] at k
      exact s_retF (ef_bar (ea_cons (ev_var rfl) ea_nil)) fun p H4 np e4 h4 => k p H4 (fresh_back ((e1.trans e2).trans e3) np) (((e1.trans e2).trans e3).trans e4) h4


theorem D_picked : Df P w K mg base CX0 1 "picked" ["rising", "amount"] (spPicked K) := by
  refine U.d_picked.ok sc_picked (fun vs H Q E h => ?_) (fun f cdv A outer s H vs Q E hr h => ?_)
  · obtain ⟨a, l, m, rfl, _⟩ := h
    rfl
  · obtain ⟨a, l, m, rfl, hS, hlen, k⟩ := h
    refine ⟨_, (pss_cons (ps_set (i := 2) sc_picked.nd rfl (Or.inl rfl) (pe_lst pa_nil))
    (pss_cons (ps_set (i := 3) sc_picked.nd rfl (Or.inl rfl) (pv 1))
    (pss_cons (ps_for PassesOwn.never rfl (pi_reversed (by rfl) U.z_reversed (pa_cons (pv 0) pa_nil)) (pg_name (i := 4) sc_picked.nd rfl (Or.inl rfl))
      (pss_one (ps_if (pt_cmpR op_le (pv 4) (pv 3) (nomark _))
      (pss_cons (ps_expr (pe_bm PySem.F.plainAttrs_list PySem.F.slot_list_append PySem.F.type_list_append mt_append (pv 2) (pa_cons (pv 4) pa_nil)))
    (pss_one (ps_set (i := 3) sc_picked.nd rfl (Or.inl rfl) (pe_op op_sub (pv 3) (pv 4)))))
      pss_nil)))
    (pss_one (ps_ret (pv 2)))))), ?_⟩
    refine q_asgL (el_lst ea_nil (by decide)) fun p H1 np e1 h1 => ?_
    refine q_asg (ev_var rfl) fun H2 e2 => ?_
    refine q_forRev (ev_var rfl) (ex_l (e1.trans e2) hS) (fun i σ' H' => ∃ (acc : List Int) (rest : Int) (y : Option V), σ' = [some (.ref a), some (.int m), some (.ref p), some (.int rest), y] ∧ Ex H H' ∧ H' p = some (.lst (acc.map V.int)) ∧ acc.length ≤ i ∧ i ≤ l.length ∧ pick l.reverse m = acc ++ pick (l.reverse.drop i) rest)
      (fun H3 e3 => ⟨[], m, none, rfl, (e1.trans e2).trans e3, (e2.trans e3) _ _ h1, Nat.le_refl _, Nat.zero_le _, rfl⟩) (fun i σ' H' hW => ?_) (fun i x σ' H' hi hW => ?_) (fun σ' H' hW => ?_)
    · obtain ⟨_, _, _, _, e3, _⟩ := hW
      exact ex_l e3 hS
    · obtain ⟨acc, rest, y, rfl, e3, h3, hal, hil, hp⟩ := hW
      rw [← List.map_reverse] at hi
      obtain ⟨d, hd, rfl⟩ := map_get hi
      have hi2 := (List.getElem?_eq_some_iff.mp hd).1
      rw [List.length_reverse] at hi2
      rw [drop_at hd] at hp
      conv at hp => rhs; rhs; unfold pick
      refine s_if (et_test (ev_op (ev_var rfl) (ev_var rfl) rv_I0)) (fun hb H4 e4 => ?_) (fun hb H4 e4 => ?_)
      · rw [if_pos (of_decide_eq_true hb)] at hp
        refine q_app ((e4) _ _ h3) (ev_var rfl) (ev_var rfl) (by rw [List.length_map]; omega) fun H5 e5 => ?_
        refine s_asg (ev_op (ev_var rfl) (ev_var rfl) rv_I0) fun H6 e6 => ⟨acc ++ [d], rest - d, _, rfl, (Ex.mut ((e3.trans e4).trans e5) np).trans e6, e6 _ _ ?_, ?_, hi2, ?_⟩
        · rw [upd_same, List.map_append]
          rfl
        · rw [List.length_append, List.length_singleton]
          omega
        · rw [hp, List.append_assoc]
          rfl
      · rw [if_neg (of_decide_eq_false hb)] at hp
        exact ⟨acc, rest, _, rfl, e3.trans e4, e4 _ _ h3, by omega, hi2, hp⟩
    · obtain ⟨acc, rest, y, rfl, e3, h3, hal, hil, hp⟩ := hW
      rw [List.length_map, show l.length = l.reverse.length from List.length_reverse.symm, List.drop_length] at hp
      have hp' : pick l.reverse m = acc := by rw [hp]; exact List.append_nil acc
      rw [← hp'] at h3
      exact s_ret (ev_var rfl) fun H4 e4 => k p H4 np (e3.trans e4) (e4 _ _ h3)


theorem D_made : Df P w K mg base (L2N.CX P w) 7 "made" ["number", "amount"] (spMade5 K cBadN cNot cBadS) := by
  refine U.d_made.okX sc_made (fun vs H Q E h => ?_) (fun f cdv A outer s H vs Q E hr h => ?_)
  · rcases h with ⟨a, L, m, rfl, _⟩ | ⟨v, w, rfl, _⟩ | ⟨a, L, w, o, rfl, _⟩ <;> rfl
  · refine ⟨_, (pss_cons (ps_expr (pe_callSD (D_check_number U) (hr.mono (by decide)) (by rfl) (fun σ => L2N.passAt (L2N.takes_of rfl rfl rfl rfl) σ) (pa_cons (pv 0) pa_nil)))
    (pss_cons (ps_if (PW.pt (pw_or (pt_not (pt_val (pe_callD (D_is_whole U) (hr.mono (by decide)) (by rfl) pass0 (pa_cons (pv 1) pa_nil)))) (pw_or (pt_cmpR op_lt (pv 1) pe_int (nomark _)) (pw_or1 (pt_cmpR op_gt (pv 1) (pe_callD (D_total U) (hr.mono (by decide)) (by rfl) passN (pa_cons (pv 0) pa_nil)) (nomark _))))))
      (pss_one (ps_err U.e_BadSum rfl (L2N.takes_of rfl rfl rfl rfl) (by rfl)))
      pss_nil)
    (pss_cons (ps_if (pt_cmpR op_le (pe_callD (D_least_unmade U) (hr.mono (by decide)) (by rfl) pass0 (pa_cons (pv 0) pa_nil)) (pe_callD (D_total U) (hr.mono (by decide)) (by rfl) passN (pa_cons (pv 0) pa_nil)) (nomark _))
      (pss_one (ps_err U.e_NotAll rfl (L2N.takes_of rfl rfl rfl rfl) (by rfl)))
      pss_nil)
    (pss_one (ps_ret (pe_callB cr_sortedI (by rfl) U.z_sorted (by decide +kernel) (pa_cons (pe_callD (D_picked U) (hr.mono (by decide)) (by rfl) pass0 (pa_cons (pe_callD (D_divisors U) (hr.mono (by decide)) (by rfl) passN (pa_cons (pv 0) pa_nil)) (pa_cons (pv 1) pa_nil))) pa_nil))))))), ?_⟩
    rcases h with ⟨a, L, m, rfl, hN, g, hm, k, kE⟩ | h
    rotate_left
    · rcases h with ⟨v, w, rfl, hbad, kE⟩ | ⟨a, L, w, o, rfl, hN, g, hA, hb, kE⟩
      · exact q_dropR (er_call (ea_cons (ev_var rfl) ea_nil) fun H1 e1 Q => .inr ⟨_, rfl, hbad.ex e1, fun H2 e2 => kE H2 (e1.trans e2)⟩)
      · refine q_drop (evs_call (ea_cons (ev_var rfl) ea_nil) (sv_or (sv_check hN g))) fun H1 e1 => ?_
        cases hA with
        | int i =>
          refine q_yes (et_or (et_not (et_val (ev_call (ea_cons (ev_var rfl) ea_nil) (sv_whole5 (.int i))))) fun _ => et_or (et_test (ev_op (ev_var rfl) ev_c rv_I0)) fun _ => et_test (ev_op (ev_var rfl) (ev_call (ea_cons (ev_var rfl) ea_nil) (sv_or (cB := cBadN) (sv_total (NumAt.ex e1 hN) g))) rv_I0)) ?_ fun H2 e2 => kE H2 (e1.trans e2)
          rcases hb i rfl with z | z
          · rw [decide_eq_true z]
            rfl
          · rw [decide_eq_true z]
            simp
        | oth h1 h2 => exact q_yes (et_or (a := true) (b := true) (et_not (et_val (ev_call (ea_cons (ev_var rfl) ea_nil) (sv_whole5 ((At.oth h1 h2).ex e1))))) fun z => by cases z) rfl fun H2 e2 => kE H2 (e1.trans e2)
    refine q_drop (evs_call (ea_cons (ev_var rfl) ea_nil) (sv_or (sv_check hN g))) fun H1 e1 => ?_
    refine q_skip (et_or (et_not (et_val (ev_call (ea_cons (ev_var rfl) ea_nil) (sv_whole5 (.int m))))) fun _ => et_or (et_test (ev_op (ev_var rfl) ev_c rv_I0)) fun _ => et_test (ev_op (ev_var rfl) (ev_call (ea_cons (ev_var rfl) ea_nil) (sv_or (cB := cBadN) (sv_total (hN.ex e1) g))) rv_I0))
      (by rw [decide_eq_false (show ¬ m < 0 by omega), decide_eq_false (show ¬ tot L < m by omega)]; rfl) fun H2 e2 => ?_
    refine q_if (et_test (ev_op (ev_call (ea_cons (ev_var rfl) ea_nil) (sv_least (hN.ex (e1.trans e2)) g)) (ev_call (ea_cons (ev_var rfl) ea_nil) (sv_or (cB := cBadN) (sv_total (hN.ex (e1.trans e2)) g))) rv_I0)) (fun hb H3 e3 => ?_) (fun hb H3 e3 => ?_)
    · have ha : isAll L = false := by
        rw [← lu_tot g]
        exact decide_eq_false (by have := of_decide_eq_true hb; omega)
      exact kE ha H3 ((e1.trans e2).trans e3)
    · have ha : isAll L = true := by
        rw [← lu_tot g]
        exact decide_eq_true (by have := of_decide_eq_false hb; omega)
      refine s_retL (el_cbF (ef_callP (PF := fun p H2 => H2 p = some (.lst ((pick (ds L).reverse m).map V.int))) (eap_f (ef_call (ea_cons (ev_var rfl) ea_nil) (sf_or (cB := cBadN) (sf_divisors (hN.ex ((e1.trans e2).trans e3)) g))) mono_obj (eap_a (ea_cons (ev_var rfl) ea_nil))) fun vs H4 ⟨p, r, z1, z2, z3⟩ _ => by
        subst z3 z1
        exact sf_picked (sq_of z2) (by have := ds_len_le g; omega)) fun p H4 hp e4 => rcl_sorted (sq_of hp) fun ns' hq hs => isort_same hq hs) fun p H4 np e4 h4 => k ha p H4 (fresh_back ((e1.trans e2).trans e3) np) (((e1.trans e2).trans e3).trans e4) h4


theorem D_law_cell_at : Df P w K mg base CX0 1 "_law_cell_at" ["_law_script", "_law_k"] (spCellAt K) := by
  refine U.d_law_cell_at.ok sc_law_cell_at (fun vs H Q E h => ?_) (fun f cdv A outer s H vs Q E hr h => ?_)
  · obtain ⟨a, ns, k, rfl, _⟩ := h
    rfl
  · obtain ⟨a, ns, k, rfl, hS, hk, q⟩ := h
    refine ⟨_, (pss_cons (ps_if (pt_cmpR op_lt (pv 1) (pe_callB call_len_seq (by rfl) U.z_len (by decide +kernel) (pa_cons (pv 0) pa_nil)) (nomark _))
      (pss_one (ps_ret (pe_ix ix_list (pv 0) (pv 1) (fun _ _ => rfl))))
      pss_nil)
    (pss_one (ps_ret pe_int))), ?_⟩
    refine q_when (et_test (ev_op (ev_var rfl) (ev_cb (ea_cons (ev_var rfl) ea_nil) (rc_len hS)) rv_I0)) (fun hb H1 e1 => ?_) (fun hb H1 e1 => ?_)
    · have hb' : k < ((ns.map V.int).length : Int) := of_decide_eq_true hb
      rw [List.length_map] at hb'
      exact s_ret (ev_op (ev_var rfl) (ev_var rfl) (rv_ixL (ex_l e1 hS) (atI_int hk hb'))) fun H2 e2 => q H2 (e1.trans e2)
    · have hb' : ¬ k < ((ns.map V.int).length : Int) := of_decide_eq_false hb
      rw [List.length_map] at hb'
      exact s_ret ev_c fun H2 e2 => toV q (e1.trans e2) (by rw [cellV_out hk hb'])


theorem D_law_draw : Df P w K mg base CX0 1 "_law_draw" ["_law_cell", "_law_k", "_law_many"] spDraw := by
  refine U.d_law_draw.ok sc_law_draw (fun vs H Q E h => ?_) (fun f cdv A outer s H vs Q E hr h => ?_)
  · obtain ⟨c, k, m, rfl, _⟩ := h
    rfl
  · obtain ⟨c, k, m, rfl, hc, hk, hm, q⟩ := h
    refine ⟨_, (pss_cons (ps_set (i := 3) sc_law_draw.nd rfl (Or.inl rfl) (pe_tup (pa_cons pe_int (pa_cons pe_int (pa_cons pe_int (pa_cons pe_int (pa_cons pe_int (pa_cons pe_int (pa_cons pe_int (pa_cons pe_int (pa_cons pe_int (pa_cons pe_int (pa_cons pe_int (pa_cons pe_int (pa_cons pe_int (pa_cons pe_int (pa_cons pe_int (pa_cons pe_int pa_nil))))))))))))))))))
    (pss_one (ps_ret (pe_op op_mod (pe_op op_mod (pe_op op_add (pe_op op_mulX (pv 0) pe_int) (pe_op op_mulX (pv 1) pe_int)) (pe_ix ix_tup (pv 3) (pe_op op_mod (pv 1) pe_int) (fun _ _ => rfl))) (pv 2))))), ?_⟩
    refine q_asgU (eu_tup (ea_cons ev_c (ea_cons ev_c (ea_cons ev_c (ea_cons ev_c (ea_cons ev_c (ea_cons ev_c (ea_cons ev_c (ea_cons ev_c (ea_cons ev_c (ea_cons ev_c (ea_cons ev_c (ea_cons ev_c (ea_cons ev_c (ea_cons ev_c (ea_cons ev_c (ea_cons ev_c ea_nil)))))))))))))))) (by decide)) fun t H1 nt e1 h1 => ?_
    obtain ⟨d0, d1, d2⟩ := drawPs_at (k := k)
    exact s_ret (ev_op (ev_op (ev_op (ev_op (ev_var rfl) ev_c (rv_I (mulx_ok (b := 20) hc (by decide) (by decide)))) (ev_op (ev_var rfl) ev_c (rv_I (mulx_ok (a := 20) (b := 20) (by omega) (by decide) (by decide)))) rv_I0) (ev_op (ev_var rfl) (ev_op (ev_var rfl) ev_c (rv_I (show (0 : Int) < 16 by decide))) (rv_ixT (st_of h1) (atI_int (ns := drawPs) d0 d1))) (rv_I d2)) (ev_var rfl) (rv_I hm)) fun H2 e2 => q H2 (e1.trans e2)


theorem D_law_value : Df P w K mg base CX0 2 "_law_value" ["_law_cell", "_law_k", "_law_limit"] spValue := by
  refine U.d_law_value.ok sc_law_value (fun vs H Q E h => ?_) (fun f cdv A outer s H vs Q E hr h => ?_)
  · obtain ⟨c, k, m, rfl, _⟩ := h
    rfl
  · obtain ⟨c, k, m, rfl, hc, hk, hm, q⟩ := h
    refine ⟨_, (pss_cons (ps_if (pt_cmpR op_ge (pv 0) (pe_op op_pow pe_int pe_int) (nomark _))
      (pss_one (ps_ret (pe_op op_mod (pe_op op_fdivW (pe_op op_sub (pv 0) (pe_op op_pow pe_int pe_int)) (pe_ix ix_tup (pe_tup (pa_cons pe_int (pa_cons pe_int (pa_cons pe_int (pa_cons pe_int pa_nil))))) (pe_op op_mod (pv 1) pe_int) (fun _ _ => rfl))) (pe_op op_pow pe_int pe_int))))
      pss_nil)
    (pss_one (ps_ret (pe_callD (D_law_draw U) (hr.mono (by decide)) (by rfl) pass0 (pa_cons (pe_op op_mulX (pe_op op_add (pv 0) (pe_op op_mulX pe_int (pv 1))) (pe_op op_add (pe_op op_add (pv 0) (pe_op op_mulX pe_int (pv 1))) pe_int)) (pa_cons (pe_op op_add (pe_op op_mod (pv 1) pe_int) pe_int) (pa_cons (pv 2) pa_nil))))))), ?_⟩
    have p18 : CPow 10 18 := ⟨by decide, by decide, by decide⟩
    have p40 : CPow 10 40 := ⟨by decide, by decide, by decide⟩
    refine q_when (et_test (ev_op (ev_var rfl) (ev_op ev_c ev_c (rv_I p18)) rv_I0)) (fun hb H1 e1 => ?_) (fun hb H1 e1 => ?_)
    · have hb' : (10 : Int) ^ 18 ≤ c := of_decide_eq_true hb
      obtain ⟨d0, d1, d2, d3⟩ := valDs_at (k := k)
      exact s_ret (ev_op (ev_op (ev_op (ev_var rfl) (ev_op ev_c ev_c (rv_I p18)) rv_I0) (ev_opF1 (ef_u (eu_tup (ea_cons ev_c (ea_cons ev_c (ea_cons ev_c (ea_cons ev_c ea_nil)))) (by decide))) mono_obj (ev_op (ev_var rfl) ev_c (rv_I (show (0 : Int) < 4 by decide))) fun p H2 hp _ => rv_ixT (st_of hp) (atI_int (ns := valDs) d0 d1)) (rv_I (wide_div (b := 10) d2 (by omega) (by decide) (by decide)))) (ev_op ev_c ev_c (rv_I p40)) (rv_I (show (0 : Int) < 10 ^ (40 : Int).toNat by decide))) fun H2 e2 => toV q (e1.trans e2) (by unfold valueV; rw [if_pos hb']; rfl)
    · have hb' : ¬ (10 : Int) ^ 18 ≤ c := of_decide_eq_false hb
      have s1 : Small 1048578 (c + 977 * k) := hc.add (small_le 1000000 (by omega) (by decide) (by decide))
      have s2 : Small 1048578 (c + 31 * k) := hc.add (small_le 1000000 (by omega) (by decide) (by decide))
      have s3 : Small 1048579 (c + 31 * k + 5) := s2.add (small_le 5 (by decide) (by decide) (by decide))
      have km := Int.emod_lt_of_pos k (show (0 : Int) < 9 by decide)
      have kn := Int.emod_nonneg k (show (9 : Int) ≠ 0 by decide)
      exact s_ret (ev_call (ea_cons (ev_op (ev_op (ev_var rfl) (ev_op ev_c (ev_var rfl) (rv_I (mulx_ok (a := 20) (b := 20) (by decide) (by omega) (by decide)))) rv_I0) (ev_op (ev_op (ev_var rfl) (ev_op ev_c (ev_var rfl) (rv_I (mulx_ok (a := 20) (b := 20) (by decide) (by omega) (by decide)))) rv_I0) ev_c rv_I0) (rv_I (mulx_ok s1 s3 (by decide)))) (ea_cons (ev_op (ev_op (ev_var rfl) ev_c (rv_I (show (0 : Int) < 9 by decide))) ev_c rv_I0) (ea_cons (ev_var rfl) ea_nil)))
        (sv_draw ((s1.mul s3).mono (by decide)) (by omega) hm)) fun H2 e2 => toV q (e1.trans e2) (by unfold valueV; rw [if_neg hb'])


theorem D_law_prime : Df P w K mg base CX0 1 "_law_prime" ["_law_number_here"] spPrime := by
  refine U.d_law_prime.ok sc_law_prime (fun vs H Q E h => ?_) (fun f cdv A outer s H vs Q E hr h => ?_)
  · obtain ⟨n, rfl, _⟩ := h
    rfl
  · obtain ⟨n, rfl, hn, q⟩ := h
    refine ⟨_, (pss_cons (ps_while PassesOwn.never (PW.pt (pw_or (pt_cmpR op_lt (pv 0) pe_int (nomark _)) (pw_or1 (pt_val (pe_callB (cr_any rfl) (by rfl) U.z_any (by decide +kernel) (pa_cons (pe_lc (own := [("_law_part", 1)]) (g := (gName 1)) (by rfl) sc_law_prime.nd (pi_range2 (by rfl) U.z_range (pa_cons pe_int (pa_cons pe_int pa_nil))) (blkOk_by (N := s_law_prime_N) (sc := defScope s_law_prime) (by decide +kernel)) (fun _ _ _ _ _ => pg_name (i := 1) sc_law_prime.nd rfl (Or.inl rfl)) (fun _ _ _ _ _ => (pts_one (pt_cmpR op_lt (pv 1) (pv 0) (nomark _)))) (fun _ _ _ _ _ => (pe_cmpR op_eq (pe_op op_mod (pv 0) (pv 1)) pe_int (nomark _)))) pa_nil))))))
      (pss_one (ps_set (i := 0) sc_law_prime.nd rfl (Or.inr rfl) (pe_op op_add (pv 0) pe_int))))
    (pss_one (ps_ret (pv 0)))), ?_⟩
    refine q_while (fun m σ' H' => ∃ (j : Int) (y : Option V), n ≤ j ∧ j ≤ 1301 ∧ m = (1301 - j).toNat ∧ σ' = [some (.int j), y] ∧ Ex H H') _ ⟨n, none, Int.le_refl _, hn, rfl, rfl, Ex.refl H⟩ (fun m σ' H' hW => ?_)
    obtain ⟨j, y, h1, h2, rfl, rfl, e1⟩ := hW
    refine ⟨badB j, et_or (et_test (ev_op (ev_var rfl) ev_c rv_I0)) fun _ => et_val (ev_cbF (ef_l ?_) fun p H2 hp _ => rc_any (sq_of hp)), fun hb H2 e2 => ?_, fun hb H2 e2 => ?_⟩
    · exact el_lcR2b (lo := 2) (hi := 32) (fun i => decide ((2 : Int) + (i : Int) < j)) (fun i => decide (j % ((2 : Int) + (i : Int)) = 0)) (ea_cons ev_c (ea_cons ev_c ea_nil)) (by decide) (fun _ => rfl)
        (fun i H2 e2 hi => et_test (ev_op (ev_var rfl) (ev_var rfl) rv_I0)) (fun i H2 e2 hi _ => ev_op (ev_op (ev_var rfl) (ev_var rfl) (rv_I (show (0 : Int) < 2 + (i : Int) by omega))) ev_c rv_eqi)
    · refine ⟨fun σ2 H3 => σ2 = [some (.int (j + 1)), y] ∧ Ex H H3, fun σ2 H3 hN => ?_, ?_⟩
      · obtain ⟨rfl, e3⟩ := hN
        have hj : j ≠ 1301 := fun z => by
          subst z
          rw [bad_end] at hb
          cases hb
        exact ⟨(1301 - (j + 1)).toNat, by omega, j + 1, y, by omega, by omega, rfl, rfl, e3⟩
      · exact s_asg (ev_op (ev_var rfl) ev_c rv_I0) fun H3 e3 => ⟨rfl, (e1.trans e2).trans e3⟩
    · exact s_ret (ev_var rfl) fun H3 e3 => q j H3 ⟨h1, h2, hb⟩ ((e1.trans e2).trans e3)


theorem D_law_powers : Df P w K mg base CX0 1 "_law_powers" ["_law_prime_here", "_law_often"] spPowers := by
  refine U.d_law_powers.ok sc_law_powers (fun vs H Q E h => ?_) (fun f cdv A outer s H vs Q E hr h => ?_)
  · obtain ⟨p, k, rfl, _⟩ := h
    rfl
  · obtain ⟨p, k, rfl, ⟨hp0, hp1⟩, ⟨hk0, hk1⟩, q⟩ := h
    refine ⟨_, (pss_cons (ps_set (i := 2) sc_law_powers.nd rfl (Or.inl rfl) (pe_lst (pa_cons pe_int pa_nil)))
    (pss_cons (ps_for PassesOwn.never rfl (pi_range1 (by rfl) U.z_range (pa_cons (pv 1) pa_nil)) (pg_name (i := 3) sc_law_powers.nd rfl (Or.inl rfl))
      (pss_one (ps_expr (pe_bm PySem.F.plainAttrs_list PySem.F.slot_list_append PySem.F.type_list_append mt_append (pv 2) (pa_cons (pe_op op_mulX (pe_ix ix_list (pv 2) (pe_un un_neg pe_int) (fun _ _ => rfl)) (pv 0)) pa_nil)))))
    (pss_one (ps_ret (pv 2))))), ?_⟩
    refine q_asgL (el_lst (ea_cons ev_c ea_nil) (by decide)) fun l H1 nl e1 h1 => ?_
    refine q_forR1 (ea_cons (ev_var rfl) ea_nil) (by omega) (fun i σ' H' => ∃ y : Option V, σ' = [some (.int p), some (.int k), some (.ref l), y] ∧ Ex H H' ∧ H' l = some (.lst ((powsV p (i + 1)).map V.int)))
      (fun H2 e2 => ⟨none, rfl, e1.trans e2, ?_⟩) (fun i σ' H' hi hW => ?_) (fun σ' H' hW => ?_)
    · rw [e2 _ _ h1, powsV_succ, Int.pow_zero]
      rfl
    · obtain ⟨y, rfl, e2, h2⟩ := hW
      have hpi := bits_1024 i (pow_pos_i hp0 i) (pow_le_1024 hp0 hp1 i)
      have hat : atI ((powsV p (i + 1)).map V.int) (-1) = some (.int (p ^ i)) := by
        rw [powsV_succ, List.map_append]
        exact atI_last _ _
      refine s_app h2 (ev_var rfl) (ev_op (ev_op (ev_var rfl) (ev_un ev_c ru_neg) (rv_ixL (sq_of h2) hat)) (ev_var rfl) (rv_I (mulx_ok hpi (b := 11) (by omega) (by omega)))) ?_ fun H3 e3 => ⟨some (.int (i : Int)), rfl, Ex.mut (e2.trans e3) nl, ?_⟩
      · rw [List.length_map, powsV_len]
        omega
      · rw [upd_same, powsV_succ p (i + 1), List.map_append, Int.pow_succ]
        rfl
    · obtain ⟨y, rfl, e2, h2⟩ := hW
      exact s_ret (ev_var rfl) fun H4 e4 => q l H4 nl (e2.trans e4) (e4 _ _ h2)


theorem D_law_number : Df P w K mg base CX0 3 "_law_number" ["_law_script", "_law_k", "_law_most"] (spNumber K) := by
  refine U.d_law_number.ok sc_law_number (fun vs H Q E h => ?_) (fun f cdv A outer s H vs Q E hr h => ?_)
  · obtain ⟨a, ns, k, most, rfl, _⟩ := h
    rfl
  · obtain ⟨a, ns, k, most, rfl, hS, hb, hk, hm, q⟩ := h
    refine ⟨_, (pss_cons (ps_set (i := 3) sc_law_number.nd rfl (Or.inl rfl) (pe_callD (D_law_draw U) (hr.mono (by decide)) (by rfl) pass0 (pa_cons (pe_op op_add (pe_op op_mod (pe_callD (D_law_cell_at U) (hr.mono (by decide)) (by rfl) pass0 (pa_cons (pv 0) (pa_cons (pv 1) pa_nil))) (pe_op op_pow pe_int pe_int)) (pe_op op_mulX pe_int (pv 1))) (pa_cons pe_int (pa_cons pe_int pa_nil)))))
    (pss_cons (ps_asg (pe_tup (pa_cons (pe_lst pa_nil) (pa_cons pe_int (pa_cons pe_int (pa_cons pe_int pa_nil))))) (pg_tup (by rfl) (pgs_cons (pg_name (i := 4) sc_law_number.nd rfl (Or.inl rfl)) (pgs_cons (pg_name (i := 5) sc_law_number.nd rfl (Or.inl rfl)) (pgs_cons (pg_name (i := 6) sc_law_number.nd rfl (Or.inl rfl)) (pgs_cons (pg_name (i := 7) sc_law_number.nd rfl (Or.inl rfl)) pgs_nil))))))
    (pss_cons (ps_for PassesOwn.never rfl (pi_range1 (by rfl) U.z_range (pa_cons pe_int pa_nil)) (pg_name (i := 8) sc_law_number.nd rfl (Or.inl rfl))
      (pss_cons (ps_set (i := 9) sc_law_number.nd rfl (Or.inl rfl) (pe_callD (D_law_value U) (hr.mono (by decide)) (by rfl) pass0 (pa_cons (pe_callD (D_law_cell_at U) (hr.mono (by decide)) (by rfl) pass0 (pa_cons (pv 0) (pa_cons (pe_op op_add (pv 1) (pv 8)) pa_nil))) (pa_cons (pe_op op_add (pv 1) (pe_op op_mulX pe_int (pv 8))) (pa_cons pe_int pa_nil)))))
    (pss_cons (ps_set (i := 10) sc_law_number.nd rfl (Or.inl rfl) (pe_callD (D_law_prime U) (hr.mono (by decide)) (by rfl) pass0 (pa_cons (pe_op op_add (pv 7) (pe_op op_mod (pv 9) (pe_ix ix_tup (pe_tup (pa_cons pe_int (pa_cons pe_int (pa_cons pe_int (pa_cons pe_int (pa_cons pe_int (pa_cons pe_int pa_nil))))))) (pv 3) (fun _ _ => rfl)))) pa_nil)))
    (pss_cut (ps_if (PW.pt (pw_and (pt_cmpR op_eq (pv 3) pe_int (nomark _)) (pw_and1 (pt_cmpR op_gt (pv 8) pe_int (nomark _)))))
      (pss_one (ps_set (i := 10) sc_law_number.nd rfl (Or.inl rfl) (pe_callD (D_law_prime U) (hr.mono (by decide)) (by rfl) pass0 (pa_cons (pe_callB (call_max2 rfl) (by rfl) U.z_max (by decide +kernel) (pa_cons (pv 7) (pa_cons (pe_callB (call_min2 rfl) (by rfl) U.z_min (by decide +kernel) (pa_cons (pe_op op_add (pv 6) (pe_op op_mod (pe_op op_fdivW (pv 9) pe_int) pe_int)) (pa_cons pe_int pa_nil))) pa_nil))) pa_nil))))
      pss_nil)
    (pss_cons (ps_set (i := 11) sc_law_number.nd rfl (Or.inl rfl) (pe_op op_add (pe_op op_add pe_int (pe_op op_mod (pe_op op_fdivW (pv 9) pe_int) (pe_ix ix_tup (pe_tup (pa_cons pe_int (pa_cons pe_int (pa_cons pe_int (pa_cons pe_int (pa_cons pe_int (pa_cons pe_int pa_nil))))))) (pv 3) (fun _ _ => rfl)))) (pe_ifExp (PW.pt (pw_and (pt_cmpR op_eq (pv 3) pe_int (nomark _)) (pw_and (pt_cmpR op_eq (pv 8) pe_int (nomark _)) (pw_and1 (pt_cmpR op_eq (pe_op op_mod (pv 9) pe_int) pe_int (nomark _)))))) pe_int pe_int)))
    (pss_one (ps_if (PW.pt (pw_and (pt_cmpR op_lt (pv 10) pe_int (nomark _)) (pw_and (pt_cmpR op_le (pe_op op_mulX (pv 5) (pe_op op_add (pv 11) pe_int)) (pv 2) (nomark _)) (pw_and1 (PW.pt (pw_or (pt_cmpR op_lt (pv 8) pe_int (nomark _)) (pw_or1 (pt_cmpR op_gt (pe_op op_mod (pe_op op_fdivW (pv 9) pe_int) pe_int) pe_int (nomark _)))))))))
      (pss_cons (ps_expr (pe_bm PySem.F.plainAttrs_list PySem.F.slot_list_append PySem.F.type_list_append mt_append (pv 4) (pa_cons (pe_tup (pa_cons (pv 10) (pa_cons (pv 11) pa_nil))) pa_nil)))
    (pss_cons (ps_par (i := 5) (j := 7) (by rfl) sc_law_number.nd rfl rfl (by decide) rfl rfl (pa_cons (pe_op op_mulX (pv 5) (pe_op op_add (pv 11) pe_int)) (pa_cons (pe_op op_add (pv 10) pe_int) pa_nil)) (by rfl))
    (pss_one (ps_set (i := 6) sc_law_number.nd rfl (Or.inl rfl) (pe_op op_mulX (pv 6) (pe_callB (cr_sum rfl) (by rfl) U.z_sum (by decide +kernel) (pa_cons (pe_callD (D_law_powers U) (hr.mono (by decide)) (by rfl) pass0 (pa_cons (pv 10) (pa_cons (pv 11) pa_nil))) pa_nil)))))))
      pss_nil)))))))
    (pss_one (ps_ret (pv 4)))))), ?_⟩
    have p18 : CPow 10 18 := ⟨by decide, by decide, by decide⟩
    have m18 : 0 ≤ cellV ns k % 10 ^ (18 : Int).toNat ∧ cellV ns k % 10 ^ (18 : Int).toNat < 10 ^ 18 := emod_in (by decide) (by decide)
    refine q_asgP (P := fun n => 0 ≤ n ∧ n < 6) (ev_call (ea_cons (ev_op (ev_op (ev_call (ea_cons (ev_var rfl) (ea_cons (ev_var rfl) ea_nil)) (sv_cell hS hk.1)) (ev_op ev_c ev_c (rv_I p18)) (rv_I (show (0 : Int) < 10 ^ (18 : Int).toNat by decide))) (ev_op ev_c (ev_var rfl) (rv_I (mulx_ok (a := 10) (b := 20) (by decide) (by omega) (by decide)))) rv_I0) (ea_cons ev_c (ea_cons ev_c ea_nil)))
      (sv_draw (small_le (2 * 10 ^ 18) (by omega) (by decide) (by decide)) (by decide) (by decide))) (drawV_in (by decide)) fun kd H1 hkd e1 => ?_
    refine q_new4 fun l H2 nl e2 h2 => ?_
    refine q_forR1 (ea_cons ev_c ea_nil) (by decide) (NumInv K H a k most kd l) (fun H3 e3 => ⟨[], [], 1, 2, none, none, none, none, rfl, (e1.trans e2).trans e3, e3 _ _ h2, .nil, rfl, (fun z hz => (by cases hz)), by decide, hm.1, Nat.le_refl _, small_le 1 (by decide) (by decide) (by decide)⟩) (fun i σ' H' hi hW => ?_) (fun σ' H' hW => ?_)
    · obtain ⟨L, xs, wh, le, y8, y9, y10, y11, rfl, e3, h3, hP, hri, hle, hle2, hmo, hlen, hwh⟩ := hW
      have nlH : H l = none := fresh_back e1 nl
      obtain ⟨⟨tA0, tA1⟩, tB0, tB1⟩ := tabs_at hkd
      refine q_asgP (P := fun n => 0 ≤ n ∧ n < 10 ^ 40) (ev_call (ea_cons (ev_call (ea_cons (ev_var rfl) (ea_cons (ev_op (ev_var rfl) (ev_var rfl) rv_I0) ea_nil)) (sv_cell (ex_l e3 hS) (by omega))) (ea_cons (ev_op (ev_var rfl) (ev_op ev_c (ev_var rfl) (rv_I (mulx_ok (a := 10) (b := 10) (by decide) (by omega) (by decide)))) rv_I0) (ea_cons ev_c ea_nil))) (sv_value (cellV_small _ hb) (by omega) (by decide))) (valueV_in (by decide) (by decide)) fun dr H4 hdr e4 => ?_
      have mA := emod_in (x := dr) tA0 tA1
      refine q_asgE (eve_call (ea_cons (ev_op (ev_var rfl) (ev_op (ev_var rfl) (ev_opF1 (ef_u (eu_tup (ea_cons ev_c (ea_cons ev_c (ea_cons ev_c (ea_cons ev_c (ea_cons ev_c (ea_cons ev_c ea_nil)))))) (by decide))) mono_obj (ev_var rfl) (fun p H2 hp _ => rv_ixT (st_of hp) (atI_int (ns := tabA) hkd.1 hkd.2))) (rv_I tA0)) rv_I0) ea_nil) (si_prime (by omega))) fun pr H5 hpr e5 => ?_
      refine q_cut (M := fun σ2 H6 => ∃ pr : Int, σ2 = [some (.ref a), some (.int k), some (.int most), some (.int kd), some (.ref l), some (.int (many L)), some (.int wh), some (.int le), some (.int (i : Int)), some (.int dr), some (.int pr), y11] ∧ Ex H' H6 ∧ le ≤ pr ∧ pr ≤ 1301 ∧ badB pr = false) ?_ ?_
      · refine s_when (et_and (et_test (ev_op (ev_var rfl) ev_c rv_eqi)) fun _ => et_test (ev_op (ev_var rfl) ev_c rv_I0)) (fun _ H6 e6 => ?_) (fun _ H6 e6 => ⟨pr, rfl, (e4.trans e5).trans e6, by omega, hpr.2.1, hpr.2.2⟩)
        have mm : ∀ z : Int, (if (if (990 : Int) < z then 990 else z) > le then (if (990 : Int) < z then 990 else z) else le) ≤ 1301 ∧ le ≤ (if (if (990 : Int) < z then 990 else z) > le then (if (990 : Int) < z then 990 else z) else le) := fun z => by
          split <;> split <;> omega
        refine s_asgE (eve_call (ea_cons (ev_cb (ea_cons (ev_var rfl) (ea_cons (ev_cb (ea_cons (ev_op (ev_var rfl) (ev_op (ev_op (ev_var rfl) ev_c (rv_I (wide_div (b := 10) (by decide) (by decide) (by decide) (by decide)))) ev_c (rv_I (show (0 : Int) < 2 by decide))) rv_I0) (ea_cons ev_c ea_nil)) rc_min2) ea_nil)) rc_max2) ea_nil) (si_prime (mm _).1)) fun pr2 H7 hpr2 e7 => ⟨pr2, rfl, ((e4.trans e5).trans e6).trans e7, ?_, hpr2.2.1, hpr2.2.2⟩
        exact Int.le_trans (mm _).2 hpr2.1
      · rintro σ2 H6 ⟨pr, rfl, e6, hp1, hp2, hp3⟩
        have mB := emod_in (x := dr / 11) tB0 tB1
        refine q_asgP (P := fun n => 1 ≤ n ∧ n ≤ 26) (ev_op (ev_op ev_c (ev_op (ev_op (ev_var rfl) ev_c (rv_I (wide_div (b := 10) (by decide) (by decide) (by decide) (by decide)))) (ev_opF1 (ef_u (eu_tup (ea_cons ev_c (ea_cons ev_c (ea_cons ev_c (ea_cons ev_c (ea_cons ev_c (ea_cons ev_c ea_nil)))))) (by decide))) mono_obj (ev_var rfl) (fun p H2 hp _ => rv_ixT (st_of hp) (atI_int (ns := tabB) hkd.1 hkd.2))) (rv_I tB0)) rv_I0) (ev_twenty (et_and (et_test (ev_op (ev_var rfl) ev_c rv_eqi)) fun _ => et_and (et_test (ev_op (ev_var rfl) ev_c rv_eqi)) fun _ => et_test (ev_op (ev_op (ev_var rfl) ev_c (rv_I (show (0 : Int) < 3 by decide))) ev_c rv_eqi))) rv_I0)
          (by have := twenty_in (decide (kd = 0) && (decide ((i : Int) = 0) && decide (dr % 3 = 0))); omega) fun of H7 hof e7 => ?_
        have hge : ∀ z ∈ L ++ [], 1 ≤ z.2 := fun z hz => (rise_mem hri (by simpa using hz)).2.1
        have hm1 := (many_app L [] hge).1
        refine s_when (et_and (et_test (ev_op (ev_var rfl) ev_c rv_I0)) fun _ => et_and (et_test (ev_op (ev_op (ev_var rfl) (ev_op (ev_var rfl) ev_c rv_I0) (rv_I (mulx_ok (a := 10) (b := 10) (by omega) (by omega) (by decide)))) (ev_var rfl) rv_I0)) fun _ => et_or (et_test (ev_op (ev_var rfl) ev_c rv_I0)) fun _ => et_test (ev_op (ev_op (ev_op (ev_var rfl) ev_c (rv_I (wide_div (b := 10) (by decide) (by decide) (by decide) (by decide)))) ev_c (rv_I (show (0 : Int) < 4 by decide))) ev_c rv_I0)) (fun ht H8 e8 => ?_) (fun _ H8 e8 => ?_)
        · rw [Bool.and_eq_true, Bool.and_eq_true, decide_eq_true_eq, decide_eq_true_eq] at ht
          obtain ⟨t1, t2, _⟩ := ht
          have e38 := (e6.trans e7).trans e8
          refine q_appU (e38 _ _ h3) (ev_var rfl) (eu_tup (ea_cons (ev_var rfl) (ea_cons (ev_var rfl) ea_nil)) (show 2 ≤ 100000 by decide)) (by rw [prs_len hP]; omega) fun t H9 nt e9 h9 => ?_
          have e39 := e38.trans e9
          have hP9 : PrsAt K (upd H9 l (.lst (xs ++ [.ref t]))) (xs ++ [.ref t]) (L ++ [(pr, of)]) := prs_upd (prs_snoc (prs_ex e39 hP) ⟨t, rfl, st_of h9⟩) (e39 _ _ h3)
          refine q_par (ea_cons (ev_op (ev_var rfl) (ev_op (ev_var rfl) ev_c rv_I0) (rv_I (mulx_ok (a := 10) (b := 10) (by omega) (by omega) (by decide)))) (ea_cons (ev_op (ev_var rfl) ev_c rv_I0) ea_nil)) fun H10 e10 => ?_
          refine s_asg (ev_op (ev_var rfl) (ev_cbF (ef_call (ea_cons (ev_var rfl) (ea_cons (ev_var rfl) ea_nil)) (sf_powers (by omega) (by omega))) fun p H hp _ => rc_sum (sq_of hp)) (rv_I (mulx_ok hwh (pows_small (by omega) (by omega) (by omega)) (by omega)))) fun H11 e11 => ?_
          refine ⟨L ++ [(pr, of)], xs ++ [.ref t], wh * (powsV pr (of.toNat + 1)).sum, pr + 1, some (.int (i : Int)), some (.int dr), some (.int pr), some (.int of), ?_, (Ex.mut (e3.trans e39) nlH).trans (e10.trans e11), (e10.trans e11) _ _ upd_same, prs_ex (e10.trans e11) hP9, rise_snoc hri (bad_prime hp3 t1) hof.1 (by omega) (fun z hz => by have := hle z hz; omega), fun z hz => ?_, by omega, ?_, ?_, ?_⟩
          · rw [many_snoc]
            rfl
          · rcases List.mem_append.mp hz with hz | hz
            · have := hle z hz
              omega
            · rw [List.mem_singleton.mp hz]
              show pr < pr + 1
              omega
          · rw [many_snoc]
            exact t2
          · rw [List.length_append]
            exact Nat.succ_le_succ hlen
          · exact (Small.mul hwh (pows_small (by omega) (by omega) (by omega))).mono (by omega)
        · exact ⟨L, xs, wh, le, some (.int (i : Int)), some (.int dr), some (.int pr), some (.int of), rfl, e3.trans ((e6.trans e7).trans e8), ((e6.trans e7).trans e8) _ _ h3, prs_ex ((e6.trans e7).trans e8) hP, hri, hle, hle2, hmo, by omega, hwh.mono (by omega)⟩
    · obtain ⟨L, xs, wh, le, y8, y9, y10, y11, rfl, e3, h3, hP, hri, hle, hle2, hmo, hlen, hwh⟩ := hW
      exact s_ret (ev_var rfl) fun H4 e4 => q l H4 (fresh_back e1 nl) (e3.trans e4) ⟨L, ⟨⟨hri, by omega⟩, hmo⟩, xs, e4 _ _ h3, prs_ex e4 hP⟩


theorem D_law_kinds : DfP P w K mg base 1 "_law_kinds" ["_law_error"] (spKinds K cSum cBadN cBadS cNot cToo) := by
  obtain ⟨f, fd, F, g, b⟩ := U.d_law_kinds
  refine ⟨f, fd, fun_P F sc_law_kinds (fun p vs H Q E h => ?_) (fun p cdv A fr s H vs Q E hot hr h => ?_), g, F.kp, b⟩
  · obtain ⟨C, b, rfl, _⟩ := h
    rfl
  · obtain ⟨C, b, rfl, hz, hf, hk, k⟩ := h
    refine ⟨_, (pss_cons (ps_set (i := 1) sc_law_kinds.nd rfl (Or.inl rfl) (pe_lst (pa_cons (pe_callB (call_isP (K := K) rfl hk.exc hz hf List.mem_cons_self) (by rfl) U.z_isinstance (by decide +kernel) (pa_cons (pv 0) (pa_cons (pe_glob (v := .ref cBadN) (by rfl) U.g_BadNumber rfl) pa_nil))) (pa_cons (pe_callB (call_isP (K := K) rfl hk.exc hz hf List.mem_cons_self) (by rfl) U.z_isinstance (by decide +kernel) (pa_cons (pv 0) (pa_cons (pe_glob (v := .ref cBadS) (by rfl) U.g_BadSum rfl) pa_nil))) (pa_cons (pe_callB (call_isP (K := K) rfl hk.exc hz hf List.mem_cons_self) (by rfl) U.z_isinstance (by decide +kernel) (pa_cons (pv 0) (pa_cons (pe_glob (v := .ref cNot) (by rfl) U.g_NotAll rfl) pa_nil))) pa_nil)))))
    (pss_one (ps_ret (pe_op op_cat (pv 1) (pe_lst (pa_cons (pe_callB (call_isP (K := K) rfl hk.exc hz hf List.mem_cons_self) (by rfl) U.z_isinstance (by decide +kernel) (pa_cons (pv 0) (pa_cons (pe_glob (v := .ref cToo) (by rfl) U.g_TooMany rfl) pa_nil))) (pa_cons (pe_callB (call_isP (K := K) rfl hk.exc hz hf List.mem_cons_self) (by rfl) U.z_isinstance (by decide +kernel) (pa_cons (pv 0) (pa_cons (pe_bltn (v := .ty "ValueError") (by rfl) U.z_ValueError (by decide +kernel) rfl) pa_nil))) pa_nil))))))), ?_⟩
    refine q_asgL (el_lst (ea_cons (ev_cb (ea_cons (ev_var rfl) (ea_cons ev_c ea_nil)) (rc_isE hk.k0)) (ea_cons (ev_cb (ea_cons (ev_var rfl) (ea_cons ev_c ea_nil)) (rc_isE hk.k1)) (ea_cons (ev_cb (ea_cons (ev_var rfl) (ea_cons ev_c ea_nil)) (rc_isE hk.k2)) ea_nil))) (show 3 ≤ 100000 by decide)) fun p1 H1 np1 e1 h1 => ?_
    exact s_retL (el_catV (ev_var rfl) h1 (el_lst (ea_cons (ev_cb (ea_cons (ev_var rfl) (ea_cons ev_c ea_nil)) (rc_isE hk.k3)) (ea_cons (ev_cb (ea_cons (ev_var rfl) (ea_cons ev_c ea_nil)) (rc_isV hk.kv)) ea_nil)) (show 2 ≤ 100000 by decide)) (show 5 ≤ 100000 by decide)) fun q H2 nq e2 h2 => k q H2 (fresh_back e1 nq) (e1.trans e2) h2


theorem D_law_with_number : Df P w K mg base (L2N.CX P w) 8 "_law_with_number" ["_law_door", "_law_number_here"] (spWN K cBadN) := by
  refine U.d_law_with_number.okX sc_law_with_number (fun vs H Q E h => ?_) (fun f cdv A outer s H vs Q E hr h => ?_)
  · obtain ⟨d, v, rfl, _⟩ := h
    rfl
  · obtain ⟨d, v, rfl, hbad, kE⟩ := h
    refine ⟨_, (pss_cons (ps_if (pt_cmpR op_lt (pv 0) pe_int (nomark _))
      (pss_one (ps_ret (pe_ifExp (pt_cmpR op_eq (pv 0) pe_int (nomark _)) (pe_callSD (D_worth U) (hr.mono (by decide)) (by rfl) (fun σ => L2N.passAt (L2N.takes_of rfl rfl rfl rfl) σ) (pa_cons (pv 1) pa_nil)) (pe_ifExp (pt_cmpR op_eq (pv 0) pe_int (nomark _)) (pe_callSD (D_total U) (hr.mono (by decide)) (by rfl) (fun σ => L2N.passAt (L2N.takes_of rfl rfl rfl rfl) σ) (pa_cons (pv 1) pa_nil)) (pe_callSD (D_divisors U) (hr.mono (by decide)) (by rfl) (fun σ => L2N.passAt (L2N.takes_of rfl rfl rfl rfl) σ) (pa_cons (pv 1) pa_nil))))))
      pss_nil)
    (pss_cons (ps_if (pt_cmpR op_lt (pv 0) pe_int (nomark _))
      (pss_one (ps_ret (pe_ifExp (pt_cmpR op_eq (pv 0) pe_int (nomark _)) (pe_callSD (D_told U) (hr.mono (by decide)) (by rfl) (fun σ => L2N.passAt (L2N.takes_of rfl rfl rfl rfl) σ) (pa_cons (pv 1) pa_nil)) (pe_callSD (D_made U) (hr.mono (by decide)) (by rfl) (fun σ => L2N.passAt (L2N.takes_of rfl rfl rfl rfl) σ) (pa_cons (pv 1) (pa_cons (pe_un un_neg pe_int) pa_nil))))))
      pss_nil)
    (pss_one (ps_ret (pe_ifExp (pt_cmpR op_eq (pv 0) pe_int (nomark _)) (pe_callSD (D_joined U) (hr.mono (by decide)) (by rfl) (fun σ => L2N.passAt (L2N.takes_of rfl rfl rfl rfl) σ) (pa_cons (pv 1) (pa_cons (pe_lst (pa_cons (pe_tup (pa_cons pe_int (pa_cons pe_int pa_nil))) pa_nil)) pa_nil))) (pe_callSD (D_joined U) (hr.mono (by decide)) (by rfl) (fun σ => L2N.passAt (L2N.takes_of rfl rfl rfl rfl) σ) (pa_cons (pe_lst (pa_cons (pe_tup (pa_cons pe_int (pa_cons pe_int pa_nil))) pa_nil)) (pa_cons (pv 1) pa_nil)))))))), ?_⟩
    have one : ∀ {sp : Sp} {H1 : Hp}, Ex H H1 → ∀ H2, Ex H1 H2 → ∀ Q' : VK, orBad K cBadN sp [v] H2 Q' E := fun e1 H2 e2 Q' => .inr ⟨v, rfl, hbad.ex (e1.trans e2), fun H3 e3 => kE H3 ((e1.trans e2).trans e3)⟩
    refine q_when (et_test (ev_op (ev_var rfl) ev_c rv_I0)) (fun _ H1 e1 => ?_) (fun _ H1 e1 => ?_)
    · exact s_retR (er_if (et_test (ev_op (ev_var rfl) ev_c rv_eqi)) (fun _ => er_call (ea_cons (ev_var rfl) ea_nil) (one e1)) fun _ => er_if (et_test (ev_op (ev_var rfl) ev_c rv_eqi)) (fun _ => er_call (ea_cons (ev_var rfl) ea_nil) (one e1)) fun _ => er_call (ea_cons (ev_var rfl) ea_nil) (one e1))
    · refine q_when (et_test (ev_op (ev_var rfl) ev_c rv_I0)) (fun _ H2 e2 => ?_) (fun _ H2 e2 => ?_)
      · exact s_retR (er_if (et_test (ev_op (ev_var rfl) ev_c rv_eqi)) (fun _ => er_call (ea_cons (ev_var rfl) ea_nil) (one (e1.trans e2))) fun _ => er_call (ea_cons (ev_var rfl) (ea_cons (ev_un ev_c ru_neg) ea_nil)) fun H3 e3 Q' => .inr (.inl ⟨_, _, rfl, hbad.ex ((e1.trans e2).trans e3), fun H4 e4 => kE H4 (((e1.trans e2).trans e3).trans e4)⟩))
      · refine s_retR (er_if (et_test (ev_op (ev_var rfl) ev_c rv_eqi)) (fun _ => er_callP (eap_v (ev_var rfl) (eap_f (ef_num1 (K := K)) mono_newN eap_nil)) fun vs H3 ⟨r, z1, p, r2, z2, h2, z3⟩ e3 Q' => ?_) fun _ => er_callP (eap_f (ef_num1 (K := K)) mono_newN (eap_v (ev_var rfl) eap_nil)) fun vs H3 ⟨p, r, z1, h1, r2, z2, z3⟩ e3 Q' => ?_)
        · subst z3 z2 z1
          exact .inr ⟨_, _, rfl, .inl (hbad.ex ((e1.trans e2).trans e3)), fun H4 e4 => kE H4 (((e1.trans e2).trans e3).trans e4)⟩
        · subst z3 z2 z1
          exact .inr ⟨_, _, rfl, .inr ⟨_, _, rfl, h1.num, g_499, hbad.ex ((e1.trans e2).trans e3)⟩, fun H4 e4 => kE H4 (((e1.trans e2).trans e3).trans e4)⟩


theorem D_law_with_amount : Df P w K mg base (L2N.CX P w) 8 "_law_with_amount" ["_law_number_here", "_law_amount"] (spWA K cBadS cNot) := by
  refine U.d_law_with_amount.okX sc_law_with_amount (fun vs H Q E h => ?_) (fun f cdv A outer s H vs Q E hr h => ?_)
  · obtain ⟨a, L, x, rfl, _⟩ := h
    rfl
  · obtain ⟨a, L, x, rfl, hN, g, hc⟩ := h
    refine ⟨_, (pss_one (ps_ret (pe_callSD (D_made U) (hr.mono (by decide)) (by rfl) (fun σ => L2N.passAt (L2N.takes_of rfl rfl rfl rfl) σ) (pa_cons (pv 0) (pa_cons (pv 1) pa_nil))))), ?_⟩
    rcases hc with ⟨o, hA, hb, kE⟩ | ⟨i, rfl, hi, hA, kE⟩
    · exact s_retR (er_call (ea_cons (ev_var rfl) (ea_cons (ev_var rfl) ea_nil)) fun H1 e1 Q' => .inr (.inr ⟨a, L, x, o, rfl, hN.ex e1, g, hA.ex e1, hb, fun H2 e2 => kE H2 (e1.trans e2)⟩))
    · exact s_retR (er_call (ea_cons (ev_var rfl) (ea_cons (ev_var rfl) ea_nil)) fun H1 e1 Q' => .inl ⟨a, L, i, rfl, hN.ex e1, g, hi, fun z => (by rw [hA] at z; cases z), fun _ H2 e2 => kE H2 (e1.trans e2)⟩)


theorem heldT : ∀ f sp, ST K mg cBadN cBadS cNot cToo f sp → HeldX P w K mg base 8 f sp := by
  intro f sp h
  rcases h with ⟨hm, rfl⟩ | ⟨hm, rfl⟩ | ⟨hm, rfl⟩
  · obtain ⟨f2, fd, F, g, kp, b⟩ := D_law_with_number U (P := P) (w := w) (base := base)
    rw [g] at hm
    cases hm
    exact ⟨fd, _, F, kp, b⟩
  · obtain ⟨f2, fd, F, g, kp, b⟩ := D_law_with_amount U (P := P) (w := w) (base := base)
    rw [g] at hm
    cases hm
    exact ⟨fd, _, F, kp, b⟩
  · obtain ⟨f2, fd, F, g, kp, b⟩ := D_joined U (P := P) (w := w) (base := base)
    rw [g] at hm
    cases hm
    exact ⟨fd, _, F.mono (by decide), kp, b⟩
theorem D_law_told : Df P w K mg base CX0 9 "_law_told" ["_law_ask", "_law_one", "_law_other"] (spT5 K mg cSum cBadN cBadS cNot cToo) := by
  refine U.d_law_told.ok sc_law_told (fun vs H Q E h => ?_) (fun f cdv A outer s H vs Q E hr h => ?_)
  · obtain ⟨f, x, y, sp, C, b, rfl, _⟩ := h
    rfl
  · obtain ⟨f, x, y, sp, C, b, rfl, hS, hk, hcall, k⟩ := h
    refine ⟨_, (pss_cons (ps_tryD (i := 3) (fun C => ∃ b, ErrK K cSum cBadN cBadS cNot cToo C b) rfl rfl sc_law_told.nd rfl rfl ⟨by rfl, by decide, .inl U.g_SumError⟩ (fun W pn xe tk _ => (pss_one (ps_expr (pe_callAX (i := 0) (heldT U) (hr.mono (by decide)) rfl (Or.inl rfl) (fun σ => L2N.passAt tk σ) (pa_cons (pv 1) (pa_cons (pv 2) pa_nil))))))
      (fun a oe C pn ok hz hf => (pss_one (ps_ret (pe_callPD (sp1 := spK1 K cSum cBadN cBadS cNot cToo a C) (D_law_kinds U) (hr.mono (by decide)) hz hf (by rfl) (fun vs H Q ⟨b, h1, h2, h3⟩ => ⟨C, b, h1, hz.zc, hf, h2, h3⟩) (pa_cons (pv 3) pa_nil))))))
    (pss_one (ps_ret (pe_lst pa_nil)))), ?_⟩
    refine ⟨f, sp, rfl, hS, (ea_cons (ev_var (v := x) rfl) (ea_cons (ev_var (v := y) rfl) ea_nil)) H (Ex.refl H) _ fun H1 e1 => hcall H1 e1 _ _ fun H2 e2 => w_as hk.exm ⟨b, hk⟩ fun c nc => ?_⟩
    exact s_retF (ef_call (ea_cons (ev_var rfl) ea_nil) (P := NewK b) fun H3 e3 Q' q' E' => ⟨b, rfl, hk, q'⟩) fun p H3 np e3 h3 => k p H3 (fresh_back (e1.trans e2) np) ((e1.trans e2).trans e3) h3


theorem D_law_bad_numbers : Df P w K mg base CX0 1 "_law_bad_numbers" ["_law_number_here", "_law_far"] (spBadN K) := by
  refine U.d_law_bad_numbers.ok sc_law_bad_numbers (fun vs H Q E h => ?_) (fun f cdv A outer s H vs Q E hr h => ?_)
  · obtain ⟨a, L, far, rfl, _⟩ := h
    rfl
  · obtain ⟨a, L, far, rfl, hN, g, hfar, k⟩ := h
    refine ⟨_, (pss_cons (ps_set (i := 2) sc_law_bad_numbers.nd rfl (Or.inl rfl) (pe_lst (pa_cons pe_non (pa_cons (pe_tup pa_nil) (pa_cons (pe_tup (pa_cons (pe_tup (pa_cons pe_int (pa_cons pe_int pa_nil))) pa_nil)) (pa_cons pe_str (pa_cons pe_dnewK (pa_cons pe_int (pa_cons (pe_lst (pa_cons pe_non pa_nil)) (pa_cons (pe_lst (pa_cons pe_int pa_nil)) (pa_cons (pe_lst (pa_cons (pe_tup (pa_cons pe_int pa_nil)) pa_nil)) (pa_cons (pe_lst (pa_cons (pe_tup (pa_cons pe_int (pa_cons pe_int (pa_cons pe_int pa_nil)))) pa_nil)) (pa_cons (pe_lst (pa_cons (pe_lst (pa_cons pe_int (pa_cons pe_int pa_nil))) pa_nil)) (pa_cons (pe_lst (pa_cons (pe_tup (pa_cons pe_int (pa_cons pe_int pa_nil))) pa_nil)) (pa_cons (pe_lst (pa_cons (pe_tup (pa_cons pe_int (pa_cons (pe_op op_sub (pe_un un_neg pe_int) (pv 1)) pa_nil))) pa_nil)) pa_nil)))))))))))))))
    (pss_cons (ps_set (i := 2) sc_law_bad_numbers.nd rfl (Or.inl rfl) (pe_op op_cat (pv 2) (pe_lst (pa_cons (pe_lst (pa_cons (pe_tup (pa_cons pe_bl (pa_cons pe_int pa_nil))) pa_nil)) (pa_cons (pe_lst (pa_cons (pe_tup (pa_cons pe_int (pa_cons pe_bl pa_nil))) pa_nil)) (pa_cons (pe_lst (pa_cons (pe_tup (pa_cons pe_int (pa_cons pe_int pa_nil))) pa_nil)) (pa_cons (pe_lst (pa_cons (pe_tup (pa_cons pe_int (pa_cons pe_int pa_nil))) pa_nil)) (pa_cons (pe_lst (pa_cons (pe_tup (pa_cons (pe_un un_neg pe_int) (pa_cons pe_int pa_nil))) pa_nil)) (pa_cons (pe_lst (pa_cons (pe_tup (pa_cons pe_int (pa_cons pe_int pa_nil))) pa_nil)) (pa_cons (pe_lst (pa_cons (pe_tup (pa_cons pe_int (pa_cons pe_int pa_nil))) pa_nil)) (pa_cons (pe_lst (pa_cons (pe_tup (pa_cons pe_str (pa_cons pe_int pa_nil))) pa_nil)) pa_nil)))))))))))
    (pss_cons (ps_set (i := 2) sc_law_bad_numbers.nd rfl (Or.inl rfl) (pe_op op_cat (pv 2) (pe_lst (pa_cons (pe_lst (pa_cons (pe_tup (pa_cons pe_int (pa_cons pe_non pa_nil))) pa_nil)) (pa_cons (pe_lst (pa_cons (pe_tup (pa_cons pe_int (pa_cons pe_int pa_nil))) (pa_cons (pe_tup (pa_cons pe_int (pa_cons pe_int pa_nil))) pa_nil))) (pa_cons (pe_lst (pa_cons (pe_tup (pa_cons pe_int (pa_cons pe_int pa_nil))) (pa_cons (pe_tup (pa_cons pe_int (pa_cons pe_int pa_nil))) pa_nil))) (pa_cons (pe_lst (pa_cons (pe_tup (pa_cons pe_int (pa_cons pe_int pa_nil))) pa_nil)) (pa_cons (pe_lst (pa_cons (pe_tup (pa_cons pe_int (pa_cons pe_int pa_nil))) (pa_cons (pe_tup (pa_cons pe_int (pa_cons pe_int pa_nil))) pa_nil))) (pa_cons (pe_lst (pa_cons (pe_tup (pa_cons pe_int (pa_cons (pe_op op_add pe_int (pv 1)) pa_nil))) pa_nil)) pa_nil)))))))))
    (pss_cons (ps_set (i := 2) sc_law_bad_numbers.nd rfl (Or.inl rfl) (pe_op op_cat (pv 2) (pe_lst (pa_cons (pe_lst (pa_cons (pe_tup (pa_cons pe_int (pa_cons pe_int pa_nil))) pa_nil)) (pa_cons (pe_lst (pa_cons (pe_tup (pa_cons pe_int (pa_cons pe_int pa_nil))) pa_nil)) pa_nil)))))
    (pss_cons (ps_set (i := 3) sc_law_bad_numbers.nd rfl (Or.inl rfl) (pe_op op_mod (pv 1) (pe_op op_add (pe_callB call_len_seq (by rfl) U.z_len (by decide +kernel) (pa_cons (pv 0) pa_nil)) pe_int)))
    (pss_cons (ps_for PassesOwn.never rfl (pi_tup (pe_tup (pa_cons pe_non (pa_cons (pe_tup (pa_cons pe_int (pa_cons pe_int pa_nil))) (pa_cons (pe_tup (pa_cons (pe_op op_add pe_int (pv 1)) (pa_cons pe_int pa_nil))) (pa_cons (pe_tup (pa_cons pe_int (pa_cons pe_int pa_nil))) (pa_cons (pe_tup (pa_cons pe_str (pa_cons pe_int pa_nil))) (pa_cons (pe_lst (pa_cons pe_int (pa_cons pe_int pa_nil))) pa_nil)))))))) (pg_name (i := 4) sc_law_bad_numbers.nd rfl (Or.inl rfl))
      (pss_one (ps_expr (pe_bm PySem.F.plainAttrs_list PySem.F.slot_list_append PySem.F.type_list_append mt_append (pv 2) (pa_cons (pe_op op_cat (pe_op op_cat (pe_slice sl_list (pv 0) po_none (po_some (pv 3))) (pe_lst (pa_cons (pv 4) pa_nil))) (pe_slice sl_list (pv 0) (po_some (pv 3)) po_none)) pa_nil)))))
    (pss_one (ps_ret (pv 2))))))))), ?_⟩
    obtain ⟨xs, hx, hp⟩ := id hN
    have hgl := good_len g
    have hxl := prs_len hp
    refine q_asgF (ef_lstC (K := K) (P := fun v H => Bad K H v) (n := 13) mono_bad (ews_cons mono_bad (bw_c (fun _ => vt_non) (by decide)) (ews_cons mono_bad (bw_tup (eap_a ea_nil) (fun _ _ _ _ h => h) (fun vs _ h => by subst h; decide)) (ews_cons mono_bad (bw_tup (eap_f (ef_u (eu_tup (ea_cons ev_c (ea_cons ev_c ea_nil)) (show 2 ≤ 100000 by decide))) mono_obj eap_nil) (fun vs H1 H2 e ⟨p, r, h1, h2, h3⟩ => ⟨p, r, h1, e _ _ h2, h3⟩) (fun vs H1 ⟨p, r, h1, h2, h3⟩ => by subst h3 h1; show 1 ≤ 100000; decide)) (ews_cons mono_bad (bw_c (fun _ => vt_str) (by decide)) (ews_cons mono_bad bw_dct (ews_cons mono_bad (bw_c (fun _ => vt_int) (by decide)) (ews_cons mono_bad (bw_one (iw_c (fun _ => vt_non) (by decide))) (ews_cons mono_bad (bw_one (iw_c (fun _ => vt_int) (by decide))) (ews_cons mono_bad (bw_one (iw_len (ea_cons ev_c ea_nil) (show 1 ≤ 100000 by decide) (show 1 ≠ 2 by decide))) (ews_cons mono_bad (bw_one (iw_len (ea_cons ev_c (ea_cons ev_c (ea_cons ev_c ea_nil))) (show 3 ≤ 100000 by decide) (show 3 ≠ 2 by decide))) (ews_cons mono_bad (bw_one (iw_lst (ea_cons ev_c (ea_cons ev_c ea_nil)) (show 2 ≤ 100000 by decide))) (ews_cons mono_bad (bw_num (L := [(2, 0)]) ef_num1 (by decide +kernel)) (ews_cons mono_bad (bw_num (ef_num1E ev_c (ev_op (ev_un ev_c ru_neg) (ev_var rfl) rv_I0)) (rise_low (by omega))) ews_nil))))))))))))) (by decide)) fun b1 H1 n1 e1 h1 => ?_
    refine q_asgF (ef_catC (K := K) (P := fun v H => Bad K H v) (m := 8) mono_bad (ev_var rfl) h1 (ef_lstC (K := K) (P := fun v H => Bad K H v) mono_bad (ews_cons mono_bad (bw_one (iw_two ev_c ev_c at_bl (fun _ => .int _) rfl)) (ews_cons mono_bad (bw_one (iw_two ev_c ev_c (fun _ => .int _) at_bl rfl)) (ews_cons mono_bad (bw_num (L := [(1, 1)]) ef_num1 (by decide +kernel)) (ews_cons mono_bad (bw_num (L := [(0, 1)]) ef_num1 (by decide +kernel)) (ews_cons mono_bad (bw_num (L := [(-2, 1)]) (ef_num1E (ev_un ev_c ru_neg) ev_c) (by decide +kernel)) (ews_cons mono_bad (bw_num (L := [(4, 1)]) ef_num1 (by decide +kernel)) (ews_cons mono_bad (bw_num (L := [(1009, 1)]) ef_num1 (by decide +kernel)) (ews_cons mono_bad (bw_one (iw_two ev_c ev_c at_str (fun _ => .int _) rfl)) ews_nil)))))))) (by decide)) (by decide)) fun b2 H2 n2 e2 h2 => ?_
    refine q_asgF (ef_catC (K := K) (P := fun v H => Bad K H v) (m := 6) mono_bad (ev_var rfl) h2 (ef_lstC (K := K) (P := fun v H => Bad K H v) mono_bad (ews_cons mono_bad (bw_one (iw_two ev_c ev_c (fun _ => .int _) at_non rfl)) (ews_cons mono_bad (bw_num (L := [(3, 1), (2, 1)]) ef_num2 (by decide +kernel)) (ews_cons mono_bad (bw_num (L := [(2, 1), (2, 1)]) ef_num2 (by decide +kernel)) (ews_cons mono_bad (bw_many (L := [(2, 500)]) ef_num1 (by decide +kernel) (by decide) (fun q hq => by rw [List.mem_singleton.mp hq]; decide)) (ews_cons mono_bad (bw_many (L := [(2, 99), (3, 5)]) ef_num2 (by decide +kernel) (by decide) (fun q hq => (List.mem_cons.mp hq).elim (fun e => by rw [e]; decide) fun e => by rw [List.mem_singleton.mp e]; decide)) (ews_cons mono_bad (bw_many (ef_num1E ev_c (ev_op ev_c (ev_var rfl) rv_I0)) (rise_500 hfar) (many_500 hfar) (bits_500 hfar)) ews_nil)))))) (by decide)) (by decide)) fun b3 H3 n3 e3 h3 => ?_
    refine q_asgF (ef_catC (K := K) (P := fun v H => Bad K H v) (m := 2) mono_bad (ev_var rfl) h3 (ef_lstC (K := K) (P := fun v H => Bad K H v) mono_bad (ews_cons mono_bad (bw_num (L := [(341, 1)]) ef_num1 (by decide +kernel)) (ews_cons mono_bad (bw_num (L := [(961, 1)]) ef_num1 (by decide +kernel)) ews_nil)) (by decide)) (by decide)) fun l H4 n4 e4 h4 => ?_
    have e13 := (e1.trans e2).trans e3
    have nl : H l = none := fresh_back e13 n4
    have e14 := e13.trans e4
    refine q_asg (ev_op (ev_var rfl) (ev_op (ev_cb (ea_cons (ev_var rfl) ea_nil) (rc_len (ex_l e14 hx))) ev_c rv_I0) (rv_I (show (0 : Int) < (xs.length : Int) + 1 by omega))) fun H5 e5 => ?_
    obtain ⟨zs, hz, hzl, hzs⟩ := id h4
    have h6 := e5 _ _ hz
    refine q_forTF (ef_tupW (P := fun v H => Item K (er l H) v none) mono_itemE (ews_cons mono_itemE (jw_c (fun _ => vt_non) (by decide)) (ews_cons mono_itemE (jw_two ev_c ev_c (fun _ => .int _) (fun _ => .int _) (by decide +kernel) h6) (ews_cons mono_itemE (jw_two (ev_op ev_c (ev_var rfl) rv_I0) ev_c (fun _ => .int _) (fun _ => .int _) (pair_far (by omega)) h6) (ews_cons mono_itemE (jw_two ev_c ev_c (fun _ => .int _) (fun _ => .int _) (by decide +kernel) h6) (ews_cons mono_itemE (jw_two ev_c ev_c at_str (fun _ => .int _) rfl h6) (ews_cons mono_itemE (jw_lst (ea_cons ev_c (ea_cons ev_c ea_nil)) (show 2 ≤ 100000 by decide) h6) ews_nil)))))) (by decide)) fun tp H6 ntp e6 hT => ?_
    obtain ⟨ts, hT, htl, hts⟩ := hT
    have h46 : LstC K 29 (fun v H => Bad K H v) l H6 := ⟨zs, e6 _ _ h6, hzl, fun v hv => (hzs v hv).ex (er_mono (e5.trans e6))⟩
    generalize far % ((xs.length : Int) + 1) = at5
    refine q_forTn ev_c (st_of hT) (fun i σ' H' => ∃ (y4 : Option V), σ' = [some (.ref a), some (.int far), some (.ref l), some (.int at5), y4] ∧ Ex H H' ∧ LstC K (29 + i) (fun v H => Bad K H v) l H' ∧ H' tp = some (.tup ts) ∧ ∀ v ∈ ts, Item K (er l H') v none)
      (fun H7 e7 => ⟨_, rfl, ((e14.trans e5).trans e6).trans e7, (by obtain ⟨zs, a1, a2, a3⟩ := h46; exact ⟨zs, e7 _ _ a1, a2, fun v hv => (a3 v hv).ex (er_mono e7)⟩), e7 _ _ hT, fun v hv => (hts v hv).ex (er_mono e7)⟩) (fun i σ' H' _ hW => ?_) (fun i x σ' H' hi hW => ?_) (fun σ' H' hW => ?_)
    · obtain ⟨_, _, _, _, h9, _⟩ := hW
      exact st_of h9
    · obtain ⟨y4, rfl, e7, h7, h8, h9⟩ := hW
      have hI := h9 x (List.mem_of_getElem? hi)
      obtain ⟨ws, hw, hwl, _⟩ := id h7
      have c1 := cut_le xs none (some at5)
      have c2 := cut_le xs (some at5) none
      have hil : i < 1000 := by
        have := (List.getElem?_eq_some_iff.mp hi).1
        omega
      refine s_appL hw (ev_var rfl) (el_cat (el_cat (el_sl (ev_var rfl) eo_none (eo_some (ev_var rfl)) (ex_l e7 hx)) (el_lst (ea_cons (ev_var rfl) ea_nil) (show 1 ≤ 100000 by decide)) (by show _ + 1 ≤ _; omega)) (el_sl (ev_var rfl) (eo_some (ev_var rfl)) eo_none (ex_l e7 hx)) (by rw [List.length_append]; show _ + 1 + _ ≤ _; omega)) (by omega) fun q H8 nq e8 h10 => ?_
      have hql : q ≠ l := fun z => by rw [z, hw] at nq; cases nq
      have eH := ex_er (e7.trans e8) nl
      have hb : Bad K (er l H8) (.ref q) := by
        have ok : ∀ v ∈ xs, ∃ r, Item K (er l H8) v r := fun v hv => by
          obtain ⟨j, hj, hv7⟩ := List.getElem_of_mem hv
          obtain ⟨z, _, hz⟩ := prs_get hp (show xs[j]? = some v from by rw [← hv7]; exact List.getElem?_eq_getElem hj)
          exact ⟨_, pr_item (hz.ex eH)⟩
        obtain ⟨r1, hr1⟩ := items_of fun v hv => ok v (cut_mem (lo := none) (hi := some at5) hv)
        obtain ⟨r2, hr2⟩ := items_of fun v hv => ok v (cut_mem (lo := some at5) (hi := none) hv)
        exact .rise (sq_of ((er_ne hql).trans h10)) (items_app (items_app hr1 (.cons (hI.ex (er_mono e8)) .nil)) hr2) (by rw [List.append_assoc]; exact rise_none r1 r2 0)
      obtain ⟨us, hu, hul, happ⟩ := lstC_app mono_bad h7 e8 hb
      have eu : ws = us := by
        have z := e8 _ _ hw
        rw [hu] at z
        cases z
        rfl
      rw [eu]
      exact ⟨_, rfl, Ex.mut (e7.trans e8) nl, happ, by rw [upd_ne (ne_of h8 hw (by intro z; cases z))]; exact e8 _ _ h8, fun v hv => (h9 v hv).ex ((er_mono e8).trans er_upd)⟩
    · obtain ⟨y4, rfl, e7, ⟨us, hu, hul, hus⟩, h8, h9⟩ := hW
      exact s_ret (ev_var rfl) fun H8 e8 => k l H8 nl (e7.trans e8) ⟨us, e8 _ _ hu, by omega, fun v hv => (hus v hv).ex (er_ex.trans e8)⟩


theorem ok_law {f : Addr} {fd : FuncData} (F : Fun K "law" "law" s_law f fd) : FnOk P w K mg base CX0 10 f fd ["_law_script"] (spLaw K) := by
  obtain ⟨fN, fdN, FN, gN, bN⟩ := U.d_law_with_number
  obtain ⟨fA, fdA, FA, gA, bA⟩ := U.d_law_with_amount
  obtain ⟨fJ, fdJ, FJ, gJ, bJ⟩ := U.d_joined
  refine F.ok sc_law (fun vs H Q E h => ?_) (fun cdv A outer s H vs Q E hr h => ?_)
  · obtain ⟨a, ns, rfl, _⟩ := h
    rfl
  · obtain ⟨sc, ns, rfl, hS, hlen, hb, q⟩ := h
    refine ⟨_, (pss_cons (ps_asg (pe_tup (pa_cons (pe_callD (D_law_value U) (hr.mono (by decide)) (by rfl) pass0 (pa_cons (pe_callD (D_law_cell_at U) (hr.mono (by decide)) (by rfl) pass0 (pa_cons (pv 0) (pa_cons pe_int pa_nil))) (pa_cons pe_int (pa_cons pe_int pa_nil)))) (pa_cons (pe_lst pa_nil) pa_nil))) (pg_tup (by rfl) (pgs_cons (pg_name (i := 1) sc_law.nd rfl (Or.inl rfl)) (pgs_cons (pg_name (i := 2) sc_law.nd rfl (Or.inr rfl)) pgs_nil))))
    (pss_cons (ps_for PassesOwn.never rfl (pi_range1 (by rfl) U.z_range (pa_cons pe_int pa_nil)) (pg_name (i := 3) sc_law.nd rfl (Or.inl rfl))
      (pss_one (ps_expr (pe_bm PySem.F.plainAttrs_list PySem.F.slot_list_append PySem.F.type_list_append mt_append (pv 2) (pa_cons (pe_lst (pa_cons (pe_cmpR op_eq (pv 3) pe_int (nomark _)) (pa_cons (pe_cmpR op_eq (pv 3) pe_int (nomark _)) (pa_cons (pe_cmpR op_eq (pv 3) pe_int (nomark _)) (pa_cons (pe_cmpR op_eq (pv 3) pe_int (nomark _)) (pa_cons pe_bl pa_nil)))))) pa_nil)))))
    (pss_cons (ps_set (i := 4) sc_law.nd rfl (Or.inr rfl) (pe_callD (D_law_number U) (hr.mono (by decide)) (by rfl) pass0 (pa_cons (pv 0) (pa_cons pe_int (pa_cons pe_int pa_nil)))))
    (pss_cons (ps_set (i := 5) sc_law.nd rfl (Or.inl rfl) (pe_callTy call_list_of (by rfl) U.z_list (by decide +kernel) (pa_cons (pv 4) pa_nil)))
    (pss_cons (ps_set (i := 6) sc_law.nd rfl (Or.inl rfl) (pe_callD (D_law_bad_numbers U) (hr.mono (by decide)) (by rfl) pass0 (pa_cons (pv 4) (pa_cons (pv 1) pa_nil))))
    (pss_cons (ps_for PassesOwn.never rfl (pi_range1 (by rfl) U.z_range (pa_cons pe_int pa_nil)) (pg_name (i := 7) sc_law.nd rfl (Or.inr rfl))
      (pss_one (ps_if (pt_not (pt_val (pe_callB (cr_all rfl) (by rfl) U.z_all (by decide +kernel) (pa_cons (pe_lc (own := [("_law_thing", 13)]) (g := (gName 13)) (tt := tYes) (by rfl) sc_law.nd (pi_list (pv 6)) (blkOk_by (N := s_law_N) (sc := defScope s_law) (by decide +kernel)) (fun _ _ _ _ _ => pg_name (i := 13) sc_law.nd rfl (Or.inl rfl)) (fun _ _ _ _ _ => pts_nil) (fun _ _ _ _ _ => (pe_cmpR (op_eqDK (K := K) rfl hr.units) (pe_callD (D_law_told U) (hr.mono (by decide)) (by rfl) pass0 (pa_cons (pe_glob (v := .ref fN) (by rfl) gN rfl) (pa_cons (pv 7) (pa_cons (pv 13) pa_nil)))) (pe_ix (ix_listK (K := K) rfl) (pv 2) pe_int (fun _ _ => rfl)) (nomark _)))) pa_nil))))
      (pss_one (ps_ret pe_bl))
      pss_nil)))
    (pss_cons (ps_for PassesOwn.never rfl (pi_range2 (by rfl) U.z_range (pa_cons pe_int (pa_cons pe_int pa_nil))) (pg_name (i := 8) sc_law.nd rfl (Or.inr rfl))
      (pss_cons (ps_set (i := 9) sc_law.nd rfl (Or.inl rfl) (pe_callB (cr_any rfl) (by rfl) U.z_any (by decide +kernel) (pa_cons (pe_lc (own := [("_law_part", 12)]) (g := (gName 12)) (by rfl) sc_law.nd (pi_range2 (by rfl) U.z_range (pa_cons pe_int (pa_cons pe_int pa_nil))) (blkOk_by (N := s_law_N) (sc := defScope s_law) (by decide +kernel)) (fun _ _ _ _ _ => pg_name (i := 12) sc_law.nd rfl (Or.inl rfl)) (fun _ _ _ _ _ => (pts_one (pt_cmpR op_lt (pv 12) (pv 8) (nomark _)))) (fun _ _ _ _ _ => (pe_cmpR op_eq (pe_op op_mod (pv 8) (pv 12)) pe_int (nomark _)))) pa_nil)))
    (pss_cons (ps_if (PW.pt (pw_and (pt_val (pv 9)) (pw_and1 (pt_cmpR (op_neD hr.units) (pe_callD (D_law_told U) (hr.mono (by decide)) (by rfl) pass0 (pa_cons (pe_glob (v := .ref fN) (by rfl) gN rfl) (pa_cons (pe_op op_mod (pe_op op_fdivW (pv 8) pe_int) pe_int) (pa_cons (pe_lst (pa_cons (pe_tup (pa_cons (pv 8) (pa_cons pe_int pa_nil))) pa_nil)) pa_nil)))) (pe_ix ix_list (pv 2) pe_int (fun _ _ => rfl)) (nomark _)))))
      (pss_one (ps_ret pe_bl))
      pss_nil)
    (pss_one (ps_if (PW.pt (pw_and (pt_not (pt_val (pv 9))) (pw_and1 (pt_cmpR op_ne (pe_callD (D_worth U) (hr.mono (by decide)) (by rfl) passN (pa_cons (pe_lst (pa_cons (pe_tup (pa_cons (pv 8) (pa_cons pe_int pa_nil))) pa_nil)) pa_nil)) (pv 8) (nomark _)))))
      (pss_one (ps_ret pe_bl))
      pss_nil)))))
    (pss_cons (ps_set (i := 10) sc_law.nd rfl (Or.inl rfl) (pe_callD (D_total U) (hr.mono (by decide)) (by rfl) passN (pa_cons (pv 4) pa_nil)))
    (pss_cons (ps_set (i := 11) sc_law.nd rfl (Or.inl rfl) (pe_lst (pa_cons pe_non (pa_cons pe_str (pa_cons pe_bl (pa_cons pe_bl (pa_cons (pe_lst (pa_cons pe_int pa_nil)) (pa_cons (pe_tup (pa_cons pe_int pa_nil)) (pa_cons pe_dnewK (pa_cons (pe_un un_neg pe_int) (pa_cons (pe_op op_sub (pe_un un_neg pe_int) (pv 1)) (pa_cons (pe_op op_add (pv 10) pe_int) (pa_cons (pe_op op_add (pe_op op_add (pv 10) pe_int) (pv 1)) pa_nil)))))))))))))
    (pss_cons (ps_if (pt_not (pt_val (pe_callB (cr_all rfl) (by rfl) U.z_all (by decide +kernel) (pa_cons (pe_lc (own := [("_law_thing", 13)]) (g := (gName 13)) (tt := tYes) (by rfl) sc_law.nd (pi_list (pv 11)) (blkOk_by (N := s_law_N) (sc := defScope s_law) (by decide +kernel)) (fun _ _ _ _ _ => pg_name (i := 13) sc_law.nd rfl (Or.inl rfl)) (fun _ _ _ _ _ => pts_nil) (fun _ _ _ _ _ => (pe_cmpR (op_eqDK (K := K) rfl hr.units) (pe_callD (D_law_told U) (hr.mono (by decide)) (by rfl) pass0 (pa_cons (pe_glob (v := .ref fA) (by rfl) gA rfl) (pa_cons (pv 4) (pa_cons (pv 13) pa_nil)))) (pe_ix (ix_listK (K := K) rfl) (pv 2) pe_int (fun _ _ => rfl)) (nomark _)))) pa_nil))))
      (pss_one (ps_ret pe_bl))
      pss_nil)
    (pss_cons (ps_if (PW.pt (pw_or (pt_cmpR (op_neD hr.units) (pe_callD (D_law_told U) (hr.mono (by decide)) (by rfl) pass0 (pa_cons (pe_glob (v := .ref fA) (by rfl) gA rfl) (pa_cons (pe_lst (pa_cons (pe_tup (pa_cons pe_int (pa_cons pe_int pa_nil))) pa_nil)) (pa_cons pe_int pa_nil)))) (pe_ix ix_list (pv 2) pe_int (fun _ _ => rfl)) (nomark _)) (pw_or1 (pt_cmpR (op_neD hr.units) (pe_callD (D_law_told U) (hr.mono (by decide)) (by rfl) pass0 (pa_cons (pe_glob (v := .ref fJ) (by rfl) gJ rfl) (pa_cons (pe_lst (pa_cons (pe_tup (pa_cons pe_int (pa_cons pe_int pa_nil))) pa_nil)) (pa_cons (pe_lst (pa_cons (pe_tup (pa_cons pe_int (pa_cons pe_int pa_nil))) pa_nil)) pa_nil)))) (pe_ix ix_list (pv 2) pe_int (fun _ _ => rfl)) (nomark _)))))
      (pss_one (ps_ret pe_bl))
      pss_nil)
    (pss_one (ps_ret (pe_and (pe_cmpR (op_eqD hr.units) (pv 4) (pv 5) (nomark _)) (pe_and (pe_cmpR op_eq (pe_callB call_len_seq (by rfl) U.z_len (by decide +kernel) (pa_cons (pe_callD (D_divisors U) (hr.mono (by decide)) (by rfl) passN (pa_cons (pe_lst (pa_cons (pe_tup (pa_cons pe_int (pa_cons pe_int pa_nil))) pa_nil)) pa_nil)) pa_nil)) pe_int (nomark _)) (pe_one (pe_cmpR op_eq (pe_callD (D_total U) (hr.mono (by decide)) (by rfl) passN (pa_cons (pe_lst (pa_cons (pe_tup (pa_cons pe_int (pa_cons pe_int pa_nil))) pa_nil)) pa_nil)) pe_int (nomark _)))))))))))))))))), ?_⟩
    refine q_tupVF (ev_call (ea_cons (ev_call (ea_cons (ev_var rfl) (ea_cons ev_c ea_nil)) (sv_cell hS (by decide))) (ea_cons ev_c (ea_cons ev_c ea_nil))) (sv_value (cellV_small _ hb) (by decide) (by decide))) (ef_l (el_lst ea_nil (by decide))) mono_obj fun du H1 ndu h1 e1 => ?_
    have hfar := valueV_in (c := cellV ns 0) (k := 3) (m := 900000) (by decide) (by decide)
    generalize valueV (cellV ns 0) 3 900000 = far at hfar
    refine q_forR1 (ea_cons ev_c ea_nil) (by decide) (fun i σ' H' => ∃ (y3 : Option V), σ' = [some (.ref sc), some (.int far), some (.ref du), y3, none, none, none, none, none, none, none, none, none, none] ∧ Ex H H' ∧ DueI i du H') (fun H2 e2 => ⟨none, rfl, e1.trans e2, [], rfl, e2 _ _ h1, fun j r hr => nomatch hr⟩) (fun i σ' H' hi hW => ?_) (fun σ' H' hW => ?_)
    · obtain ⟨y3, rfl, e2, hD⟩ := hW
      obtain ⟨rs, hrl, hx, _⟩ := id hD
      refine s_appL hx (ev_var rfl) (ys := kindV (bkI i)) (el_lst (ea_cons (ev_op (ev_var rfl) ev_c rv_eqi) (ea_cons (ev_op (ev_var rfl) ev_c rv_eqi) (ea_cons (ev_op (ev_var rfl) ev_c rv_eqi) (ea_cons (ev_op (ev_var rfl) ev_c rv_eqi) (ea_cons ev_c ea_nil))))) (show 5 ≤ 100000 by decide)) (by rw [List.length_map]; omega) fun p H3 np e3 h3 => ?_
      have hpd : p ≠ du := fun z => by rw [z, hx] at np; cases np
      obtain ⟨xs, hx2, _, happ⟩ := due_app (due_ex e3 hD) hpd h3
      have ex : rs.map V.ref = xs := by
        have z := e3 _ _ hx
        rw [hx2] at z
        cases z
        rfl
      rw [ex]
      exact ⟨_, rfl, Ex.mut (e2.trans e3) ndu, happ⟩
    · obtain ⟨y3, rfl, e2, hD⟩ := hW
      have hD4 : DueI 4 du H' := hD
      refine q_asgF (ef_call (ea_cons (ev_var rfl) (ea_cons ev_c (ea_cons ev_c ea_nil))) (sf_number (ex_l e2 hS) hb (by decide) (by decide))) fun nm H3 nnm e3 hG => ?_
      obtain ⟨L, gm, hNn⟩ := hG
      have hN := hNn.num
      have g := gm.good
      refine q_asgF (ef_listN rfl (ev_var rfl) hN) fun kp H4 nkp e4 hkp => ?_
      refine q_asgF (ef_call (ea_cons (ev_var rfl) (ea_cons (ev_var rfl) ea_nil)) (sf_badN (hN.ex e4) g hfar)) fun bd H5 nbd e5 hbd => ?_
      obtain ⟨zs, hz, hzl, hzs⟩ := hbd
      have hD5 := due_ex ((e3.trans e4).trans e5) hD4
      refine q_forR1 (ea_cons ev_c ea_nil) (by decide) (fun i σ' H' => ∃ (y3 y7 : Option V), σ' = [some (.ref sc), some (.int far), some (.ref du), y3, some (.ref nm), some (.ref kp), some (.ref bd), y7, none, none, none, none, none, none] ∧ Ex H5 H') (fun H6 e6 => ⟨_, none, rfl, e6⟩) (fun i σ' H' hi hW => ?_) (fun σ' H' hW => ?_)
      · obtain ⟨y3, y7, rfl, e6⟩ := hW
        refine s_skip (et_not (et_val (ev_cbF (ef_l (el_lcA zs id (fun _ => V.bl true) (ev_var rfl) (sq_of (by rw [List.map_id]; exact e6 _ _ hz)) (by omega) (fun _ => rfl) fun v H7 e7 hv => ?_)) fun p H7 hp _ => rc_all (bs := zs.map fun _ => true) (sq_of (by rw [← map_bl]; exact hp))))) (by simp) fun H7 e7 => ⟨_, _, rfl, e6.trans e7⟩
        obtain ⟨xs, r, hx, hat, hr⟩ := due_at (due_ex (e6.trans e7) hD5) (show 0 < 4 by decide)
        exact ev_opF1 (ef_call (ea_cons ev_c (ea_cons (ev_var rfl) (ea_cons (ev_var rfl) ea_nil))) (sf_told5 (.inl ⟨gN, rfl⟩) U.q_BadNumber fun H8 e8 Q' E' hE => ⟨_, _, rfl, (hzs v hv).ex ((e6.trans e7).trans e8), hE⟩)) mono_k (ev_op (ev_var rfl) ev_c (rv_ixL hx hat)) fun p H8 hp e8 => rv_eqK hp (mono_k _ _ _ e8 hr)
      · obtain ⟨y3, y7, rfl, e6⟩ := hW
        refine q_forR2 (ea_cons ev_c (ea_cons ev_c ea_nil)) (by decide) (fun i σ' H' => ∃ (y3 y7 y8 y9 : Option V), σ' = [some (.ref sc), some (.int far), some (.ref du), y3, some (.ref nm), some (.ref kp), some (.ref bd), y7, y8, y9, none, none, none, none] ∧ Ex H5 H') (fun H7 e7 => ⟨_, _, none, none, rfl, e6.trans e7⟩) (fun i σ' H' hi hW => ?_) (fun σ' H' hW => ?_)
        · obtain ⟨y3, y7, y8, y9, rfl, e7⟩ := hW
          have hn1 : (2 : Int) ≤ 2 + (i : Int) := by omega
          have hn2 : (2 : Int) + (i : Int) < 998 := hi
          have hpp := parted_prime _ hn1 hn2
          generalize (2 : Int) + (i : Int) = n at hn1 hn2 hpp
          refine q_asg (v := .bl (partedB n)) (ev_cbF (ef_l (el_lcR2b (lo := 2) (hi := 32) (fun i => decide ((2 : Int) + (i : Int) < n)) (fun i => decide (n % ((2 : Int) + (i : Int)) = 0)) (ea_cons ev_c (ea_cons ev_c ea_nil)) (by decide) (fun _ => rfl) (fun i H2 e2 hi => et_test (ev_op (ev_var rfl) (ev_var rfl) rv_I0)) (fun i H2 e2 hi _ => ev_op (ev_op (ev_var rfl) (ev_var rfl) (rv_I (show (0 : Int) < 2 + (i : Int) by omega))) ev_c rv_eqi))) fun p H2 hp _ => rc_any (sq_of hp)) fun H8 e8 => ?_
          have hD8 := due_ex (e7.trans e8) hD5
          refine q_skip (et_and (b := false) (et_val (ev_var rfl)) fun hp => et_test ?_) (Bool.and_false _) fun H9 e9 => ?_
          · have hbp : primeB n = false := by
              rw [hpp] at hp
              simpa using hp
            obtain ⟨xs, r, hx, hat, hr⟩ := due_at hD8 (show 0 < 4 by decide)
            exact ev_opF1 (ef_callP (PF := NewK (true, false, false, false)) (eap_v ev_c (eap_v (ev_op (ev_op (ev_var rfl) ev_c (rv_I (wide_div (b := 10) (by decide) (by decide) (by decide) (by decide)))) ev_c (rv_I (show (0 : Int) < 7 by decide))) (eap_f (ef_num1E (K := K) (ev_var rfl) ev_c) mono_newN eap_nil))) fun vs H9 ⟨r1, z1, r2, z2, p, r3, z3, hp3, z4⟩ e9 => by
              subst z4 z3 z2 z1
              exact sf_told5 (.inl ⟨gN, rfl⟩) U.q_BadNumber fun H10 e10 Q' E' hE => ⟨_, _, rfl, bad_rise (hp3.num.ex e10) (one_bad hbp), hE⟩) mono_k (ev_op (ev_var rfl) ev_c (rv_ixL hx hat)) fun p H9 hp e9 => rv_neK hp (mono_k _ _ _ e9 hr)
          · refine s_skip (et_and (b := false) (et_not (et_val (ev_var rfl))) fun hp => et_test ?_) (Bool.and_false _) fun H10 e10 => ⟨_, _, _, _, rfl, ((e7.trans e8).trans e9).trans e10⟩
            have hbp : primeB n = true := by
              rw [hpp] at hp
              simpa using hp
            refine ev_is (ev_op (ev_callP (eap_f (ef_num1E (K := K) (ev_var rfl) ev_c) mono_newN eap_nil) fun vs H10 ⟨p, r, z1, h1, z2⟩ e10 => by subst z2 z1; exact sv_or (sv_worth h1.num (one_good hbp))) (ev_var rfl) rv_nei) (by rw [decide_eq_true (one_worth n)]; rfl)
        · obtain ⟨y3, y7, y8, y9, rfl, e7⟩ := hW
          have e57 := (e4.trans e5).trans e7
          have hN7 := hN.ex e57
          have ht := tot_one g
          refine q_asg (ev_call (ea_cons (ev_var rfl) ea_nil) (sv_or (sv_total hN7 g))) fun H8 e8 => ?_
          refine q_asgF (ef_lstW (P := AmB K (tot L)) mono_am (ews_cons mono_am (aw_c (fun _ => vt_non) (by decide)) (ews_cons mono_am (aw_c (fun _ => vt_str) (by decide)) (ews_cons mono_am (aw_c (fun _ => vt_bl) (by decide)) (ews_cons mono_am (aw_c (fun _ => vt_bl) (by decide)) (ews_cons mono_am (aw_l (ea_cons ev_c ea_nil) (show 1 ≤ 100000 by decide)) (ews_cons mono_am (aw_t (ea_cons ev_c ea_nil) (show 1 ≤ 100000 by decide)) (ews_cons mono_am aw_d (ews_cons mono_am (aw_i (ev_un ev_c ru_neg) (by omega)) (ews_cons mono_am (aw_i (ev_op (ev_un ev_c ru_neg) (ev_var rfl) rv_I0) (by omega)) (ews_cons mono_am (aw_i (ev_op (ev_var rfl) ev_c rv_I0) (by omega)) (ews_cons mono_am (aw_i (ev_op (ev_op (ev_var rfl) ev_c rv_I0) (ev_var rfl) rv_I0) (by omega)) ews_nil))))))))))) (by decide)) fun am H9 nam e9 ham => ?_
          obtain ⟨as, has, hal, hav⟩ := ham
          have hD9 := due_ex ((e7.trans e8).trans e9) hD5
          have hN9 := hN7.ex (e8.trans e9)
          refine q_skip (et_not (et_val (ev_cbF (ef_l (el_lcA as id (fun _ => V.bl true) (ev_var rfl) (sq_of (by rw [List.map_id]; exact has)) (by omega) (fun _ => rfl) fun v H10 e10 hv => ?_)) fun p H10 hp _ => rc_all (bs := as.map fun _ => true) (sq_of (by rw [← map_bl]; exact hp))))) (by simp) fun H10 e10 => ?_
          · obtain ⟨xs, r, hx, hat, hr⟩ := due_at (due_ex e10 hD9) (show 1 < 4 by decide)
            obtain ⟨o, ho, hbo⟩ := hav v hv
            exact ev_opF1 (ef_call (ea_cons ev_c (ea_cons (ev_var rfl) (ea_cons (ev_var rfl) ea_nil))) (sf_told5 (.inr (.inl ⟨gA, rfl⟩)) U.q_BadSum fun H11 e11 Q' E' hE => ⟨nm, L, v, rfl, hN9.ex (e10.trans e11), g, .inl ⟨o, ho.ex (e10.trans e11), hbo, hE⟩⟩)) mono_k (ev_op (ev_var rfl) ev_c (rv_ixL hx hat)) fun p H11 hp e11 => rv_eqK hp (mono_k _ _ _ e11 hr)
          · have hD10 := due_ex e10 hD9
            obtain ⟨xs, r2, hx, hat2, hr2⟩ := due_at hD10 (show 2 < 4 by decide)
            obtain ⟨xs3, r3, hx3, hat3, hr3⟩ := due_at hD10 (show 3 < 4 by decide)
            refine q_skip (et_or (et_test (ev_opF1 (ef_callP (PF := NewK (false, false, true, false)) (eap_v ev_c (eap_f (ef_num1 (K := K)) mono_newN (eap_v ev_c eap_nil))) fun vs H11 ⟨r1, z1, p, r, z2, hp, r4, z3, z4⟩ e11 => by
                subst z4 z3 z2 z1
                exact sf_told5 (.inr (.inl ⟨gA, rfl⟩)) U.q_NotAll fun H12 e12 Q' E' hE => ⟨_, _, _, rfl, hp.num.ex e12, g_3, .inr ⟨0, rfl, tot_30, all_3, hE⟩⟩) mono_k (ev_op (ev_var rfl) ev_c (rv_ixL hx hat2)) fun p H11 hp e11 => rv_neK hp (mono_k _ _ _ e11 hr2))) fun _ =>
              et_test (ev_opF1 (ef_callP (PF := NewK (false, false, false, true)) (eap_v ev_c (eap_f (ef_num1 (K := K)) mono_newN (eap_f (ef_num1 (K := K)) mono_newN eap_nil))) fun vs H11 ⟨r1, z1, p, r, z2, hp, p4, r4, z3, hp4, z4⟩ e11 => by
                subst z4 z3 z2 z1
                exact sf_told5 (.inr (.inr ⟨gJ, rfl⟩)) U.q_TooMany fun H12 e12 Q' E' hE => .inl ⟨_, _, _, _, rfl, hp.num.ex e12, hp4.num.ex e12, g_249, g_32, fun z => absurd z j_249, fun _ => hE⟩) mono_k (ev_op (ev_var rfl) ev_c (rv_ixL hx3 hat3)) fun p H11 hp e11 => rv_neK hp (mono_k _ _ _ e11 hr3))) rfl fun H11 e11 => ?_
            have hNf := hN9.ex (e10.trans e11)
            have hkf := hkp.num.ex ((((e5.trans e7).trans e8).trans e9).trans (e10.trans e11))
            exact s_ret (ev_andV (a := true) (b := true) (ev_is (ev_op (ev_var rfl) (ev_var rfl) (rv_eqN hNf hkf)) (by rw [decide_eq_true rfl])) fun _ => ev_andV (a := true) (b := true) (ev_is (ev_op (ev_cbF (ef_callP (PF := fun p H2 => H2 p = some (.lst ((ds [(2, 499)]).map V.int))) (eap_f (ef_num1 (K := K)) mono_newN eap_nil) fun vs H12 ⟨p, r, z1, h1, z2⟩ e12 => by subst z2 z1; exact sf_or (sf_divisors h1.num g_499)) fun p H12 hp _ => rc_len (sq_of hp)) ev_c rv_eqi) (by rw [decide_eq_true len_499])) fun _ =>
              ev_is (ev_op (ev_callP (eap_f (ef_num1 (K := K)) mono_newN eap_nil) fun vs H12 ⟨p, r, z1, h1, z2⟩ e12 => by subst z2 z1; exact sv_or (sv_total h1.num g_997)) ev_c rv_eqi) (by rw [decide_eq_true tot_997])) fun H12 e12 => q H12

end
theorem top_mk {l : PySem.W.OpenLaw} {w : World} {K : PySem.W.Frag} {h : Heap} {mg : Str → Option Value} {fa cSum cBadN cBadS cNot cToo cAns cAll cBar f1 f2 f3 f4 f5 f6 f7 f8 f9 f10 f11 f12 f13 f14 f15 f16 f17 f18 f19 f20 f21 f22 f23 f24 f25 f26 f27 f28 f29 f30 : Addr} {tG tM : Tok} (X : K.In h) (G : h.Ns mainGlobals mg) (hfa : mg "law" = some (.ref fa))
    {od1 an1 : Option Addr} {sl1 : Array (Option Value)} {oc1 kV1 dc1 pm1 cd1 ct1 : Value} {od2 an2 : Option Addr} {sl2 : Array (Option Value)} {oc2 kV2 dc2 pm2 cd2 ct2 : Value} {od3 an3 : Option Addr} {sl3 : Array (Option Value)} {oc3 kV3 dc3 pm3 cd3 ct3 : Value} {od4 an4 : Option Addr} {sl4 : Array (Option Value)} {oc4 kV4 dc4 pm4 cd4 ct4 : Value} {od5 an5 : Option Addr} {sl5 : Array (Option Value)} {oc5 kV5 dc5 pm5 cd5 ct5 : Value} {od6 an6 : Option Addr} {sl6 : Array (Option Value)} {oc6 kV6 dc6 pm6 cd6 ct6 : Value} {od7 an7 : Option Addr} {sl7 : Array (Option Value)} {oc7 kV7 dc7 pm7 cd7 ct7 : Value} {od8 an8 : Option Addr} {sl8 : Array (Option Value)} {oc8 kV8 dc8 pm8 cd8 ct8 : Value} {od9 an9 : Option Addr} {sl9 : Array (Option Value)} {oc9 kV9 dc9 pm9 cd9 ct9 : Value} {od10 an10 : Option Addr} {sl10 : Array (Option Value)} {oc10 kV10 dc10 pm10 cd10 ct10 : Value} {od11 an11 : Option Addr} {sl11 : Array (Option Value)} {oc11 kV11 dc11 pm11 cd11 ct11 : Value} {od12 an12 : Option Addr} {sl12 : Array (Option Value)} {oc12 kV12 dc12 pm12 cd12 ct12 : Value} {od13 an13 : Option Addr} {sl13 : Array (Option Value)} {oc13 kV13 dc13 pm13 cd13 ct13 : Value} {od14 an14 : Option Addr} {sl14 : Array (Option Value)} {oc14 kV14 dc14 pm14 cd14 ct14 : Value} {od15 an15 : Option Addr} {sl15 : Array (Option Value)} {oc15 kV15 dc15 pm15 cd15 ct15 : Value} {od16 an16 : Option Addr} {sl16 : Array (Option Value)} {oc16 kV16 dc16 pm16 cd16 ct16 : Value} {od17 an17 : Option Addr} {sl17 : Array (Option Value)} {oc17 kV17 dc17 pm17 cd17 ct17 : Value} {od18 an18 : Option Addr} {sl18 : Array (Option Value)} {oc18 kV18 dc18 pm18 cd18 ct18 : Value} {od19 an19 : Option Addr} {sl19 : Array (Option Value)} {oc19 kV19 dc19 pm19 cd19 ct19 : Value} {od20 an20 : Option Addr} {sl20 : Array (Option Value)} {oc20 kV20 dc20 pm20 cd20 ct20 : Value} {od21 an21 : Option Addr} {sl21 : Array (Option Value)} {oc21 kV21 dc21 pm21 cd21 ct21 : Value} {od22 an22 : Option Addr} {sl22 : Array (Option Value)} {oc22 kV22 dc22 pm22 cd22 ct22 : Value} {od23 an23 : Option Addr} {sl23 : Array (Option Value)} {oc23 kV23 dc23 pm23 cd23 ct23 : Value} {od24 an24 : Option Addr} {sl24 : Array (Option Value)} {oc24 kV24 dc24 pm24 cd24 ct24 : Value} {od25 an25 : Option Addr} {sl25 : Array (Option Value)} {oc25 kV25 dc25 pm25 cd25 ct25 : Value} {od26 an26 : Option Addr} {sl26 : Array (Option Value)} {oc26 kV26 dc26 pm26 cd26 ct26 : Value} {od27 an27 : Option Addr} {sl27 : Array (Option Value)} {oc27 kV27 dc27 pm27 cd27 ct27 : Value} {od28 an28 : Option Addr} {sl28 : Array (Option Value)} {oc28 kV28 dc28 pm28 cd28 ct28 : Value} {od29 an29 : Option Addr} {sl29 : Array (Option Value)} {oc29 kV29 dc29 pm29 cd29 ct29 : Value} {od30 an30 : Option Addr} {sl30 : Array (Option Value)} {oc30 kV30 dc30 pm30 cd30 ct30 : Value}
    (a1 : PySem.W.nsIn K mainGlobals "is_whole" = some (some (.ref f1)))
    (l1 : K.lookup f1 = some ⟨oc1, od1, .func (PySem.W.fnOf "is_whole" "is_whole" (defArgs (topS 10)) (defBody (topS 10)) (defScope (topS 10)) .none kV1 dc1 pm1 an1 cd1 ct1), sl1⟩)
    (c1 : PySem.W.codeIn K cd1 "is_whole" = true)
    (k1 : PySem.W.keepIn K (.ref f1) = true)
    (a2 : PySem.W.nsIn K mainGlobals "is_prime" = some (some (.ref f2)))
    (l2 : K.lookup f2 = some ⟨oc2, od2, .func (PySem.W.fnOf "is_prime" "is_prime" (defArgs (topS 11)) (defBody (topS 11)) (defScope (topS 11)) .none kV2 dc2 pm2 an2 cd2 ct2), sl2⟩)
    (c2 : PySem.W.codeIn K cd2 "is_prime" = true)
    (k2 : PySem.W.keepIn K (.ref f2) = true)
    (a3 : PySem.W.nsIn K mainGlobals "is_pair" = some (some (.ref f3)))
    (l3 : K.lookup f3 = some ⟨oc3, od3, .func (PySem.W.fnOf "is_pair" "is_pair" (defArgs (topS 12)) (defBody (topS 12)) (defScope (topS 12)) .none kV3 dc3 pm3 an3 cd3 ct3), sl3⟩)
    (c3 : PySem.W.codeIn K cd3 "is_pair" = true)
    (k3 : PySem.W.keepIn K (.ref f3) = true)
    (a4 : PySem.W.nsIn K mainGlobals "are_rising_pairs" = some (some (.ref f4)))
    (l4 : K.lookup f4 = some ⟨oc4, od4, .func (PySem.W.fnOf "are_rising_pairs" "are_rising_pairs" (defArgs (topS 13)) (defBody (topS 13)) (defScope (topS 13)) .none kV4 dc4 pm4 an4 cd4 ct4), sl4⟩)
    (c4 : PySem.W.codeIn K cd4 "are_rising_pairs" = true)
    (k4 : PySem.W.keepIn K (.ref f4) = true)
    (a5 : PySem.W.nsIn K mainGlobals "has_too_many" = some (some (.ref f5)))
    (l5 : K.lookup f5 = some ⟨oc5, od5, .func (PySem.W.fnOf "has_too_many" "has_too_many" (defArgs (topS 14)) (defBody (topS 14)) (defScope (topS 14)) .none kV5 dc5 pm5 an5 cd5 ct5), sl5⟩)
    (c5 : PySem.W.codeIn K cd5 "has_too_many" = true)
    (k5 : PySem.W.keepIn K (.ref f5) = true)
    (a6 : PySem.W.nsIn K mainGlobals "check_number" = some (some (.ref f6)))
    (l6 : K.lookup f6 = some ⟨oc6, od6, .func (PySem.W.fnOf "check_number" "check_number" (defArgs (topS 15)) (defBody (topS 15)) (defScope (topS 15)) .none kV6 dc6 pm6 an6 cd6 ct6), sl6⟩)
    (c6 : PySem.W.codeIn K cd6 "check_number" = true)
    (k6 : PySem.W.keepIn K (.ref f6) = true)
    (a7 : PySem.W.nsIn K mainGlobals "worth" = some (some (.ref f7)))
    (l7 : K.lookup f7 = some ⟨oc7, od7, .func (PySem.W.fnOf "worth" "worth" (defArgs (topS 16)) (defBody (topS 16)) (defScope (topS 16)) .none kV7 dc7 pm7 an7 cd7 ct7), sl7⟩)
    (c7 : PySem.W.codeIn K cd7 "worth" = true)
    (k7 : PySem.W.keepIn K (.ref f7) = true)
    (a8 : PySem.W.nsIn K mainGlobals "with_prime" = some (some (.ref f8)))
    (l8 : K.lookup f8 = some ⟨oc8, od8, .func (PySem.W.fnOf "with_prime" "with_prime" (defArgs (topS 17)) (defBody (topS 17)) (defScope (topS 17)) .none kV8 dc8 pm8 an8 cd8 ct8), sl8⟩)
    (c8 : PySem.W.codeIn K cd8 "with_prime" = true)
    (k8 : PySem.W.keepIn K (.ref f8) = true)
    (a9 : PySem.W.nsIn K mainGlobals "divisors" = some (some (.ref f9)))
    (l9 : K.lookup f9 = some ⟨oc9, od9, .func (PySem.W.fnOf "divisors" "divisors" (defArgs (topS 18)) (defBody (topS 18)) (defScope (topS 18)) .none kV9 dc9 pm9 an9 cd9 ct9), sl9⟩)
    (c9 : PySem.W.codeIn K cd9 "divisors" = true)
    (k9 : PySem.W.keepIn K (.ref f9) = true)
    (a10 : PySem.W.nsIn K mainGlobals "total" = some (some (.ref f10)))
    (l10 : K.lookup f10 = some ⟨oc10, od10, .func (PySem.W.fnOf "total" "total" (defArgs (topS 19)) (defBody (topS 19)) (defScope (topS 19)) .none kV10 dc10 pm10 an10 cd10 ct10), sl10⟩)
    (c10 : PySem.W.codeIn K cd10 "total" = true)
    (k10 : PySem.W.keepIn K (.ref f10) = true)
    (a11 : PySem.W.nsIn K mainGlobals "joined" = some (some (.ref f11)))
    (l11 : K.lookup f11 = some ⟨oc11, od11, .func (PySem.W.fnOf "joined" "joined" (defArgs (topS 20)) (defBody (topS 20)) (defScope (topS 20)) .none kV11 dc11 pm11 an11 cd11 ct11), sl11⟩)
    (c11 : PySem.W.codeIn K cd11 "joined" = true)
    (k11 : PySem.W.keepIn K (.ref f11) = true)
    (a12 : PySem.W.nsIn K mainGlobals "least_unmade" = some (some (.ref f12)))
    (l12 : K.lookup f12 = some ⟨oc12, od12, .func (PySem.W.fnOf "least_unmade" "least_unmade" (defArgs (topS 22)) (defBody (topS 22)) (defScope (topS 22)) .none kV12 dc12 pm12 an12 cd12 ct12), sl12⟩)
    (c12 : PySem.W.codeIn K cd12 "least_unmade" = true)
    (k12 : PySem.W.keepIn K (.ref f12) = true)
    (a13 : PySem.W.nsIn K mainGlobals "told" = some (some (.ref f13)))
    (l13 : K.lookup f13 = some ⟨oc13, od13, .func (PySem.W.fnOf "told" "told" (defArgs (topS 28)) (defBody (topS 28)) (defScope (topS 28)) .none kV13 dc13 pm13 an13 cd13 ct13), sl13⟩)
    (c13 : PySem.W.codeIn K cd13 "told" = true)
    (k13 : PySem.W.keepIn K (.ref f13) = true)
    (a14 : PySem.W.nsIn K mainGlobals "made" = some (some (.ref f14)))
    (l14 : K.lookup f14 = some ⟨oc14, od14, .func (PySem.W.fnOf "made" "made" (defArgs (topS 29)) (defBody (topS 29)) (defScope (topS 29)) .none kV14 dc14 pm14 an14 cd14 ct14), sl14⟩)
    (c14 : PySem.W.codeIn K cd14 "made" = true)
    (k14 : PySem.W.keepIn K (.ref f14) = true)
    (a15 : PySem.W.nsIn K mainGlobals "picked" = some (some (.ref f15)))
    (l15 : K.lookup f15 = some ⟨oc15, od15, .func (PySem.W.fnOf "picked" "picked" (defArgs (topS 30)) (defBody (topS 30)) (defScope (topS 30)) .none kV15 dc15 pm15 an15 cd15 ct15), sl15⟩)
    (c15 : PySem.W.codeIn K cd15 "picked" = true)
    (k15 : PySem.W.keepIn K (.ref f15) = true)
    (a16 : PySem.W.nsIn K mainGlobals "_law_cell_at" = some (some (.ref f16)))
    (l16 : K.lookup f16 = some ⟨oc16, od16, .func (PySem.W.fnOf "_law_cell_at" "_law_cell_at" (defArgs (topS 32)) (defBody (topS 32)) (defScope (topS 32)) .none kV16 dc16 pm16 an16 cd16 ct16), sl16⟩)
    (c16 : PySem.W.codeIn K cd16 "_law_cell_at" = true)
    (k16 : PySem.W.keepIn K (.ref f16) = true)
    (a17 : PySem.W.nsIn K mainGlobals "_law_draw" = some (some (.ref f17)))
    (l17 : K.lookup f17 = some ⟨oc17, od17, .func (PySem.W.fnOf "_law_draw" "_law_draw" (defArgs (topS 33)) (defBody (topS 33)) (defScope (topS 33)) .none kV17 dc17 pm17 an17 cd17 ct17), sl17⟩)
    (c17 : PySem.W.codeIn K cd17 "_law_draw" = true)
    (k17 : PySem.W.keepIn K (.ref f17) = true)
    (a18 : PySem.W.nsIn K mainGlobals "_law_value" = some (some (.ref f18)))
    (l18 : K.lookup f18 = some ⟨oc18, od18, .func (PySem.W.fnOf "_law_value" "_law_value" (defArgs (topS 34)) (defBody (topS 34)) (defScope (topS 34)) .none kV18 dc18 pm18 an18 cd18 ct18), sl18⟩)
    (c18 : PySem.W.codeIn K cd18 "_law_value" = true)
    (k18 : PySem.W.keepIn K (.ref f18) = true)
    (a19 : PySem.W.nsIn K mainGlobals "_law_prime" = some (some (.ref f19)))
    (l19 : K.lookup f19 = some ⟨oc19, od19, .func (PySem.W.fnOf "_law_prime" "_law_prime" (defArgs (topS 35)) (defBody (topS 35)) (defScope (topS 35)) .none kV19 dc19 pm19 an19 cd19 ct19), sl19⟩)
    (c19 : PySem.W.codeIn K cd19 "_law_prime" = true)
    (k19 : PySem.W.keepIn K (.ref f19) = true)
    (a20 : PySem.W.nsIn K mainGlobals "_law_number" = some (some (.ref f20)))
    (l20 : K.lookup f20 = some ⟨oc20, od20, .func (PySem.W.fnOf "_law_number" "_law_number" (defArgs (topS 36)) (defBody (topS 36)) (defScope (topS 36)) .none kV20 dc20 pm20 an20 cd20 ct20), sl20⟩)
    (c20 : PySem.W.codeIn K cd20 "_law_number" = true)
    (k20 : PySem.W.keepIn K (.ref f20) = true)
    (a21 : PySem.W.nsIn K mainGlobals "_law_powers" = some (some (.ref f21)))
    (l21 : K.lookup f21 = some ⟨oc21, od21, .func (PySem.W.fnOf "_law_powers" "_law_powers" (defArgs (topS 37)) (defBody (topS 37)) (defScope (topS 37)) .none kV21 dc21 pm21 an21 cd21 ct21), sl21⟩)
    (c21 : PySem.W.codeIn K cd21 "_law_powers" = true)
    (k21 : PySem.W.keepIn K (.ref f21) = true)
    (a22 : PySem.W.nsIn K mainGlobals "_law_kinds" = some (some (.ref f22)))
    (l22 : K.lookup f22 = some ⟨oc22, od22, .func (PySem.W.fnOf "_law_kinds" "_law_kinds" (defArgs (topS 38)) (defBody (topS 38)) (defScope (topS 38)) .none kV22 dc22 pm22 an22 cd22 ct22), sl22⟩)
    (c22 : PySem.W.codeIn K cd22 "_law_kinds" = true)
    (k22 : PySem.W.keepIn K (.ref f22) = true)
    (a23 : PySem.W.nsIn K mainGlobals "_law_with_number" = some (some (.ref f23)))
    (l23 : K.lookup f23 = some ⟨oc23, od23, .func (PySem.W.fnOf "_law_with_number" "_law_with_number" (defArgs (topS 39)) (defBody (topS 39)) (defScope (topS 39)) .none kV23 dc23 pm23 an23 cd23 ct23), sl23⟩)
    (c23 : PySem.W.codeIn K cd23 "_law_with_number" = true)
    (k23 : PySem.W.keepIn K (.ref f23) = true)
    (a24 : PySem.W.nsIn K mainGlobals "_law_with_amount" = some (some (.ref f24)))
    (l24 : K.lookup f24 = some ⟨oc24, od24, .func (PySem.W.fnOf "_law_with_amount" "_law_with_amount" (defArgs (topS 40)) (defBody (topS 40)) (defScope (topS 40)) .none kV24 dc24 pm24 an24 cd24 ct24), sl24⟩)
    (c24 : PySem.W.codeIn K cd24 "_law_with_amount" = true)
    (k24 : PySem.W.keepIn K (.ref f24) = true)
    (a25 : PySem.W.nsIn K mainGlobals "_law_told" = some (some (.ref f25)))
    (l25 : K.lookup f25 = some ⟨oc25, od25, .func (PySem.W.fnOf "_law_told" "_law_told" (defArgs (topS 41)) (defBody (topS 41)) (defScope (topS 41)) .none kV25 dc25 pm25 an25 cd25 ct25), sl25⟩)
    (c25 : PySem.W.codeIn K cd25 "_law_told" = true)
    (k25 : PySem.W.keepIn K (.ref f25) = true)
    (a26 : PySem.W.nsIn K mainGlobals "_law_bad_numbers" = some (some (.ref f26)))
    (l26 : K.lookup f26 = some ⟨oc26, od26, .func (PySem.W.fnOf "_law_bad_numbers" "_law_bad_numbers" (defArgs (topS 42)) (defBody (topS 42)) (defScope (topS 42)) .none kV26 dc26 pm26 an26 cd26 ct26), sl26⟩)
    (c26 : PySem.W.codeIn K cd26 "_law_bad_numbers" = true)
    (k26 : PySem.W.keepIn K (.ref f26) = true)
    (a27 : PySem.W.nsIn K mainGlobals "law" = some (some (.ref f27)))
    (l27 : K.lookup f27 = some ⟨oc27, od27, .func (PySem.W.fnOf "law" "law" (defArgs (topS 43)) (defBody (topS 43)) (defScope (topS 43)) .none kV27 dc27 pm27 an27 cd27 ct27), sl27⟩)
    (c27 : PySem.W.codeIn K cd27 "law" = true)
    (k27 : PySem.W.keepIn K (.ref f27) = true)
    (z_range : PySem.W.nsIn K mainGlobals "range" = some none)
    (z_len : PySem.W.nsIn K mainGlobals "len" = some none)
    (z_isinstance : PySem.W.nsIn K mainGlobals "isinstance" = some none)
    (z_sum : PySem.W.nsIn K mainGlobals "sum" = some none)
    (z_any : PySem.W.nsIn K mainGlobals "any" = some none)
    (z_all : PySem.W.nsIn K mainGlobals "all" = some none)
    (z_sorted : PySem.W.nsIn K mainGlobals "sorted" = some none)
    (z_min : PySem.W.nsIn K mainGlobals "min" = some none)
    (z_max : PySem.W.nsIn K mainGlobals "max" = some none)
    (z_list : PySem.W.nsIn K mainGlobals "list" = some none)
    (z_tuple : PySem.W.nsIn K mainGlobals "tuple" = some none)
    (z_int : PySem.W.nsIn K mainGlobals "int" = some none)
    (z_bool : PySem.W.nsIn K mainGlobals "bool" = some none)
    (z_reversed : PySem.W.nsIn K mainGlobals "reversed" = some none)
    (z_ValueError : PySem.W.nsIn K mainGlobals "ValueError" = some none)
    (g_GREATEST_PRIME : PySem.W.nsIn K mainGlobals "GREATEST_PRIME" = some (some (.int 997 tG)))
    (g_MOST_DIVISORS : PySem.W.nsIn K mainGlobals "MOST_DIVISORS" = some (some (.int 500 tM)))
    (g_SumError : PySem.W.nsIn K mainGlobals "SumError" = some (some (.ref cSum)))
    (g_BadNumber : PySem.W.nsIn K mainGlobals "BadNumber" = some (some (.ref cBadN)))
    (g_BadSum : PySem.W.nsIn K mainGlobals "BadSum" = some (some (.ref cBadS)))
    (g_NotAll : PySem.W.nsIn K mainGlobals "NotAll" = some (some (.ref cNot)))
    (g_TooMany : PySem.W.nsIn K mainGlobals "TooMany" = some (some (.ref cToo)))
    (g_Answer : PySem.W.nsIn K mainGlobals "Answer" = some (some (.ref cAns)))
    (g_All : PySem.W.nsIn K mainGlobals "All" = some (some (.ref cAll)))
    (g_Barred : PySem.W.nsIn K mainGlobals "Barred" = some (some (.ref cBar)))
    (a28 : PySem.W.findIn K (.ref cAll) "shows" = some (some (.ref f28)))
    (i28 : PySem.W.isFn K (.ref f28) = true)
    (l28 : K.lookup f28 = some ⟨oc28, od28, .func (PySem.W.fnOf "shows" "All.shows" (defArgs (inClass (topS 25) 0)) (defBody (inClass (topS 25) 0)) (defScope (inClass (topS 25) 0)) .none kV28 dc28 pm28 an28 cd28 ct28), sl28⟩)
    (c28 : PySem.W.codeIn K cd28 "All.shows" = true)
    (k28 : PySem.W.keepIn K (.ref f28) = true)
    (a29 : PySem.W.findIn K (.ref cBar) "__init__" = some (some (.ref f29)))
    (i29 : PySem.W.isFn K (.ref f29) = true)
    (l29 : K.lookup f29 = some ⟨oc29, od29, .func (PySem.W.fnOf "__init__" "Barred.__init__" (defArgs (inClass (topS 26) 0)) (defBody (inClass (topS 26) 0)) (defScope (inClass (topS 26) 0)) .none kV29 dc29 pm29 an29 cd29 ct29), sl29⟩)
    (c29 : PySem.W.codeIn K cd29 "Barred.__init__" = true)
    (k29 : PySem.W.keepIn K (.ref f29) = true)
    (mm29 : PySem.W.makesIn K cBar = true)
    (mk29 : PySem.W.keepIn K (.ref cBar) = true)
    (a30 : PySem.W.findIn K (.ref cBar) "shows" = some (some (.ref f30)))
    (i30 : PySem.W.isFn K (.ref f30) = true)
    (l30 : K.lookup f30 = some ⟨oc30, od30, .func (PySem.W.fnOf "shows" "Barred.shows" (defArgs (inClass (topS 26) 1)) (defBody (inClass (topS 26) 1)) (defScope (inClass (topS 26) 1)) .none kV30 dc30 pm30 an30 cd30 ct30), sl30⟩)
    (c30 : PySem.W.codeIn K cd30 "Barred.shows" = true)
    (k30 : PySem.W.keepIn K (.ref f30) = true)
    (pgAll : PySem.W.plainGet K cAll Str.empty = true)
    (hdAll : PySem.W.hasDictIn K cAll = true)
    (poAll : PySem.W.plainOver K cAll = true)
    (saAll : PySem.W.findIn K (.ref cAll) "__setattr__" = some (some (.builtin "object.__setattr__")))
    (pgBarred : PySem.W.plainGet K cBar Str.empty = true)
    (hdBarred : PySem.W.hasDictIn K cBar = true)
    (poBarred : PySem.W.plainOver K cBar = true)
    (saBarred : PySem.W.findIn K (.ref cBar) "__setattr__" = some (some (.builtin "object.__setattr__")))
    (mm0 : PySem.W.makesIn K cAll = true)
    (in0 : PySem.W.findIn K (.ref cAll) "__init__" = some (some (.builtin "object.__init__")))
    (mk0 : PySem.W.keepIn K (.ref cAll) = true)
    (na0 : PySem.W.findIn K (.ref cBar) "amount" = some none)
    (haAll : PySem.W.findIn K (.ref cAll) "__class__" = some (some (.builtin "object.__class__")))
    (hnAll : PySem.W.specialIn K (.builtin "object.__class__") "__get__" = some (some (.builtin "getset_descriptor.__get__")))
    (htAll : PySem.W.takesIn K (.builtin "object.__class__") = some true)
    (hmAll : PySem.W.mroIn K cAll (.type "object") = some true)
    (haBarred : PySem.W.findIn K (.ref cBar) "__class__" = some (some (.builtin "object.__class__")))
    (hnBarred : PySem.W.specialIn K (.builtin "object.__class__") "__get__" = some (some (.builtin "getset_descriptor.__get__")))
    (htBarred : PySem.W.takesIn K (.builtin "object.__class__") = some true)
    (hmBarred : PySem.W.mroIn K cBar (.type "object") = some true)
    (icAll : PySem.W.isClsIn K cAll = true)
    (tyAll : PySem.W.typeIn K (.ref cAll) = some (.type "type"))
    (icBarred : PySem.W.isClsIn K cBar = true)
    (tyBarred : PySem.W.typeIn K (.ref cBar) = some (.type "type"))
    (icAnswer : PySem.W.isClsIn K cAns = true)
    (tyAnswer : PySem.W.typeIn K (.ref cAns) = some (.type "type"))
    (kab : PySem.W.subIn K (.ref cAll) (.ref cBar) = some false)
    (kan : PySem.W.subIn K (.ref cAll) (.ref cAns) = some true)
    (kba : PySem.W.subIn K (.ref cBar) (.ref cAll) = some false)
    (kbn : PySem.W.subIn K (.ref cBar) (.ref cAns) = some true)
    (exBadNumber : PySem.W.excIn K cBadN [.type "ValueError", .type "Exception", .type "BaseException", .type "object"] "ValueError.__new__" = true)
    (ekBadNumber : PySem.W.keepIn K (.ref cBadN) = true)
    (ebBadNumber : PySem.W.subIn K (.ref cBadN) (.type "BaseException") = some true)
    (etBadNumber : PySem.W.typeIn K (.ref cBadN) = some (.type "type"))
    (exBadSum : PySem.W.excIn K cBadS [.type "ValueError", .type "Exception", .type "BaseException", .type "object"] "ValueError.__new__" = true)
    (ekBadSum : PySem.W.keepIn K (.ref cBadS) = true)
    (ebBadSum : PySem.W.subIn K (.ref cBadS) (.type "BaseException") = some true)
    (etBadSum : PySem.W.typeIn K (.ref cBadS) = some (.type "type"))
    (exNotAll : PySem.W.excIn K cNot [.type "ValueError", .type "Exception", .type "BaseException", .type "object"] "ValueError.__new__" = true)
    (ekNotAll : PySem.W.keepIn K (.ref cNot) = true)
    (ebNotAll : PySem.W.subIn K (.ref cNot) (.type "BaseException") = some true)
    (etNotAll : PySem.W.typeIn K (.ref cNot) = some (.type "type"))
    (exTooMany : PySem.W.excIn K cToo [.type "ValueError", .type "Exception", .type "BaseException", .type "object"] "ValueError.__new__" = true)
    (ekTooMany : PySem.W.keepIn K (.ref cToo) = true)
    (ebTooMany : PySem.W.subIn K (.ref cToo) (.type "BaseException") = some true)
    (etTooMany : PySem.W.typeIn K (.ref cToo) = some (.type "type"))
    (xn : PySem.W.specialIn K (.builtin "object.__class__") "__get__" = some (some (.builtin "getset_descriptor.__get__")))
    (xt : PySem.W.takesIn K (.builtin "object.__class__") = some true)
    (xdS : PySem.W.hasDictIn K cSum = true)
    (xbS : PySem.W.subIn K (.ref cSum) (.type "BaseException") = some true)
    (xtS : PySem.W.typeIn K (.ref cSum) = some (.type "type"))
    (xcBadNumber : PySem.W.isClsIn K cBadN = true)
    (xcBadSum : PySem.W.isClsIn K cBadS = true)
    (xcNotAll : PySem.W.isClsIn K cNot = true)
    (xcTooMany : PySem.W.isClsIn K cToo = true)
    (xgBadNumber : PySem.W.findIn K (.ref cBadN) "__getattribute__" = some (some (.builtin "BaseException.__getattribute__")))
    (xkBadNumber : PySem.W.findIn K (.ref cBadN) "__getattr__" = some none)
    (xdBadNumber : PySem.W.hasDictIn K cBadN = true)
    (xaBadNumber : PySem.W.findIn K (.ref cBadN) "__class__" = some (some (.builtin "object.__class__")))
    (xmBadNumber : PySem.W.mroIn K cBadN (.type "object") = some true)
    (xsBadNumber : PySem.W.subIn K (.ref cBadN) (.ref cSum) = some true)
    (xoBadNumber : PySem.W.subIn K (.ref cBadN) (.ref cBadN) = some true)
    (xvBadNumber : PySem.W.subIn K (.ref cBadN) (.type "ValueError") = some true)
    (xzBadNumberBadSum : PySem.W.subIn K (.ref cBadN) (.ref cBadS) = some false)
    (xzBadNumberNotAll : PySem.W.subIn K (.ref cBadN) (.ref cNot) = some false)
    (xzBadNumberTooMany : PySem.W.subIn K (.ref cBadN) (.ref cToo) = some false)
    (xgBadSum : PySem.W.findIn K (.ref cBadS) "__getattribute__" = some (some (.builtin "BaseException.__getattribute__")))
    (xkBadSum : PySem.W.findIn K (.ref cBadS) "__getattr__" = some none)
    (xdBadSum : PySem.W.hasDictIn K cBadS = true)
    (xaBadSum : PySem.W.findIn K (.ref cBadS) "__class__" = some (some (.builtin "object.__class__")))
    (xmBadSum : PySem.W.mroIn K cBadS (.type "object") = some true)
    (xsBadSum : PySem.W.subIn K (.ref cBadS) (.ref cSum) = some true)
    (xoBadSum : PySem.W.subIn K (.ref cBadS) (.ref cBadS) = some true)
    (xvBadSum : PySem.W.subIn K (.ref cBadS) (.type "ValueError") = some true)
    (xzBadSumBadNumber : PySem.W.subIn K (.ref cBadS) (.ref cBadN) = some false)
    (xzBadSumNotAll : PySem.W.subIn K (.ref cBadS) (.ref cNot) = some false)
    (xzBadSumTooMany : PySem.W.subIn K (.ref cBadS) (.ref cToo) = some false)
    (xgNotAll : PySem.W.findIn K (.ref cNot) "__getattribute__" = some (some (.builtin "BaseException.__getattribute__")))
    (xkNotAll : PySem.W.findIn K (.ref cNot) "__getattr__" = some none)
    (xdNotAll : PySem.W.hasDictIn K cNot = true)
    (xaNotAll : PySem.W.findIn K (.ref cNot) "__class__" = some (some (.builtin "object.__class__")))
    (xmNotAll : PySem.W.mroIn K cNot (.type "object") = some true)
    (xsNotAll : PySem.W.subIn K (.ref cNot) (.ref cSum) = some true)
    (xoNotAll : PySem.W.subIn K (.ref cNot) (.ref cNot) = some true)
    (xvNotAll : PySem.W.subIn K (.ref cNot) (.type "ValueError") = some true)
    (xzNotAllBadNumber : PySem.W.subIn K (.ref cNot) (.ref cBadN) = some false)
    (xzNotAllBadSum : PySem.W.subIn K (.ref cNot) (.ref cBadS) = some false)
    (xzNotAllTooMany : PySem.W.subIn K (.ref cNot) (.ref cToo) = some false)
    (xgTooMany : PySem.W.findIn K (.ref cToo) "__getattribute__" = some (some (.builtin "BaseException.__getattribute__")))
    (xkTooMany : PySem.W.findIn K (.ref cToo) "__getattr__" = some none)
    (xdTooMany : PySem.W.hasDictIn K cToo = true)
    (xaTooMany : PySem.W.findIn K (.ref cToo) "__class__" = some (some (.builtin "object.__class__")))
    (xmTooMany : PySem.W.mroIn K cToo (.type "object") = some true)
    (xsTooMany : PySem.W.subIn K (.ref cToo) (.ref cSum) = some true)
    (xoTooMany : PySem.W.subIn K (.ref cToo) (.ref cToo) = some true)
    (xvTooMany : PySem.W.subIn K (.ref cToo) (.type "ValueError") = some true)
    (xzTooManyBadNumber : PySem.W.subIn K (.ref cToo) (.ref cBadN) = some false)
    (xzTooManyBadSum : PySem.W.subIn K (.ref cToo) (.ref cBadS) = some false)
    (xzTooManyNotAll : PySem.W.subIn K (.ref cToo) (.ref cNot) = some false)
    : ∃ fd : FuncData, (∀ (s : Shared) (v : Value), BindsTo s fd ⟨[v], []⟩ [("_law_script", v)]) ∧ ∀ base : Heap, K.In base → base.Ns mainGlobals mg → FnOk l.prog w K mg base CX0 10 fa fd ["_law_script"] (spLaw K) := by
  have e := hfa.symm.trans (PySem.W.mg_of X G a27)
  cases e
  have U : Top K mg cSum cBadN cBadS cNot cToo cAns cAll cBar tG tM := {
    d_is_whole := ⟨_, _, fun_mk l1 c1 k1, PySem.W.mg_of X G a1, (fun_mk l1 c1 k1).binds (fun _ _ _ _ _ _ us hl => match us, hl with | [_], _ => rfl)⟩
    d_is_prime := ⟨_, _, fun_mk l2 c2 k2, PySem.W.mg_of X G a2, (fun_mk l2 c2 k2).binds (fun _ _ _ _ _ _ us hl => match us, hl with | [_], _ => rfl)⟩
    d_is_pair := ⟨_, _, fun_mk l3 c3 k3, PySem.W.mg_of X G a3, (fun_mk l3 c3 k3).binds (fun _ _ _ _ _ _ us hl => match us, hl with | [_], _ => rfl)⟩
    d_are_rising_pairs := ⟨_, _, fun_mk l4 c4 k4, PySem.W.mg_of X G a4, (fun_mk l4 c4 k4).binds (fun _ _ _ _ _ _ us hl => match us, hl with | [_], _ => rfl)⟩
    d_has_too_many := ⟨_, _, fun_mk l5 c5 k5, PySem.W.mg_of X G a5, (fun_mk l5 c5 k5).binds (fun _ _ _ _ _ _ us hl => match us, hl with | [_], _ => rfl)⟩
    d_check_number := ⟨_, _, fun_mk l6 c6 k6, PySem.W.mg_of X G a6, (fun_mk l6 c6 k6).binds (fun _ _ _ _ _ _ us hl => match us, hl with | [_], _ => rfl)⟩
    d_worth := ⟨_, _, fun_mk l7 c7 k7, PySem.W.mg_of X G a7, (fun_mk l7 c7 k7).binds (fun _ _ _ _ _ _ us hl => match us, hl with | [_], _ => rfl)⟩
    d_with_prime := ⟨_, _, fun_mk l8 c8 k8, PySem.W.mg_of X G a8, (fun_mk l8 c8 k8).binds (fun _ _ _ _ _ _ us hl => match us, hl with | [_, _, _], _ => rfl)⟩
    d_divisors := ⟨_, _, fun_mk l9 c9 k9, PySem.W.mg_of X G a9, (fun_mk l9 c9 k9).binds (fun _ _ _ _ _ _ us hl => match us, hl with | [_], _ => rfl)⟩
    d_total := ⟨_, _, fun_mk l10 c10 k10, PySem.W.mg_of X G a10, (fun_mk l10 c10 k10).binds (fun _ _ _ _ _ _ us hl => match us, hl with | [_], _ => rfl)⟩
    d_joined := ⟨_, _, fun_mk l11 c11 k11, PySem.W.mg_of X G a11, (fun_mk l11 c11 k11).binds (fun _ _ _ _ _ _ us hl => match us, hl with | [_, _], _ => rfl)⟩
    d_least_unmade := ⟨_, _, fun_mk l12 c12 k12, PySem.W.mg_of X G a12, (fun_mk l12 c12 k12).binds (fun _ _ _ _ _ _ us hl => match us, hl with | [_], _ => rfl)⟩
    d_told := ⟨_, _, fun_mk l13 c13 k13, PySem.W.mg_of X G a13, (fun_mk l13 c13 k13).binds (fun _ _ _ _ _ _ us hl => match us, hl with | [_], _ => rfl)⟩
    d_made := ⟨_, _, fun_mk l14 c14 k14, PySem.W.mg_of X G a14, (fun_mk l14 c14 k14).binds (fun _ _ _ _ _ _ us hl => match us, hl with | [_, _], _ => rfl)⟩
    d_picked := ⟨_, _, fun_mk l15 c15 k15, PySem.W.mg_of X G a15, (fun_mk l15 c15 k15).binds (fun _ _ _ _ _ _ us hl => match us, hl with | [_, _], _ => rfl)⟩
    d_law_cell_at := ⟨_, _, fun_mk l16 c16 k16, PySem.W.mg_of X G a16, (fun_mk l16 c16 k16).binds (fun _ _ _ _ _ _ us hl => match us, hl with | [_, _], _ => rfl)⟩
    d_law_draw := ⟨_, _, fun_mk l17 c17 k17, PySem.W.mg_of X G a17, (fun_mk l17 c17 k17).binds (fun _ _ _ _ _ _ us hl => match us, hl with | [_, _, _], _ => rfl)⟩
    d_law_value := ⟨_, _, fun_mk l18 c18 k18, PySem.W.mg_of X G a18, (fun_mk l18 c18 k18).binds (fun _ _ _ _ _ _ us hl => match us, hl with | [_, _, _], _ => rfl)⟩
    d_law_prime := ⟨_, _, fun_mk l19 c19 k19, PySem.W.mg_of X G a19, (fun_mk l19 c19 k19).binds (fun _ _ _ _ _ _ us hl => match us, hl with | [_], _ => rfl)⟩
    d_law_number := ⟨_, _, fun_mk l20 c20 k20, PySem.W.mg_of X G a20, (fun_mk l20 c20 k20).binds (fun _ _ _ _ _ _ us hl => match us, hl with | [_, _, _], _ => rfl)⟩
    d_law_powers := ⟨_, _, fun_mk l21 c21 k21, PySem.W.mg_of X G a21, (fun_mk l21 c21 k21).binds (fun _ _ _ _ _ _ us hl => match us, hl with | [_, _], _ => rfl)⟩
    d_law_kinds := ⟨_, _, fun_mk l22 c22 k22, PySem.W.mg_of X G a22, (fun_mk l22 c22 k22).binds (fun _ _ _ _ _ _ us hl => match us, hl with | [_], _ => rfl)⟩
    d_law_with_number := ⟨_, _, fun_mk l23 c23 k23, PySem.W.mg_of X G a23, (fun_mk l23 c23 k23).binds (fun _ _ _ _ _ _ us hl => match us, hl with | [_, _], _ => rfl)⟩
    d_law_with_amount := ⟨_, _, fun_mk l24 c24 k24, PySem.W.mg_of X G a24, (fun_mk l24 c24 k24).binds (fun _ _ _ _ _ _ us hl => match us, hl with | [_, _], _ => rfl)⟩
    d_law_told := ⟨_, _, fun_mk l25 c25 k25, PySem.W.mg_of X G a25, (fun_mk l25 c25 k25).binds (fun _ _ _ _ _ _ us hl => match us, hl with | [_, _, _], _ => rfl)⟩
    d_law_bad_numbers := ⟨_, _, fun_mk l26 c26 k26, PySem.W.mg_of X G a26, (fun_mk l26 c26 k26).binds (fun _ _ _ _ _ _ us hl => match us, hl with | [_, _], _ => rfl)⟩
    d_law := ⟨_, _, fun_mk l27 c27 k27, PySem.W.mg_of X G a27, (fun_mk l27 c27 k27).binds (fun _ _ _ _ _ _ us hl => match us, hl with | [_], _ => rfl)⟩
    z_range := PySem.W.mg_none_of X G z_range
    z_len := PySem.W.mg_none_of X G z_len
    z_isinstance := PySem.W.mg_none_of X G z_isinstance
    z_sum := PySem.W.mg_none_of X G z_sum
    z_any := PySem.W.mg_none_of X G z_any
    z_all := PySem.W.mg_none_of X G z_all
    z_sorted := PySem.W.mg_none_of X G z_sorted
    z_min := PySem.W.mg_none_of X G z_min
    z_max := PySem.W.mg_none_of X G z_max
    z_list := PySem.W.mg_none_of X G z_list
    z_tuple := PySem.W.mg_none_of X G z_tuple
    z_int := PySem.W.mg_none_of X G z_int
    z_bool := PySem.W.mg_none_of X G z_bool
    z_reversed := PySem.W.mg_none_of X G z_reversed
    z_ValueError := PySem.W.mg_none_of X G z_ValueError
    g_GREATEST_PRIME := PySem.W.mg_of X G g_GREATEST_PRIME
    g_MOST_DIVISORS := PySem.W.mg_of X G g_MOST_DIVISORS
    g_SumError := PySem.W.mg_of X G g_SumError
    g_BadNumber := PySem.W.mg_of X G g_BadNumber
    g_BadSum := PySem.W.mg_of X G g_BadSum
    g_NotAll := PySem.W.mg_of X G g_NotAll
    g_TooMany := PySem.W.mg_of X G g_TooMany
    g_Answer := PySem.W.mg_of X G g_Answer
    g_All := PySem.W.mg_of X G g_All
    g_Barred := PySem.W.mg_of X G g_Barred
    m_All_shows := ⟨_, _, fun_mk l28 c28 k28, ⟨a28, i28, k28⟩, (fun_mk l28 c28 k28).binds (fun _ _ _ _ _ _ us hl => match us, hl with | [_, _], _ => rfl)⟩
    k_Barred := ⟨_, _, fun_mk l29 c29 k29, ⟨mm29, a29, i29, mk29⟩, PySem.W.mg_of X G g_Barred, (fun_mk l29 c29 k29).binds (fun _ _ _ _ _ _ us hl => match us, hl with | [_, _], _ => rfl)⟩
    m_Barred_shows := ⟨_, _, fun_mk l30 c30 k30, ⟨a30, i30, k30⟩, (fun_mk l30 c30 k30).binds (fun _ _ _ _ _ _ us hl => match us, hl with | [_, _], _ => rfl)⟩
    clsAll := ⟨pgAll, hdAll, poAll, saAll⟩
    clsBar := ⟨pgBarred, hdBarred, poBarred, saBarred⟩
    mk_All := ⟨mm0, in0, mk0⟩
    n_amount := na0
    ansC := ⟨⟨pgAll, hdAll, poAll, saAll⟩, ⟨pgBarred, hdBarred, poBarred, saBarred⟩, ⟨haAll, hnAll, htAll, hmAll⟩, ⟨haBarred, hnBarred, htBarred, hmBarred⟩, kit_self _, (kit_sub icBarred tyBarred kab (fun e => absurd e (cls_ne in0 a29 rfl))), (kit_sub icAnswer tyAnswer kan (fun _ => rfl)), (kit_sub icAll tyAll kba (fun e => absurd e.symm (cls_ne in0 a29 rfl))), kit_self _, (kit_sub icAnswer tyAnswer kbn (fun _ => rfl))⟩
    e_BadNumber := ⟨exBadNumber, PySem.W.mg_of X G g_BadNumber, ekBadNumber, ebBadNumber, etBadNumber⟩
    e_BadSum := ⟨exBadSum, PySem.W.mg_of X G g_BadSum, ekBadSum, ebBadSum, etBadSum⟩
    e_NotAll := ⟨exNotAll, PySem.W.mg_of X G g_NotAll, ekNotAll, ebNotAll, etNotAll⟩
    e_TooMany := ⟨exTooMany, PySem.W.mg_of X G g_TooMany, ekTooMany, ebTooMany, etTooMany⟩
    q_BadNumber := ⟨⟨xgBadNumber, xkBadNumber, ebBadNumber, xdBadNumber, xaBadNumber, xn, xt, xmBadNumber⟩, PySem.W.exm_ref xbS xdS xtS xsBadNumber, kit_self _, kit_sub xcBadSum etBadSum xzBadNumberBadSum (sub_ne xzBadNumberBadSum xoBadNumber), kit_sub xcNotAll etNotAll xzBadNumberNotAll (sub_ne xzBadNumberNotAll xoBadNumber), kit_sub xcTooMany etTooMany xzBadNumberTooMany (sub_ne xzBadNumberTooMany xoBadNumber), kit_val xvBadNumber⟩
    q_BadSum := ⟨⟨xgBadSum, xkBadSum, ebBadSum, xdBadSum, xaBadSum, xn, xt, xmBadSum⟩, PySem.W.exm_ref xbS xdS xtS xsBadSum, kit_sub xcBadNumber etBadNumber xzBadSumBadNumber (sub_ne xzBadSumBadNumber xoBadSum), kit_self _, kit_sub xcNotAll etNotAll xzBadSumNotAll (sub_ne xzBadSumNotAll xoBadSum), kit_sub xcTooMany etTooMany xzBadSumTooMany (sub_ne xzBadSumTooMany xoBadSum), kit_val xvBadSum⟩
    q_NotAll := ⟨⟨xgNotAll, xkNotAll, ebNotAll, xdNotAll, xaNotAll, xn, xt, xmNotAll⟩, PySem.W.exm_ref xbS xdS xtS xsNotAll, kit_sub xcBadNumber etBadNumber xzNotAllBadNumber (sub_ne xzNotAllBadNumber xoNotAll), kit_sub xcBadSum etBadSum xzNotAllBadSum (sub_ne xzNotAllBadSum xoNotAll), kit_self _, kit_sub xcTooMany etTooMany xzNotAllTooMany (sub_ne xzNotAllTooMany xoNotAll), kit_val xvNotAll⟩
    q_TooMany := ⟨⟨xgTooMany, xkTooMany, ebTooMany, xdTooMany, xaTooMany, xn, xt, xmTooMany⟩, PySem.W.exm_ref xbS xdS xtS xsTooMany, kit_sub xcBadNumber etBadNumber xzTooManyBadNumber (sub_ne xzTooManyBadNumber xoTooMany), kit_sub xcBadSum etBadSum xzTooManyBadSum (sub_ne xzTooManyBadSum xoTooMany), kit_sub xcNotAll etNotAll xzTooManyNotAll (sub_ne xzTooManyNotAll xoTooMany), kit_self _, kit_val xvTooMany⟩
  }
  exact ⟨PySem.W.fnOf "law" "law" (defArgs s_law) (defBody s_law) (defScope s_law) .none kV27 dc27 pm27 an27 cd27 ct27, fun s v => .of_eq rfl, fun base _ _ => ok_law U (fun_mk (st := s_law) l27 c27 k27)⟩
end EsLaw
open PySem PySem.W PyProof.Rows
set_option maxHeartbeats 0 in
theorem PySem.Challenge.cw_everysum_k05_refused_holds : PySem.Challenge.rw_everysum_k05_refused.Holds := by
  w_on; o_law; k_head; (case hw => w_witness2)
  k_fill
  refine L2.walk_ofB (l := PySem.Challenge.rw_everysum_k05_refused) (n := 63) (k := 10) (x := "_law_script") (CX := fun w => L2.CX0) (sp := fun w => Es.spLaw _) rfl (by decide) rfl ⟨rfl, by decide, by decide⟩ (fun w h Y => PySem.W.kIn_of Y) ?F (fun _ _ a ns hl hb _ hS => ⟨a, ns, rfl, hS, hl, fun z hz => Es.small_bits (hb z hz), fun _ => rfl⟩) (fun _ _ _ _ _ h => h)
  case F =>
    intro w mg fa h KX G hmg
    refine' EsLaw.top_mk KX G hmg ?a1 ?l1 ?c1 ?k1 ?a2 ?l2 ?c2 ?k2 ?a3 ?l3 ?c3 ?k3 ?a4 ?l4 ?c4 ?k4 ?a5 ?l5 ?c5 ?k5 ?a6 ?l6 ?c6 ?k6 ?a7 ?l7 ?c7 ?k7 ?a8 ?l8 ?c8 ?k8 ?a9 ?l9 ?c9 ?k9 ?a10 ?l10 ?c10 ?k10 ?a11 ?l11 ?c11 ?k11 ?a12 ?l12 ?c12 ?k12 ?a13 ?l13 ?c13 ?k13 ?a14 ?l14 ?c14 ?k14 ?a15 ?l15 ?c15 ?k15 ?a16 ?l16 ?c16 ?k16 ?a17 ?l17 ?c17 ?k17 ?a18 ?l18 ?c18 ?k18 ?a19 ?l19 ?c19 ?k19 ?a20 ?l20 ?c20 ?k20 ?a21 ?l21 ?c21 ?k21 ?a22 ?l22 ?c22 ?k22 ?a23 ?l23 ?c23 ?k23 ?a24 ?l24 ?c24 ?k24 ?a25 ?l25 ?c25 ?k25 ?a26 ?l26 ?c26 ?k26 ?a27 ?l27 ?c27 ?k27 ?z_range ?z_len ?z_isinstance ?z_sum ?z_any ?z_all ?z_sorted ?z_min ?z_max ?z_list ?z_tuple ?z_int ?z_bool ?z_reversed ?z_ValueError ?g_GREATEST_PRIME ?g_MOST_DIVISORS ?g_SumError ?g_BadNumber ?g_BadSum ?g_NotAll ?g_TooMany ?g_Answer ?g_All ?g_Barred ?a28 ?i28 ?l28 ?c28 ?k28 ?a29 ?i29 ?l29 ?c29 ?k29 ?mm29 ?mk29 ?a30 ?i30 ?l30 ?c30 ?k30 ?pgAll ?hdAll ?poAll ?saAll ?pgBarred ?hdBarred ?poBarred ?saBarred ?mm0 ?in0 ?mk0 ?na0 ?haAll ?hnAll ?htAll ?hmAll ?haBarred ?hnBarred ?htBarred ?hmBarred ?icAll ?tyAll ?icBarred ?tyBarred ?icAnswer ?tyAnswer ?kab ?kan ?kba ?kbn ?exBadNumber ?ekBadNumber ?ebBadNumber ?etBadNumber ?exBadSum ?ekBadSum ?ebBadSum ?etBadSum ?exNotAll ?ekNotAll ?ebNotAll ?etNotAll ?exTooMany ?ekTooMany ?ebTooMany ?etTooMany ?xn ?xt ?xdS ?xbS ?xtS ?xcBadNumber ?xcBadSum ?xcNotAll ?xcTooMany ?xgBadNumber ?xkBadNumber ?xdBadNumber ?xaBadNumber ?xmBadNumber ?xsBadNumber ?xoBadNumber ?xvBadNumber ?xzBadNumberBadSum ?xzBadNumberNotAll ?xzBadNumberTooMany ?xgBadSum ?xkBadSum ?xdBadSum ?xaBadSum ?xmBadSum ?xsBadSum ?xoBadSum ?xvBadSum ?xzBadSumBadNumber ?xzBadSumNotAll ?xzBadSumTooMany ?xgNotAll ?xkNotAll ?xdNotAll ?xaNotAll ?xmNotAll ?xsNotAll ?xoNotAll ?xvNotAll ?xzNotAllBadNumber ?xzNotAllBadSum ?xzNotAllTooMany ?xgTooMany ?xkTooMany ?xdTooMany ?xaTooMany ?xmTooMany ?xsTooMany ?xoTooMany ?xvTooMany ?xzTooManyBadNumber ?xzTooManyBadSum ?xzTooManyNotAll
    (case a1 => k_is)
    (case l1 => k_is)
    (case c1 => k_is)
    (case k1 => k_is)
    (case a2 => k_is)
    (case l2 => k_is)
    (case c2 => k_is)
    (case k2 => k_is)
    (case a3 => k_is)
    (case l3 => k_is)
    (case c3 => k_is)
    (case k3 => k_is)
    (case a4 => k_is)
    (case l4 => k_is)
    (case c4 => k_is)
    (case k4 => k_is)
    (case a5 => k_is)
    (case l5 => k_is)
    (case c5 => k_is)
    (case k5 => k_is)
    (case a6 => k_is)
    (case l6 => k_is)
    (case c6 => k_is)
    (case k6 => k_is)
    (case a7 => k_is)
    (case l7 => k_is)
    (case c7 => k_is)
    (case k7 => k_is)
    (case a8 => k_is)
    (case l8 => k_is)
    (case c8 => k_is)
    (case k8 => k_is)
    (case a9 => k_is)
    (case l9 => k_is)
    (case c9 => k_is)
    (case k9 => k_is)
    (case a10 => k_is)
    (case l10 => k_is)
    (case c10 => k_is)
    (case k10 => k_is)
    (case a11 => k_is)
    (case l11 => k_is)
    (case c11 => k_is)
    (case k11 => k_is)
    (case a12 => k_is)
    (case l12 => k_is)
    (case c12 => k_is)
    (case k12 => k_is)
    (case a13 => k_is)
    (case l13 => k_is)
    (case c13 => k_is)
    (case k13 => k_is)
    (case a14 => k_is)
    (case l14 => k_is)
    (case c14 => k_is)
    (case k14 => k_is)
    (case a15 => k_is)
    (case l15 => k_is)
    (case c15 => k_is)
    (case k15 => k_is)
    (case a16 => k_is)
    (case l16 => k_is)
    (case c16 => k_is)
    (case k16 => k_is)
    (case a17 => k_is)
    (case l17 => k_is)
    (case c17 => k_is)
    (case k17 => k_is)
    (case a18 => k_is)
    (case l18 => k_is)
    (case c18 => k_is)
    (case k18 => k_is)
    (case a19 => k_is)
    (case l19 => k_is)
    (case c19 => k_is)
    (case k19 => k_is)
    (case a20 => k_is)
    (case l20 => k_is)
    (case c20 => k_is)
    (case k20 => k_is)
    (case a21 => k_is)
    (case l21 => k_is)
    (case c21 => k_is)
    (case k21 => k_is)
    (case a22 => k_is)
    (case l22 => k_is)
    (case c22 => k_is)
    (case k22 => k_is)
    (case a23 => k_is)
    (case l23 => k_is)
    (case c23 => k_is)
    (case k23 => k_is)
    (case a24 => k_is)
    (case l24 => k_is)
    (case c24 => k_is)
    (case k24 => k_is)
    (case a25 => k_is)
    (case l25 => k_is)
    (case c25 => k_is)
    (case k25 => k_is)
    (case a26 => k_is)
    (case l26 => k_is)
    (case c26 => k_is)
    (case k26 => k_is)
    (case a27 => k_is)
    (case l27 => k_is)
    (case c27 => k_is)
    (case k27 => k_is)
    (case z_range => k_is)
    (case z_len => k_is)
    (case z_isinstance => k_is)
    (case z_sum => k_is)
    (case z_any => k_is)
    (case z_all => k_is)
    (case z_sorted => k_is)
    (case z_min => k_is)
    (case z_max => k_is)
    (case z_list => k_is)
    (case z_tuple => k_is)
    (case z_int => k_is)
    (case z_bool => k_is)
    (case z_reversed => k_is)
    (case z_ValueError => k_is)
    (case g_GREATEST_PRIME => k_is)
    (case g_MOST_DIVISORS => k_is)
    (case g_SumError => k_is)
    (case g_BadNumber => k_is)
    (case g_BadSum => k_is)
    (case g_NotAll => k_is)
    (case g_TooMany => k_is)
    (case g_Answer => k_is)
    (case g_All => k_is)
    (case g_Barred => k_is)
    (case a28 => k_is)
    (case i28 => k_is)
    (case l28 => k_is)
    (case c28 => k_is)
    (case k28 => k_is)
    (case a29 => k_is)
    (case i29 => k_is)
    (case l29 => k_is)
    (case c29 => k_is)
    (case k29 => k_is)
    (case mm29 => k_is)
    (case mk29 => k_is)
    (case a30 => k_is)
    (case i30 => k_is)
    (case l30 => k_is)
    (case c30 => k_is)
    (case k30 => k_is)
    (case pgAll => k_is)
    (case hdAll => k_is)
    (case poAll => k_is)
    (case saAll => k_is)
    (case pgBarred => k_is)
    (case hdBarred => k_is)
    (case poBarred => k_is)
    (case saBarred => k_is)
    (case mm0 => k_is)
    (case in0 => k_is)
    (case mk0 => k_is)
    (case na0 => k_is)
    (case haAll => k_is)
    (case hnAll => k_is)
    (case htAll => k_is)
    (case hmAll => k_is)
    (case haBarred => k_is)
    (case hnBarred => k_is)
    (case htBarred => k_is)
    (case hmBarred => k_is)
    (case icAll => k_is)
    (case tyAll => k_is)
    (case icBarred => k_is)
    (case tyBarred => k_is)
    (case icAnswer => k_is)
    (case tyAnswer => k_is)
    (case kab => k_is)
    (case kan => k_is)
    (case kba => k_is)
    (case kbn => k_is)
    (case exBadNumber => k_exc)
    (case ekBadNumber => k_is)
    (case ebBadNumber => k_is)
    (case etBadNumber => k_is)
    (case exBadSum => k_exc)
    (case ekBadSum => k_is)
    (case ebBadSum => k_is)
    (case etBadSum => k_is)
    (case exNotAll => k_exc)
    (case ekNotAll => k_is)
    (case ebNotAll => k_is)
    (case etNotAll => k_is)
    (case exTooMany => k_exc)
    (case ekTooMany => k_is)
    (case ebTooMany => k_is)
    (case etTooMany => k_is)
    (case xn => k_is)
    (case xt => k_is)
    (case xdS => k_is)
    (case xbS => k_is)
    (case xtS => k_is)
    (case xcBadNumber => k_is)
    (case xcBadSum => k_is)
    (case xcNotAll => k_is)
    (case xcTooMany => k_is)
    (case xgBadNumber => k_is)
    (case xkBadNumber => k_is)
    (case xdBadNumber => k_is)
    (case xaBadNumber => k_is)
    (case xmBadNumber => k_is)
    (case xsBadNumber => k_is)
    (case xoBadNumber => k_is)
    (case xvBadNumber => k_is)
    (case xzBadNumberBadSum => k_is)
    (case xzBadNumberNotAll => k_is)
    (case xzBadNumberTooMany => k_is)
    (case xgBadSum => k_is)
    (case xkBadSum => k_is)
    (case xdBadSum => k_is)
    (case xaBadSum => k_is)
    (case xmBadSum => k_is)
    (case xsBadSum => k_is)
    (case xoBadSum => k_is)
    (case xvBadSum => k_is)
    (case xzBadSumBadNumber => k_is)
    (case xzBadSumNotAll => k_is)
    (case xzBadSumTooMany => k_is)
    (case xgNotAll => k_is)
    (case xkNotAll => k_is)
    (case xdNotAll => k_is)
    (case xaNotAll => k_is)
    (case xmNotAll => k_is)
    (case xsNotAll => k_is)
    (case xoNotAll => k_is)
    (case xvNotAll => k_is)
    (case xzNotAllBadNumber => k_is)
    (case xzNotAllBadSum => k_is)
    (case xzNotAllTooMany => k_is)
    (case xgTooMany => k_is)
    (case xkTooMany => k_is)
    (case xdTooMany => k_is)
    (case xaTooMany => k_is)
    (case xmTooMany => k_is)
    (case xsTooMany => k_is)
    (case xoTooMany => k_is)
    (case xvTooMany => k_is)
    (case xzTooManyBadNumber => k_is)
    (case xzTooManyBadSum => k_is)
    (case xzTooManyNotAll => k_is)
